/-
  What a board does. Each statement bears its own conditions.
-/
import Derived.Test.YtfmcmhgpgkeplaaBdM
import Derived.Test.YtfmcmhgpgkeplaaIx
import Derived.Test.YtfmcmhgpgkeplaaIvE
namespace Go.Proofs.Ytfmcmhgpgkeplaa.B
open Go.RowKit Go.Proofs.Ytfmcmhgpgkeplaa.F Go.Proofs.Ytfmcmhgpgkeplaa.I
set_option linter.unusedVariables false
set_option linter.unusedSimpArgs false
/-- The cells of a board. -/
theorem BV.four {lo : Nat} {w : World} {p : Nat → Prop} {g : Nat} {n : Int} {sh : Bool} {M L : List Int} (h : BV lo w p g n sh M L) :
    ∃ Am cm Aw cw, w.heap[g]? = some (.cells #[.int .i64 n, .bool sh, .slice Am M.length cm, .slice Aw L.length cw] 68 (0, 0)) ∧ Ow 40 w p (.slice Am M.length cm) M.length (CU M) ∧ Ow 3 w p (.slice Aw L.length cw) L.length (C L) := by
  obtain ⟨vm, vw, a, b, c⟩ := h.ex
  obtain ⟨Am, cm, rfl⟩ := b.sl
  obtain ⟨Aw, cw, rfl⟩ := c.sl
  exact ⟨Am, cm, Aw, cw, a, b, c⟩
set_option maxRecDepth 100000 in
set_option maxHeartbeats 2000000 in
theorem shown_any (lo : Nat) (p : Nat → Prop) (g : Nat) (n : Int) (sh : Bool) (M L : List Int) (w : World) (h : BV lo w p g n sh M L) :
    Calls Try.prog 23 #[.pointer (some ⟨g, 0, none⟩)] w fun e w' => ∃ r, e = .returned (.tuple #[r, .bool sh]) ∧ w'.ownsRow w.heap.size 40 1 r M.length (CU M) ∧ Below w.heap.size w w' := by
  obtain ⟨Am, cm, Aw, cw, a, b, c⟩ := h.four
  have d0 : w.cell? ⟨g, 0, none⟩ = some (.int .i64 n) := by rw [(row_cell a 0).1]; rfl
  have d1 : w.cell? ⟨g, 1, none⟩ = some (.bool sh) := by rw [(row_cell a 1).1]; rfl
  have d2 : w.cell? ⟨g, 2, none⟩ = some (.slice Am M.length cm) := by rw [(row_cell a 2).1]; rfl
  have d3 : w.cell? ⟨g, 3, none⟩ = some (.slice Aw L.length cw) := by rw [(row_cell a 3).1]; rfl
  have CE : Hid (∀ W (hb : Below w.heap.size w W), Calls Try.prog 27 #[.slice Am M.length cm] W fun e w' => (∃ r, e = .returned r ∧ w'.ownsRow W.heap.size 40 1 r M.length (CU M)) ∧ Below W.heap.size W w') := fun W hb => U.uclone_any _ _ _ _ W (b.sq.below hb).st (CU_one _) (by have := h.nl; omega)
  obtain ⟨nm, hnm⟩ : ∃ k, M.length = k := ⟨_, rfl⟩
  obtain ⟨nl, hnl⟩ : ∃ k, L.length = k := ⟨_, rfl⟩
  rw [hnm] at CE d2 ⊢
  clear a b c h hnm hnl d0 d3
  go_enter Try.func23, Try.ntmps23
  go_wp2_with fail
  refine wp_region_held_drew (S := (fun w' => Below w.heap.size w w' ∧ w'.cell? ⟨g, 1, none⟩ = some (.bool sh) ∧ w'.cell? ⟨g, 2, none⟩ = some (.slice Am nm cm))) (by kernel_rfl) ?_ (fun hHeld => ?_)
  · exact ⟨(Below.refl _ _).drew, d1, d2⟩
  refine takeD (i := 0) (d := some 4) (v := ?_) _ rfl rfl (by kernel_rfl) (by kernel_rfl) (by kernel_rfl) (fun _ _ _ h => h) (by rfl) ?_ (by assumption) ?_
  rotate_left
  · (intro w hSw; (try dsimp only at hSw); go_simp) <;> with_reducible rfl
  try simp only [Act.put, List.setIfInBounds_toArray, List.set_cons_zero, List.set_cons_succ]
  refine takeD (i := 1) (d := some 5) (v := ?_) _ rfl rfl (by kernel_rfl) (by kernel_rfl) (by kernel_rfl) (fun _ _ _ h => h) (by rfl) ?_ (by assumption) ?_
  rotate_left
  · (intro w hSw; (try dsimp only at hSw); go_simp) <;> with_reducible rfl
  try simp only [Act.put, List.setIfInBounds_toArray, List.set_cons_zero, List.set_cons_succ]
  refine takeD (i := 2) (d := some 6) (v := ?_) _ rfl rfl (by kernel_rfl) (by kernel_rfl) (by kernel_rfl) (fun _ _ _ h => h) (by rfl) ?_ (by assumption) ?_
  rotate_left
  · (intro w hSw; (try dsimp only at hSw); go_simp) <;> with_reducible rfl
  try simp only [Act.put, List.setIfInBounds_toArray, List.set_cons_zero, List.set_cons_succ]
  refine takeD (i := 3) (d := some 7) (v := ?_) _ rfl rfl (by kernel_rfl) (by kernel_rfl) (by kernel_rfl) (fun _ _ _ h => h) (by rfl) ?_ (by assumption) ?_
  rotate_left
  · (intro w hSw; (try dsimp only at hSw); go_simp) <;> with_reducible rfl
  try simp only [Act.put, List.setIfInBounds_toArray, List.set_cons_zero, List.set_cons_succ]
  refine takeD (i := 5) (d := some 9) (v := ?_) _ rfl rfl (by kernel_rfl) (by kernel_rfl) (by kernel_rfl) (fun _ _ _ h => h) (by rfl) ?_ (by assumption) ?_
  rotate_left
  · (intro w hSw; (try dsimp only at hSw); go_simp) <;> with_reducible rfl
  try simp only [Act.put, List.setIfInBounds_toArray, List.set_cons_zero, List.set_cons_succ]
  refine takeD (i := 6) (d := some 10) (v := ?_) _ rfl rfl (by kernel_rfl) (by kernel_rfl) (by kernel_rfl) (fun _ _ _ h => h) (by rfl) ?_ (by assumption) ?_
  rotate_left
  · (intro w hSw; (try dsimp only at hSw); go_simp) <;> with_reducible rfl
  try simp only [Act.put, List.setIfInBounds_toArray, List.set_cons_zero, List.set_cons_succ]
  refine takeD (i := 7) (d := some 11) (v := ?_) _ rfl rfl (by kernel_rfl) (by kernel_rfl) (by kernel_rfl) (fun _ _ _ h => h) (by rfl) ?_ (by assumption) ?_
  rotate_left
  · (intro w hSw; (try dsimp only at hSw); go_simp) <;> with_reducible rfl
  try simp only [Act.put, List.setIfInBounds_toArray, List.set_cons_zero, List.set_cons_succ]
  refine takeD (i := 8) (d := some 12) (v := ?_) _ rfl rfl (by kernel_rfl) (by kernel_rfl) (by kernel_rfl) (fun _ _ _ h => h) (by rfl) ?_ (by assumption) ?_
  rotate_left
  · (intro w hSw; (try dsimp only at hSw); go_simp) <;> with_reducible rfl
  try simp only [Act.put, List.setIfInBounds_toArray, List.set_cons_zero, List.set_cons_succ]
  refine wpAnyH_ready (rs := [4]) (by kernel_rfl) (by simp) ?_
  refine AllReadyH.cons rfl (fun K hK => ?_) AllReadyH.nil
  try go_simp
  go_at_call 27
  refine (CE.out _ hHeld.1).mono ?_
  rintro e w2 ⟨⟨r, rfl, r1⟩, hb2⟩
  have HB0 := Lib.hid hHeld.1
  have R1 := Lib.hid r1
  have HB2 := Lib.hid hb2
  clear r1
  try go_wp2_with fail
  refine hK.out _ _ ?_ (fun hHeld => ?_)
  · exact ⟨hHeld.1.trans (hb2.mono hHeld.1.size), cell_later hb2 hHeld.2.1, cell_later hb2 hHeld.2.2⟩
  clear hK K
  try simp only [Act.put, List.setIfInBounds_toArray, List.set_cons_zero, List.set_cons_succ]
  refine takeD (i := 9) (d := some 2) (v := ?_) _ rfl rfl (by kernel_rfl) (by kernel_rfl) (by kernel_rfl) (fun _ _ _ h => h) (by rfl) ?_ (by assumption) ?_
  rotate_left
  · (intro w hSw; (try dsimp only at hSw); go_simp) <;> with_reducible rfl
  try simp only [Act.put, List.setIfInBounds_toArray, List.set_cons_zero, List.set_cons_succ]
  refine takeD (i := 10) (d := some 3) (v := ?_) _ rfl rfl (by kernel_rfl) (by kernel_rfl) (by kernel_rfl) (fun _ _ _ h => h) (by rfl) ?_ (by assumption) ?_
  rotate_left
  · (intro w hSw; (try dsimp only at hSw); go_simp) <;> with_reducible rfl
  try simp only [Act.put, List.setIfInBounds_toArray, List.set_cons_zero, List.set_cons_succ]
  refine wpAnyH_done (by kernel_rfl) ?_ _
  have HB3 := Lib.hid hHeld.1
  clear hHeld d1 d2
  go_wp2_with fail
  go_ret2
  have O := R1.out
  have hs := HB0.out.size
  refine ⟨_, rfl, ?_, HB3.out⟩
  exact ⟨O.1, O.2.imp id fun ⟨g, cap, cur, h1, h2, h3⟩ => ⟨g, cap, cur, h1, Nat.le_trans hs h2, h3⟩⟩
theorem waiting_any (lo : Nat) (p : Nat → Prop) (g : Nat) (n : Int) (sh : Bool) (M L : List Int) (w : World) (h : BV lo w p g n sh M L) (hL : L.length ≤ 1000) :
    Calls Try.prog 24 #[.pointer (some ⟨g, 0, none⟩)] w fun e w' => ∃ r, e = .returned r ∧ w'.ownsRow w.heap.size 3 1 r L.length (C L) ∧ Below w.heap.size w w' := by
  obtain ⟨Am, cm, Aw, cw, a, b, c⟩ := h.four
  have d0 : w.cell? ⟨g, 0, none⟩ = some (.int .i64 n) := by rw [(row_cell a 0).1]; rfl
  have d1 : w.cell? ⟨g, 1, none⟩ = some (.bool sh) := by rw [(row_cell a 1).1]; rfl
  have d2 : w.cell? ⟨g, 2, none⟩ = some (.slice Am M.length cm) := by rw [(row_cell a 2).1]; rfl
  have d3 : w.cell? ⟨g, 3, none⟩ = some (.slice Aw L.length cw) := by rw [(row_cell a 3).1]; rfl
  have CE := Lib.hid (I2.iclone_any _ _ _ _ w c.sq.st (C_one _) (by omega))
  obtain ⟨nm, hnm⟩ : ∃ k, M.length = k := ⟨_, rfl⟩
  obtain ⟨nl, hnl⟩ : ∃ k, L.length = k := ⟨_, rfl⟩
  rw [hnl] at CE d3 ⊢
  clear a b c h hnm hnl d0 d1 d2 hL
  go_enter Try.func24, Try.ntmps24
  go_wp2_with fail
  refine CE.out.mono ?_
  rintro e w2 ⟨⟨r, rfl, r1⟩, hb2⟩
  have R1 := Lib.hid r1
  have HB2 := Lib.hid hb2
  clear r1 hb2
  go_wp2_with fail
  go_ret
  exact ⟨_, rfl, R1.out, HB2.out⟩
theorem clear_any (lo : Nat) (p : Nat → Prop) (g : Nat) (n : Int) (sh : Bool) (M L : List Int) (w : World) (h : BV lo w p g n sh M L) :
    Calls Try.prog 17 #[.pointer (some ⟨g, 0, none⟩)] w fun e w' => e = .returned (.tuple #[]) ∧ BV lo w' p g n false [] L ∧ Nx p p w w' := by
  obtain ⟨Am, cm, Aw, cw, a, b, c⟩ := h.four
  have d0 : w.cell? ⟨g, 0, none⟩ = some (.int .i64 n) := by rw [(row_cell a 0).1]; rfl
  have d1 : w.cell? ⟨g, 1, none⟩ = some (.bool sh) := by rw [(row_cell a 1).1]; rfl
  have d2 : w.cell? ⟨g, 2, none⟩ = some (.slice Am M.length cm) := by rw [(row_cell a 2).1]; rfl
  have d3 : w.cell? ⟨g, 3, none⟩ = some (.slice Aw L.length cw) := by rw [(row_cell a 3).1]; rfl
  have f1 : w.frozen? ⟨g, 1, none⟩ = false := (row_cell a 1).2
  have f2 : w.frozen? ⟨g, 2, none⟩ = false := (row_cell a 2).2
  have f3 : w.frozen? ⟨g, 3, none⟩ = false := (row_cell a 3).2
  have Q : Hid (BV lo ((w.setCell ⟨g, 1, none⟩ (.bool false)).setCell ⟨g, 2, none⟩ (.slice none 0 0)) p g n false [] L ∧ Nx p p w ((w.setCell ⟨g, 1, none⟩ (.bool false)).setCell ⟨g, 2, none⟩ (.slice none 0 0))) := by
    have hs := set_at (set_at a 1 (.bool false)) 2 (.slice none 0 0)
    have hf : Fo p w ((w.setCell ⟨g, 1, none⟩ (.bool false)).setCell ⟨g, 2, none⟩ (.slice none 0 0)) := ((Fo.refl p w).setCell (.inl h.pg) 1 _).setCell (.inl h.pg) 2 _
    have c2 := (c.not a ne_ib).keep (w' := ((w.setCell ⟨g, 1, none⟩ (.bool false)).setCell ⟨g, 2, none⟩ (.slice none 0 0))) hf.size fun b _ hb => by rw [set_far _ _ hb.2, set_far _ _ hb.2]
    refine ⟨⟨fun b hb => ⟨(h.low b hb).1, Nat.lt_of_lt_of_le (h.low b hb).2 hf.size⟩, h.pg, ⟨_, _, hs, Ow.nil _ _ _, c2.imp fun b _ hb => hb.2.1⟩, fun _ => rfl, by have := h.nl; simp; omega⟩, hf, fun b hb => .inl hb⟩
  obtain ⟨nm, hnm⟩ : ∃ k, M.length = k := ⟨_, rfl⟩
  obtain ⟨nl, hnl⟩ : ∃ k, L.length = k := ⟨_, rfl⟩
  rw [hnm] at d2
  rw [hnl] at d3
  clear a b c h hnm hnl
  go_enter Try.func17, Try.ntmps17
  go_wp2_with (first | go_end0)
  try go_end0
  first | exact Q.out | exact ⟨rfl, Q.out⟩
set_option maxRecDepth 100000 in
set_option maxHeartbeats 2000000 in
theorem show_big (lo : Nat) (p : Nat → Prop) (g : Nat) (n : Int) (sh : Bool) (M L : List Int) (P : Nat → Prop) (v : Value) (K : List Int) (w : World) (h : BV lo w p g n sh M L) (hv : Sq w P v K.length (CU K)) (hK : ¬ (K.length : Int) ≤ n) :
    Calls Try.prog 14 #[.pointer (some ⟨g, 0, none⟩), v] w fun e w' => e = .returned (.tuple #[.slice none 0 0, .int .i64 2]) ∧ w' = w := by
  obtain ⟨Am, cm, Aw, cw, a, b, c⟩ := h.four
  have d0 : w.cell? ⟨g, 0, none⟩ = some (.int .i64 n) := by rw [(row_cell a 0).1]; rfl
  have d1 : w.cell? ⟨g, 1, none⟩ = some (.bool sh) := by rw [(row_cell a 1).1]; rfl
  have d2 : w.cell? ⟨g, 2, none⟩ = some (.slice Am M.length cm) := by rw [(row_cell a 2).1]; rfl
  have d3 : w.cell? ⟨g, 3, none⟩ = some (.slice Aw L.length cw) := by rw [(row_cell a 3).1]; rfl
  obtain ⟨Ak, ck, rfl⟩ := hv.form
  obtain ⟨nk, hnk⟩ : ∃ k, K.length = k := ⟨_, rfl⟩
  rw [hnk] at hK ⊢
  have hgt : n < (nk : Int) := by omega
  have hgt' : decide (n < (nk : Int)) = true := by simpa using hgt
  clear a b c h hv hnk hK d1 d2 d3
  go_enter Try.func14, Try.ntmps14
  go_wp2_with fail
  go_ret2
  exact ⟨rfl, rfl⟩
set_option maxRecDepth 100000 in
set_option maxHeartbeats 2000000 in
theorem show_any (lo : Nat) (p : Nat → Prop) (g : Nat) (n : Int) (sh : Bool) (M L : List Int) (P : Nat → Prop) (v : Value) (K : List Int) (w : World) (h : BV lo w p g n sh M L) (hv : Sq w P v K.length (CU K)) (hK : (K.length : Int) ≤ n) :
    Calls Try.prog 14 #[.pointer (some ⟨g, 0, none⟩), v] w fun e w' => ∃ r q, e = .returned (.tuple #[r, .int .i64 0]) ∧ Ow 3 w' (fun b => p b ∧ ¬ q b) r L.length (C L) ∧ BV lo w' q g n true K [] ∧ Nx p q w w' := by
  obtain ⟨Am, cm, Aw, cw, a, b, c⟩ := h.four
  have d0 : w.cell? ⟨g, 0, none⟩ = some (.int .i64 n) := by rw [(row_cell a 0).1]; rfl
  have d1 : w.cell? ⟨g, 1, none⟩ = some (.bool sh) := by rw [(row_cell a 1).1]; rfl
  have d2 : w.cell? ⟨g, 2, none⟩ = some (.slice Am M.length cm) := by rw [(row_cell a 2).1]; rfl
  have d3 : w.cell? ⟨g, 3, none⟩ = some (.slice Aw L.length cw) := by rw [(row_cell a 3).1]; rfl
  have f1 : w.frozen? ⟨g, 1, none⟩ = false := (row_cell a 1).2
  have f2 : w.frozen? ⟨g, 2, none⟩ = false := (row_cell a 2).2
  have f3 : w.frozen? ⟨g, 3, none⟩ = false := (row_cell a 3).2
  have HK : Hid ((K.length : Int) ≤ n ∧ n ≤ 32) := ⟨hK, h.nl.2.2⟩
  have CE := Lib.hid (U.uclone_any _ _ _ _ w hv.st (CU_one _) (by have := h.nl; omega))
  obtain ⟨Ak, ck, rfl⟩ := hv.form
  obtain ⟨nk, hnk⟩ : ∃ k, K.length = k := ⟨_, rfl⟩
  obtain ⟨nm, hnm⟩ : ∃ k, M.length = k := ⟨_, rfl⟩
  obtain ⟨nl, hnl⟩ : ∃ k, L.length = k := ⟨_, rfl⟩
  have HA := Lib.hid a
  have HC := Lib.hid c
  have HH := Lib.hid h
  have HNL := Lib.hid hnl
  have HNK := Lib.hid hnk
  rw [hnl] at d3 HA HC
  rw [hnm] at d2 HA
  rw [hnk] at CE
  rw [hnk] at ⊢
  have hgt : ¬ n < (nk : Int) := by omega
  have hgt' : decide (n < (nk : Int)) = false := by simpa using hgt
  clear a b c h hv hnm hnl hnk hK
  go_enter Try.func14, Try.ntmps14
  go_wp2_with fail
  refine CE.out.mono ?_
  rintro e w2 ⟨⟨r, rfl, r1⟩, hb2⟩
  obtain ⟨Ar, cr, hr⟩ := slice_form r1
  subst hr
  have a2 : w2.heap[g]? = some (.cells #[.int .i64 n, .bool sh, .slice Am nm cm, .slice Aw nl cw] 68 (0, 0)) := (hb2.block g HH.out.lt).trans HA.out
  have d1 : w2.cell? ⟨g, 1, none⟩ = some (.bool sh) := by rw [(row_cell a2 1).1]; rfl
  have d2 : w2.cell? ⟨g, 2, none⟩ = some (.slice Am nm cm) := by rw [(row_cell a2 2).1]; rfl
  have d3 : w2.cell? ⟨g, 3, none⟩ = some (.slice Aw nl cw) := by rw [(row_cell a2 3).1]; rfl
  have f1 : w2.frozen? ⟨g, 1, none⟩ = false := (row_cell a2 1).2
  have f2 : w2.frozen? ⟨g, 2, none⟩ = false := (row_cell a2 2).2
  have f3 : w2.frozen? ⟨g, 3, none⟩ = false := (row_cell a2 3).2
  have Q : Hid (∃ q, Ow 3 (((w2.setCell ⟨g, 1, none⟩ (.bool true)).setCell ⟨g, 2, none⟩ (.slice Ar nk cr)).setCell ⟨g, 3, none⟩ (.slice none 0 0)) (fun b => p b ∧ ¬ q b) (.slice Aw nl cw) nl (C L) ∧ BV lo (((w2.setCell ⟨g, 1, none⟩ (.bool true)).setCell ⟨g, 2, none⟩ (.slice Ar nk cr)).setCell ⟨g, 3, none⟩ (.slice none 0 0)) q g n true K [] ∧ Nx p q w (((w2.setCell ⟨g, 1, none⟩ (.bool true)).setCell ⟨g, 2, none⟩ (.slice Ar nk cr)).setCell ⟨g, 3, none⟩ (.slice none 0 0))) := by
    have h := HH.out
    have hs := set_at (set_at (set_at a2 1 (.bool true)) 2 (.slice Ar nk cr)) 3 (.slice none 0 0)
    have hf : Fo (fun b => b = g) w2 (((w2.setCell ⟨g, 1, none⟩ (.bool true)).setCell ⟨g, 2, none⟩ (.slice Ar nk cr)).setCell ⟨g, 3, none⟩ (.slice none 0 0)) := (((Fo.refl (fun b => b = g) w2).setCell (.inl rfl) 1 _).setCell (.inl rfl) 2 _).setCell (.inl rfl) 3 _
    have hfw : Fo p w (((w2.setCell ⟨g, 1, none⟩ (.bool true)).setCell ⟨g, 2, none⟩ (.slice Ar nk cr)).setCell ⟨g, 3, none⟩ (.slice none 0 0)) := (Fo.of_below hb2).trans hf fun i hi => .inl (by rw [hi]; exact h.pg)
    have hlt := h.lt
    have hsz := hb2.size
    have O := Ow.of_own r1
    have O2 := (O.not a2 ne_ub).fo hf (fun b hb => hb.2)
    have C2 := (((HC.out.below hb2).not a2 ne_ib).imp (fun b hb1 hb => hb)).fo hf (fun b hb => hb.2)
    refine ⟨fun b => b = g ∨ (w.heap.size ≤ b ∧ b < w2.heap.size), (C2.imp fun b _ hb => ⟨hb.1, fun hq => ?_⟩), ⟨fun b hb => ?_, .inl rfl, ⟨_, _, hs, ?_, Ow.nil _ _ _⟩, (fun h => by cases h), ?_⟩, hfw, fun b hb => ?_⟩
    · rcases hq with hq | hq
      · exact hb.2 hq
      · have := (h.low b hb.1).2; omega
    · have h1 := h.low g h.pg
      have h2 := hf.size
      rcases hb with hb | hb <;> omega
    · have O3 : Ow 40 _ (fun b => b = g ∨ (w.heap.size ≤ b ∧ b < w2.heap.size)) (.slice Ar nk cr) nk (CU K) := ⟨O2.own, fun b hb => ⟨.inr ⟨(O.at_ b hb).1, (O.at_ b hb).2⟩, (O2.at_ b hb).2⟩⟩
      have := HNK.out
      rw [this]; exact O3
    · have := HK.out; have := HNK.out; have := h.nl; omega
    · rcases hb with hb | hb
      · exact .inl (by rw [hb]; exact h.pg)
      · exact .inr hb.1
  have QL := HNL.out
  clear r1 hb2 a2 HH HC HA HK HNL HNK CE
  go_wp2_with fail
  go_ret2
  obtain ⟨q, q1, q2, q3⟩ := Q.out
  exact ⟨_, q, rfl, by rw [QL]; exact q1, q2, q3⟩
end Go.Proofs.Ytfmcmhgpgkeplaa.B
