/-
  What a port does. Each statement bears its own conditions.
-/
import Derived.Test.YtmodkfboolmckaaSaM
namespace Go.Proofs.Ytmodkfboolmckaa.Sa
open Go.RowKit Go.Proofs.Ytmodkfboolmckaa.F
set_option linter.unusedVariables false
set_option linter.unusedSimpArgs false
set_option maxRecDepth 100000 in
set_option maxHeartbeats 4000000 in
theorem write_bad (g : Nat) (t : Int) (v : Value) (w : World) (ht : ¬ tk t) :
    Calls Try.prog 13 #[.pointer (some ⟨g, 0, none⟩), .int .i64 t, v] w fun e w' => e = .returned (.int .i64 1) ∧ w' = w := by
  have TB := Lib.hid (tick_any t w)
  rw [decide_eq_false ht] at TB
  clear ht
  go_enter Try.func13, Try.ntmps13
  go_wp2_with fail
  refine TB.out.mono ?_
  rintro e w1 ⟨rfl, hw⟩
  have hw := hw.symm
  subst hw
  go_wp2_with fail
  go_ret
  exact ⟨rfl, rfl⟩
set_option maxRecDepth 100000 in
set_option maxHeartbeats 4000000 in
theorem write_big (lo : Nat) (p : Nat → Prop) (g : Nat) (n k : Int) (has : Bool) (M : List Int) (st : Int) (P : Nat → Prop) (v : Value) (K : List Int) (t : Int) (w : World) (h : PV lo w p g n k has M st) (ht : tk t) (hv : Sq w P v K.length (CU K)) (hK : ¬ (K.length : Int) ≤ n) :
    Calls Try.prog 13 #[.pointer (some ⟨g, 0, none⟩), .int .i64 t, v] w fun e w' => e = .returned (.int .i64 2) ∧ w' = w := by
  have TB := Lib.hid (tick_any t w)
  rw [decide_eq_true ht] at TB
  obtain ⟨Am, cm, a, b⟩ := h.five
  have d0 : w.cell? ⟨g, 0, none⟩ = some (.int .i64 n) := by rw [(row_cell a 0).1]; rfl
  have d1 : w.cell? ⟨g, 1, none⟩ = some (.int .i64 k) := by rw [(row_cell a 1).1]; rfl
  have d2 : w.cell? ⟨g, 2, none⟩ = some (.bool has) := by rw [(row_cell a 2).1]; rfl
  have d3 : w.cell? ⟨g, 3, none⟩ = some (.slice Am M.length cm) := by rw [(row_cell a 3).1]; rfl
  have d4 : w.cell? ⟨g, 4, none⟩ = some (.int .i64 st) := by rw [(row_cell a 4).1]; rfl
  obtain ⟨Ak, ck, rfl⟩ := hv.form
  obtain ⟨nk, hnk⟩ : ∃ k, K.length = k := ⟨_, rfl⟩
  rw [hnk] at hK ⊢
  have hgt : n < (nk : Int) := by omega
  have hgt' : decide (n < (nk : Int)) = true := by simpa using hgt
  clear a b h hv hnk hK d1 d2 d3 d4 ht
  go_enter Try.func13, Try.ntmps13
  go_wp2_with fail
  refine TB.out.mono ?_
  rintro e w1 ⟨rfl, hw⟩
  have hw := hw.symm
  subst hw
  go_wp2_with fail
  go_ret
  exact ⟨rfl, rfl⟩
set_option maxRecDepth 100000 in
set_option maxHeartbeats 4000000 in
theorem write_any (lo : Nat) (p : Nat → Prop) (g : Nat) (n k : Int) (has : Bool) (M : List Int) (st : Int) (P : Nat → Prop) (v : Value) (K : List Int) (t : Int) (w : World) (h : PV lo w p g n k has M st) (ht : tk t) (hv : Sq w P v K.length (CU K)) (hK : (K.length : Int) ≤ n) :
    Calls Try.prog 13 #[.pointer (some ⟨g, 0, none⟩), .int .i64 t, v] w fun e w' => ∃ q, e = .returned (.int .i64 0) ∧ PV lo w' q g n k true K t ∧ Nx p q w w' := by
  have TB := Lib.hid (tick_any t w)
  rw [decide_eq_true ht] at TB
  have HT := Lib.hid ht
  obtain ⟨Am, cm, a, b⟩ := h.five
  have d0 : w.cell? ⟨g, 0, none⟩ = some (.int .i64 n) := by rw [(row_cell a 0).1]; rfl
  have d1 : w.cell? ⟨g, 1, none⟩ = some (.int .i64 k) := by rw [(row_cell a 1).1]; rfl
  have d2 : w.cell? ⟨g, 2, none⟩ = some (.bool has) := by rw [(row_cell a 2).1]; rfl
  have d3 : w.cell? ⟨g, 3, none⟩ = some (.slice Am M.length cm) := by rw [(row_cell a 3).1]; rfl
  have d4 : w.cell? ⟨g, 4, none⟩ = some (.int .i64 st) := by rw [(row_cell a 4).1]; rfl
  have HK : Hid ((K.length : Int) ≤ n ∧ n ≤ 32) := ⟨hK, h.nl.2.2.1⟩
  have CE := Lib.hid (U.uclone_any _ _ _ _ w hv.st (CU_one _) (by have := h.nl; omega))
  obtain ⟨Ak, ck, rfl⟩ := hv.form
  obtain ⟨nk, hnk⟩ : ∃ k, K.length = k := ⟨_, rfl⟩
  obtain ⟨nm, hnm⟩ : ∃ k, M.length = k := ⟨_, rfl⟩
  have HA := Lib.hid a
  have HH := Lib.hid h
  have HNK := Lib.hid hnk
  rw [hnm] at d3 HA
  rw [hnk] at CE
  rw [hnk] at ⊢
  have hgt : ¬ n < (nk : Int) := by omega
  have hgt' : decide (n < (nk : Int)) = false := by simpa using hgt
  clear a b h hv hnm hnk hK ht
  go_enter Try.func13, Try.ntmps13
  go_wp2_with fail
  refine TB.out.mono ?_
  rintro e w1 ⟨rfl, hw⟩
  have hw := hw.symm
  subst hw
  go_wp2_with fail
  refine CE.out.mono ?_
  rintro e w2 ⟨⟨r, rfl, r1⟩, hb2⟩
  obtain ⟨Ar, cr, hr⟩ := slice_form r1
  subst hr
  have a2 : w2.heap[g]? = some (.cells #[.int .i64 n, .int .i64 k, .bool has, .slice Am nm cm, .int .i64 st] 67 (0, 0)) := (hb2.block g HH.out.lt).trans HA.out
  have d2 : w2.cell? ⟨g, 2, none⟩ = some (.bool has) := by rw [(row_cell a2 2).1]; rfl
  have d3 : w2.cell? ⟨g, 3, none⟩ = some (.slice Am nm cm) := by rw [(row_cell a2 3).1]; rfl
  have d4 : w2.cell? ⟨g, 4, none⟩ = some (.int .i64 st) := by rw [(row_cell a2 4).1]; rfl
  have f2 : w2.frozen? ⟨g, 2, none⟩ = false := (row_cell a2 2).2
  have f3 : w2.frozen? ⟨g, 3, none⟩ = false := (row_cell a2 3).2
  have f4 : w2.frozen? ⟨g, 4, none⟩ = false := (row_cell a2 4).2
  have Q : Hid (∃ q, PV lo (((w2.setCell ⟨g, 2, none⟩ (.bool true)).setCell ⟨g, 3, none⟩ (.slice Ar nk cr)).setCell ⟨g, 4, none⟩ (.int .i64 t)) q g n k true K t ∧ Nx p q w (((w2.setCell ⟨g, 2, none⟩ (.bool true)).setCell ⟨g, 3, none⟩ (.slice Ar nk cr)).setCell ⟨g, 4, none⟩ (.int .i64 t))) := by
    have h := HH.out
    have hs := set_at (set_at (set_at a2 2 (.bool true)) 3 (.slice Ar nk cr)) 4 (.int .i64 t)
    have hf : Fo (fun b => b = g) w2 (((w2.setCell ⟨g, 2, none⟩ (.bool true)).setCell ⟨g, 3, none⟩ (.slice Ar nk cr)).setCell ⟨g, 4, none⟩ (.int .i64 t)) := (((Fo.refl (fun b => b = g) w2).setCell (.inl rfl) 2 _).setCell (.inl rfl) 3 _).setCell (.inl rfl) 4 _
    have hfw : Fo p w (((w2.setCell ⟨g, 2, none⟩ (.bool true)).setCell ⟨g, 3, none⟩ (.slice Ar nk cr)).setCell ⟨g, 4, none⟩ (.int .i64 t)) := (Fo.of_below hb2).trans hf fun i hi => .inl (by rw [hi]; exact h.pg)
    have hlt := h.lt
    have hsz := hb2.size
    have O := Ow.of_own r1
    have O2 := (O.not a2 ne_up).fo hf (fun b hb => hb.2)
    refine ⟨fun b => b = g ∨ (w.heap.size ≤ b ∧ b < w2.heap.size), ⟨fun b hb => ?_, .inl rfl, ⟨_, hs, ?_⟩, (fun h => by cases h), ?_⟩, hfw, fun b hb => ?_⟩
    · have h1 := h.low g h.pg
      have h2 := hf.size
      rcases hb with hb | hb <;> omega
    · have O3 : Ow 55 _ (fun b => b = g ∨ (w.heap.size ≤ b ∧ b < w2.heap.size)) (.slice Ar nk cr) nk (CU K) := ⟨O2.own, fun b hb => ⟨.inr ⟨(O.at_ b hb).1, (O.at_ b hb).2⟩, (O2.at_ b hb).2⟩⟩
      have := HNK.out
      rw [this]; exact O3
    · have := HK.out; have := HNK.out; have := h.nl; have := HT.out; unfold tk at this; omega
    · rcases hb with hb | hb
      · exact .inl (by rw [hb]; exact h.pg)
      · exact .inr hb.1
  clear r1 hb2 a2 HH HA HK HNK HT CE TB
  go_wp2_with fail
  go_ret
  obtain ⟨q, q1, q2⟩ := Q.out
  first | exact ⟨q, rfl, q1, q2⟩ | exact ⟨_, rfl, q1, q2⟩
set_option maxRecDepth 100000 in
set_option maxHeartbeats 4000000 in
theorem read_bad (g : Nat) (t : Int) (w : World) (ht : ¬ tk t) :
    Calls Try.prog 14 #[.pointer (some ⟨g, 0, none⟩), .int .i64 t] w fun e w' => e = .returned (.tuple #[.slice none 0 0, .bool false, .int .i64 1]) ∧ w' = w := by
  have TB := Lib.hid (tick_any t w)
  rw [decide_eq_false ht] at TB
  clear ht
  go_enter Try.func14, Try.ntmps14
  go_wp2_with fail
  refine TB.out.mono ?_
  rintro e w1 ⟨rfl, hw⟩
  have hw := hw.symm
  subst hw
  go_wp2_with fail
  go_ret3
  exact ⟨rfl, rfl⟩
theorem read_none (lo : Nat) (p : Nat → Prop) (g : Nat) (n k : Int) (has : Bool) (M : List Int) (st : Int) (t : Int) (w : World) (h : PV lo w p g n k has M st) (ht : tk t) (hh : has = false) :
    Calls Try.prog 14 #[.pointer (some ⟨g, 0, none⟩), .int .i64 t] w fun e w' => e = .returned (.tuple #[.slice none 0 0, .bool false, .int .i64 9]) ∧ w' = w := by
  have TB := Lib.hid (tick_any t w)
  rw [decide_eq_true ht] at TB
  subst hh
  obtain ⟨Am, cm, a, b⟩ := h.five
  have d0 : w.cell? ⟨g, 0, none⟩ = some (.int .i64 n) := by rw [(row_cell a 0).1]; rfl
  have d1 : w.cell? ⟨g, 1, none⟩ = some (.int .i64 k) := by rw [(row_cell a 1).1]; rfl
  have d2 : w.cell? ⟨g, 2, none⟩ = some (.bool false) := by rw [(row_cell a 2).1]; rfl
  have d3 : w.cell? ⟨g, 3, none⟩ = some (.slice Am M.length cm) := by rw [(row_cell a 3).1]; rfl
  have d4 : w.cell? ⟨g, 4, none⟩ = some (.int .i64 st) := by rw [(row_cell a 4).1]; rfl
  clear a b h d0 d1 d3 d4 ht
  go_enter Try.func14, Try.ntmps14
  go_wp2_with fail
  refine TB.out.mono ?_
  rintro e w1 ⟨rfl, hw⟩
  have hw := hw.symm
  subst hw
  go_wp2_with fail
  go_ret3
  exact ⟨rfl, rfl⟩
set_option maxRecDepth 100000 in
set_option maxHeartbeats 4000000 in
theorem read_any (lo : Nat) (p : Nat → Prop) (g : Nat) (n k : Int) (has : Bool) (M : List Int) (st : Int) (t : Int) (w : World) (h : PV lo w p g n k has M st) (ht : tk t) (hh : has = true) :
    Calls Try.prog 14 #[.pointer (some ⟨g, 0, none⟩), .int .i64 t] w fun e w' => ∃ r, e = .returned (.tuple #[r, .bool (decide (t ≤ st + k)), .int .i64 0]) ∧ w'.ownsRow w.heap.size 55 1 r M.length (CU M) ∧ Below w.heap.size w w' := by
  have TB := Lib.hid (tick_any t w)
  rw [decide_eq_true ht] at TB
  subst hh
  obtain ⟨Am, cm, a, b⟩ := h.five
  have d0 : w.cell? ⟨g, 0, none⟩ = some (.int .i64 n) := by rw [(row_cell a 0).1]; rfl
  have d1 : w.cell? ⟨g, 1, none⟩ = some (.int .i64 k) := by rw [(row_cell a 1).1]; rfl
  have d2 : w.cell? ⟨g, 2, none⟩ = some (.bool true) := by rw [(row_cell a 2).1]; rfl
  have d3 : w.cell? ⟨g, 3, none⟩ = some (.slice Am M.length cm) := by rw [(row_cell a 3).1]; rfl
  have d4 : w.cell? ⟨g, 4, none⟩ = some (.int .i64 st) := by rw [(row_cell a 4).1]; rfl
  have CE : Hid (∀ W (hb : Below w.heap.size w W), Calls Try.prog 28 #[.slice Am M.length cm] W fun e w' => (∃ r, e = .returned r ∧ w'.ownsRow W.heap.size 55 1 r M.length (CU M)) ∧ Below W.heap.size W w') := fun W hb => U.uclone_any _ _ _ _ W (b.sq.below hb).st (CU_one _) (by have := h.nl; omega)
  have HWR : Hid (IntKind.i64.wrap (st + k) = st + k) := by have := h.nl; unfold Hid; rw [IntKind.wrap_i64]; omega
  obtain ⟨nm, hnm⟩ : ∃ k, M.length = k := ⟨_, rfl⟩
  rw [hnm] at CE d3 ⊢
  clear a b h hnm ht d0
  go_enter Try.func14, Try.ntmps14
  go_wp2_with fail
  refine TB.out.mono ?_
  rintro e w1 ⟨rfl, hw⟩
  have hw := hw.symm
  subst hw
  go_wp2_with fail
  refine wp_region_held_drew (S := (fun w' => Below w.heap.size w w' ∧ w'.cell? ⟨g, 1, none⟩ = some (.int .i64 k) ∧ w'.cell? ⟨g, 3, none⟩ = some (.slice Am nm cm) ∧ w'.cell? ⟨g, 4, none⟩ = some (.int .i64 st))) (by kernel_rfl) ?_ (fun hHeld => ?_)
  · exact ⟨(Below.refl _ _).drew, d1, d3, d4⟩
  refine takeD (i := 0) (d := some 21) (v := ?_) _ rfl rfl (by kernel_rfl) (by kernel_rfl) (by kernel_rfl) (fun _ _ _ h => h) (by rfl) ?_ (by assumption) ?_
  rotate_left
  · (intro w hSw; (try dsimp only at hSw); go_simp) <;> with_reducible rfl
  try simp only [Act.put, List.setIfInBounds_toArray, List.set_cons_zero, List.set_cons_succ]
  refine takeD (i := 1) (d := some 22) (v := ?_) _ rfl rfl (by kernel_rfl) (by kernel_rfl) (by kernel_rfl) (fun _ _ _ h => h) (by rfl) ?_ (by assumption) ?_
  rotate_left
  · (intro w hSw; (try dsimp only at hSw); go_simp) <;> with_reducible rfl
  try simp only [Act.put, List.setIfInBounds_toArray, List.set_cons_zero, List.set_cons_succ]
  refine takeD (i := 2) (d := some 23) (v := ?_) _ rfl rfl (by kernel_rfl) (by kernel_rfl) (by kernel_rfl) (fun _ _ _ h => h) (by rfl) ?_ (by assumption) ?_
  rotate_left
  · (intro w hSw; (try dsimp only at hSw); go_simp) <;> with_reducible rfl
  try simp only [Act.put, List.setIfInBounds_toArray, List.set_cons_zero, List.set_cons_succ]
  refine takeD (i := 3) (d := some 24) (v := ?_) _ rfl rfl (by kernel_rfl) (by kernel_rfl) (by kernel_rfl) (fun _ _ _ h => h) (by rfl) ?_ (by assumption) ?_
  rotate_left
  · (intro w hSw; (try dsimp only at hSw); go_simp) <;> with_reducible rfl
  try simp only [Act.put, List.setIfInBounds_toArray, List.set_cons_zero, List.set_cons_succ]
  refine takeD (i := 5) (d := some 26) (v := ?_) _ rfl rfl (by kernel_rfl) (by kernel_rfl) (by kernel_rfl) (fun _ _ _ h => h) (by rfl) ?_ (by assumption) ?_
  rotate_left
  · (intro w hSw; (try dsimp only at hSw); go_simp) <;> with_reducible rfl
  try simp only [Act.put, List.setIfInBounds_toArray, List.set_cons_zero, List.set_cons_succ]
  refine takeD (i := 6) (d := some 27) (v := ?_) _ rfl rfl (by kernel_rfl) (by kernel_rfl) (by kernel_rfl) (fun _ _ _ h => h) (by rfl) ?_ (by assumption) ?_
  rotate_left
  · (intro w hSw; (try dsimp only at hSw); go_simp) <;> with_reducible rfl
  try simp only [Act.put, List.setIfInBounds_toArray, List.set_cons_zero, List.set_cons_succ]
  refine takeD (i := 7) (d := some 28) (v := ?_) _ rfl rfl (by kernel_rfl) (by kernel_rfl) (by kernel_rfl) (fun _ _ _ h => h) (by rfl) ?_ (by assumption) ?_
  rotate_left
  · (intro w hSw; (try dsimp only at hSw); go_simp) <;> with_reducible rfl
  try simp only [Act.put, List.setIfInBounds_toArray, List.set_cons_zero, List.set_cons_succ]
  refine takeD (i := 8) (d := some 29) (v := ?_) _ rfl rfl (by kernel_rfl) (by kernel_rfl) (by kernel_rfl) (fun _ _ _ h => h) (by rfl) ?_ (by assumption) ?_
  rotate_left
  · (intro w hSw; (try dsimp only at hSw); go_simp) <;> with_reducible rfl
  try simp only [Act.put, List.setIfInBounds_toArray, List.set_cons_zero, List.set_cons_succ]
  refine takeD (i := 9) (d := some 30) (v := ?_) _ rfl rfl (by kernel_rfl) (by kernel_rfl) (by kernel_rfl) (fun _ _ _ h => h) (by rfl) ?_ (by assumption) ?_
  rotate_left
  · (intro w hSw; (try dsimp only at hSw); go_simp) <;> with_reducible rfl
  try simp only [Act.put, List.setIfInBounds_toArray, List.set_cons_zero, List.set_cons_succ]
  refine takeD (i := 10) (d := some 31) (v := ?_) _ rfl rfl (by kernel_rfl) (by kernel_rfl) (by kernel_rfl) (fun _ _ _ h => h) (by rfl) ?_ (by assumption) ?_
  rotate_left
  · (intro w hSw; (try dsimp only at hSw); go_simp) <;> with_reducible rfl
  try simp only [Act.put, List.setIfInBounds_toArray, List.set_cons_zero, List.set_cons_succ]
  refine takeD (i := 11) (d := some 32) (v := ?_) _ rfl rfl (by kernel_rfl) (by kernel_rfl) (by kernel_rfl) (fun _ _ _ h => h) (by rfl) ?_ (by assumption) ?_
  rotate_left
  · (intro w hSw; (try dsimp only at hSw); go_simp) <;> with_reducible rfl
  try simp only [Act.put, List.setIfInBounds_toArray, List.set_cons_zero, List.set_cons_succ]
  refine takeD (i := 12) (d := some 33) (v := ?_) _ rfl rfl (by kernel_rfl) (by kernel_rfl) (by kernel_rfl) (fun _ _ _ h => h) (by rfl) ?_ (by assumption) ?_
  rotate_left
  · (intro w hSw; (try dsimp only at hSw); go_simp) <;> with_reducible rfl
  try simp only [Act.put, List.setIfInBounds_toArray, List.set_cons_zero, List.set_cons_succ]
  refine takeD (i := 13) (d := some 34) (v := ?_) _ rfl rfl (by kernel_rfl) (by kernel_rfl) (by kernel_rfl) (fun _ _ _ h => h) (by rfl) ?_ (by assumption) ?_
  rotate_left
  · (intro w hSw; (try dsimp only at hSw); go_simp) <;> with_reducible rfl
  try simp only [Act.put, List.setIfInBounds_toArray, List.set_cons_zero, List.set_cons_succ]
  refine takeD (i := 14) (d := some 35) (v := ?_) _ rfl rfl (by kernel_rfl) (by kernel_rfl) (by kernel_rfl) (fun _ _ _ h => h) (by rfl) ?_ (by assumption) ?_
  rotate_left
  · (intro w hSw; (try dsimp only at hSw); go_simp) <;> with_reducible rfl
  try simp only [Act.put, List.setIfInBounds_toArray, List.set_cons_zero, List.set_cons_succ]
  refine takeD (i := 15) (d := some 36) (v := ?_) _ rfl rfl (by kernel_rfl) (by kernel_rfl) (by kernel_rfl) (fun _ _ _ h => h) (by rfl) ?_ (by assumption) ?_
  rotate_left
  · (intro w hSw; (try dsimp only at hSw); go_simp) <;> with_reducible rfl
  try simp only [Act.put, List.setIfInBounds_toArray, List.set_cons_zero, List.set_cons_succ]
  refine takeD (i := 16) (d := some 37) (v := ?_) _ rfl rfl (by kernel_rfl) (by kernel_rfl) (by kernel_rfl) (fun _ _ _ h => h) (by rfl) ?_ (by assumption) ?_
  rotate_left
  · (intro w hSw; (try dsimp only at hSw); go_simp) <;> with_reducible rfl
  try simp only [Act.put, List.setIfInBounds_toArray, List.set_cons_zero, List.set_cons_succ]
  refine wpAnyH_ready (rs := [4]) (by kernel_rfl) (by simp) ?_
  refine AllReadyH.cons rfl (fun K hK => ?_) AllReadyH.nil
  try go_simp
  go_at_call 28
  refine (CE.out _ hHeld.1).mono ?_
  rintro e w2 ⟨⟨r, rfl, r1⟩, hb2⟩
  have HB0 := Lib.hid hHeld.1
  have R1 := Lib.hid r1
  have HB2 := Lib.hid hb2
  clear r1
  try go_wp2_with fail
  refine hK.out _ _ ?_ (fun hHeld => ?_)
  · exact ⟨hHeld.1.trans (hb2.mono hHeld.1.size), cell_later hb2 hHeld.2.1, cell_later hb2 hHeld.2.2.1, cell_later hb2 hHeld.2.2.2⟩
  clear hK K
  try simp only [Act.put, List.setIfInBounds_toArray, List.set_cons_zero, List.set_cons_succ]
  refine takeD (i := 17) (d := some 4) (v := ?_) _ rfl rfl (by kernel_rfl) (by kernel_rfl) (by kernel_rfl) (fun _ _ _ h => h) (by rfl) ?_ (by assumption) ?_
  rotate_left
  · (intro w hSw; (try dsimp only at hSw); go_simp) <;> with_reducible rfl
  try simp only [Act.put, List.setIfInBounds_toArray, List.set_cons_zero, List.set_cons_succ]
  refine takeD (i := 18) (d := some 5) (v := ?_) _ rfl rfl (by kernel_rfl) (by kernel_rfl) (by kernel_rfl) (fun _ _ _ h => h) (by rfl) ?_ (by assumption) ?_
  rotate_left
  · (intro w hSw; (try dsimp only at hSw); go_simp) <;> with_reducible rfl
  try simp only [Act.put, List.setIfInBounds_toArray, List.set_cons_zero, List.set_cons_succ]
  refine takeD (i := 19) (d := some 6) (v := ?_) _ rfl rfl (by kernel_rfl) (by kernel_rfl) (by kernel_rfl) (fun _ _ _ h => h) (by rfl) ?_ (by assumption) ?_
  rotate_left
  · (intro w hSw; (try dsimp only at hSw); go_simp) <;> with_reducible rfl
  try simp only [Act.put, List.setIfInBounds_toArray, List.set_cons_zero, List.set_cons_succ]
  refine wpAnyH_done (by kernel_rfl) ?_ _
  have HB3 := Lib.hid hHeld.1
  clear hHeld d1 d2 d3 d4
  go_wp2_with fail
  go_ret3
  have O := R1.out
  have hs := HB0.out.size
  refine ⟨_, by rw [HWR.out]; rfl, ?_, HB3.out⟩
  exact ⟨O.1, O.2.imp id fun ⟨g, cap, cur, h1, h2, h3⟩ => ⟨g, cap, cur, h1, Nat.le_trans hs h2, h3⟩⟩
set_option maxRecDepth 100000 in
set_option maxHeartbeats 4000000 in
theorem clear_any (lo : Nat) (p : Nat → Prop) (g : Nat) (n k : Int) (has : Bool) (M : List Int) (st : Int) (w : World) (h : PV lo w p g n k has M st) :
    Calls Try.prog 17 #[.pointer (some ⟨g, 0, none⟩)] w fun e w' => e = .returned (.tuple #[]) ∧ PV lo w' p g n k false [] 0 ∧ Nx p p w w' := by
  obtain ⟨Am, cm, a, b⟩ := h.five
  have d0 : w.cell? ⟨g, 0, none⟩ = some (.int .i64 n) := by rw [(row_cell a 0).1]; rfl
  have d1 : w.cell? ⟨g, 1, none⟩ = some (.int .i64 k) := by rw [(row_cell a 1).1]; rfl
  have d2 : w.cell? ⟨g, 2, none⟩ = some (.bool has) := by rw [(row_cell a 2).1]; rfl
  have d3 : w.cell? ⟨g, 3, none⟩ = some (.slice Am M.length cm) := by rw [(row_cell a 3).1]; rfl
  have d4 : w.cell? ⟨g, 4, none⟩ = some (.int .i64 st) := by rw [(row_cell a 4).1]; rfl
  have f2 : w.frozen? ⟨g, 2, none⟩ = false := (row_cell a 2).2
  have f3 : w.frozen? ⟨g, 3, none⟩ = false := (row_cell a 3).2
  have f4 : w.frozen? ⟨g, 4, none⟩ = false := (row_cell a 4).2
  have Q : Hid (PV lo (((w.setCell ⟨g, 2, none⟩ (.bool false)).setCell ⟨g, 3, none⟩ (.slice none 0 0)).setCell ⟨g, 4, none⟩ (.int .i64 0)) p g n k false [] 0 ∧ Nx p p w (((w.setCell ⟨g, 2, none⟩ (.bool false)).setCell ⟨g, 3, none⟩ (.slice none 0 0)).setCell ⟨g, 4, none⟩ (.int .i64 0))) := by
    have hs := set_at (set_at (set_at a 2 (.bool false)) 3 (.slice none 0 0)) 4 (.int .i64 0)
    have hf : Fo p w (((w.setCell ⟨g, 2, none⟩ (.bool false)).setCell ⟨g, 3, none⟩ (.slice none 0 0)).setCell ⟨g, 4, none⟩ (.int .i64 0)) := (((Fo.refl p w).setCell (.inl h.pg) 2 _).setCell (.inl h.pg) 3 _).setCell (.inl h.pg) 4 _
    refine ⟨⟨fun b hb => ⟨(h.low b hb).1, Nat.lt_of_lt_of_le (h.low b hb).2 hf.size⟩, h.pg, ⟨_, hs, Ow.nil _ _ _⟩, fun _ => ⟨rfl, rfl⟩, by have := h.nl; simp; omega⟩, hf, fun b hb => .inl hb⟩
  obtain ⟨nm, hnm⟩ : ∃ k, M.length = k := ⟨_, rfl⟩
  rw [hnm] at d3
  clear a b h hnm
  go_enter Try.func17, Try.ntmps17
  go_wp2_with (first | go_end0)
  try go_end0
  first | exact Q.out | exact ⟨rfl, Q.out⟩
set_option maxRecDepth 100000 in
set_option maxHeartbeats 4000000 in
theorem stamp_any (lo : Nat) (p : Nat → Prop) (g : Nat) (n k : Int) (has : Bool) (M : List Int) (st : Int) (w : World) (h : PV lo w p g n k has M st) :
    Calls Try.prog 18 #[.pointer (some ⟨g, 0, none⟩)] w fun e w' => e = .returned (.tuple #[.int .i64 st, .bool has]) ∧ Below w.heap.size w w' := by
  obtain ⟨Am, cm, a, b⟩ := h.five
  have d0 : w.cell? ⟨g, 0, none⟩ = some (.int .i64 n) := by rw [(row_cell a 0).1]; rfl
  have d1 : w.cell? ⟨g, 1, none⟩ = some (.int .i64 k) := by rw [(row_cell a 1).1]; rfl
  have d2 : w.cell? ⟨g, 2, none⟩ = some (.bool has) := by rw [(row_cell a 2).1]; rfl
  have d3 : w.cell? ⟨g, 3, none⟩ = some (.slice Am M.length cm) := by rw [(row_cell a 3).1]; rfl
  have d4 : w.cell? ⟨g, 4, none⟩ = some (.int .i64 st) := by rw [(row_cell a 4).1]; rfl
  clear a b h d0 d1 d3
  go_enter Try.func18, Try.ntmps18
  go_wp2_with fail
  refine wp_region_held_drew (S := (fun w' => Below w.heap.size w w' ∧ w'.cell? ⟨g, 2, none⟩ = some (.bool has) ∧ w'.cell? ⟨g, 4, none⟩ = some (.int .i64 st))) (by kernel_rfl) ?_ (fun hHeld => ?_)
  · exact ⟨(Below.refl _ _).drew, d2, d4⟩
  refine takeD (i := 0) (d := some 6) (v := ?_) _ rfl rfl (by kernel_rfl) (by kernel_rfl) (by kernel_rfl) (fun _ _ _ h => h) (by rfl) ?_ (by assumption) ?_
  rotate_left
  · (intro w hSw; (try dsimp only at hSw); go_simp) <;> with_reducible rfl
  try simp only [Act.put, List.setIfInBounds_toArray, List.set_cons_zero, List.set_cons_succ]
  refine takeD (i := 1) (d := some 7) (v := ?_) _ rfl rfl (by kernel_rfl) (by kernel_rfl) (by kernel_rfl) (fun _ _ _ h => h) (by rfl) ?_ (by assumption) ?_
  rotate_left
  · (intro w hSw; (try dsimp only at hSw); go_simp) <;> with_reducible rfl
  try simp only [Act.put, List.setIfInBounds_toArray, List.set_cons_zero, List.set_cons_succ]
  refine takeD (i := 2) (d := some 8) (v := ?_) _ rfl rfl (by kernel_rfl) (by kernel_rfl) (by kernel_rfl) (fun _ _ _ h => h) (by rfl) ?_ (by assumption) ?_
  rotate_left
  · (intro w hSw; (try dsimp only at hSw); go_simp) <;> with_reducible rfl
  try simp only [Act.put, List.setIfInBounds_toArray, List.set_cons_zero, List.set_cons_succ]
  refine takeD (i := 3) (d := some 9) (v := ?_) _ rfl rfl (by kernel_rfl) (by kernel_rfl) (by kernel_rfl) (fun _ _ _ h => h) (by rfl) ?_ (by assumption) ?_
  rotate_left
  · (intro w hSw; (try dsimp only at hSw); go_simp) <;> with_reducible rfl
  try simp only [Act.put, List.setIfInBounds_toArray, List.set_cons_zero, List.set_cons_succ]
  refine takeD (i := 4) (d := some 10) (v := ?_) _ rfl rfl (by kernel_rfl) (by kernel_rfl) (by kernel_rfl) (fun _ _ _ h => h) (by rfl) ?_ (by assumption) ?_
  rotate_left
  · (intro w hSw; (try dsimp only at hSw); go_simp) <;> with_reducible rfl
  try simp only [Act.put, List.setIfInBounds_toArray, List.set_cons_zero, List.set_cons_succ]
  refine takeD (i := 5) (d := some 11) (v := ?_) _ rfl rfl (by kernel_rfl) (by kernel_rfl) (by kernel_rfl) (fun _ _ _ h => h) (by rfl) ?_ (by assumption) ?_
  rotate_left
  · (intro w hSw; (try dsimp only at hSw); go_simp) <;> with_reducible rfl
  try simp only [Act.put, List.setIfInBounds_toArray, List.set_cons_zero, List.set_cons_succ]
  refine takeD (i := 6) (d := some 12) (v := ?_) _ rfl rfl (by kernel_rfl) (by kernel_rfl) (by kernel_rfl) (fun _ _ _ h => h) (by rfl) ?_ (by assumption) ?_
  rotate_left
  · (intro w hSw; (try dsimp only at hSw); go_simp) <;> with_reducible rfl
  try simp only [Act.put, List.setIfInBounds_toArray, List.set_cons_zero, List.set_cons_succ]
  refine takeD (i := 7) (d := some 13) (v := ?_) _ rfl rfl (by kernel_rfl) (by kernel_rfl) (by kernel_rfl) (fun _ _ _ h => h) (by rfl) ?_ (by assumption) ?_
  rotate_left
  · (intro w hSw; (try dsimp only at hSw); go_simp) <;> with_reducible rfl
  try simp only [Act.put, List.setIfInBounds_toArray, List.set_cons_zero, List.set_cons_succ]
  refine takeD (i := 8) (d := some 2) (v := ?_) _ rfl rfl (by kernel_rfl) (by kernel_rfl) (by kernel_rfl) (fun _ _ _ h => h) (by rfl) ?_ (by assumption) ?_
  rotate_left
  · (intro w hSw; (try dsimp only at hSw); go_simp) <;> with_reducible rfl
  try simp only [Act.put, List.setIfInBounds_toArray, List.set_cons_zero, List.set_cons_succ]
  refine takeD (i := 9) (d := some 3) (v := ?_) _ rfl rfl (by kernel_rfl) (by kernel_rfl) (by kernel_rfl) (fun _ _ _ h => h) (by rfl) ?_ (by assumption) ?_
  rotate_left
  · (intro w hSw; (try dsimp only at hSw); go_simp) <;> with_reducible rfl
  try simp only [Act.put, List.setIfInBounds_toArray, List.set_cons_zero, List.set_cons_succ]
  refine wpAnyH_done (by kernel_rfl) ?_ _
  have HB := Lib.hid hHeld.1
  clear hHeld d2 d4
  go_wp2_with fail
  go_ret2
  exact ⟨rfl, HB.out⟩
theorem words_any (lo : Nat) (p : Nat → Prop) (g : Nat) (n k : Int) (has : Bool) (M : List Int) (st : Int) (w : World) (h : PV lo w p g n k has M st) :
    Calls Try.prog 19 #[.pointer (some ⟨g, 0, none⟩)] w fun e w' => e = .returned (.int .i64 n) ∧ w' = w := by
  obtain ⟨Am, cm, a, b⟩ := h.five
  have d0 : w.cell? ⟨g, 0, none⟩ = some (.int .i64 n) := by rw [(row_cell a 0).1]; rfl
  have d1 : w.cell? ⟨g, 1, none⟩ = some (.int .i64 k) := by rw [(row_cell a 1).1]; rfl
  have d2 : w.cell? ⟨g, 2, none⟩ = some (.bool has) := by rw [(row_cell a 2).1]; rfl
  have d3 : w.cell? ⟨g, 3, none⟩ = some (.slice Am M.length cm) := by rw [(row_cell a 3).1]; rfl
  have d4 : w.cell? ⟨g, 4, none⟩ = some (.int .i64 st) := by rw [(row_cell a 4).1]; rfl
  clear a b h d1 d2 d3 d4
  go_enter Try.func19, Try.ntmps19
  go_wp2_with fail
  go_ret
  exact ⟨rfl, rfl⟩
theorem refresh_any (lo : Nat) (p : Nat → Prop) (g : Nat) (n k : Int) (has : Bool) (M : List Int) (st : Int) (w : World) (h : PV lo w p g n k has M st) :
    Calls Try.prog 20 #[.pointer (some ⟨g, 0, none⟩)] w fun e w' => e = .returned (.int .i64 k) ∧ w' = w := by
  obtain ⟨Am, cm, a, b⟩ := h.five
  have d0 : w.cell? ⟨g, 0, none⟩ = some (.int .i64 n) := by rw [(row_cell a 0).1]; rfl
  have d1 : w.cell? ⟨g, 1, none⟩ = some (.int .i64 k) := by rw [(row_cell a 1).1]; rfl
  have d2 : w.cell? ⟨g, 2, none⟩ = some (.bool has) := by rw [(row_cell a 2).1]; rfl
  have d3 : w.cell? ⟨g, 3, none⟩ = some (.slice Am M.length cm) := by rw [(row_cell a 3).1]; rfl
  have d4 : w.cell? ⟨g, 4, none⟩ = some (.int .i64 st) := by rw [(row_cell a 4).1]; rfl
  clear a b h d0 d2 d3 d4
  go_enter Try.func20, Try.ntmps20
  go_wp2_with fail
  go_ret
  exact ⟨rfl, rfl⟩
theorem write_nil (t : Int) (v : Value) (w : World) : Calls Try.prog 13 #[.pointer none, .int .i64 t, v] w fun e w' => e = .returned (.int .i64 1) ∧ w' = w := by
  go_enter Try.func13, Try.ntmps13
  go_wp2_with fail
  go_ret
  exact ⟨rfl, rfl⟩
theorem read_nil (t : Int) (w : World) : Calls Try.prog 14 #[.pointer none, .int .i64 t] w fun e w' => e = .returned (.tuple #[.slice none 0 0, .bool false, .int .i64 1]) ∧ w' = w := by
  go_enter Try.func14, Try.ntmps14
  go_wp2_with fail
  go_ret3
  exact ⟨rfl, rfl⟩
theorem stamp_nil (w : World) : Calls Try.prog 18 #[.pointer none] w fun e w' => e = .returned (.tuple #[.int .i64 0, .bool false]) ∧ w' = w := by
  go_enter Try.func18, Try.ntmps18
  go_wp2_with fail
  go_ret2
  exact ⟨rfl, rfl⟩
theorem words_nil (w : World) : Calls Try.prog 19 #[.pointer none] w fun e w' => e = .returned (.int .i64 0) ∧ w' = w := by
  go_enter Try.func19, Try.ntmps19
  go_wp2_with fail
  go_ret
  exact ⟨rfl, rfl⟩
theorem refresh_nil (w : World) : Calls Try.prog 20 #[.pointer none] w fun e w' => e = .returned (.int .i64 0) ∧ w' = w := by
  go_enter Try.func20, Try.ntmps20
  go_wp2_with fail
  go_ret
  exact ⟨rfl, rfl⟩
theorem clone_nil (w : World) : Calls Try.prog 21 #[.pointer none] w fun e w' => e = .returned (.pointer none) ∧ w' = w := by
  go_enter Try.func21, Try.ntmps21
  go_wp2_with fail
  go_ret
  exact ⟨rfl, rfl⟩
theorem same_nil (w : World) : Calls Try.prog 22 #[.pointer none, .pointer none] w fun e w' => e = .returned (.bool true) ∧ w' = w := by
  go_enter Try.func22, Try.ntmps22
  go_wp2_with fail
  go_ret
  exact ⟨rfl, rfl⟩
theorem clear_nil (w : World) : Calls Try.prog 17 #[.pointer none] w fun e w' => e = .returned (.tuple #[]) ∧ w' = w := by
  go_enter Try.func17, Try.ntmps17
  go_wp2_with (first | go_end0)
  try go_end0
  all_goals first | exact ⟨rfl, rfl⟩ | rfl
theorem same_nil_l (g : Nat) (w : World) : Calls Try.prog 22 #[.pointer none, .pointer (some ⟨g, 0, none⟩)] w fun e w' => e = .returned (.bool false) ∧ w' = w := by
  have he : ∀ w : World, (binOp .eql 23 (.pointer none) (.pointer (some ⟨g, 0, none⟩))).run Try.prog w = .ok (.bool false) w := fun _ => rfl
  go_enter Try.func22, Try.ntmps22
  go_wp2_with fail
  go_ret
  exact ⟨rfl, rfl⟩
theorem same_nil_r (g : Nat) (w : World) : Calls Try.prog 22 #[.pointer (some ⟨g, 0, none⟩), .pointer none] w fun e w' => e = .returned (.bool false) ∧ w' = w := by
  have he : ∀ w : World, (binOp .eql 23 (.pointer (some ⟨g, 0, none⟩)) (.pointer none)).run Try.prog w = .ok (.bool false) w := fun _ => rfl
  go_enter Try.func22, Try.ntmps22
  go_wp2_with fail
  go_ret
  exact ⟨rfl, rfl⟩
end Go.Proofs.Ytmodkfboolmckaa.Sa
