/-
  What a queue does: Send, Push, Receive, Drain, Clear. Each statement bears its own conditions.
-/
import Derived.Test.YtejambofnffopaaQuA
namespace Go.Proofs.Ytejambofnffopaa.Q
open Go.RowKit Go.Proofs.Ytejambofnffopaa.F Go.Proofs.Ytejambofnffopaa.U
set_option linter.unusedVariables false
set_option linter.unusedSimpArgs false
/-- Behind a change: a list of messages is laid into the queue. -/
theorem QV.lay {lo : Nat} {w w5 wF : World} {p r P2 : Nat → Prop} {g : Nat} {n k : Int} {LL LL2 : List (List Int)} {lost lost' : Bool} {v2 c0 c1 c2 c3 : Value} {m2 : Nat} {S2 : List Sl} (h : QV lo w p r g n k LL lost)
    (hg : w5.heap[g]? = some (.cells #[c0, c1, c2, c3] 61 (0, 0))) (ho : Ow 33 w5 P2 v2 m2 (CS S2)) (hm : Ms w5 r S2 LL2) (hf : Fo p w w5) (hP : ∀ b, v2.ownBlock = some b → p b ∨ w.heap.size ≤ b)
    (hb : (LL2.length : Int) ≤ k ∧ ∀ L ∈ LL2, (L.length : Int) ≤ n) (hgF : wF.heap[g]? = some (.cells #[.int .i64 n, .int .i64 k, v2, .bool lost'] 61 (0, 0))) (hfF : Fo (fun b => b = g) w5 wF) :
    ∃ q, QV lo wF q r g n k LL2 lost' ∧ Nx p q w wF := by
  have hlt := h.lt
  have hnl := h.nil
  have hsz := hf.size
  have hszF := hfF.size
  have hmm : m2 = LL2.length := by have := ho.len; rw [hm.mr.len2] at this; exact this.symm
  subst hmm
  have ho2 : Ow 33 wF (fun b => P2 b ∧ b ≠ g) v2 LL2.length (CS S2) := (ho.not hg ne_sq).fo hfF fun b hb => hb.2
  have hty : Ty w5 (fun b => b = g) := fun b hb _ => by subst hb; exact ⟨_, _, _, hg, fun e => ne_uq e.symm⟩
  refine ⟨fun b => b = g ∨ v2.ownBlock = some b, ⟨fun b hb => ?_, fun b hb _ => ?_, .inl rfl, ⟨v2, S2, hgF, ⟨ho2.own, fun b hb => ⟨.inr hb, (ho2.at_ b hb).2⟩⟩, hm.fot hfF hty⟩, h.bd.1, h.bd.2.1, h.bd.2.2.1, h.bd.2.2.2.1, hb.1, hb.2⟩, hf.trans hfF fun i hi => .inl (by rw [hi]; exact h.pg), fun b hb => ?_⟩
  · rcases hb with hb | hb
    · subst hb; have := (h.low _ h.pg).1; omega
    · have h1 := (ho2.at_ b hb).2
      rcases hP b hb with h2 | h2
      · have := (h.low b h2).1; omega
      · omega
  · rcases hb with hb | hb
    · subst hb; exact ⟨_, _, _, hgF, fun e => ne_uq e.symm⟩
    · rcases ho2.form with ⟨h0, _⟩ | ⟨b1, cap, cur, hv, _, _, hg1, _⟩
      · rw [h0] at hb; cases hb
      · rw [hv] at hb
        injection hb with hb
        have hb : b1 = b := hb
        subst hb
        exact ⟨_, _, _, hg1, fun e => ne_us e.symm⟩
  · rcases hb with hb | hb
    · exact .inl (by rw [hb]; exact h.pg)
    · exact hP b hb
theorem one_mr {w : World} {P : Nat → Prop} {A : Option Addr} {m c : Nat} {K : List Int} (h : Sq w P (.slice A m c) K.length (CU K)) : Mr w P [(A, m, c)] [K] := by
  refine ⟨rfl, fun i s L h1 h2 => ?_⟩
  match i with
  | 0 => simp at h1 h2; subst h1 h2; exact h
  | i + 1 => simp at h1
set_option maxRecDepth 100000 in
set_option maxHeartbeats 8000000 in
theorem add_no (lo : Nat) (p r : Nat → Prop) (g : Nat) (n k : Int) (LL : List (List Int)) (lost : Bool) (P : Nat → Prop) (A : Option Addr) (nk c : Nat) (K : List Int) (full x : Int) (w : World) (h : QV lo w p r g n k LL lost) (hv : Sq w P (.slice A nk c) nk (CU K)) (hx0 : chkV n (k - (LL.length : Int)) full [K] = x) (hxn : ¬ x = 0) :
    Calls Try.prog 28 #[.pointer (some ⟨g, 0, none⟩), .int .i64 full, .slice A nk c] w fun e w' => e = .returned (.int .i64 x) ∧ Below w.heap.size w w' := by
  have hkn : K.length = nk := by have := hv.len; simpa [CU] using this
  have hx : Below w.heap.size w (w.alloc (.cells #[.slice A nk c] 33)) := (Below.refl _ _).alloc (Nat.le_refl _) _
  have CH := Lib.hid (check_any lo p r g n k LL lost _ _ full (some ⟨w.heap.size, 0, none⟩) 1 1 [(A, nk, c)] [K] _ (h.below hx) (Sq.lit w #[.slice A nk c] 33 1 1 rfl) (one_mr (by rw [hkn]; exact hv.belowP hx)) (by omega))
  rw [hx0] at CH
  have HX := Lib.hid hx
  have hxb : (x == 0) = false := by simpa using hxn
  clear h hv hkn hx hx0
  go_enter Try.func28, Try.ntmps28
  go_wp2_with fail
  refine CH.out.mono ?_
  rintro e w3 ⟨rfl, b3⟩
  have B3 : Hid (Below w.heap.size w w3) := HX.out.trans (b3.mono HX.out.size)
  clear b3
  go_wp2_with fail
  go_ret
  exact ⟨rfl, B3.out⟩
set_option maxRecDepth 100000 in
set_option maxHeartbeats 8000000 in
theorem add_ok (lo : Nat) (p r : Nat → Prop) (g : Nat) (n k : Int) (LL : List (List Int)) (lost : Bool) (P : Nat → Prop) (A : Option Addr) (nk c : Nat) (K : List Int) (full : Int) (w : World) (h : QV lo w p r g n k LL lost) (hv : Sq w P (.slice A nk c) nk (CU K)) (hx0 : chkV n (k - (LL.length : Int)) full [K] = 0) (hfl : full ≠ 0) (hr : ∀ b, w.heap.size ≤ b → r b) :
    Calls Try.prog 28 #[.pointer (some ⟨g, 0, none⟩), .int .i64 full, .slice A nk c] w fun e w' => ∃ q, e = .returned (.int .i64 0) ∧ QV lo w' q r g n k (LL ++ [K]) lost ∧ Nx p q w w' := by
  obtain ⟨i0, hi, hz0, hz1, hz2⟩ := info_of sl_info
  have hfit : ¬ n < (K.length : Int) ∧ ¬ k - (LL.length : Int) < 1 := by
    unfold chkV big at hx0
    simp only [List.any_cons, List.any_nil, Bool.or_false, decide_eq_true_eq, List.length_cons, List.length_nil] at hx0
    constructor
    · intro h1; rw [if_pos h1] at hx0; omega
    · intro h1
      by_cases h2 : n < (K.length : Int)
      · rw [if_pos h2] at hx0; omega
      · rw [if_neg h2, if_pos (by simpa using h1)] at hx0; exact hfl hx0
  have HBD : Hid (((LL ++ [K]).length : Int) ≤ k ∧ ∀ L ∈ LL ++ [K], (L.length : Int) ≤ n) := by
    refine ⟨by have := h.bd; simp; omega, fun L hL => ?_⟩
    rcases List.mem_append.1 hL with hL | hL
    · exact h.bd.2.2.2.2.2 L hL
    · simp at hL; subst hL; omega
  have hkn : K.length = nk := by have := hv.len; simpa [CU] using this
  have hx : Below w.heap.size w (w.alloc (.cells #[.slice A nk c] 33)) := (Below.refl _ _).alloc (Nat.le_refl _) _
  have CH := Lib.hid (check_any lo p r g n k LL lost _ _ full (some ⟨w.heap.size, 0, none⟩) 1 1 [(A, nk, c)] [K] _ (h.below hx) (Sq.lit w #[.slice A nk c] 33 1 1 rfl) (one_mr (by rw [hkn]; exact hv.belowP hx)) (by omega))
  rw [hx0] at CH
  have HX := Lib.hid hx
  obtain ⟨Am, cm, S, a, b, c0⟩ := h.four
  have CE : Hid (∀ W (hb : Below w.heap.size w W), Calls Try.prog 34 #[.slice A nk c] W fun e w' => (∃ r, e = .returned r ∧ w'.ownsRow W.heap.size 52 1 r nk (CU K)) ∧ Below W.heap.size W w') := fun W hb => U.uclone_any _ _ _ _ W (hv.belowP hb).st (CU_one _) (by have := h.bd; omega)
  have HQ : Hid (∀ W, Below w.heap.size w W → W.heap[g]? = some (.cells #[.int .i64 n, .int .i64 k, .slice Am LL.length cm, .bool lost] 61 (0, 0)) ∧ ∃ S, Ow 33 W p (.slice Am LL.length cm) LL.length (CS S) ∧ Ms W r S LL) := fun W hb => ⟨(hb.block g h.lt).trans a, S, b.below hb, c0.below hb⟩
  have H2 : Hid (∀ W, Below w.heap.size w W → W.cell? ⟨g, 2, none⟩ = some (.slice Am LL.length cm)) := fun W hb => by rw [(row_cell (HQ.out W hb).1 2).1]; rfl
  have HR := Lib.hid hr
  have HH := Lib.hid h
  obtain ⟨nm, hnm⟩ : ∃ k, LL.length = k := ⟨_, rfl⟩
  have HK : Hid (K.length = nk ∧ nm ≤ 32 ∧ nk ≤ 32) := ⟨hkn, by have := h.bd; omega, by have := h.bd; omega⟩
  rw [hnm] at HQ H2
  clear h hv hkn hx hx0 hfit a b c0 hnm hr
  go_enter Try.func28, Try.ntmps28
  go_wp2_with fail
  refine CH.out.mono ?_
  rintro e w3 ⟨rfl, b3⟩
  have B3 : Hid (Below w.heap.size w w3) := HX.out.trans (b3.mono HX.out.size)
  clear b3
  go_wp2_with fail
  refine wp_region_held_drew (S := (fun _ => True)) (by kernel_rfl) trivial (fun hHeld => ?_)
  clear hHeld
  refine takeD (i := 0) (d := some 15) (v := ?_) _ rfl rfl (by kernel_rfl) (by kernel_rfl) (by kernel_rfl) (fun _ _ _ h => h) (by rfl) ?_ trivial ?_
  rotate_left
  · (intro w hSw; (try dsimp only at hSw); go_simp) <;> with_reducible rfl
  try simp only [Act.put, List.setIfInBounds_toArray, List.set_cons_zero, List.set_cons_succ]
  refine takeD (i := 1) (d := some 16) (v := ?_) _ rfl rfl (by kernel_rfl) (by kernel_rfl) (by kernel_rfl) (fun _ _ _ h => h) (by rfl) ?_ trivial ?_
  rotate_left
  · (intro w hSw; (try dsimp only at hSw); go_simp) <;> with_reducible rfl
  try simp only [Act.put, List.setIfInBounds_toArray, List.set_cons_zero, List.set_cons_succ]
  refine takeD (i := 2) (d := some 17) (v := ?_) _ rfl rfl (by kernel_rfl) (by kernel_rfl) (by kernel_rfl) (fun _ _ _ h => h) (by rfl) ?_ trivial ?_
  rotate_left
  · (intro w hSw; (try dsimp only at hSw); go_simp) <;> with_reducible rfl
  try simp only [Act.put, List.setIfInBounds_toArray, List.set_cons_zero, List.set_cons_succ]
  refine takeD (i := 3) (d := some 18) (v := ?_) _ rfl rfl (by kernel_rfl) (by kernel_rfl) (by kernel_rfl) (fun _ _ _ h => h) (by rfl) ?_ trivial ?_
  rotate_left
  · (intro w hSw; (try dsimp only at hSw); go_simp) <;> with_reducible rfl
  try simp only [Act.put, List.setIfInBounds_toArray, List.set_cons_zero, List.set_cons_succ]
  refine takeD (i := 5) (d := some 20) (v := ?_) _ rfl rfl (by kernel_rfl) (by kernel_rfl) (by kernel_rfl) (fun _ _ _ h => h) (by rfl) ?_ trivial ?_
  rotate_left
  · (intro w hSw; (try dsimp only at hSw); go_simp) <;> with_reducible rfl
  try simp only [Act.put, List.setIfInBounds_toArray, List.set_cons_zero, List.set_cons_succ]
  obtain ⟨V, hV⟩ : ∃ V, w3.drew = V := ⟨_, rfl⟩
  have B_V : Hid (Below w.heap.size w V) := by rw [← hV]; exact B3.out.drew
  simp only [hV]
  clear hV
  refine wpAnyH_ready (rs := [4, 6]) (by kernel_rfl) (by simp) ?_
  refine AllReadyH.cons rfl (fun K0 hK => ?_) (AllReadyH.cons rfl (fun K0 hK => ?_) (AllReadyH.nil))
  · have l0 := H2.out V B_V.out
    try go_simp
    refine hK.out _ _ trivial (fun _ => ?_)
    clear l0
    clear hK K0
    try simp only [Act.put, List.getElem_toArray, List.getElem_cons_succ, List.getElem_cons_zero, List.setIfInBounds_toArray, List.set_cons_zero, List.set_cons_succ]
    refine wpAnyH_ready (rs := [6]) (by kernel_rfl) (by simp) ?_
    refine AllReadyH.cons rfl (fun K0 hK => ?_) (AllReadyH.nil)
    try go_simp
    go_at_call 34
    refine (CE.out V B_V.out).mono ?_
    rintro e Vb ⟨⟨rv, rfl, r1⟩, b_Vb⟩
    obtain ⟨Ar, cr, rfl⟩ := slice_form r1
    have NM : Hid (Ow 52 Vb (fun b => w.heap.size ≤ b) (.slice Ar nk cr) nk (CU K)) := (Ow.of_own r1).imp fun b _ hb => by have := B_V.out.size; omega
    have B_Vb : Hid (Below w.heap.size w Vb) := B_V.out.trans (b_Vb.mono B_V.out.size)
    clear r1 b_Vb
    try go_wp2_with fail
    refine hK.out _ _ trivial (fun _ => ?_)
    clear hK K0
    try simp only [Act.put, List.getElem_toArray, List.getElem_cons_succ, List.getElem_cons_zero, List.setIfInBounds_toArray, List.set_cons_zero, List.set_cons_succ]
    refine wpAnyH_ready (rs := [7]) (by kernel_rfl) (by simp) ?_
    refine AllReadyH.cons rfl (fun K0 hK => ?_) (AllReadyH.nil)
    have hx : Below Vb.heap.size Vb (Vb.alloc (.cells #[.slice Ar nk cr] 33)) := (Below.refl _ _).alloc (Nat.le_refl _) _
    have RD := Lib.hid (one_row (w := Vb) (.slice Ar nk cr) 33)
    obtain ⟨Vba, h_Vba⟩ : ∃ W, Vb.alloc (.cells #[.slice Ar nk cr] 33) = W := ⟨_, rfl⟩
    obtain ⟨bz, h_bz⟩ : ∃ vb, Vb.heap.size = vb := ⟨_, rfl⟩
    rw [h_Vba] at hx RD
    have NM := Lib.hid (NM.out.below hx)
    have B_Vba : Hid (Below w.heap.size w Vba) := B_Vb.out.trans (hx.mono B_Vb.out.size)
    rw [h_bz] at RD
    try go_simp
    try rw [h_Vba]
    try rw [h_bz]
    refine hK.out _ _ trivial (fun _ => ?_)
    clear h_Vba h_bz hx
    clear hK K0
    try simp only [Act.put, List.getElem_toArray, List.getElem_cons_succ, List.getElem_cons_zero, List.setIfInBounds_toArray, List.set_cons_zero, List.set_cons_succ]
    refine wpAnyH_ready (rs := [8]) (by kernel_rfl) (by simp) ?_
    refine AllReadyH.cons rfl (fun K0 hK => ?_) (AllReadyH.nil)
    obtain ⟨hg8, S8, ho8, hm8⟩ := HQ.out Vba B_Vba.out
    have HG8 := Lib.hid hg8
    have HO8 := Lib.hid ho8
    have HM8 := Lib.hid hm8
    clear hg8 ho8 hm8
    refine wp_append_any Vba (.tmp 19) (.tmp 22) 27 rfl 0 33 i0 (.slice none 0 0) 1 24 Try.underlying27 hi hz0 hz1 hz2 rfl (by decide) (.slice Am nm cm) nm (CS S8) rfl HO8.out.own (bz + 1) (some ⟨bz, 0, none⟩) 1 1 [.slice Ar nk cr] rfl RD.out (fun u hu => by simp at hu; subst hu; rfl) (by have := HK.out; unfold maxLen; omega) (by have := HK.out; omega) (Nat.zero_le _) ?_
    intro v2 w5 hown hgrow hblk
    obtain ⟨A2, c2, rfl⟩ := slice_form hown
    have G := HO8.out.grow hown hgrow (by
      rcases hblk with h | h
      · exact .inl h
      · exact .inr h)
    have hng : (Value.slice Am nm cm).ownBlock ≠ some g := fun e => ((HO8.out.not HG8.out ne_sq).at_ g e).1.2 rfl
    have hg5 : w5.heap[g]? = some (.cells #[.int .i64 n, .int .i64 k, .slice Am nm cm, .bool lost] 61 (0, 0)) := (hgrow.block g (Array.getElem?_eq_some_iff.1 HG8.out).1 (fun e => hng e.symm)).trans HG8.out
    have hm5 : Ms w5 r (S8 ++ [(Ar, nk, cr)]) (LL ++ [K]) := by
      have hty : Ty Vba (fun b => (Value.slice Am nm cm).ownBlock = some b) := fun b hb hl => by
        rcases HO8.out.form with ⟨h0, _⟩ | ⟨b1, cap, cur, hv, _, _, hg1, _⟩
        · rw [h0] at hb; cases hb
        · rw [hv] at hb
          injection hb with hb
          have hb : b1 = b := hb
          subst hb
          exact ⟨_, _, _, hg1, fun e => ne_us e.symm⟩
      have hfo : Fo (fun b => (Value.slice Am nm cm).ownBlock = some b) Vba w5 := ⟨hgrow.os, hgrow.tape, hgrow.output, hgrow.size, fun k hk hn => hgrow.block k hk (fun e => hn e.symm)⟩
      have hn : Ow 52 Vba r (slv (Ar, nk, cr)) K.length (CU K) := by rw [HK.out.1]; exact NM.out.imp fun b _ hb => HR.out b hb
      exact (HM8.out.app (Ms.one hn)).fot hfo hty
    have hf5 : Fo p w w5 := (Fo.of_below B_Vba.out).trans G.2 fun i hi => .inl hi
    have g5 : w5.cell? ⟨g, 2, none⟩ = some (.slice Am nm cm) := by rw [(row_cell hg5 2).1]; rfl
    have gf : w5.frozen? ⟨g, 2, none⟩ = false := (row_cell hg5 2).2
    have Q : Hid (∃ q, QV lo (w5.setCell ⟨g, 2, none⟩ (.slice A2 (nm + 1) c2)) q r g n k (LL ++ [K]) lost ∧ Nx p q w (w5.setCell ⟨g, 2, none⟩ (.slice A2 (nm + 1) c2))) := by
      have ho5 : Ow 33 w5 (fun b => p b ∨ (Vba.heap.size ≤ b ∧ b < w5.heap.size)) (.slice A2 (nm + 1) c2) (nm + 1) (CS (S8 ++ [(Ar, nk, cr)])) := by rw [CS_app]; exact G.1
      refine HH.out.lay hg5 ho5 hm5 hf5 (fun b hb => ?_) HBD.out (set_at hg5 2 _) ((Fo.refl (fun b => b = g) w5).setCell (.inl rfl) 2 _)
      rcases (ho5.at_ b hb).1 with h | h
      · exact .inl h
      · exact .inr (by have := B_Vba.out.size; omega)
    clear hown hgrow hblk G hng hg5 hm5 hf5
    refine hK.out _ _ trivial (fun _ => ?_)
    clear hK K0
    try simp only [Act.put, List.getElem_toArray, List.getElem_cons_succ, List.getElem_cons_zero, List.setIfInBounds_toArray, List.set_cons_zero, List.set_cons_succ]
    refine takeD (i := 9) (d := some 24) (v := ?_) _ rfl rfl (by kernel_rfl) (by kernel_rfl) (by kernel_rfl) (fun _ _ _ h => h) (by rfl) ?_ trivial ?_
    rotate_left
    · (intro w hSw; (try dsimp only at hSw); go_simp) <;> with_reducible rfl
    try simp only [Act.put, List.setIfInBounds_toArray, List.set_cons_zero, List.set_cons_succ]
    refine takeD (i := 10) (d := some 25) (v := ?_) _ rfl rfl (by kernel_rfl) (by kernel_rfl) (by kernel_rfl) (fun _ _ _ h => h) (by rfl) ?_ trivial ?_
    rotate_left
    · (intro w hSw; (try dsimp only at hSw); go_simp) <;> with_reducible rfl
    try simp only [Act.put, List.setIfInBounds_toArray, List.set_cons_zero, List.set_cons_succ]
    refine wpAnyH_ready (rs := [11]) (by kernel_rfl) (by simp) ?_
    refine AllReadyH.cons rfl (fun K0 hK => ?_) (AllReadyH.nil)
    try go_simp
    refine hK.out _ _ trivial (fun _ => ?_)
    clear hK K0
    try simp only [Act.put, List.getElem_toArray, List.getElem_cons_succ, List.getElem_cons_zero, List.setIfInBounds_toArray, List.set_cons_zero, List.set_cons_succ]
    refine wpAnyH_done (by kernel_rfl) ?_ _
    go_wp2_with fail
    go_ret
    obtain ⟨q, q1, q2⟩ := Q.out
    first | exact ⟨q, rfl, q1, q2⟩ | exact ⟨_, rfl, q1, q2⟩
  · try go_simp
    go_at_call 34
    refine (CE.out V B_V.out).mono ?_
    rintro e Vb ⟨⟨rv, rfl, r1⟩, b_Vb⟩
    obtain ⟨Ar, cr, rfl⟩ := slice_form r1
    have NM : Hid (Ow 52 Vb (fun b => w.heap.size ≤ b) (.slice Ar nk cr) nk (CU K)) := (Ow.of_own r1).imp fun b _ hb => by have := B_V.out.size; omega
    have B_Vb : Hid (Below w.heap.size w Vb) := B_V.out.trans (b_Vb.mono B_V.out.size)
    clear r1 b_Vb
    try go_wp2_with fail
    refine hK.out _ _ trivial (fun _ => ?_)
    clear hK K0
    try simp only [Act.put, List.getElem_toArray, List.getElem_cons_succ, List.getElem_cons_zero, List.setIfInBounds_toArray, List.set_cons_zero, List.set_cons_succ]
    refine wpAnyH_ready (rs := [4, 7]) (by kernel_rfl) (by simp) ?_
    refine AllReadyH.cons rfl (fun K0 hK => ?_) (AllReadyH.cons rfl (fun K0 hK => ?_) (AllReadyH.nil))
    · have l0 := H2.out Vb B_Vb.out
      try go_simp
      refine hK.out _ _ trivial (fun _ => ?_)
      clear l0
      clear hK K0
      try simp only [Act.put, List.getElem_toArray, List.getElem_cons_succ, List.getElem_cons_zero, List.setIfInBounds_toArray, List.set_cons_zero, List.set_cons_succ]
      refine wpAnyH_ready (rs := [7]) (by kernel_rfl) (by simp) ?_
      refine AllReadyH.cons rfl (fun K0 hK => ?_) (AllReadyH.nil)
      have hx : Below Vb.heap.size Vb (Vb.alloc (.cells #[.slice Ar nk cr] 33)) := (Below.refl _ _).alloc (Nat.le_refl _) _
      have RD := Lib.hid (one_row (w := Vb) (.slice Ar nk cr) 33)
      obtain ⟨Vba, h_Vba⟩ : ∃ W, Vb.alloc (.cells #[.slice Ar nk cr] 33) = W := ⟨_, rfl⟩
      obtain ⟨bz, h_bz⟩ : ∃ vb, Vb.heap.size = vb := ⟨_, rfl⟩
      rw [h_Vba] at hx RD
      have NM := Lib.hid (NM.out.below hx)
      have B_Vba : Hid (Below w.heap.size w Vba) := B_Vb.out.trans (hx.mono B_Vb.out.size)
      rw [h_bz] at RD
      try go_simp
      try rw [h_Vba]
      try rw [h_bz]
      refine hK.out _ _ trivial (fun _ => ?_)
      clear h_Vba h_bz hx
      clear hK K0
      try simp only [Act.put, List.getElem_toArray, List.getElem_cons_succ, List.getElem_cons_zero, List.setIfInBounds_toArray, List.set_cons_zero, List.set_cons_succ]
      refine wpAnyH_ready (rs := [8]) (by kernel_rfl) (by simp) ?_
      refine AllReadyH.cons rfl (fun K0 hK => ?_) (AllReadyH.nil)
      obtain ⟨hg8, S8, ho8, hm8⟩ := HQ.out Vba B_Vba.out
      have HG8 := Lib.hid hg8
      have HO8 := Lib.hid ho8
      have HM8 := Lib.hid hm8
      clear hg8 ho8 hm8
      refine wp_append_any Vba (.tmp 19) (.tmp 22) 27 rfl 0 33 i0 (.slice none 0 0) 1 24 Try.underlying27 hi hz0 hz1 hz2 rfl (by decide) (.slice Am nm cm) nm (CS S8) rfl HO8.out.own (bz + 1) (some ⟨bz, 0, none⟩) 1 1 [.slice Ar nk cr] rfl RD.out (fun u hu => by simp at hu; subst hu; rfl) (by have := HK.out; unfold maxLen; omega) (by have := HK.out; omega) (Nat.zero_le _) ?_
      intro v2 w5 hown hgrow hblk
      obtain ⟨A2, c2, rfl⟩ := slice_form hown
      have G := HO8.out.grow hown hgrow (by
        rcases hblk with h | h
        · exact .inl h
        · exact .inr h)
      have hng : (Value.slice Am nm cm).ownBlock ≠ some g := fun e => ((HO8.out.not HG8.out ne_sq).at_ g e).1.2 rfl
      have hg5 : w5.heap[g]? = some (.cells #[.int .i64 n, .int .i64 k, .slice Am nm cm, .bool lost] 61 (0, 0)) := (hgrow.block g (Array.getElem?_eq_some_iff.1 HG8.out).1 (fun e => hng e.symm)).trans HG8.out
      have hm5 : Ms w5 r (S8 ++ [(Ar, nk, cr)]) (LL ++ [K]) := by
        have hty : Ty Vba (fun b => (Value.slice Am nm cm).ownBlock = some b) := fun b hb hl => by
          rcases HO8.out.form with ⟨h0, _⟩ | ⟨b1, cap, cur, hv, _, _, hg1, _⟩
          · rw [h0] at hb; cases hb
          · rw [hv] at hb
            injection hb with hb
            have hb : b1 = b := hb
            subst hb
            exact ⟨_, _, _, hg1, fun e => ne_us e.symm⟩
        have hfo : Fo (fun b => (Value.slice Am nm cm).ownBlock = some b) Vba w5 := ⟨hgrow.os, hgrow.tape, hgrow.output, hgrow.size, fun k hk hn => hgrow.block k hk (fun e => hn e.symm)⟩
        have hn : Ow 52 Vba r (slv (Ar, nk, cr)) K.length (CU K) := by rw [HK.out.1]; exact NM.out.imp fun b _ hb => HR.out b hb
        exact (HM8.out.app (Ms.one hn)).fot hfo hty
      have hf5 : Fo p w w5 := (Fo.of_below B_Vba.out).trans G.2 fun i hi => .inl hi
      have g5 : w5.cell? ⟨g, 2, none⟩ = some (.slice Am nm cm) := by rw [(row_cell hg5 2).1]; rfl
      have gf : w5.frozen? ⟨g, 2, none⟩ = false := (row_cell hg5 2).2
      have Q : Hid (∃ q, QV lo (w5.setCell ⟨g, 2, none⟩ (.slice A2 (nm + 1) c2)) q r g n k (LL ++ [K]) lost ∧ Nx p q w (w5.setCell ⟨g, 2, none⟩ (.slice A2 (nm + 1) c2))) := by
        have ho5 : Ow 33 w5 (fun b => p b ∨ (Vba.heap.size ≤ b ∧ b < w5.heap.size)) (.slice A2 (nm + 1) c2) (nm + 1) (CS (S8 ++ [(Ar, nk, cr)])) := by rw [CS_app]; exact G.1
        refine HH.out.lay hg5 ho5 hm5 hf5 (fun b hb => ?_) HBD.out (set_at hg5 2 _) ((Fo.refl (fun b => b = g) w5).setCell (.inl rfl) 2 _)
        rcases (ho5.at_ b hb).1 with h | h
        · exact .inl h
        · exact .inr (by have := B_Vba.out.size; omega)
      clear hown hgrow hblk G hng hg5 hm5 hf5
      refine hK.out _ _ trivial (fun _ => ?_)
      clear hK K0
      try simp only [Act.put, List.getElem_toArray, List.getElem_cons_succ, List.getElem_cons_zero, List.setIfInBounds_toArray, List.set_cons_zero, List.set_cons_succ]
      refine takeD (i := 9) (d := some 24) (v := ?_) _ rfl rfl (by kernel_rfl) (by kernel_rfl) (by kernel_rfl) (fun _ _ _ h => h) (by rfl) ?_ trivial ?_
      rotate_left
      · (intro w hSw; (try dsimp only at hSw); go_simp) <;> with_reducible rfl
      try simp only [Act.put, List.setIfInBounds_toArray, List.set_cons_zero, List.set_cons_succ]
      refine takeD (i := 10) (d := some 25) (v := ?_) _ rfl rfl (by kernel_rfl) (by kernel_rfl) (by kernel_rfl) (fun _ _ _ h => h) (by rfl) ?_ trivial ?_
      rotate_left
      · (intro w hSw; (try dsimp only at hSw); go_simp) <;> with_reducible rfl
      try simp only [Act.put, List.setIfInBounds_toArray, List.set_cons_zero, List.set_cons_succ]
      refine wpAnyH_ready (rs := [11]) (by kernel_rfl) (by simp) ?_
      refine AllReadyH.cons rfl (fun K0 hK => ?_) (AllReadyH.nil)
      try go_simp
      refine hK.out _ _ trivial (fun _ => ?_)
      clear hK K0
      try simp only [Act.put, List.getElem_toArray, List.getElem_cons_succ, List.getElem_cons_zero, List.setIfInBounds_toArray, List.set_cons_zero, List.set_cons_succ]
      refine wpAnyH_done (by kernel_rfl) ?_ _
      go_wp2_with fail
      go_ret
      obtain ⟨q, q1, q2⟩ := Q.out
      first | exact ⟨q, rfl, q1, q2⟩ | exact ⟨_, rfl, q1, q2⟩
    · have hx : Below Vb.heap.size Vb (Vb.alloc (.cells #[.slice Ar nk cr] 33)) := (Below.refl _ _).alloc (Nat.le_refl _) _
      have RD := Lib.hid (one_row (w := Vb) (.slice Ar nk cr) 33)
      obtain ⟨Vba, h_Vba⟩ : ∃ W, Vb.alloc (.cells #[.slice Ar nk cr] 33) = W := ⟨_, rfl⟩
      obtain ⟨bz, h_bz⟩ : ∃ vb, Vb.heap.size = vb := ⟨_, rfl⟩
      rw [h_Vba] at hx RD
      have NM := Lib.hid (NM.out.below hx)
      have B_Vba : Hid (Below w.heap.size w Vba) := B_Vb.out.trans (hx.mono B_Vb.out.size)
      rw [h_bz] at RD
      try go_simp
      try rw [h_Vba]
      try rw [h_bz]
      refine hK.out _ _ trivial (fun _ => ?_)
      clear h_Vba h_bz hx
      clear hK K0
      try simp only [Act.put, List.getElem_toArray, List.getElem_cons_succ, List.getElem_cons_zero, List.setIfInBounds_toArray, List.set_cons_zero, List.set_cons_succ]
      refine wpAnyH_ready (rs := [4]) (by kernel_rfl) (by simp) ?_
      refine AllReadyH.cons rfl (fun K0 hK => ?_) (AllReadyH.nil)
      have l0 := H2.out Vba B_Vba.out
      try go_simp
      refine hK.out _ _ trivial (fun _ => ?_)
      clear l0
      clear hK K0
      try simp only [Act.put, List.getElem_toArray, List.getElem_cons_succ, List.getElem_cons_zero, List.setIfInBounds_toArray, List.set_cons_zero, List.set_cons_succ]
      refine wpAnyH_ready (rs := [8]) (by kernel_rfl) (by simp) ?_
      refine AllReadyH.cons rfl (fun K0 hK => ?_) (AllReadyH.nil)
      obtain ⟨hg8, S8, ho8, hm8⟩ := HQ.out Vba B_Vba.out
      have HG8 := Lib.hid hg8
      have HO8 := Lib.hid ho8
      have HM8 := Lib.hid hm8
      clear hg8 ho8 hm8
      refine wp_append_any Vba (.tmp 19) (.tmp 22) 27 rfl 0 33 i0 (.slice none 0 0) 1 24 Try.underlying27 hi hz0 hz1 hz2 rfl (by decide) (.slice Am nm cm) nm (CS S8) rfl HO8.out.own (bz + 1) (some ⟨bz, 0, none⟩) 1 1 [.slice Ar nk cr] rfl RD.out (fun u hu => by simp at hu; subst hu; rfl) (by have := HK.out; unfold maxLen; omega) (by have := HK.out; omega) (Nat.zero_le _) ?_
      intro v2 w5 hown hgrow hblk
      obtain ⟨A2, c2, rfl⟩ := slice_form hown
      have G := HO8.out.grow hown hgrow (by
        rcases hblk with h | h
        · exact .inl h
        · exact .inr h)
      have hng : (Value.slice Am nm cm).ownBlock ≠ some g := fun e => ((HO8.out.not HG8.out ne_sq).at_ g e).1.2 rfl
      have hg5 : w5.heap[g]? = some (.cells #[.int .i64 n, .int .i64 k, .slice Am nm cm, .bool lost] 61 (0, 0)) := (hgrow.block g (Array.getElem?_eq_some_iff.1 HG8.out).1 (fun e => hng e.symm)).trans HG8.out
      have hm5 : Ms w5 r (S8 ++ [(Ar, nk, cr)]) (LL ++ [K]) := by
        have hty : Ty Vba (fun b => (Value.slice Am nm cm).ownBlock = some b) := fun b hb hl => by
          rcases HO8.out.form with ⟨h0, _⟩ | ⟨b1, cap, cur, hv, _, _, hg1, _⟩
          · rw [h0] at hb; cases hb
          · rw [hv] at hb
            injection hb with hb
            have hb : b1 = b := hb
            subst hb
            exact ⟨_, _, _, hg1, fun e => ne_us e.symm⟩
        have hfo : Fo (fun b => (Value.slice Am nm cm).ownBlock = some b) Vba w5 := ⟨hgrow.os, hgrow.tape, hgrow.output, hgrow.size, fun k hk hn => hgrow.block k hk (fun e => hn e.symm)⟩
        have hn : Ow 52 Vba r (slv (Ar, nk, cr)) K.length (CU K) := by rw [HK.out.1]; exact NM.out.imp fun b _ hb => HR.out b hb
        exact (HM8.out.app (Ms.one hn)).fot hfo hty
      have hf5 : Fo p w w5 := (Fo.of_below B_Vba.out).trans G.2 fun i hi => .inl hi
      have g5 : w5.cell? ⟨g, 2, none⟩ = some (.slice Am nm cm) := by rw [(row_cell hg5 2).1]; rfl
      have gf : w5.frozen? ⟨g, 2, none⟩ = false := (row_cell hg5 2).2
      have Q : Hid (∃ q, QV lo (w5.setCell ⟨g, 2, none⟩ (.slice A2 (nm + 1) c2)) q r g n k (LL ++ [K]) lost ∧ Nx p q w (w5.setCell ⟨g, 2, none⟩ (.slice A2 (nm + 1) c2))) := by
        have ho5 : Ow 33 w5 (fun b => p b ∨ (Vba.heap.size ≤ b ∧ b < w5.heap.size)) (.slice A2 (nm + 1) c2) (nm + 1) (CS (S8 ++ [(Ar, nk, cr)])) := by rw [CS_app]; exact G.1
        refine HH.out.lay hg5 ho5 hm5 hf5 (fun b hb => ?_) HBD.out (set_at hg5 2 _) ((Fo.refl (fun b => b = g) w5).setCell (.inl rfl) 2 _)
        rcases (ho5.at_ b hb).1 with h | h
        · exact .inl h
        · exact .inr (by have := B_Vba.out.size; omega)
      clear hown hgrow hblk G hng hg5 hm5 hf5
      refine hK.out _ _ trivial (fun _ => ?_)
      clear hK K0
      try simp only [Act.put, List.getElem_toArray, List.getElem_cons_succ, List.getElem_cons_zero, List.setIfInBounds_toArray, List.set_cons_zero, List.set_cons_succ]
      refine takeD (i := 9) (d := some 24) (v := ?_) _ rfl rfl (by kernel_rfl) (by kernel_rfl) (by kernel_rfl) (fun _ _ _ h => h) (by rfl) ?_ trivial ?_
      rotate_left
      · (intro w hSw; (try dsimp only at hSw); go_simp) <;> with_reducible rfl
      try simp only [Act.put, List.setIfInBounds_toArray, List.set_cons_zero, List.set_cons_succ]
      refine takeD (i := 10) (d := some 25) (v := ?_) _ rfl rfl (by kernel_rfl) (by kernel_rfl) (by kernel_rfl) (fun _ _ _ h => h) (by rfl) ?_ trivial ?_
      rotate_left
      · (intro w hSw; (try dsimp only at hSw); go_simp) <;> with_reducible rfl
      try simp only [Act.put, List.setIfInBounds_toArray, List.set_cons_zero, List.set_cons_succ]
      refine wpAnyH_ready (rs := [11]) (by kernel_rfl) (by simp) ?_
      refine AllReadyH.cons rfl (fun K0 hK => ?_) (AllReadyH.nil)
      try go_simp
      refine hK.out _ _ trivial (fun _ => ?_)
      clear hK K0
      try simp only [Act.put, List.getElem_toArray, List.getElem_cons_succ, List.getElem_cons_zero, List.setIfInBounds_toArray, List.set_cons_zero, List.set_cons_succ]
      refine wpAnyH_done (by kernel_rfl) ?_ _
      go_wp2_with fail
      go_ret
      obtain ⟨q, q1, q2⟩ := Q.out
      first | exact ⟨q, rfl, q1, q2⟩ | exact ⟨_, rfl, q1, q2⟩
end Go.Proofs.Ytejambofnffopaa.Q
