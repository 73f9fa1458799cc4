/-
  CallsDecodes' walk. Each statement bears its own conditions.
-/
import Derived.Test.YtglpbngdikfliaaDoorCaK
namespace Go.Proofs.YtglpbngdikfliaaDoor.Ca
open Go.RowKit Go.Proofs.YtglpbngdikfliaaDoor.F
set_option linter.unusedVariables false
set_option linter.unusedSimpArgs false
theorem dec_at {n : Int} {r : List Int} (hr : Regs r) : 0 ≤ (decQ n r).at_ ∧ (decQ n r).at_ ≤ 4294967295 := by
  have h1 := hr.at_ (i := 1) (by omega)
  unfold decQ
  split
  · split
    · show 0 ≤ (if aB n then r.getD 1 0 else 0) ∧ (if aB n then r.getD 1 0 else 0) ≤ 4294967295
      split
      · exact h1
      · omega
    · exact ⟨by decide, by decide⟩
  · exact ⟨by decide, by decide⟩
set_option maxRecDepth 100000 in
set_option maxHeartbeats 32000000 in
theorem decodes_walk (n : Int) (r o : List Int) (hr : Regs r) (ho : Regs o) (w : World) (hL : Laid w) : Calls Tryd.prog 3 #[.int .i64 n, .agg (RG r), .agg (RG o)] w fun e w' => e = .returned (.bool true) ∧ Below w.heap.size w w' := by
  have hsr := hr.size
  have hso := ho.size
  have HO := Lib.hid ho
  have HR := Lib.hid hr
  obtain ⟨X, hX⟩ : ∃ X, w.heap.size = X := ⟨_, rfl⟩
  obtain ⟨W0, hW0⟩ : ∃ W0, (w.alloc (.cells (RG r) 23)).alloc (.cells (RG o) 23) = W0 := ⟨_, rfl⟩
  have B_W0 : Hid (Below X w W0) := by rw [← hW0, ← hX]; exact ((Below.refl _ _).alloc (Nat.le_refl _) _).alloc (by simp) _
  have HX_W0 : Hid (W0.heap[X]? = some (.cells (RG r) 23 (0, 0))) := by
    unfold Hid; rw [← hW0, ← hX]; exact (((Below.refl _ _).alloc (by simp) _).block (B := (w.alloc (.cells (RG r) 23)).heap.size) _ (by simp)).trans (heap_alloc_new _ _)
  have HY_W0 : Hid (W0.heap[X + 1]? = some (.cells (RG o) 23 (0, 0))) := by
    unfold Hid; rw [← hW0, ← hX]; have := heap_alloc_new (w.alloc (.cells (RG r) 23)) (.cells (RG o) 23); simpa using this
  have S_W0 : Hid (X ≤ W0.heap.size) := by rw [← hW0, ← hX]; unfold Hid; simp; omega
  have HLw := Lib.hid hL
  have L_W0 : Hid (Laid W0) := hL.below (by rw [hX]; exact B_W0.out)
  obtain ⟨Q, hQ⟩ : ∃ Q, decQ n r = Q := ⟨_, rfl⟩
  obtain ⟨E, hE⟩ : ∃ E, decE n r = E := ⟨_, rfl⟩
  have CD : Hid (∀ W, Laid W → Calls Tryd.prog 9 #[.int .i64 n, .agg (RG r)] W fun e w' => e = .returned (.tuple #[Q.val, .int .i64 E]) ∧ Below W.heap.size W w') := fun W h => by rw [← hQ, ← hE]; exact decode_any n r hr W h
  have CR : Hid (∀ W, Calls Tryd.prog 10 #[.int .i64 n, .agg (RG r)] W fun e w' => e = .returned (.tuple #[Q.val, .int .i64 E]) ∧ Below W.heap.size W w') := fun W => by rw [← hQ, ← hE]; exact rdecode_any n r hr W
  have HBAD : Hid (¬ E = 0 → Q = zeroQ) := fun h => by rw [← hQ]; exact dec_bad (by rw [hE]; exact h)
  have HGOOD : Hid (E = 0 → validV Q = true ∧ Q.call = n) := fun h => by rw [← hQ]; exact dec_valid (by rw [hE]; exact h)
  have HAT : Hid (0 ≤ Q.at_ ∧ Q.at_ ≤ 4294967295) := by unfold Hid; rw [← hQ]; exact dec_at hr
  clear hQ hE hr ho hL
  obtain ⟨qn, qo, qa, qw, qt⟩ := Q
  have NEQ : ∀ W, (binOp .neq 29 (.agg #[.int .i64 qn, .int .i64 qo, .int .u32 qa, .int .i64 qw, .int .i64 qt]) (.agg #[.int .i64 qn, .int .i64 qo, .int .u32 qa, .int .i64 qw, .int .i64 qt])).run Tryd.prog W = .ok (.bool false) W := fun W => by have := req_neq ⟨qn, qo, qa, qw, qt⟩ ⟨qn, qo, qa, qw, qt⟩ W; rw [sameB_self] at this; exact this
  have EQL : ∀ W, (binOp .eql 25 (.agg #[.int .i64 qn, .int .i64 qo, .int .u32 qa, .int .i64 qw, .int .i64 qt]) (.agg #[.int .i64 qn, .int .i64 qo, .int .u32 qa, .int .i64 qw, .int .i64 qt])).run Tryd.prog W = .ok (.bool true) W := fun W => by have := req_eql ⟨qn, qo, qa, qw, qt⟩ ⟨qn, qo, qa, qw, qt⟩ W; rw [sameB_self] at this; exact this
  have HNE := Lib.hid NEQ
  have HEQ := Lib.hid EQL
  clear NEQ EQL
  simp only [hX]
  go_enter Tryd.func3, Tryd.ntmps3
  go_wp2_with (refine wpList_load_row rfl 23 _ rfl (X) rfl 23 _ (0, 0) _ HX_W0.out Tryd.underlying23 rfl (by rw [hsr]; exact size16) ?_)
  clear hW0
  refine (CD.out W0 L_W0.out).mono ?_
  rintro e w1 ⟨rfl, hb⟩
  have HX_w1 : Hid (w1.heap[X]? = some (.cells (RG r) 23 (0, 0))) := (hb.block (X) (Array.getElem?_eq_some_iff.1 HX_W0.out).1).trans HX_W0.out
  have HY_w1 : Hid (w1.heap[X + 1]? = some (.cells (RG o) 23 (0, 0))) := (hb.block (X + 1) (Array.getElem?_eq_some_iff.1 HY_W0.out).1).trans HY_W0.out
  have B_w1 : Hid (Below X w w1) := B_W0.out.trans (hb.mono S_W0.out)
  have S_w1 : Hid (X ≤ w1.heap.size) := Nat.le_trans S_W0.out hb.size
  have L_w1 : Hid (Laid w1) := HLw.out.below (by rw [hX]; exact B_w1.out)
  clear HX_W0 HY_W0 B_W0 S_W0 L_W0
  clear hb
  simp only [Rq.val]
  obtain ⟨T1, hT1⟩ : ∃ Z, w1.heap.size = Z := ⟨_, rfl⟩
  go_upto_region 2 with fail
  obtain ⟨w2, hw2⟩ : ∃ W, w1.alloc (.cells #[.int .i64 qn, .int .i64 qo, .int .u32 qa, .int .i64 qw, .int .i64 qt] 25) = W := ⟨_, rfl⟩
  rw [hw2]
  have hb : Below w1.heap.size w1 w2 := by rw [← hw2]; exact (Below.refl _ _).alloc (Nat.le_refl _) _
  have HT_w2 : Hid (w2.heap[T1]? = some (.cells #[.int .i64 qn, .int .i64 qo, .int .u32 qa, .int .i64 qw, .int .i64 qt] 25 (0, 0))) := by unfold Hid; rw [← hw2, ← hT1]; exact heap_alloc_new _ _
  have HX_w2 : Hid (w2.heap[X]? = some (.cells (RG r) 23 (0, 0))) := (hb.block (X) (Array.getElem?_eq_some_iff.1 HX_w1.out).1).trans HX_w1.out
  have HY_w2 : Hid (w2.heap[X + 1]? = some (.cells (RG o) 23 (0, 0))) := (hb.block (X + 1) (Array.getElem?_eq_some_iff.1 HY_w1.out).1).trans HY_w1.out
  have B_w2 : Hid (Below X w w2) := B_w1.out.trans (hb.mono S_w1.out)
  have S_w2 : Hid (X ≤ w2.heap.size) := Nat.le_trans S_w1.out hb.size
  have L_w2 : Hid (Laid w2) := HLw.out.below (by rw [hX]; exact B_w2.out)
  clear HX_w1 HY_w1 B_w1 S_w1 L_w1
  clear hb hw2 hT1
  go_wp2_with (refine wpList_load_row rfl 23 _ rfl (X) rfl 23 _ (0, 0) _ HX_w2.out Tryd.underlying23 rfl (by rw [hsr]; exact size16) ?_)
  refine (CR.out w2).mono ?_
  rintro e w3 ⟨rfl, hb⟩
  have HX_w3 : Hid (w3.heap[X]? = some (.cells (RG r) 23 (0, 0))) := (hb.block (X) (Array.getElem?_eq_some_iff.1 HX_w2.out).1).trans HX_w2.out
  have HY_w3 : Hid (w3.heap[X + 1]? = some (.cells (RG o) 23 (0, 0))) := (hb.block (X + 1) (Array.getElem?_eq_some_iff.1 HY_w2.out).1).trans HY_w2.out
  have HT_w3 : Hid (w3.heap[T1]? = some (.cells #[.int .i64 qn, .int .i64 qo, .int .u32 qa, .int .i64 qw, .int .i64 qt] 25 (0, 0))) := (hb.block (T1) (Array.getElem?_eq_some_iff.1 HT_w2.out).1).trans HT_w2.out
  have B_w3 : Hid (Below X w w3) := B_w2.out.trans (hb.mono S_w2.out)
  have S_w3 : Hid (X ≤ w3.heap.size) := Nat.le_trans S_w2.out hb.size
  have L_w3 : Hid (Laid w3) := HLw.out.below (by rw [hX]; exact B_w3.out)
  clear HX_w2 HY_w2 HT_w2 B_w2 S_w2 L_w2
  clear hb
  simp only [Rq.val]
  obtain ⟨T2, hT2⟩ : ∃ Z, w3.heap.size = Z := ⟨_, rfl⟩
  go_upto_region 3 with fail
  obtain ⟨w4, hw4⟩ : ∃ W, w3.alloc (.cells #[.int .i64 qn, .int .i64 qo, .int .u32 qa, .int .i64 qw, .int .i64 qt] 29) = W := ⟨_, rfl⟩
  rw [hw4]
  have hb : Below w3.heap.size w3 w4 := by rw [← hw4]; exact (Below.refl _ _).alloc (Nat.le_refl _) _
  have HU_w4 : Hid (w4.heap[T2]? = some (.cells #[.int .i64 qn, .int .i64 qo, .int .u32 qa, .int .i64 qw, .int .i64 qt] 29 (0, 0))) := by unfold Hid; rw [← hw4, ← hT2]; exact heap_alloc_new _ _
  have HX_w4 : Hid (w4.heap[X]? = some (.cells (RG r) 23 (0, 0))) := (hb.block (X) (Array.getElem?_eq_some_iff.1 HX_w3.out).1).trans HX_w3.out
  have HY_w4 : Hid (w4.heap[X + 1]? = some (.cells (RG o) 23 (0, 0))) := (hb.block (X + 1) (Array.getElem?_eq_some_iff.1 HY_w3.out).1).trans HY_w3.out
  have HT_w4 : Hid (w4.heap[T1]? = some (.cells #[.int .i64 qn, .int .i64 qo, .int .u32 qa, .int .i64 qw, .int .i64 qt] 25 (0, 0))) := (hb.block (T1) (Array.getElem?_eq_some_iff.1 HT_w3.out).1).trans HT_w3.out
  have B_w4 : Hid (Below X w w4) := B_w3.out.trans (hb.mono S_w3.out)
  have S_w4 : Hid (X ≤ w4.heap.size) := Nat.le_trans S_w3.out hb.size
  have L_w4 : Hid (Laid w4) := HLw.out.below (by rw [hX]; exact B_w4.out)
  clear HX_w3 HY_w3 HT_w3 B_w3 S_w3 L_w3
  clear hb hw4 hT2
  have NEQ := HNE.out
  have x0 : w4.cell? ⟨T1, 0, none⟩ = some (.int .i64 qn) := by rw [(row_cell HT_w4.out 0).1]; rfl
  have x1 : w4.cell? ⟨T1, 1, none⟩ = some (.int .i64 qo) := by rw [(row_cell HT_w4.out 1).1]; rfl
  have x2 : w4.cell? ⟨T1, 2, none⟩ = some (.int .u32 qa) := by rw [(row_cell HT_w4.out 2).1]; rfl
  have x3 : w4.cell? ⟨T1, 3, none⟩ = some (.int .i64 qw) := by rw [(row_cell HT_w4.out 3).1]; rfl
  have x4 : w4.cell? ⟨T1, 4, none⟩ = some (.int .i64 qt) := by rw [(row_cell HT_w4.out 4).1]; rfl
  have y0 : w4.cell? ⟨T2, 0, none⟩ = some (.int .i64 qn) := by rw [(row_cell HU_w4.out 0).1]; rfl
  have y1 : w4.cell? ⟨T2, 1, none⟩ = some (.int .i64 qo) := by rw [(row_cell HU_w4.out 1).1]; rfl
  have y2 : w4.cell? ⟨T2, 2, none⟩ = some (.int .u32 qa) := by rw [(row_cell HU_w4.out 2).1]; rfl
  have y3 : w4.cell? ⟨T2, 3, none⟩ = some (.int .i64 qw) := by rw [(row_cell HU_w4.out 3).1]; rfl
  have y4 : w4.cell? ⟨T2, 4, none⟩ = some (.int .i64 qt) := by rw [(row_cell HU_w4.out 4).1]; rfl
  by_cases h0 : E = 0
  rotate_left
  · have hz := HBAD.out h0
    have k0 : (E != 0) = true := by simpa using h0
    have EQZ : ∀ W, (binOp .eql 25 (.agg #[.int .i64 qn, .int .i64 qo, .int .u32 qa, .int .i64 qw, .int .i64 qt]) (.agg #[.int .i64 0, .int .i64 0, .int .u32 0, .int .i64 0, .int .i64 0])).run Tryd.prog W = .ok (.bool true) W := fun W => by have h1 := req_eql ⟨qn, qo, qa, qw, qt⟩ zeroQ W; rw [show sameB ⟨qn, qo, qa, qw, qt⟩ zeroQ = true by rw [hz]; exact sameB_self _] at h1; exact h1
    clear h0 hz
    go_wp2_with fail
    clear x0 x1 x2 x3 x4 y0 y1 y2 y3 y4
    refine (known_any w4 L_w4.out).mono ?_
    rintro e w5 ⟨rfl, hb⟩
    have HX_w5 : Hid (w5.heap[X]? = some (.cells (RG r) 23 (0, 0))) := (hb.block (X) (Array.getElem?_eq_some_iff.1 HX_w4.out).1).trans HX_w4.out
    have HY_w5 : Hid (w5.heap[X + 1]? = some (.cells (RG o) 23 (0, 0))) := (hb.block (X + 1) (Array.getElem?_eq_some_iff.1 HY_w4.out).1).trans HY_w4.out
    have HT_w5 : Hid (w5.heap[T1]? = some (.cells #[.int .i64 qn, .int .i64 qo, .int .u32 qa, .int .i64 qw, .int .i64 qt] 25 (0, 0))) := (hb.block (T1) (Array.getElem?_eq_some_iff.1 HT_w4.out).1).trans HT_w4.out
    have HU_w5 : Hid (w5.heap[T2]? = some (.cells #[.int .i64 qn, .int .i64 qo, .int .u32 qa, .int .i64 qw, .int .i64 qt] 29 (0, 0))) := (hb.block (T2) (Array.getElem?_eq_some_iff.1 HU_w4.out).1).trans HU_w4.out
    have B_w5 : Hid (Below X w w5) := B_w4.out.trans (hb.mono S_w4.out)
    have S_w5 : Hid (X ≤ w5.heap.size) := Nat.le_trans S_w4.out hb.size
    have L_w5 : Hid (Laid w5) := HLw.out.below (by rw [hX]; exact B_w5.out)
    clear HX_w4 HY_w4 HT_w4 HU_w4 B_w4 S_w4 L_w4
    clear hb
    have x0 : w5.cell? ⟨T1, 0, none⟩ = some (.int .i64 qn) := by rw [(row_cell HT_w5.out 0).1]; rfl
    have x1 : w5.cell? ⟨T1, 1, none⟩ = some (.int .i64 qo) := by rw [(row_cell HT_w5.out 1).1]; rfl
    have x2 : w5.cell? ⟨T1, 2, none⟩ = some (.int .u32 qa) := by rw [(row_cell HT_w5.out 2).1]; rfl
    have x3 : w5.cell? ⟨T1, 3, none⟩ = some (.int .i64 qw) := by rw [(row_cell HT_w5.out 3).1]; rfl
    have x4 : w5.cell? ⟨T1, 4, none⟩ = some (.int .i64 qt) := by rw [(row_cell HT_w5.out 4).1]; rfl
    go_wp2_with fail
    go_ret
    exact ⟨rfl, B_w5.out⟩
  obtain ⟨hv, hcall⟩ := HGOOD.out h0
  replace hcall : qn = n := hcall
  have k0 : (E != 0) = false := by simpa using h0
  have HE0 := Lib.hid h0
  clear h0
  have HV := Lib.hid hv
  obtain ⟨be, bq⟩ := back_dec hv HO.out
  replace be : decE qn (encV ⟨qn, qo, qa, qw, qt⟩ o) = 0 := be
  replace bq : decQ qn (encV ⟨qn, qo, qa, qw, qt⟩ o) = ⟨qn, qo, qa, qw, qt⟩ := bq
  have CE : Hid (∀ W, Laid W → Calls Tryd.prog 12 #[.agg #[.int .i64 qn, .int .i64 qo, .int .u32 qa, .int .i64 qw, .int .i64 qt], .agg (RG o)] W fun e w' => e = .returned (.agg (RG (encV ⟨qn, qo, qa, qw, qt⟩ o))) ∧ Below W.heap.size W w') := fun W h => encode_any ⟨qn, qo, qa, qw, qt⟩ o HO.out HAT.out W h
  obtain ⟨g, hg⟩ : ∃ g, encV ⟨qn, qo, qa, qw, qt⟩ o = g := ⟨_, rfl⟩
  have hgr : Regs g := by rw [← hg]; exact enc_regs hv HAT.out HO.out
  rw [hg] at CE
  rw [hg] at be bq
  have CD2 : Hid (∀ W, Laid W → Calls Tryd.prog 9 #[.int .i64 n, .agg (RG g)] W fun e w' => e = .returned (.tuple #[.agg #[.int .i64 qn, .int .i64 qo, .int .u32 qa, .int .i64 qw, .int .i64 qt], .int .i64 0]) ∧ Below W.heap.size W w') := fun W h => by have h1 := decode_any qn g hgr W h; rw [be, bq] at h1; rw [hcall] at h1 ⊢; exact h1
  obtain ⟨P, hP⟩ : ∃ P, priceV ⟨qn, qo, qa, qw, qt⟩ = P := ⟨_, rfl⟩
  obtain ⟨M, hM⟩ : ∃ P, mostV n = P := ⟨_, rfl⟩
  have pb := price_bounds hv
  replace pb : 1 ≤ priceV ⟨qn, qo, qa, qw, qt⟩ ∧ priceV ⟨qn, qo, qa, qw, qt⟩ ≤ mostV qn := pb
  rw [hP, hcall, hM] at pb
  have CP : Hid (∀ W, Laid W → Calls Tryd.prog 13 #[.agg #[.int .i64 qn, .int .i64 qo, .int .u32 qa, .int .i64 qw, .int .i64 qt]] W fun e w' => e = .returned (.int .i64 P) ∧ Below W.heap.size W w') := fun W h => by rw [← hP]; exact price_any ⟨qn, qo, qa, qw, qt⟩ W h
  have CRP : Hid (∀ W, Calls Tryd.prog 14 #[.agg #[.int .i64 qn, .int .i64 qo, .int .u32 qa, .int .i64 qw, .int .i64 qt]] W fun e w' => e = .returned (.int .i64 P) ∧ Below W.heap.size W w') := fun W => by rw [← hP]; exact rprice_any ⟨qn, qo, qa, qw, qt⟩ W
  have CM : Hid (∀ W, Laid W → Calls Tryd.prog 15 #[.int .i64 n] W fun e w' => e = .returned (.int .i64 M) ∧ Below W.heap.size W w') := fun W h => by rw [← hM]; exact most_any n W h
  have l0 : decide (1 ≤ P) = true := by simp; omega
  have l1 : decide (P ≤ M) = true := by simp; omega
  clear hv hcall be bq hg hgr hP hM pb
  have EQL := HEQ.out
  go_wp2_with (refine wpList_load_row rfl 23 _ rfl (X + 1) rfl 23 _ (0, 0) _ HY_w4.out Tryd.underlying23 rfl (by rw [hso]; exact size16) ?_)
  clear x0 x1 x2 x3 x4 y0 y1 y2 y3 y4 NEQ
  refine (CE.out w4 L_w4.out).mono ?_
  rintro e w5 ⟨rfl, hb⟩
  have HX_w5 : Hid (w5.heap[X]? = some (.cells (RG r) 23 (0, 0))) := (hb.block (X) (Array.getElem?_eq_some_iff.1 HX_w4.out).1).trans HX_w4.out
  have HY_w5 : Hid (w5.heap[X + 1]? = some (.cells (RG o) 23 (0, 0))) := (hb.block (X + 1) (Array.getElem?_eq_some_iff.1 HY_w4.out).1).trans HY_w4.out
  have HT_w5 : Hid (w5.heap[T1]? = some (.cells #[.int .i64 qn, .int .i64 qo, .int .u32 qa, .int .i64 qw, .int .i64 qt] 25 (0, 0))) := (hb.block (T1) (Array.getElem?_eq_some_iff.1 HT_w4.out).1).trans HT_w4.out
  have HU_w5 : Hid (w5.heap[T2]? = some (.cells #[.int .i64 qn, .int .i64 qo, .int .u32 qa, .int .i64 qw, .int .i64 qt] 29 (0, 0))) := (hb.block (T2) (Array.getElem?_eq_some_iff.1 HU_w4.out).1).trans HU_w4.out
  have B_w5 : Hid (Below X w w5) := B_w4.out.trans (hb.mono S_w4.out)
  have S_w5 : Hid (X ≤ w5.heap.size) := Nat.le_trans S_w4.out hb.size
  have L_w5 : Hid (Laid w5) := HLw.out.below (by rw [hX]; exact B_w5.out)
  clear HX_w4 HY_w4 HT_w4 HU_w4 B_w4 S_w4 L_w4
  clear hb
  go_wp2_with fail
  refine (CD2.out w5 L_w5.out).mono ?_
  rintro e w6 ⟨rfl, hb⟩
  have HX_w6 : Hid (w6.heap[X]? = some (.cells (RG r) 23 (0, 0))) := (hb.block (X) (Array.getElem?_eq_some_iff.1 HX_w5.out).1).trans HX_w5.out
  have HY_w6 : Hid (w6.heap[X + 1]? = some (.cells (RG o) 23 (0, 0))) := (hb.block (X + 1) (Array.getElem?_eq_some_iff.1 HY_w5.out).1).trans HY_w5.out
  have HT_w6 : Hid (w6.heap[T1]? = some (.cells #[.int .i64 qn, .int .i64 qo, .int .u32 qa, .int .i64 qw, .int .i64 qt] 25 (0, 0))) := (hb.block (T1) (Array.getElem?_eq_some_iff.1 HT_w5.out).1).trans HT_w5.out
  have HU_w6 : Hid (w6.heap[T2]? = some (.cells #[.int .i64 qn, .int .i64 qo, .int .u32 qa, .int .i64 qw, .int .i64 qt] 29 (0, 0))) := (hb.block (T2) (Array.getElem?_eq_some_iff.1 HU_w5.out).1).trans HU_w5.out
  have B_w6 : Hid (Below X w w6) := B_w5.out.trans (hb.mono S_w5.out)
  have S_w6 : Hid (X ≤ w6.heap.size) := Nat.le_trans S_w5.out hb.size
  have L_w6 : Hid (Laid w6) := HLw.out.below (by rw [hX]; exact B_w6.out)
  clear HX_w5 HY_w5 HT_w5 HU_w5 B_w5 S_w5 L_w5
  clear hb
  obtain ⟨T3, hT3⟩ : ∃ Z, w6.heap.size = Z := ⟨_, rfl⟩
  go_upto_region 8 with fail
  obtain ⟨w7, hw7⟩ : ∃ W, w6.alloc (.cells #[.int .i64 qn, .int .i64 qo, .int .u32 qa, .int .i64 qw, .int .i64 qt] 25) = W := ⟨_, rfl⟩
  rw [hw7]
  have hb : Below w6.heap.size w6 w7 := by rw [← hw7]; exact (Below.refl _ _).alloc (Nat.le_refl _) _
  have HV3_w7 : Hid (w7.heap[T3]? = some (.cells #[.int .i64 qn, .int .i64 qo, .int .u32 qa, .int .i64 qw, .int .i64 qt] 25 (0, 0))) := by unfold Hid; rw [← hw7, ← hT3]; exact heap_alloc_new _ _
  have HX_w7 : Hid (w7.heap[X]? = some (.cells (RG r) 23 (0, 0))) := (hb.block (X) (Array.getElem?_eq_some_iff.1 HX_w6.out).1).trans HX_w6.out
  have HY_w7 : Hid (w7.heap[X + 1]? = some (.cells (RG o) 23 (0, 0))) := (hb.block (X + 1) (Array.getElem?_eq_some_iff.1 HY_w6.out).1).trans HY_w6.out
  have HT_w7 : Hid (w7.heap[T1]? = some (.cells #[.int .i64 qn, .int .i64 qo, .int .u32 qa, .int .i64 qw, .int .i64 qt] 25 (0, 0))) := (hb.block (T1) (Array.getElem?_eq_some_iff.1 HT_w6.out).1).trans HT_w6.out
  have HU_w7 : Hid (w7.heap[T2]? = some (.cells #[.int .i64 qn, .int .i64 qo, .int .u32 qa, .int .i64 qw, .int .i64 qt] 29 (0, 0))) := (hb.block (T2) (Array.getElem?_eq_some_iff.1 HU_w6.out).1).trans HU_w6.out
  have B_w7 : Hid (Below X w w7) := B_w6.out.trans (hb.mono S_w6.out)
  have S_w7 : Hid (X ≤ w7.heap.size) := Nat.le_trans S_w6.out hb.size
  have L_w7 : Hid (Laid w7) := HLw.out.below (by rw [hX]; exact B_w7.out)
  clear HX_w6 HY_w6 HT_w6 HU_w6 B_w6 S_w6 L_w6
  clear hb hw7 hT3
  have x0 : w7.cell? ⟨T1, 0, none⟩ = some (.int .i64 qn) := by rw [(row_cell HT_w7.out 0).1]; rfl
  have x1 : w7.cell? ⟨T1, 1, none⟩ = some (.int .i64 qo) := by rw [(row_cell HT_w7.out 1).1]; rfl
  have x2 : w7.cell? ⟨T1, 2, none⟩ = some (.int .u32 qa) := by rw [(row_cell HT_w7.out 2).1]; rfl
  have x3 : w7.cell? ⟨T1, 3, none⟩ = some (.int .i64 qw) := by rw [(row_cell HT_w7.out 3).1]; rfl
  have x4 : w7.cell? ⟨T1, 4, none⟩ = some (.int .i64 qt) := by rw [(row_cell HT_w7.out 4).1]; rfl
  go_wp2_with fail
  clear x0 x1 x2 x3 x4
  refine (CP.out w7 L_w7.out).mono ?_
  rintro e w8 ⟨rfl, hb⟩
  have HX_w8 : Hid (w8.heap[X]? = some (.cells (RG r) 23 (0, 0))) := (hb.block (X) (Array.getElem?_eq_some_iff.1 HX_w7.out).1).trans HX_w7.out
  have HY_w8 : Hid (w8.heap[X + 1]? = some (.cells (RG o) 23 (0, 0))) := (hb.block (X + 1) (Array.getElem?_eq_some_iff.1 HY_w7.out).1).trans HY_w7.out
  have HT_w8 : Hid (w8.heap[T1]? = some (.cells #[.int .i64 qn, .int .i64 qo, .int .u32 qa, .int .i64 qw, .int .i64 qt] 25 (0, 0))) := (hb.block (T1) (Array.getElem?_eq_some_iff.1 HT_w7.out).1).trans HT_w7.out
  have HU_w8 : Hid (w8.heap[T2]? = some (.cells #[.int .i64 qn, .int .i64 qo, .int .u32 qa, .int .i64 qw, .int .i64 qt] 29 (0, 0))) := (hb.block (T2) (Array.getElem?_eq_some_iff.1 HU_w7.out).1).trans HU_w7.out
  have HV3_w8 : Hid (w8.heap[T3]? = some (.cells #[.int .i64 qn, .int .i64 qo, .int .u32 qa, .int .i64 qw, .int .i64 qt] 25 (0, 0))) := (hb.block (T3) (Array.getElem?_eq_some_iff.1 HV3_w7.out).1).trans HV3_w7.out
  have B_w8 : Hid (Below X w w8) := B_w7.out.trans (hb.mono S_w7.out)
  have S_w8 : Hid (X ≤ w8.heap.size) := Nat.le_trans S_w7.out hb.size
  have L_w8 : Hid (Laid w8) := HLw.out.below (by rw [hX]; exact B_w8.out)
  clear HX_w7 HY_w7 HT_w7 HU_w7 HV3_w7 B_w7 S_w7 L_w7
  clear hb
  go_wp2_with fail
  refine (known_any w8 L_w8.out).mono ?_
  rintro e w9 ⟨rfl, hb⟩
  have HX_w9 : Hid (w9.heap[X]? = some (.cells (RG r) 23 (0, 0))) := (hb.block (X) (Array.getElem?_eq_some_iff.1 HX_w8.out).1).trans HX_w8.out
  have HY_w9 : Hid (w9.heap[X + 1]? = some (.cells (RG o) 23 (0, 0))) := (hb.block (X + 1) (Array.getElem?_eq_some_iff.1 HY_w8.out).1).trans HY_w8.out
  have HT_w9 : Hid (w9.heap[T1]? = some (.cells #[.int .i64 qn, .int .i64 qo, .int .u32 qa, .int .i64 qw, .int .i64 qt] 25 (0, 0))) := (hb.block (T1) (Array.getElem?_eq_some_iff.1 HT_w8.out).1).trans HT_w8.out
  have HU_w9 : Hid (w9.heap[T2]? = some (.cells #[.int .i64 qn, .int .i64 qo, .int .u32 qa, .int .i64 qw, .int .i64 qt] 29 (0, 0))) := (hb.block (T2) (Array.getElem?_eq_some_iff.1 HU_w8.out).1).trans HU_w8.out
  have HV3_w9 : Hid (w9.heap[T3]? = some (.cells #[.int .i64 qn, .int .i64 qo, .int .u32 qa, .int .i64 qw, .int .i64 qt] 25 (0, 0))) := (hb.block (T3) (Array.getElem?_eq_some_iff.1 HV3_w8.out).1).trans HV3_w8.out
  have B_w9 : Hid (Below X w w9) := B_w8.out.trans (hb.mono S_w8.out)
  have S_w9 : Hid (X ≤ w9.heap.size) := Nat.le_trans S_w8.out hb.size
  have L_w9 : Hid (Laid w9) := HLw.out.below (by rw [hX]; exact B_w9.out)
  clear HX_w8 HY_w8 HT_w8 HU_w8 HV3_w8 B_w8 S_w8 L_w8
  clear hb
  have x0 : w9.cell? ⟨T1, 0, none⟩ = some (.int .i64 qn) := by rw [(row_cell HT_w9.out 0).1]; rfl
  have x1 : w9.cell? ⟨T1, 1, none⟩ = some (.int .i64 qo) := by rw [(row_cell HT_w9.out 1).1]; rfl
  have x2 : w9.cell? ⟨T1, 2, none⟩ = some (.int .u32 qa) := by rw [(row_cell HT_w9.out 2).1]; rfl
  have x3 : w9.cell? ⟨T1, 3, none⟩ = some (.int .i64 qw) := by rw [(row_cell HT_w9.out 3).1]; rfl
  have x4 : w9.cell? ⟨T1, 4, none⟩ = some (.int .i64 qt) := by rw [(row_cell HT_w9.out 4).1]; rfl
  have y0 : w9.cell? ⟨T2, 0, none⟩ = some (.int .i64 qn) := by rw [(row_cell HU_w9.out 0).1]; rfl
  have y1 : w9.cell? ⟨T2, 1, none⟩ = some (.int .i64 qo) := by rw [(row_cell HU_w9.out 1).1]; rfl
  have y2 : w9.cell? ⟨T2, 2, none⟩ = some (.int .u32 qa) := by rw [(row_cell HU_w9.out 2).1]; rfl
  have y3 : w9.cell? ⟨T2, 3, none⟩ = some (.int .i64 qw) := by rw [(row_cell HU_w9.out 3).1]; rfl
  have y4 : w9.cell? ⟨T2, 4, none⟩ = some (.int .i64 qt) := by rw [(row_cell HU_w9.out 4).1]; rfl
  have z0 : w9.cell? ⟨T3, 0, none⟩ = some (.int .i64 qn) := by rw [(row_cell HV3_w9.out 0).1]; rfl
  have z1 : w9.cell? ⟨T3, 1, none⟩ = some (.int .i64 qo) := by rw [(row_cell HV3_w9.out 1).1]; rfl
  have z2 : w9.cell? ⟨T3, 2, none⟩ = some (.int .u32 qa) := by rw [(row_cell HV3_w9.out 2).1]; rfl
  have z3 : w9.cell? ⟨T3, 3, none⟩ = some (.int .i64 qw) := by rw [(row_cell HV3_w9.out 3).1]; rfl
  have z4 : w9.cell? ⟨T3, 4, none⟩ = some (.int .i64 qt) := by rw [(row_cell HV3_w9.out 4).1]; rfl
  go_wp2_with fail
  clear x0 x1 x2 x3 x4 y0 y1 y2 y3 y4 z0 z1 z2 z3 z4
  refine (CRP.out w9).mono ?_
  rintro e w10 ⟨rfl, hb⟩
  have HX_w10 : Hid (w10.heap[X]? = some (.cells (RG r) 23 (0, 0))) := (hb.block (X) (Array.getElem?_eq_some_iff.1 HX_w9.out).1).trans HX_w9.out
  have HY_w10 : Hid (w10.heap[X + 1]? = some (.cells (RG o) 23 (0, 0))) := (hb.block (X + 1) (Array.getElem?_eq_some_iff.1 HY_w9.out).1).trans HY_w9.out
  have HT_w10 : Hid (w10.heap[T1]? = some (.cells #[.int .i64 qn, .int .i64 qo, .int .u32 qa, .int .i64 qw, .int .i64 qt] 25 (0, 0))) := (hb.block (T1) (Array.getElem?_eq_some_iff.1 HT_w9.out).1).trans HT_w9.out
  have HU_w10 : Hid (w10.heap[T2]? = some (.cells #[.int .i64 qn, .int .i64 qo, .int .u32 qa, .int .i64 qw, .int .i64 qt] 29 (0, 0))) := (hb.block (T2) (Array.getElem?_eq_some_iff.1 HU_w9.out).1).trans HU_w9.out
  have HV3_w10 : Hid (w10.heap[T3]? = some (.cells #[.int .i64 qn, .int .i64 qo, .int .u32 qa, .int .i64 qw, .int .i64 qt] 25 (0, 0))) := (hb.block (T3) (Array.getElem?_eq_some_iff.1 HV3_w9.out).1).trans HV3_w9.out
  have B_w10 : Hid (Below X w w10) := B_w9.out.trans (hb.mono S_w9.out)
  have S_w10 : Hid (X ≤ w10.heap.size) := Nat.le_trans S_w9.out hb.size
  have L_w10 : Hid (Laid w10) := HLw.out.below (by rw [hX]; exact B_w10.out)
  clear HX_w9 HY_w9 HT_w9 HU_w9 HV3_w9 B_w9 S_w9 L_w9
  clear hb
  go_wp2_with fail
  refine (CM.out w10 L_w10.out).mono ?_
  rintro e w11 ⟨rfl, hb⟩
  have HX_w11 : Hid (w11.heap[X]? = some (.cells (RG r) 23 (0, 0))) := (hb.block (X) (Array.getElem?_eq_some_iff.1 HX_w10.out).1).trans HX_w10.out
  have HY_w11 : Hid (w11.heap[X + 1]? = some (.cells (RG o) 23 (0, 0))) := (hb.block (X + 1) (Array.getElem?_eq_some_iff.1 HY_w10.out).1).trans HY_w10.out
  have HT_w11 : Hid (w11.heap[T1]? = some (.cells #[.int .i64 qn, .int .i64 qo, .int .u32 qa, .int .i64 qw, .int .i64 qt] 25 (0, 0))) := (hb.block (T1) (Array.getElem?_eq_some_iff.1 HT_w10.out).1).trans HT_w10.out
  have HU_w11 : Hid (w11.heap[T2]? = some (.cells #[.int .i64 qn, .int .i64 qo, .int .u32 qa, .int .i64 qw, .int .i64 qt] 29 (0, 0))) := (hb.block (T2) (Array.getElem?_eq_some_iff.1 HU_w10.out).1).trans HU_w10.out
  have HV3_w11 : Hid (w11.heap[T3]? = some (.cells #[.int .i64 qn, .int .i64 qo, .int .u32 qa, .int .i64 qw, .int .i64 qt] 25 (0, 0))) := (hb.block (T3) (Array.getElem?_eq_some_iff.1 HV3_w10.out).1).trans HV3_w10.out
  have B_w11 : Hid (Below X w w11) := B_w10.out.trans (hb.mono S_w10.out)
  have S_w11 : Hid (X ≤ w11.heap.size) := Nat.le_trans S_w10.out hb.size
  have L_w11 : Hid (Laid w11) := HLw.out.below (by rw [hX]; exact B_w11.out)
  clear HX_w10 HY_w10 HT_w10 HU_w10 HV3_w10 B_w10 S_w10 L_w10
  clear hb
  go_wp2_with fail
  go_ret
  exact ⟨rfl, B_w11.out⟩
end Go.Proofs.YtglpbngdikfliaaDoor.Ca
