/-
  CallsOthers' walk. Each statement bears its own conditions.
-/
import Derived.Test.YtglpbngdikfliaaDoorCaK
import Derived.Deep.QuietTactic
namespace Go.Proofs.YtglpbngdikfliaaDoor.Ca
open Go.RowKit Go.Proofs.YtglpbngdikfliaaDoor.F
set_option linter.unusedVariables false
set_option linter.unusedSimpArgs false
structure XR (X T : Nat) (r o : List Int) (e0 v0 n0 : Int) (w0 : World) (iv : Value) (wr : World) : Prop where
  ex : ∃ (j : Nat) (g : List Int), 4 ≤ j ∧ j ≤ 16 ∧ iv = .int .i64 (j : Int) ∧ wr.heap[X]? = some (.cells (RG r) 23 (0, 0)) ∧ wr.heap[X + 1]? = some (.cells (RG o) 23 (0, 0)) ∧ wr.heap[X + 2]? = some (.cells #[.int .i64 e0, .int .u32 v0, .int .i64 n0] 42 (0, 0)) ∧ wr.heap[T]? = some (.cells (RG g) 23 (0, 0)) ∧
    Regs g ∧ (∀ i, i < 4 → g.getD i 0 = r.getD i 0) ∧ Below X w0 wr
theorem dec_four {n : Int} {r g : List Int} (h : ∀ i, i < 4 → g.getD i 0 = r.getD i 0) : decQ n g = decQ n r ∧ decE n g = decE n r := by
  have e : askQ n g = askQ n r := by unfold askQ; rw [h 0 (by omega), h 1 (by omega), h 2 (by omega), h 3 (by omega)]
  unfold decQ decE
  rw [e]
  exact ⟨rfl, rfl⟩
theorem back_at {r : List Int} (hr : Regs r) (e0 v0 n0 : Int) : (backR r e0 v0 n0).getD 0 0 = IntKind.u32.wrap e0 ∧ (backR r e0 v0 n0).getD 1 0 = v0 ∧ (backR r e0 v0 n0).getD 2 0 = IntKind.u32.wrap n0 ∧ ∀ i, 3 ≤ i → (backR r e0 v0 n0).getD i 0 = r.getD i 0 := by
  have hl := hr.len
  unfold backR
  refine ⟨by simp [getD_set, hl], by simp [getD_set, hl], by simp [getD_set, hl], fun i hi => ?_⟩
  rw [getD_set _ _ _ _ (by simp [hl]), if_neg (by omega), getD_set _ _ _ _ (by simp [hl]), if_neg (by omega), getD_set _ _ _ _ (by simp [hl]), if_neg (by omega)]
theorem back_regs {r : List Int} (hr : Regs r) (e0 v0 n0 : Int) (hv : U32 v0) : Regs (backR r e0 v0 n0) := by
  unfold backR
  exact ((hr.set 0 (by rw [IntKind.wrap_u32]; omega)).set 1 hv).set 2 (by rw [IntKind.wrap_u32]; omega)
structure YR (T : Nat) (w1 : World) (iv : Value) (wr : World) : Prop where
  ex : ∃ j : Nat, 3 ≤ j ∧ j ≤ 16 ∧ iv = .int .i64 (j : Int) ∧ ∃ k : Nat, wr = w1.drewN k
set_option maxRecDepth 100000 in
set_option maxHeartbeats 32000000 in
theorem others_walk (n : Int) (r o : List Int) (e0 v0 n0 : Int) (hr : Regs r) (ho : Regs o) (hv : U32 v0) (w : World) (hL : Laid w) : Calls Tryd.prog 5 #[.int .i64 n, .agg (RG r), .agg (RG o), .agg #[.int .i64 e0, .int .u32 v0, .int .i64 n0]] w fun e w' => e = .returned (.bool true) ∧ Below w.heap.size w w' := by
  have hsr := hr.size
  have HO := Lib.hid ho
  have HR := Lib.hid hr
  obtain ⟨X, hX⟩ : ∃ X, w.heap.size = X := ⟨_, rfl⟩
  obtain ⟨W0, hW0⟩ : ∃ W0, ((w.alloc (.cells (RG r) 23)).alloc (.cells (RG o) 23)).alloc (.cells #[.int .i64 e0, .int .u32 v0, .int .i64 n0] 42) = W0 := ⟨_, rfl⟩
  have B0 : Hid (Below X w W0) := by rw [← hW0, ← hX]; exact (((Below.refl _ _).alloc (Nat.le_refl _) _).alloc (by simp) _).alloc (by simp; omega) _
  have HX0 : Hid (W0.heap[X]? = some (.cells (RG r) 23 (0, 0))) := by
    unfold Hid; rw [← hW0, ← hX]
    exact ((((Below.refl _ _).alloc (by simp) _).alloc (by simp) _).block (B := (w.alloc (.cells (RG r) 23)).heap.size) _ (by simp)).trans (heap_alloc_new _ _)
  have HY0 : Hid (W0.heap[X + 1]? = some (.cells (RG o) 23 (0, 0))) := by
    unfold Hid; rw [← hW0, ← hX]
    have e := heap_alloc_new (w.alloc (.cells (RG r) 23)) (.cells (RG o) 23)
    exact (((Below.refl _ _).alloc (by simp) _).block (B := ((w.alloc (.cells (RG r) 23)).alloc (.cells (RG o) 23)).heap.size) _ (by simp)).trans (by simpa using e)
  have HZ0 : Hid (W0.heap[X + 1 + 1]? = some (.cells #[.int .i64 e0, .int .u32 v0, .int .i64 n0] 42 (0, 0))) := by unfold Hid; rw [← hW0, ← hX]; have := heap_alloc_new ((w.alloc (.cells (RG r) 23)).alloc (.cells (RG o) 23)) (.cells #[.int .i64 e0, .int .u32 v0, .int .i64 n0] 42); simpa using this
  have S0 : Hid (W0.heap.size = X + 3) := by unfold Hid; rw [← hW0, ← hX]; simp
  have HLw := Lib.hid hL
  have HVV := Lib.hid hv
  obtain ⟨Q, hQ⟩ : ∃ Q, decQ n r = Q := ⟨_, rfl⟩
  obtain ⟨E, hE⟩ : ∃ E, decE n r = E := ⟨_, rfl⟩
  have CD : Hid (∀ g, Regs g → (∀ i, i < 4 → g.getD i 0 = r.getD i 0) → ∀ W, Laid W → Calls Tryd.prog 9 #[.int .i64 n, .agg (RG g)] W fun e w' => e = .returned (.tuple #[Q.val, .int .i64 E]) ∧ Below W.heap.size W w') := fun g hg h4 W h => by
    rw [← hQ, ← hE, ← (dec_four (n := n) h4).1, ← (dec_four (n := n) h4).2]; exact decode_any n g hg W h
  clear hQ hE hr ho hL hv
  obtain ⟨qn, qo, qa, qw, qt⟩ := Q
  have EQL : ∀ W, (binOp .eql 25 (.agg #[.int .i64 qn, .int .i64 qo, .int .u32 qa, .int .i64 qw, .int .i64 qt]) (.agg #[.int .i64 qn, .int .i64 qo, .int .u32 qa, .int .i64 qw, .int .i64 qt])).run Tryd.prog W = .ok (.bool true) W := fun W => by have := req_eql ⟨qn, qo, qa, qw, qt⟩ ⟨qn, qo, qa, qw, qt⟩ W; rw [sameB_self] at this; exact this
  have HEQ := Lib.hid EQL
  clear EQL
  simp only [hX]
  obtain ⟨T, hT⟩ : ∃ T, W0.heap.size = T := ⟨_, rfl⟩
  have hza : (W0.alloc (.cells #[.int .u32 0, .int .u32 0, .int .u32 0, .int .u32 0, .int .u32 0, .int .u32 0, .int .u32 0, .int .u32 0, .int .u32 0, .int .u32 0, .int .u32 0, .int .u32 0, .int .u32 0, .int .u32 0, .int .u32 0, .int .u32 0] 23)).heap[T]? = some (.cells #[.int .u32 0, .int .u32 0, .int .u32 0, .int .u32 0, .int .u32 0, .int .u32 0, .int .u32 0, .int .u32 0, .int .u32 0, .int .u32 0, .int .u32 0, .int .u32 0, .int .u32 0, .int .u32 0, .int .u32 0, .int .u32 0] 23 (0, 0)) := by rw [← hT]; exact heap_alloc_new _ _
  have hst := store16 hza (by rfl) HR.out
  obtain ⟨W1, hW1⟩ : ∃ W, (W0.alloc (.cells #[.int .u32 0, .int .u32 0, .int .u32 0, .int .u32 0, .int .u32 0, .int .u32 0, .int .u32 0, .int .u32 0, .int .u32 0, .int .u32 0, .int .u32 0, .int .u32 0, .int .u32 0, .int .u32 0, .int .u32 0, .int .u32 0] 23)).setRow T (RG r) = W := ⟨_, rfl⟩
  have ba : Below W0.heap.size W0 (W0.alloc (.cells #[.int .u32 0, .int .u32 0, .int .u32 0, .int .u32 0, .int .u32 0, .int .u32 0, .int .u32 0, .int .u32 0, .int .u32 0, .int .u32 0, .int .u32 0, .int .u32 0, .int .u32 0, .int .u32 0, .int .u32 0, .int .u32 0] 23)) := (Below.refl _ _).alloc (Nat.le_refl _) _
  have b1 : Below W0.heap.size W0 W1 := by rw [← hW1]; exact below_setRow ba (by rw [hT]; exact Nat.le_refl _) _
  have HT1 : Hid (W1.heap[T]? = some (.cells (RG r) 23 (0, 0))) := by unfold Hid; rw [← hW1]; exact setRow_heap _ _ _ _ _ _ hza
  have HX1 : Hid (W1.heap[X]? = some (.cells (RG r) 23 (0, 0))) := (b1.block X (by have := S0.out; omega)).trans HX0.out
  have HY1 : Hid (W1.heap[X + 1]? = some (.cells (RG o) 23 (0, 0))) := (b1.block (X + 1) (by have := S0.out; omega)).trans HY0.out
  have HZ1 : Hid (W1.heap[X + 1 + 1]? = some (.cells #[.int .i64 e0, .int .u32 v0, .int .i64 n0] 42 (0, 0))) := (b1.block (X + 1 + 1) (by have := S0.out; omega)).trans HZ0.out
  have B1 : Hid (Below X w W1) := B0.out.trans (b1.mono (by have := S0.out; omega))
  have HTX : Hid (T = X + 3) := by rw [← hT]; exact S0.out
  rw [hW1] at hst
  clear hza ba b1 hW1
  go_enter Tryd.func5, Tryd.ntmps5
  go_upto_block 0 with (refine wpList_load_row rfl 23 _ rfl (X) rfl 23 _ (0, 0) _ HX0.out Tryd.underlying23 rfl (by rw [hsr]; exact size16) ?_)
  have E22 : (X + 1 + 1 : Nat) = X + 2 := rfl
  clear hW0
  go_cut [9] (fun tv wx => tv = .pointer (some ⟨T, 0, none⟩) ∧ XR X T r o e0 v0 n0 w (.int .i64 16) wx)
  case first =>
    clear hst hT
    go_wp2_with fail
    go_loopw [10] (fun iv wr => XR X T r o e0 v0 n0 w iv wr) (fun i _ => 16 - (intOf i).toNat)
    case atStart => exact ⟨⟨4, r, by omega, by omega, rfl, HX1.out, HY1.out, HZ1.out, HT1.out, HR.out, fun _ _ => rfl, B1.out⟩⟩
    case round =>
      clear HX1 HY1 HZ1 HT1 B1
      obtain ⟨⟨j, g, hj4, hj, rfl, hx, hy, hz, ht, hg, h4, hb⟩⟩ := hrel
      by_cases hlt : j < 16
      rotate_left
      · have e16 : j = 16 := by omega
        subst e16
        have HD : Hid (XR X T r o e0 v0 n0 w (.int .i64 16) wr) := ⟨⟨16, g, by omega, by omega, rfl, hx, hy, hz, ht, hg, h4, hb⟩⟩
        clear hx hy hz ht hg h4 hb hlt hj hj4
        go_wp2_with fail
        go_meet
        exact ⟨rfl, HD.out⟩
      have hjI : (j : Int) < 16 := by omega
      have k0 : decide ((j : Int) < 16) = true := by simp only [hjI, decide_true]
      have oy := reg_at hy HO.out hlt
      have ot := reg_at ht hg hlt
      obtain ⟨y, hyv⟩ : ∃ y, o.getD j 0 = y := ⟨_, rfl⟩
      obtain ⟨z, hzv⟩ : ∃ y, g.getD j 0 = y := ⟨_, rfl⟩
      have yb := HO.out.at_ hlt
      rw [hyv] at oy yb
      rw [hzv] at ot
      obtain ⟨y0, yf⟩ := oy
      obtain ⟨t0, tf⟩ := ot
      have HN : Hid (XR X T r o e0 v0 n0 w (.int .i64 ((j : Int) + 1)) (wr.setCell ⟨T, j, none⟩ (.int .u32 y))) := ⟨⟨j + 1, g.set j y, by omega, by omega, by go_num,
        by exact (set_far _ _ (by have := HTX.out; omega)).trans hx, by exact (set_far _ _ (by have := HTX.out; omega)).trans hy, by exact (set_far _ _ (by have := HTX.out; omega)).trans hz, by exact reg_set ht j y, hg.set j yb,
        fun i hi => by rw [getD_set _ _ _ _ (by rw [hg.len]; exact hlt), if_neg (by omega)]; exact h4 i hi, by exact hb.setCell (by show X ≤ T; have := HTX.out; omega) _⟩⟩
      have HJ : Hid (j < 16) := hlt
      clear hx hy hz ht hg h4 hb hlt hj hj4 hyv hzv yb
      go_wp2_with fail
      go_roundw
      case rel =>
        first | exact HN.out | ((repeat apply Exists.intro); exact ⟨HN.out, rfl⟩)
      case measure => have := HJ.out; simp [intOf]; omega
  case rest =>
    obtain ⟨w5, hw5⟩ : ∃ w', w' = wc := ⟨_, rfl⟩
    subst hw5
    obtain ⟨rfl, ⟨⟨j, g, hj4, hj, _, hx, hy, hz, ht, hg, h4, hb⟩⟩⟩ := hcut
    have HX_w5 : Hid (w5.heap[X]? = some (.cells (RG r) 23 (0, 0))) := hx
    have HZ_w5 : Hid (w5.heap[X + 1 + 1]? = some (.cells #[.int .i64 e0, .int .u32 v0, .int .i64 n0] 42 (0, 0))) := hz
    have HT_w5 : Hid (w5.heap[T]? = some (.cells (RG g) 23 (0, 0))) := ht
    have B_w5 : Hid (Below X w w5) := hb
    have S_w5 : Hid (X ≤ w5.heap.size) := Nat.le_of_lt (Array.getElem?_eq_some_iff.1 hx).1
    have L_w5 : Hid (Laid w5) := HLw.out.below (by rw [hX]; exact hb)
    have hsg := hg.size
    have HG := Lib.hid hg
    have H4 := Lib.hid h4
    clear hx hy hz ht hg h4 hb HX1 HY1 HZ1 HT1 B1 HX0 HY0 HZ0 B0 S0 hst hT
    go_wp2_with (refine wpList_load_row rfl 23 _ rfl (X) rfl 23 _ (0, 0) _ HX_w5.out Tryd.underlying23 rfl (by rw [hsr]; exact size16) ?_)
    refine (CD.out r HR.out (fun _ _ => rfl) w5 L_w5.out).mono ?_
    rintro e w6 ⟨rfl, hb⟩
    have HX_w6 : Hid (w6.heap[X]? = some (.cells (RG r) 23 (0, 0))) := (hb.block (X) (Array.getElem?_eq_some_iff.1 HX_w5.out).1).trans HX_w5.out
    have HZ_w6 : Hid (w6.heap[X + 1 + 1]? = some (.cells #[.int .i64 e0, .int .u32 v0, .int .i64 n0] 42 (0, 0))) := (hb.block (X + 1 + 1) (Array.getElem?_eq_some_iff.1 HZ_w5.out).1).trans HZ_w5.out
    have HT_w6 : Hid (w6.heap[T]? = some (.cells (RG g) 23 (0, 0))) := (hb.block (T) (Array.getElem?_eq_some_iff.1 HT_w5.out).1).trans HT_w5.out
    have B_w6 : Hid (Below X w w6) := B_w5.out.trans (hb.mono S_w5.out)
    have S_w6 : Hid (X ≤ w6.heap.size) := Nat.le_trans S_w5.out hb.size
    have L_w6 : Hid (Laid w6) := HLw.out.below (by rw [hX]; exact B_w6.out)
    clear HX_w5 HZ_w5 HT_w5 B_w5 S_w5 L_w5
    clear hb
    simp only [Rq.val]
    obtain ⟨T1, hT1⟩ : ∃ Z, w6.heap.size = Z := ⟨_, rfl⟩
    go_upto_region 7 with fail
    obtain ⟨w7, hw7⟩ : ∃ W, w6.alloc (.cells #[.int .i64 qn, .int .i64 qo, .int .u32 qa, .int .i64 qw, .int .i64 qt] 25) = W := ⟨_, rfl⟩
    rw [hw7]
    have hb : Below w6.heap.size w6 w7 := by rw [← hw7]; exact (Below.refl _ _).alloc (Nat.le_refl _) _
    have HQ_w7 : Hid (w7.heap[T1]? = some (.cells #[.int .i64 qn, .int .i64 qo, .int .u32 qa, .int .i64 qw, .int .i64 qt] 25 (0, 0))) := by unfold Hid; rw [← hw7, ← hT1]; exact heap_alloc_new _ _
    have HX_w7 : Hid (w7.heap[X]? = some (.cells (RG r) 23 (0, 0))) := (hb.block (X) (Array.getElem?_eq_some_iff.1 HX_w6.out).1).trans HX_w6.out
    have HZ_w7 : Hid (w7.heap[X + 1 + 1]? = some (.cells #[.int .i64 e0, .int .u32 v0, .int .i64 n0] 42 (0, 0))) := (hb.block (X + 1 + 1) (Array.getElem?_eq_some_iff.1 HZ_w6.out).1).trans HZ_w6.out
    have HT_w7 : Hid (w7.heap[T]? = some (.cells (RG g) 23 (0, 0))) := (hb.block (T) (Array.getElem?_eq_some_iff.1 HT_w6.out).1).trans HT_w6.out
    have B_w7 : Hid (Below X w w7) := B_w6.out.trans (hb.mono S_w6.out)
    have S_w7 : Hid (X ≤ w7.heap.size) := Nat.le_trans S_w6.out hb.size
    have L_w7 : Hid (Laid w7) := HLw.out.below (by rw [hX]; exact B_w7.out)
    clear HX_w6 HZ_w6 HT_w6 B_w6 S_w6 L_w6
    clear hb hw7 hT1
    go_wp2_with (refine wpList_load_row rfl 23 _ rfl (T) rfl 23 _ (0, 0) _ HT_w7.out Tryd.underlying23 rfl (by rw [hsg]; exact size16) ?_)
    refine (CD.out g HG.out H4.out w7 L_w7.out).mono ?_
    rintro e w8 ⟨rfl, hb⟩
    have HX_w8 : Hid (w8.heap[X]? = some (.cells (RG r) 23 (0, 0))) := (hb.block (X) (Array.getElem?_eq_some_iff.1 HX_w7.out).1).trans HX_w7.out
    have HZ_w8 : Hid (w8.heap[X + 1 + 1]? = some (.cells #[.int .i64 e0, .int .u32 v0, .int .i64 n0] 42 (0, 0))) := (hb.block (X + 1 + 1) (Array.getElem?_eq_some_iff.1 HZ_w7.out).1).trans HZ_w7.out
    have HT_w8 : Hid (w8.heap[T]? = some (.cells (RG g) 23 (0, 0))) := (hb.block (T) (Array.getElem?_eq_some_iff.1 HT_w7.out).1).trans HT_w7.out
    have HQ_w8 : Hid (w8.heap[T1]? = some (.cells #[.int .i64 qn, .int .i64 qo, .int .u32 qa, .int .i64 qw, .int .i64 qt] 25 (0, 0))) := (hb.block (T1) (Array.getElem?_eq_some_iff.1 HQ_w7.out).1).trans HQ_w7.out
    have B_w8 : Hid (Below X w w8) := B_w7.out.trans (hb.mono S_w7.out)
    have S_w8 : Hid (X ≤ w8.heap.size) := Nat.le_trans S_w7.out hb.size
    have L_w8 : Hid (Laid w8) := HLw.out.below (by rw [hX]; exact B_w8.out)
    clear HX_w7 HZ_w7 HT_w7 HQ_w7 B_w7 S_w7 L_w7
    clear hb
    simp only [Rq.val]
    obtain ⟨T2, hT2⟩ : ∃ Z, w8.heap.size = Z := ⟨_, rfl⟩
    go_upto_region 8 with fail
    obtain ⟨w9, hw9⟩ : ∃ W, w8.alloc (.cells #[.int .i64 qn, .int .i64 qo, .int .u32 qa, .int .i64 qw, .int .i64 qt] 25) = W := ⟨_, rfl⟩
    rw [hw9]
    have hb : Below w8.heap.size w8 w9 := by rw [← hw9]; exact (Below.refl _ _).alloc (Nat.le_refl _) _
    have HU_w9 : Hid (w9.heap[T2]? = some (.cells #[.int .i64 qn, .int .i64 qo, .int .u32 qa, .int .i64 qw, .int .i64 qt] 25 (0, 0))) := by unfold Hid; rw [← hw9, ← hT2]; exact heap_alloc_new _ _
    have HX_w9 : Hid (w9.heap[X]? = some (.cells (RG r) 23 (0, 0))) := (hb.block (X) (Array.getElem?_eq_some_iff.1 HX_w8.out).1).trans HX_w8.out
    have HZ_w9 : Hid (w9.heap[X + 1 + 1]? = some (.cells #[.int .i64 e0, .int .u32 v0, .int .i64 n0] 42 (0, 0))) := (hb.block (X + 1 + 1) (Array.getElem?_eq_some_iff.1 HZ_w8.out).1).trans HZ_w8.out
    have HT_w9 : Hid (w9.heap[T]? = some (.cells (RG g) 23 (0, 0))) := (hb.block (T) (Array.getElem?_eq_some_iff.1 HT_w8.out).1).trans HT_w8.out
    have HQ_w9 : Hid (w9.heap[T1]? = some (.cells #[.int .i64 qn, .int .i64 qo, .int .u32 qa, .int .i64 qw, .int .i64 qt] 25 (0, 0))) := (hb.block (T1) (Array.getElem?_eq_some_iff.1 HQ_w8.out).1).trans HQ_w8.out
    have B_w9 : Hid (Below X w w9) := B_w8.out.trans (hb.mono S_w8.out)
    have S_w9 : Hid (X ≤ w9.heap.size) := Nat.le_trans S_w8.out hb.size
    have L_w9 : Hid (Laid w9) := HLw.out.below (by rw [hX]; exact B_w9.out)
    clear HX_w8 HZ_w8 HT_w8 HQ_w8 B_w8 S_w8 L_w8
    clear hb hw9 hT2
    obtain ⟨b, hbk⟩ : ∃ b, backR r e0 v0 n0 = b := ⟨_, rfl⟩
    have BA : Hid (b.getD 0 0 = IntKind.u32.wrap e0 ∧ b.getD 1 0 = v0 ∧ b.getD 2 0 = IntKind.u32.wrap n0 ∧ ∀ i, 3 ≤ i → b.getD i 0 = r.getD i 0) := by rw [← hbk]; exact back_at HR.out e0 v0 n0
    have HB : Hid (Regs b) := by rw [← hbk]; exact back_regs HR.out e0 v0 n0 HVV.out
    have CB : Hid (∀ W, Calls Tryd.prog 18 #[.agg (RG r), .agg #[.int .i64 e0, .int .u32 v0, .int .i64 n0]] W fun e w' => e = .returned (.agg (RG b)) ∧ Below W.heap.size W w') := fun W => by rw [← hbk]; exact back_any r HR.out e0 v0 n0 HVV.out W
    clear hbk
    have a0 : w9.cell? ⟨X + 1 + 1, 0, none⟩ = some (.int .i64 e0) := by rw [(row_cell HZ_w9.out 0).1]; rfl
    have a1 : w9.cell? ⟨X + 1 + 1, 1, none⟩ = some (.int .u32 v0) := by rw [(row_cell HZ_w9.out 1).1]; rfl
    have a2 : w9.cell? ⟨X + 1 + 1, 2, none⟩ = some (.int .i64 n0) := by rw [(row_cell HZ_w9.out 2).1]; rfl
    go_wp2_with (refine wpList_load_row rfl 23 _ rfl (X) rfl 23 _ (0, 0) _ HX_w9.out Tryd.underlying23 rfl (by rw [hsr]; exact size16) ?_)
    clear a0 a1 a2
    refine (CB.out w9).mono ?_
    rintro e w10 ⟨rfl, hb⟩
    have HX_w10 : Hid (w10.heap[X]? = some (.cells (RG r) 23 (0, 0))) := (hb.block (X) (Array.getElem?_eq_some_iff.1 HX_w9.out).1).trans HX_w9.out
    have HZ_w10 : Hid (w10.heap[X + 1 + 1]? = some (.cells #[.int .i64 e0, .int .u32 v0, .int .i64 n0] 42 (0, 0))) := (hb.block (X + 1 + 1) (Array.getElem?_eq_some_iff.1 HZ_w9.out).1).trans HZ_w9.out
    have HT_w10 : Hid (w10.heap[T]? = some (.cells (RG g) 23 (0, 0))) := (hb.block (T) (Array.getElem?_eq_some_iff.1 HT_w9.out).1).trans HT_w9.out
    have HQ_w10 : Hid (w10.heap[T1]? = some (.cells #[.int .i64 qn, .int .i64 qo, .int .u32 qa, .int .i64 qw, .int .i64 qt] 25 (0, 0))) := (hb.block (T1) (Array.getElem?_eq_some_iff.1 HQ_w9.out).1).trans HQ_w9.out
    have HU_w10 : Hid (w10.heap[T2]? = some (.cells #[.int .i64 qn, .int .i64 qo, .int .u32 qa, .int .i64 qw, .int .i64 qt] 25 (0, 0))) := (hb.block (T2) (Array.getElem?_eq_some_iff.1 HU_w9.out).1).trans HU_w9.out
    have B_w10 : Hid (Below X w w10) := B_w9.out.trans (hb.mono S_w9.out)
    have S_w10 : Hid (X ≤ w10.heap.size) := Nat.le_trans S_w9.out hb.size
    have L_w10 : Hid (Laid w10) := HLw.out.below (by rw [hX]; exact B_w10.out)
    clear HX_w9 HZ_w9 HT_w9 HQ_w9 HU_w9 B_w9 S_w9 L_w9
    clear hb
    obtain ⟨T3, hT3⟩ : ∃ T, w10.heap.size = T := ⟨_, rfl⟩
    have hza : (w10.alloc (.cells #[.int .u32 0, .int .u32 0, .int .u32 0, .int .u32 0, .int .u32 0, .int .u32 0, .int .u32 0, .int .u32 0, .int .u32 0, .int .u32 0, .int .u32 0, .int .u32 0, .int .u32 0, .int .u32 0, .int .u32 0, .int .u32 0] 23)).heap[T3]? = some (.cells #[.int .u32 0, .int .u32 0, .int .u32 0, .int .u32 0, .int .u32 0, .int .u32 0, .int .u32 0, .int .u32 0, .int .u32 0, .int .u32 0, .int .u32 0, .int .u32 0, .int .u32 0, .int .u32 0, .int .u32 0, .int .u32 0] 23 (0, 0)) := by rw [← hT3]; exact heap_alloc_new _ _
    have hsb := HB.out.size
    have hst := store16 hza (by rfl) HB.out
    obtain ⟨v1, hv1⟩ : ∃ W, (w10.alloc (.cells #[.int .u32 0, .int .u32 0, .int .u32 0, .int .u32 0, .int .u32 0, .int .u32 0, .int .u32 0, .int .u32 0, .int .u32 0, .int .u32 0, .int .u32 0, .int .u32 0, .int .u32 0, .int .u32 0, .int .u32 0, .int .u32 0] 23)).setRow T3 (RG b) = W := ⟨_, rfl⟩
    have hb1 : Below w10.heap.size w10 v1 := by rw [← hv1]; exact below_setRow ((Below.refl _ _).alloc (Nat.le_refl _) _) (by rw [hT3]; exact Nat.le_refl _) _
    have HBK_v1 : Hid (v1.heap[T3]? = some (.cells (RG b) 23 (0, 0))) := by unfold Hid; rw [← hv1]; exact setRow_heap _ _ _ _ _ _ hza
    rw [hv1] at hst
    clear hza hv1
    have HX_v1 : Hid (v1.heap[X]? = some (.cells (RG r) 23 (0, 0))) := (hb1.block (X) (Array.getElem?_eq_some_iff.1 HX_w10.out).1).trans HX_w10.out
    have HZ_v1 : Hid (v1.heap[X + 1 + 1]? = some (.cells #[.int .i64 e0, .int .u32 v0, .int .i64 n0] 42 (0, 0))) := (hb1.block (X + 1 + 1) (Array.getElem?_eq_some_iff.1 HZ_w10.out).1).trans HZ_w10.out
    have HT_v1 : Hid (v1.heap[T]? = some (.cells (RG g) 23 (0, 0))) := (hb1.block (T) (Array.getElem?_eq_some_iff.1 HT_w10.out).1).trans HT_w10.out
    have HQ_v1 : Hid (v1.heap[T1]? = some (.cells #[.int .i64 qn, .int .i64 qo, .int .u32 qa, .int .i64 qw, .int .i64 qt] 25 (0, 0))) := (hb1.block (T1) (Array.getElem?_eq_some_iff.1 HQ_w10.out).1).trans HQ_w10.out
    have HU_v1 : Hid (v1.heap[T2]? = some (.cells #[.int .i64 qn, .int .i64 qo, .int .u32 qa, .int .i64 qw, .int .i64 qt] 25 (0, 0))) := (hb1.block (T2) (Array.getElem?_eq_some_iff.1 HU_w10.out).1).trans HU_w10.out
    have B_v1 : Hid (Below X w v1) := B_w10.out.trans (hb1.mono S_w10.out)
    have S_v1 : Hid (X ≤ v1.heap.size) := Nat.le_trans S_w10.out hb1.size
    have L_v1 : Hid (Laid v1) := HLw.out.below (by rw [hX]; exact B_v1.out)
    clear HX_w10 HZ_w10 HT_w10 HQ_w10 HU_w10 B_w10 S_w10 L_w10
    clear hb1
    go_upto_block 2 with fail
    clear hst
    go_wp2_with fail
    go_loopw [16] (fun iv wr => YR T3 v1 iv wr) (fun i _ => 16 - (intOf i).toNat)
    case atStart => exact ⟨⟨3, by omega, by omega, rfl, 0, rfl⟩⟩
    case round =>
      obtain ⟨⟨j, hj3, hj, rfl, kk, rfl⟩⟩ := hrel
      by_cases hlt : j < 16
      rotate_left
      · have hjI : ¬ (j : Int) < 16 := by omega
        have k0 : decide ((j : Int) < 16) = false := by simp only [hjI, decide_false]
        have EQL := HEQ.out
        clear hlt hj hj3
        obtain ⟨v2, hv2⟩ : ∃ W, v1.drewN kk = W := ⟨_, rfl⟩
        rw [hv2]
        have hb2 : Below v1.heap.size v1 v2 := by rw [← hv2]; exact below_drewN (Below.refl _ _) kk
        have HQ_v2 : Hid (v2.heap[T1]? = some (.cells #[.int .i64 qn, .int .i64 qo, .int .u32 qa, .int .i64 qw, .int .i64 qt] 25 (0, 0))) := (hb2.block T1 (Array.getElem?_eq_some_iff.1 HQ_v1.out).1).trans HQ_v1.out
        have HU_v2 : Hid (v2.heap[T2]? = some (.cells #[.int .i64 qn, .int .i64 qo, .int .u32 qa, .int .i64 qw, .int .i64 qt] 25 (0, 0))) := (hb2.block T2 (Array.getElem?_eq_some_iff.1 HU_v1.out).1).trans HU_v1.out
        have HZ_v2 : Hid (v2.heap[X + 1 + 1]? = some (.cells #[.int .i64 e0, .int .u32 v0, .int .i64 n0] 42 (0, 0))) := (hb2.block (X + 1 + 1) (Array.getElem?_eq_some_iff.1 HZ_v1.out).1).trans HZ_v1.out
        have HBK_v2 : Hid (v2.heap[T3]? = some (.cells (RG b) 23 (0, 0))) := (hb2.block T3 (Array.getElem?_eq_some_iff.1 HBK_v1.out).1).trans HBK_v1.out
        have B_v2 : Hid (Below X w v2) := B_v1.out.trans (hb2.mono S_v1.out)
        have S_v2 : Hid (X ≤ v2.heap.size) := Nat.le_trans S_v1.out hb2.size
        have L_v2 : Hid (Laid v2) := HLw.out.below (by rw [hX]; exact B_v2.out)
        clear hb2 hv2
        go_wp2_with fail
        refine (known_any v2 L_v2.out).mono ?_
        rintro e w21 ⟨rfl, hb⟩
        have HQ_w21 : Hid (w21.heap[T1]? = some (.cells #[.int .i64 qn, .int .i64 qo, .int .u32 qa, .int .i64 qw, .int .i64 qt] 25 (0, 0))) := (hb.block (T1) (Array.getElem?_eq_some_iff.1 HQ_v2.out).1).trans HQ_v2.out
        have HU_w21 : Hid (w21.heap[T2]? = some (.cells #[.int .i64 qn, .int .i64 qo, .int .u32 qa, .int .i64 qw, .int .i64 qt] 25 (0, 0))) := (hb.block (T2) (Array.getElem?_eq_some_iff.1 HU_v2.out).1).trans HU_v2.out
        have HZ_w21 : Hid (w21.heap[X + 1 + 1]? = some (.cells #[.int .i64 e0, .int .u32 v0, .int .i64 n0] 42 (0, 0))) := (hb.block (X + 1 + 1) (Array.getElem?_eq_some_iff.1 HZ_v2.out).1).trans HZ_v2.out
        have HBK_w21 : Hid (w21.heap[T3]? = some (.cells (RG b) 23 (0, 0))) := (hb.block (T3) (Array.getElem?_eq_some_iff.1 HBK_v2.out).1).trans HBK_v2.out
        have B_w21 : Hid (Below X w w21) := B_v2.out.trans (hb.mono S_v2.out)
        have S_w21 : Hid (X ≤ w21.heap.size) := Nat.le_trans S_v2.out hb.size
        have L_w21 : Hid (Laid w21) := HLw.out.below (by rw [hX]; exact B_w21.out)
        clear HQ_v2 HU_v2 HZ_v2 HBK_v2 B_v2 S_v2 L_v2
        clear hb
        have x0 : w21.cell? ⟨T1, 0, none⟩ = some (.int .i64 qn) := by rw [(row_cell HQ_w21.out 0).1]; rfl
        have x1 : w21.cell? ⟨T1, 1, none⟩ = some (.int .i64 qo) := by rw [(row_cell HQ_w21.out 1).1]; rfl
        have x2 : w21.cell? ⟨T1, 2, none⟩ = some (.int .u32 qa) := by rw [(row_cell HQ_w21.out 2).1]; rfl
        have x3 : w21.cell? ⟨T1, 3, none⟩ = some (.int .i64 qw) := by rw [(row_cell HQ_w21.out 3).1]; rfl
        have x4 : w21.cell? ⟨T1, 4, none⟩ = some (.int .i64 qt) := by rw [(row_cell HQ_w21.out 4).1]; rfl
        have y0 : w21.cell? ⟨T2, 0, none⟩ = some (.int .i64 qn) := by rw [(row_cell HU_w21.out 0).1]; rfl
        have y1 : w21.cell? ⟨T2, 1, none⟩ = some (.int .i64 qo) := by rw [(row_cell HU_w21.out 1).1]; rfl
        have y2 : w21.cell? ⟨T2, 2, none⟩ = some (.int .u32 qa) := by rw [(row_cell HU_w21.out 2).1]; rfl
        have y3 : w21.cell? ⟨T2, 3, none⟩ = some (.int .i64 qw) := by rw [(row_cell HU_w21.out 3).1]; rfl
        have y4 : w21.cell? ⟨T2, 4, none⟩ = some (.int .i64 qt) := by rw [(row_cell HU_w21.out 4).1]; rfl
        have a0 : w21.cell? ⟨X + 1 + 1, 0, none⟩ = some (.int .i64 e0) := by rw [(row_cell HZ_w21.out 0).1]; rfl
        have a1 : w21.cell? ⟨X + 1 + 1, 1, none⟩ = some (.int .u32 v0) := by rw [(row_cell HZ_w21.out 1).1]; rfl
        have a2 : w21.cell? ⟨X + 1 + 1, 2, none⟩ = some (.int .i64 n0) := by rw [(row_cell HZ_w21.out 2).1]; rfl
        have b0 := (reg_at HBK_w21.out HB.out (i := 0) (by omega)).1
        have b1 := (reg_at HBK_w21.out HB.out (i := 1) (by omega)).1
        have b2 := (reg_at HBK_w21.out HB.out (i := 2) (by omega)).1
        rw [BA.out.1] at b0
        rw [BA.out.2.1] at b1
        rw [BA.out.2.2.1] at b2
        go_wp2_with fail
        go_ret
        exact ⟨rfl, B_w21.out⟩
      have hjI : (j : Int) < 16 := by omega
      have k0 : decide ((j : Int) < 16) = true := by simp only [hjI, decide_true]
      have bb := (reg_at HBK_v1.out HB.out hlt).1
      have rr := (reg_at HX_v1.out HR.out hlt).1
      rw [BA.out.2.2.2 j hj3] at bb
      obtain ⟨z, hz⟩ : ∃ z, r.getD j 0 = z := ⟨_, rfl⟩
      rw [hz] at bb rr
      have HJ : Hid (j < 16 ∧ 3 ≤ j) := ⟨hlt, hj3⟩
      have hXv : v1.drewN kk = v1.drewN kk := rfl
      obtain ⟨vr, hvr⟩ : ∃ W, v1.drewN kk = W := ⟨_, rfl⟩
      have bb2 : vr.cell? ⟨T3, j, none⟩ = some (.int .u32 z) := by rw [← hvr]; exact bb
      have rr2 : vr.cell? ⟨X, j, none⟩ = some (.int .u32 z) := by rw [← hvr]; exact rr
      have HVR := Lib.hid hvr
      rw [hvr]
      clear bb rr hz hlt hj hj3 hvr hXv
      go_upto_region 12 with fail
      go_quiet (fail)
      go_wp2_with fail
      refine ⟨⟨j + 1, by have := HJ.out; omega, by have := HJ.out; omega, by go_num, kk + nq, ?_⟩, ?_⟩
      · rw [← HVR.out, World.drewN_drewN]
      · have := HJ.out; simp [intOf]; omega
end Go.Proofs.YtglpbngdikfliaaDoor.Ca
