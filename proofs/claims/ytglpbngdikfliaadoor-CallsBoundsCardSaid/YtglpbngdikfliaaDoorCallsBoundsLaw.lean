/-
  CallsBounds' walk. Each statement bears its own conditions.
-/
import Derived.Test.YtglpbngdikfliaaDoorCaP0
import Derived.Test.YtglpbngdikfliaaDoorCaP1
import Derived.Test.YtglpbngdikfliaaDoorCaP2
import Derived.Test.YtglpbngdikfliaaDoorCaP3
namespace Go.Proofs.YtglpbngdikfliaaDoor.Ca
open Go.RowKit Go.Proofs.YtglpbngdikfliaaDoor.F
set_option linter.unusedVariables false
set_option linter.unusedSimpArgs false
set_option maxRecDepth 100000 in
set_option maxHeartbeats 8000000 in
theorem bounds_walk (n fld v : Int) (hv : U32 v) (hf : I64 fld) (w : World) (hL : Laid w) : Calls Tryd.prog 7 #[.int .i64 n, .int .i64 fld, .int .u32 v] w fun e w' => e = .returned (.bool true) ∧ Below w.heap.size w w' := by
  rcases Bool.eq_false_or_eq_true (is n) with hn | hn
  · have h0 : 0 ≤ IntKind.u64.wrap fld := by rw [IntKind.wrap_u64]; omega
    have h1 := Int.tmod_nonneg 4 h0
    have h2 := Int.tmod_lt_of_pos (IntKind.u64.wrap fld) (show (0 : Int) < 4 by omega)
    generalize hq : (IntKind.u64.wrap fld).tmod 4 = q at h1 h2
    have hc : q = 0 ∨ q = 1 ∨ q = 2 ∨ q = 3 := by omega
    rcases hc with rfl | rfl | rfl | rfl
    · exact bounds_0 n fld v hv hn hq w hL
    · exact bounds_1 n fld v hv hn hq w hL
    · exact bounds_2 n fld v hv hn hq w hL
    · exact bounds_3 n fld v hv hn hq w hL
  obtain ⟨X, hX⟩ : ∃ X, w.heap.size = X := ⟨_, rfl⟩
  have HLw := Lib.hid hL
  have B_w : Hid (Below X w w) := by rw [← hX]; exact Below.refl _ _
  have S_w : Hid (X ≤ w.heap.size) := by rw [hX]; exact Nat.le_refl _
  have L_w := Lib.hid hL
  have CO := Lib.hid (of_any n w)
  have HQ : rowQ n = .agg #[.string ⟨#[]⟩, .bool false, .bool false, .bool false, .bool false, .int .i64 0] := by unfold rowQ; rw [hn]; rfl
  rw [hn, HQ] at CO
  have CD : Hid (∀ W, Laid W → Calls Tryd.prog 9 #[.int .i64 n, .agg #[.int .u32 0, .int .u32 0, .int .u32 0, .int .u32 0, .int .u32 0, .int .u32 0, .int .u32 0, .int .u32 0, .int .u32 0, .int .u32 0, .int .u32 0, .int .u32 0, .int .u32 0, .int .u32 0, .int .u32 0, .int .u32 0]] W fun e w' => e = .returned (.tuple #[.agg #[.int .i64 0, .int .i64 0, .int .u32 0, .int .i64 0, .int .i64 0], .int .i64 9]) ∧ Below W.heap.size W w') := fun W h => by
    have h1 := decode_any n zr zr_ok W h
    have e1 : decQ n zr = zeroQ := by unfold decQ; rw [hn]; rfl
    have e2 : decE n zr = 9 := by unfold decE; rw [hn]; rfl
    rw [e1, e2] at h1
    exact h1
  clear HQ hn hL
  simp only [hX]
  go_enter Tryd.func7, Tryd.ntmps7
  go_wp2_with fail
  refine (CO.out).mono ?_
  rintro e w1 ⟨rfl, hb⟩
  have B_w1 : Hid (Below X w w1) := B_w.out.trans (hb.mono S_w.out)
  have S_w1 : Hid (X ≤ w1.heap.size) := Nat.le_trans S_w.out hb.size
  have L_w1 : Hid (Laid w1) := HLw.out.below (by rw [hX]; exact B_w1.out)
  clear  B_w S_w L_w
  clear hb
  obtain ⟨T0, hT0⟩ : ∃ Z, w1.heap.size = Z := ⟨_, rfl⟩
  go_upto_region 2 with fail
  obtain ⟨w2, hw2⟩ : ∃ W, w1.alloc (.cells #[.string ⟨#[]⟩, .bool false, .bool false, .bool false, .bool false, .int .i64 0] 46) = W := ⟨_, rfl⟩
  rw [hw2]
  have hb : Below w1.heap.size w1 w2 := by rw [← hw2]; exact (Below.refl _ _).alloc (Nat.le_refl _) _
  have HR_w2 : Hid (w2.heap[T0]? = some (.cells #[.string ⟨#[]⟩, .bool false, .bool false, .bool false, .bool false, .int .i64 0] 46 (0, 0))) := by unfold Hid; rw [← hw2, ← hT0]; exact heap_alloc_new _ _
  have B_w2 : Hid (Below X w w2) := B_w1.out.trans (hb.mono S_w1.out)
  have S_w2 : Hid (X ≤ w2.heap.size) := Nat.le_trans S_w1.out hb.size
  have L_w2 : Hid (Laid w2) := HLw.out.below (by rw [hX]; exact B_w2.out)
  clear  B_w1 S_w1 L_w1
  clear hb hw2 hT0
  go_wp2_with fail
  refine (CD.out _ L_w2.out).mono ?_
  rintro e w3 ⟨rfl, hb⟩
  have HR_w3 : Hid (w3.heap[T0]? = some (.cells #[.string ⟨#[]⟩, .bool false, .bool false, .bool false, .bool false, .int .i64 0] 46 (0, 0))) := (hb.block (T0) (Array.getElem?_eq_some_iff.1 HR_w2.out).1).trans HR_w2.out
  have B_w3 : Hid (Below X w w3) := B_w2.out.trans (hb.mono S_w2.out)
  have S_w3 : Hid (X ≤ w3.heap.size) := Nat.le_trans S_w2.out hb.size
  have L_w3 : Hid (Laid w3) := HLw.out.below (by rw [hX]; exact B_w3.out)
  clear HR_w2 B_w2 S_w2 L_w2
  clear hb
  obtain ⟨T1, hT1⟩ : ∃ Z, w3.heap.size = Z := ⟨_, rfl⟩
  go_upto_region 4 with fail
  obtain ⟨w4, hw4⟩ : ∃ W, w3.alloc (.cells #[.int .i64 0, .int .i64 0, .int .u32 0, .int .i64 0, .int .i64 0] 25) = W := ⟨_, rfl⟩
  rw [hw4]
  have hb : Below w3.heap.size w3 w4 := by rw [← hw4]; exact (Below.refl _ _).alloc (Nat.le_refl _) _
  have HQ_w4 : Hid (w4.heap[T1]? = some (.cells #[.int .i64 0, .int .i64 0, .int .u32 0, .int .i64 0, .int .i64 0] 25 (0, 0))) := by unfold Hid; rw [← hw4, ← hT1]; exact heap_alloc_new _ _
  have HR_w4 : Hid (w4.heap[T0]? = some (.cells #[.string ⟨#[]⟩, .bool false, .bool false, .bool false, .bool false, .int .i64 0] 46 (0, 0))) := (hb.block (T0) (Array.getElem?_eq_some_iff.1 HR_w3.out).1).trans HR_w3.out
  have B_w4 : Hid (Below X w w4) := B_w3.out.trans (hb.mono S_w3.out)
  have S_w4 : Hid (X ≤ w4.heap.size) := Nat.le_trans S_w3.out hb.size
  have L_w4 : Hid (Laid w4) := HLw.out.below (by rw [hX]; exact B_w4.out)
  clear HR_w3 B_w3 S_w3 L_w3
  clear hb hw4 hT1
  go_wp2_with fail
  refine (known_any w4 L_w4.out).mono ?_
  rintro e w5 ⟨rfl, hb⟩
  have HR_w5 : Hid (w5.heap[T0]? = some (.cells #[.string ⟨#[]⟩, .bool false, .bool false, .bool false, .bool false, .int .i64 0] 46 (0, 0))) := (hb.block (T0) (Array.getElem?_eq_some_iff.1 HR_w4.out).1).trans HR_w4.out
  have HQ_w5 : Hid (w5.heap[T1]? = some (.cells #[.int .i64 0, .int .i64 0, .int .u32 0, .int .i64 0, .int .i64 0] 25 (0, 0))) := (hb.block (T1) (Array.getElem?_eq_some_iff.1 HQ_w4.out).1).trans HQ_w4.out
  have B_w5 : Hid (Below X w w5) := B_w4.out.trans (hb.mono S_w4.out)
  have S_w5 : Hid (X ≤ w5.heap.size) := Nat.le_trans S_w4.out hb.size
  have L_w5 : Hid (Laid w5) := HLw.out.below (by rw [hX]; exact B_w5.out)
  clear HR_w4 HQ_w4 B_w4 S_w4 L_w4
  clear hb
  go_wp2_with fail
  go_ret
  exact ⟨rfl, B_w5.out⟩
end Go.Proofs.YtglpbngdikfliaaDoor.Ca
