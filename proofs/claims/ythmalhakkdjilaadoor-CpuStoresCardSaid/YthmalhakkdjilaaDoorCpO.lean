/-
  Contracts of Fresh and of the document's Encode. Each statement bears its own conditions.
-/
import Derived.Test.YthmalhakkdjilaaDoorCpN
namespace Go.Proofs.YthmalhakkdjilaaDoor
open Go.RowKit
set_option linter.unusedVariables false
set_option linter.unusedSimpArgs false
def freshR (pc floor top : Int) : List Int := (((R0.set 16 pc).set 17 top).set 18 floor).set 19 top
theorem fresh_cells (pc floor top : Int) : (cells (freshR pc floor top)).toArray = #[.int .u32 0, .int .u32 0, .int .u32 0, .int .u32 0, .int .u32 0, .int .u32 0, .int .u32 0, .int .u32 0, .int .u32 0, .int .u32 0, .int .u32 0, .int .u32 0, .int .u32 0, .int .u32 0, .int .u32 0, .int .u32 0, .int .u32 pc, .int .u32 top, .int .u32 floor, .int .u32 top, .int .u32 0, .int .u32 0, .int .i64 0, .int .u32 0, .int .u32 0, .int .i64 0, .int .u32 0, .int .u32 0, .int .i64 0, .int .u32 0, .int .u32 0, .int .i64 0, .int .u32 0, .int .u32 0, .int .i64 0, .int .u32 0, .int .u32 0, .int .i64 0, .int .u32 0, .int .u32 0, .int .i64 0, .int .u32 0, .int .u32 0, .int .i64 0, .int .i64 0] := by kernel_rfl
theorem fresh_ok {pc floor top : Int} (h1 : U32 pc) (h2 : U32 floor) (h3 : U32 top) : RegOk (freshR pc floor top) := by
  have h0 : RegOk R0 := ⟨r0_len, fun j hj => by
    have : R0.getD j 0 = 0 := by unfold R0; rw [List.getD_eq_getElem?_getD, List.getElem?_replicate]; split <;> rfl
    rw [this]
    unfold kd
    split
    · exact ⟨by omega, by omega⟩
    split
    · exact ⟨by omega, by omega⟩
    split
    · exact ⟨by omega, by omega⟩
    · exact ⟨by omega, by omega⟩⟩
  exact (((h0.set 16 pc h1).set 17 top h3).set 18 floor h2).set 19 top h3
set_option maxRecDepth 100000 in
set_option maxHeartbeats 8000000 in
theorem fresh_any (pc floor top : Int) (w : World) : Calls Tryd.prog 15 #[.int .u32 pc, .int .u32 floor, .int .u32 top] w fun e w' => e = .returned (.agg (cells (freshR pc floor top)).toArray) ∧ Below w.heap.size w w' := by
  obtain ⟨W1, hW1⟩ : ∃ W1, w.alloc (.cells #[.int .u32 0, .int .u32 0, .int .u32 0, .int .u32 0, .int .u32 0, .int .u32 0, .int .u32 0, .int .u32 0, .int .u32 0, .int .u32 0, .int .u32 0, .int .u32 0, .int .u32 0, .int .u32 0, .int .u32 0, .int .u32 0, .int .u32 0, .int .u32 0, .int .u32 0, .int .u32 0, .int .u32 0, .int .u32 0, .int .i64 0, .int .u32 0, .int .u32 0, .int .i64 0, .int .u32 0, .int .u32 0, .int .i64 0, .int .u32 0, .int .u32 0, .int .i64 0, .int .u32 0, .int .u32 0, .int .i64 0, .int .u32 0, .int .u32 0, .int .i64 0, .int .u32 0, .int .u32 0, .int .i64 0, .int .u32 0, .int .u32 0, .int .i64 0, .int .i64 0] 28) = W1 := ⟨_, rfl⟩
  have h1 : RB W1 w.heap.size R0 [] 28 := by rw [← hW1]; exact RB.zero _ _
  have hl : (freshR pc floor top).length = 45 := by simp [freshR, r0_len]
  have HZ := Lib.hid h1
  have HL := Lib.hid hl
  have HX := Lib.hid (h1.store (freshR pc floor top) (by rw [hl, r0_len]))
  have HB : Hid (Below w.heap.size w (W1.setCells w.heap.size 0 (cells (freshR pc floor top)))) := by
    refine ((Below.refl _ _).alloc (Nat.le_refl _) _ : Below w.heap.size w (w.alloc (.cells #[.int .u32 0, .int .u32 0, .int .u32 0, .int .u32 0, .int .u32 0, .int .u32 0, .int .u32 0, .int .u32 0, .int .u32 0, .int .u32 0, .int .u32 0, .int .u32 0, .int .u32 0, .int .u32 0, .int .u32 0, .int .u32 0, .int .u32 0, .int .u32 0, .int .u32 0, .int .u32 0, .int .u32 0, .int .u32 0, .int .i64 0, .int .u32 0, .int .u32 0, .int .i64 0, .int .u32 0, .int .u32 0, .int .i64 0, .int .u32 0, .int .u32 0, .int .i64 0, .int .u32 0, .int .u32 0, .int .i64 0, .int .u32 0, .int .u32 0, .int .i64 0, .int .u32 0, .int .u32 0, .int .i64 0, .int .u32 0, .int .u32 0, .int .i64 0, .int .i64 0] 28))).trans ?_
    rw [hW1]
    exact (past_setCells w.heap.size _ _ _).below (Nat.le_refl _) (Nat.le_of_lt h1.lt)
  clear h1 hl
  go_enter Tryd.func15, Tryd.ntmps15
  go_wp2_with (refine wpList_store_regs (r := freshR pc floor top) rfl _ _ rfl rfl (congrArg Value.agg (fresh_cells pc floor top).symm) HZ.out r0_len HL.out ?_; dsimp only [Act.put])
  refine bodyPost_ret (results_regs rfl _ _ w.heap.size (freshR pc floor top) _ _ HL.out rfl HX.out) rfl ⟨rfl, HB.out⟩
set_option maxRecDepth 100000 in
set_option maxHeartbeats 4000000 in
theorem encode_ref (o a b n : Int) (w : World) (ho : 0 ≤ o ∧ o ≤ 23) (ha : 0 ≤ a ∧ a ≤ 15) (hb : 0 ≤ b ∧ b ≤ 15) (hn : 0 ≤ n ∧ n ≤ 262143) :
    Calls Tryd.prog 14 #[.agg #[.int .i64 o, .int .i64 a, .int .i64 b, .int .i64 n]] w fun e w' => e = .returned (.int .u32 (o * 134217728 + a * 8388608 + b * 524288 + n)) ∧ Below w.heap.size w w' := by
  obtain ⟨ho0, ho1⟩ := ho
  obtain ⟨ha0, ha1⟩ := ha
  obtain ⟨hb0, hb1⟩ := hb
  obtain ⟨hn0, hn1⟩ := hn
  have hnn : decide (n < 0) = false := by simp; omega
  have e1 : a % 16 = a := by omega
  have e2 : b % 16 = b := by omega
  have e3 : n % 524288 = n := by omega
  have t1 : a.tmod 16 = a := by rw [Int.tmod_eq_emod_of_nonneg ha0]; exact e1
  have t2 : b.tmod 16 = b := by rw [Int.tmod_eq_emod_of_nonneg hb0]; exact e2
  have t3 : n.tmod 524288 = n := by rw [Int.tmod_eq_emod_of_nonneg hn0]; exact e3
  have u1 : IntKind.u32.wrap o = o := by rw [IntKind.wrap_u32]; omega
  have u2 : IntKind.u32.wrap a = a := by rw [IntKind.wrap_u32]; omega
  have u3 : IntKind.u32.wrap b = b := by rw [IntKind.wrap_u32]; omega
  have u4 : IntKind.u32.wrap n = n := by rw [IntKind.wrap_u32]; omega
  have u5 : IntKind.u32.wrap (o * 134217728) = o * 134217728 := by rw [IntKind.wrap_u32]; omega
  have u6 : IntKind.u32.wrap (a * 8388608) = a * 8388608 := by rw [IntKind.wrap_u32]; omega
  have u7 : IntKind.u32.wrap (b * 524288) = b * 524288 := by rw [IntKind.wrap_u32]; omega
  have u8 : IntKind.u32.wrap (o * 134217728 + a * 8388608) = o * 134217728 + a * 8388608 := by rw [IntKind.wrap_u32]; omega
  have u9 : IntKind.u32.wrap (o * 134217728 + a * 8388608 + b * 524288) = o * 134217728 + a * 8388608 + b * 524288 := by rw [IntKind.wrap_u32]; omega
  have u10 : IntKind.u32.wrap (o * 134217728 + a * 8388608 + b * 524288 + n) = o * 134217728 + a * 8388608 + b * 524288 + n := by rw [IntKind.wrap_u32]; omega
  go_enter Tryd.func14, Tryd.ntmps14
  go_wp2_with fail
  go_ret
  exact ⟨rfl, (Below.refl _ _).alloc (Nat.le_refl _) _⟩
end Go.Proofs.YthmalhakkdjilaaDoor
