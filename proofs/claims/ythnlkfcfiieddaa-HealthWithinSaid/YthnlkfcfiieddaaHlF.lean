/-
  The document's example. Each statement bears its own conditions.
-/
import Derived.Test.YthnlkfcfiieddaaHlE
namespace Go.Proofs.Ythnlkfcfiieddaa.Hl
open Go.RowKit Go.Proofs.Ythnlkfcfiieddaa.F 
set_option linter.unusedVariables false
set_option linter.unusedSimpArgs false
set_option maxRecDepth 100000 in
set_option maxHeartbeats 4000000 in
theorem act_eql (a0 a1 b0 b1 : Int) (w : World) : (binOp .eql 40 (.agg #[.int .i64 a0, .int .i64 a1]) (.agg #[.int .i64 b0, .int .i64 b1])).run Try.prog w = .ok (.bool (a0 == b0 && a1 == b1)) w := by
  have u3 := Try.underlying3
  have a3 := Try.isAgg3
  have z3 := Try.sizeOf3
  have hS : Try.prog.underlying 40 = some (.struct (Try.prog.fieldsOf 40)) := by kernel_rfl
  have hp : Try.prog.stoodInHeld 40 = false := by kernel_rfl
  simp only [binOp, Op.equal, Op.maxDepth]
  rw [show (10000 : Nat) = 9999 + 1 from rfl]
  simp only [Sem.run_bind]
  rw [run_equalIn_agg w 9999 40 _ _ hS hp]
  simp only [Program.fieldsOf, Try.underlying40]
  go_simp
  by_cases h0 : a0 = b0
  rotate_left
  · simp [h0]
  by_cases h1 : a1 = b1
  rotate_left
  · simp [h0, h1]
  simp [h0, h1]
theorem ne_hl : ∀ (x : Nat) (w : World), (binOp .neq 25 (.pointer (some ⟨x, 0, none⟩)) (.pointer none)).run Try.prog w = .ok (.bool true) w := fun _ _ => rfl
def R0 : List ((Int × Int) × Int) := [((14, 0), 3), ((13, 1), 5)]
theorem nl0 : newL false [(14, 0, 3), (13, 1, 5)] [] = (0, R0) := by decide
theorem sp1 : decV false R0 3 14 = (0, 3) := by decide
theorem sp2 : decV false R0 3 13 = (1, 5) := by decide
theorem sp3 : decV false R0 3 12 = (0, 2) := by decide
theorem sp4 : decV false R0 (-1) 12 = (1, 6) := by decide
set_option maxRecDepth 100000 in
set_option maxHeartbeats 16000000 in
theorem speaks_any (w : World) : Calls Try.prog 8 #[] w fun r w' => r = .returned (.bool true) ∧ Below w.heap.size w w' := by
  have he := he_hl
  have hq := act_eql
  obtain ⟨S, hS⟩ : ∃ S, w.heap.size = S := ⟨_, rfl⟩
  obtain ⟨W0, hW0⟩ : ∃ W0, w.alloc (.cells #[.int .i64 14, .int .i64 0, .int .i64 3, .int .i64 13, .int .i64 1, .int .i64 5] 59) = W0 := ⟨_, rfl⟩
  have hb0 : W0.heap[S]? = some (.cells #[.int .i64 14, .int .i64 0, .int .i64 3, .int .i64 13, .int .i64 1, .int .i64 5] 59 (0, 0)) := by rw [← hW0, ← hS]; exact heap_alloc_new _ _
  have B0 : Hid (Below S w W0) := by rw [← hW0, ← hS]; exact (Below.refl _ _).alloc (Nat.le_refl _) _
  have S0 : Hid (W0.heap.size = S + 1) := by rw [← hW0, ← hS]; unfold Hid; simp
  have RW : Hid (RR W0 (some ⟨S, 0, none⟩) 2 [(14, 0, 3), (13, 1, 5)]) := by
    refine ⟨rfl, fun i x hx => ⟨S, 0, rfl, by rw [S0.out]; omega, ?_⟩⟩
    rcases i with _ | _ | i
    · simp at hx
      subst hx
      exact ⟨by rw [(row_cell hb0 _).1]; rfl, by rw [(row_cell hb0 _).1]; rfl, by rw [(row_cell hb0 _).1]; rfl⟩
    · simp at hx
      subst hx
      exact ⟨by rw [(row_cell hb0 _).1]; rfl, by rw [(row_cell hb0 _).1]; rfl, by rw [(row_cell hb0 _).1]; rfl⟩
    · simp at hx
  have CN := Lib.hid (new_any false (some ⟨S, 0, none⟩) 2 2 [(14, 0, 3), (13, 1, 5)] W0 RW.out (by omega))
  rw [nl0, S0.out] at CN
  rw [hS]
  clear hb0
  go_enter Try.func8, Try.ntmps8
  go_wp2_with fail
  refine CN.out.mono ?_
  rintro r w1 ⟨b1, h1, _⟩
  obtain ⟨rfl, q1⟩ := h1 (by first | rfl | trivial)
  have Q1 := Lib.hid q1
  have B1 : Hid (Below S w w1) := B0.out.trans (b1.mono (by omega))
  clear q1 b1 h1 CN hW0 hS
  go_wp2_with fail
  refine (decide_any _ _ _ _ _ _ 3 14 _ Q1.out).mono ?_
  rw [sp1]
  rintro r w2 ⟨rfl, q2, f2⟩
  have Q2 := Lib.hid q2
  have B2 : Hid (Below S w w2) := B1.out.trans (f2.below (fun b hb => by rw [hb]; omega) (by have := Q1.out.lt; omega))
  clear q2 f2 Q1 B1
  go_wp2_with fail
  refine (decide_any _ _ _ _ _ _ 3 13 _ Q2.out).mono ?_
  rw [sp2]
  rintro r w3 ⟨rfl, q3, f3⟩
  have Q3 := Lib.hid q3
  have B3 : Hid (Below S w w3) := B2.out.trans (f3.below (fun b hb => by rw [hb]; omega) (by have := Q2.out.lt; omega))
  clear q3 f3 Q2 B2
  go_wp2_with fail
  refine (decide_any _ _ _ _ _ _ 3 12 _ Q3.out).mono ?_
  rw [sp3]
  rintro r w4 ⟨rfl, q4, f4⟩
  have Q4 := Lib.hid q4
  have B4 : Hid (Below S w w4) := B3.out.trans (f4.below (fun b hb => by rw [hb]; omega) (by have := Q3.out.lt; omega))
  clear q4 f4 Q3 B3
  go_wp2_with fail
  refine (decide_any _ _ _ _ _ _ (-1) 12 _ Q4.out).mono ?_
  rw [sp4]
  rintro r w5 ⟨rfl, q5, f5⟩
  have Q5 := Lib.hid q5
  have B5 : Hid (Below S w w5) := B4.out.trans (f5.below (fun b hb => by rw [hb]; omega) (by have := Q4.out.lt; omega))
  clear q5 f5 Q4 B4
  go_wp2_with fail
  go_ret
  exact ⟨rfl, B5.out⟩
end Go.Proofs.Ythnlkfcfiieddaa.Hl
