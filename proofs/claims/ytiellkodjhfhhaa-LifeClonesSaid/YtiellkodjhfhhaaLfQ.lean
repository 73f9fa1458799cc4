/-
  Two of the document's are held against each other. Each statement bears its own conditions.
-/
import Derived.Test.YtiellkodjhfhhaaLfP
namespace Go.Proofs.Ytiellkodjhfhhaa.Lf
open Go.RowKit Go.Proofs.Ytiellkodjhfhhaa.F 
set_option linter.unusedVariables false
set_option linter.unusedSimpArgs false
set_option maxRecDepth 100000 in
set_option maxHeartbeats 4000000 in
theorem ref_eql (a b : LS) (f : Int) (w : World) : (binOp .eql 30 (.agg #[.int .i64 a.mode, .int .i64 a.starts, .int .i64 a.left, .int .i64 f]) (.agg #[.int .i64 b.mode, .int .i64 b.starts, .int .i64 b.left, .int .i64 f])).run Try.prog w = .ok (.bool (a.eqB b)) w := by
  have u3 := Try.underlying3
  have a3 := Try.isAgg3
  have z3 := Try.sizeOf3
  have hS : Try.prog.underlying 30 = some (.struct (Try.prog.fieldsOf 30)) := by kernel_rfl
  have hp : Try.prog.stoodInHeld 30 = false := by kernel_rfl
  obtain ⟨a0, a1, a2⟩ := a
  obtain ⟨b0, b1, b2⟩ := b
  simp only [binOp, Op.equal, Op.maxDepth]
  rw [show (10000 : Nat) = 9999 + 1 from rfl]
  simp only [Sem.run_bind]
  rw [run_equalIn_agg w 9999 30 _ _ hS hp]
  simp only [Program.fieldsOf, Try.underlying30]
  go_simp
  unfold LS.eqB
  simp only
  by_cases h0 : a0 = b0
  rotate_left
  · simp [h0]
  by_cases h1 : a1 = b1
  rotate_left
  · by_cases h2 : a2 = b2
    · simp [h0, h1, h2]
    · simp [h0, h1, h2]
  by_cases h2 : a2 = b2
  rotate_left
  · simp [h0, h1, h2]
  simp [h0, h1, h2]
end Go.Proofs.Ytiellkodjhfhhaa.Lf
