/-
  Keys of two numbers in an array. Each statement bears its own conditions.
-/
import Derived.Test.YthnlkfcfiieddaaHlN
import Derived.Laws.StructEq
namespace Go.Proofs.Ythnlkfcfiieddaa.Hv
open Go.RowKit Go.Proofs.Ythnlkfcfiieddaa.F
set_option linter.unusedVariables false
set_option linter.unusedSimpArgs false
set_option maxRecDepth 100000 in
set_option maxHeartbeats 4000000 in
theorem ek_two : EqK Try.prog 48 := by
  have u3 := Try.underlying3
  have a3 := Try.isAgg3
  have z3 := Try.sizeOf3
  have hS : Try.prog.underlying 48 = some (.array 2 3) := by kernel_rfl
  refine ⟨⟨_, hS, fun a c x y => rfl⟩, fun a c x y w => ?_, fun em a c w => ?_⟩
  · unfold kv
    simp only [Op.equal, Op.maxDepth]
    rw [show (10000 : Nat) = 9999 + 1 from rfl]
    unfold Op.equalIn
    simp only [Sem.run_bind, run_underlying hS, Result.andThen_ok, z3]
    rw [show (9999 : Nat) = 9998 + 1 from rfl]
    go_simp
    rw [show List.range' 0 2 = [0, 1] from rfl]
    simp only [List.forIn_cons, List.forIn_nil, Sem.run_bind, a3, z3, Result.andThen_ok, Bool.false_eq_true, if_false]
    go_simp
    by_cases h0 : a = x
    rotate_left
    · simp [h0]
    by_cases h1 : c = y
    rotate_left
    · simp [h0, h1]
    simp [h0, h1]
  · unfold kv
    rw [show (10000 : Nat) = 9999 + 1 from rfl]
    unfold Instr.checkKey
    simp only [Sem.run_bind, run_underlying hS, Result.andThen_ok, z3]
    rw [show (9999 : Nat) = 9998 + 1 from rfl]
    go_simp
    rw [show List.range' 0 2 = [0, 1] from rfl]
    simp only [List.forIn_cons, List.forIn_nil, Sem.run_bind, a3, z3, Result.andThen_ok, Bool.false_eq_true, if_false]
    go_simp
    try rw [MapKept.run_checkKey (k := Value.int .i64 a) u3 (show IntKind.i64 = IntKind.i64 from rfl)]
    try simp only [Result.andThen_ok]
    simp only [Sem.run_bind, a3, z3, Result.andThen_ok, Bool.false_eq_true, if_false]
    go_simp
    rw [MapKept.run_checkKey (k := Value.int .i64 c) u3 (show IntKind.i64 = IntKind.i64 from rfl)]
    simp only [Result.andThen_ok]
end Go.Proofs.Ythnlkfcfiieddaa.Hv
