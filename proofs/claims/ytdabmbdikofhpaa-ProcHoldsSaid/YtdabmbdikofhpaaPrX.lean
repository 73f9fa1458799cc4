/-
  Acts that come in, opened. Each statement bears its own conditions.
-/
import Derived.Test.YtdabmbdikofhpaaPrO
import Derived.Test.YtdabmbdikofhpaaPrW
namespace Go.Proofs.Ytdabmbdikofhpaa.P
open Go.RowKit Go.ChangeShapes Go.WideShapes Go.ChangeAt
set_option linter.unusedVariables false
set_option linter.unusedSimpArgs false
theorem prlen3 {cs : List Value} (h : cs.length = 3) : ∃ u0 u1 u2 : Value, cs = [u0, u1, u2] := by
  match cs, h with
  | [u0, u1, u2], _ => exact ⟨_, _, _, rfl⟩
set_option maxHeartbeats 2000000 in
theorem open_C {H : Type} {enc : TypeId × Value → H} {W : World} {base : Nat} {held : Bool} (n : Nat) (cs : List Value) (y : DataW H × List MemPlace) (hl : cs.length = 3) (h : DataW.trod enc Try.prog W base (fun _ => true) held n 30 cs = some y) (hw : ∀ n ∈ y.1.weights Try.prog 30, n ≤ reachBytes) : ∃ x : MC, RC3 x cs := by
  obtain ⟨n', hf⟩ := prfield_of Try.underlying30 h hw
  obtain ⟨u0, u1, u2, rfl⟩ := prlen3 hl
  obtain ⟨w0, g0, k0⟩ := hf 0 _ rfl
  replace g0 : DataW.trod enc Try.prog W base (fun _ => true) held n' 5 [u0] = some w0 := by simpa [show Try.prog.cellsOf 5 = 1 by kernel_rfl] using g0
  obtain ⟨z0, e0, _, f0⟩ := DataW.trod_int Try.underlying5 g0
  injection e0 with e0
  subst e0
  obtain ⟨w1, g1, k1⟩ := hf 1 _ rfl
  replace g1 : DataW.trod enc Try.prog W base (fun _ => true) held n' 3 [u1] = some w1 := by simpa [show Try.prog.cellsOf 3 = 1 by kernel_rfl] using g1
  obtain ⟨z1, e1, _, f1⟩ := DataW.trod_int Try.underlying3 g1
  injection e1 with e1
  subst e1
  obtain ⟨w2, g2, k2⟩ := hf 2 _ rfl
  replace g2 : DataW.trod enc Try.prog W base (fun _ => true) held n' 3 [u2] = some w2 := by simpa [show Try.prog.cellsOf 3 = 1 by kernel_rfl] using g2
  obtain ⟨z2, e2, _, f2⟩ := DataW.trod_int Try.underlying3 g2
  injection e2 with e2
  subst e2
  exact ⟨⟨z0, z1, z2⟩, rfl, (u8_wf _ f0).1, (u8_wf _ f0).2, I64.of_wf f1, I64.of_wf f2⟩
end Go.Proofs.Ytdabmbdikofhpaa.P
