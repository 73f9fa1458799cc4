/-
  Ops that come in, opened. Each statement bears its own conditions.
-/
import Derived.Test.YtehlgfflbbfjkaaEvD
namespace Go.Proofs.Ytehlgfflbbfjkaa.E
open Go.ChangeShapes Go.WideShapes Go.ChangeAt
open Go.RowKit Go.Proofs.Ytehlgfflbbfjkaa.I
set_option linter.unusedVariables false
set_option linter.unusedSimpArgs false
theorem evfield_of {H : Type} {enc : TypeId × Value → H} {P : Program} {W : World} {base : Nat} {held : Bool} {t : TypeId} {fs : Array Field} {fuel : Nat} {cs : List Value} {x : DataW H × List MemPlace} (ht : P.underlying t = some (.struct fs)) (h : DataW.trod enc P W base (fun _ => true) held fuel t cs = some x) (hw : ∀ n ∈ x.1.weights P t, n ≤ reachBytes) :
    ∃ n', ∀ (j : Nat) (F : Field), fs[j]? = some F → ∃ y, DataW.trod enc P W base (fun _ => true) held n' F.type ((cs.drop F.offset).take (P.cellsOf F.type)) = some y ∧ ∀ n ∈ y.1.weights P F.type, n ≤ reachBytes := by
  obtain ⟨ys, n', _, hy, _, hyl, hf⟩ := DataW.trod_struct ht h
  refine ⟨n', fun j F hF => ?_⟩
  have hj : j < fs.size := (Array.getElem?_eq_some_iff.1 hF).1
  refine ⟨ys[j]'(by omega), by rw [hf j F hF]; exact List.getElem?_eq_getElem (by omega), fun z hz => hw z ?_⟩
  rw [hy]
  simp only [DataW.weights, ht]
  refine DataW.weights_mem_each (ts := fs.toList.map (·.type)) (j := j) (t := F.type) (d := (ys[j]'(by omega)).1) ?_ ?_ z hz
  · rw [List.getElem?_map, Array.getElem?_toList, hF]; rfl
  · rw [List.getElem?_map, List.getElem?_eq_getElem (by omega)]; rfl
/-- Something that is done. -/
structure OP where
  k : Int
  id : Int
def RO (x : OP) (cs : List Value) : Prop := cs = [.int .i64 x.k, .int .i64 x.id]
theorem evlen2 {cs : List Value} (h : cs.length = 2) : ∃ u0 u1 : Value, cs = [u0, u1] := by
  match cs, h with
  | [u0, u1], _ => exact ⟨_, _, rfl⟩
set_option maxHeartbeats 2000000 in
theorem open_O {H : Type} {enc : TypeId × Value → H} {W : World} {base : Nat} {held : Bool} (n : Nat) (cs : List Value) (y : DataW H × List MemPlace) (hl : cs.length = 2) (h : DataW.trod enc Try.prog W base (fun _ => true) held n 32 cs = some y) (hw : ∀ n ∈ y.1.weights Try.prog 32, n ≤ reachBytes) : ∃ x : OP, RO x cs := by
  obtain ⟨n', hf⟩ := evfield_of Try.underlying32 h hw
  obtain ⟨u0, u1, rfl⟩ := evlen2 hl
  obtain ⟨w0, g0, k0⟩ := hf 0 _ rfl
  replace g0 : DataW.trod enc Try.prog W base (fun _ => true) held n' 3 [u0] = some w0 := by simpa [show Try.prog.cellsOf 3 = 1 by kernel_rfl] using g0
  obtain ⟨z0, e0, _, f0⟩ := DataW.trod_int Try.underlying3 g0
  injection e0 with e0
  subst e0
  obtain ⟨w1, g1, k1⟩ := hf 1 _ rfl
  replace g1 : DataW.trod enc Try.prog W base (fun _ => true) held n' 3 [u1] = some w1 := by simpa [show Try.prog.cellsOf 3 = 1 by kernel_rfl] using g1
  obtain ⟨z1, e1, _, f1⟩ := DataW.trod_int Try.underlying3 g1
  injection e1 with e1
  subst e1
  exact ⟨⟨z0, z1⟩, rfl⟩
end Go.Proofs.Ytehlgfflbbfjkaa.E
