/-
  Attributes that come in, opened. Each statement bears its own conditions.
-/
import Derived.Test.YtdabmbdikofhpaaPrG
namespace Go.Proofs.Ytdabmbdikofhpaa.P
open Go.RowKit Go.ChangeShapes Go.WideShapes Go.ChangeAt
set_option linter.unusedVariables false
set_option linter.unusedSimpArgs false
theorem prfield_of {H : Type} {enc : TypeId × Value → H} {P : Program} {W : World} {base : Nat} {held : Bool} {t : TypeId} {fs : Array Field} {fuel : Nat} {cs : List Value} {x : DataW H × List MemPlace} (ht : P.underlying t = some (.struct fs)) (h : DataW.trod enc P W base (fun _ => true) held fuel t cs = some x) (hw : ∀ n ∈ x.1.weights P t, n ≤ reachBytes) :
    ∃ n', ∀ (j : Nat) (F : Field), fs[j]? = some F → ∃ y, DataW.trod enc P W base (fun _ => true) held n' F.type ((cs.drop F.offset).take (P.cellsOf F.type)) = some y ∧ ∀ n ∈ y.1.weights P F.type, n ≤ reachBytes := by
  obtain ⟨ys, n', _, hy, _, hyl, hf⟩ := DataW.trod_struct ht h
  refine ⟨n', fun j F hF => ?_⟩
  have hj : j < fs.size := (Array.getElem?_eq_some_iff.1 hF).1
  refine ⟨ys[j]'(by omega), by rw [hf j F hF]; exact List.getElem?_eq_getElem (by omega), fun z hz => hw z ?_⟩
  rw [hy]
  simp only [DataW.weights, ht]
  refine DataW.weights_mem_each (ts := fs.toList.map (·.type)) (j := j) (t := F.type) (d := (ys[j]'(by omega)).1) ?_ ?_ z hz
  · rw [List.getElem?_map, Array.getElem?_toList, hF]; rfl
  · rw [List.getElem?_map, List.getElem?_eq_getElem (by omega)]; rfl
def RA (x : AT) (cs : List Value) : Prop := cs = x.cells ∧ I64 x.pri ∧ I64 x.per ∧ I64 x.cap ∧ I64 x.dea ∧ I64 x.off
theorem prlen5 {cs : List Value} (h : cs.length = 5) : ∃ u0 u1 u2 u3 u4 : Value, cs = [u0, u1, u2, u3, u4] := by
  match cs, h with
  | [u0, u1, u2, u3, u4], _ => exact ⟨_, _, _, _, _, rfl⟩
set_option maxHeartbeats 2000000 in
theorem open_A {H : Type} {enc : TypeId × Value → H} {W : World} {base : Nat} {held : Bool} (n : Nat) (cs : List Value) (y : DataW H × List MemPlace) (hl : cs.length = 5) (h : DataW.trod enc Try.prog W base (fun _ => true) held n 43 cs = some y) (hw : ∀ n ∈ y.1.weights Try.prog 43, n ≤ reachBytes) : ∃ x : AT, RA x cs := by
  obtain ⟨n', hf⟩ := prfield_of Try.underlying43 h hw
  obtain ⟨u0, u1, u2, u3, u4, rfl⟩ := prlen5 hl
  obtain ⟨w0, g0, k0⟩ := hf 0 _ rfl
  replace g0 : DataW.trod enc Try.prog W base (fun _ => true) held n' 3 [u0] = some w0 := by simpa [show Try.prog.cellsOf 3 = 1 by kernel_rfl] using g0
  obtain ⟨z0, e0, _, f0⟩ := DataW.trod_int Try.underlying3 g0
  injection e0 with e0
  subst e0
  obtain ⟨w1, g1, k1⟩ := hf 1 _ rfl
  replace g1 : DataW.trod enc Try.prog W base (fun _ => true) held n' 3 [u1] = some w1 := by simpa [show Try.prog.cellsOf 3 = 1 by kernel_rfl] using g1
  obtain ⟨z1, e1, _, f1⟩ := DataW.trod_int Try.underlying3 g1
  injection e1 with e1
  subst e1
  obtain ⟨w2, g2, k2⟩ := hf 2 _ rfl
  replace g2 : DataW.trod enc Try.prog W base (fun _ => true) held n' 3 [u2] = some w2 := by simpa [show Try.prog.cellsOf 3 = 1 by kernel_rfl] using g2
  obtain ⟨z2, e2, _, f2⟩ := DataW.trod_int Try.underlying3 g2
  injection e2 with e2
  subst e2
  obtain ⟨w3, g3, k3⟩ := hf 3 _ rfl
  replace g3 : DataW.trod enc Try.prog W base (fun _ => true) held n' 3 [u3] = some w3 := by simpa [show Try.prog.cellsOf 3 = 1 by kernel_rfl] using g3
  obtain ⟨z3, e3, _, f3⟩ := DataW.trod_int Try.underlying3 g3
  injection e3 with e3
  subst e3
  obtain ⟨w4, g4, k4⟩ := hf 4 _ rfl
  replace g4 : DataW.trod enc Try.prog W base (fun _ => true) held n' 3 [u4] = some w4 := by simpa [show Try.prog.cellsOf 3 = 1 by kernel_rfl] using g4
  obtain ⟨z4, e4, _, f4⟩ := DataW.trod_int Try.underlying3 g4
  injection e4 with e4
  subst e4
  exact ⟨⟨z0, z1, z2, z3, z4⟩, rfl, I64.of_wf f0, I64.of_wf f1, I64.of_wf f2, I64.of_wf f3, I64.of_wf f4⟩
end Go.Proofs.Ytdabmbdikofhpaa.P
