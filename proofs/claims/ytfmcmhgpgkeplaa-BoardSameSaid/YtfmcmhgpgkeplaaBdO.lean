/-
  Messages and acts that come in, opened. Each statement bears its own conditions.
-/
import Derived.Test.YtfmcmhgpgkeplaaBdL
namespace Go.Proofs.Ytfmcmhgpgkeplaa.B
open Go.RowKit Go.Proofs.Ytfmcmhgpgkeplaa.F Go.Proofs.Ytfmcmhgpgkeplaa.I
open Go.ChangeShapes Go.WideShapes Go.ChangeAt
set_option linter.unusedVariables false
set_option linter.unusedSimpArgs false
theorem evfield_of {H : Type} {enc : TypeId × Value → H} {P : Program} {W : World} {base : Nat} {held : Bool} {t : TypeId} {fs : Array Field} {fuel : Nat} {cs : List Value} {x : DataW H × List MemPlace} (ht : P.underlying t = some (.struct fs)) (h : DataW.trod enc P W base (fun _ => true) held fuel t cs = some x) (hw : ∀ n ∈ x.1.weights P t, n ≤ reachBytes) :
    ∃ n', ∀ (j : Nat) (F : Field), fs[j]? = some F → ∃ y, DataW.trod enc P W base (fun _ => true) held n' F.type ((cs.drop F.offset).take (P.cellsOf F.type)) = some y ∧ ∀ n ∈ y.1.weights P F.type, n ≤ reachBytes := by
  obtain ⟨ys, n', _, hy, _, hyl, hf⟩ := DataW.trod_struct ht h
  refine ⟨n', fun j F hF => ?_⟩
  have hj : j < fs.size := (Array.getElem?_eq_some_iff.1 hF).1
  refine ⟨ys[j]'(by omega), by rw [hf j F hF]; exact List.getElem?_eq_getElem (by omega), fun z hz => hw z ?_⟩
  rw [hy]
  simp only [DataW.weights, ht]
  refine DataW.weights_mem_each (ts := fs.toList.map (·.type)) (j := j) (t := F.type) (d := (ys[j]'(by omega)).1) ?_ ?_ z hz
  · rw [List.getElem?_map, Array.getElem?_toList, hF]; rfl
  · rw [List.getElem?_map, List.getElem?_eq_getElem (by omega)]; rfl
/-- A message that comes in. -/
theorem sl_of {H : Type} {enc : TypeId × Value → H} {W : World} {base : Nat} {held : Bool} {fuel : Nat} {v : Value} {x : DataW H × List MemPlace} (h : DataW.trod enc Try.prog W base (fun _ => true) held fuel 28 [v] = some x) : ∃ M : List Int, Sq W (fun b => b < W.heap.size) v M.length (CU M) := by
  rcases open_ints Try.underlying28 Try.underlying40 (by kernel_rfl) h with ⟨hcs, _⟩ | ⟨x, l, c, zs, hcs, _, hl, hm, hz, _, hcell, hwz⟩
  · injection hcs with hcs
    subst hcs
    exact ⟨[], Sq.nil _ _⟩
  · injection hcs with hcs
    subst hcs
    have hr : IsRow .u32 W (some x) l c zs := .inr ⟨_, rfl, hl, hm, by simpa using hz, hcell, hwz⟩
    have := hr.sq
    have hl2 : (zs.take l).length = l := by rw [List.length_take]; have := hr.le; omega
    exact ⟨zs.take l, by rw [hl2]; exact this⟩
/-- A list of messages. -/
def RL (W : World) (M : List Int) (cs : List Value) : Prop := ∃ v, cs = [v] ∧ Sq W (fun b => b < W.heap.size) v M.length (CU M)
theorem open_L {H : Type} {enc : TypeId × Value → H} {W : World} {base : Nat} {held : Bool} (n : Nat) (cs : List Value) (y : DataW H × List MemPlace) (hl : cs.length = 1) (h : DataW.trod enc Try.prog W base (fun _ => true) held n 28 cs = some y) (hw : ∀ n ∈ y.1.weights Try.prog 28, n ≤ reachBytes) : ∃ x : List Int, RL W x cs := by
  match cs, hl with
  | [v], _ =>
    obtain ⟨M, hM⟩ := sl_of h
    exact ⟨M, v, rfl, hM⟩
/-- Something that is done. -/
structure AC where
  d : Int
  id : Int
  m : List Int
def RA (W : World) (x : AC) (cs : List Value) : Prop := ∃ v, cs = [.int .u8 x.d, .int .i64 x.id, v] ∧ (0 ≤ x.d ∧ x.d < 256) ∧ Sq W (fun b => b < W.heap.size) v x.m.length (CU x.m)
theorem evlen3 {cs : List Value} (h : cs.length = 3) : ∃ u0 u1 u2 : Value, cs = [u0, u1, u2] := by
  match cs, h with
  | [u0, u1, u2], _ => exact ⟨_, _, _, rfl⟩
theorem u8_wf {a : Int} (h : (Lit.int .u8 a).wf = true) : 0 ≤ a ∧ a < 256 := by
  simp only [Lit.wf, Bool.and_eq_true, decide_eq_true_eq] at h
  have h5 : (IntKind.u8.min : Int) = 0 := rfl
  have h6 : (IntKind.u8.max : Int) = 255 := rfl
  omega
set_option maxHeartbeats 2000000 in
theorem open_A {H : Type} {enc : TypeId × Value → H} {W : World} {base : Nat} {held : Bool} (n : Nat) (cs : List Value) (y : DataW H × List MemPlace) (hl : cs.length = 3) (h : DataW.trod enc Try.prog W base (fun _ => true) held n 33 cs = some y) (hw : ∀ n ∈ y.1.weights Try.prog 33, n ≤ reachBytes) : ∃ x : AC, RA W x cs := by
  obtain ⟨n', hf⟩ := evfield_of Try.underlying33 h hw
  obtain ⟨u0, u1, u2, rfl⟩ := evlen3 hl
  obtain ⟨w0, g0, k0⟩ := hf 0 _ rfl
  replace g0 : DataW.trod enc Try.prog W base (fun _ => true) held n' 5 [u0] = some w0 := by simpa [show Try.prog.cellsOf 5 = 1 by kernel_rfl] using g0
  obtain ⟨z0, e0, _, f0⟩ := DataW.trod_int Try.underlying5 g0
  injection e0 with e0
  subst e0
  obtain ⟨w1, g1, k1⟩ := hf 1 _ rfl
  replace g1 : DataW.trod enc Try.prog W base (fun _ => true) held n' 3 [u1] = some w1 := by simpa [show Try.prog.cellsOf 3 = 1 by kernel_rfl] using g1
  obtain ⟨z1, e1, _, f1⟩ := DataW.trod_int Try.underlying3 g1
  injection e1 with e1
  subst e1
  obtain ⟨w2, g2, k2⟩ := hf 2 _ rfl
  replace g2 : DataW.trod enc Try.prog W base (fun _ => true) held n' 28 [u2] = some w2 := by simpa [show Try.prog.cellsOf 28 = 1 by kernel_rfl] using g2
  obtain ⟨M, hM⟩ := sl_of g2
  exact ⟨⟨z0, z1, M⟩, u2, rfl, u8_wf f0, hM⟩
end Go.Proofs.Ytfmcmhgpgkeplaa.B
