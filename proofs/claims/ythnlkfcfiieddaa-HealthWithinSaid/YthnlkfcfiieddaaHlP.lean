/-
  What comes in: rules and acts. Each statement bears its own conditions.
-/
import Derived.Test.YthnlkfcfiieddaaHlO
import Derived.Test.YthnlkfcfiieddaaHlH
namespace Go.Proofs.Ythnlkfcfiieddaa.Hl
open Go.RowKit Go.ChangeShapes Go.WideShapes Go.ChangeAt Go.Proofs.Ythnlkfcfiieddaa.F 
set_option linter.unusedVariables false
set_option linter.unusedSimpArgs false
theorem evfield_of {H : Type} {enc : TypeId × Value → H} {P : Program} {W : World} {base : Nat} {held : Bool} {t : TypeId} {fs : Array Field} {fuel : Nat} {cs : List Value} {x : DataW H × List MemPlace} (ht : P.underlying t = some (.struct fs)) (h : DataW.trod enc P W base (fun _ => true) held fuel t cs = some x) (hw : ∀ n ∈ x.1.weights P t, n ≤ reachBytes) :
    ∃ n', ∀ (j : Nat) (F : Field), fs[j]? = some F → ∃ y, DataW.trod enc P W base (fun _ => true) held n' F.type ((cs.drop F.offset).take (P.cellsOf F.type)) = some y ∧ ∀ n ∈ y.1.weights P F.type, n ≤ reachBytes := by
  obtain ⟨ys, n', _, hy, _, hyl, hf⟩ := DataW.trod_struct ht h
  refine ⟨n', fun j F hF => ?_⟩
  have hj : j < fs.size := (Array.getElem?_eq_some_iff.1 hF).1
  refine ⟨ys[j]'(by omega), by rw [hf j F hF]; exact List.getElem?_eq_getElem (by omega), fun z hz => hw z ?_⟩
  rw [hy]
  simp only [DataW.weights, ht]
  refine DataW.weights_mem_each (ts := fs.toList.map (·.type)) (j := j) (t := F.type) (d := (ys[j]'(by omega)).1) ?_ ?_ z hz
  · rw [List.getElem?_map, Array.getElem?_toList, hF]; rfl
  · rw [List.getElem?_map, List.getElem?_eq_getElem (by omega)]; rfl
theorem evlen3 {cs : List Value} (h : cs.length = 3) : ∃ u0 u1 u2 : Value, cs = [u0, u1, u2] := by
  match cs, h with
  | [u0, u1, u2], _ => exact ⟨_, _, _, rfl⟩
def RRule (W : World) (x : Int × Int × Int) (cs : List Value) : Prop := cs = [.int .i64 x.1, .int .i64 x.2.1, .int .i64 x.2.2]
/-- An act: what is done, the process, the error. -/
def RAct (W : World) (x : Int × Int × Int) (cs : List Value) : Prop := cs = [.int .u8 x.1, .int .i64 x.2.1, .int .i64 x.2.2] ∧ (0 ≤ x.1 ∧ x.1 ≤ 255) ∧ (-9223372036854775808 ≤ x.2.1 ∧ x.2.1 ≤ 9223372036854775807) ∧ (-9223372036854775808 ≤ x.2.2 ∧ x.2.2 ≤ 9223372036854775807)
set_option maxHeartbeats 2000000 in
theorem open_R {H : Type} {enc : TypeId × Value → H} {W : World} {base : Nat} {held : Bool} (n : Nat) (cs : List Value) (y : DataW H × List MemPlace) (hl : cs.length = 3) (h : DataW.trod enc Try.prog W base (fun _ => true) held n 51 cs = some y) (hw : ∀ n ∈ y.1.weights Try.prog 51, n ≤ reachBytes) : ∃ x : Int × Int × Int, RRule W x cs := by
  obtain ⟨n', hf⟩ := evfield_of Try.underlying51 h hw
  obtain ⟨u0, u1, u2, rfl⟩ := evlen3 hl
  obtain ⟨w0, g0, k0⟩ := hf 0 _ rfl
  replace g0 : DataW.trod enc Try.prog W base (fun _ => true) held n' 3 [u0] = some w0 := by simpa [show Try.prog.cellsOf 3 = 1 by kernel_rfl] using g0
  obtain ⟨z0, e0, _, f0⟩ := DataW.trod_int Try.underlying3 g0
  injection e0 with e0
  subst e0
  obtain ⟨w1, g1, k1⟩ := hf 1 _ rfl
  replace g1 : DataW.trod enc Try.prog W base (fun _ => true) held n' 3 [u1] = some w1 := by simpa [show Try.prog.cellsOf 3 = 1 by kernel_rfl] using g1
  obtain ⟨z1, e1, _, f1⟩ := DataW.trod_int Try.underlying3 g1
  injection e1 with e1
  subst e1
  obtain ⟨w2, g2, k2⟩ := hf 2 _ rfl
  replace g2 : DataW.trod enc Try.prog W base (fun _ => true) held n' 3 [u2] = some w2 := by simpa [show Try.prog.cellsOf 3 = 1 by kernel_rfl] using g2
  obtain ⟨z2, e2, _, f2⟩ := DataW.trod_int Try.underlying3 g2
  injection e2 with e2
  subst e2
  exact ⟨(z0, z1, z2), rfl⟩
set_option maxHeartbeats 2000000 in
theorem open_A {H : Type} {enc : TypeId × Value → H} {W : World} {base : Nat} {held : Bool} (n : Nat) (cs : List Value) (y : DataW H × List MemPlace) (hl : cs.length = 3) (h : DataW.trod enc Try.prog W base (fun _ => true) held n 36 cs = some y) (hw : ∀ n ∈ y.1.weights Try.prog 36, n ≤ reachBytes) : ∃ x : Int × Int × Int, RAct W x cs := by
  obtain ⟨n', hf⟩ := evfield_of Try.underlying36 h hw
  obtain ⟨u0, u1, u2, rfl⟩ := evlen3 hl
  obtain ⟨w0, g0, k0⟩ := hf 0 _ rfl
  replace g0 : DataW.trod enc Try.prog W base (fun _ => true) held n' 5 [u0] = some w0 := by simpa [show Try.prog.cellsOf 5 = 1 by kernel_rfl] using g0
  obtain ⟨z0, e0, _, f0⟩ := DataW.trod_int Try.underlying5 g0
  injection e0 with e0
  subst e0
  obtain ⟨w1, g1, k1⟩ := hf 1 _ rfl
  replace g1 : DataW.trod enc Try.prog W base (fun _ => true) held n' 3 [u1] = some w1 := by simpa [show Try.prog.cellsOf 3 = 1 by kernel_rfl] using g1
  obtain ⟨z1, e1, _, f1⟩ := DataW.trod_int Try.underlying3 g1
  injection e1 with e1
  subst e1
  obtain ⟨w2, g2, k2⟩ := hf 2 _ rfl
  replace g2 : DataW.trod enc Try.prog W base (fun _ => true) held n' 3 [u2] = some w2 := by simpa [show Try.prog.cellsOf 3 = 1 by kernel_rfl] using g2
  obtain ⟨z2, e2, _, f2⟩ := DataW.trod_int Try.underlying3 g2
  injection e2 with e2
  subst e2
  simp only [Lit.wf, Bool.and_eq_true, decide_eq_true_eq] at f0 f1 f2
  exact ⟨(z0, z1, z2), rfl, f0, f1, f2⟩
theorem RR.of_row {W : World} {a : Option Addr} {n c : Nat} {xs : List (Int × Int × Int)} (h : Row W 3 (RRule W) (.slice a n c) xs) (hn : xs.length = n) : RR W a n xs :=
  ⟨hn, fun i x hx => by
    have hi : i < n := by rw [← hn]; exact (List.getElem?_eq_some_iff.1 hx).1
    obtain ⟨_, b, off, y, cs, rfl, hb, hy, hR, _, hc⟩ := h.at_ i hi
    rw [hx] at hy
    injection hy with hy
    subst hy
    unfold RRule at hR
    subst hR
    exact ⟨b, off, rfl, hb, hc 0 _ rfl, hc 1 _ rfl, hc 2 _ rfl⟩⟩
end Go.Proofs.Ythnlkfcfiieddaa.Hl
