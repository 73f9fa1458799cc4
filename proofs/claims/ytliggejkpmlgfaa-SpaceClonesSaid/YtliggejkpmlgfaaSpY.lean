/-
  What comes in: areas, words and things to do, opened. Each statement bears its own conditions.
-/
import Derived.Test.YtliggejkpmlgfaaSpX
import Derived.ChangeSlices
namespace Go.Proofs.Ytliggejkpmlgfaa
open Go.RowKit Go.ChangeShapes Go.WideShapes Go.ChangeAt
set_option linter.unusedVariables false
set_option linter.unusedSimpArgs false
theorem splen5 {cs : List Value} (h : cs.length = 5) : ∃ u0 u1 u2 u3 u4 : Value, cs = [u0, u1, u2, u3, u4] := by
  match cs, h with
  | [u0, u1, u2, u3, u4], _ => exact ⟨_, _, _, _, _, rfl⟩
theorem spfield_of {H : Type} {enc : TypeId × Value → H} {P : Program} {W : World} {base : Nat} {held : Bool} {t : TypeId} {fs : Array Field} {fuel : Nat} {cs : List Value} {x : DataW H × List MemPlace} (ht : P.underlying t = some (.struct fs)) (h : DataW.trod enc P W base (fun _ => true) held fuel t cs = some x) (hw : ∀ n ∈ x.1.weights P t, n ≤ reachBytes) :
    ∃ n', ∀ (j : Nat) (F : Field), fs[j]? = some F → ∃ y, DataW.trod enc P W base (fun _ => true) held n' F.type ((cs.drop F.offset).take (P.cellsOf F.type)) = some y ∧ ∀ n ∈ y.1.weights P F.type, n ≤ reachBytes := by
  obtain ⟨ys, n', _, hy, _, hyl, hf⟩ := DataW.trod_struct ht h
  refine ⟨n', fun j F hF => ?_⟩
  have hj : j < fs.size := (Array.getElem?_eq_some_iff.1 hF).1
  refine ⟨ys[j]'(by omega), by rw [hf j F hF]; exact List.getElem?_eq_getElem (by omega), fun z hz => hw z ?_⟩
  rw [hy]
  simp only [DataW.weights, ht]
  refine DataW.weights_mem_each (ts := fs.toList.map (·.type)) (j := j) (t := F.type) (d := (ys[j]'(by omega)).1) ?_ ?_ z hz
  · rw [List.getElem?_map, Array.getElem?_toList, hF]; rfl
  · rw [List.getElem?_map, List.getElem?_eq_getElem (by omega)]; rfl
/-- Words that came in. -/
def UW (W : World) (a : Option Addr) (n c : Nat) : Prop := n ≤ c ∧ ∃ zs : List Int, zs.length = n ∧ (∀ x ∈ zs, U32 x) ∧ ∀ g, W.heap.size ≤ g → St g W 1 (.slice a n c) n (CU zs)
def RAq (x : MA) (cs : List Value) : Prop := cs = x.cells ∧ I64 x.frm ∧ I64 x.wds
/-- A thing to do. -/
structure MO where
  kind : Int
  at_ : Int
  w : Int
  keep : Bool
  ns : List Int
def RO (W : World) (x : MO) (cs : List Value) : Prop := ∃ a c, cs = [.int .i64 x.kind, .int .u32 x.at_, .int .u32 x.w, .slice a x.ns.length c, .bool x.keep] ∧ U32 x.at_ ∧ U32 x.w ∧ x.ns.length ≤ c ∧ (∀ y ∈ x.ns, U32 y) ∧ ∀ g, W.heap.size ≤ g → St g W 1 (.slice a x.ns.length c) x.ns.length (CU x.ns)
theorem capOf {H : Type} {enc : TypeId × Value → H} {P : Program} {W : World} {base : Nat} {held : Bool} {t e : Nat} {fuel : Nat} {a : Option Addr} {n c : Nat} {x : DataW H × List MemPlace}
    (ht : P.underlying t = some (.slice e)) (h : DataW.trod enc P W base (fun _ => true) held fuel t [.slice a n c] = some x) : n ≤ c := by
  rcases Go.Deep.open_slice ht h with ⟨hcs, _⟩ | ⟨y, l, c', m, n', D, Pl, hcs, _, hl, hm, hmm, hxx, hi⟩
  · simp at hcs
    omega
  · simp at hcs
    omega
section
variable {H : Type} {enc : TypeId × Value → H} {W : World} {base : Nat} {held : Bool}
theorem uw_of {fuel : Nat} {a : Option Addr} {n c : Nat} {x : DataW H × List MemPlace} (h : DataW.trod enc Try.prog W base (fun _ => true) held fuel 40 [.slice a n c] = some x) : UW W a n c := by
  rcases open_ints Try.underlying40 Try.underlying39 (by kernel_rfl) h with ⟨hcs, _⟩ | ⟨ad, l, c', zs, hcs, _, hl, hm, hz, _, hcell, hwz⟩
  · simp at hcs
    obtain ⟨rfl, rfl, rfl⟩ := hcs
    exact ⟨Nat.le_refl _, [], rfl, by simp, fun g _ => St.nil⟩
  · simp at hcs
    obtain ⟨rfl, rfl, rfl⟩ := hcs
    simp only [if_true] at hz
    have htl : (zs.take n).length = n := by rw [List.length_take]; omega
    refine ⟨hl, zs.take n, htl, fun y hy => U32.of_wf (hwz y (List.mem_of_mem_take hy)), fun g hg => ⟨_, _, rfl, by rw [CU_len, htl]; omega, fun hn => ?_⟩⟩
    have c0 := hcell 0 (by omega)
    obtain ⟨b, off, spot⟩ := ad
    have hs : spot = none := by simpa [Addr.add] using World.cell?_spot c0
    subst hs
    have hb : b < W.heap.size := by have := World.block_lt_of_cell? _ _ c0; simpa [block_of_add] using this
    refine ⟨b, off, rfl, hb, by omega, fun j u hu => ?_⟩
    have hj : j < n := by have := (List.getElem?_eq_some_iff.1 hu).1; rw [CU_len, htl] at this; exact this
    have h1 := hcell j (by omega)
    rw [Addr.add_lit] at h1
    rw [h1, ← hu]
    unfold CU
    rw [List.getElem?_map, List.getElem?_take, if_pos hj, List.getElem?_eq_getElem (by omega), List.getD_eq_getElem?_getD, List.getElem?_eq_getElem (by omega)]
    rfl
set_option maxHeartbeats 2000000 in
theorem open_Area (n : Nat) (cs : List Value) (y : DataW H × List MemPlace) (hl : cs.length = 5) (h : DataW.trod enc Try.prog W base (fun _ => true) held n 57 cs = some y) (hw : ∀ n ∈ y.1.weights Try.prog 57, n ≤ reachBytes) : ∃ x : MA, RAq x cs := by
  obtain ⟨n', hf⟩ := spfield_of Try.underlying57 h hw
  obtain ⟨u0, u1, u2, u3, u4, rfl⟩ := splen5 hl
  obtain ⟨w0, g0, k0⟩ := hf 0 _ rfl
  replace g0 : DataW.trod enc Try.prog W base (fun _ => true) held n' 3 [u0] = some w0 := by simpa [show Try.prog.cellsOf 3 = 1 by kernel_rfl] using g0
  obtain ⟨z0, e0, _, f0⟩ := DataW.trod_int Try.underlying3 g0
  injection e0 with e0
  subst e0
  obtain ⟨w1, g1, k1⟩ := hf 1 _ rfl
  replace g1 : DataW.trod enc Try.prog W base (fun _ => true) held n' 3 [u1] = some w1 := by simpa [show Try.prog.cellsOf 3 = 1 by kernel_rfl] using g1
  obtain ⟨z1, e1, _, f1⟩ := DataW.trod_int Try.underlying3 g1
  injection e1 with e1
  subst e1
  obtain ⟨w2, g2, k2⟩ := hf 2 _ rfl
  replace g2 : DataW.trod enc Try.prog W base (fun _ => true) held n' 4 [u2] = some w2 := by simpa [show Try.prog.cellsOf 4 = 1 by kernel_rfl] using g2
  obtain ⟨z2, e2, _⟩ := DataW.trod_bool Try.underlying4 g2
  injection e2 with e2
  subst e2
  obtain ⟨w3, g3, k3⟩ := hf 3 _ rfl
  replace g3 : DataW.trod enc Try.prog W base (fun _ => true) held n' 4 [u3] = some w3 := by simpa [show Try.prog.cellsOf 4 = 1 by kernel_rfl] using g3
  obtain ⟨z3, e3, _⟩ := DataW.trod_bool Try.underlying4 g3
  injection e3 with e3
  subst e3
  obtain ⟨w4, g4, k4⟩ := hf 4 _ rfl
  replace g4 : DataW.trod enc Try.prog W base (fun _ => true) held n' 4 [u4] = some w4 := by simpa [show Try.prog.cellsOf 4 = 1 by kernel_rfl] using g4
  obtain ⟨z4, e4, _⟩ := DataW.trod_bool Try.underlying4 g4
  injection e4 with e4
  subst e4
  exact ⟨⟨z0, z1, z2, z3, z4⟩, rfl, I64.of_wf f0, I64.of_wf f1⟩
set_option maxHeartbeats 2000000 in
theorem open_Op (n : Nat) (cs : List Value) (y : DataW H × List MemPlace) (hl : cs.length = 5) (h : DataW.trod enc Try.prog W base (fun _ => true) held n 42 cs = some y) (hw : ∀ n ∈ y.1.weights Try.prog 42, n ≤ reachBytes) : ∃ x : MO, RO W x cs := by
  obtain ⟨n', hf⟩ := spfield_of Try.underlying42 h hw
  obtain ⟨u0, u1, u2, u3, u4, rfl⟩ := splen5 hl
  obtain ⟨w0, g0, k0⟩ := hf 0 _ rfl
  replace g0 : DataW.trod enc Try.prog W base (fun _ => true) held n' 3 [u0] = some w0 := by simpa [show Try.prog.cellsOf 3 = 1 by kernel_rfl] using g0
  obtain ⟨z0, e0, _, f0⟩ := DataW.trod_int Try.underlying3 g0
  injection e0 with e0
  subst e0
  obtain ⟨w1, g1, k1⟩ := hf 1 _ rfl
  replace g1 : DataW.trod enc Try.prog W base (fun _ => true) held n' 39 [u1] = some w1 := by simpa [show Try.prog.cellsOf 39 = 1 by kernel_rfl] using g1
  obtain ⟨z1, e1, _, f1⟩ := DataW.trod_int Try.underlying39 g1
  injection e1 with e1
  subst e1
  obtain ⟨w2, g2, k2⟩ := hf 2 _ rfl
  replace g2 : DataW.trod enc Try.prog W base (fun _ => true) held n' 39 [u2] = some w2 := by simpa [show Try.prog.cellsOf 39 = 1 by kernel_rfl] using g2
  obtain ⟨z2, e2, _, f2⟩ := DataW.trod_int Try.underlying39 g2
  injection e2 with e2
  subst e2
  obtain ⟨w3, g3, k3⟩ := hf 3 _ rfl
  replace g3 : DataW.trod enc Try.prog W base (fun _ => true) held n' 40 [u3] = some w3 := by simpa [show Try.prog.cellsOf 40 = 1 by kernel_rfl] using g3
  obtain ⟨a3, n3, c3, rfl⟩ : ∃ a3 n3 c3, u3 = .slice a3 n3 c3 := by
    rcases Go.Deep.open_slice Try.underlying40 g3 with ⟨hcs, _⟩ | ⟨y, l, c', m, n', D, Pl, hcs, _⟩
    · injection hcs with hcs; exact ⟨_, _, _, hcs⟩
    · injection hcs with hcs; exact ⟨_, _, _, hcs⟩
  obtain ⟨hcap, zs, hz1, hz2, hz3⟩ := uw_of g3
  obtain ⟨w4, g4, k4⟩ := hf 4 _ rfl
  replace g4 : DataW.trod enc Try.prog W base (fun _ => true) held n' 4 [u4] = some w4 := by simpa [show Try.prog.cellsOf 4 = 1 by kernel_rfl] using g4
  obtain ⟨z4, e4, _⟩ := DataW.trod_bool Try.underlying4 g4
  injection e4 with e4
  subst e4
  subst hz1
  exact ⟨⟨z0, z1, z2, z4, zs⟩, _, _, rfl, U32.of_wf f1, U32.of_wf f2, hcap, hz2, hz3⟩
end
/-- Areas that came in. -/
theorem row_areas {W : World} {a : Option Addr} {n c : Nat} {l : List MA} (h : Row W 5 RAq (.slice a n c) l) : l.length = n ∧ (∀ x ∈ l, I64 x.frm ∧ I64 x.wds) ∧ ∀ g, W.heap.size ≤ g → St g W 5 (.slice a n c) n (CA l) := by
  obtain ⟨a', c', e, hm, hc⟩ := h.ex
  injection e with e1 e2 e3
  subst e1 e2 e3
  refine ⟨rfl, fun x hx => ?_, fun g hg => ⟨_, _, rfl, CA_len l, fun hn => ?_⟩⟩
  · obtain ⟨i, hi⟩ := List.getElem?_of_mem hx
    obtain ⟨b, off, e1, hlt, h1⟩ := hc (by have := (List.getElem?_eq_some_iff.1 hi).1; omega)
    obtain ⟨cs, h2, _⟩ := h1 i x hi
    exact ⟨h2.2.1, h2.2.2⟩
  · obtain ⟨b, off, e1, hlt, h1⟩ := hc hn
    refine ⟨b, off, e1, hlt, by omega, fun j u hu => ?_⟩
    have hj : j < l.length * 5 := by have := (List.getElem?_eq_some_iff.1 hu).1; rw [CA_len] at this; exact this
    have hx := List.getElem?_eq_getElem (l := l) (i := j / 5) (by omega)
    obtain ⟨cs, h2, h3, h4⟩ := h1 _ _ hx
    obtain ⟨h5, _⟩ := h2
    subst h5
    have hr : j % 5 < (l[j / 5]'(by omega)).cells.length := by simp [MA.cells]; omega
    have h6 := List.getElem?_eq_getElem hr
    have h7 := CA_at hx (j % 5) _ h6
    have hj5 : j / 5 * 5 + j % 5 = j := by omega
    rw [hj5, hu] at h7
    injection h7 with h7
    subst h7
    have := h4 (j % 5) _ h6
    rw [show off + j / 5 * 5 + j % 5 = off + j by omega] at this
    exact this
end Go.Proofs.Ytliggejkpmlgfaa
