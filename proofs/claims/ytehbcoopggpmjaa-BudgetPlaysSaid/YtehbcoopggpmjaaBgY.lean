/-
  A server and the reference's in a box; what is asked. Each statement bears its own conditions.
-/
import Derived.Test.YtehbcoopggpmjaaBgX
namespace Go.Proofs.Ytehbcoopggpmjaa.Bg
open Go.RowKit Go.ChangeShapes Go.WideShapes Go.ChangeAt Go.Proofs.Ytehbcoopggpmjaa.F
set_option linter.unusedVariables false
set_option linter.unusedSimpArgs false
theorem evfield_of {H : Type} {enc : TypeId × Value → H} {P : Program} {W : World} {base : Nat} {held : Bool} {t : TypeId} {fs : Array Field} {fuel : Nat} {cs : List Value} {x : DataW H × List MemPlace} (ht : P.underlying t = some (.struct fs)) (h : DataW.trod enc P W base (fun _ => true) held fuel t cs = some x) (hw : ∀ n ∈ x.1.weights P t, n ≤ reachBytes) :
    ∃ n', ∀ (j : Nat) (F : Field), fs[j]? = some F → ∃ y, DataW.trod enc P W base (fun _ => true) held n' F.type ((cs.drop F.offset).take (P.cellsOf F.type)) = some y ∧ ∀ n ∈ y.1.weights P F.type, n ≤ reachBytes := by
  obtain ⟨ys, n', _, hy, _, hyl, hf⟩ := DataW.trod_struct ht h
  refine ⟨n', fun j F hF => ?_⟩
  have hj : j < fs.size := (Array.getElem?_eq_some_iff.1 hF).1
  refine ⟨ys[j]'(by omega), by rw [hf j F hF]; exact List.getElem?_eq_getElem (by omega), fun z hz => hw z ?_⟩
  rw [hy]
  simp only [DataW.weights, ht]
  refine DataW.weights_mem_each (ts := fs.toList.map (·.type)) (j := j) (t := F.type) (d := (ys[j]'(by omega)).1) ?_ ?_ z hz
  · rw [List.getElem?_map, Array.getElem?_toList, hF]; rfl
  · rw [List.getElem?_map, List.getElem?_eq_getElem (by omega)]; rfl
theorem evlen3 {cs : List Value} (h : cs.length = 3) : ∃ u0 u1 u2 : Value, cs = [u0, u1, u2] := by
  match cs, h with
  | [u0, u1, u2], _ => exact ⟨_, _, _, rfl⟩
/-- What is asked: a kind, a tick, how many. -/
def RAct (W : World) (x : Int × Int × Int) (cs : List Value) : Prop := cs = [.int .i64 x.1, .int .i64 x.2.1, .int .i64 x.2.2]
set_option maxHeartbeats 2000000 in
theorem open_A {H : Type} {enc : TypeId × Value → H} {W : World} {base : Nat} {held : Bool} (n : Nat) (cs : List Value) (y : DataW H × List MemPlace) (hl : cs.length = 3) (h : DataW.trod enc Try.prog W base (fun _ => true) held n 34 cs = some y) (hw : ∀ n ∈ y.1.weights Try.prog 34, n ≤ reachBytes) : ∃ x : Int × Int × Int, RAct W x cs := by
  obtain ⟨n', hf⟩ := evfield_of Try.underlying34 h hw
  obtain ⟨u0, u1, u2, rfl⟩ := evlen3 hl
  obtain ⟨w0, g0, k0⟩ := hf 0 _ rfl
  replace g0 : DataW.trod enc Try.prog W base (fun _ => true) held n' 3 [u0] = some w0 := by simpa [show Try.prog.cellsOf 3 = 1 by kernel_rfl] using g0
  obtain ⟨z0, e0, _, f0⟩ := DataW.trod_int Try.underlying3 g0
  injection e0 with e0
  subst e0
  obtain ⟨w1, g1, k1⟩ := hf 1 _ rfl
  replace g1 : DataW.trod enc Try.prog W base (fun _ => true) held n' 3 [u1] = some w1 := by simpa [show Try.prog.cellsOf 3 = 1 by kernel_rfl] using g1
  obtain ⟨z1, e1, _, f1⟩ := DataW.trod_int Try.underlying3 g1
  injection e1 with e1
  subst e1
  obtain ⟨w2, g2, k2⟩ := hf 2 _ rfl
  replace g2 : DataW.trod enc Try.prog W base (fun _ => true) held n' 3 [u2] = some w2 := by simpa [show Try.prog.cellsOf 3 = 1 by kernel_rfl] using g2
  obtain ⟨z2, e2, _, f2⟩ := DataW.trod_int Try.underlying3 g2
  injection e2 with e2
  subst e2
  exact ⟨(z0, z1, z2), rfl⟩
structure PB (lo Rb g : Nat) (w0 w : World) (s : Sv) (L : List (Int × Int)) (lv : Value) : Prop where
  sv : SV w g s
  rel : RelS s L
  lst : LV w (fun b => b ≠ Rb ∧ b ≠ g) lv L
  bx : w.heap[Rb]? = some (.cells #[.int .i64 s.size, .int .i64 s.per, .int .i64 s.frm, lv] 29 (0, 0))
  ne : g ≠ Rb
  ll : lo ≤ Rb ∧ lo ≤ g
  be : Below lo w0 w
section
variable {lo Rb g : Nat} {w0 w w' : World} {s s' : Sv} {L L' : List (Int × Int)} {lv lv' : Value}
theorem PB.blt (h : PB lo Rb g w0 w s L lv) : Rb < w.heap.size := (Array.getElem?_eq_some_iff.1 h.bx).1
theorem PB.lo_le (h : PB lo Rb g w0 w s L lv) : lo ≤ w.heap.size := by have := h.blt; have := h.ll; omega
theorem PB.below (h : PB lo Rb g w0 w s L lv) (hb : Below w.heap.size w w') : PB lo Rb g w0 w' s L lv :=
  ⟨h.sv.below hb, h.rel, h.lst.below hb, (hb.block _ h.blt).trans h.bx, h.ne, h.ll, h.be.trans (hb.mono h.lo_le)⟩
/-- The server goes on to a clone of it. -/
theorem PB.clone (h : PB lo Rb g w0 w s L lv) {g' : Nat} (hg : w.heap.size ≤ g') (hb : Below w.heap.size w w') (hs : SV w' g' s) : PB lo Rb g' w0 w' s L lv :=
  ⟨hs, h.rel, (h.lst.imp (q := fun b => b ≠ Rb ∧ b ≠ g') (fun b hb hp => ⟨hp.1, by omega⟩)).below hb, (hb.block _ h.blt).trans h.bx, by have := h.blt; omega, ⟨h.ll.1, by have := h.lo_le; omega⟩, h.be.trans (hb.mono h.lo_le)⟩
/-- Another block of the law's own changes. -/
theorem PB.fo {q : Nat → Prop} (h : PB lo Rb g w0 w s L lv) (hf : Fo q w w') (h1 : ¬ q Rb) (h2 : ¬ q g) (h3 : ∀ b, q b → lo ≤ b) (hl : LV w' (fun b => b ≠ Rb ∧ b ≠ g) lv L) : PB lo Rb g w0 w' s L lv :=
  ⟨h.sv.fo hf h2, h.rel, hl, (hf.block _ h.blt h1).trans h.bx, h.ne, h.ll, h.be.trans (hf.below h3 h.lo_le)⟩
theorem PB.pos (h : PB lo Rb g w0 w s L lv) : s.ok := h.sv.ok
end
theorem ch_dec (s : Sv) (t n : Int) (h : s.ok) : decide (chN s t n < max n 0) = decide (chN s t n < n) := by
  have h0 := (left_facts (t := t) h).1
  unfold chN
  by_cases h1 : 0 ≤ n
  · rw [show max n 0 = n by omega]
  · rw [decide_eq_false (by omega), decide_eq_false (by omega)]
theorem ch_keep (s : Sv) (t n : Int) : (chS s t n).size = s.size ∧ (chS s t n).per = s.per ∧ (chS s t n).frm = s.frm := by
  unfold chS useS
  split
  · split <;> exact ⟨rfl, rfl, rfl⟩
  · exact ⟨rfl, rfl, rfl⟩
theorem reset_keep (s : Sv) (t : Int) : (resetS s t).size = s.size ∧ (resetS s t).per = s.per := by
  unfold resetS
  split <;> exact ⟨rfl, rfl⟩
/-- What is charged is seen. -/
theorem ch_moves {s : Sv} {t n : Int} (h : 0 < chN s t n) : s.eqB (chS s t n) = false := by
  rw [Bool.eq_false_iff]
  intro e
  have e := (Sv.eqB_iff _ _).1 e
  have e1 : s.last = (chS s t n).last := by rw [← e]
  have e2 : s.used = (chS s t n).used := by rw [← e]
  unfold chS useS at e1 e2
  rw [if_pos h] at e1 e2
  split at e1
  · rename_i hq
    rw [if_pos hq] at e2
    simp only at e2
    omega
  · rename_i hq
    simp only at e1
    exact hq e1.symm
theorem eqB_of {a b : Sv} (h1 : b.size = a.size) (h2 : b.per = a.per) (h3 : b.frm = a.frm) : a.eqB b = decide (b.last = a.last ∧ b.used = a.used) := by
  obtain ⟨a0, a1, a2, a3, a4⟩ := a
  obtain ⟨b0, b1, b2, b3, b4⟩ := b
  simp only at h1 h2 h3
  subst h1 h2 h3
  unfold Sv.eqB
  rw [Bool.eq_iff_iff]
  simp
  constructor <;> (rintro ⟨e1, e2⟩; exact ⟨e1.symm, e2.symm⟩)
end Go.Proofs.Ytehbcoopggpmjaa.Bg
