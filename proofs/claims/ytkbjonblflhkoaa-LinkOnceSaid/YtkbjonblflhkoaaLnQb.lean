/-
  LinkOnce, what is reckoned of a frame that one net brings. Each statement bears its own conditions.
-/
import Derived.Test.YtkbjonblflhkoaaLnQa
namespace Go.Proofs.Ytkbjonblflhkoaa.Ln
open Go.RowKit Go.Proofs.Ytkbjonblflhkoaa.F Go.Proofs.Ytkbjonblflhkoaa.U Go.Proofs.Ytkbjonblflhkoaa.Q
set_option linter.unusedVariables false
set_option linter.unusedSimpArgs false
def addF (out : Nat → Int) (d : Nat) : Nat → Int := fun x => if x = d then out x + 1 else out x
def nxF (r : RcS) (net : Int) (d : Nat) (out : Nat → Int) : Nat → Int := if tkE r net ((d : Int).tmod 256) 1 = 0 then addF out d else out
theorem nxF_yes {r : RcS} {net : Int} {d : Nat} {out : Nat → Int} (h : tkE r net ((d : Int).tmod 256) 1 = 0) : nxF r net d out = addF out d := if_pos h
theorem nxF_no {r : RcS} {net : Int} {d : Nat} {out : Nat → Int} (h : ¬ tkE r net ((d : Int).tmod 256) 1 = 0) : nxF r net d out = out := if_neg h
theorem OnS.nx {r : RcS} {N : Int} {out : Nat → Int} (o : OnS r N out) {d : Nat} (net : Int) (hn : 0 ≤ net ∧ net ≤ 1) (h1 : N ≤ (d : Int) + 63) (h2 : (d : Int) ≤ N + 127) :
    nxF r net d out = updF out d ∧ OnS (tkR r net ((d : Int).tmod 256) 1) (max N (d : Int)) (nxF r net d out) := by
  have F := o.frame net hn h1 h2
  rcases o.ob d with e | e
  · obtain ⟨hE, hS⟩ := F.1 e
    have hx : nxF r net d out = updF out d := by
      rw [nxF_yes hE]
      funext x
      unfold addF updF
      split
      · rename_i hx; rw [hx, e]; rfl
      · rfl
    exact ⟨hx, by rw [hx]; exact hS⟩
  · have hE := F.2 e
    have hle := OnP.le o e
    rw [nxF_no hE]
    refine ⟨(updF_id e).symm, ?_⟩
    unfold tkR
    rw [if_neg hE, Int.max_eq_left hle]
    exact o
section
variable {n lag t : Nat} {zs : List Int} {N : Int} {out : Nat → Int} {r : RcS}
theorem OnP.step0 (p : OnP n lag t 0 (hB0 zs) (hB1 zs) N out) (o : OnS r N out) (g : GapOk n (hB zs)) (hl : lag ≤ 60) (ht : t < n) (hy : hB0 zs t) :
    OnS (tkR r 0 ((t : Int).tmod 256) 1) (max N (t : Int)) (nxF r 0 t out) ∧ OnP n lag t 1 (hB0 zs) (hB1 zs) (max N (t : Int)) (nxF r 0 t out) := by
  obtain ⟨b1, b2⟩ := p.at0 o g hl ht
  obtain ⟨e, s⟩ := o.nx 0 (by omega) b1 b2
  exact ⟨s, by rw [e]; exact p.yes0 ht hy⟩
theorem OnP.step1 (p : OnP n lag t 1 (hB0 zs) (hB1 zs) N out) (o : OnS r N out) (g : GapOk n (hB zs)) (hl : lag ≤ 60) {d : Nat} (hd : d + lag = t) (ht : d < n) (hy : hB1 zs d) :
    OnS (tkR r 1 ((d : Int).tmod 256) 1) (max N (d : Int)) (nxF r 1 d out) ∧ OnP n lag (t + 1) 0 (hB0 zs) (hB1 zs) (max N (d : Int)) (nxF r 1 d out) := by
  obtain ⟨b1, b2⟩ := p.at1 o g hl hd ht
  obtain ⟨e, s⟩ := o.nx 1 (by omega) b1 b2
  exact ⟨s, by rw [e]; exact p.yes1 hd ht hy⟩
theorem OnP.done (p : OnP n lag (n + lag) 0 (hB0 zs) (hB1 zs) N out) (o : OnS r N out) : ∀ i, i < n → out i ≤ 1 ∧ (hB zs i → out i = 1) := fun i hi =>
  ⟨by rcases o.ob i with e | e <;> omega, fun h => (p.ot i hi).2 (by rcases h with x | x; exact .inl ⟨x, .inl (by omega)⟩; exact .inr ⟨x, .inl (by omega)⟩)⟩
end
theorem tkR_lost (r : RcS) (net num : Int) (m : Nat) : (tkR r net num m).lost ≤ r.lost + 127 := by
  unfold tkR
  split
  · unfold tkS
    split
    · rename_i h
      show r.lost + (advL r.arr (tkD r num).toNat : Int) ≤ _
      have := advL_le r.arr (tkD r num).toNat
      omega
    · show r.lost ≤ _; omega
  · omega
/-- How often each was taken, in a box. -/
structure OB (w : World) (Ob : Nat) (C : Array Value) (out : Nat → Int) : Prop where
  hb : w.heap[Ob]? = some (.cells C 63 (0, 0))
  sz : C.size = 300
  ce : ∀ i, i < 300 → C[i]? = some (.int .i64 (out i))
theorem OB.lt {w : World} {Ob : Nat} {C : Array Value} {out : Nat → Int} (h : OB w Ob C out) : Ob < w.heap.size := (Array.getElem?_eq_some_iff.1 h.hb).1
theorem OB.below {w w' : World} {Ob : Nat} {C : Array Value} {out : Nat → Int} (h : OB w Ob C out) (hb : Below w.heap.size w w') : OB w' Ob C out := ⟨(hb.block _ h.lt).trans h.hb, h.sz, h.ce⟩
theorem OB.fo {w w' : World} {p : Nat → Prop} {Ob : Nat} {C : Array Value} {out : Nat → Int} (h : OB w Ob C out) (hf : Fo p w w') (hp : ¬ p Ob) : OB w' Ob C out := ⟨(hf.block _ h.lt hp).trans h.hb, h.sz, h.ce⟩
theorem OB.at_ {w : World} {Ob : Nat} {C : Array Value} {out : Nat → Int} (h : OB w Ob C out) {i : Nat} (hi : i < 300) : w.cell? ⟨Ob, i, none⟩ = some (.int .i64 (out i)) := by rw [(row_cell h.hb i).1]; exact h.ce i hi
theorem OB.add {w : World} {Ob : Nat} {C : Array Value} {out : Nat → Int} (h : OB w Ob C out) {d : Nat} (hd : d < 300) : ∃ C', OB (w.setCell ⟨Ob, d, none⟩ (.int .i64 (out d + 1))) Ob C' (addF out d) :=
  ⟨_, set_at h.hb d _, by rw [Array.size_setIfInBounds]; exact h.sz, fun i hi => by
    rw [Array.getElem?_setIfInBounds]
    unfold addF
    by_cases e : i = d
    · subst e
      rw [if_pos rfl, if_pos (by rw [h.sz]; exact hi), if_pos rfl]
    · rw [if_neg (fun x => e x.symm), if_neg e]
      exact h.ce i hi⟩
/-- Before tick t's net k. -/
structure OO (n lag lo : Nat) (zs : List Int) (w0 : World) (gr Ob t k : Nat) (wr : World) : Prop where
  ex : ∃ (r : RcS) (N : Int) (out : Nat → Int) (C : Array Value), RV wr gr r ∧ OB wr Ob C out ∧ (∀ i, 0 ≤ out i ∧ out i ≤ 2 * (t : Int) + (k : Int)) ∧ r.lost ≤ 127 * (2 * (t : Int) + (k : Int)) ∧ gr ≠ Ob ∧ lo ≤ gr ∧ lo ≤ Ob ∧ Below lo w0 wr ∧ (GapOk n (hB zs) → OnS r N out ∧ OnP n lag t k (hB0 zs) (hB1 zs) N out)
end Go.Proofs.Ytkbjonblflhkoaa.Ln
