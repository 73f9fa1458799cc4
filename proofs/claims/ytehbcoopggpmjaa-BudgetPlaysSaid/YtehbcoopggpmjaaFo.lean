/-
  Which blocks may change; lists that are read, and lists that are owned. Each statement bears its own conditions.
-/
import Derived.Test.YtehbcoopggpmjaaSpM
namespace Go.Proofs.Ytehbcoopggpmjaa.F
open Go.RowKit
set_option linter.unusedVariables false
set_option linter.unusedSimpArgs false
/-- Only blocks of which p holds may change, and there may be new ones. -/
structure Fo (p : Nat → Prop) (w w' : World) : Prop where
  os : w'.os = w.os
  tape : w'.tape = w.tape
  output : w'.output = w.output
  size : w.heap.size ≤ w'.heap.size
  block : ∀ k, k < w.heap.size → ¬ p k → w'.heap[k]? = w.heap[k]?
theorem Fo.refl (p : Nat → Prop) (w : World) : Fo p w w := ⟨rfl, rfl, rfl, Nat.le_refl _, fun _ _ _ => rfl⟩
theorem Fo.of_below {p : Nat → Prop} {w w' : World} (h : Below w.heap.size w w') : Fo p w w' := ⟨h.os, h.tape, h.output, h.size, fun k hk _ => h.block k hk⟩
theorem Fo.of_past {p : Nat → Prop} {g : Nat} {w w' : World} (h : Past g w w') (hp : p g) : Fo p w w' := ⟨h.os, h.tape, h.output, h.size, fun k hk hn => h.block k hk (fun e => hn (by rw [e]; exact hp))⟩
theorem Fo.below {p : Nat → Prop} {B : Nat} {w w' : World} (h : Fo p w w') (hp : ∀ b, p b → B ≤ b) (hB : B ≤ w.heap.size) : Below B w w' := ⟨h.os, h.tape, h.output, h.size, fun k hk => h.block k (by omega) (fun q => by have := hp k q; omega)⟩
theorem Fo.imp {p q : Nat → Prop} {w w' : World} (h : Fo p w w') (hi : ∀ b, b < w.heap.size → p b → q b) : Fo q w w' := ⟨h.os, h.tape, h.output, h.size, fun k hk hn => h.block k hk (fun hp => hn (hi k hk hp))⟩
theorem Fo.trans {p q : Nat → Prop} {a b c : World} (h : Fo p a b) (k : Fo q b c) (hq : ∀ i, q i → p i ∨ a.heap.size ≤ i) : Fo p a c :=
  ⟨k.os.trans h.os, k.tape.trans h.tape, k.output.trans h.output, Nat.le_trans h.size k.size, fun i hi hn => (k.block i (Nat.lt_of_lt_of_le hi h.size) (fun hqi => by rcases hq i hqi with h1 | h1; exact hn h1; omega)).trans (h.block i hi hn)⟩
theorem Fo.cell {p : Nat → Prop} {w w' : World} {a : Addr} {u : Value} (h : Fo p w w') (h1 : ¬ p a.block) (hc : w.cell? a = some u) : w'.cell? a = some u :=
  (World.cell?_of_block (h.block a.block (World.block_lt_of_cell? _ _ hc) h1)).trans hc
/-- What becomes of a thing's blocks: those of which p held, then those of which q holds. -/
structure Nx (p q : Nat → Prop) (w w' : World) : Prop where
  fo : Fo p w w'
  sub : ∀ b, q b → p b ∨ w.heap.size ≤ b
theorem Nx.refl (p : Nat → Prop) (w : World) : Nx p p w w := ⟨Fo.refl _ _, fun b h => .inl h⟩
theorem Nx.of_below {p : Nat → Prop} {w w' : World} (h : Below w.heap.size w w') : Nx p p w w' := ⟨Fo.of_below h, fun b h => .inl h⟩
theorem Nx.trans {p q r : Nat → Prop} {a b c : World} (h : Nx p q a b) (k : Nx q r b c) : Nx p r a c :=
  ⟨h.fo.trans k.fo h.sub, fun i hi => by
    rcases k.sub i hi with h1 | h1
    · exact h.sub i h1
    · exact .inr (Nat.le_trans h.fo.size h1)⟩
theorem heap_old {w : World} (o : Obj) (b : Nat) (h : b < w.heap.size) : (w.alloc o).heap[b]? = w.heap[b]? := ((Below.refl _ _).alloc (Nat.le_refl _) o).block b h
theorem set_at {w : World} {g : Nat} {C : Array Value} {t : TypeId} {fr : Nat × Nat} (h : w.heap[g]? = some (.cells C t fr)) (o : Nat) (v : Value) : (w.setCell ⟨g, o, none⟩ v).heap[g]? = some (.cells (C.setIfInBounds o v) t fr) := by
  have hl : g < w.heap.size := (Array.getElem?_eq_some_iff.1 h).1
  simp [World.setCell, h, Array.getElem?_modify]
theorem set_far {w : World} {g k : Nat} (o : Nat) (v : Value) (h : k ≠ g) : (w.setCell ⟨g, o, none⟩ v).heap[k]? = w.heap[k]? := Below.heap_setCell _ _ _ _ h
theorem Fo.setCell {p : Nat → Prop} {g : Nat} {a w : World} (h : Fo p a w) (hp : p g ∨ a.heap.size ≤ g) (j : Nat) (u : Value) : Fo p a (w.setCell ⟨g, j, none⟩ u) :=
  ⟨h.os, h.tape, h.output, by simpa using h.size, fun k hk hn => by
    rw [set_far _ _ (by rintro rfl; rcases hp with hp | hp; exact hn hp; omega)]
    exact h.block k hk hn⟩
/-- A list that is read: its block is one of which p holds. -/
structure Sq (w : World) (p : Nat → Prop) (v : Value) (n : Nat) (xs : List Value) : Prop where
  ex : ∃ (A : Option Addr) (c : Nat), v = .slice A n c ∧ xs.length = n ∧ (0 < n → ∃ b off : Nat, A = some ⟨b, off, none⟩ ∧ b < w.heap.size ∧ p b ∧ ∀ j u, xs[j]? = some u → w.cell? ⟨b, off + j, none⟩ = some u)
theorem Sq.nil (w : World) (p : Nat → Prop) : Sq w p (.slice none 0 0) 0 [] := ⟨none, 0, rfl, rfl, fun h => by omega⟩
theorem Sq.form {w : World} {p : Nat → Prop} {v : Value} {n : Nat} {xs : List Value} (h : Sq w p v n xs) : ∃ A c, v = .slice A n c := by
  obtain ⟨A, c, e, _⟩ := h.ex
  exact ⟨A, c, e⟩
theorem Sq.len {w : World} {p : Nat → Prop} {v : Value} {n : Nat} {xs : List Value} (h : Sq w p v n xs) : xs.length = n := by
  obtain ⟨A, c, e, hl, _⟩ := h.ex
  exact hl
theorem Sq.imp {w : World} {p q : Nat → Prop} {v : Value} {n : Nat} {xs : List Value} (h : Sq w p v n xs) (hi : ∀ b, b < w.heap.size → p b → q b) : Sq w q v n xs := by
  obtain ⟨A, c, e, hl, h1⟩ := h.ex
  refine ⟨A, c, e, hl, fun h0 => ?_⟩
  obtain ⟨b, off, e1, hb, hp, hc⟩ := h1 h0
  exact ⟨b, off, e1, hb, hi b hb hp, hc⟩
theorem Sq.keep {w w' : World} {p : Nat → Prop} {v : Value} {n : Nat} {xs : List Value} (h : Sq w p v n xs) (hs : w.heap.size ≤ w'.heap.size) (hk : ∀ b, b < w.heap.size → p b → w'.heap[b]? = w.heap[b]?) : Sq w' (fun b => b < w.heap.size ∧ p b) v n xs := by
  obtain ⟨A, c, e, hl, h1⟩ := h.ex
  refine ⟨A, c, e, hl, fun h0 => ?_⟩
  obtain ⟨b, off, e1, hb, hp, hc⟩ := h1 h0
  exact ⟨b, off, e1, Nat.lt_of_lt_of_le hb hs, ⟨hb, hp⟩, fun j u hu => (World.cell?_of_block (hk b hb hp)).trans (hc j u hu)⟩
theorem Sq.below {w w' : World} {p : Nat → Prop} {v : Value} {n : Nat} {xs : List Value} (h : Sq w p v n xs) (hb : Below w.heap.size w w') : Sq w' (fun b => b < w.heap.size ∧ p b) v n xs := h.keep hb.size fun b h1 _ => hb.block b h1
theorem Sq.fo {w w' : World} {p q : Nat → Prop} {v : Value} {n : Nat} {xs : List Value} (h : Sq w p v n xs) (hf : Fo q w w') (hd : ∀ b, p b → ¬ q b) : Sq w' (fun b => b < w.heap.size ∧ p b) v n xs := h.keep hf.size fun b h1 h2 => hf.block b h1 (hd b h2)
theorem Sq.st {w : World} {p : Nat → Prop} {v : Value} {n : Nat} {xs : List Value} (h : Sq w p v n xs) : St w.heap.size w 1 v n xs := by
  obtain ⟨A, c, e, hl, h1⟩ := h.ex
  refine ⟨A, c, e, by omega, fun h0 => ?_⟩
  obtain ⟨b, off, e1, hb, hp, hc⟩ := h1 h0
  exact ⟨b, off, e1, hb, by omega, hc⟩
theorem Sq.at_ {w : World} {p : Nat → Prop} {A : Option Addr} {m c n : Nat} {xs : List Value} (h : Sq w p (.slice A m c) n xs) (hk : 0 < n) :
    m = n ∧ ∃ b off : Nat, A = some ⟨b, off, none⟩ ∧ b < w.heap.size ∧ p b ∧ ∀ j u, xs[j]? = some u → w.cell? ⟨b, off + j, none⟩ = some u := by
  obtain ⟨A', c', e, hl, h1⟩ := h.ex
  injection e with e1 e2 e3
  subst e1 e2 e3
  exact ⟨rfl, h1 hk⟩
/-- A list that is owned: its block is one of which p holds. -/
structure Ow (e : TypeId) (w : World) (p : Nat → Prop) (v : Value) (n : Nat) (xs : List Value) : Prop where
  own : w.ownsRow 0 e 1 v n xs
  at_ : ∀ b, v.ownBlock = some b → p b ∧ b < w.heap.size
section
variable {e : TypeId} {w w' : World} {p q : Nat → Prop} {v : Value} {n : Nat} {xs : List Value}
theorem Ow.nil (e : TypeId) (w : World) (p : Nat → Prop) : Ow e w p (.slice none 0 0) 0 [] := ⟨World.ownsRow_nil _ _ _ _, fun b hb => by cases hb⟩
theorem Ow.form (h : Ow e w p v n xs) : (v = .slice none 0 0 ∧ n = 0 ∧ xs = []) ∨ ∃ b cap cur, v = .slice (some ⟨b, 0, none⟩) n cap ∧ p b ∧ b < w.heap.size ∧ w.heap[b]? = some (.cells cur e (0, 0)) ∧ n ≤ cap ∧ cap ≤ maxLen ∧ cur.size = cap ∧ cur.toList.take n = xs := by
  rcases h.own.2 with ⟨hv, hn⟩ | ⟨g, cap, cur, hv, _, hg, h1, h2, h3, h4⟩
  · exact .inl ⟨hv, hn, List.eq_nil_of_length_eq_zero (by have := h.own.1; omega)⟩
  · have := h.at_ g (by rw [hv]; rfl)
    exact .inr ⟨g, cap, cur, hv, this.1, this.2, hg, h1, h2, by simpa using h3, by simpa using h4⟩
theorem Ow.len (h : Ow e w p v n xs) : xs.length = n := by have := h.own.1; omega
theorem Ow.sl (h : Ow e w p v n xs) : ∃ A c, v = .slice A n c := slice_form h.own
theorem Ow.keep (h : Ow e w p v n xs) (hs : w.heap.size ≤ w'.heap.size) (hk : ∀ b, b < w.heap.size → p b → w'.heap[b]? = w.heap[b]?) : Ow e w' (fun b => b < w.heap.size ∧ p b) v n xs := by
  refine ⟨⟨h.own.1, ?_⟩, fun b hb => ?_⟩
  · rcases h.own.2 with h1 | ⟨g, cap, cur, hv, hbg, hg, r⟩
    · exact .inl h1
    · have := h.at_ g (by rw [hv]; rfl)
      exact .inr ⟨g, cap, cur, hv, hbg, (hk g this.2 this.1).trans hg, r⟩
  · have := h.at_ b hb
    exact ⟨⟨this.2, this.1⟩, Nat.lt_of_lt_of_le this.2 hs⟩
theorem Ow.imp (h : Ow e w p v n xs) (hi : ∀ b, b < w.heap.size → p b → q b) : Ow e w q v n xs := ⟨h.own, fun b hb => ⟨hi b (h.at_ b hb).2 (h.at_ b hb).1, (h.at_ b hb).2⟩⟩
theorem Ow.below (h : Ow e w p v n xs) (hb : Below w.heap.size w w') : Ow e w' p v n xs := (h.keep hb.size fun b h1 _ => hb.block b h1).imp fun b _ h => h.2
theorem Ow.fo (h : Ow e w p v n xs) (hf : Fo q w w') (hd : ∀ b, p b → ¬ q b) : Ow e w' p v n xs := (h.keep hf.size fun b h1 h2 => hf.block b h1 (hd b h2)).imp fun b _ h => h.2
theorem Ow.of_own {B : Nat} (h : w.ownsRow B e 1 v n xs) : Ow e w (fun b => B ≤ b) v n xs := by
  refine ⟨⟨h.1, ?_⟩, fun b hb => ?_⟩
  · rcases h.2 with h1 | ⟨g, cap, cur, hv, hbg, r⟩
    · exact .inl h1
    · exact .inr ⟨g, cap, cur, hv, Nat.zero_le _, r⟩
  · rcases h.2 with ⟨rfl, _⟩ | ⟨g, cap, cur, rfl, hbg, hg, r⟩
    · cases hb
    · injection hb with hb
      subst hb
      exact ⟨hbg, (Array.getElem?_eq_some_iff.1 hg).1⟩
theorem Ow.sq (h : Ow e w p v n xs) : Sq w p v n xs := by
  rcases h.form with ⟨rfl, rfl, rfl⟩ | ⟨b, cap, cur, rfl, hp, hb, hg, h1, h2, h3, h4⟩
  · exact Sq.nil _ _
  · refine ⟨_, _, rfl, h.len, fun h0 => ⟨b, 0, rfl, hb, hp, fun j u hu => ?_⟩⟩
    have hj : j < n := by
      have := (List.getElem?_eq_some_iff.1 hu).1
      rw [h.len] at this; exact this
    rw [Nat.zero_add, (row_cell hg j).1]
    rw [← h4, List.getElem?_take_of_lt hj, Array.getElem?_toList] at hu
    exact hu
/-- A list that grew. -/
theorem Ow.grow {w2 : World} {v2 : Value} {n2 : Nat} {xs2 : List Value} (h : Ow e w p v n xs) (ho : w2.ownsRow 0 e 1 v2 n2 xs2) (hg : w.grownBy w2 v.ownBlock) (hb : v2.ownBlock = v.ownBlock ∨ v2.ownBlock = some w.heap.size) :
    Ow e w2 (fun b => p b ∨ (w.heap.size ≤ b ∧ b < w2.heap.size)) v2 n2 xs2 ∧ Fo p w w2 := by
  have hlt : ∀ b, v2.ownBlock = some b → b < w2.heap.size := by
    intro b hbb
    rcases ho.2 with ⟨rfl, _⟩ | ⟨g, cap, cur, rfl, _, hg', _⟩
    · cases hbb
    · injection hbb with hbb
      subst hbb
      exact (Array.getElem?_eq_some_iff.1 hg').1
  refine ⟨⟨ho, fun b hbb => ⟨?_, hlt b hbb⟩⟩, hg.os, hg.tape, hg.output, hg.size, fun k hk hn => hg.block k hk (fun e => hn (h.at_ k e.symm).1)⟩
  · rcases hb with hb | hb
    · rw [hbb] at hb
      exact .inl (h.at_ b hb.symm).1
    · rw [hbb] at hb
      injection hb with hb'
      exact .inr ⟨by omega, hlt b hbb⟩
/-- A list that grew by what was just made. -/
theorem Ow.grow1 {w2 : World} {v2 : Value} {n2 : Nat} {xs2 : List Value} {o : Obj} (h : Ow e w p v n xs) (ho : w2.ownsRow 0 e 1 v2 n2 xs2) (hg : (w.alloc o).grownBy w2 v.ownBlock) (hb : v2.ownBlock = v.ownBlock ∨ v2.ownBlock = some (w.heap.size + 1)) :
    Ow e w2 (fun b => p b ∨ (w.heap.size ≤ b ∧ b < w2.heap.size)) v2 n2 xs2 ∧ Fo p w w2 := by
  have hA : Below w.heap.size w (w.alloc o) := (Below.refl _ _).alloc (Nat.le_refl _) o
  obtain ⟨h1, h2⟩ := (h.below hA).grow ho hg (by simpa using hb)
  refine ⟨h1.imp fun b _ hb => ?_, (Fo.of_below hA).trans h2 fun i hi => .inl hi⟩
  rcases hb with hb | hb
  · exact .inl hb
  · exact .inr ⟨by have := hb.1; simp at this; omega, hb.2⟩
/-- Lists of different kinds lie apart. -/
theorem Ow.apart {e' : TypeId} {q' : Nat → Prop} {v' : Value} {n' : Nat} {xs' : List Value} (h : Ow e w p v n xs) (h' : Ow e' w q' v' n' xs') (he : e ≠ e') : ∀ b, v.ownBlock = some b → v'.ownBlock ≠ some b := by
  intro b hb hb'
  rcases h.form with ⟨rfl, _⟩ | ⟨b1, cap, cur, rfl, _, _, hg, _⟩
  · cases hb
  · rcases h'.form with ⟨rfl, _⟩ | ⟨b2, cap2, cur2, rfl, _, _, hg2, _⟩
    · cases hb'
    · injection hb with hb
      injection hb' with hb'
      subst hb hb'
      rw [hg] at hg2
      injection hg2 with hg2
      injection hg2 with _ h2
      exact he h2
/-- A list in a block of its own kind isn't a struct's block. -/
theorem Ow.not {g : Nat} {cs : Array Value} {t : TypeId} {fr : Nat × Nat} (h : Ow e w p v n xs) (hg : w.heap[g]? = some (.cells cs t fr)) (he : e ≠ t) : Ow e w (fun b => p b ∧ b ≠ g) v n xs := by
  refine ⟨h.own, fun b hb => ⟨⟨(h.at_ b hb).1, ?_⟩, (h.at_ b hb).2⟩⟩
  rintro rfl
  rcases h.form with ⟨rfl, _⟩ | ⟨b1, cap, cur, rfl, _, _, hg1, _⟩
  · cases hb
  · injection hb with hb
    subst hb
    rw [hg] at hg1
    injection hg1 with hg1
    injection hg1 with _ h2
    exact he h2.symm
end
/-- What lies apart from a thing stays apart from it. -/
theorem Ow.nx {e : TypeId} {w w' : World} {P q r : Nat → Prop} {v : Value} {n : Nat} {xs : List Value} (h : Ow e w (fun b => P b ∧ ¬ q b) v n xs) (x : Nx q r w w') : Ow e w' (fun b => P b ∧ ¬ r b) v n xs :=
  (h.keep x.fo.size fun b hb hp => x.fo.block b hb hp.2).imp fun b _ hb => ⟨hb.2.1, fun hr => by
    rcases x.sub b hr with h1 | h1
    · exact hb.2.2 h1
    · have := hb.1; omega⟩
theorem Sq.nx {w w' : World} {P q r : Nat → Prop} {v : Value} {n : Nat} {xs : List Value} (h : Sq w (fun b => P b ∧ ¬ q b) v n xs) (x : Nx q r w w') : Sq w' (fun b => P b ∧ ¬ r b) v n xs :=
  (h.keep x.fo.size fun b hb hp => x.fo.block b hb hp.2).imp fun b _ hb => ⟨hb.2.1, fun hr => by
    rcases x.sub b hr with h1 | h1
    · exact hb.2.2 h1
    · have := hb.1; omega⟩
theorem Sq.belowP {w w' : World} {p : Nat → Prop} {v : Value} {n : Nat} {xs : List Value} (h : Sq w p v n xs) (hb : Below w.heap.size w w') : Sq w' p v n xs := (h.below hb).imp fun b _ hb => hb.2
theorem Sq.lit (w : World) (cs : Array Value) (t : TypeId) (n c : Nat) (h : cs.size = n) : Sq (w.alloc (.cells cs t)) (fun b => b = w.heap.size) (.slice (some ⟨w.heap.size, 0, none⟩) n c) n cs.toList := by
  refine ⟨_, _, rfl, by simpa using h, fun h0 => ⟨w.heap.size, 0, rfl, by simp, rfl, fun j u hu => ?_⟩⟩
  rw [Nat.zero_add, (row_cell (heap_alloc_new w _) j).1, ← Array.getElem?_toList]
  exact hu
theorem one_row {w : World} (u : Value) (t : TypeId) : Reads (w.alloc (.cells #[u] t)) (w.heap.size + 1) 1 (some ⟨w.heap.size, 0, none⟩) 1 [u] := ⟨rfl, fun _ => ⟨_, rfl, by simp, fun j u' hu => by
  match j, hu with
  | 0, hu => simp at hu; subst hu; rw [Addr.add_lit]; simp
  | j + 1, hu => simp at hu⟩⟩
end Go.Proofs.Ytehbcoopggpmjaa.F
