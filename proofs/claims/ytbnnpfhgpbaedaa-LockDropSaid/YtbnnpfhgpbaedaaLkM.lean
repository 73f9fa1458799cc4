/-
  Locks as plain things, and how they read in memory. Each statement bears its own conditions.
-/
import Derived.Test.YtbnnpfhgpbaedaaPlD
import Derived.Test.YtbnnpfhgpbaedaaIvA
import Derived.Test.YtbnnpfhgpbaedaaSpM
import Derived.Maps.OwnSet
namespace Go.Proofs.Ytbnnpfhgpbaedaa.K
open Go.RowKit Go.Maps
set_option linter.unusedVariables false
set_option linter.unusedSimpArgs false
/-- A number as it is read. -/
abbrev i64 (a : Int) : DataW Unit := .lit (.int .i64 a)
theorem law3 : Keyed Try.prog 3 := int_keyed Try.underlying3
theorem zero3 (w : World) : (zeroValue 3).run Try.prog w = .ok (.int .i64 0) w := by kernel_rfl
/-- A map from numbers to numbers, of at most N entries. -/
def MapV (w : World) (bm N : Nat) (os : Int → Option Int) : Prop :=
  ∃ D : DataW Unit, w.ownsMap Try.prog 3 (plainElem Try.prog 3) bm N D ∧ ∀ k, (Lit.int .i64 k).wf = true → Maps.has D (.int .i64 k) = (os k).isSome ∧ D.atKey (.int .i64 k) (i64 0) = i64 ((os k).getD 0)
theorem MapV.keep {w w' : World} {bm N : Nat} {os : Int → Option Int} (h : MapV w bm N os) (hb : w'.heap[bm]? = w.heap[bm]?) : MapV w' bm N os := by
  obtain ⟨D, ⟨es, c, h1, h2⟩, h3⟩ := h
  exact ⟨D, ⟨es, c, hb.trans h1, h2⟩, h3⟩
theorem MapV.lt {w : World} {bm N : Nat} {os : Int → Option Int} (h : MapV w bm N os) : bm < w.heap.size := by
  obtain ⟨D, h1, _⟩ := h
  exact h1.lt
theorem MapV.more {w : World} {bm N N' : Nat} {os : Int → Option Int} (h : MapV w bm N os) (hn : N ≤ N') : MapV w bm N' os := by
  obtain ⟨D, h1, h2⟩ := h
  exact ⟨D, h1.mono hn, h2⟩
theorem MapV.made (w : World) : MapV (w.alloc (.map #[] 0)) w.heap.size 0 (fun _ => none) :=
  ⟨.map [], World.ownsMap_made _ _ _ _, fun k _ => ⟨rfl, rfl⟩⟩
def put (os : Int → Option Int) (k : Int) (v : Option Int) : Int → Option Int := fun j => if j = k then v else os j
theorem lit_ne {a b : Int} (h : a ≠ b) : (Lit.int .i64 a) ≠ Lit.int .i64 b := fun e => h (by injection e)
theorem put_map {w : World} {bm N : Nat} {os : Int → Option Int} {D : DataW Unit} {k v : Int} (hk : (Lit.int .i64 k).wf = true) (h0 : IsMap D) (h1 : w.ownsMap Try.prog 3 (plainElem Try.prog 3) bm (N + 1) (D.put (.int .i64 k) (i64 v)))
    (h2 : ∀ k, (Lit.int .i64 k).wf = true → Maps.has D (.int .i64 k) = (os k).isSome ∧ D.atKey (.int .i64 k) (i64 0) = i64 ((os k).getD 0)) : MapV w bm (N + 1) (put os k (some v)) := by
  refine ⟨_, h1, fun j hj => ?_⟩
  have hkey : WideAt.IsKeyLit (.int .i64 k) := by simp [WideAt.IsKeyLit]
  by_cases e : j = k
  · subst e
    simp only [put, if_true]
    exact ⟨has_put_same h0 hkey _, atKey_put_same h0 hkey _ _⟩
  · simp only [put, if_neg e]
    rw [has_put_other (lit_ne e), atKey_put_other (lit_ne e)]
    exact h2 j hj
theorem del_map {w : World} {bm N : Nat} {os : Int → Option Int} {D : DataW Unit} {k : Int} (h1 : w.ownsMap Try.prog 3 (plainElem Try.prog 3) bm N (D.del (.int .i64 k)))
    (h2 : ∀ k, (Lit.int .i64 k).wf = true → Maps.has D (.int .i64 k) = (os k).isSome ∧ D.atKey (.int .i64 k) (i64 0) = i64 ((os k).getD 0)) : MapV w bm N (put os k none) := by
  refine ⟨_, h1, fun j hj => ?_⟩
  by_cases e : j = k
  · subst e
    simp only [put, if_true]
    exact ⟨has_del_same, atKey_del_same _⟩
  · simp only [put, if_neg e]
    rw [has_del_other (lit_ne e), atKey_del_other (lit_ne e)]
    exact h2 j hj
/-- Locks lie in block g: their ceilings in bc, the lists of those who wait in bw, list i in rb i, the owners in bm; nothing of it below lo. -/
structure LV (lo : Nat) (w : World) (g bc bw bm N : Nat) (rb : Nat → Nat) (cs : List Int) (ws : Nat → List (Int × Int)) (os : Int → Option Int) : Prop where
  low : lo ≤ g ∧ lo ≤ bw ∧ lo ≤ bm ∧ ∀ i, i < cs.length → lo ≤ rb i
  lt : g < w.heap.size ∧ bw < w.heap.size ∧ bm < w.heap.size ∧ ∀ i, i < cs.length → rb i < w.heap.size
  ap : g ≠ bw ∧ g ≠ bm ∧ bw ≠ bm ∧ (∀ i, i < cs.length → rb i ≠ g ∧ rb i ≠ bm) ∧ ∀ i j, i < cs.length → j < cs.length → i ≠ j → rb i ≠ bw → rb i ≠ rb j
  hd : ∃ vc cw, w.heap[g]? = some (.cells #[vc, .slice (some ⟨bw, 0, none⟩) cs.length cw, .map (some bm)] 66 (0, 0)) ∧ I.RowV w vc bc cs ∧ (vc = .slice none 0 0 ∨ (bc < w.heap.size ∧ bc ≠ g ∧ bc ≠ bw ∧ bc ≠ bm ∧ ∀ i, i < cs.length → rb i ≠ bc))
  ls : ∃ vs : Array Value, vs.size = cs.length ∧ w.heap[bw]? = some (.cells vs 79 (0, 0)) ∧ ∀ i, i < cs.length → ∃ v, vs[i]? = some v ∧ W.RowV w v (rb i) (ws i) ∧ (v = .slice none 0 0 ∨ rb i ≠ bw)
  mp : MapV w bm N os
/-- What becomes of their blocks. -/
structure Lx (bw bm n : Nat) (rb rb' : Nat → Nat) (w w' : World) : Prop where
  os : w'.os = w.os
  tape : w'.tape = w.tape
  output : w'.output = w.output
  size : w.heap.size ≤ w'.heap.size
  block : ∀ k, k < w.heap.size → k ≠ bw → k ≠ bm → (∀ i, i < n → k ≠ rb i) → w'.heap[k]? = w.heap[k]?
  rb : ∀ i, i < n → rb' i = rb i ∨ w.heap.size ≤ rb' i
theorem Lx.refl (bw bm n : Nat) (rb : Nat → Nat) (w : World) : Lx bw bm n rb rb w w := ⟨rfl, rfl, rfl, Nat.le_refl _, fun _ _ _ _ _ => rfl, fun _ _ => .inl rfl⟩
theorem Lx.of_below {bw bm n : Nat} {rb : Nat → Nat} {w w' : World} (h : Below w.heap.size w w') : Lx bw bm n rb rb w w' := ⟨h.os, h.tape, h.output, h.size, fun k hk _ _ _ => h.block k hk, fun _ _ => .inl rfl⟩
theorem Lx.trans {bw bm n : Nat} {rb rb' rb'' : Nat → Nat} {a b c : World} (h : Lx bw bm n rb rb' a b) (k : Lx bw bm n rb' rb'' b c) : Lx bw bm n rb rb'' a c := by
  refine ⟨k.os.trans h.os, k.tape.trans h.tape, k.output.trans h.output, Nat.le_trans h.size k.size, fun i hi h1 h2 h3 => ?_, fun i hi => ?_⟩
  · refine (k.block i (Nat.lt_of_lt_of_le hi h.size) h1 h2 fun j hj => ?_).trans (h.block i hi h1 h2 h3)
    rcases h.rb j hj with e | e
    · rw [e]; exact h3 j hj
    · omega
  · have := h.size
    rcases k.rb i hi with e | e <;> rcases h.rb i hi with e' | e' <;> omega
theorem Lx.below {lo g bc bw bm N : Nat} {rb rb' : Nat → Nat} {cs : List Int} {ws : Nat → List (Int × Int)} {os : Int → Option Int} {w w' : World} (h : Lx bw bm cs.length rb rb' w w') (e : LV lo w g bc bw bm N rb cs ws os) : Below lo w w' :=
  ⟨h.os, h.tape, h.output, h.size, fun k hk => h.block k (by have := e.low.1; have := e.lt.1; omega) (by have := e.low.2.1; omega) (by have := e.low.2.2.1; omega) fun i hi => by have := e.low.2.2.2 i hi; omega⟩
theorem LV.below {lo g bc bw bm N : Nat} {rb : Nat → Nat} {cs : List Int} {ws : Nat → List (Int × Int)} {os : Int → Option Int} {w w' : World} (h : LV lo w g bc bw bm N rb cs ws os) (hb : Below w.heap.size w w') : LV lo w' g bc bw bm N rb cs ws os := by
  have hs := hb.size
  obtain ⟨l1, l2, l3, l4⟩ := h.lt
  obtain ⟨vc, cw, a1, a2, a3⟩ := h.hd
  obtain ⟨vs, b1, b2, b3⟩ := h.ls
  refine ⟨h.low, ⟨by omega, by omega, by omega, fun i hi => by have := l4 i hi; omega⟩, h.ap, ⟨vc, cw, (hb.block g l1).trans a1, a2.keep (a3.imp id fun c => hb.block bc c.1), a3.imp id fun c => ⟨by omega, c.2⟩⟩, ⟨vs, b1, (hb.block bw l2).trans b2, fun i hi => ?_⟩, h.mp.keep (hb.block bm l3)⟩
  obtain ⟨v, c1, c2, c3⟩ := b3 i hi
  exact ⟨v, c1, c2.keep (.inr (hb.block _ (l4 i hi))), c3⟩
theorem LV.less {lo lo' g bc bw bm N : Nat} {rb : Nat → Nat} {cs : List Int} {ws : Nat → List (Int × Int)} {os : Int → Option Int} {w : World} (h : LV lo w g bc bw bm N rb cs ws os) (hl : lo' ≤ lo) : LV lo' w g bc bw bm N rb cs ws os :=
  ⟨⟨by have := h.low.1; omega, by have := h.low.2.1; omega, by have := h.low.2.2.1; omega, fun i hi => by have := h.low.2.2.2 i hi; omega⟩, h.lt, h.ap, h.hd, h.ls, h.mp⟩
/-- The owners are changed. -/
theorem LV.owner {lo g bc bw bm N N' : Nat} {rb : Nat → Nat} {cs : List Int} {ws : Nat → List (Int × Int)} {os os' : Int → Option Int} {w w' : World} (h : LV lo w g bc bw bm N rb cs ws os) (ht : w.mapTurned w' bm) (hm : MapV w' bm N' os') :
    LV lo w' g bc bw bm N' rb cs ws os' ∧ Lx bw bm cs.length rb rb w w' := by
  have hg := ht.grown
  have hs := hg.size
  have hb : ∀ k, k < w.heap.size → k ≠ bm → w'.heap[k]? = w.heap[k]? := fun k hk hne => hg.block k hk (fun e => hne (by injection e))
  obtain ⟨l1, l2, l3, l4⟩ := h.lt
  obtain ⟨p1, p2, p3, p4, p5⟩ := h.ap
  obtain ⟨vc, cw, a1, a2, a3⟩ := h.hd
  obtain ⟨vs, b1, b2, b3⟩ := h.ls
  refine ⟨⟨h.low, ⟨by omega, by omega, by omega, fun i hi => by have := l4 i hi; omega⟩, h.ap, ⟨vc, cw, (hb g l1 p2).trans a1, a2.keep (a3.imp id fun c => hb bc c.1 c.2.2.2.1), a3.imp id fun c => ⟨by omega, c.2⟩⟩, ⟨vs, b1, (hb bw l2 p3).trans b2, fun i hi => ?_⟩, hm⟩, ⟨hg.os, hg.tape, hg.output, hs, fun k hk _ k2 _ => hb k hk k2, fun _ _ => .inl rfl⟩⟩
  obtain ⟨v, c1, c2, c3⟩ := b3 i hi
  exact ⟨v, c1, c2.keep (.inr (hb _ (l4 i hi) (p4 i hi).2)), c3⟩
def putN {α : Type} (f : Nat → α) (i : Nat) (x : α) : Nat → α := fun j => if j = i then x else f j
theorem putN_at {α : Type} (f : Nat → α) (i : Nat) (x : α) : putN f i x i = x := by simp [putN]
theorem putN_ne {α : Type} (f : Nat → α) {i j : Nat} (x : α) (h : j ≠ i) : putN f i x j = f j := by simp [putN, h]
theorem set_at {w : World} {g : Nat} {C : Array Value} {t : TypeId} {fr : Nat × Nat} (h : w.heap[g]? = some (.cells C t fr)) (o : Nat) (v : Value) : (w.setCell ⟨g, o, none⟩ v).heap[g]? = some (.cells (C.setIfInBounds o v) t fr) := by
  have hl : g < w.heap.size := by
    by_cases hlt : g < w.heap.size
    · exact hlt
    · rw [Array.getElem?_eq_none (by omega)] at h; cases h
  simp [World.setCell, h, Array.getElem?_modify]
theorem set_far {w : World} {g k : Nat} (o : Nat) (v : Value) (h : k ≠ g) : (w.setCell ⟨g, o, none⟩ v).heap[k]? = w.heap[k]? := Below.heap_setCell _ _ _ _ h
/-- A list is laid for lock i: from X, in which nothing but new blocks came, row rx was changed or left. -/
theorem LV.put {lo g bc bw bm N : Nat} {rb : Nat → Nat} {cs : List Int} {ws : Nat → List (Int × Int)} {os : Int → Option Int} {w X W3 : World} {i rx rb' : Nat} {v' : Value} {L' : List (Int × Int)}
    (h : LV lo w g bc bw bm N rb cs ws os) (hi : i < cs.length) (hx : Below w.heap.size w X) (hrx : (rx = rb i ∧ rb i ≠ bw) ∨ X.heap.size ≤ rx) (hp : Past rx X W3) (hr : W.RowV W3 v' rb' L') (hrb : rb' = rx ∨ X.heap.size ≤ rb') (hlt : rb' < W3.heap.size) :
    LV lo (W3.setCell ⟨bw, i, none⟩ v') g bc bw bm N (putN rb i rb') cs (putN ws i L') os ∧ Lx bw bm cs.length rb (putN rb i rb') w (W3.setCell ⟨bw, i, none⟩ v') := by
  have hs := hx.size
  have hs3 := hp.size
  obtain ⟨lo1, lo2, lo3, lo4⟩ := h.low
  obtain ⟨l1, l2, l3, l4⟩ := h.lt
  obtain ⟨p1, p2, p3, p4, p5⟩ := h.ap
  obtain ⟨vc, cw, a1, a2, a3⟩ := h.hd
  obtain ⟨vs, b1, b2, b3⟩ := h.ls
  have hb : ∀ k, k < w.heap.size → k ≠ rx → W3.heap[k]? = w.heap[k]? := fun k hk hne => (hp.block k (by omega) hne).trans (hx.block k hk)
  have hbb : ∀ k, k < w.heap.size → k ≠ rx → k ≠ bw → (W3.setCell ⟨bw, i, none⟩ v').heap[k]? = w.heap[k]? := fun k hk h1 h2 => (set_far _ _ h2).trans (hb k hk h1)
  have hii := l4 i hi
  have hpi := p4 i hi
  have hrbw : rb' ≠ bw := by rcases hrx with e | e <;> rcases hrb with e' | e' <;> omega
  have hrg : rb' ≠ g := by rcases hrx with e | e <;> rcases hrb with e' | e' <;> omega
  have hrm : rb' ≠ bm := by rcases hrx with e | e <;> rcases hrb with e' | e' <;> omega
  have hro : rb' = rb i ∨ w.heap.size ≤ rb' := by rcases hrx with e | e <;> rcases hrb with e' | e' <;> omega
  have hxg : g ≠ rx := by rcases hrx with e | e <;> omega
  have hxm : bm ≠ rx := by rcases hrx with e | e <;> omega
  have hxw : bw ≠ rx := by rcases hrx with e | e <;> omega
  have hxj : ∀ j, j < cs.length → j ≠ i → rb j ≠ rx := by
    intro j hj hne
    have := l4 j hj
    rcases hrx with e | e
    · have := p5 i j hi hj (fun e => hne e.symm) e.2; omega
    · omega
  have hsz : (W3.setCell ⟨bw, i, none⟩ v').heap.size = W3.heap.size := by simp
  refine ⟨⟨⟨lo1, lo2, lo3, fun j hj => ?_⟩, ⟨by omega, by omega, by omega, fun j hj => ?_⟩, ⟨p1, p2, p3, fun j hj => ?_, fun j k hj hk hne hw => ?_⟩, ⟨vc, cw, (hbb g l1 hxg p1).trans a1, a2.keep (a3.imp id fun c => hbb bc c.1 (by rcases hrx with e | e; (have := c.2.2.2.2 i hi; omega); (have := c.1; omega)) c.2.2.1), a3.imp id fun c => ⟨by have := c.1; omega, c.2.1, c.2.2.1, c.2.2.2.1, fun j hj => ?_⟩⟩, ⟨vs.setIfInBounds i v', by simpa using b1, set_at ((hb bw l2 hxw).trans b2) i v', fun j hj => ?_⟩, h.mp.keep (hbb bm l3 hxm (fun e => p3 e.symm))⟩, ⟨hp.os.trans hx.os, hp.tape.trans hx.tape, hp.output.trans hx.output, by omega, fun k hk k1 k2 k3 => ?_, fun j hj => ?_⟩⟩
  · by_cases e : j = i
    · subst e; rw [putN_at]; have := lo4 j hj; omega
    · rw [putN_ne _ _ e]; exact lo4 j hj
  · by_cases e : j = i
    · subst e; rw [putN_at]; omega
    · rw [putN_ne _ _ e]; have := l4 j hj; omega
  · by_cases e : j = i
    · subst e; rw [putN_at]; exact ⟨hrg, hrm⟩
    · rw [putN_ne _ _ e]; exact p4 j hj
  · by_cases e : j = i
    · subst e
      rw [putN_at, putN_ne _ _ (fun e => hne e.symm)]
      have := l4 k hk
      rcases hrx with e | e
      · have := p5 j k hj hk hne e.2
        rcases hrb with e' | e' <;> omega
      · omega
    · rw [putN_ne _ _ e] at hw ⊢
      by_cases e' : k = i
      · subst e'
        rw [putN_at]
        have := l4 j hj
        have := p5 j k hj hk hne hw
        rcases hro with e | e <;> omega
      · rw [putN_ne _ _ e']; exact p5 j k hj hk hne hw
  · by_cases e : j = i
    · subst e; rw [putN_at]
      have := c.2.2.2.2 j hj
      have := c.1
      rcases hro with e | e <;> omega
    · rw [putN_ne _ _ e]; exact c.2.2.2.2 j hj
  · by_cases e : j = i
    · subst e
      refine ⟨v', ?_, ?_, ?_⟩
      · have hjs : j < vs.size := by omega
        simp [hjs]
      · rw [putN_at, putN_at]; exact hr.keep (.inr (set_far _ _ hrbw))
      · rw [putN_at]; exact .inr hrbw
    · obtain ⟨v, c1, c2, c3⟩ := b3 j hj
      refine ⟨v, ?_, ?_, ?_⟩
      · rw [Array.getElem?_setIfInBounds_ne (fun e' => e e'.symm)]; exact c1
      · rw [putN_ne _ _ e, putN_ne _ _ e]
        refine c2.keep ?_
        rcases c3 with c3 | c3
        · exact .inl c3
        · exact .inr (hbb _ (l4 j hj) (hxj j hj e) c3)
      · rw [putN_ne _ _ e]; exact c3
  · exact hbb k hk (by have := k3 i hi; rcases hrx with e | e <;> omega) k1
  · by_cases e : j = i
    · subst e; rw [putN_at]; exact hro
    · rw [putN_ne _ _ e]; exact .inl rfl
end Go.Proofs.Ytbnnpfhgpbaedaa.K
