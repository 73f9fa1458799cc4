/-
  Two lists of which one has one line less. Each statement bears its own conditions.
-/
import Derived.Test.YtbkjcjkbicaibaaBack
namespace Go.Proofs.Ytbkjcjkbicaibaa
open Go.RowKit
set_option linter.unusedVariables false
set_option linter.unusedSimpArgs false
/-- One act on a list. -/
def Stp (κ : Nat) (id p : Int) (L L' : Nat → List Int) : Prop := (κ = 0 ∧ L' = putL L id p) ∨ (κ = 1 ∧ L' = frontL L id p) ∨ (κ = 2 ∧ ∃ ok, Dp L id ok L')
/-- One act on a line. -/
def sl (κ : Nat) (id : Int) (l : List Int) : List Int := if κ = 2 then l.filter (fun x => decide (x ≠ id)) else if id < 0 ∨ id ∈ l then l else if κ = 0 then l ++ [id] else id :: l
/-- Each id in its line. -/
structure AtL (L : Nat → List Int) : Prop where
  at_ : ∀ q : Nat, q < 64 → ∀ x ∈ L q, 0 ≤ x ∧ x % 64 = (q : Int)
  nd : ∀ q : Nat, q < 64 → (L q).Nodup
theorem filter_ne_self {l : List Int} {id : Int} (h : id ∉ l) : l.filter (fun x => decide (x ≠ id)) = l := by
  rw [List.filter_eq_self]
  intro x hx
  exact decide_eq_true fun e => h (by rw [← e]; exact hx)
theorem cut_filter {l : List Int} {id : Int} (hn : l.Nodup) : ∀ {i : Nat}, i < l.length → l.getD i 0 = id → l.take i ++ l.drop (i + 1) = l.filter (fun x => decide (x ≠ id)) := by
  induction l with
  | nil => intro i h; simp at h
  | cons a l ih =>
    intro i h he
    have h1 := List.nodup_cons.1 hn
    cases i with
    | zero =>
      have ha : a = id := by simpa using he
      subst ha
      rw [List.filter_cons_of_neg (by simp), filter_ne_self h1.1]
      simp
    | succ i =>
      have h2 : i < l.length := by simpa using h
      have h3 : l.getD i 0 = id := by simpa using he
      have hne : a ≠ id := fun e => h1.1 (by rw [e, ← h3]; exact getD_mem h2)
      rw [List.filter_cons_of_pos (by simpa using hne), ← ih h1.2 h2 h3]
      simp
theorem AtL.has {L : Nat → List Int} (h : AtL L) {id : Int} {q p : Nat} (hq : q < 64) (hm : id ∈ L q) (hp : id % 64 = (p : Int)) : q = p := by
  have := (h.at_ q hq id hm).2
  omega
theorem AtL.step {L L' : Nat → List Int} (h : AtL L) {κ p : Nat} {id : Int} (hp : id % 64 = (p : Int)) (hp64 : p < 64) (hs : Stp κ id (p : Int) L L') : L' = upd L p (sl κ id (L p)) := by
  have hv : vld (p : Int) = true := decide_eq_true ⟨by omega, by omega⟩
  have hhas : ∀ r, rfz L id (p : Int) = r → (r = 0 ↔ ¬ (id < 0 ∨ id ∈ L p)) := by
    intro r hr
    unfold rfz at hr
    by_cases h0 : id < 0
    · rw [if_pos h0] at hr; constructor
      · omega
      · intro h; exact absurd (.inl h0) h
    · rw [if_neg h0, if_neg (by rw [hv]; simp)] at hr
      by_cases h1 : hasL L id = true
      · rw [if_pos h1] at hr
        obtain ⟨q, hq, hm⟩ := hasL_iff.1 h1
        have := h.has hq hm hp
        subst this
        constructor
        · omega
        · intro h; exact absurd (.inr hm) h
      · rw [if_neg h1] at hr
        have h2 := hasL_not.1 (Bool.eq_false_iff.2 h1) p hp64
        exact ⟨fun _ e => e.elim h0 h2, fun _ => hr.symm⟩
  have hr := hhas _ rfl
  rcases hs with ⟨rfl, rfl⟩ | ⟨rfl, rfl⟩ | ⟨rfl, ok, hd⟩
  · unfold putL sl
    rw [if_neg (by decide : ¬ (0 = 2))]
    by_cases hc : id < 0 ∨ id ∈ L p
    · rw [if_neg (fun e => hr.1 e hc), if_pos hc, upd_self]
    · rw [if_pos (hr.2 hc), if_neg hc, if_pos rfl, Int.toNat_natCast]
  · unfold frontL sl
    rw [if_neg (by decide : ¬ (1 = 2))]
    by_cases hc : id < 0 ∨ id ∈ L p
    · rw [if_neg (fun e => hr.1 e hc), if_pos hc, upd_self]
    · rw [if_pos (hr.2 hc), if_neg hc, if_neg (by decide), Int.toNat_natCast]
  · unfold sl
    rw [if_pos rfl]
    rcases hd with ⟨q, i, hq, hi, he, _, rfl⟩ | ⟨hno, _, rfl⟩
    · have hm : id ∈ L q := by rw [← he]; exact getD_mem hi
      have := h.has hq hm hp
      subst this
      rw [cut_filter (h.nd q hq) hi he]
    · rw [filter_ne_self (hno p hp64), upd_self]
theorem sl_mem {κ : Nat} {id x : Int} {l : List Int} (h : x ∈ sl κ id l) : x ∈ l ∨ (x = id ∧ 0 ≤ id) := by
  unfold sl at h
  split at h
  · exact .inl (List.mem_filter.1 h).1
  · split at h
    · exact .inl h
    · rename_i hc
      have h0 : 0 ≤ id := by
        rcases Int.lt_or_le id 0 with e | e
        · exact absurd (.inl e) hc
        · exact e
      split at h
      · rcases List.mem_append.1 h with h | h
        · exact .inl h
        · exact .inr ⟨List.mem_singleton.1 h, h0⟩
      · rcases List.mem_cons.1 h with h | h
        · exact .inr ⟨h, h0⟩
        · exact .inl h
theorem sl_nd {κ : Nat} {id : Int} {l : List Int} (h : l.Nodup) : (sl κ id l).Nodup := by
  unfold sl
  split
  · exact h.filter _
  · split
    · exact h
    · rename_i hc
      have hm : id ∉ l := fun e => hc (.inr e)
      split
      · rw [List.nodup_append]
        refine ⟨h, by simp, fun a ha b hb => ?_⟩
        rw [List.mem_singleton.1 hb]
        exact fun e => hm (by rw [← e]; exact ha)
      · exact List.nodup_cons.2 ⟨hm, h⟩
theorem sl_len (κ : Nat) (id : Int) (l : List Int) : (sl κ id l).length ≤ l.length + 1 := by
  unfold sl
  split
  · have := List.length_filter_le (fun x => decide (x ≠ id)) l; omega
  · split
    · omega
    · split <;> simp
theorem AtL.next {L : Nat → List Int} (h : AtL L) {κ p : Nat} {id : Int} (hp : id % 64 = (p : Int)) : AtL (upd L p (sl κ id (L p))) := by
  refine ⟨fun q hq x hx => ?_, fun q hq => ?_⟩
  · by_cases e : q = p
    · subst e; rw [upd_same] at hx
      rcases sl_mem hx with h1 | ⟨rfl, h1⟩
      · exact h.at_ q hq x h1
      · exact ⟨h1, hp⟩
    · rw [upd_other _ _ e] at hx; exact h.at_ q hq x hx
  · by_cases e : q = p
    · subst e; rw [upd_same]; exact sl_nd (h.nd q hq)
    · rw [upd_other _ _ e]; exact h.nd q hq
/-- All but line o. -/
structure Iv (o k : Nat) (X Y : Nat → List Int) : Prop where
  eq : ∀ q, q < 64 → q ≠ o → Y q = X q
  em : Y o = []
  at_ : AtL X
  lx : ∀ q, q < 64 → (X q).length ≤ k
theorem Iv.y {o k : Nat} {X Y : Nat → List Int} (h : Iv o k X Y) : AtL Y := by
  refine ⟨fun q hq x hx => ?_, fun q hq => ?_⟩
  · by_cases e : q = o
    · subst e; rw [h.em] at hx; cases hx
    · rw [h.eq q hq e] at hx; exact h.at_.at_ q hq x hx
  · by_cases e : q = o
    · subst e; rw [h.em]; exact List.nodup_nil
    · rw [h.eq q hq e]; exact h.at_.nd q hq
theorem Iv.ly {o k : Nat} {X Y : Nat → List Int} (h : Iv o k X Y) : ∀ q, q < 64 → (Y q).length ≤ k := fun q hq => by
  by_cases e : q = o
  · subst e; rw [h.em]; simp
  · rw [h.eq q hq e]; exact h.lx q hq
theorem Iv.start (o : Nat) : Iv o 0 (fun _ => []) (fun _ => []) := ⟨fun _ _ _ => rfl, rfl, ⟨fun _ _ _ hx => (by cases hx), fun _ _ => List.nodup_nil⟩, fun _ _ => Nat.le_refl _⟩
theorem lens {κ p k : Nat} {id : Int} {X : Nat → List Int} (h : ∀ q, q < 64 → (X q).length ≤ k) : ∀ q, q < 64 → (upd X p (sl κ id (X p)) q).length ≤ k + 1 := fun q hq => by
  by_cases e : q = p
  · subst e; rw [upd_same]; have := sl_len κ id (X q); have := h q hq; omega
  · rw [upd_other _ _ e]; have := h q hq; omega
/-- Between the two lists. -/
def Md (o k κ : Nat) (id p : Int) (X Y : Nat → List Int) : Prop := ∃ X0, Iv o k X0 Y ∧ Stp κ id p X0 X
theorem Md.lx {o k κ p : Nat} {id : Int} {X Y : Nat → List Int} (h : Md o k κ id (p : Int) X Y) (hp : id % 64 = (p : Int)) (hp64 : p < 64) : ∀ q, q < 64 → (X q).length ≤ k + 1 := by
  obtain ⟨X0, hi, hs⟩ := h
  rw [hi.at_.step hp hp64 hs]
  exact lens hi.lx
theorem Md.out_ {o k κ p : Nat} {id : Int} {X Y : Nat → List Int} (h : Md o k κ id (p : Int) X Y) (hp : id % 64 = (p : Int)) (hp64 : p < 64) (ho : p = o) : Iv o (k + 1) X Y := by
  obtain ⟨X0, hi, hs⟩ := h
  rw [hi.at_.step hp hp64 hs]
  exact ⟨fun q hq e => by rw [upd_other _ _ (by omega)]; exact hi.eq q hq e, hi.em, hi.at_.next hp, lens hi.lx⟩
theorem Md.in_ {o k κ p : Nat} {id : Int} {X Y Y' : Nat → List Int} (h : Md o k κ id (p : Int) X Y) (hp : id % 64 = (p : Int)) (hp64 : p < 64) (ho : p ≠ o) (hy : Stp κ id (p : Int) Y Y') : Iv o (k + 1) X Y' := by
  obtain ⟨X0, hi, hs⟩ := h
  rw [hi.at_.step hp hp64 hs, hi.y.step hp hp64 hy, hi.eq p hp64 ho]
  refine ⟨fun q hq e => ?_, ?_, hi.at_.next hp, lens hi.lx⟩
  · by_cases e2 : q = p
    · subst e2; rw [upd_same, upd_same]
    · rw [upd_other _ _ e2, upd_other _ _ e2]; exact hi.eq q hq e
  · rw [upd_other _ _ (by omega)]; exact hi.em
def ot (o : Nat) (x : Int) : Bool := !decide (x % 64 = (o : Int))
theorem af_filter {o k : Nat} {X Y : Nat → List Int} (h : Iv o k X Y) : ∀ j, j ≤ 64 → af Y j = (af X j).filter (ot o) := by
  intro j
  induction j with
  | zero => intro _; rfl
  | succ j ih =>
    intro hj
    simp only [af, List.filter_append]
    rw [ih (by omega)]
    congr 1
    by_cases e : 63 - j = o
    · rw [e, h.em]
      symm
      rw [List.filter_eq_nil_iff]
      intro x hx
      have := (h.at_.at_ o (by omega) x hx).2
      simp [ot, this]
    · rw [h.eq _ (by omega) e]
      symm
      rw [List.filter_eq_self]
      intro x hx
      have := (h.at_.at_ (63 - j) (by omega) x hx).2
      simp only [ot, Bool.not_eq_true', decide_eq_false_iff_not]
      omega
def ct (o : Nat) (D : List Int) (i : Nat) : Nat := ((D.take i).filter (ot o)).length
theorem ct_step {o : Nat} {D : List Int} {i : Nat} (h : i < D.length) : ct o D (i + 1) = ct o D i + (if ot o (D.getD i 0) = true then 1 else 0) := by
  unfold ct
  rw [take_getD h, List.filter_append, List.length_append]
  by_cases e : ot o (D.getD i 0) = true
  · rw [if_pos e, List.filter_cons_of_pos e]; rfl
  · rw [if_neg e, List.filter_cons_of_neg e]; rfl
theorem ct_at {o : Nat} {D : List Int} {i : Nat} (h : i < D.length) (e : ot o (D.getD i 0) = true) : ct o D i < (D.filter (ot o)).length ∧ (D.filter (ot o)).getD (ct o D i) 0 = D.getD i 0 := by
  have h1 : D.filter (ot o) = (D.take i).filter (ot o) ++ D.getD i 0 :: (D.drop (i + 1)).filter (ot o) := by
    have h2 : D = D.take i ++ D.getD i 0 :: D.drop (i + 1) := by
      rw [List.getD_eq_getElem?_getD, List.getElem?_eq_getElem h, Option.getD_some, ← List.drop_eq_getElem_cons h, List.take_append_drop]
    conv => lhs; rw [h2]
    rw [List.filter_append, List.filter_cons_of_pos e]
  rw [h1]
  unfold ct
  refine ⟨by simp, ?_⟩
  rw [List.getD_eq_getElem?_getD, List.getElem?_append_right (Nat.le_refl _), Nat.sub_self]; rfl
theorem ct_all {o : Nat} {D : List Int} {i : Nat} (h : i = D.length) : ct o D i = (D.filter (ot o)).length := by
  unfold ct; rw [List.take_of_length_le (by omega)]
theorem ct_le (o : Nat) (D : List Int) (i : Nat) : ct o D i ≤ i := by
  unfold ct
  have := List.length_filter_le (ot o) (D.take i)
  rw [List.length_take] at this; omega
end Go.Proofs.Ytbkjcjkbicaibaa
