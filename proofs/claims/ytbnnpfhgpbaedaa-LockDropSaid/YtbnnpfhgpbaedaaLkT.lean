/-
  Take and Give of a lock, whatever is asked; locks that lie apart. Each statement bears its own conditions.
-/
import Derived.Test.YtbnnpfhgpbaedaaLkL
import Derived.Test.YtbnnpfhgpbaedaaLkK
namespace Go.Proofs.Ytbnnpfhgpbaedaa.K
open Go.RowKit
set_option linter.unusedVariables false
set_option linter.unusedSimpArgs false
/-- Does an id wait in a list? -/
def inW (L : List (Int × Int)) (id : Int) : Prop := ∃ x ∈ L, x.1 = id
instance (L : List (Int × Int)) (id : Int) : Decidable (inW L id) := by unfold inW; infer_instance
/-- Behind Take: who waits, and whose it is. -/
def tkW (ce : Int) (L : List (Int × Int)) (o : Option Int) (id bs : Int) : List (Int × Int) :=
  if ¬ (1 ≤ bs ∧ bs ≤ 63) then L else if inW L id then L else if o = some id then L else if ¬ bs ≤ ce then L else if o = none then L else joinP L id bs
def tkO (ce : Int) (L : List (Int × Int)) (o : Option Int) (id bs : Int) : Option Int :=
  if ¬ (1 ≤ bs ∧ bs ≤ 63) then o else if inW L id then o else if o = some id then o else if ¬ bs ≤ ce then o else if o = none then some id else o
/-- Behind Give. -/
def gvW (L : List (Int × Int)) (o : Option Int) (id : Int) : List (Int × Int) := if inW L id then L else if o ≠ some id then L else L.tail
def gvO (L : List (Int × Int)) (o : Option Int) (id : Int) : Option Int := if inW L id then o else if o ≠ some id then o else L.head?.map (·.1)
theorem putN_id {α : Type} (f : Nat → α) (i : Nat) : putN f i (f i) = f := by
  funext j
  unfold putN
  split
  · next h => rw [h]
  · rfl
theorem put_id (os : Int → Option Int) (k : Int) : put os k (os k) = os := by
  funext j
  unfold put
  split
  · next h => rw [h]
  · rfl
theorem put_put (os : Int → Option Int) (k : Int) (a b : Option Int) : put (put os k a) k b = put os k b := by
  funext j
  unfold put
  split <;> rfl
/-- No other lock has an id that waits. -/
def Oth (ws : Nat → List (Int × Int)) (n i : Nat) (id : Int) : Prop := ∀ j, j < n → j ≠ i → ∀ x ∈ ws j, x.1 ≠ id
theorem noId_of {ws : Nat → List (Int × Int)} {n i : Nat} {id : Int} (h : Oth ws n i id) (h2 : ¬ inW (ws i) id) : NoId ws n id := fun j hj x hx e => by
  by_cases hji : j = i
  · subst hji; exact h2 ⟨x, hx, e⟩
  · exact h j hj hji x hx e
theorem not_noId {ws : Nat → List (Int × Int)} {n i : Nat} {id : Int} (hi : i < n) (h2 : inW (ws i) id) : ¬ NoId ws n id := fun h => by
  obtain ⟨x, hx, e⟩ := h2
  exact h i hi x hx e
theorem take_eff (lo g bc bw bm N : Nat) (rb : Nat → Nat) (cs : List Int) (ws : Nat → List (Int × Int)) (os : Int → Option Int) (id bs : Int) (i : Nat) (w : World) (h : LV lo w g bc bw bm N rb cs ws os) (hn : cs.length ≤ 16) (hl : ∀ i, i < cs.length → (ws i).length ≤ 900) (hi : i < cs.length) (h0 : 0 ≤ id ∧ id < 1000) (hN : N < 1000) (ho : Oth ws cs.length i id) :
    Calls Try.prog 14 #[.pointer (some ⟨g, 0, none⟩), .int .i64 id, .int .i64 bs, .int .i64 (i : Int)] w fun e w' => ∃ r rb' N', e = .returned r ∧ N' ≤ N + 1 ∧ LV lo w' g bc bw bm N' rb' cs (putN ws i (tkW (cs.getD i 0) (ws i) (os i) id bs)) (put os i (tkO (cs.getD i 0) (ws i) (os i) id bs)) ∧ Lx bw bm cs.length rb rb' w w' := by
  have hwf : (Lit.int .i64 id).wf = true := by
    simp only [Lit.wf, Bool.and_eq_true, decide_eq_true_eq]
    have h5 : (IntKind.i64.min : Int) = -9223372036854775808 := rfl
    have h6 : (IntKind.i64.max : Int) = 9223372036854775807 := rfl
    omega
  unfold tkW tkO
  by_cases hb : 1 ≤ bs ∧ bs ≤ 63
  rotate_left
  · rw [if_pos hb, if_pos hb, putN_id, put_id]
    refine (take_prio g id bs i w h0.1 hb).mono ?_
    rintro e w' ⟨rfl, rfl⟩
    exact ⟨_, rb, N, rfl, by omega, h, Lx.refl _ _ _ _ _⟩
  rw [if_neg (not_not_intro hb), if_neg (not_not_intro hb)]
  by_cases hin : inW (ws i) id
  · rw [if_pos hin, if_pos hin, putN_id, put_id]
    refine (take_waits lo g bc bw bm N rb cs ws os id bs i w h hn hl hi h0.1 hb (not_noId hi hin)).mono ?_
    rintro e w' ⟨rfl, h1, h2⟩
    exact ⟨_, rb, N, rfl, by omega, h1, h2⟩
  rw [if_neg hin, if_neg hin]
  have hno := noId_of ho hin
  by_cases hown : os i = some id
  · rw [if_pos hown, if_pos hown, putN_id, put_id]
    refine (take_twice lo g bc bw bm N rb cs ws os id bs i w h hn hl hi h0.1 hb hno hown).mono ?_
    rintro e w' ⟨rfl, h1, h2⟩
    exact ⟨_, rb, N, rfl, by omega, h1, h2⟩
  rw [if_neg hown, if_neg hown]
  by_cases hce : bs ≤ cs.getD i 0
  rotate_left
  · rw [if_pos hce, if_pos hce, putN_id, put_id]
    refine (take_rights lo g bc bw bm N rb cs ws os id bs i w h hn hl hi h0.1 hb hno hown (by omega)).mono ?_
    rintro e w' ⟨rfl, h1, h2⟩
    exact ⟨_, rb, N, rfl, by omega, h1, h2⟩
  rw [if_neg (not_not_intro hce), if_neg (not_not_intro hce)]
  cases hos : os i with
  | none =>
    rw [if_pos rfl, if_pos rfl, putN_id]
    refine (take_free lo g bc bw bm N rb cs ws os id bs i w h hn hl hi h0.1 hb hno hwf (by unfold maxLen; omega) hos hce).mono ?_
    rintro e w' ⟨rfl, h1, h2⟩
    exact ⟨_, rb, N + 1, rfl, Nat.le_refl _, h1, h2⟩
  | some o =>
    rw [if_neg (by simp), if_neg (by simp), ← hos, put_id]
    refine (take_joins lo g bc bw bm N rb cs ws os id bs i w h hn hl hi h0.1 hb hno o hos (fun e => hown (by rw [hos, e])) hce).mono ?_
    rintro e w' ⟨rfl, rb', h1, h2⟩
    exact ⟨_, _, N, rfl, by omega, h1, h2⟩
theorem give_eff (lo g bc bw bm N : Nat) (rb : Nat → Nat) (cs : List Int) (ws : Nat → List (Int × Int)) (os : Int → Option Int) (id : Int) (i : Nat) (w : World) (h : LV lo w g bc bw bm N rb cs ws os) (hn : cs.length ≤ 16) (hl : ∀ i, i < cs.length → (ws i).length ≤ 900) (hi : i < cs.length) (hN : N < 1000) (ho : Oth ws cs.length i id) (hw : ∀ x ∈ ws i, 0 ≤ x.1 ∧ x.1 < 1000) :
    Calls Try.prog 16 #[.pointer (some ⟨g, 0, none⟩), .int .i64 id, .int .i64 (i : Int)] w fun e w' => ∃ r rb' N', e = .returned r ∧ N' ≤ N + 1 ∧ LV lo w' g bc bw bm N' rb' cs (putN ws i (gvW (ws i) (os i) id)) (put os i (gvO (ws i) (os i) id)) ∧ Lx bw bm cs.length rb rb' w w' := by
  unfold gvW gvO
  by_cases hin : inW (ws i) id
  · rw [if_pos hin, if_pos hin, putN_id, put_id]
    refine (give_waits lo g bc bw bm N rb cs ws os id i w h hn hl hi (not_noId hi hin)).mono ?_
    rintro e w' ⟨rfl, h1, h2⟩
    exact ⟨_, rb, N, rfl, by omega, h1, h2⟩
  rw [if_neg hin, if_neg hin]
  have hno := noId_of ho hin
  by_cases hown : os i = some id
  rotate_left
  · rw [if_pos hown, if_pos hown, putN_id, put_id]
    refine (give_other lo g bc bw bm N rb cs ws os id i w h hn hl hi hno hown).mono ?_
    rintro e w' ⟨rfl, h1, h2⟩
    exact ⟨_, rb, N, rfl, by omega, h1, h2⟩
  rw [if_neg (not_not_intro hown), if_neg (not_not_intro hown)]
  cases hws : ws i with
  | nil =>
    refine (give_free lo g bc bw bm N rb cs ws os id i hws w h hn hl hi hno hown).mono ?_
    rintro e w' ⟨rfl, h1, h2⟩
    exact ⟨_, rb, N, rfl, by omega, by
      have e1 : putN ws i (([] : List (Int × Int)).tail) = ws := by rw [List.tail_nil, ← hws, putN_id]
      rw [e1]; exact h1, h2⟩
  | cons x L =>
    have hx := hw x (by rw [hws]; exact List.mem_cons_self ..)
    refine (give_next lo g bc bw bm N rb cs ws os id i x L hws (by
      simp only [Lit.wf, Bool.and_eq_true, decide_eq_true_eq]
      have h5 : (IntKind.i64.min : Int) = -9223372036854775808 := rfl
      have h6 : (IntKind.i64.max : Int) = 9223372036854775807 := rfl
      omega) (by unfold maxLen; omega) w h hn hl hi hno hown).mono ?_
    rintro e w' ⟨⟨A, c, rv, rfl, _, _⟩, h1, h2⟩
    exact ⟨_, _, N + 1, rfl, Nat.le_refl _, by rw [put_put] at h1; exact h1, h2⟩
/-- The blocks of locks. -/
def Blk (g bc bw bm n : Nat) (rb : Nat → Nat) (b : Nat) : Prop := b = g ∨ b = bc ∨ b = bw ∨ b = bm ∨ ∃ i, i < n ∧ b = rb i
theorem LV.keep {lo g bc bw bm N : Nat} {rb : Nat → Nat} {cs : List Int} {ws : Nat → List (Int × Int)} {os : Int → Option Int} {w w' : World} (h : LV lo w g bc bw bm N rb cs ws os) (hs : w.heap.size ≤ w'.heap.size) (hk : ∀ b, Blk g bc bw bm cs.length rb b → w'.heap[b]? = w.heap[b]?) : LV lo w' g bc bw bm N rb cs ws os := by
  obtain ⟨vc, cw, a, b, c⟩ := h.hd
  obtain ⟨vs, d, e, f⟩ := h.ls
  refine ⟨h.low, ⟨by have := h.lt.1; omega, by have := h.lt.2.1; omega, by have := h.lt.2.2.1; omega, fun i hi => by have := h.lt.2.2.2 i hi; omega⟩, h.ap, ⟨vc, cw, (hk g (.inl rfl)).trans a, b.keep (.inr (hk bc (.inr (.inl rfl)))), c.imp (fun h => h) fun c => ⟨by omega, c.2⟩⟩, ⟨vs, d, (hk bw (.inr (.inr (.inl rfl)))).trans e, fun i hi => ?_⟩, h.mp.keep (hk bm (.inr (.inr (.inr (.inl rfl)))))⟩
  obtain ⟨v, f1, f2, f3⟩ := f i hi
  exact ⟨v, f1, f2.keep (.inr (hk (rb i) (.inr (.inr (.inr (.inr ⟨i, hi, rfl⟩)))))), f3⟩
/-- What is done with locks that lie apart. -/
theorem LV.other {lo g bc bw bm N : Nat} {rb : Nat → Nat} {cs : List Int} {ws : Nat → List (Int × Int)} {os : Int → Option Int} {w w' : World} {bw2 bm2 n2 : Nat} {rb2 rb3 : Nat → Nat} (h : LV lo w g bc bw bm N rb cs ws os) (x : Lx bw2 bm2 n2 rb2 rb3 w w') (hlt : bc < w.heap.size)
    (ha : ∀ b, Blk g bc bw bm cs.length rb b → b ≠ bw2 ∧ b ≠ bm2 ∧ ∀ i, i < n2 → b ≠ rb2 i) : LV lo w' g bc bw bm N rb cs ws os :=
  h.keep x.size fun b hb => by
    have h1 := ha b hb
    refine x.block b ?_ h1.1 h1.2.1 h1.2.2
    rcases hb with hb | hb | hb | hb | ⟨i, hi, hb⟩
    · rw [hb]; exact h.lt.1
    · rw [hb]; exact hlt
    · rw [hb]; exact h.lt.2.1
    · rw [hb]; exact h.lt.2.2.1
    · rw [hb]; exact h.lt.2.2.2 i hi
end Go.Proofs.Ytbnnpfhgpbaedaa.K
