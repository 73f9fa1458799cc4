/-
  What a law writes into lists of its own. Each statement bears its own conditions.
-/
import Derived.Test.YtejambofnffopaaQuG
namespace Go.Proofs.Ytejambofnffopaa.Q
open Go.RowKit Go.Proofs.Ytejambofnffopaa.F Go.Proofs.Ytejambofnffopaa.U
set_option linter.unusedVariables false
set_option linter.unusedSimpArgs false
/-- A list of words stays one, whatever word is written. -/
theorem wpoke {w : World} {p : Nat → Prop} {v : Value} {n : Nat} {X : List Int} (hX : X.length = n) (h : Ow 52 w p v n (CU X)) (b j : Nat) (z : Int) : ∃ X' : List Int, X'.length = n ∧ Ow 52 (w.setCell ⟨b, j, none⟩ (.int .u32 z)) p v n (CU X') := by
  rcases h.form with ⟨rfl, rfl, _⟩ | ⟨k, cap, cur, rfl, hp, hk, hg, h1, h2, h3, h4⟩
  · exact ⟨[], rfl, Ow.nil _ _ _⟩
  · by_cases hb : k = b
    · subst hb
      refine ⟨X.set j z, by simpa using hX, ⟨by rw [CU_len]; simp [hX], .inr ⟨k, cap, _, rfl, Nat.zero_le _, set_at hg j _, h1, h2, by simpa using h3, ?_⟩⟩, fun b hb => ?_⟩
      · rw [Nat.mul_one, Array.toList_setIfInBounds, List.take_set, h4, CU_set]
      · injection hb with hb
        have hb : k = b := hb
        subst hb
        exact ⟨hp, by simpa using hk⟩
    · refine ⟨X, hX, ⟨h.own.1, .inr ⟨k, cap, cur, rfl, Nat.zero_le _, (set_far _ _ hb).trans hg, h1, h2, by simpa using h3, by simpa using h4⟩⟩, fun b hb => ?_⟩
      have := h.at_ b hb
      exact ⟨this.1, by simpa using this.2⟩
theorem own_word {w : World} {p : Nat → Prop} {A : Option Addr} {n c : Nat} {X : List Int} (h : Ow 52 w p (.slice A n c) n (CU X)) {j : Nat} (hj : j < n) : ∃ b x, A = some ⟨b, 0, none⟩ ∧ p b ∧ b < w.heap.size ∧ w.cell? ⟨b, j, none⟩ = some (.int .u32 x) ∧ w.frozen? ⟨b, j, none⟩ = false ∧ ∃ cur fr, w.heap[b]? = some (.cells cur 52 fr) := by
  rcases h.form with ⟨h0, h1, _⟩ | ⟨b, cap, cur, hv, hp, hb, hg, h1, h2, h3, h4⟩
  · omega
  · injection hv with hv
    refine ⟨b, X.getD j 0, hv, hp, hb, ?_, (row_cell hg j).2, cur, (0, 0), hg⟩
    rw [(row_cell hg j).1]
    have hx : X.length = n := by have := h.len; simpa [CU] using this
    have := CU_at (l := X) (i := j) (x := X.getD j 0) (by rw [List.getD_eq_getElem?_getD, List.getElem?_eq_getElem (by omega)]; rfl)
    rw [← h4, List.getElem?_take_of_lt hj, Array.getElem?_toList] at this
    exact this
theorem _root_.Go.Proofs.Ytejambofnffopaa.F.Ow.keepq {lo : Nat} {w w' : World} {p q r P : Nat → Prop} {g : Nat} {n k : Int} {LL : List (List Int)} {lost : Bool} {v : Value} {m : Nat} {xs : List Value} (h : Ow 52 w P v m xs) (Q : QV lo w p r g n k LL lost) (x : Nx p q w w') : Ow 52 w' P v m xs :=
  ((h.off Q.ty).fo x.fo fun b hb => hb.2).imp fun b _ hb => hb.1
theorem Ms.keepq {lo : Nat} {w w' : World} {p q r R : Nat → Prop} {g : Nat} {n k : Int} {LL : List (List Int)} {lost : Bool} {S : List Sl} {LL' : List (List Int)} (h : Ms w R S LL') (Q : QV lo w p r g n k LL lost) (x : Nx p q w w') : Ms w' R S LL' := h.fot x.fo Q.ty
/-- Messages stay messages, whatever word is written. -/
theorem Ms.poke {w : World} {r : Nat → Prop} {len b j : Nat} {z : Int} : ∀ {S : List Sl} {LL : List (List Int)}, Ms w r S LL → (∀ L ∈ LL, L.length = len) → ∃ LL', Ms (w.setCell ⟨b, j, none⟩ (.int .u32 z)) r S LL' ∧ LL'.length = LL.length ∧ ∀ L ∈ LL', L.length = len := by
  intro S
  induction S with
  | nil => intro LL h _; exact ⟨[], Ms.nil _ _, h.len, fun L hL => by cases hL⟩
  | cons s S ih =>
    intro LL h hl
    match LL, h.len with
    | L :: LL, hlen =>
      obtain ⟨LL', m', l', a'⟩ := ih (LL := LL) (by
        have := h.drop 1
        simpa using this) (fun L hL => hl L (List.mem_cons_of_mem _ hL))
      have h0 := h.at_ 0 s L rfl rfl
      have hLl : L.length = len := hl L (List.mem_cons_self ..)
      rw [hLl] at h0
      obtain ⟨X', hx, o'⟩ := wpoke (X := L) hLl h0 b j z
      refine ⟨X' :: LL', ?_, by simp [l'], fun L' hL' => ?_⟩
      · have hone := Ms.one (s := s) (L := X') (by rw [hx]; exact o')
        exact hone.app m'
      · rcases List.mem_cons.1 hL' with h1 | h1
        · rw [h1]; exact hx
        · exact a' L' h1
theorem rowU_new (w : World) : (w.alloc (.cells #[] 52)).ownsRow w.heap.size 52 1 (.slice (some ⟨w.heap.size, 0, none⟩) 0 0) 0 [] :=
  ⟨rfl, .inr ⟨w.heap.size, 0, #[], rfl, Nat.le_refl _, heap_alloc_new w _, Nat.le_refl _, by unfold maxLen; omega, rfl, rfl⟩⟩
theorem sl_ne : (33 : TypeId) ≠ 52 := by decide
/-- Messages that are one and the same. -/
theorem mr_rep {w : World} {P : Nat → Prop} {A : Option Addr} {m c : Nat} {K : List Int} (h : Sq w P (.slice A m c) K.length (CU K)) (n : Nat) : Mr w P (List.replicate n (A, m, c)) (List.replicate n K) := by
  refine ⟨by simp, fun i s L h1 h2 => ?_⟩
  have e1 := List.eq_of_mem_replicate (List.mem_of_getElem? h1)
  have e2 := List.eq_of_mem_replicate (List.mem_of_getElem? h2)
  subst e1 e2
  exact h
end Go.Proofs.Ytejambofnffopaa.Q
