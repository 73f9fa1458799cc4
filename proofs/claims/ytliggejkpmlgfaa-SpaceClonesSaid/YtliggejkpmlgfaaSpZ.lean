/-
  Where a place of areas that may be lies, and what is there. Each statement bears its own conditions.
-/
import Derived.Test.YtliggejkpmlgfaaSpY
namespace Go.Proofs.Ytliggejkpmlgfaa
open Go.RowKit
set_option linter.unusedVariables false
set_option linter.unusedSimpArgs false
theorem own_cap {w : World} {B k n m c : Nat} {e : TypeId} {A : Option Addr} {xs : List Value} (h : w.ownsRow B e k (.slice A m c) n xs) : m ≤ c := by
  rcases h.2 with ⟨h5, _⟩ | ⟨g', cap', cur, hv, _, _, h6, _⟩
  · injection h5 with e1 e2 e3; omega
  · injection hv with e1 e2 e3; omega
theorem ovL_pair : ∀ {l pre : List MA}, ovL pre l = false → ∀ (j : Nat) y, l[j]? = some y → ∀ x ∈ pre ++ l.take j, ovB y x = false
  | [], pre, _, j, y, h => by simp at h
  | a :: r, pre, h, j, y, hy => by
    unfold ovL at h
    rw [Bool.or_eq_false_iff] at h
    cases j with
    | zero =>
      simp at hy; subst hy
      intro x hx
      simp at hx
      have := List.any_eq_false.1 h.1 x hx
      simpa using this
    | succ j =>
      intro x hx
      refine ovL_pair h.2 j y (by simpa using hy) x ?_
      simpa using hx
theorem atL_first {p : Int} : ∀ {l : List MA} {i0 i : Nat} {x : MA}, l[i]? = some x → x.frm ≤ p ∧ p < x.frm + x.wds → (∀ y ∈ l.take i, ¬ (y.frm ≤ p ∧ p < y.frm + y.wds)) → atL p l i0 = some (i0 + i, (p - x.frm).toNat)
  | [], _, i, _, h, _, _ => by simp at h
  | a :: r, i0, i, x, h, hp, hno => by
    unfold atL
    cases i with
    | zero =>
      simp at h; subst h
      rw [if_pos hp]; rfl
    | succ i =>
      rw [if_neg (hno a (by simp))]
      have := atL_first (i0 := i0 + 1) (i := i) (x := x) (by simpa using h) hp (fun y hy => hno y (by simp [hy]))
      rw [this]
      congr 2
      omega
/-- A place of an area is found there. -/
theorem at_own {l : List MA} (h : ovL [] l = false) {i k : Nat} {x : MA} (hx : l[i]? = some x) (hk : (k : Int) < x.wds) : atL (x.frm + k) l 0 = some (i, k) := by
  have := atL_first (p := x.frm + k) (i0 := 0) hx (by omega) (fun y hy hc => by
    have h1 := ovL_pair h i x hx y (by simpa using hy)
    unfold ovB at h1
    simp at h1
    omega)
  rw [this]
  have : (x.frm + (k : Int) - x.frm).toNat = k := by omega
  rw [this]; simp
/-- What was found of a place tells the place. -/
theorem at_place {l : List MA} {p : Int} {i k : Nat} (h : atL p l 0 = some (i, k)) : ∃ x, l[i]? = some x ∧ p = x.frm + k ∧ (k : Int) < x.wds := by
  obtain ⟨_, x, h1, h2, h3, h4⟩ := atL_some h
  exact ⟨x, by simpa using h1, by omega, by omega⟩
theorem putL_same {LL : List (List Int)} {i k : Nat} {L : List Int} {y : Int} (hL : LL[i]? = some L) (hk : k < L.length) : (putL LL i k y)[i]? = some (L.set k y) := by
  unfold putL
  rw [List.getElem?_set_self (List.getElem?_eq_some_iff.1 hL).1, hL]; rfl
theorem putL_other {LL : List (List Int)} {i j k : Nat} {y : Int} (hj : i ≠ j) : (putL LL i k y)[j]? = LL[j]? := by
  unfold putL
  rw [List.getElem?_set_ne hj]
theorem ldV_of {l : List MA} {LL : List (List Int)} {p : Int} {i k : Nat} {L : List Int} {u : Int} (h : atL p l 0 = some (i, k)) (hL : LL[i]? = some L) (hu : L[k]? = some u) : ldV p l LL = (u, 0) := by
  unfold ldV; rw [h]; dsimp only; rw [hL]; dsimp only [Option.getD]; rw [hu]
/-- A word that is put elsewhere. -/
theorem ldV_put {l : List MA} {LL : List (List Int)} (hs : Sh l LL) {p q : Int} {i k : Nat} {y : Int} (hq : atL q l 0 = some (i, k)) : ldV p l (putL LL i k y) = if p = q then (y, 0) else ldV p l LL := by
  obtain ⟨x, L, u, h1, h2, h3, h4, h5, h6⟩ := hs.at_ hq
  have hk : k < L.length := (List.getElem?_eq_some_iff.1 h3).1
  by_cases hp : p = q
  · subst hp
    rw [if_pos rfl]
    exact ldV_of hq (putL_same h2 hk) (by rw [List.getElem?_set_self hk])
  · rw [if_neg hp]
    rcases hz : atL p l 0 with _ | ⟨i', k'⟩
    · unfold ldV; rw [hz]
    · obtain ⟨x', L', u', g1, g2, g3, g4, g5, g6⟩ := hs.at_ hz
      rw [ldV_of hz g2 g3]
      by_cases hi : i = i'
      · subst hi
        rw [h1] at g1
        injection g1 with g1
        subst g1
        rw [h2] at g2
        injection g2 with g2
        subst g2
        have hkk : k ≠ k' := by omega
        exact ldV_of hz (putL_same h2 hk) (by rw [List.getElem?_set_ne hkk]; exact g3)
      · exact ldV_of hz (by rw [putL_other hi]; exact g2) g3
end Go.Proofs.Ytliggejkpmlgfaa
