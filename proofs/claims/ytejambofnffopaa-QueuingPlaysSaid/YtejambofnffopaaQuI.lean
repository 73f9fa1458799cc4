/-
  Push as one contract; parts of lists. Each statement bears its own conditions.
-/
import Derived.Test.YtejambofnffopaaQuH
namespace Go.Proofs.Ytejambofnffopaa.Q
open Go.RowKit Go.Proofs.Ytejambofnffopaa.F Go.Proofs.Ytejambofnffopaa.U
set_option linter.unusedVariables false
set_option linter.unusedSimpArgs false
/-- The messages behind a Push. -/
def pL (n fr : Int) (LL : List (List Int)) (K : List Int) : List (List Int) := if chkV n fr 17 [K] = 0 then LL ++ [K] else LL
/-- Was one lost? -/
def pF (n fr : Int) (lost : Bool) (K : List Int) : Bool := if chkV n fr 17 [K] = 17 then true else lost
theorem chk_cases (n fr full : Int) (K : List Int) : chkV n fr full [K] = 2 ∨ chkV n fr full [K] = full ∨ chkV n fr full [K] = 0 := by
  rw [chk_one]
  by_cases h1 : n < (K.length : Int)
  · rw [if_pos h1]; exact .inl rfl
  · rw [if_neg h1]
    by_cases h2 : fr < 1
    · rw [if_pos h2]; exact .inr (.inl rfl)
    · rw [if_neg h2]; exact .inr (.inr rfl)
theorem push_any (lo : Nat) (p r : Nat → Prop) (g : Nat) (n k : Int) (LL : List (List Int)) (lost : Bool) (P : Nat → Prop) (A : Option Addr) (nk c : Nat) (K : List Int) (w : World) (h : QV lo w p r g n k LL lost) (hv : Sq w P (.slice A nk c) nk (CU K)) (hr : ∀ b, w.heap.size ≤ b → r b) :
    Calls Try.prog 15 #[.pointer (some ⟨g, 0, none⟩), .slice A nk c] w fun e w' => ∃ q, e = .returned (.int .i64 (chkV n (k - (LL.length : Int)) 17 [K])) ∧ QV lo w' q r g n k (pL n (k - (LL.length : Int)) LL K) (pF n (k - (LL.length : Int)) lost K) ∧ Nx p q w w' := by
  rcases chk_cases n (k - (LL.length : Int)) 17 K with h2 | h2 | h2
  · refine (push_no lo p r g n k LL lost P A nk c K 2 w h hv h2 (by decide) (by decide)).mono ?_
    rintro e w' ⟨rfl, b⟩
    exact ⟨p, by rw [h2], by unfold pL pF; rw [h2]; exact h.below b, Nx.of_below b⟩
  · refine (push_full lo p r g n k LL lost P A nk c K w h hv h2).mono ?_
    rintro e w' ⟨q, rfl, h3, h4⟩
    exact ⟨q, by rw [h2], by unfold pL pF; rw [h2]; exact h3, h4⟩
  · refine (push_ok lo p r g n k LL lost P A nk c K w h hv h2 hr).mono ?_
    rintro e w' ⟨q, rfl, h3, h4⟩
    exact ⟨q, by rw [h2], by unfold pL pF; rw [h2]; exact h3, h4⟩
theorem Sq_drop {w : World} {p : Nat → Prop} {A : Option Addr} {n c j : Nat} {xs : List Value} (h : Sq w p (.slice A n c) n xs) (hj : j ≤ n) (hc : n ≤ c) : Sq w p (.slice (if c = j then A else A.map (fun x => x.add j)) (n - j) (c - j)) (n - j) (xs.drop j) := by
  have hl := h.len
  refine ⟨_, _, rfl, by rw [List.length_drop]; omega, fun h0 => ?_⟩
  obtain ⟨_, b, off, rfl, hb, hp, hcl⟩ := h.at_ (show 0 < n by omega)
  rw [if_neg (by omega)]
  refine ⟨b, off + j, by simp [Addr.add_lit], hb, hp, fun i u hu => ?_⟩
  rw [List.getElem?_drop] at hu
  rw [Nat.add_assoc]
  exact hcl _ u hu
theorem ow_cap {e : TypeId} {w : World} {p : Nat → Prop} {A : Option Addr} {n c : Nat} {xs : List Value} (h : Ow e w p (.slice A n c) n xs) : n ≤ c := by
  rcases h.form with ⟨h0, h1, _⟩ | ⟨b, cap, cur, hv, _, _, _, h1, _⟩
  · omega
  · injection hv with _ _ h3; omega
theorem big_none {n : Int} {LL : List (List Int)} (h : ∀ L ∈ LL, (L.length : Int) ≤ n) : big n LL = false := by
  unfold big
  rw [List.any_eq_false]
  intro L hL
  have := h L hL
  simp; omega
theorem chk_fits {n fr full : Int} {LL : List (List Int)} (h : ∀ L ∈ LL, (L.length : Int) ≤ n) (hf : (LL.length : Int) ≤ fr) : chkV n fr full LL = 0 := by
  unfold chkV
  rw [big_none h, if_neg (by simp), if_neg (by omega)]
end Go.Proofs.Ytejambofnffopaa.Q
