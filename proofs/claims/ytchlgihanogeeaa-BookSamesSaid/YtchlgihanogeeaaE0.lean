/-
  Which elements and lists are the same: lists. Each statement bears its own conditions.
-/
import Derived.Test.YtchlgihanogeeaaAllB
import Derived.Deep.QuietTactic
import Derived.BigQuiet
namespace Go.Proofs.Ytchlgihanogeeaa
open Go.RowKit
set_option linter.unusedVariables false
set_option linter.unusedSimpArgs false
/-- Two lists that are held against each other, element by element. -/
structure ERel {α : Type} (eq : α → α → Bool) (n : Nat) (xs ys : List α) (W0 : World) (v : Value) (wr : World) : Prop where
  ex : ∃ k : Nat, k ≤ n ∧ v = .int .i64 (k : Int) ∧ (∀ (j : Nat) x y, xs[j]? = some x → ys[j]? = some y → j < k → eq x y = true) ∧ Below W0.heap.size W0 wr
/-- The lists are of one length, and all elements are alike. -/
def eqB {α : Type} (eq : α → α → Bool) (xs ys : List α) : Bool := decide (xs.length = ys.length) && (xs.zip ys).all fun p => eq p.1 p.2
theorem eqB_len {α : Type} {eq : α → α → Bool} {xs ys : List α} {n m : Nat} (hn : xs.length = n) (hm : ys.length = m) (h : ¬ n = m) : eqB eq xs ys = false := by unfold eqB; rw [hn, hm, decide_eq_false h]; rfl
theorem eqB_el {α : Type} {eq : α → α → Bool} {xs ys : List α} {k : Nat} {x y : α} (hx : xs[k]? = some x) (hy : ys[k]? = some y) (h : eq x y = false) : eqB eq xs ys = false := by
  unfold eqB
  rw [all_false (i := k) (x := (x, y)) (by rw [List.getElem?_zip_eq_some]; exact ⟨hx, hy⟩) h]; simp
theorem eqB_ok {α : Type} {eq : α → α → Bool} {xs ys : List α} {n k : Nat} (hn : xs.length = n) (hm : ys.length = n) (hk : k ≤ n) (hlt : ¬ k < n) (ha : ∀ (j : Nat) x y, xs[j]? = some x → ys[j]? = some y → j < k → eq x y = true) : eqB eq xs ys = true := by
  unfold eqB
  rw [hn, hm, all_true fun j p hp => ?_]
  · simp
  · rw [List.getElem?_zip_eq_some] at hp
    exact ha j _ _ hp.1 hp.2 (by have := (List.getElem?_eq_some_iff.1 hp.1).1; omega)
theorem ERel.start {α : Type} {eq : α → α → Bool} {n : Nat} {xs ys : List α} {W0 wr : World} (h : Below W0.heap.size W0 wr) : ERel eq n xs ys W0 (.int .i64 0) wr := ⟨⟨0, Nat.zero_le _, rfl, fun j x y _ _ h => by omega, h⟩⟩
theorem ERel.next {α : Type} {eq : α → α → Bool} {n k : Nat} {xs ys : List α} {x y : α} {W0 wr : World} (hk : k < n) (hx : xs[k]? = some x) (hy : ys[k]? = some y) (hf : eq x y = true) (ha : ∀ (j : Nat) x y, xs[j]? = some x → ys[j]? = some y → j < k → eq x y = true) (hb : Below W0.heap.size W0 wr) : ERel eq n xs ys W0 (.int .i64 ((k : Int) + 1)) wr :=
  ⟨⟨k + 1, hk, by go_num, fun j x' y' hx' hy' hj => by
    by_cases e : j = k
    · subst e
      have e1 := hx.symm.trans hx'
      have e2 := hy.symm.trans hy'
      injection e1 with e1
      injection e2 with e2
      rw [← e1, ← e2]; exact hf
    · exact ha j x' y' hx' hy' (by omega), hb⟩⟩
theorem below_drewN {B : Nat} {a w : World} (h : Below B a w) (n : Nat) : Below B a (w.drewN n) := ⟨h.os, h.tape, h.output, h.size, h.block⟩
theorem ba_inj (a b : ByteArray) : (a.toList = b.toList) = (a = b) := by
  refine propext ⟨fun h => ?_, fun h => by rw [h]⟩
  rw [ByteArray.toList_eq, ByteArray.toList_eq] at h
  obtain ⟨⟨x⟩⟩ := a
  obtain ⟨⟨y⟩⟩ := b
  simpa using h
end Go.Proofs.Ytchlgihanogeeaa
