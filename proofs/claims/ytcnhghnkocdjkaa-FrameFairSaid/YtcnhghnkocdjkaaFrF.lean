/-
  How many ticks, beginnings and ends of windows there are up to a tick. Each statement bears its own conditions.
-/
import Derived.Test.YtcnhghnkocdjkaaFrQ
namespace Go.Proofs.Ytcnhghnkocdjkaa
open Go.RowKit
set_option linter.unusedVariables false
set_option linter.unusedSimpArgs false
def clampW (x : MW) (k : Int) : Int := if k ≤ x.frm then 0 else if k ≤ x.frm + x.len then k - x.frm else x.len
def hadL (p : MW → Bool) (k : Int) : List MW → Int
  | [] => 0
  | x :: r => (if p x = true then clampW x k else 0) + hadL p k r
def bgL (p : MW → Bool) (k : Int) : List MW → Int
  | [] => 0
  | x :: r => (if p x = true ∧ x.frm < k then 1 else 0) + bgL p k r
def enL (p : MW → Bool) (k : Int) : List MW → Int
  | [] => 0
  | x :: r => (if p x = true ∧ x.frm + x.len ≤ k then 1 else 0) + enL p k r
theorem zeroL {fr : Int} (p : MW → Bool) : ∀ {ws : List MW} {a k : Int}, Ord fr a ws → k ≤ a → hadL p k ws = 0 ∧ bgL p k ws = 0 ∧ enL p k ws = 0
  | [], _, _, _, _ => ⟨rfl, rfl, rfl⟩
  | y :: r, a, k, .cons h0 h1 h2 h3 h, hk => by
    obtain ⟨i1, i2, i3⟩ := zeroL p h (k := k) (by omega)
    unfold hadL bgL enL
    rw [i1, i2, i3]
    have hc : clampW y k = 0 := by unfold clampW; rw [if_pos (by omega)]
    rw [hc, if_neg (by omega : ¬ (p y = true ∧ y.frm < k)), if_neg (by omega : ¬ (p y = true ∧ y.frm + y.len ≤ k))]
    refine ⟨by split <;> rfl, rfl, rfl⟩
theorem fullL {fr : Int} (p : MW → Bool) : ∀ {ws : List MW} {a : Int}, Ord fr a ws → hadL p fr ws = sumL (ws.filter p) ∧ bgL p fr ws = ((ws.filter p).length : Int) ∧ enL p fr ws = ((ws.filter p).length : Int)
  | [], _, _ => ⟨rfl, rfl, rfl⟩
  | y :: r, a, .cons h0 h1 h2 h3 h => by
    obtain ⟨i1, i2, i3⟩ := fullL p h
    unfold hadL bgL enL
    rw [i1, i2, i3]
    have hc : clampW y fr = y.len := by
      unfold clampW
      rw [if_neg (by omega)]
      by_cases he : fr ≤ y.frm + y.len
      · rw [if_pos he]; omega
      · rw [if_neg he]
    rw [hc]
    by_cases hp : p y = true
    · rw [List.filter_cons_of_pos hp, if_pos hp, if_pos ⟨hp, by omega⟩, if_pos ⟨hp, h3⟩, sumL_cons]
      refine ⟨rfl, ?_, ?_⟩ <;> (rw [List.length_cons]; omega)
    · rw [List.filter_cons_of_neg hp, if_neg hp, if_neg (fun h => hp h.1), if_neg (fun h => hp h.1)]
      refine ⟨by omega, by omega, by omega⟩
theorem stepL {fr : Int} (p : MW → Bool) (k : Int) : ∀ {ws : List MW} {a : Int}, Ord fr a ws →
    hadL p (k + 1) ws = hadL p k ws + (if 0 ≤ (arndL fr k ws).who ∧ p (arndL fr k ws) = true then 1 else 0) ∧
    bgL p (k + 1) ws = bgL p k ws + (if 0 ≤ (arndL fr k ws).who ∧ p (arndL fr k ws) = true ∧ k = (arndL fr k ws).frm then 1 else 0) ∧
    enL p (k + 1) ws = enL p k ws + (if 0 ≤ (arndL fr k ws).who ∧ p (arndL fr k ws) = true ∧ (arndL fr k ws).frm + (arndL fr k ws).len - k = 1 then 1 else 0)
  | [], _, _ => by
    unfold hadL bgL enL arndL
    simp
  | y :: r, a, .cons h0 h1 h2 h3 h => by
    unfold hadL bgL enL arndL
    by_cases hk : k < y.frm
    · rw [if_pos hk]
      obtain ⟨i1, i2, i3⟩ := zeroL p h (k := k) (by omega)
      obtain ⟨j1, j2, j3⟩ := zeroL p h (k := k + 1) (by omega)
      rw [i1, i2, i3, j1, j2, j3]
      have c1 : clampW y k = 0 := by unfold clampW; rw [if_pos (by omega)]
      have c2 : clampW y (k + 1) = 0 := by unfold clampW; rw [if_pos (by omega)]
      rw [c1, c2, if_neg (by omega : ¬ (p y = true ∧ y.frm < k)), if_neg (by omega : ¬ (p y = true ∧ y.frm < k + 1)), if_neg (by omega : ¬ (p y = true ∧ y.frm + y.len ≤ k)), if_neg (by omega : ¬ (p y = true ∧ y.frm + y.len ≤ k + 1))]
      simp
    · rw [if_neg hk]
      by_cases hk2 : k < y.frm + y.len
      · rw [if_pos hk2]
        obtain ⟨i1, i2, i3⟩ := zeroL p h (k := k) (by omega)
        obtain ⟨j1, j2, j3⟩ := zeroL p h (k := k + 1) (by omega)
        rw [i1, i2, i3, j1, j2, j3]
        have c1 : clampW y k = k - y.frm := by
          unfold clampW
          by_cases he : k ≤ y.frm
          · rw [if_pos he]; omega
          · rw [if_neg he, if_pos (by omega)]
        have c2 : clampW y (k + 1) = k + 1 - y.frm := by unfold clampW; rw [if_neg (by omega), if_pos (by omega)]
        rw [c1, c2, if_neg (by omega : ¬ (p y = true ∧ y.frm + y.len ≤ k))]
        by_cases hp : p y = true
        · rw [if_pos hp, if_pos hp, if_pos (⟨h0, hp⟩ : 0 ≤ y.who ∧ p y = true), if_pos (⟨hp, by omega⟩ : p y = true ∧ y.frm < k + 1)]
          refine ⟨by omega, ?_, ?_⟩
          · by_cases he : k = y.frm
            · rw [if_neg (by omega : ¬ (p y = true ∧ y.frm < k)), if_pos ⟨h0, hp, he⟩]; rfl
            · rw [if_pos (⟨hp, by omega⟩ : p y = true ∧ y.frm < k), if_neg (fun h => he h.2.2)]; rfl
          · by_cases he : y.frm + y.len - k = 1
            · rw [if_pos (⟨hp, by omega⟩ : p y = true ∧ y.frm + y.len ≤ k + 1), if_pos ⟨h0, hp, he⟩]; rfl
            · rw [if_neg (by omega : ¬ (p y = true ∧ y.frm + y.len ≤ k + 1)), if_neg (fun h => he h.2.2)]; rfl
        · rw [if_neg hp, if_neg hp, if_neg (fun h => hp h.2 : ¬ (0 ≤ y.who ∧ p y = true)), if_neg (fun h => hp h.1 : ¬ (p y = true ∧ y.frm < k + 1)), if_neg (fun h => hp h.1 : ¬ (p y = true ∧ y.frm < k)), if_neg (fun h => hp h.2.1), if_neg (fun h => hp h.1), if_neg (fun h => hp h.2.1)]
          simp
      · rw [if_neg hk2]
        obtain ⟨i1, i2, i3⟩ := stepL p k h
        rw [i1, i2, i3]
        have c1 : clampW y k = y.len := by
          unfold clampW
          rw [if_neg (by omega)]
          by_cases he : k ≤ y.frm + y.len
          · rw [if_pos he]; omega
          · rw [if_neg he]
        have c2 : clampW y (k + 1) = y.len := by unfold clampW; rw [if_neg (by omega), if_neg (by omega)]
        rw [c1, c2]
        have e1 : (p y = true ∧ y.frm < k + 1) = (p y = true ∧ y.frm < k) := by rw [show (y.frm < k + 1) = (y.frm < k) by simp; omega]
        have e2 : (p y = true ∧ y.frm + y.len ≤ k + 1) = (p y = true ∧ y.frm + y.len ≤ k) := by rw [show (y.frm + y.len ≤ k + 1) = (y.frm + y.len ≤ k) by simp; omega]
        simp only [e1, e2]
        refine ⟨by omega, by omega, by omega⟩
end Go.Proofs.Ytcnhghnkocdjkaa
