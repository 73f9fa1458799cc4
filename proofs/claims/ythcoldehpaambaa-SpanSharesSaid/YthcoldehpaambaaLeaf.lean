/-
  The contracts of the small functions of package span and of its reference that the statements of layer 1 call: what each answers, and that nothing that was there is written. No conditions beyond those in each statement.
-/
import Derived.Test.YthcoldehpaambaaRows
import Derived.WalkKit
import Derived.WalkSpells
import Derived.WalkLawsBesides
import Derived.StillTactics
import Derived.Laws.Pointers
import Derived.Deep.RegionHeld3
import Derived.Deep.QuietTactic
import Derived.BigQuiet
import Derived.RowKit3
import Derived.Below
namespace Go.Proofs.Ythcoldehpaambaa
open Go.RowKit

/-- A struct of two ints. -/
abbrev sp (a b : Int) : Value := .agg #[.int .i64 a, .int .i64 b]
/-- A struct of three ints. -/
abbrev bt (a b c : Int) : Value := .agg #[.int .i64 a, .int .i64 b, .int .i64 c]

theorem len_any (a b : Int) (w : World) (ha : -1152921504606846976 ≤ a) (ha' : a ≤ 1152921504606846976) (hb : -1152921504606846976 ≤ b) (hb' : b ≤ 1152921504606846976) :
    Calls Try.prog 12 #[.agg #[.int .i64 a, .int .i64 b]] w fun e w' => e = .returned (.int .i64 (max (b - a) 0)) ∧ Below w.heap.size w w' := by
  by_cases h : b ≤ a
  · have e1 : max (b - a) 0 = 0 := by omega
    rw [e1]
    go_enter Try.func12, Try.ntmps12
    go_wp2
    go_ret
    exact ⟨rfl, (Below.refl _ _).alloc (Nat.le_refl _) _⟩
  · have e1 : max (b - a) 0 = b - a := by omega
    rw [e1]
    go_enter Try.func12, Try.ntmps12
    go_wp2
    go_ret
    exact ⟨rfl, (Below.refl _ _).alloc (Nat.le_refl _) _⟩


theorem bool_ret {a b : Bool} (h : a = b) : Ending.returned (.bool a) = .returned (.bool b) := by rw [h]

theorem has_any (a b t : Int) (w : World) :
    Calls Try.prog 15 #[.agg #[.int .i64 a, .int .i64 b], .int .i64 t] w fun e w' => e = .returned (.bool (decide (a ≤ t) && decide (t < b))) ∧ Below w.heap.size w w' := by
  go_enter Try.func15, Try.ntmps15
  go_wp2
  all_goals
    go_ret
    exact ⟨bool_ret (by rw [Bool.eq_iff_iff]; simp; omega), (Below.refl _ _).alloc (Nat.le_refl _) _⟩

theorem rhas_any (a b t : Int) (w : World) :
    Calls Try.prog 16 #[.agg #[.int .i64 a, .int .i64 b], .int .i64 t] w fun e w' => e = .returned (.bool (decide (a ≤ t) && decide (t < b))) ∧ Below w.heap.size w w' := by
  go_enter Try.func16, Try.ntmps16
  go_wp2
  all_goals
    go_ret
    exact ⟨bool_ret (by rw [Bool.eq_iff_iff]; simp; omega), (Below.refl _ _).alloc (Nat.le_refl _) _⟩

/-- What two spans have in common. -/
def andFrom (a b c d : Int) : Int := if max a c < min b d then max a c else 0
def andTo (a b c d : Int) : Int := if max a c < min b d then min b d else 0

set_option maxHeartbeats 1600000 in
theorem and_core (a b c d f t : Int) (w : World) (ha : -1152921504606846976 ≤ a) (ha' : a ≤ 1152921504606846976) (hb : -1152921504606846976 ≤ b) (hb' : b ≤ 1152921504606846976)
    (hc : -1152921504606846976 ≤ c) (hc' : c ≤ 1152921504606846976) (hd : -1152921504606846976 ≤ d) (hd' : d ≤ 1152921504606846976)
    (F1 : max a c < min b d → f = max a c ∧ t = min b d) (F2 : min b d ≤ max a c → f = 0 ∧ t = 0) :
    Calls Try.prog 13 #[.agg #[.int .i64 a, .int .i64 b], .agg #[.int .i64 c, .int .i64 d]] w fun e w' => e = .returned (.agg #[.int .i64 f, .int .i64 t]) ∧ Below w.heap.size w w' := by
  by_cases h1 : a < c <;> by_cases h2 : d < b
  · by_cases h3 : c < d
    · obtain ⟨rfl, rfl⟩ : f = c ∧ t = d := by omega
      clear F1 F2
      go_enter Try.func13, Try.ntmps13
      go_wp2
      exact bodyPost_ret (v := .agg #[.int .i64 f, .int .i64 t]) (by simp [results, Try.results13, go_sem]) rfl ⟨rfl, ((((((Below.refl _ _).alloc (Nat.le_refl _) _).alloc (by simp) _).alloc (by simp; omega) _).alloc (by simp; omega) _).alloc (by simp; omega) _)⟩
    · obtain ⟨rfl, rfl⟩ : f = 0 ∧ t = 0 := by omega
      clear F1 F2
      go_enter Try.func13, Try.ntmps13
      go_wp2
      exact bodyPost_ret (v := .agg #[.int .i64 0, .int .i64 0]) (by simp [results, Try.results13, go_sem]) rfl ⟨rfl, ((((((Below.refl _ _).alloc (Nat.le_refl _) _).alloc (by simp) _).alloc (by simp; omega) _).alloc (by simp; omega) _).alloc (by simp; omega) _)⟩
  · by_cases h3 : c < b
    · obtain ⟨rfl, rfl⟩ : f = c ∧ t = b := by omega
      clear F1 F2
      go_enter Try.func13, Try.ntmps13
      go_wp2
      exact bodyPost_ret (v := .agg #[.int .i64 f, .int .i64 t]) (by simp [results, Try.results13, go_sem]) rfl ⟨rfl, ((((((Below.refl _ _).alloc (Nat.le_refl _) _).alloc (by simp) _).alloc (by simp; omega) _).alloc (by simp; omega) _).alloc (by simp; omega) _)⟩
    · obtain ⟨rfl, rfl⟩ : f = 0 ∧ t = 0 := by omega
      clear F1 F2
      go_enter Try.func13, Try.ntmps13
      go_wp2
      exact bodyPost_ret (v := .agg #[.int .i64 0, .int .i64 0]) (by simp [results, Try.results13, go_sem]) rfl ⟨rfl, ((((((Below.refl _ _).alloc (Nat.le_refl _) _).alloc (by simp) _).alloc (by simp; omega) _).alloc (by simp; omega) _).alloc (by simp; omega) _)⟩
  · by_cases h3 : a < d
    · obtain ⟨rfl, rfl⟩ : f = a ∧ t = d := by omega
      clear F1 F2
      go_enter Try.func13, Try.ntmps13
      go_wp2
      exact bodyPost_ret (v := .agg #[.int .i64 f, .int .i64 t]) (by simp [results, Try.results13, go_sem]) rfl ⟨rfl, ((((((Below.refl _ _).alloc (Nat.le_refl _) _).alloc (by simp) _).alloc (by simp; omega) _).alloc (by simp; omega) _).alloc (by simp; omega) _)⟩
    · obtain ⟨rfl, rfl⟩ : f = 0 ∧ t = 0 := by omega
      clear F1 F2
      go_enter Try.func13, Try.ntmps13
      go_wp2
      exact bodyPost_ret (v := .agg #[.int .i64 0, .int .i64 0]) (by simp [results, Try.results13, go_sem]) rfl ⟨rfl, ((((((Below.refl _ _).alloc (Nat.le_refl _) _).alloc (by simp) _).alloc (by simp; omega) _).alloc (by simp; omega) _).alloc (by simp; omega) _)⟩
  · by_cases h3 : a < b
    · obtain ⟨rfl, rfl⟩ : f = a ∧ t = b := by omega
      clear F1 F2
      go_enter Try.func13, Try.ntmps13
      go_wp2
      exact bodyPost_ret (v := .agg #[.int .i64 f, .int .i64 t]) (by simp [results, Try.results13, go_sem]) rfl ⟨rfl, ((((((Below.refl _ _).alloc (Nat.le_refl _) _).alloc (by simp) _).alloc (by simp; omega) _).alloc (by simp; omega) _).alloc (by simp; omega) _)⟩
    · obtain ⟨rfl, rfl⟩ : f = 0 ∧ t = 0 := by omega
      clear F1 F2
      go_enter Try.func13, Try.ntmps13
      go_wp2
      exact bodyPost_ret (v := .agg #[.int .i64 0, .int .i64 0]) (by simp [results, Try.results13, go_sem]) rfl ⟨rfl, ((((((Below.refl _ _).alloc (Nat.le_refl _) _).alloc (by simp) _).alloc (by simp; omega) _).alloc (by simp; omega) _).alloc (by simp; omega) _)⟩

theorem and_any (a b c d : Int) (w : World) (ha : -1152921504606846976 ≤ a) (ha' : a ≤ 1152921504606846976) (hb : -1152921504606846976 ≤ b) (hb' : b ≤ 1152921504606846976)
    (hc : -1152921504606846976 ≤ c) (hc' : c ≤ 1152921504606846976) (hd : -1152921504606846976 ≤ d) (hd' : d ≤ 1152921504606846976) :
    Calls Try.prog 13 #[.agg #[.int .i64 a, .int .i64 b], .agg #[.int .i64 c, .int .i64 d]] w fun e w' => e = .returned (.agg #[.int .i64 (andFrom a b c d), .int .i64 (andTo a b c d)]) ∧ Below w.heap.size w w' :=
  and_core a b c d _ _ w ha ha' hb hb' hc hc' hd hd' (fun h => by simp [andFrom, andTo, if_pos h]) (fun h => by simp [andFrom, andTo, if_neg (Int.not_lt.mpr h)])
set_option maxHeartbeats 1600000 in
theorem rand_core (a b c d f t : Int) (w : World) 
    (F1 : max a c < min b d → f = max a c ∧ t = min b d) (F2 : min b d ≤ max a c → f = 0 ∧ t = 0) :
    Calls Try.prog 14 #[.agg #[.int .i64 a, .int .i64 b], .agg #[.int .i64 c, .int .i64 d]] w fun e w' => e = .returned (.agg #[.int .i64 f, .int .i64 t]) ∧ Below w.heap.size w w' := by
  by_cases h1 : a < c <;> by_cases h2 : d < b
  · by_cases h3 : c < d
    · obtain ⟨rfl, rfl⟩ : f = c ∧ t = d := by omega
      clear F1 F2
      go_enter Try.func14, Try.ntmps14
      go_wp2
      exact bodyPost_ret (v := .agg #[.int .i64 f, .int .i64 t]) (by simp [results, Try.results14, go_sem]) rfl ⟨rfl, ((((Below.refl _ _).alloc (Nat.le_refl _) _).alloc (by simp) _).alloc (by simp; omega) _).alloc (by simp; omega) _⟩
    · obtain ⟨rfl, rfl⟩ : f = 0 ∧ t = 0 := by omega
      clear F1 F2
      go_enter Try.func14, Try.ntmps14
      go_wp2
      exact bodyPost_ret (v := .agg #[.int .i64 0, .int .i64 0]) (by simp [results, Try.results14, go_sem]) rfl ⟨rfl, ((((Below.refl _ _).alloc (Nat.le_refl _) _).alloc (by simp) _).alloc (by simp; omega) _).alloc (by simp; omega) _⟩
  · by_cases h3 : c < b
    · obtain ⟨rfl, rfl⟩ : f = c ∧ t = b := by omega
      clear F1 F2
      go_enter Try.func14, Try.ntmps14
      go_wp2
      exact bodyPost_ret (v := .agg #[.int .i64 f, .int .i64 t]) (by simp [results, Try.results14, go_sem]) rfl ⟨rfl, ((((Below.refl _ _).alloc (Nat.le_refl _) _).alloc (by simp) _).alloc (by simp; omega) _).alloc (by simp; omega) _⟩
    · obtain ⟨rfl, rfl⟩ : f = 0 ∧ t = 0 := by omega
      clear F1 F2
      go_enter Try.func14, Try.ntmps14
      go_wp2
      exact bodyPost_ret (v := .agg #[.int .i64 0, .int .i64 0]) (by simp [results, Try.results14, go_sem]) rfl ⟨rfl, ((((Below.refl _ _).alloc (Nat.le_refl _) _).alloc (by simp) _).alloc (by simp; omega) _).alloc (by simp; omega) _⟩
  · by_cases h3 : a < d
    · obtain ⟨rfl, rfl⟩ : f = a ∧ t = d := by omega
      clear F1 F2
      go_enter Try.func14, Try.ntmps14
      go_wp2
      exact bodyPost_ret (v := .agg #[.int .i64 f, .int .i64 t]) (by simp [results, Try.results14, go_sem]) rfl ⟨rfl, ((((Below.refl _ _).alloc (Nat.le_refl _) _).alloc (by simp) _).alloc (by simp; omega) _).alloc (by simp; omega) _⟩
    · obtain ⟨rfl, rfl⟩ : f = 0 ∧ t = 0 := by omega
      clear F1 F2
      go_enter Try.func14, Try.ntmps14
      go_wp2
      exact bodyPost_ret (v := .agg #[.int .i64 0, .int .i64 0]) (by simp [results, Try.results14, go_sem]) rfl ⟨rfl, ((((Below.refl _ _).alloc (Nat.le_refl _) _).alloc (by simp) _).alloc (by simp; omega) _).alloc (by simp; omega) _⟩
  · by_cases h3 : a < b
    · obtain ⟨rfl, rfl⟩ : f = a ∧ t = b := by omega
      clear F1 F2
      go_enter Try.func14, Try.ntmps14
      go_wp2
      exact bodyPost_ret (v := .agg #[.int .i64 f, .int .i64 t]) (by simp [results, Try.results14, go_sem]) rfl ⟨rfl, ((((Below.refl _ _).alloc (Nat.le_refl _) _).alloc (by simp) _).alloc (by simp; omega) _).alloc (by simp; omega) _⟩
    · obtain ⟨rfl, rfl⟩ : f = 0 ∧ t = 0 := by omega
      clear F1 F2
      go_enter Try.func14, Try.ntmps14
      go_wp2
      exact bodyPost_ret (v := .agg #[.int .i64 0, .int .i64 0]) (by simp [results, Try.results14, go_sem]) rfl ⟨rfl, ((((Below.refl _ _).alloc (Nat.le_refl _) _).alloc (by simp) _).alloc (by simp; omega) _).alloc (by simp; omega) _⟩

theorem rand_any (a b c d : Int) (w : World) :
    Calls Try.prog 14 #[.agg #[.int .i64 a, .int .i64 b], .agg #[.int .i64 c, .int .i64 d]] w fun e w' => e = .returned (.agg #[.int .i64 (andFrom a b c d), .int .i64 (andTo a b c d)]) ∧ Below w.heap.size w w' :=
  rand_core a b c d _ _ w (fun h => by simp [andFrom, andTo, if_pos h]) (fun h => by simp [andFrom, andTo, if_neg (Int.not_lt.mpr h)])
end Go.Proofs.Ythcoldehpaambaa
