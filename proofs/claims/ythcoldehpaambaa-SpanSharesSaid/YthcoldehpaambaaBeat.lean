/-
  The contracts of the functions on beats of package span, and of their reference, that the statements of layer 1 call: what each answers, and that nothing that was there is written. Each states its own conditions.
-/
import Derived.Test.YthcoldehpaambaaLeaf
import Derived.Lib.Hide
namespace Go.Proofs.Ythcoldehpaambaa
open Go.RowKit

/-- A beat that may be. -/
structure Ok (F E L : Int) : Prop where
  f0 : 0 ≤ F
  f1 : F ≤ 1099511627776
  e0 : 1 ≤ E
  e1 : E ≤ 1099511627776
  l0 : 1 ≤ L
  l1 : L ≤ E

theorem not_ok {F E L : Int} (h : ¬ Ok F E L) : F < 0 ∨ 1099511627776 < F ∨ (0 ≤ F ∧ F ≤ 1099511627776 ∧ (E < 1 ∨ 1099511627776 < E ∨ (1 ≤ E ∧ E ≤ 1099511627776 ∧ (L < 1 ∨ (1 ≤ L ∧ E < L))))) := by
  have : ¬ (0 ≤ F ∧ F ≤ 1099511627776 ∧ 1 ≤ E ∧ E ≤ 1099511627776 ∧ 1 ≤ L ∧ L ≤ E) := fun ⟨a, b, c, d, e, f⟩ => h ⟨a, b, c, d, e, f⟩
  omega

theorem check_ok (F E L : Int) (w : World) (h : Ok F E L) :
    Calls Try.prog 21 #[.agg #[.int .i64 F, .int .i64 E, .int .i64 L]] w fun e w' => e = .returned (.int .i64 0) ∧ Below w.heap.size w w' := by
  obtain ⟨h1, h2, h3, h4, h5, h6⟩ := h
  go_enter Try.func21, Try.ntmps21
  go_wp2
  go_ret
  exact ⟨rfl, (Below.refl _ _).alloc (Nat.le_refl _) _⟩

theorem check_no (F E L : Int) (w : World) (h : ¬ Ok F E L) :
    Calls Try.prog 21 #[.agg #[.int .i64 F, .int .i64 E, .int .i64 L]] w fun e w' => e = .returned (.int .i64 2) ∧ Below w.heap.size w w' := by
  rcases not_ok h with h1 | h1 | ⟨h1, h2, h3 | h3 | ⟨h3, h4, h5 | ⟨h5, h6⟩⟩⟩
  all_goals
    clear h
    go_enter Try.func21, Try.ntmps21
    go_wp2
    go_ret
    exact ⟨rfl, (Below.refl _ _).alloc (Nat.le_refl _) _⟩

theorem rcheck_ok (F E L : Int) (w : World) (h : Ok F E L) :
    Calls Try.prog 22 #[.agg #[.int .i64 F, .int .i64 E, .int .i64 L]] w fun e w' => e = .returned (.int .i64 0) ∧ Below w.heap.size w w' := by
  obtain ⟨h1, h2, h3, h4, h5, h6⟩ := h
  go_enter Try.func22, Try.ntmps22
  go_wp2
  go_ret
  exact ⟨rfl, (Below.refl _ _).alloc (Nat.le_refl _) _⟩

theorem rcheck_no (F E L : Int) (w : World) (h : ¬ Ok F E L) :
    Calls Try.prog 22 #[.agg #[.int .i64 F, .int .i64 E, .int .i64 L]] w fun e w' => e = .returned (.int .i64 2) ∧ Below w.heap.size w w' := by
  rcases not_ok h with h1 | h1 | ⟨h1, h2, h3 | h3 | ⟨h3, h4, h5 | ⟨h5, h6⟩⟩⟩
  all_goals
    clear h
    go_enter Try.func22, Try.ntmps22
    go_wp2
    go_ret
    exact ⟨rfl, (Below.refl _ _).alloc (Nat.le_refl _) _⟩

theorem valid_ok (F E L : Int) (w : World) (h : Ok F E L) :
    Calls Try.prog 29 #[.agg #[.int .i64 F, .int .i64 E, .int .i64 L]] w fun e w' => e = .returned (.bool true) ∧ Below w.heap.size w w' := by
  go_enter Try.func29, Try.ntmps29
  go_wp2_with (go_at_call 21; refine (check_ok F E L _ h).mono ?_; rintro e w1 ⟨rfl, hb⟩)
  go_ret
  exact ⟨rfl, ((Below.refl _ _).alloc (Nat.le_refl _) _).trans (hb.mono (by simp))⟩

theorem valid_no (F E L : Int) (w : World) (h : ¬ Ok F E L) :
    Calls Try.prog 29 #[.agg #[.int .i64 F, .int .i64 E, .int .i64 L]] w fun e w' => e = .returned (.bool false) ∧ Below w.heap.size w w' := by
  have H := Lib.hid h
  clear h
  go_enter Try.func29, Try.ntmps29
  go_wp2_with (go_at_call 21; refine (check_no F E L _ H.out).mono ?_; rintro e w1 ⟨rfl, hb⟩)
  go_ret
  exact ⟨rfl, ((Below.refl _ _).alloc (Nat.le_refl _) _).trans (hb.mono (by simp))⟩
end Go.Proofs.Ythcoldehpaambaa
