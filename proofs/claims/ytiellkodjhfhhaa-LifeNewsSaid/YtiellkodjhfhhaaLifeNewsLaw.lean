/-
  LifeNews' walk. Each statement bears its own conditions.
-/
import Derived.Test.YtiellkodjhfhhaaLfP
namespace Go.Proofs.Ytiellkodjhfhhaa.Lf
open Go.RowKit Go.Proofs.Ytiellkodjhfhhaa.F 
set_option linter.unusedVariables false
set_option linter.unusedSimpArgs false
set_option maxRecDepth 100000 in
set_option maxHeartbeats 4000000 in
theorem news_walk (n : Int) (w : World) : Calls Try.prog 5 #[.int .i64 n] w fun e w' => e = .returned (.bool true) ∧ Below w.heap.size w w' := by
  have he := he_li
  have hn := hn_li
  obtain ⟨lo, hlo⟩ : ∃ lo, w.heap.size = lo := ⟨_, rfl⟩
  by_cases h : newI n
  · have NW := Lib.hid (new_any n w h)
    have g1 : decide (0 ≤ n) = true := by have := h.1; simpa using this
    have g2 : decide (n ≤ 1000) = true := by have := h.2; simpa using this
    rw [hlo] at NW ⊢
    clear h hlo
    go_enter Try.func5, Try.ntmps5
    go_wp2_with fail
    refine NW.out.mono ?_
    rintro e w1 ⟨rfl, q1, b1⟩
    have Q1 : Hid (LV w1 lo ⟨1, n, 0⟩) := q1
    have B1 : Hid (Below lo w w1) := b1
    clear q1 b1 NW
    go_wp2_with fail
    refine (reset_nil w1).mono ?_
    rintro e w5 ⟨rfl, hw5⟩
    rw [hw5]
    clear hw5
    go_wp2_with fail
    refine (do_nil 5 w1).mono ?_
    rintro e w5 ⟨rfl, hw5⟩
    rw [hw5]
    clear hw5
    go_wp2_with fail
    refine (told_any w1).mono ?_
    rintro e w2 ⟨rfl, b2⟩
    have B2 : Hid (Below lo w w2) := B1.out.trans (b2.mono (by have := Q1.out.lt; omega))
    have Q2 : Hid (LV w2 lo ⟨1, n, 0⟩) := Q1.out.below b2
    clear b2 B1 Q1
    go_wp2_with fail
    refine (run_nil w2).mono ?_
    rintro e w5 ⟨rfl, hw5⟩
    rw [hw5]
    clear hw5
    go_wp2_with fail
    refine (mode_nil w2).mono ?_
    rintro e w5 ⟨rfl, hw5⟩
    rw [hw5]
    clear hw5
    go_wp2_with fail
    refine (starts_nil w2).mono ?_
    rintro e w5 ⟨rfl, hw5⟩
    rw [hw5]
    clear hw5
    go_wp2_with fail
    refine (left_nil w2).mono ?_
    rintro e w5 ⟨rfl, hw5⟩
    rw [hw5]
    clear hw5
    go_wp2_with fail
    refine (clone_nil w2).mono ?_
    rintro e w5 ⟨rfl, hw5⟩
    rw [hw5]
    clear hw5
    go_wp2_with fail
    refine (same_nil w2).mono ?_
    rintro e w5 ⟨rfl, hw5⟩
    rw [hw5]
    clear hw5
    go_wp2_with fail
    refine (same_nil_l lo w2).mono ?_
    rintro e w5 ⟨rfl, hw5⟩
    rw [hw5]
    clear hw5
    go_wp2_with fail
    go_ret
    exact ⟨rfl, B2.out⟩
  · have NW := Lib.hid (new_bad n w h)
    rw [hlo]
    by_cases h0 : 0 ≤ n
    · have g1 : decide (0 ≤ n) = true := by simpa using h0
      have g2 : decide (n ≤ 1000) = false := by unfold newI at h; simp; omega
      clear h h0
      go_enter Try.func5, Try.ntmps5
      go_wp2_with fail
      refine NW.out.mono ?_
      rintro e w1 ⟨rfl, hw1⟩
      have B1 : Hid (Below lo w w1) := by rw [hw1]; exact Below.refl _ _
      have HLO : Hid (lo ≤ w1.heap.size) := by rw [hw1, hlo]; exact Nat.le_refl _
      clear hw1 NW hlo
      go_wp2_with fail
      refine (reset_nil w1).mono ?_
      rintro e w5 ⟨rfl, hw5⟩
      rw [hw5]
      clear hw5
      go_wp2_with fail
      refine (do_nil 5 w1).mono ?_
      rintro e w5 ⟨rfl, hw5⟩
      rw [hw5]
      clear hw5
      go_wp2_with fail
      refine (told_any w1).mono ?_
      rintro e w2 ⟨rfl, b2⟩
      have B2 : Hid (Below lo w w2) := B1.out.trans (b2.mono HLO.out)
      clear b2 B1
      go_wp2_with fail
      refine (run_nil w2).mono ?_
      rintro e w5 ⟨rfl, hw5⟩
      rw [hw5]
      clear hw5
      go_wp2_with fail
      refine (mode_nil w2).mono ?_
      rintro e w5 ⟨rfl, hw5⟩
      rw [hw5]
      clear hw5
      go_wp2_with fail
      refine (starts_nil w2).mono ?_
      rintro e w5 ⟨rfl, hw5⟩
      rw [hw5]
      clear hw5
      go_wp2_with fail
      refine (left_nil w2).mono ?_
      rintro e w5 ⟨rfl, hw5⟩
      rw [hw5]
      clear hw5
      go_wp2_with fail
      refine (clone_nil w2).mono ?_
      rintro e w5 ⟨rfl, hw5⟩
      rw [hw5]
      clear hw5
      go_wp2_with fail
      refine (same_nil w2).mono ?_
      rintro e w5 ⟨rfl, hw5⟩
      rw [hw5]
      clear hw5
      go_wp2_with fail
      go_ret
      exact ⟨rfl, B2.out⟩
    · have g1 : decide (0 ≤ n) = false := by simpa using h0
      clear h h0
      go_enter Try.func5, Try.ntmps5
      go_wp2_with fail
      refine NW.out.mono ?_
      rintro e w1 ⟨rfl, hw1⟩
      have B1 : Hid (Below lo w w1) := by rw [hw1]; exact Below.refl _ _
      have HLO : Hid (lo ≤ w1.heap.size) := by rw [hw1, hlo]; exact Nat.le_refl _
      clear hw1 NW hlo
      go_wp2_with fail
      refine (reset_nil w1).mono ?_
      rintro e w5 ⟨rfl, hw5⟩
      rw [hw5]
      clear hw5
      go_wp2_with fail
      refine (do_nil 5 w1).mono ?_
      rintro e w5 ⟨rfl, hw5⟩
      rw [hw5]
      clear hw5
      go_wp2_with fail
      refine (told_any w1).mono ?_
      rintro e w2 ⟨rfl, b2⟩
      have B2 : Hid (Below lo w w2) := B1.out.trans (b2.mono HLO.out)
      clear b2 B1
      go_wp2_with fail
      refine (run_nil w2).mono ?_
      rintro e w5 ⟨rfl, hw5⟩
      rw [hw5]
      clear hw5
      go_wp2_with fail
      refine (mode_nil w2).mono ?_
      rintro e w5 ⟨rfl, hw5⟩
      rw [hw5]
      clear hw5
      go_wp2_with fail
      refine (starts_nil w2).mono ?_
      rintro e w5 ⟨rfl, hw5⟩
      rw [hw5]
      clear hw5
      go_wp2_with fail
      refine (left_nil w2).mono ?_
      rintro e w5 ⟨rfl, hw5⟩
      rw [hw5]
      clear hw5
      go_wp2_with fail
      refine (clone_nil w2).mono ?_
      rintro e w5 ⟨rfl, hw5⟩
      rw [hw5]
      clear hw5
      go_wp2_with fail
      refine (same_nil w2).mono ?_
      rintro e w5 ⟨rfl, hw5⟩
      rw [hw5]
      clear hw5
      go_wp2_with fail
      go_ret
      exact ⟨rfl, B2.out⟩
end Go.Proofs.Ytiellkodjhfhhaa.Lf
