/-
  BudgetNil's walk. Each statement bears its own conditions.
-/
import Derived.Test.YtbocjjjghokodaaBgC
namespace Go.Proofs.Ytbocjjjghokodaa.Bg
open Go.RowKit Go.Proofs.Ytbocjjjghokodaa.F 
set_option linter.unusedVariables false
set_option linter.unusedSimpArgs false
set_option maxRecDepth 100000 in
set_option maxHeartbeats 4000000 in
theorem nil_walk (t n : Int) (w : World) : Calls Try.prog 6 #[.int .i64 t, .int .i64 n] w fun e w' => e = .returned (.bool true) ∧ Below w.heap.size w w' := by
  have he := he_bg
  obtain ⟨lo, hlo⟩ : ∃ lo, w.heap.size = lo := ⟨_, rfl⟩
  obtain ⟨bn, hbn⟩ : ∃ b, decide (0 < n) = b := ⟨_, rfl⟩
  have CC := Lib.hid (charge_nil t n w)
  rw [hbn] at CC
  rw [hlo]
  go_enter Try.func6, Try.ntmps6
  go_wp2_with fail
  refine (reset_nil t w).mono ?_
  rintro e w1 ⟨rfl, hw1⟩
  rw [hw1]
  clear hw1
  go_wp2_with fail
  refine CC.out.mono ?_
  rintro e w2 ⟨rfl, m, hm⟩
  have B2 : Hid (Below lo w w2) := quiet_below hm
  have Z2 : Hid (w2.heap.size = lo) := by rw [hm]; exact hlo
  clear hm CC
  go_wp2_with fail
  refine (new_any 1 1 w2 (by unfold newI; omega)).mono ?_
  rintro e w3 ⟨rfl, q3, b3⟩
  rw [Z2.out] at q3 b3
  have Q3 := Lib.hid q3
  have B3 : Hid (Below lo w w3) := B2.out.trans b3
  rw [Z2.out]
  clear q3 b3 B2 Z2 hlo
  go_wp2_with fail
  refine (known_any w3).mono ?_
  rintro e w4 ⟨rfl, b4⟩
  have Q4 := Lib.hid (Q3.out.below b4)
  have B4 : Hid (Below lo w w4) := B3.out.trans (b4.mono (by have := Q3.out.lt; omega))
  clear b4 Q3 B3
  cases bn
  · go_wp2_with fail
    refine (left_nil t w4).mono ?_
    rintro e w5 ⟨rfl, m, hm⟩
    have Q5 : Hid (SV w5 lo ⟨1, 1, 0, 0, 0⟩) := by rw [hm]; exact Q4.out.drewN m
    have B5 : Hid (Below lo w w5) := B4.out.trans (quiet_below hm)
    clear hm Q4 B4
    go_wp2_with fail
    refine (next_nil t w5).mono ?_
    rintro e w6 ⟨rfl, hw6⟩
    rw [hw6]
    clear hw6
    go_wp2_with fail
    refine (clone_nil w5).mono ?_
    rintro e w6 ⟨rfl, hw6⟩
    rw [hw6]
    clear hw6
    go_wp2_with fail
    refine (same_nil w5).mono ?_
    rintro e w6 ⟨rfl, hw6⟩
    rw [hw6]
    clear hw6
    go_wp2_with fail
    refine (same_nil_l lo w5).mono ?_
    rintro e w6 ⟨rfl, hw6⟩
    rw [hw6]
    clear hw6
    go_wp2_with fail
    go_ret
    exact ⟨rfl, B5.out⟩
  · go_wp2_with fail
    refine (left_nil t w4).mono ?_
    rintro e w5 ⟨rfl, m, hm⟩
    have Q5 : Hid (SV w5 lo ⟨1, 1, 0, 0, 0⟩) := by rw [hm]; exact Q4.out.drewN m
    have B5 : Hid (Below lo w w5) := B4.out.trans (quiet_below hm)
    clear hm Q4 B4
    go_wp2_with fail
    refine (next_nil t w5).mono ?_
    rintro e w6 ⟨rfl, hw6⟩
    rw [hw6]
    clear hw6
    go_wp2_with fail
    refine (clone_nil w5).mono ?_
    rintro e w6 ⟨rfl, hw6⟩
    rw [hw6]
    clear hw6
    go_wp2_with fail
    refine (same_nil w5).mono ?_
    rintro e w6 ⟨rfl, hw6⟩
    rw [hw6]
    clear hw6
    go_wp2_with fail
    refine (same_nil_l lo w5).mono ?_
    rintro e w6 ⟨rfl, hw6⟩
    rw [hw6]
    clear hw6
    go_wp2_with fail
    go_ret
    exact ⟨rfl, B5.out⟩
end Go.Proofs.Ytbocjjjghokodaa.Bg
