/-
  SamplingNews's walk. Each statement bears its own conditions.
-/
import Derived.Test.YtmodkfboolmckaaSaT
namespace Go.Proofs.Ytmodkfboolmckaa.Sa
open Go.RowKit Go.Proofs.Ytmodkfboolmckaa.F Go.Proofs.Ytmodkfboolmckaa.U
set_option linter.unusedVariables false
set_option linter.unusedSimpArgs false
set_option maxRecDepth 100000 in
set_option maxHeartbeats 16000000 in
theorem news_walk (a b : Int) (w : World) : Calls Try.prog 5 #[.int .i64 a, .int .i64 b] w fun e w' => e = .returned (.bool true) ∧ Below w.heap.size w w' := by
  have he := he_sa
  have hne : ∀ (x : Nat) (w : World), (binOp .neq 23 (.pointer (some ⟨x, 0, none⟩)) (.pointer none)).run Try.prog w = .ok (.bool true) w := fun _ _ => rfl
  have heN : ∀ (w : World), (binOp .eql 23 (.pointer none) (.pointer none)).run Try.prog w = .ok (.bool true) w := fun _ => rfl
  have hneN : ∀ (w : World), (binOp .neq 23 (.pointer none) (.pointer none)).run Try.prog w = .ok (.bool false) w := fun _ => rfl
  by_cases h : 1 ≤ a ∧ a ≤ 32 ∧ 0 ≤ b ∧ b ≤ 1048576
  · have NW := Lib.hid (new_any a b w h.1 h.2.1 h.2.2.1 h.2.2.2)
    have g1 : decide (1 ≤ a) = true := by simpa using h.1
    have g2 : decide (a ≤ 32) = true := by simpa using h.2.1
    have g3 : decide (0 ≤ b) = true := by simpa using h.2.2.1
    have g4 : decide (b ≤ 1048576) = true := by simpa using h.2.2.2
    clear h
    go_enter Try.func5, Try.ntmps5
    go_wp2_with fail
    refine NW.out.mono ?_
    rintro e w1 ⟨rfl, q1, b1⟩
    have B1 := Lib.hid b1
    clear q1 b1 NW
    go_wp2_with fail
    refine (clear_nil _).mono ?_
    rintro e wz ⟨rfl, hw⟩
    have hw := hw.symm
    subst hw
    go_wp2_with fail
    refine (read_nil 1 _).mono ?_
    rintro e wz ⟨rfl, hw⟩
    have hw := hw.symm
    subst hw
    go_wp2_with fail
    refine (stamp_nil _).mono ?_
    rintro e wz ⟨rfl, hw⟩
    have hw := hw.symm
    subst hw
    go_wp2_with fail
    refine (told_any _).mono ?_
    rintro e w2 ⟨rfl, b2⟩
    have B2 : Hid (Below w.heap.size w w2) := B1.out.trans (b2.mono B1.out.size)
    clear b2
    go_wp2_with fail
    refine (write_nil 1 _ _).mono ?_
    rintro e wz ⟨rfl, hw⟩
    have hw := hw.symm
    subst hw
    go_wp2_with fail
    refine (words_nil _).mono ?_
    rintro e wz ⟨rfl, hw⟩
    have hw := hw.symm
    subst hw
    go_wp2_with fail
    refine (refresh_nil _).mono ?_
    rintro e wz ⟨rfl, hw⟩
    have hw := hw.symm
    subst hw
    go_wp2_with fail
    refine (clone_nil _).mono ?_
    rintro e wz ⟨rfl, hw⟩
    have hw := hw.symm
    subst hw
    go_wp2_with fail
    refine (same_nil _).mono ?_
    rintro e wz ⟨rfl, hw⟩
    have hw := hw.symm
    subst hw
    go_wp2_with fail
    refine (same_nil_l _ _).mono ?_
    rintro e wz ⟨rfl, hw⟩
    have hw := hw.symm
    subst hw
    go_wp2_with fail
    go_ret
    exact ⟨rfl, B2.out⟩
  have NW := Lib.hid (new_bad a b w h)
  by_cases h1 : 1 ≤ a
  rotate_left
  · have g1 : decide (1 ≤ a) = false := by simpa using h1
    clear h h1
    go_enter Try.func5, Try.ntmps5
    go_wp2_with fail
    refine (NW.out).mono ?_
    rintro e wz ⟨rfl, hw⟩
    have hw := hw.symm
    subst hw
    go_wp2_with fail
    refine (clear_nil _).mono ?_
    rintro e wz ⟨rfl, hw⟩
    have hw := hw.symm
    subst hw
    go_wp2_with fail
    refine (read_nil 1 _).mono ?_
    rintro e wz ⟨rfl, hw⟩
    have hw := hw.symm
    subst hw
    go_wp2_with fail
    refine (stamp_nil _).mono ?_
    rintro e wz ⟨rfl, hw⟩
    have hw := hw.symm
    subst hw
    go_wp2_with fail
    refine (told_any _).mono ?_
    rintro e w2 ⟨rfl, b2⟩
    have B2 : Hid (Below w.heap.size w w2) := b2
    clear b2
    go_wp2_with fail
    refine (write_nil 1 _ _).mono ?_
    rintro e wz ⟨rfl, hw⟩
    have hw := hw.symm
    subst hw
    go_wp2_with fail
    refine (words_nil _).mono ?_
    rintro e wz ⟨rfl, hw⟩
    have hw := hw.symm
    subst hw
    go_wp2_with fail
    refine (refresh_nil _).mono ?_
    rintro e wz ⟨rfl, hw⟩
    have hw := hw.symm
    subst hw
    go_wp2_with fail
    refine (clone_nil _).mono ?_
    rintro e wz ⟨rfl, hw⟩
    have hw := hw.symm
    subst hw
    go_wp2_with fail
    refine (same_nil _).mono ?_
    rintro e wz ⟨rfl, hw⟩
    have hw := hw.symm
    subst hw
    go_wp2_with fail
    go_ret
    exact ⟨rfl, B2.out⟩
  have g1 : decide (1 ≤ a) = true := by simpa using h1
  by_cases h2 : a ≤ 32
  rotate_left
  · have g2 : decide (a ≤ 32) = false := by simpa using h2
    clear h h1 h2
    go_enter Try.func5, Try.ntmps5
    go_wp2_with fail
    refine (NW.out).mono ?_
    rintro e wz ⟨rfl, hw⟩
    have hw := hw.symm
    subst hw
    go_wp2_with fail
    refine (clear_nil _).mono ?_
    rintro e wz ⟨rfl, hw⟩
    have hw := hw.symm
    subst hw
    go_wp2_with fail
    refine (read_nil 1 _).mono ?_
    rintro e wz ⟨rfl, hw⟩
    have hw := hw.symm
    subst hw
    go_wp2_with fail
    refine (stamp_nil _).mono ?_
    rintro e wz ⟨rfl, hw⟩
    have hw := hw.symm
    subst hw
    go_wp2_with fail
    refine (told_any _).mono ?_
    rintro e w2 ⟨rfl, b2⟩
    have B2 : Hid (Below w.heap.size w w2) := b2
    clear b2
    go_wp2_with fail
    refine (write_nil 1 _ _).mono ?_
    rintro e wz ⟨rfl, hw⟩
    have hw := hw.symm
    subst hw
    go_wp2_with fail
    refine (words_nil _).mono ?_
    rintro e wz ⟨rfl, hw⟩
    have hw := hw.symm
    subst hw
    go_wp2_with fail
    refine (refresh_nil _).mono ?_
    rintro e wz ⟨rfl, hw⟩
    have hw := hw.symm
    subst hw
    go_wp2_with fail
    refine (clone_nil _).mono ?_
    rintro e wz ⟨rfl, hw⟩
    have hw := hw.symm
    subst hw
    go_wp2_with fail
    refine (same_nil _).mono ?_
    rintro e wz ⟨rfl, hw⟩
    have hw := hw.symm
    subst hw
    go_wp2_with fail
    go_ret
    exact ⟨rfl, B2.out⟩
  have g2 : decide (a ≤ 32) = true := by simpa using h2
  by_cases h3 : 0 ≤ b
  rotate_left
  · have g3 : decide (0 ≤ b) = false := by simpa using h3
    clear h h1 h2 h3
    go_enter Try.func5, Try.ntmps5
    go_wp2_with fail
    refine (NW.out).mono ?_
    rintro e wz ⟨rfl, hw⟩
    have hw := hw.symm
    subst hw
    go_wp2_with fail
    refine (clear_nil _).mono ?_
    rintro e wz ⟨rfl, hw⟩
    have hw := hw.symm
    subst hw
    go_wp2_with fail
    refine (read_nil 1 _).mono ?_
    rintro e wz ⟨rfl, hw⟩
    have hw := hw.symm
    subst hw
    go_wp2_with fail
    refine (stamp_nil _).mono ?_
    rintro e wz ⟨rfl, hw⟩
    have hw := hw.symm
    subst hw
    go_wp2_with fail
    refine (told_any _).mono ?_
    rintro e w2 ⟨rfl, b2⟩
    have B2 : Hid (Below w.heap.size w w2) := b2
    clear b2
    go_wp2_with fail
    refine (write_nil 1 _ _).mono ?_
    rintro e wz ⟨rfl, hw⟩
    have hw := hw.symm
    subst hw
    go_wp2_with fail
    refine (words_nil _).mono ?_
    rintro e wz ⟨rfl, hw⟩
    have hw := hw.symm
    subst hw
    go_wp2_with fail
    refine (refresh_nil _).mono ?_
    rintro e wz ⟨rfl, hw⟩
    have hw := hw.symm
    subst hw
    go_wp2_with fail
    refine (clone_nil _).mono ?_
    rintro e wz ⟨rfl, hw⟩
    have hw := hw.symm
    subst hw
    go_wp2_with fail
    refine (same_nil _).mono ?_
    rintro e wz ⟨rfl, hw⟩
    have hw := hw.symm
    subst hw
    go_wp2_with fail
    go_ret
    exact ⟨rfl, B2.out⟩
  have g3 : decide (0 ≤ b) = true := by simpa using h3
  have g4 : decide (b ≤ 1048576) = false := decide_eq_false (fun h4 => h ⟨h1, h2, h3, h4⟩)
  clear h h1 h2 h3
  go_enter Try.func5, Try.ntmps5
  go_wp2_with fail
  refine (NW.out).mono ?_
  rintro e wz ⟨rfl, hw⟩
  have hw := hw.symm
  subst hw
  go_wp2_with fail
  refine (clear_nil _).mono ?_
  rintro e wz ⟨rfl, hw⟩
  have hw := hw.symm
  subst hw
  go_wp2_with fail
  refine (read_nil 1 _).mono ?_
  rintro e wz ⟨rfl, hw⟩
  have hw := hw.symm
  subst hw
  go_wp2_with fail
  refine (stamp_nil _).mono ?_
  rintro e wz ⟨rfl, hw⟩
  have hw := hw.symm
  subst hw
  go_wp2_with fail
  refine (told_any _).mono ?_
  rintro e w2 ⟨rfl, b2⟩
  have B2 : Hid (Below w.heap.size w w2) := b2
  clear b2
  go_wp2_with fail
  refine (write_nil 1 _ _).mono ?_
  rintro e wz ⟨rfl, hw⟩
  have hw := hw.symm
  subst hw
  go_wp2_with fail
  refine (words_nil _).mono ?_
  rintro e wz ⟨rfl, hw⟩
  have hw := hw.symm
  subst hw
  go_wp2_with fail
  refine (refresh_nil _).mono ?_
  rintro e wz ⟨rfl, hw⟩
  have hw := hw.symm
  subst hw
  go_wp2_with fail
  refine (clone_nil _).mono ?_
  rintro e wz ⟨rfl, hw⟩
  have hw := hw.symm
  subst hw
  go_wp2_with fail
  refine (same_nil _).mono ?_
  rintro e wz ⟨rfl, hw⟩
  have hw := hw.symm
  subst hw
  go_wp2_with fail
  go_ret
  exact ⟨rfl, B2.out⟩
end Go.Proofs.Ytmodkfboolmckaa.Sa
