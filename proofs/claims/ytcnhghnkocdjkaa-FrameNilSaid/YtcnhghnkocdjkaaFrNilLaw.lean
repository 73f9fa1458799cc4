/-
  What a nil plan answers; the walk of FrameNil. Each statement bears its own conditions.
-/
import Derived.Test.YtcnhghnkocdjkaaFrP
namespace Go.Proofs.Ytcnhghnkocdjkaa
open Go.RowKit
set_option linter.unusedVariables false
set_option linter.unusedSimpArgs false
theorem request_nil (mode : Int) (w : World) : Calls Try.prog 25 #[.pointer none, .int .i64 mode] w fun e w' => e = .returned (.int .i64 1) ∧ Below w.heap.size w w' := by
  go_enter Try.func25, Try.ntmps25
  go_wp2_with fail
  go_ret
  exact ⟨rfl, Below.refl _ _⟩
theorem mode_nil (w : World) : Calls Try.prog 30 #[.pointer none] w fun e w' => e = .returned (.int .i64 0) ∧ Below w.heap.size w w' := by
  go_enter Try.func30, Try.ntmps30
  go_wp2_with fail
  go_ret
  exact ⟨rfl, Below.refl _ _⟩
theorem now_nil (w : World) : Calls Try.prog 28 #[.pointer none] w fun e w' => e = .returned (.int .i64 0) ∧ Below w.heap.size w w' := by
  go_enter Try.func28, Try.ntmps28
  go_wp2_with fail
  go_ret
  exact ⟨rfl, Below.refl _ _⟩
theorem clone_nil (w : World) : Calls Try.prog 22 #[.pointer none] w fun e w' => e = .returned (.pointer none) ∧ Below w.heap.size w w' := by
  go_enter Try.func22, Try.ntmps22
  go_wp2_with fail
  go_ret
  exact ⟨rfl, Below.refl _ _⟩
theorem same_nil (w : World) : Calls Try.prog 23 #[.pointer none, .pointer none] w fun e w' => e = .returned (.bool true) ∧ Below w.heap.size w w' := by
  go_enter Try.func23, Try.ntmps23
  go_wp2_with fail
  go_ret
  exact ⟨rfl, Below.refl _ _⟩
theorem same_nil_some (a : Addr) (w : World) : Calls Try.prog 23 #[.pointer none, .pointer (some a)] w fun e w' => e = .returned (.bool false) ∧ Below w.heap.size w w' := by
  have he : ∀ w : World, (binOp .eql 47 (.pointer none) (.pointer (some a))).run Try.prog w = .ok (.bool false) w := fun _ => rfl
  go_enter Try.func23, Try.ntmps23
  go_wp2_with fail
  go_ret
  exact ⟨rfl, Below.refl _ _⟩
theorem wanted_nil (w : World) : Calls Try.prog 31 #[.pointer none] w fun e w' => e = .returned (.tuple #[.int .i64 0, .bool false]) ∧ Below w.heap.size w w' := by
  go_enter Try.func31, Try.ntmps31
  go_wp2_with fail
  go_quiet (fail)
  go_wp2_with fail
  go_ret2
  exact ⟨rfl, below_drewN (Below.refl _ _) _⟩
set_option maxRecDepth 100000 in
theorem tick_nil (w : World) : Calls Try.prog 27 #[.pointer none] w fun e w' => e = .returned (.agg #[.int .i64 0, .int .i64 0, .int .i64 0, .int .i64 0, .bool false, .bool false, .bool false]) ∧ Below w.heap.size w w' := by
  go_enter Try.func27, Try.ntmps27
  go_wp2_with fail
  refine bodyPost_ret (results_cell_mid rfl _ _ w.heap.size [.int .i64 0, .int .i64 0, .int .i64 0, .int .i64 0, .bool false, .bool false, .bool false] _ rfl (fun j v hv => ?_) Try.underlying63 rfl (by kernel_rfl)) rfl ?_
  · rw [Nat.zero_add, World.cell?_alloc_new]; simpa using hv
  · exact ⟨rfl, (Below.refl _ _).alloc (Nat.le_refl _) _⟩
theorem turn_eq (W : World) : (binOp .eql 63 (.agg #[.int .i64 0, .int .i64 0, .int .i64 0, .int .i64 0, .bool false, .bool false, .bool false]) (.agg #[.int .i64 0, .int .i64 0, .int .i64 0, .int .i64 0, .bool false, .bool false, .bool false])).run Try.prog W = .ok (.bool true) W := by
  go_simp
set_option maxRecDepth 100000 in
set_option maxHeartbeats 4000000 in
theorem nil_walk (mode : Int) (w : World) (hm : I64 mode) : Calls Try.prog 8 #[.int .i64 mode] w fun e w' => e = .returned (.bool true) ∧ Below w.heap.size w w' := by
  go_enter Try.func8, Try.ntmps8
  go_wp2_with fail
  refine (wanted_nil _).mono ?_
  rintro e W1 ⟨rfl, b1⟩
  have HR : Hid (Row (W1.alloc (.cells #[.int .i64 1, .slice none 0 0] 24)) 2 (RT (W1.alloc (.cells #[.int .i64 1, .slice none 0 0] 24))) (.slice (some ⟨W1.heap.size, 0, none⟩) 1 1) [⟨1, []⟩]) := by
    refine ⟨_, 1, rfl, by show 1 ≤ rowMax; unfold rowMax; omega, fun _ => ⟨W1.heap.size, 0, rfl, by simp, fun i x hx => ?_⟩⟩
    match i, hx with
    | 0, hx =>
      simp at hx; subst hx
      exact ⟨_, ⟨.slice none 0 0, rfl, by unfold I64; decide, Row.nil _ _ _⟩, rfl, fun j u hu => by
        rw [show 0 + 0 * 2 + j = j by omega, World.cell?_alloc_new]; simpa using hu⟩
    | i + 1, hx => simp at hx
  have C := Lib.hid (new_any _ _ 0 _ HR.out (by simp) (by unfold I64; decide))
  rw [show newErr [⟨1, []⟩] 0 = 0 by decide +kernel] at C
  have HB1 := Lib.hid b1
  clear b1 HR
  go_wp2_with fail
  refine C.out.mono ?_
  rintro e W2 ⟨h, b2⟩
  rcases h with ⟨h, _⟩ | ⟨_, g, hi, rfl, hp⟩
  · exact absurd rfl h
  have HB2 : Hid (Below w.heap.size w W2) := (HB1.out.alloc HB1.out.size _).trans (b2.mono (by have := HB1.out.size; simp; omega))
  clear b2 hp C
  go_wp2_with fail
  refine (known_any _).mono ?_
  rintro e W3 ⟨rfl, b⟩
  have HB3 : Hid (Below w.heap.size w W3) := HB2.out.trans (b.mono HB2.out.size)
  clear b
  go_wp2_with fail
  refine (request_nil mode _).mono ?_
  rintro e W4 ⟨rfl, b⟩
  have HB4 : Hid (Below w.heap.size w W4) := HB3.out.trans (b.mono HB3.out.size)
  clear b
  have TE := turn_eq
  go_wp2_with fail
  refine (tick_nil _).mono ?_
  rintro e W5 ⟨rfl, b⟩
  have HB5 : Hid (Below w.heap.size w W5) := HB4.out.trans (b.mono HB4.out.size)
  clear b
  go_wp2_with fail
  refine (mode_nil _).mono ?_
  rintro e W6 ⟨rfl, b⟩
  have HB6 : Hid (Below w.heap.size w W6) := HB5.out.trans (b.mono HB5.out.size)
  clear b
  go_wp2_with fail
  refine (now_nil _).mono ?_
  rintro e W7 ⟨rfl, b⟩
  have HB7 : Hid (Below w.heap.size w W7) := HB6.out.trans (b.mono HB6.out.size)
  clear b
  go_wp2_with fail
  refine (clone_nil _).mono ?_
  rintro e W8 ⟨rfl, b⟩
  have HB8 : Hid (Below w.heap.size w W8) := HB7.out.trans (b.mono HB7.out.size)
  clear b
  go_wp2_with fail
  refine (same_nil _).mono ?_
  rintro e W9 ⟨rfl, b⟩
  have HB9 : Hid (Below w.heap.size w W9) := HB8.out.trans (b.mono HB8.out.size)
  clear b
  go_wp2_with fail
  refine (same_nil_some _ _).mono ?_
  rintro e W10 ⟨rfl, b⟩
  go_wp2_with fail
  go_ret
  exact ⟨rfl, HB9.out.trans (b.mono HB9.out.size)⟩
end Go.Proofs.Ytcnhghnkocdjkaa
