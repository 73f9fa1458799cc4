/-
  LinkNews' walk. Each statement bears its own conditions.
-/
import Derived.Test.YtkbjonblflhkoaaLnO
namespace Go.Proofs.Ytkbjonblflhkoaa.Ln
open Go.RowKit Go.Proofs.Ytkbjonblflhkoaa.F Go.Proofs.Ytkbjonblflhkoaa.U Go.Proofs.Ytkbjonblflhkoaa.Q
set_option linter.unusedVariables false
set_option linter.unusedSimpArgs false
set_option maxRecDepth 100000 in
set_option maxHeartbeats 16000000 in
theorem news_walk (gap words room : Int) (w : World) : Calls Try.prog 7 #[.int .i64 gap, .int .i64 words, .int .i64 room] w fun e w' => e = .returned (.bool true) ∧ Below w.heap.size w w' := by
  have he1 := he_se
  have he2 := he_re
  have he3 : ∀ (x : Nat) (w : World), (binOp .neq 24 (.pointer (some ⟨x, 0, none⟩)) (.pointer none)).run Try.prog w = .ok (.bool true) w := fun _ _ => rfl
  have he4 : ∀ (x : Nat) (w : World), (binOp .neq 51 (.pointer (some ⟨x, 0, none⟩)) (.pointer none)).run Try.prog w = .ok (.bool true) w := fun _ _ => rfl
  obtain ⟨lo, hlo⟩ : ∃ lo, w.heap.size = lo := ⟨_, rfl⟩
  have HLO := Lib.hid hlo
  by_cases k1 : 1 ≤ words
  rotate_left
  · have NW := Lib.hid (new_bad gap words room w (by omega))
    have HW : Hid (¬ (1 ≤ words ∧ words ≤ 32)) := by unfold Hid; omega
    have e1 : decide (1 ≤ words) = false := by simpa using k1
    rw [hlo]
    clear k1 hlo
    go_enter Try.func7, Try.ntmps7
    go_wp2_with fail
    refine NW.out.mono ?_
    rintro e w1 ⟨rfl, hw1⟩
    have B1 : Hid (Below lo w w1) := by rw [hw1, ← HLO.out]; exact Below.refl _ _
    clear hw1 NW
    have S1 : Hid (lo ≤ w1.heap.size) := by have := B1.out.size; have := HLO.out; unfold Hid; omega
    go_wp2_with fail
    refine (newr_bad words w1 (by have := HW.out; omega)).mono ?_
    rintro e w2 ⟨rfl, hw2⟩
    have B2 : Hid (Below lo w w2) := by rw [hw2]; exact B1.out
    clear hw2
    have S2 : Hid (lo ≤ w2.heap.size) := by have := B2.out.size; have := HLO.out; unfold Hid; omega
    go_wp2_with fail
    refine (told_any w2).mono ?_
    rintro e w3 ⟨rfl, b3⟩
    have B3 : Hid (Below lo w w3) := B2.out.trans (b3.mono S2.out)
    have S3 : Hid (lo ≤ w3.heap.size) := by have := b3.size; have := S2.out; unfold Hid; omega
    clear b3
    go_wp2_with fail
    refine (step_nil 0 w3).mono ?_
    rintro e w4 ⟨rfl, b4⟩
    have B4 : Hid (Below lo w w4) := B3.out.trans (b4.mono S3.out)
    have S4 : Hid (lo ≤ w4.heap.size) := by have := b4.size; have := S3.out; unfold Hid; omega
    clear b4
    have hx : Below w4.heap.size w4 (w4.alloc (.cells #[.int .i64 0, .slice none 0 0] 44)) := (Below.refl _ _).alloc (Nat.le_refl _) _
    have B5 : Hid (Below lo w (w4.alloc (.cells #[.int .i64 0, .slice none 0 0] 44))) := B4.out.trans (hx.mono S4.out)
    have S5 : Hid (lo ≤ (w4.alloc (.cells #[.int .i64 0, .slice none 0 0] 44)).heap.size) := by have := hx.size; have := S4.out; unfold Hid; omega
    clear hx
    go_wp2_with fail
    refine (take_nil 0 0 none 0 0 _).mono ?_
    rintro e w6 ⟨rfl, b6⟩
    have B6 : Hid (Below lo w w6) := B5.out.trans (b6.mono S5.out)
    clear b6
    go_wp2_with fail
    refine (offer_nil _ w6).mono ?_
    rintro e wz ⟨rfl, hz⟩
    rw [hz]
    clear hz
    go_wp2_with fail
    refine (waiting_nil w6).mono ?_
    rintro e wz ⟨rfl, hz⟩
    rw [hz]
    clear hz
    go_wp2_with fail
    refine (clone_nil w6).mono ?_
    rintro e wz ⟨rfl, hz⟩
    rw [hz]
    clear hz
    go_wp2_with fail
    refine (same_nil_nil w6).mono ?_
    rintro e wz ⟨rfl, hz⟩
    rw [hz]
    clear hz
    go_wp2_with fail
    refine (lost_nil w6).mono ?_
    rintro e wz ⟨rfl, hz⟩
    rw [hz]
    clear hz
    go_wp2_with fail
    refine (cloner_nil w6).mono ?_
    rintro e wz ⟨rfl, hz⟩
    rw [hz]
    clear hz
    go_wp2_with fail
    refine (samer_nil_nil w6).mono ?_
    rintro e wz ⟨rfl, hz⟩
    rw [hz]
    clear hz
    go_wp2_with fail
    go_ret
    exact ⟨rfl, B6.out⟩
  have e1 : decide (1 ≤ words) = true := by simpa using k1
  by_cases k2 : words ≤ 32
  rotate_left
  · have NW := Lib.hid (new_bad gap words room w (by omega))
    have HW : Hid (¬ (1 ≤ words ∧ words ≤ 32)) := by unfold Hid; omega
    have e2 : decide (words ≤ 32) = false := by simpa using k2
    rw [hlo]
    clear k1 k2 hlo
    go_enter Try.func7, Try.ntmps7
    go_wp2_with fail
    refine NW.out.mono ?_
    rintro e w1 ⟨rfl, hw1⟩
    have B1 : Hid (Below lo w w1) := by rw [hw1, ← HLO.out]; exact Below.refl _ _
    clear hw1 NW
    have S1 : Hid (lo ≤ w1.heap.size) := by have := B1.out.size; have := HLO.out; unfold Hid; omega
    go_wp2_with fail
    refine (newr_bad words w1 (by have := HW.out; omega)).mono ?_
    rintro e w2 ⟨rfl, hw2⟩
    have B2 : Hid (Below lo w w2) := by rw [hw2]; exact B1.out
    clear hw2
    have S2 : Hid (lo ≤ w2.heap.size) := by have := B2.out.size; have := HLO.out; unfold Hid; omega
    go_wp2_with fail
    refine (told_any w2).mono ?_
    rintro e w3 ⟨rfl, b3⟩
    have B3 : Hid (Below lo w w3) := B2.out.trans (b3.mono S2.out)
    have S3 : Hid (lo ≤ w3.heap.size) := by have := b3.size; have := S2.out; unfold Hid; omega
    clear b3
    go_wp2_with fail
    refine (step_nil 0 w3).mono ?_
    rintro e w4 ⟨rfl, b4⟩
    have B4 : Hid (Below lo w w4) := B3.out.trans (b4.mono S3.out)
    have S4 : Hid (lo ≤ w4.heap.size) := by have := b4.size; have := S3.out; unfold Hid; omega
    clear b4
    have hx : Below w4.heap.size w4 (w4.alloc (.cells #[.int .i64 0, .slice none 0 0] 44)) := (Below.refl _ _).alloc (Nat.le_refl _) _
    have B5 : Hid (Below lo w (w4.alloc (.cells #[.int .i64 0, .slice none 0 0] 44))) := B4.out.trans (hx.mono S4.out)
    have S5 : Hid (lo ≤ (w4.alloc (.cells #[.int .i64 0, .slice none 0 0] 44)).heap.size) := by have := hx.size; have := S4.out; unfold Hid; omega
    clear hx
    go_wp2_with fail
    refine (take_nil 0 0 none 0 0 _).mono ?_
    rintro e w6 ⟨rfl, b6⟩
    have B6 : Hid (Below lo w w6) := B5.out.trans (b6.mono S5.out)
    clear b6
    go_wp2_with fail
    refine (offer_nil _ w6).mono ?_
    rintro e wz ⟨rfl, hz⟩
    rw [hz]
    clear hz
    go_wp2_with fail
    refine (waiting_nil w6).mono ?_
    rintro e wz ⟨rfl, hz⟩
    rw [hz]
    clear hz
    go_wp2_with fail
    refine (clone_nil w6).mono ?_
    rintro e wz ⟨rfl, hz⟩
    rw [hz]
    clear hz
    go_wp2_with fail
    refine (same_nil_nil w6).mono ?_
    rintro e wz ⟨rfl, hz⟩
    rw [hz]
    clear hz
    go_wp2_with fail
    refine (lost_nil w6).mono ?_
    rintro e wz ⟨rfl, hz⟩
    rw [hz]
    clear hz
    go_wp2_with fail
    refine (cloner_nil w6).mono ?_
    rintro e wz ⟨rfl, hz⟩
    rw [hz]
    clear hz
    go_wp2_with fail
    refine (samer_nil_nil w6).mono ?_
    rintro e wz ⟨rfl, hz⟩
    rw [hz]
    clear hz
    go_wp2_with fail
    go_ret
    exact ⟨rfl, B6.out⟩
  have e2 : decide (words ≤ 32) = true := by simpa using k2
  have HW : Hid (1 ≤ words ∧ words ≤ 32) := ⟨k1, k2⟩
  by_cases k3 : 0 ≤ gap
  rotate_left
  · have NW := Lib.hid (new_bad gap words room w (by omega))
    have e30 : decide (0 ≤ gap) = false := by simpa using k3
    rw [hlo]
    clear k1 k2  k3 hlo
    go_enter Try.func7, Try.ntmps7
    go_wp2_with fail
    refine NW.out.mono ?_
    rintro e w1 ⟨rfl, hw1⟩
    have B1 : Hid (Below lo w w1) := by rw [hw1, ← HLO.out]; exact Below.refl _ _
    clear hw1 NW
    have S1 : Hid (lo ≤ w1.heap.size) := by have := B1.out.size; have := HLO.out; unfold Hid; omega
    go_wp2_with fail
    refine (newr_any words w1 (by have := HW.out; omega)).mono ?_
    rintro e w2 ⟨rfl, r2, b2⟩
    have R2 := Lib.hid r2
    have B2 : Hid (Below lo w w2) := B1.out.trans (b2.mono S1.out)
    obtain ⟨gr, hgr⟩ : ∃ g, w1.heap.size = g := ⟨_, rfl⟩
    rw [hgr] at R2
    clear r2 b2
    have S2 : Hid (lo ≤ w2.heap.size) := by have := B2.out.size; have := HLO.out; unfold Hid; omega
    go_wp2_with fail
    refine (told_any w2).mono ?_
    rintro e w3 ⟨rfl, b3⟩
    have B3 : Hid (Below lo w w3) := B2.out.trans (b3.mono S2.out)
    have S3 : Hid (lo ≤ w3.heap.size) := by have := b3.size; have := S2.out; unfold Hid; omega
    clear b3
    go_wp2_with fail
    refine (step_nil 0 w3).mono ?_
    rintro e w4 ⟨rfl, b4⟩
    have B4 : Hid (Below lo w w4) := B3.out.trans (b4.mono S3.out)
    have S4 : Hid (lo ≤ w4.heap.size) := by have := b4.size; have := S3.out; unfold Hid; omega
    clear b4
    have hx : Below w4.heap.size w4 (w4.alloc (.cells #[.int .i64 0, .slice none 0 0] 44)) := (Below.refl _ _).alloc (Nat.le_refl _) _
    have B5 : Hid (Below lo w (w4.alloc (.cells #[.int .i64 0, .slice none 0 0] 44))) := B4.out.trans (hx.mono S4.out)
    have S5 : Hid (lo ≤ (w4.alloc (.cells #[.int .i64 0, .slice none 0 0] 44)).heap.size) := by have := hx.size; have := S4.out; unfold Hid; omega
    clear hx
    go_wp2_with fail
    refine (take_nil 0 0 none 0 0 _).mono ?_
    rintro e w6 ⟨rfl, b6⟩
    have B6 : Hid (Below lo w w6) := B5.out.trans (b6.mono S5.out)
    clear b6
    go_wp2_with fail
    refine (offer_nil _ w6).mono ?_
    rintro e wz ⟨rfl, hz⟩
    rw [hz]
    clear hz
    go_wp2_with fail
    refine (waiting_nil w6).mono ?_
    rintro e wz ⟨rfl, hz⟩
    rw [hz]
    clear hz
    go_wp2_with fail
    refine (clone_nil w6).mono ?_
    rintro e wz ⟨rfl, hz⟩
    rw [hz]
    clear hz
    go_wp2_with fail
    refine (same_nil_nil w6).mono ?_
    rintro e wz ⟨rfl, hz⟩
    rw [hz]
    clear hz
    go_wp2_with fail
    refine (lost_nil w6).mono ?_
    rintro e wz ⟨rfl, hz⟩
    rw [hz]
    clear hz
    go_wp2_with fail
    refine (cloner_nil w6).mono ?_
    rintro e wz ⟨rfl, hz⟩
    rw [hz]
    clear hz
    go_wp2_with fail
    refine (samer_nil_nil w6).mono ?_
    rintro e wz ⟨rfl, hz⟩
    rw [hz]
    clear hz
    go_wp2_with fail
    refine (samer_nil_l gr w6).mono ?_
    rintro e wz ⟨rfl, hz⟩
    rw [hz]
    clear hz
    go_wp2_with fail
    go_ret
    exact ⟨rfl, B6.out⟩
  have e30 : decide (0 ≤ gap) = true := by simpa using k3
  by_cases k4 : gap ≤ 1048576
  rotate_left
  · have NW := Lib.hid (new_bad gap words room w (by omega))
    have e31 : decide (gap ≤ 1048576) = false := by simpa using k4
    rw [hlo]
    clear k1 k2  k3 k4 hlo
    go_enter Try.func7, Try.ntmps7
    go_wp2_with fail
    refine NW.out.mono ?_
    rintro e w1 ⟨rfl, hw1⟩
    have B1 : Hid (Below lo w w1) := by rw [hw1, ← HLO.out]; exact Below.refl _ _
    clear hw1 NW
    have S1 : Hid (lo ≤ w1.heap.size) := by have := B1.out.size; have := HLO.out; unfold Hid; omega
    go_wp2_with fail
    refine (newr_any words w1 (by have := HW.out; omega)).mono ?_
    rintro e w2 ⟨rfl, r2, b2⟩
    have R2 := Lib.hid r2
    have B2 : Hid (Below lo w w2) := B1.out.trans (b2.mono S1.out)
    obtain ⟨gr, hgr⟩ : ∃ g, w1.heap.size = g := ⟨_, rfl⟩
    rw [hgr] at R2
    clear r2 b2
    have S2 : Hid (lo ≤ w2.heap.size) := by have := B2.out.size; have := HLO.out; unfold Hid; omega
    go_wp2_with fail
    refine (told_any w2).mono ?_
    rintro e w3 ⟨rfl, b3⟩
    have B3 : Hid (Below lo w w3) := B2.out.trans (b3.mono S2.out)
    have S3 : Hid (lo ≤ w3.heap.size) := by have := b3.size; have := S2.out; unfold Hid; omega
    clear b3
    go_wp2_with fail
    refine (step_nil 0 w3).mono ?_
    rintro e w4 ⟨rfl, b4⟩
    have B4 : Hid (Below lo w w4) := B3.out.trans (b4.mono S3.out)
    have S4 : Hid (lo ≤ w4.heap.size) := by have := b4.size; have := S3.out; unfold Hid; omega
    clear b4
    have hx : Below w4.heap.size w4 (w4.alloc (.cells #[.int .i64 0, .slice none 0 0] 44)) := (Below.refl _ _).alloc (Nat.le_refl _) _
    have B5 : Hid (Below lo w (w4.alloc (.cells #[.int .i64 0, .slice none 0 0] 44))) := B4.out.trans (hx.mono S4.out)
    have S5 : Hid (lo ≤ (w4.alloc (.cells #[.int .i64 0, .slice none 0 0] 44)).heap.size) := by have := hx.size; have := S4.out; unfold Hid; omega
    clear hx
    go_wp2_with fail
    refine (take_nil 0 0 none 0 0 _).mono ?_
    rintro e w6 ⟨rfl, b6⟩
    have B6 : Hid (Below lo w w6) := B5.out.trans (b6.mono S5.out)
    clear b6
    go_wp2_with fail
    refine (offer_nil _ w6).mono ?_
    rintro e wz ⟨rfl, hz⟩
    rw [hz]
    clear hz
    go_wp2_with fail
    refine (waiting_nil w6).mono ?_
    rintro e wz ⟨rfl, hz⟩
    rw [hz]
    clear hz
    go_wp2_with fail
    refine (clone_nil w6).mono ?_
    rintro e wz ⟨rfl, hz⟩
    rw [hz]
    clear hz
    go_wp2_with fail
    refine (same_nil_nil w6).mono ?_
    rintro e wz ⟨rfl, hz⟩
    rw [hz]
    clear hz
    go_wp2_with fail
    refine (lost_nil w6).mono ?_
    rintro e wz ⟨rfl, hz⟩
    rw [hz]
    clear hz
    go_wp2_with fail
    refine (cloner_nil w6).mono ?_
    rintro e wz ⟨rfl, hz⟩
    rw [hz]
    clear hz
    go_wp2_with fail
    refine (samer_nil_nil w6).mono ?_
    rintro e wz ⟨rfl, hz⟩
    rw [hz]
    clear hz
    go_wp2_with fail
    refine (samer_nil_l gr w6).mono ?_
    rintro e wz ⟨rfl, hz⟩
    rw [hz]
    clear hz
    go_wp2_with fail
    go_ret
    exact ⟨rfl, B6.out⟩
  have e31 : decide (gap ≤ 1048576) = true := by simpa using k4
  by_cases k5 : 1 ≤ room
  rotate_left
  · have NW := Lib.hid (new_bad gap words room w (by omega))
    have e32 : decide (1 ≤ room) = false := by simpa using k5
    rw [hlo]
    clear k1 k2  k3 k4 k5 hlo
    go_enter Try.func7, Try.ntmps7
    go_wp2_with fail
    refine NW.out.mono ?_
    rintro e w1 ⟨rfl, hw1⟩
    have B1 : Hid (Below lo w w1) := by rw [hw1, ← HLO.out]; exact Below.refl _ _
    clear hw1 NW
    have S1 : Hid (lo ≤ w1.heap.size) := by have := B1.out.size; have := HLO.out; unfold Hid; omega
    go_wp2_with fail
    refine (newr_any words w1 (by have := HW.out; omega)).mono ?_
    rintro e w2 ⟨rfl, r2, b2⟩
    have R2 := Lib.hid r2
    have B2 : Hid (Below lo w w2) := B1.out.trans (b2.mono S1.out)
    obtain ⟨gr, hgr⟩ : ∃ g, w1.heap.size = g := ⟨_, rfl⟩
    rw [hgr] at R2
    clear r2 b2
    have S2 : Hid (lo ≤ w2.heap.size) := by have := B2.out.size; have := HLO.out; unfold Hid; omega
    go_wp2_with fail
    refine (told_any w2).mono ?_
    rintro e w3 ⟨rfl, b3⟩
    have B3 : Hid (Below lo w w3) := B2.out.trans (b3.mono S2.out)
    have S3 : Hid (lo ≤ w3.heap.size) := by have := b3.size; have := S2.out; unfold Hid; omega
    clear b3
    go_wp2_with fail
    refine (step_nil 0 w3).mono ?_
    rintro e w4 ⟨rfl, b4⟩
    have B4 : Hid (Below lo w w4) := B3.out.trans (b4.mono S3.out)
    have S4 : Hid (lo ≤ w4.heap.size) := by have := b4.size; have := S3.out; unfold Hid; omega
    clear b4
    have hx : Below w4.heap.size w4 (w4.alloc (.cells #[.int .i64 0, .slice none 0 0] 44)) := (Below.refl _ _).alloc (Nat.le_refl _) _
    have B5 : Hid (Below lo w (w4.alloc (.cells #[.int .i64 0, .slice none 0 0] 44))) := B4.out.trans (hx.mono S4.out)
    have S5 : Hid (lo ≤ (w4.alloc (.cells #[.int .i64 0, .slice none 0 0] 44)).heap.size) := by have := hx.size; have := S4.out; unfold Hid; omega
    clear hx
    go_wp2_with fail
    refine (take_nil 0 0 none 0 0 _).mono ?_
    rintro e w6 ⟨rfl, b6⟩
    have B6 : Hid (Below lo w w6) := B5.out.trans (b6.mono S5.out)
    clear b6
    go_wp2_with fail
    refine (offer_nil _ w6).mono ?_
    rintro e wz ⟨rfl, hz⟩
    rw [hz]
    clear hz
    go_wp2_with fail
    refine (waiting_nil w6).mono ?_
    rintro e wz ⟨rfl, hz⟩
    rw [hz]
    clear hz
    go_wp2_with fail
    refine (clone_nil w6).mono ?_
    rintro e wz ⟨rfl, hz⟩
    rw [hz]
    clear hz
    go_wp2_with fail
    refine (same_nil_nil w6).mono ?_
    rintro e wz ⟨rfl, hz⟩
    rw [hz]
    clear hz
    go_wp2_with fail
    refine (lost_nil w6).mono ?_
    rintro e wz ⟨rfl, hz⟩
    rw [hz]
    clear hz
    go_wp2_with fail
    refine (cloner_nil w6).mono ?_
    rintro e wz ⟨rfl, hz⟩
    rw [hz]
    clear hz
    go_wp2_with fail
    refine (samer_nil_nil w6).mono ?_
    rintro e wz ⟨rfl, hz⟩
    rw [hz]
    clear hz
    go_wp2_with fail
    refine (samer_nil_l gr w6).mono ?_
    rintro e wz ⟨rfl, hz⟩
    rw [hz]
    clear hz
    go_wp2_with fail
    go_ret
    exact ⟨rfl, B6.out⟩
  have e32 : decide (1 ≤ room) = true := by simpa using k5
  by_cases k6 : room ≤ 32
  rotate_left
  · have NW := Lib.hid (new_bad gap words room w (by omega))
    have e33 : decide (room ≤ 32) = false := by simpa using k6
    rw [hlo]
    clear k1 k2  k3 k4 k5 k6 hlo
    go_enter Try.func7, Try.ntmps7
    go_wp2_with fail
    refine NW.out.mono ?_
    rintro e w1 ⟨rfl, hw1⟩
    have B1 : Hid (Below lo w w1) := by rw [hw1, ← HLO.out]; exact Below.refl _ _
    clear hw1 NW
    have S1 : Hid (lo ≤ w1.heap.size) := by have := B1.out.size; have := HLO.out; unfold Hid; omega
    go_wp2_with fail
    refine (newr_any words w1 (by have := HW.out; omega)).mono ?_
    rintro e w2 ⟨rfl, r2, b2⟩
    have R2 := Lib.hid r2
    have B2 : Hid (Below lo w w2) := B1.out.trans (b2.mono S1.out)
    obtain ⟨gr, hgr⟩ : ∃ g, w1.heap.size = g := ⟨_, rfl⟩
    rw [hgr] at R2
    clear r2 b2
    have S2 : Hid (lo ≤ w2.heap.size) := by have := B2.out.size; have := HLO.out; unfold Hid; omega
    go_wp2_with fail
    refine (told_any w2).mono ?_
    rintro e w3 ⟨rfl, b3⟩
    have B3 : Hid (Below lo w w3) := B2.out.trans (b3.mono S2.out)
    have S3 : Hid (lo ≤ w3.heap.size) := by have := b3.size; have := S2.out; unfold Hid; omega
    clear b3
    go_wp2_with fail
    refine (step_nil 0 w3).mono ?_
    rintro e w4 ⟨rfl, b4⟩
    have B4 : Hid (Below lo w w4) := B3.out.trans (b4.mono S3.out)
    have S4 : Hid (lo ≤ w4.heap.size) := by have := b4.size; have := S3.out; unfold Hid; omega
    clear b4
    have hx : Below w4.heap.size w4 (w4.alloc (.cells #[.int .i64 0, .slice none 0 0] 44)) := (Below.refl _ _).alloc (Nat.le_refl _) _
    have B5 : Hid (Below lo w (w4.alloc (.cells #[.int .i64 0, .slice none 0 0] 44))) := B4.out.trans (hx.mono S4.out)
    have S5 : Hid (lo ≤ (w4.alloc (.cells #[.int .i64 0, .slice none 0 0] 44)).heap.size) := by have := hx.size; have := S4.out; unfold Hid; omega
    clear hx
    go_wp2_with fail
    refine (take_nil 0 0 none 0 0 _).mono ?_
    rintro e w6 ⟨rfl, b6⟩
    have B6 : Hid (Below lo w w6) := B5.out.trans (b6.mono S5.out)
    clear b6
    go_wp2_with fail
    refine (offer_nil _ w6).mono ?_
    rintro e wz ⟨rfl, hz⟩
    rw [hz]
    clear hz
    go_wp2_with fail
    refine (waiting_nil w6).mono ?_
    rintro e wz ⟨rfl, hz⟩
    rw [hz]
    clear hz
    go_wp2_with fail
    refine (clone_nil w6).mono ?_
    rintro e wz ⟨rfl, hz⟩
    rw [hz]
    clear hz
    go_wp2_with fail
    refine (same_nil_nil w6).mono ?_
    rintro e wz ⟨rfl, hz⟩
    rw [hz]
    clear hz
    go_wp2_with fail
    refine (lost_nil w6).mono ?_
    rintro e wz ⟨rfl, hz⟩
    rw [hz]
    clear hz
    go_wp2_with fail
    refine (cloner_nil w6).mono ?_
    rintro e wz ⟨rfl, hz⟩
    rw [hz]
    clear hz
    go_wp2_with fail
    refine (samer_nil_nil w6).mono ?_
    rintro e wz ⟨rfl, hz⟩
    rw [hz]
    clear hz
    go_wp2_with fail
    refine (samer_nil_l gr w6).mono ?_
    rintro e wz ⟨rfl, hz⟩
    rw [hz]
    clear hz
    go_wp2_with fail
    go_ret
    exact ⟨rfl, B6.out⟩
  have e33 : decide (room ≤ 32) = true := by simpa using k6
  have NW := Lib.hid (new_any (fun _ => True) gap words room w ⟨k3, k4⟩ ⟨k1, k2⟩ ⟨k5, k6⟩)
  rw [hlo] at NW ⊢
  clear k1 k2 k3 k4 k5 k6 hlo
  go_enter Try.func7, Try.ntmps7
  go_wp2_with fail
  refine NW.out.mono ?_
  rintro e w1 ⟨rfl, q1, b1⟩
  have Q1 := Lib.hid q1
  have B1 : Hid (Below lo w w1) := b1
  clear q1 b1 NW
  have S1 : Hid (lo ≤ w1.heap.size) := by have := B1.out.size; have := HLO.out; unfold Hid; omega
  go_wp2_with fail
  refine (newr_any words w1 (by have := HW.out; omega)).mono ?_
  rintro e w2 ⟨rfl, r2, b2⟩
  have R2 := Lib.hid r2
  have B2 : Hid (Below lo w w2) := B1.out.trans (b2.mono S1.out)
  obtain ⟨gr, hgr⟩ : ∃ g, w1.heap.size = g := ⟨_, rfl⟩
  rw [hgr] at R2
  have Q2 := Lib.hid (Q1.out.below b2)
  clear r2 b2
  have S2 : Hid (lo ≤ w2.heap.size) := by have := B2.out.size; have := HLO.out; unfold Hid; omega
  go_wp2_with fail
  refine (told_any w2).mono ?_
  rintro e w3 ⟨rfl, b3⟩
  have B3 : Hid (Below lo w w3) := B2.out.trans (b3.mono S2.out)
  have S3 : Hid (lo ≤ w3.heap.size) := by have := b3.size; have := S2.out; unfold Hid; omega
  clear b3
  go_wp2_with fail
  refine (step_nil 0 w3).mono ?_
  rintro e w4 ⟨rfl, b4⟩
  have B4 : Hid (Below lo w w4) := B3.out.trans (b4.mono S3.out)
  have S4 : Hid (lo ≤ w4.heap.size) := by have := b4.size; have := S3.out; unfold Hid; omega
  clear b4
  have hx : Below w4.heap.size w4 (w4.alloc (.cells #[.int .i64 0, .slice none 0 0] 44)) := (Below.refl _ _).alloc (Nat.le_refl _) _
  have B5 : Hid (Below lo w (w4.alloc (.cells #[.int .i64 0, .slice none 0 0] 44))) := B4.out.trans (hx.mono S4.out)
  have S5 : Hid (lo ≤ (w4.alloc (.cells #[.int .i64 0, .slice none 0 0] 44)).heap.size) := by have := hx.size; have := S4.out; unfold Hid; omega
  clear hx
  go_wp2_with fail
  refine (take_nil 0 0 none 0 0 _).mono ?_
  rintro e w6 ⟨rfl, b6⟩
  have B6 : Hid (Below lo w w6) := B5.out.trans (b6.mono S5.out)
  clear b6
  go_wp2_with fail
  refine (offer_nil _ w6).mono ?_
  rintro e wz ⟨rfl, hz⟩
  rw [hz]
  clear hz
  go_wp2_with fail
  refine (waiting_nil w6).mono ?_
  rintro e wz ⟨rfl, hz⟩
  rw [hz]
  clear hz
  go_wp2_with fail
  refine (clone_nil w6).mono ?_
  rintro e wz ⟨rfl, hz⟩
  rw [hz]
  clear hz
  go_wp2_with fail
  refine (same_nil_nil w6).mono ?_
  rintro e wz ⟨rfl, hz⟩
  rw [hz]
  clear hz
  go_wp2_with fail
  refine (same_nil_l lo w6).mono ?_
  rintro e wz ⟨rfl, hz⟩
  rw [hz]
  clear hz
  go_wp2_with fail
  refine (lost_nil w6).mono ?_
  rintro e wz ⟨rfl, hz⟩
  rw [hz]
  clear hz
  go_wp2_with fail
  refine (cloner_nil w6).mono ?_
  rintro e wz ⟨rfl, hz⟩
  rw [hz]
  clear hz
  go_wp2_with fail
  refine (samer_nil_nil w6).mono ?_
  rintro e wz ⟨rfl, hz⟩
  rw [hz]
  clear hz
  go_wp2_with fail
  refine (samer_nil_l gr w6).mono ?_
  rintro e wz ⟨rfl, hz⟩
  rw [hz]
  clear hz
  go_wp2_with fail
  go_ret
  exact ⟨rfl, B6.out⟩
end Go.Proofs.Ytkbjonblflhkoaa.Ln
