/-
  The example of the document. Each statement bears its own conditions.
-/
import Derived.Test.YtfmcmhgpgkeplaaBdC
namespace Go.Proofs.Ytfmcmhgpgkeplaa.B
open Go.RowKit Go.Proofs.Ytfmcmhgpgkeplaa.F
set_option linter.unusedVariables false
set_option linter.unusedSimpArgs false
theorem he_bd : ∀ (x : Nat) (w : World), (binOp .eql 24 (.pointer (some ⟨x, 0, none⟩)) (.pointer none)).run Try.prog w = .ok (.bool false) w := fun _ _ => rfl
set_option maxRecDepth 100000 in
set_option maxHeartbeats 4000000 in
theorem speaks_any (w : World) : Calls Try.prog 9 #[] w fun e w' => e = .returned (.bool true) ∧ Below w.heap.size w w' := by
  have he := he_bd
  obtain ⟨lo, hlo⟩ : ∃ lo, w.heap.size = lo := ⟨_, rfl⟩
  have NW := Lib.hid (new_any 2 w (by omega) (by omega))
  have HLO : Hid (lo ≤ w.heap.size ∧ w.heap.size ≤ lo) := by unfold Hid; omega
  rw [hlo] at NW ⊢
  clear hlo
  go_enter Try.func9, Try.ntmps9
  go_wp2_with fail
  refine NW.out.mono ?_
  rintro e w1 ⟨rfl, q1, b1⟩
  have Q1 := Lib.hid q1
  have B1 := Lib.hid b1
  clear q1 b1 NW
  go_wp2_with fail
  refine (read_any lo _ lo 2 false [] [] 7 _ Q1.out (by simp)).mono ?_
  rintro e w2 ⟨r, q, rfl, o2, q2, n2⟩
  obtain ⟨A2, c2, rfl⟩ := o2.sl
  have Q2 : Hid (BV lo w2 q lo 2 false [] [7]) := q2
  have B2 : Hid (Below lo w w2) := B1.out.trans (Q1.out.nx n2)
  clear o2 q2 n2 Q1 B1
  have S3 := Lib.hid (Sq.lit w2 #[.int .u32 1, .int .u32 2] 40 2 2 rfl)
  have Q3 := Lib.hid (Q2.out.below ((Below.refl _ _).alloc (Nat.le_refl _) (.cells #[.int .u32 1, .int .u32 2] 40)))
  have B3 : Hid (Below lo w (w2.alloc (.cells #[.int .u32 1, .int .u32 2] 40))) := B2.out.alloc (by have := B2.out.size; have := HLO.out; omega) _
  go_wp2_with fail
  refine (show_any lo _ lo 2 false [] [7] _ _ [1, 2] _ Q3.out S3.out (by simp)).mono ?_
  rintro e w4 ⟨r, q', rfl, o4, q4, n4⟩
  obtain ⟨A4, c4, rfl⟩ := o4.sl
  have O4 := Lib.hid o4
  have Q4 := Lib.hid q4
  have B4 : Hid (Below lo w w4) := B3.out.trans (Q3.out.nx n4)
  clear o4 q4 n4 S3 Q3 B3 Q2 B2
  go_wp2_with fail
  refine (read_any lo _ lo 2 true [1, 2] [] 8 _ Q4.out (by simp)).mono ?_
  rintro e w5 ⟨r, q5, rfl, o5, q5', n5⟩
  obtain ⟨A5, c5, rfl⟩ := o5.sl
  have O4 := Lib.hid (O4.out.nx n5)
  have O5 := Lib.hid o5
  have Q5 : Hid (BV lo w5 q5 lo 2 true [1, 2] []) := q5'
  have B5 : Hid (Below lo w w5) := B4.out.trans (Q4.out.nx n5)
  clear o5 q5' n5 B4 Q4
  go_wp2_with fail
  refine (clear_any lo _ lo 2 true [1, 2] [] _ Q5.out).mono ?_
  rintro e w6 ⟨rfl, q6, n6⟩
  have O4 := Lib.hid (O4.out.nx n6)
  have O5 := Lib.hid (O5.out.nx n6)
  have Q6 := Lib.hid q6
  have B6 : Hid (Below lo w w6) := B5.out.trans (Q5.out.nx n6)
  clear q6 n6 B5 Q5
  go_wp2_with fail
  refine (read_any lo _ lo 2 false [] [] 8 _ Q6.out (by simp)).mono ?_
  rintro e w7 ⟨r, q7, rfl, o7, q7', n7⟩
  obtain ⟨A7, c7, rfl⟩ := o7.sl
  have O4 := Lib.hid (O4.out.nx n7)
  have O5 := Lib.hid (O5.out.nx n7)
  have B7 : Hid (Below lo w w7) := B6.out.trans (Q6.out.nx n7)
  clear o7 q7' n7 B6 Q6
  have hx : Below w7.heap.size w7 (w7.alloc (.cells #[.int .i64 7] 3)) := (Below.refl _ _).alloc (Nat.le_refl _) _
  have L8 := Lib.hid (Sq.lit w7 #[.int .i64 7] 3 1 1 rfl)
  have O4 := Lib.hid (O4.out.below hx)
  have O5 := Lib.hid (O5.out.below hx)
  have B8 : Hid (Below lo w (w7.alloc (.cells #[.int .i64 7] 3))) := B7.out.trans (hx.mono (by have := B7.out.size; have := HLO.out; omega))
  clear hx B7
  go_wp2_with fail
  refine (I2.iequal_any _ _ _ _ [7] [7] _ O4.out.sq.st L8.out.st (by simp)).mono ?_
  rintro e w9 ⟨he9, b9⟩
  rw [decide_eq_true rfl] at he9
  subst he9
  have O5 := Lib.hid (O5.out.below b9)
  have B9 : Hid (Below lo w w9) := B8.out.trans (b9.mono (by have := B8.out.size; have := HLO.out; omega))
  clear b9 B8 L8 O4
  have hx : Below w9.heap.size w9 (w9.alloc (.cells #[.int .u32 1, .int .u32 2] 40)) := (Below.refl _ _).alloc (Nat.le_refl _) _
  have L8 := Lib.hid (Sq.lit w9 #[.int .u32 1, .int .u32 2] 40 2 2 rfl)
  have O5 := Lib.hid (O5.out.below hx)
  have B8 : Hid (Below lo w (w9.alloc (.cells #[.int .u32 1, .int .u32 2] 40))) := B9.out.trans (hx.mono (by have := B9.out.size; have := HLO.out; omega))
  clear hx B9
  go_wp2_with fail
  refine (U.uequal_any _ _ _ _ [1, 2] [1, 2] _ O5.out.sq.st L8.out.st (by simp)).mono ?_
  rintro e w10 ⟨he9, b9⟩
  rw [decide_eq_true rfl] at he9
  subst he9
  have B10 : Hid (Below lo w w10) := B8.out.trans (b9.mono (by have := B8.out.size; have := HLO.out; omega))
  clear b9 B8 L8 O5
  go_wp2_with fail
  go_ret
  exact ⟨rfl, B10.out⟩
end Go.Proofs.Ytfmcmhgpgkeplaa.B
