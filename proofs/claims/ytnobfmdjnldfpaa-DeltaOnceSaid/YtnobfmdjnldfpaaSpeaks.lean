/-
  The contract of speaks. Each statement bears its own conditions.
-/
import Derived.Test.YtnobfmdjnldfpaaDue
namespace Go.Proofs.Ytnobfmdjnldfpaa
open Go.RowKit
set_option linter.unusedVariables false
set_option linter.unusedSimpArgs false
set_option maxHeartbeats 1000000 in
theorem speaks_any (w : World) : Calls Try.prog 9 #[] w fun e w' => e = .returned (.bool true) ∧ Below w.heap.size w w' := by
  obtain ⟨g, hG⟩ : ∃ g, w.heap.size = g := ⟨_, rfl⟩
  have he : ∀ w : World, (binOp .eql 24 (.pointer (some ⟨g, 0, none⟩)) (.pointer none)).run Try.prog w = .ok (.bool false) w := fun _ => rfl
  have NE := Lib.hid (new_any w)
  have HG : Hid (w.heap.size ≤ g) := Nat.le_of_eq hG
  rw [hG] at NE
  go_enter Try.func9, Try.ntmps9
  go_wp2_with fail
  refine NE.out.mono ?_
  rintro e w0 ⟨rfl, h0, b0⟩
  obtain ⟨rb0, hR⟩ : ∃ rb0, rb0 = g := ⟨_, rfl⟩
  rw [← hG] at b0
  have h0' : TF w0 g rb0 [] := by rw [hR]; exact h0
  have H0 := Lib.hid h0'
  have B0 := Lib.hid b0
  have S0 := Lib.hid b0.size
  have R0 : Hid (w.heap.size ≤ rb0) := by unfold Hid; omega
  clear h0 h0' b0 NE hR hG
  go_wp2_with fail
  refine (set_any g rb0 7 5 [] w0 H0.out (by unfold Srt; decide) (by decide)).mono ?_
  rintro e w1 ⟨rb1, rfl, h1, r1, c1⟩
  rw [show setL [] 7 5 = [(7, 5)] by decide] at h1
  have H1 := Lib.hid h1
  have R1 := Lib.hid (show w.heap.size ≤ rb1 by have := S0.out; have := R0.out; rcases r1 with r | r <;> omega)
  have S1 := Lib.hid (Nat.le_trans S0.out c1.size)
  have B1 := Lib.hid (B0.out.trans (c1.below HG.out R0.out S0.out))
  clear h1 r1 c1
  go_wp2_with fail
  refine (set_any g rb1 8 3 [(7, 5)] w1 H1.out (by unfold Srt; decide) (by decide)).mono ?_
  rintro e w2 ⟨rb2, rfl, h2, r2, c2⟩
  rw [show setL [(7, 5)] 8 3 = [(8, 3), (7, 5)] by decide] at h2
  have H2 := Lib.hid h2
  have R2 := Lib.hid (show w.heap.size ≤ rb2 by have := S1.out; have := R1.out; rcases r2 with r | r <;> omega)
  have S2 := Lib.hid (Nat.le_trans S1.out c2.size)
  have B2 := Lib.hid (B1.out.trans (c2.below HG.out R1.out S1.out))
  clear h2 r2 c2
  go_wp2_with fail
  refine (set_any g rb2 9 5 [(8, 3), (7, 5)] w2 H2.out (by unfold Srt; decide) (by decide)).mono ?_
  rintro e w3 ⟨rb3, rfl, h3, r3, c3⟩
  rw [show setL [(8, 3), (7, 5)] 9 5 = [(8, 3), (7, 5), (9, 5)] by decide] at h3
  have H3 := Lib.hid h3
  have R3 := Lib.hid (show w.heap.size ≤ rb3 by have := S2.out; have := R2.out; rcases r3 with r | r <;> omega)
  have S3 := Lib.hid (Nat.le_trans S2.out c3.size)
  have B3 := Lib.hid (B2.out.trans (c3.below HG.out R2.out S2.out))
  clear h3 r3 c3
  go_wp2_with fail
  refine (set_any g rb3 7 5 [(8, 3), (7, 5), (9, 5)] w3 H3.out (by unfold Srt; decide) (by decide)).mono ?_
  rintro e w4 ⟨rb4, rfl, h4, r4, c4⟩
  rw [show setL [(8, 3), (7, 5), (9, 5)] 7 5 = [(8, 3), (9, 5), (7, 5)] by decide] at h4
  have H4 := Lib.hid h4
  have R4 := Lib.hid (show w.heap.size ≤ rb4 by have := S3.out; have := R3.out; rcases r4 with r | r <;> omega)
  have S4 := Lib.hid (Nat.le_trans S3.out c4.size)
  have B4 := Lib.hid (B3.out.trans (c4.below HG.out R3.out S3.out))
  clear h4 r4 c4
  go_wp2_with fail
  refine (due_any g rb4 5 [(8, 3), (9, 5), (7, 5)] w4 H4.out (by unfold Srt; decide) (by decide)).mono ?_
  rintro e w5 ⟨A, c, rfl, ho, h5, c5⟩
  rw [show cnt [(8, 3), (9, 5), (7, 5)] 5 = 3 by decide] at ho h5 ⊢
  have HO : Hid (Reads w5 w5.heap.size 1 A 3 (I [8, 9, 7])) := Reads.of_own ho
  have H5 : Hid (TF w5 g rb4 []) := h5
  have S5 := Lib.hid (Nat.le_trans S4.out c5.size)
  have B5 := Lib.hid (B4.out.trans (c5.below HG.out R4.out S4.out))
  clear ho h5 c5
  go_wp2_with fail
  have BA : Below w5.heap.size w5 (w5.alloc (.cells #[.int .i64 8, .int .i64 9, .int .i64 7] 3)) := (Below.refl _ _).alloc (Nat.le_refl _) _
  refine (isame_true A (some ⟨w5.heap.size, 0, none⟩) 3 c 3 [8, 9, 7] _ w5.heap.size (w5.heap.size + 1) (HO.out.below BA) (reads_newI w5 (I [8, 9, 7]) 3) (by decide) (by simp) (by simp)).mono ?_
  rintro e w6 ⟨rfl, b6⟩
  have B56 := BA.trans (b6.mono (by simp))
  have H6 := Lib.hid (H5.out.below B56)
  have B6 := Lib.hid (B5.out.trans (B56.mono S5.out))
  clear b6 B56 BA
  go_wp2_with fail
  refine (len_any g rb4 [] w6 H6.out).mono ?_
  rintro e w7 ⟨rfl, h7⟩
  subst h7
  go_wp2_with fail
  go_ret
  exact ⟨rfl, B6.out⟩
end Go.Proofs.Ytnobfmdjnldfpaa
