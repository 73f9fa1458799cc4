/-
  EventOwn's walk. Each statement bears its own conditions.
-/
import Derived.Test.YtehlgfflbbfjkaaEvD
namespace Go.Proofs.Ytehlgfflbbfjkaa.E
open Go.RowKit Go.Proofs.Ytehlgfflbbfjkaa.I
set_option linter.unusedVariables false
set_option linter.unusedSimpArgs false
set_option maxRecDepth 100000 in
set_option maxHeartbeats 8000000 in
theorem own_walk (a b : Int) (w : World) : Calls Try.prog 6 #[.int .i64 a, .int .i64 b] w fun e w' => e = .returned (.bool true) ∧ Below w.heap.size w w' := by
  have heN : ∀ (w : World), (binOp .eql 23 (.pointer none) (.pointer none)).run Try.prog w = .ok (.bool true) w := fun _ => rfl
  have he : ∀ (x : Nat) (w : World), (binOp .eql 23 (.pointer (some ⟨x, 0, none⟩)) (.pointer none)).run Try.prog w = .ok (.bool false) w := fun _ _ => rfl
  obtain ⟨lo, hlo⟩ : ∃ lo, w.heap.size = lo := ⟨_, rfl⟩
  have NW := Lib.hid (new_any w)
  have HLO : Hid (lo ≤ w.heap.size ∧ w.heap.size ≤ lo) := by unfold Hid; omega
  rw [hlo] at NW ⊢
  clear hlo
  go_enter Try.func6, Try.ntmps6
  go_wp2_with fail
  refine NW.out.mono ?_
  rintro e w1 ⟨rfl, q1, b1⟩
  have Q1 := Lib.hid q1
  have B1 := Lib.hid b1
  clear q1 b1 NW
  go_wp2_with fail
  refine (told_any w1).mono ?_
  rintro e w2 ⟨rfl, b2⟩
  have Q2 : Hid (EV lo w2 lo lo false []) := Q1.out.below b2
  have B2 : Hid (Below lo w w2) := B1.out.trans (b2.mono (by have := Q1.out.lt; omega))
  clear b2 Q1 B1
  go_wp2_with fail
  refine (wait_any lo _ _ _ _ a _ Q2.out (by simp)).mono ?_
  rintro e w3 ⟨rfl, rb3, q3, n3⟩
  have Q3 : Hid (EV lo w3 lo rb3 false [a]) := by unfold Hid; simpa [waitI] using q3
  have B3 : Hid (Below lo w w3) := B2.out.trans (n3.below Q2.out)
  clear q3 n3 Q2 B2
  go_wp2_with fail
  refine (waiting_any lo _ _ _ _ _ Q3.out (by simp)).mono ?_
  rintro e w4 ⟨A, n, c, rb4, rfl, r4, f4, b4⟩
  obtain ⟨⟨c', hv⟩, d4, hlt4⟩ := r4.cells 0 (by simp)
  injection hv with h1 h2 h3
  simp at h2
  subst h1 h2 h3
  have hf4 : w3.heap.size ≤ rb4 := by
    rcases f4 with f4 | f4
    · cases f4
    · exact f4.1
  have d4 : w4.cell? ⟨rb4, 0, none⟩ = some (.int .i64 a) := d4
  have g4 : w4.frozen? ⟨rb4, 0, none⟩ = false := by
    rcases r4.form with ⟨h, _⟩ | ⟨cap, cur, _, hg, _⟩
    · cases h
    · exact (row_cell hg 0).2
  obtain ⟨W5, hW5⟩ : ∃ W5, w4.setCell ⟨rb4, 0, none⟩ (.int .i64 b) = W5 := ⟨_, rfl⟩
  have Q5 : Hid (EV lo W5 lo rb3 false [a]) := by
    have h := Q3.out.below b4
    have h1 := Q3.out.lt
    unfold Hid
    rw [← hW5]
    exact h.keep (by simp) (set_far _ _ (by omega)) (set_far _ _ (by omega))
  have B5 : Hid (Below lo w W5) := by
    have h1 := Q3.out.lt
    have h2 := Q3.out.low
    unfold Hid
    rw [← hW5]
    exact (B3.out.trans (b4.mono (by omega))).setCell (by show lo ≤ rb4; omega) _
  clear r4 f4 b4 hf4 hlt4 Q3 B3
  go_wp2_with fail
  refine (waiting_any lo _ _ _ _ _ Q5.out (by simp)).mono ?_
  rintro e w6 ⟨A6, n6, c6, rb6, rfl, r6, f6, b6⟩
  obtain ⟨⟨c', hv⟩, d6, hlt6⟩ := r6.cells 0 (by simp)
  injection hv with h1 h2 h3
  simp at h2
  subst h1 h2 h3
  have d6 : w6.cell? ⟨rb6, 0, none⟩ = some (.int .i64 a) := d6
  have B6 : Hid (Below lo w w6) := B5.out.trans (b6.mono (by have := Q5.out.lt; omega))
  clear r6 f6 b6 hlt6 Q5 B5 hW5 d4 g4
  go_wp2_with fail
  refine (nil_reset _).mono ?_
  rintro e w7 ⟨rfl, hw⟩; have hw := hw.symm; subst hw
  go_wp2_with fail
  refine (nil_set _).mono ?_
  rintro e w7 ⟨rfl, hw⟩; have hw := hw.symm; subst hw
  go_wp2_with fail
  refine (nil_wait _ _).mono ?_
  rintro e w7 ⟨rfl, hw⟩; have hw := hw.symm; subst hw
  go_wp2_with fail
  refine (nil_drop _ _).mono ?_
  rintro e w7 ⟨rfl, b7⟩
  have B7 : Hid (Below lo w w7) := B6.out.trans (b7.mono (by have := B6.out.size; have := HLO.out; omega))
  clear b7
  go_wp2_with fail
  refine (nil_up _).mono ?_
  rintro e w8 ⟨rfl, hw⟩; have hw := hw.symm; subst hw
  go_wp2_with fail
  refine (nil_waiting _).mono ?_
  rintro e w8 ⟨rfl, hw⟩; have hw := hw.symm; subst hw
  go_wp2_with fail
  refine (nil_clone _).mono ?_
  rintro e w8 ⟨rfl, hw⟩; have hw := hw.symm; subst hw
  go_wp2_with fail
  refine (nil_same _).mono ?_
  rintro e w8 ⟨rfl, hw⟩; have hw := hw.symm; subst hw
  go_wp2_with fail
  refine (same_nil _ _).mono ?_
  rintro e w8 ⟨rfl, hw⟩; have hw := hw.symm; subst hw
  go_wp2_with fail
  go_ret
  exact ⟨rfl, B7.out⟩
end Go.Proofs.Ytehlgfflbbfjkaa.E
