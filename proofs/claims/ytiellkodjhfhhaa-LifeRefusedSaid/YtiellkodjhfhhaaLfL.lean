/-
  What the law does by the way. Each statement bears its own conditions.
-/
import Derived.Test.YtiellkodjhfhhaaLfR
import Derived.Deep.QuietTactic
namespace Go.Proofs.Ytiellkodjhfhhaa.Lf
open Go.RowKit Go.Proofs.Ytiellkodjhfhhaa.F 
set_option linter.unusedVariables false
set_option linter.unusedSimpArgs false
theorem he_li : ∀ (x : Nat) (w : World), (binOp .eql 24 (.pointer (some ⟨x, 0, none⟩)) (.pointer none)).run Try.prog w = .ok (.bool false) w := fun _ _ => rfl
theorem hn_li : ∀ (x : Nat) (w : World), (binOp .neq 24 (.pointer (some ⟨x, 0, none⟩)) (.pointer none)).run Try.prog w = .ok (.bool true) w := fun _ _ => rfl
theorem box4 {w : World} {b : Nat} {c0 c1 c2 c3 : Value} {t : TypeId} (h : w.heap[b]? = some (.cells #[c0, c1, c2, c3] t (0, 0))) (a0 a1 a2 a3 : Value) : ((((w.setCell ⟨b, 0, none⟩ (a0)).setCell ⟨b, 1, none⟩ (a1)).setCell ⟨b, 2, none⟩ (a2)).setCell ⟨b, 3, none⟩ (a3)).heap[b]? = some (.cells #[a0, a1, a2, a3] t (0, 0)) ∧ Fo (fun x => x = b) w ((((w.setCell ⟨b, 0, none⟩ (a0)).setCell ⟨b, 1, none⟩ (a1)).setCell ⟨b, 2, none⟩ (a2)).setCell ⟨b, 3, none⟩ (a3)) :=
  ⟨set_at (set_at (set_at (set_at h 0 a0) 1 a1) 2 a2) 3 a3, ((((Fo.refl (fun x => x = b) w).setCell (.inl rfl) _ _).setCell (.inl rfl) _ _).setCell (.inl rfl) _ _).setCell (.inl rfl) _ _⟩
theorem told_any (w : World) : Calls Try.prog 10 #[] w fun e w' => e = .returned (.bool true) ∧ Below w.heap.size w w' := by
  have he := he_li
  have NW := Lib.hid (new_any 1 w (by unfold newI; omega))
  go_enter Try.func10, Try.ntmps10
  go_wp2_with fail
  refine NW.out.mono ?_
  rintro e w1 ⟨rfl, q1, b1⟩
  have Q1 := Lib.hid q1
  have B1 := Lib.hid b1
  clear q1 b1 NW
  go_wp2_with fail
  refine (run_any _ _ _ Q1.out).mono ?_
  rintro e w2 ⟨rfl, q2, f2⟩
  have Q2 : Hid (LV w2 w.heap.size ⟨3, 1, 0⟩) := q2
  have B2 : Hid (Below w.heap.size w w2) := B1.out.trans (f2.below (fun b hb => by rw [hb]; exact Nat.le_refl _) B1.out.size)
  clear q2 f2 Q1 B1
  rw [show runE ⟨1, 1, 0⟩ = 0 from rfl]
  go_wp2_with fail
  refine (do_any _ _ _ _ Q2.out).mono ?_
  rintro e w3 ⟨rfl, q3, f3⟩
  have Q3 : Hid (LV w3 w.heap.size ⟨2, 0, 1⟩) := q3
  have B3 : Hid (Below w.heap.size w w3) := B2.out.trans (f3.below (fun b hb => by rw [hb]; exact Nat.le_refl _) B2.out.size)
  clear q3 f3 Q2 B2
  rw [show (doS ⟨3, 1, 0⟩ 4).mode = 2 from rfl, show doA ⟨3, 1, 0⟩ 4 = true from rfl, show doE ⟨3, 1, 0⟩ 4 = 0 from rfl]
  go_wp2_with fail
  refine (run_any _ _ _ Q3.out).mono ?_
  rintro e w4 ⟨rfl, q4, f4⟩
  have Q4 : Hid (LV w4 w.heap.size ⟨3, 0, 1⟩) := q4
  have B4 : Hid (Below w.heap.size w w4) := B3.out.trans (f4.below (fun b hb => by rw [hb]; exact Nat.le_refl _) B3.out.size)
  clear q4 f4 Q3 B3
  rw [show runE ⟨2, 0, 1⟩ = 0 from rfl]
  go_wp2_with fail
  refine (do_any _ _ _ _ Q4.out).mono ?_
  rintro e w5 ⟨rfl, q5, f5⟩
  have Q5 : Hid (LV w5 w.heap.size ⟨0, 0, 1⟩) := q5
  have B5 : Hid (Below w.heap.size w w5) := B4.out.trans (f5.below (fun b hb => by rw [hb]; exact Nat.le_refl _) B4.out.size)
  clear q5 f5 Q4 B4
  rw [show (doS ⟨3, 0, 1⟩ 5).mode = 0 from rfl, show doA ⟨3, 0, 1⟩ 5 = false from rfl, show doE ⟨3, 0, 1⟩ 5 = 8 from rfl]
  go_wp2_with fail
  refine (do_any _ _ _ _ Q5.out).mono ?_
  rintro e w6 ⟨rfl, q6, f6⟩
  have Q6 : Hid (LV w6 w.heap.size ⟨0, 0, 1⟩) := q6
  have B6 : Hid (Below w.heap.size w w6) := B5.out.trans (f6.below (fun b hb => by rw [hb]; exact Nat.le_refl _) B5.out.size)
  clear q6 f6 Q5 B5
  rw [show (doS ⟨0, 0, 1⟩ 5).mode = 0 from rfl, show doA ⟨0, 0, 1⟩ 5 = false from rfl, show doE ⟨0, 0, 1⟩ 5 = 19 from rfl]
  go_wp2_with fail
  refine (starts_any _ _ _ Q6.out).mono ?_
  rintro e w7 ⟨rfl, hw7⟩
  rw [hw7]
  clear hw7
  go_wp2_with fail
  refine (left_any _ _ _ Q6.out).mono ?_
  rintro e w7 ⟨rfl, hw7⟩
  rw [hw7]
  clear hw7
  go_wp2_with fail
  go_ret
  exact ⟨rfl, B6.out⟩
set_option maxRecDepth 100000 in
set_option maxHeartbeats 4000000 in
theorem lsame_any (g : Nat) (s : LS) (f : Int) (w : World) (h : LV w g s) : Calls Try.prog 13 #[.pointer (some ⟨g, 0, none⟩), RA s f] w fun e w' => e = .returned (.bool true) ∧ Below w.heap.size w w' := by
  unfold RA
  have hx : Below w.heap.size w (w.alloc (.cells #[.int .i64 s.mode, .int .i64 s.starts, .int .i64 s.left, .int .i64 f] 30)) := (Below.refl _ _).alloc (Nat.le_refl _) _
  have HX0 : Hid ((w.alloc (.cells #[.int .i64 s.mode, .int .i64 s.starts, .int .i64 s.left, .int .i64 f] 30)).heap[w.heap.size]? = some (.cells #[.int .i64 s.mode, .int .i64 s.starts, .int .i64 s.left, .int .i64 f] 30 (0, 0))) := heap_alloc_new _ _
  have L1 := Lib.hid (h.below hx)
  have B1 := Lib.hid hx
  obtain ⟨X, hX⟩ : ∃ X, w.heap.size = X := ⟨_, rfl⟩
  obtain ⟨W0, hW0⟩ : ∃ W0, w.alloc (.cells #[.int .i64 s.mode, .int .i64 s.starts, .int .i64 s.left, .int .i64 f] 30) = W0 := ⟨_, rfl⟩
  rw [hX, hW0] at B1 HX0
  rw [hW0] at L1
  rw [hX]
  have CM : ∀ n, Calls Try.prog 16 #[.pointer (some ⟨g, 0, none⟩)] (W0.drewN n) fun e w' => e = .returned (.int .i64 s.mode) ∧ w' = W0.drewN n := fun n => mode_any g s _ ⟨L1.out.hp, L1.out.ok⟩
  have CS : ∀ n, Calls Try.prog 17 #[.pointer (some ⟨g, 0, none⟩)] (W0.drewN n) fun e w' => e = .returned (.int .i64 s.starts) ∧ w' = W0.drewN n := fun n => starts_any g s _ ⟨L1.out.hp, L1.out.ok⟩
  have CL : ∀ n, Calls Try.prog 18 #[.pointer (some ⟨g, 0, none⟩)] (W0.drewN n) fun e w' => e = .returned (.int .i64 s.left) ∧ w' = W0.drewN n := fun n => left_any g s _ ⟨L1.out.hp, L1.out.ok⟩
  clear hx h
  have x0 : W0.cell? ⟨X, 0, none⟩ = some (.int .i64 s.mode) := by rw [(row_cell HX0.out 0).1]; rfl
  have x1 : W0.cell? ⟨X, 1, none⟩ = some (.int .i64 s.starts) := by rw [(row_cell HX0.out 1).1]; rfl
  have x2 : W0.cell? ⟨X, 2, none⟩ = some (.int .i64 s.left) := by rw [(row_cell HX0.out 2).1]; rfl
  have x3 : W0.cell? ⟨X, 3, none⟩ = some (.int .i64 f) := by rw [(row_cell HX0.out 3).1]; rfl
  have CM := Lib.hid CM
  have CS := Lib.hid CS
  have CL := Lib.hid CL
  go_enter Try.func13, Try.ntmps13
  go_wp2_with fail
  go_quiet (first
    | (refine Calls.quiet_of_same (CM.out _))
    | (refine Calls.quiet_of_same (CS.out _))
    | (refine Calls.quiet_of_same (CL.out _)))
  go_wp2_with fail
  go_ret
  exact ⟨by simp, below_drewN B1.out _⟩
end Go.Proofs.Ytiellkodjhfhhaa.Lf
