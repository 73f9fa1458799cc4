/-
  What the law does. Each statement bears its own conditions.
-/
import Derived.Test.YtiellkodjhfhhaaLfL
namespace Go.Proofs.Ytiellkodjhfhhaa.Lf
open Go.RowKit Go.Proofs.Ytiellkodjhfhhaa.F 
set_option linter.unusedVariables false
set_option linter.unusedSimpArgs false
/-- What is done: below -9 Reset, below 0 Run, else Do. -/
def actS (s : LS) (a : Int) : LS := if a < -9 then resetS s else if a < 0 then runS s else doS s a
theorem actS_ok {s : LS} (h : s.ok) (a : Int) : (actS s a).ok := by
  unfold actS
  split
  · exact resetS_ok h
  split
  · exact runS_ok h
  · exact doS_ok h a
theorem actS_sum {s : LS} {f : Int} (h : f = s.left + s.starts) (a : Int) : f = (actS s a).left + (actS s a).starts := by
  unfold actS resetS runS doS
  split
  · simp only; omega
  split
  · split
    · exact h
    · exact h
  split
  · exact h
  split
  · exact h
  split
  · exact h
  split
  · exact h
  · simp only; omega
set_option maxRecDepth 100000 in
set_option maxHeartbeats 4000000 in
theorem ldo_reset (g : Nat) (s : LS) (f a : Int) (w : World) (h : LV w g s) (hf : f = s.left + s.starts) (ha : a < -9) : Calls Try.prog 12 #[.pointer (some ⟨g, 0, none⟩), RA s f, .int .i64 a] w fun e w' => e = .returned (.tuple #[RA (resetS s) f, .bool true]) ∧ LV w' g (resetS s) ∧ Fo (fun b => b = g) w w' := by
  unfold RA
  have HN0 : Hid (LV w g s) := h
  obtain ⟨X, hX⟩ : ∃ X, w.heap.size = X := ⟨_, rfl⟩
  obtain ⟨W0, hW0⟩ : ∃ W0, (w.alloc (.cells #[.int .i64 s.mode, .int .i64 s.starts, .int .i64 s.left, .int .i64 f] 30)).alloc (.cells #[.int .i64 0, .int .i64 0, .int .i64 0, .int .i64 0] 30) = W0 := ⟨_, rfl⟩
  have B0 : Hid (Below X w W0) := by rw [← hW0, ← hX]; exact (((Below.refl _ _).alloc (Nat.le_refl _) _).alloc (by simp) _)
  have S0 : Hid (W0.heap.size = X + 2) := by rw [← hW0, ← hX]; unfold Hid; simp
  have HX0 : Hid (W0.heap[X]? = some (.cells #[.int .i64 s.mode, .int .i64 s.starts, .int .i64 s.left, .int .i64 f] 30 (0, 0))) := by
    rw [← hW0, ← hX]; exact (((Below.refl _ _).alloc (Nat.le_refl _) _).block _ (by simp)).trans (heap_alloc_new _ _)
  have HY0 : Hid (W0.heap[X + 1]? = some (.cells #[.int .i64 0, .int .i64 0, .int .i64 0, .int .i64 0] 30 (0, 0))) := by
    rw [← hW0, ← hX]; have := heap_alloc_new (w.alloc (.cells #[.int .i64 s.mode, .int .i64 s.starts, .int .i64 s.left, .int .i64 f] 30)) (.cells #[.int .i64 0, .int .i64 0, .int .i64 0, .int .i64 0] 30); unfold Hid; simpa using this
  have HG : Hid (g < X) := by rw [← hX]; exact h.lt
  have L0 : Hid (LV W0 g s) := h.below (by rw [hX]; exact B0.out)
  clear h
  have gb : decide (a < -9) = true := by simpa using ha
  have gb' : a < -9 := ha
  have HF : Hid (f = s.left + s.starts) := hf
  clear hf ha
  have x0 : W0.cell? ⟨X, 0, none⟩ = some (.int .i64 s.mode) := by rw [(row_cell HX0.out 0).1]; rfl
  have xz0 : W0.frozen? ⟨X, 0, none⟩ = false := (row_cell HX0.out 0).2
  have x1 : W0.cell? ⟨X, 1, none⟩ = some (.int .i64 s.starts) := by rw [(row_cell HX0.out 1).1]; rfl
  have xz1 : W0.frozen? ⟨X, 1, none⟩ = false := (row_cell HX0.out 1).2
  have x2 : W0.cell? ⟨X, 2, none⟩ = some (.int .i64 s.left) := by rw [(row_cell HX0.out 2).1]; rfl
  have xz2 : W0.frozen? ⟨X, 2, none⟩ = false := (row_cell HX0.out 2).2
  have x3 : W0.cell? ⟨X, 3, none⟩ = some (.int .i64 f) := by rw [(row_cell HX0.out 3).1]; rfl
  have xz3 : W0.frozen? ⟨X, 3, none⟩ = false := (row_cell HX0.out 3).2
  go_enter Try.func12, Try.ntmps12
  go_wp2_with fail
  refine (reset_any _ _ _ L0.out).mono ?_
  rintro e w1 ⟨rfl, q1, f1⟩
  have Q1 := Lib.hid q1
  have F1 := Lib.hid f1
  have HX1 : Hid (w1.heap[X]? = some (.cells #[.int .i64 s.mode, .int .i64 s.starts, .int .i64 s.left, .int .i64 f] 30 (0, 0))) := (f1.block X (by rw [S0.out]; omega) (by have := HG.out; omega)).trans HX0.out
  have HY1 : Hid (w1.heap[X + 1]? = some (.cells #[.int .i64 0, .int .i64 0, .int .i64 0, .int .i64 0] 30 (0, 0))) := (f1.block (X + 1) (by rw [S0.out]; omega) (by have := HG.out; omega)).trans HY0.out
  have p3 : w1.cell? ⟨X, 3, none⟩ = some (.int .i64 f) := by rw [(row_cell HX1.out 3).1]; rfl
  clear q1 f1 x0 xz0 x1 xz1 x2 xz2 x3 xz3
  go_wp2_with fail
  refine (rnew_any f w1).mono ?_
  rintro e w2 ⟨rfl, b2⟩
  have Q2 := Lib.hid (Q1.out.below b2)
  have HY2 : Hid (w2.heap[X + 1]? = some (.cells #[.int .i64 0, .int .i64 0, .int .i64 0, .int .i64 0] 30 (0, 0))) := (b2.block (X + 1) (Array.getElem?_eq_some_iff.1 HY1.out).1).trans HY1.out
  have F2 : Hid (Fo (fun b => b = g) W0 w2) := F1.out.trans (Fo.of_below b2 : Fo (fun b => b = g) w1 w2) fun i hi => .inl hi
  unfold RA
  have y0 : w2.cell? ⟨X + 1, 0, none⟩ = some (.int .i64 0) := by rw [(row_cell HY2.out 0).1]; rfl
  have yz0 : w2.frozen? ⟨X + 1, 0, none⟩ = false := (row_cell HY2.out 0).2
  have y1 : w2.cell? ⟨X + 1, 1, none⟩ = some (.int .i64 0) := by rw [(row_cell HY2.out 1).1]; rfl
  have yz1 : w2.frozen? ⟨X + 1, 1, none⟩ = false := (row_cell HY2.out 1).2
  have y2 : w2.cell? ⟨X + 1, 2, none⟩ = some (.int .i64 0) := by rw [(row_cell HY2.out 2).1]; rfl
  have yz2 : w2.frozen? ⟨X + 1, 2, none⟩ = false := (row_cell HY2.out 2).2
  have y3 : w2.cell? ⟨X + 1, 3, none⟩ = some (.int .i64 0) := by rw [(row_cell HY2.out 3).1]; rfl
  have yz3 : w2.frozen? ⟨X + 1, 3, none⟩ = false := (row_cell HY2.out 3).2
  clear b2 p3
  go_wp2_with fail
  refine bodyPost_ret (results_cell_tmp rfl _ _ (X + 1) _ _ rfl (set_four HY2.out _ _ _ _) Try.underlying30 rfl (by kernel_rfl)) rfl ?_
  have BX := (box4 HY2.out (.int .i64 (resetS s).mode) (.int .i64 (resetS s).starts) (.int .i64 (resetS s).left) (.int .i64 f)).2
  have hg := HG.out
  have e1 : (resetS s).left = f := HF.out.symm
  have F0 : Fo (fun b => b = g) w W0 := Fo.of_below (by rw [hX]; exact B0.out)
  have F3 : Fo (fun b => b = g) w _ := F0.trans F2.out (fun i hi => .inl hi)
  refine ⟨?_, ?_, ?_⟩
  · simp only [e1]; rfl
  · rw [e1] at BX; exact Q2.out.fo BX (by omega)
  · rw [e1] at BX; exact F3.trans BX (fun i hi => .inr (by rw [hi]; omega))
set_option maxRecDepth 100000 in
set_option maxHeartbeats 4000000 in
theorem ldo_run (g : Nat) (s : LS) (f a : Int) (w : World) (h : LV w g s) (ha : ¬ a < -9) (hb : a < 0) : Calls Try.prog 12 #[.pointer (some ⟨g, 0, none⟩), RA s f, .int .i64 a] w fun e w' => e = .returned (.tuple #[RA (runS s) f, .bool true]) ∧ LV w' g (runS s) ∧ Fo (fun b => b = g) w w' := by
  unfold RA
  have HN0 : Hid (LV w g s) := h
  obtain ⟨X, hX⟩ : ∃ X, w.heap.size = X := ⟨_, rfl⟩
  obtain ⟨W0, hW0⟩ : ∃ W0, (w.alloc (.cells #[.int .i64 s.mode, .int .i64 s.starts, .int .i64 s.left, .int .i64 f] 30)).alloc (.cells #[.int .i64 0, .int .i64 0, .int .i64 0, .int .i64 0] 30) = W0 := ⟨_, rfl⟩
  have B0 : Hid (Below X w W0) := by rw [← hW0, ← hX]; exact (((Below.refl _ _).alloc (Nat.le_refl _) _).alloc (by simp) _)
  have S0 : Hid (W0.heap.size = X + 2) := by rw [← hW0, ← hX]; unfold Hid; simp
  have HX0 : Hid (W0.heap[X]? = some (.cells #[.int .i64 s.mode, .int .i64 s.starts, .int .i64 s.left, .int .i64 f] 30 (0, 0))) := by
    rw [← hW0, ← hX]; exact (((Below.refl _ _).alloc (Nat.le_refl _) _).block _ (by simp)).trans (heap_alloc_new _ _)
  have HY0 : Hid (W0.heap[X + 1]? = some (.cells #[.int .i64 0, .int .i64 0, .int .i64 0, .int .i64 0] 30 (0, 0))) := by
    rw [← hW0, ← hX]; have := heap_alloc_new (w.alloc (.cells #[.int .i64 s.mode, .int .i64 s.starts, .int .i64 s.left, .int .i64 f] 30)) (.cells #[.int .i64 0, .int .i64 0, .int .i64 0, .int .i64 0] 30); unfold Hid; simpa using this
  have HG : Hid (g < X) := by rw [← hX]; exact h.lt
  have L0 : Hid (LV W0 g s) := h.below (by rw [hX]; exact B0.out)
  clear h
  have gb : decide (a < -9) = false := by simpa using ha
  have gc : decide (a < 0) = true := by simpa using hb
  clear ha
  have x0 : W0.cell? ⟨X, 0, none⟩ = some (.int .i64 s.mode) := by rw [(row_cell HX0.out 0).1]; rfl
  have xz0 : W0.frozen? ⟨X, 0, none⟩ = false := (row_cell HX0.out 0).2
  have x1 : W0.cell? ⟨X, 1, none⟩ = some (.int .i64 s.starts) := by rw [(row_cell HX0.out 1).1]; rfl
  have xz1 : W0.frozen? ⟨X, 1, none⟩ = false := (row_cell HX0.out 1).2
  have x2 : W0.cell? ⟨X, 2, none⟩ = some (.int .i64 s.left) := by rw [(row_cell HX0.out 2).1]; rfl
  have xz2 : W0.frozen? ⟨X, 2, none⟩ = false := (row_cell HX0.out 2).2
  have x3 : W0.cell? ⟨X, 3, none⟩ = some (.int .i64 f) := by rw [(row_cell HX0.out 3).1]; rfl
  have xz3 : W0.frozen? ⟨X, 3, none⟩ = false := (row_cell HX0.out 3).2
  go_enter Try.func12, Try.ntmps12
  go_wp2_with fail
  refine (rrun_any s f W0).mono ?_
  rintro e w1 ⟨rfl, b1⟩
  unfold RA
  have b2 : Below W0.heap.size W0 (w1.alloc (.cells #[.int .i64 0, .int .i64 0, .int .i64 0, .int .i64 0] 30)) := b1.alloc b1.size _
  have HZ0 : Hid ((w1.alloc (.cells #[.int .i64 0, .int .i64 0, .int .i64 0, .int .i64 0] 30)).heap[w1.heap.size]? = some (.cells #[.int .i64 0, .int .i64 0, .int .i64 0, .int .i64 0] 30 (0, 0))) := heap_alloc_new _ _
  have hsz := b1.size
  obtain ⟨Y, hY⟩ : ∃ Y, w1.heap.size = Y := ⟨_, rfl⟩
  obtain ⟨W2, hW2⟩ : ∃ W2, w1.alloc (.cells #[.int .i64 0, .int .i64 0, .int .i64 0, .int .i64 0] 30) = W2 := ⟨_, rfl⟩
  rw [hW2] at b2 HZ0
  rw [hY] at HZ0 hsz
  have z0 : W2.cell? ⟨Y, 0, none⟩ = some (.int .i64 0) := by rw [(row_cell HZ0.out 0).1]; rfl
  have zz0 : W2.frozen? ⟨Y, 0, none⟩ = false := (row_cell HZ0.out 0).2
  have z1 : W2.cell? ⟨Y, 1, none⟩ = some (.int .i64 0) := by rw [(row_cell HZ0.out 1).1]; rfl
  have zz1 : W2.frozen? ⟨Y, 1, none⟩ = false := (row_cell HZ0.out 1).2
  have z2 : W2.cell? ⟨Y, 2, none⟩ = some (.int .i64 0) := by rw [(row_cell HZ0.out 2).1]; rfl
  have zz2 : W2.frozen? ⟨Y, 2, none⟩ = false := (row_cell HZ0.out 2).2
  have z3 : W2.cell? ⟨Y, 3, none⟩ = some (.int .i64 0) := by rw [(row_cell HZ0.out 3).1]; rfl
  have zz3 : W2.frozen? ⟨Y, 3, none⟩ = false := (row_cell HZ0.out 3).2
  have L2 := L0.out.below b2
  have hg := HG.out
  have hs0 := S0.out
  have BX := box4 HZ0.out (.int .i64 (runS s).mode) (.int .i64 (runS s).starts) (.int .i64 (runS s).left) (.int .i64 f)
  have hY2 : W2.heap[X + 1]? = some (.cells #[.int .i64 0, .int .i64 0, .int .i64 0, .int .i64 0] 30 (0, 0)) := (b2.block (X + 1) (by omega)).trans HY0.out
  have F0 : Fo (fun b => b = g) w W0 := Fo.of_below (by rw [hX]; exact B0.out)
  obtain ⟨W5, hW5⟩ : ∃ W5, ((((W2.setCell ⟨Y, 0, none⟩ (.int .i64 (runS s).mode)).setCell ⟨Y, 1, none⟩ (.int .i64 (runS s).starts)).setCell ⟨Y, 2, none⟩ (.int .i64 (runS s).left)).setCell ⟨Y, 3, none⟩ (.int .i64 f)) = W5 := ⟨_, rfl⟩
  rw [hW5] at BX
  have H5 := Lib.hid BX.1
  have L5 := Lib.hid (L2.fo BX.2 (by omega))
  have Y5 : Hid (W5.heap[X + 1]? = some (.cells #[.int .i64 0, .int .i64 0, .int .i64 0, .int .i64 0] 30 (0, 0))) := (BX.2.block (X + 1) (Array.getElem?_eq_some_iff.1 hY2).1 (by omega)).trans hY2
  have F5 : Hid (Fo (fun b => b = g) w W5) := (F0.trans (Fo.of_below b2 : Fo (fun b => b = g) W0 W2) fun i hi => .inl hi).trans BX.2 fun i hi => .inr (by rw [hi]; omega)
  have HNE : Hid (Y ≠ g ∧ Y ≠ X + 1 ∧ g ≠ X + 1 ∧ w.heap.size ≤ X + 1) := by unfold Hid; omega
  have v0 : W5.cell? ⟨Y, 0, none⟩ = some (.int .i64 (runS s).mode) := by rw [(row_cell H5.out 0).1]; rfl
  have v1 : W5.cell? ⟨Y, 1, none⟩ = some (.int .i64 (runS s).starts) := by rw [(row_cell H5.out 1).1]; rfl
  have v2 : W5.cell? ⟨Y, 2, none⟩ = some (.int .i64 (runS s).left) := by rw [(row_cell H5.out 2).1]; rfl
  have v3 : W5.cell? ⟨Y, 3, none⟩ = some (.int .i64 f) := by rw [(row_cell H5.out 3).1]; rfl
  clear b1 b2 hsz L2 hg hs0 BX hY2 F0 x0 xz0 x1 xz1 x2 xz2 x3 xz3
  go_wp2_with fail
  have L6 : LV W5.drew g s := ⟨L5.out.hp, L5.out.ok⟩
  refine wp_region_held_drew (S := (fun w' => w'.cell? ⟨Y, 0, none⟩ = some (.int .i64 (runS s).mode) ∧ w'.cell? ⟨Y, 1, none⟩ = some (.int .i64 (runS s).starts) ∧ w'.cell? ⟨Y, 2, none⟩ = some (.int .i64 (runS s).left) ∧ w'.cell? ⟨Y, 3, none⟩ = some (.int .i64 f))) (by kernel_rfl) ?_ (fun hHeld => ?_)
  · exact ⟨v0, v1, v2, v3⟩
  refine takeD (i := 0) (d := some 30) (v := ?_) _ rfl rfl (by kernel_rfl) (by kernel_rfl) (by kernel_rfl) (fun _ _ _ h => h) (by rfl) ?_ (by assumption) ?_
  rotate_left
  · (intro w hSw; (try dsimp only at hSw); go_simp) <;> with_reducible rfl
  try simp only [Act.put, List.setIfInBounds_toArray, List.set_cons_zero, List.set_cons_succ]
  refine takeD (i := 1) (d := some 31) (v := ?_) _ rfl rfl (by kernel_rfl) (by kernel_rfl) (by kernel_rfl) (fun _ _ _ h => h) (by rfl) ?_ (by assumption) ?_
  rotate_left
  · (intro w hSw; (try dsimp only at hSw); go_simp) <;> with_reducible rfl
  try simp only [Act.put, List.setIfInBounds_toArray, List.set_cons_zero, List.set_cons_succ]
  refine takeD (i := 3) (d := some 33) (v := ?_) _ rfl rfl (by kernel_rfl) (by kernel_rfl) (by kernel_rfl) (fun _ _ _ h => h) (by rfl) ?_ (by assumption) ?_
  rotate_left
  · (intro w hSw; (try dsimp only at hSw); go_simp) <;> with_reducible rfl
  try simp only [Act.put, List.setIfInBounds_toArray, List.set_cons_zero, List.set_cons_succ]
  refine wpAnyH_ready (rs := [2]) (by kernel_rfl) (by simp) ?_
  refine AllReadyH.cons rfl (fun K hK => ?_) AllReadyH.nil
  try go_simp
  go_at_call 14
  refine (run_any g s _ L6).mono ?_
  rintro e w6 ⟨rfl, q6, f6⟩
  have Q6 := Lib.hid q6
  have F6 := Lib.hid f6
  have hne := HNE.out
  have Y6 : Hid (w6.heap[X + 1]? = some (.cells #[.int .i64 0, .int .i64 0, .int .i64 0, .int .i64 0] 30 (0, 0))) := (f6.block (X + 1) (Array.getElem?_eq_some_iff.1 Y5.out).1 (by omega)).trans Y5.out
  have kp := (⟨(f6).cell (by show ¬ (Y = g); omega) (hHeld.1), (f6).cell (by show ¬ (Y = g); omega) (hHeld.2.1), (f6).cell (by show ¬ (Y = g); omega) (hHeld.2.2.1), (f6).cell (by show ¬ (Y = g); omega) (hHeld.2.2.2)⟩ : w6.cell? ⟨Y, 0, none⟩ = some (.int .i64 (runS s).mode) ∧ w6.cell? ⟨Y, 1, none⟩ = some (.int .i64 (runS s).starts) ∧ w6.cell? ⟨Y, 2, none⟩ = some (.int .i64 (runS s).left) ∧ w6.cell? ⟨Y, 3, none⟩ = some (.int .i64 f))
  clear q6 f6 L6
  try go_wp2_with fail
  refine hK.out _ _ kp (fun hHeld => ?_)
  clear kp
  clear hK K
  try simp only [Act.put, List.setIfInBounds_toArray, List.set_cons_zero, List.set_cons_succ]
  refine takeD (i := 4) (d := some 34) (v := ?_) _ rfl rfl (by kernel_rfl) (by kernel_rfl) (by kernel_rfl) (fun _ _ _ h => h) (by rfl) ?_ (by assumption) ?_
  rotate_left
  · (intro w hSw; (try dsimp only at hSw); go_simp) <;> with_reducible rfl
  try simp only [Act.put, List.setIfInBounds_toArray, List.set_cons_zero, List.set_cons_succ]
  have y0 : w6.cell? ⟨X + 1, 0, none⟩ = some (.int .i64 0) := by rw [(row_cell Y6.out 0).1]; rfl
  have yz0 : w6.frozen? ⟨X + 1, 0, none⟩ = false := (row_cell Y6.out 0).2
  have y1 : w6.cell? ⟨X + 1, 1, none⟩ = some (.int .i64 0) := by rw [(row_cell Y6.out 1).1]; rfl
  have yz1 : w6.frozen? ⟨X + 1, 1, none⟩ = false := (row_cell Y6.out 1).2
  have y2 : w6.cell? ⟨X + 1, 2, none⟩ = some (.int .i64 0) := by rw [(row_cell Y6.out 2).1]; rfl
  have yz2 : w6.frozen? ⟨X + 1, 2, none⟩ = false := (row_cell Y6.out 2).2
  have y3 : w6.cell? ⟨X + 1, 3, none⟩ = some (.int .i64 0) := by rw [(row_cell Y6.out 3).1]; rfl
  have yz3 : w6.frozen? ⟨X + 1, 3, none⟩ = false := (row_cell Y6.out 3).2
  have BZ := box4 Y6.out (.int .i64 (runS s).mode) (.int .i64 (runS s).starts) (.int .i64 (runS s).left) (.int .i64 f)
  have kp := (⟨(BZ.2).cell (by show ¬ (Y = X + 1); omega) (hHeld.1), (BZ.2).cell (by show ¬ (Y = X + 1); omega) (hHeld.2.1), (BZ.2).cell (by show ¬ (Y = X + 1); omega) (hHeld.2.2.1), (BZ.2).cell (by show ¬ (Y = X + 1); omega) (hHeld.2.2.2)⟩ : ((((w6.setCell ⟨X + 1, 0, none⟩ (.int .i64 (runS s).mode)).setCell ⟨X + 1, 1, none⟩ (.int .i64 (runS s).starts)).setCell ⟨X + 1, 2, none⟩ (.int .i64 (runS s).left)).setCell ⟨X + 1, 3, none⟩ (.int .i64 f)).cell? ⟨Y, 0, none⟩ = some (.int .i64 (runS s).mode) ∧ ((((w6.setCell ⟨X + 1, 0, none⟩ (.int .i64 (runS s).mode)).setCell ⟨X + 1, 1, none⟩ (.int .i64 (runS s).starts)).setCell ⟨X + 1, 2, none⟩ (.int .i64 (runS s).left)).setCell ⟨X + 1, 3, none⟩ (.int .i64 f)).cell? ⟨Y, 1, none⟩ = some (.int .i64 (runS s).starts) ∧ ((((w6.setCell ⟨X + 1, 0, none⟩ (.int .i64 (runS s).mode)).setCell ⟨X + 1, 1, none⟩ (.int .i64 (runS s).starts)).setCell ⟨X + 1, 2, none⟩ (.int .i64 (runS s).left)).setCell ⟨X + 1, 3, none⟩ (.int .i64 f)).cell? ⟨Y, 2, none⟩ = some (.int .i64 (runS s).left) ∧ ((((w6.setCell ⟨X + 1, 0, none⟩ (.int .i64 (runS s).mode)).setCell ⟨X + 1, 1, none⟩ (.int .i64 (runS s).starts)).setCell ⟨X + 1, 2, none⟩ (.int .i64 (runS s).left)).setCell ⟨X + 1, 3, none⟩ (.int .i64 f)).cell? ⟨Y, 3, none⟩ = some (.int .i64 f))
  have BZ := Lib.hid BZ
  refine wpAnyH_ready (rs := [5]) (by kernel_rfl) (by simp) ?_
  refine AllReadyH.cons rfl (fun K hK => ?_) AllReadyH.nil
  try go_simp
  refine hK.out _ _ kp (fun hHeld => ?_)
  clear kp
  clear hK K
  try simp only [Act.put, List.setIfInBounds_toArray, List.set_cons_zero, List.set_cons_succ]
  refine takeD (i := 6) (d := some 7) (v := ?_) _ rfl rfl (by kernel_rfl) (by kernel_rfl) (by kernel_rfl) (fun _ _ _ h => h) (by rfl) ?_ (by assumption) ?_
  rotate_left
  · (intro w hSw; (try dsimp only at hSw); go_simp) <;> with_reducible rfl
  try simp only [Act.put, List.setIfInBounds_toArray, List.set_cons_zero, List.set_cons_succ]
  refine wpAnyH_done (by kernel_rfl) ?_ _
  go_wp2_with fail
  refine bodyPost_ret (results_cell_tmp rfl _ _ (X + 1) _ _ rfl (set_four Y6.out _ _ _ _) Try.underlying30 rfl (by kernel_rfl)) rfl ?_
  refine ⟨by simp, Q6.out.fo BZ.out.2 (by have := HNE.out; omega), ?_⟩
  exact ((F5.out.trans (Fo.drew (Fo.refl (fun b => b = g) W5)) fun i hi => .inl hi).trans F6.out fun i hi => .inl hi).trans BZ.out.2 fun i hi => .inr (by rw [hi]; have := HNE.out; omega)
set_option maxRecDepth 100000 in
set_option maxHeartbeats 4000000 in
theorem ldo_do (g : Nat) (s : LS) (f a : Int) (w : World) (h : LV w g s) (ha : ¬ a < -9) (hb : ¬ a < 0) : Calls Try.prog 12 #[.pointer (some ⟨g, 0, none⟩), RA s f, .int .i64 a] w fun e w' => e = .returned (.tuple #[RA (doS s a) f, .bool true]) ∧ LV w' g (doS s a) ∧ Fo (fun b => b = g) w w' := by
  unfold RA
  have HN0 : Hid (LV w g s) := h
  obtain ⟨X, hX⟩ : ∃ X, w.heap.size = X := ⟨_, rfl⟩
  obtain ⟨W0, hW0⟩ : ∃ W0, (w.alloc (.cells #[.int .i64 s.mode, .int .i64 s.starts, .int .i64 s.left, .int .i64 f] 30)).alloc (.cells #[.int .i64 0, .int .i64 0, .int .i64 0, .int .i64 0] 30) = W0 := ⟨_, rfl⟩
  have B0 : Hid (Below X w W0) := by rw [← hW0, ← hX]; exact (((Below.refl _ _).alloc (Nat.le_refl _) _).alloc (by simp) _)
  have S0 : Hid (W0.heap.size = X + 2) := by rw [← hW0, ← hX]; unfold Hid; simp
  have HX0 : Hid (W0.heap[X]? = some (.cells #[.int .i64 s.mode, .int .i64 s.starts, .int .i64 s.left, .int .i64 f] 30 (0, 0))) := by
    rw [← hW0, ← hX]; exact (((Below.refl _ _).alloc (Nat.le_refl _) _).block _ (by simp)).trans (heap_alloc_new _ _)
  have HY0 : Hid (W0.heap[X + 1]? = some (.cells #[.int .i64 0, .int .i64 0, .int .i64 0, .int .i64 0] 30 (0, 0))) := by
    rw [← hW0, ← hX]; have := heap_alloc_new (w.alloc (.cells #[.int .i64 s.mode, .int .i64 s.starts, .int .i64 s.left, .int .i64 f] 30)) (.cells #[.int .i64 0, .int .i64 0, .int .i64 0, .int .i64 0] 30); unfold Hid; simpa using this
  have HG : Hid (g < X) := by rw [← hX]; exact h.lt
  have L0 : Hid (LV W0 g s) := h.below (by rw [hX]; exact B0.out)
  clear h
  have gb : decide (a < -9) = false := by simpa using ha
  have gc : decide (a < 0) = false := by simpa using hb
  clear ha hb
  have x0 : W0.cell? ⟨X, 0, none⟩ = some (.int .i64 s.mode) := by rw [(row_cell HX0.out 0).1]; rfl
  have xz0 : W0.frozen? ⟨X, 0, none⟩ = false := (row_cell HX0.out 0).2
  have x1 : W0.cell? ⟨X, 1, none⟩ = some (.int .i64 s.starts) := by rw [(row_cell HX0.out 1).1]; rfl
  have xz1 : W0.frozen? ⟨X, 1, none⟩ = false := (row_cell HX0.out 1).2
  have x2 : W0.cell? ⟨X, 2, none⟩ = some (.int .i64 s.left) := by rw [(row_cell HX0.out 2).1]; rfl
  have xz2 : W0.frozen? ⟨X, 2, none⟩ = false := (row_cell HX0.out 2).2
  have x3 : W0.cell? ⟨X, 3, none⟩ = some (.int .i64 f) := by rw [(row_cell HX0.out 3).1]; rfl
  have xz3 : W0.frozen? ⟨X, 3, none⟩ = false := (row_cell HX0.out 3).2
  go_enter Try.func12, Try.ntmps12
  go_wp2_with fail
  refine (rdo_any s f a W0 L0.out.ok).mono ?_
  rintro e w1 ⟨rfl, b1⟩
  unfold RA
  have b2 : Below W0.heap.size W0 (w1.alloc (.cells #[.int .i64 0, .int .i64 0, .int .i64 0, .int .i64 0] 30)) := b1.alloc b1.size _
  have HZ0 : Hid ((w1.alloc (.cells #[.int .i64 0, .int .i64 0, .int .i64 0, .int .i64 0] 30)).heap[w1.heap.size]? = some (.cells #[.int .i64 0, .int .i64 0, .int .i64 0, .int .i64 0] 30 (0, 0))) := heap_alloc_new _ _
  have hsz := b1.size
  obtain ⟨Y, hY⟩ : ∃ Y, w1.heap.size = Y := ⟨_, rfl⟩
  obtain ⟨W2, hW2⟩ : ∃ W2, w1.alloc (.cells #[.int .i64 0, .int .i64 0, .int .i64 0, .int .i64 0] 30) = W2 := ⟨_, rfl⟩
  rw [hW2] at b2 HZ0
  rw [hY] at HZ0 hsz
  have z0 : W2.cell? ⟨Y, 0, none⟩ = some (.int .i64 0) := by rw [(row_cell HZ0.out 0).1]; rfl
  have zz0 : W2.frozen? ⟨Y, 0, none⟩ = false := (row_cell HZ0.out 0).2
  have z1 : W2.cell? ⟨Y, 1, none⟩ = some (.int .i64 0) := by rw [(row_cell HZ0.out 1).1]; rfl
  have zz1 : W2.frozen? ⟨Y, 1, none⟩ = false := (row_cell HZ0.out 1).2
  have z2 : W2.cell? ⟨Y, 2, none⟩ = some (.int .i64 0) := by rw [(row_cell HZ0.out 2).1]; rfl
  have zz2 : W2.frozen? ⟨Y, 2, none⟩ = false := (row_cell HZ0.out 2).2
  have z3 : W2.cell? ⟨Y, 3, none⟩ = some (.int .i64 0) := by rw [(row_cell HZ0.out 3).1]; rfl
  have zz3 : W2.frozen? ⟨Y, 3, none⟩ = false := (row_cell HZ0.out 3).2
  have L2 := L0.out.below b2
  have hg := HG.out
  have hs0 := S0.out
  have BX := box4 HZ0.out (.int .i64 (doS s a).mode) (.int .i64 (doS s a).starts) (.int .i64 (doS s a).left) (.int .i64 f)
  have hY2 : W2.heap[X + 1]? = some (.cells #[.int .i64 0, .int .i64 0, .int .i64 0, .int .i64 0] 30 (0, 0)) := (b2.block (X + 1) (by omega)).trans HY0.out
  have F0 : Fo (fun b => b = g) w W0 := Fo.of_below (by rw [hX]; exact B0.out)
  obtain ⟨W5, hW5⟩ : ∃ W5, ((((W2.setCell ⟨Y, 0, none⟩ (.int .i64 (doS s a).mode)).setCell ⟨Y, 1, none⟩ (.int .i64 (doS s a).starts)).setCell ⟨Y, 2, none⟩ (.int .i64 (doS s a).left)).setCell ⟨Y, 3, none⟩ (.int .i64 f)) = W5 := ⟨_, rfl⟩
  rw [hW5] at BX
  have H5 := Lib.hid BX.1
  have L5 := Lib.hid (L2.fo BX.2 (by omega))
  have Y5 : Hid (W5.heap[X + 1]? = some (.cells #[.int .i64 0, .int .i64 0, .int .i64 0, .int .i64 0] 30 (0, 0))) := (BX.2.block (X + 1) (Array.getElem?_eq_some_iff.1 hY2).1 (by omega)).trans hY2
  have F5 : Hid (Fo (fun b => b = g) w W5) := (F0.trans (Fo.of_below b2 : Fo (fun b => b = g) W0 W2) fun i hi => .inl hi).trans BX.2 fun i hi => .inr (by rw [hi]; omega)
  have HNE : Hid (Y ≠ g ∧ Y ≠ X + 1 ∧ g ≠ X + 1 ∧ w.heap.size ≤ X + 1) := by unfold Hid; omega
  clear b1 b2 hsz L2 hg hs0 BX hY2 F0 x0 xz0 x1 xz1 x2 xz2 x3 xz3
  go_wp2_with fail
  refine (do_any g s a W5 L5.out).mono ?_
  rintro e w6 ⟨rfl, q6, f6⟩
  have Q6 := Lib.hid q6
  have F6 := Lib.hid f6
  have hne := HNE.out
  have Y6 : Hid (w6.heap[X + 1]? = some (.cells #[.int .i64 0, .int .i64 0, .int .i64 0, .int .i64 0] 30 (0, 0))) := (f6.block (X + 1) (Array.getElem?_eq_some_iff.1 Y5.out).1 (by omega)).trans Y5.out
  have H6 : Hid (w6.heap[Y]? = some (.cells #[.int .i64 (doS s a).mode, .int .i64 (doS s a).starts, .int .i64 (doS s a).left, .int .i64 f] 30 (0, 0))) := (f6.block Y (Array.getElem?_eq_some_iff.1 H5.out).1 (by omega)).trans H5.out
  clear q6 f6 hne
  have y0 : w6.cell? ⟨X + 1, 0, none⟩ = some (.int .i64 0) := by rw [(row_cell Y6.out 0).1]; rfl
  have yz0 : w6.frozen? ⟨X + 1, 0, none⟩ = false := (row_cell Y6.out 0).2
  have y1 : w6.cell? ⟨X + 1, 1, none⟩ = some (.int .i64 0) := by rw [(row_cell Y6.out 1).1]; rfl
  have yz1 : w6.frozen? ⟨X + 1, 1, none⟩ = false := (row_cell Y6.out 1).2
  have y2 : w6.cell? ⟨X + 1, 2, none⟩ = some (.int .i64 0) := by rw [(row_cell Y6.out 2).1]; rfl
  have yz2 : w6.frozen? ⟨X + 1, 2, none⟩ = false := (row_cell Y6.out 2).2
  have y3 : w6.cell? ⟨X + 1, 3, none⟩ = some (.int .i64 0) := by rw [(row_cell Y6.out 3).1]; rfl
  have yz3 : w6.frozen? ⟨X + 1, 3, none⟩ = false := (row_cell Y6.out 3).2
  have v0 : w6.cell? ⟨Y, 0, none⟩ = some (.int .i64 (doS s a).mode) := by rw [(row_cell H6.out 0).1]; rfl
  have v1 : w6.cell? ⟨Y, 1, none⟩ = some (.int .i64 (doS s a).starts) := by rw [(row_cell H6.out 1).1]; rfl
  have v2 : w6.cell? ⟨Y, 2, none⟩ = some (.int .i64 (doS s a).left) := by rw [(row_cell H6.out 2).1]; rfl
  have v3 : w6.cell? ⟨Y, 3, none⟩ = some (.int .i64 f) := by rw [(row_cell H6.out 3).1]; rfl
  have BZ := Lib.hid (box4 Y6.out (.int .i64 (doS s a).mode) (.int .i64 (doS s a).starts) (.int .i64 (doS s a).left) (.int .i64 f))
  go_wp2_with fail
  refine bodyPost_ret (results_cell_tmp rfl _ _ (X + 1) _ _ rfl (set_four Y6.out _ _ _ _) Try.underlying30 rfl (by kernel_rfl)) rfl ?_
  refine ⟨by simp, Q6.out.fo BZ.out.2 (by have := HNE.out; omega), ?_⟩
  exact (F5.out.trans F6.out fun i hi => .inl hi).trans BZ.out.2 fun i hi => .inr (by rw [hi]; have := HNE.out; omega)
theorem ldo_any (g : Nat) (s : LS) (f a : Int) (w : World) (h : LV w g s) (hf : f = s.left + s.starts) : Calls Try.prog 12 #[.pointer (some ⟨g, 0, none⟩), RA s f, .int .i64 a] w fun e w' => e = .returned (.tuple #[RA (actS s a) f, .bool true]) ∧ LV w' g (actS s a) ∧ Fo (fun b => b = g) w w' := by
  by_cases h1 : a < -9
  · rw [show actS s a = resetS s from if_pos h1]
    exact ldo_reset g s f a w h hf h1
  by_cases h2 : a < 0
  · rw [show actS s a = runS s by unfold actS; rw [if_neg h1, if_pos h2]]
    exact ldo_run g s f a w h h1 h2
  · rw [show actS s a = doS s a by unfold actS; rw [if_neg h1, if_neg h2]]
    exact ldo_do g s f a w h h1 h2
end Go.Proofs.Ytiellkodjhfhhaa.Lf
