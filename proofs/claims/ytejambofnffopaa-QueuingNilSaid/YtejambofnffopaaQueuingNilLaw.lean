/-
  QueuingNil's walk. Each statement bears its own conditions.
-/
import Derived.Test.YtejambofnffopaaQuJ
namespace Go.Proofs.Ytejambofnffopaa.Q
open Go.RowKit Go.Proofs.Ytejambofnffopaa.F Go.Proofs.Ytejambofnffopaa.U
set_option linter.unusedVariables false
set_option linter.unusedSimpArgs false
set_option maxRecDepth 100000 in
set_option maxHeartbeats 8000000 in
theorem nil_walk (cs : Array Value) (x : AC) (w : World) (h0 : RA w x cs.toList) : Calls Try.prog 6 #[.agg cs] w fun e w' => e = .returned (.bool true) ∧ Below w.heap.size w w' := by
  obtain ⟨kd, M, LL⟩ := x
  obtain ⟨vm, vl, hcs, hm, hr⟩ := h0
  obtain rfl : cs = #[.int .i64 kd, vm, vl] := by cases cs; simp at hcs; subst hcs; rfl
  obtain ⟨AL, cl, hvl, _⟩ := hr.form
  dsimp only at hvl hm hr
  obtain ⟨nl, hnl⟩ : ∃ nl, LL.length = nl := ⟨_, rfl⟩
  rw [hnl] at hvl
  subst hvl
  have he := he_qu
  obtain ⟨X, hX⟩ : ∃ X, w.heap.size = X := ⟨_, rfl⟩
  obtain ⟨W0, hW0⟩ : ∃ W0, w.alloc (.cells #[.int .i64 kd, vm, .slice AL nl cl] 35) = W0 := ⟨_, rfl⟩
  have b0 : Below w.heap.size w W0 := by rw [← hW0]; exact (Below.refl _ _).alloc (Nat.le_refl _) _
  have B0 : Hid (Below X w W0) := by rw [← hX]; exact b0
  have HX0 : Hid (W0.heap[X]? = some (.cells #[.int .i64 kd, vm, .slice AL nl cl] 35 (0, 0))) := by
    rw [← hW0, ← hX]; exact heap_alloc_new _ _
  have S0 : Hid (X < W0.heap.size) := by unfold Hid; rw [← hW0, ← hX]; simp
  have CT := Lib.hid (cut_any w kd vm M AL nl cl LL W0 hm hr b0)
  have x0 : W0.cell? ⟨X, 0, none⟩ = some (.int .i64 kd) := by rw [(row_cell HX0.out 0).1]; rfl
  have xf0 : W0.frozen? ⟨X, 0, none⟩ = false := (row_cell HX0.out 0).2
  have x1 : W0.cell? ⟨X, 1, none⟩ = some (vm) := by rw [(row_cell HX0.out 1).1]; rfl
  have xf1 : W0.frozen? ⟨X, 1, none⟩ = false := (row_cell HX0.out 1).2
  have x2 : W0.cell? ⟨X, 2, none⟩ = some (.slice AL nl cl) := by rw [(row_cell HX0.out 2).1]; rfl
  have xf2 : W0.frozen? ⟨X, 2, none⟩ = false := (row_cell HX0.out 2).2
  rw [hX]
  clear hm hr hnl b0 hcs
  go_enter Try.func6, Try.ntmps6
  go_wp2_with fail
  refine CT.out.mono ?_
  rintro e w1 ⟨Am, jm, cm, Av, j, cv, S, rfl, _, _, _, b1⟩
  have HX1 : Hid (w1.heap[X]? = some (.cells #[.int .i64 kd, vm, .slice AL nl cl] 35 (0, 0))) := (b1.block _ S0.out).trans HX0.out
  obtain ⟨w2, hw2⟩ : ∃ W, ((w1.setCell ⟨X, 0, none⟩ (.int .i64 kd)).setCell ⟨X, 1, none⟩ (.slice Am jm cm)).setCell ⟨X, 2, none⟩ (.slice Av j cv) = W := ⟨_, rfl⟩
  have HX2 : Hid (w2.heap[X]? = some (.cells #[.int .i64 kd, .slice Am jm cm, .slice Av j cv] 35 (0, 0))) := by rw [← hw2]; exact set_at (set_at (set_at HX1.out 0 _) 1 _) 2 _
  have Bw2 : Hid (Below X w w2) := by rw [← hw2]; exact (((B0.out.trans (b1.mono (Nat.le_of_lt S0.out))).setCell (Nat.le_refl _) _).setCell (Nat.le_refl _) _).setCell (Nat.le_refl _) _
  have Sw2 : Hid (X < w2.heap.size) := (Array.getElem?_eq_some_iff.1 HX2.out).1
  clear b1 x0 xf0 x1 xf1 x2 xf2 CT HX0 B0 S0
  have z0 : w1.cell? ⟨X, 0, none⟩ = some (.int .i64 kd) := by rw [(row_cell HX1.out 0).1]; rfl
  have zf0 : w1.frozen? ⟨X, 0, none⟩ = false := (row_cell HX1.out 0).2
  have z1 : w1.cell? ⟨X, 1, none⟩ = some (vm) := by rw [(row_cell HX1.out 1).1]; rfl
  have zf1 : w1.frozen? ⟨X, 1, none⟩ = false := (row_cell HX1.out 1).2
  have z2 : w1.cell? ⟨X, 2, none⟩ = some (.slice AL nl cl) := by rw [(row_cell HX1.out 2).1]; rfl
  have zf2 : w1.frozen? ⟨X, 2, none⟩ = false := (row_cell HX1.out 2).2
  have r1w2 : w2.cell? ⟨X, 1, none⟩ = some (.slice Am jm cm) := by rw [(row_cell HX2.out 1).1]; rfl
  have r2w2 : w2.cell? ⟨X, 2, none⟩ = some (.slice Av j cv) := by rw [(row_cell HX2.out 2).1]; rfl
  go_wp2_with fail
  refine (clear_nil w2).mono ?_
  rintro e wz ⟨rfl, hw⟩
  have hw := hw.symm
  subst hw
  go_wp2_with fail
  refine (receive_nil w2).mono ?_
  rintro e wz ⟨rfl, hw⟩
  have hw := hw.symm
  subst hw
  go_wp2_with fail
  refine (new_any (fun _ => True) 1 1 w2 (by omega) (by omega) (by omega) (by omega)).mono ?_
  rintro e w3 ⟨rfl, _, b3⟩
  obtain ⟨g, hg⟩ : ∃ g, w2.heap.size = g := ⟨_, rfl⟩
  have r1w3 : w3.cell? ⟨X, 1, none⟩ = some (.slice Am jm cm) := (b3.cell (by exact Sw2.out)).trans r1w2
  have r2w3 : w3.cell? ⟨X, 2, none⟩ = some (.slice Av j cv) := (b3.cell (by exact Sw2.out)).trans r2w2
  have Sw3 : Hid (X < w3.heap.size) := Nat.lt_of_lt_of_le Sw2.out b3.size
  have Bw3 : Hid (Below X w w3) := Bw2.out.trans (b3.mono (Nat.le_of_lt Sw2.out))
  rw [hg]
  clear b3 r1w2 r2w2 Sw2 Bw2 HX2 hw2 z0 zf0 z1 zf1 z2 zf2 HX1 hg
  go_wp2_with fail
  refine (known_any w3).mono ?_
  rintro e w4 ⟨rfl, bw4⟩
  have r1w4 : w4.cell? ⟨X, 1, none⟩ = some (.slice Am jm cm) := (bw4.cell (by exact Sw3.out)).trans r1w3
  have r2w4 : w4.cell? ⟨X, 2, none⟩ = some (.slice Av j cv) := (bw4.cell (by exact Sw3.out)).trans r2w3
  have Sw4 : Hid (X < w4.heap.size) := Nat.lt_of_lt_of_le Sw3.out bw4.size
  have Bw4 : Hid (Below X w w4) := Bw3.out.trans (bw4.mono (Nat.le_of_lt Sw3.out))
  clear bw4 r1w3 r2w3 Sw3 Bw3
  go_wp2_with fail
  refine (send_nil _ _ _ w4).mono ?_
  rintro e w5 ⟨rfl, bw5⟩
  have r1w5 : w5.cell? ⟨X, 1, none⟩ = some (.slice Am jm cm) := (bw5.cell (by exact Sw4.out)).trans r1w4
  have r2w5 : w5.cell? ⟨X, 2, none⟩ = some (.slice Av j cv) := (bw5.cell (by exact Sw4.out)).trans r2w4
  have Sw5 : Hid (X < w5.heap.size) := Nat.lt_of_lt_of_le Sw4.out bw5.size
  have Bw5 : Hid (Below X w w5) := Bw4.out.trans (bw5.mono (Nat.le_of_lt Sw4.out))
  clear bw5 r1w4 r2w4 Sw4 Bw4
  go_wp2_with fail
  refine (push_nil _ _ _ w5).mono ?_
  rintro e w6 ⟨rfl, bw6⟩
  have r1w6 : w6.cell? ⟨X, 1, none⟩ = some (.slice Am jm cm) := (bw6.cell (by exact Sw5.out)).trans r1w5
  have r2w6 : w6.cell? ⟨X, 2, none⟩ = some (.slice Av j cv) := (bw6.cell (by exact Sw5.out)).trans r2w5
  have Sw6 : Hid (X < w6.heap.size) := Nat.lt_of_lt_of_le Sw5.out bw6.size
  have Bw6 : Hid (Below X w w6) := Bw5.out.trans (bw6.mono (Nat.le_of_lt Sw5.out))
  clear bw6 r1w5 r2w5 Sw5 Bw5
  go_wp2_with fail
  refine (back_nil _ w6).mono ?_
  rintro e wz ⟨rfl, hw⟩
  have hw := hw.symm
  subst hw
  go_wp2_with fail
  refine (drain_nil w6).mono ?_
  rintro e wz ⟨rfl, hw⟩
  have hw := hw.symm
  subst hw
  go_wp2_with fail
  refine (free_nil w6).mono ?_
  rintro e wz ⟨rfl, hw⟩
  have hw := hw.symm
  subst hw
  go_wp2_with fail
  refine (all_nil w6).mono ?_
  rintro e wz ⟨rfl, hw⟩
  have hw := hw.symm
  subst hw
  go_wp2_with fail
  refine (clone_nil w6).mono ?_
  rintro e wz ⟨rfl, hw⟩
  have hw := hw.symm
  subst hw
  go_wp2_with fail
  refine (same_nil w6).mono ?_
  rintro e wz ⟨rfl, hw⟩
  have hw := hw.symm
  subst hw
  go_wp2_with fail
  refine (same_nil_l g w6).mono ?_
  rintro e wz ⟨rfl, hw⟩
  have hw := hw.symm
  subst hw
  go_wp2_with fail
  go_ret
  exact ⟨rfl, Bw6.out⟩
end Go.Proofs.Ytejambofnffopaa.Q
