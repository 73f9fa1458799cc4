/-
  A rule more. Each statement bears its own conditions.
-/
import Derived.Test.YthnlkfcfiieddaaHlA
namespace Go.Proofs.Ythnlkfcfiieddaa.Hl
open Go.RowKit Go.Proofs.Ythnlkfcfiieddaa.F 
set_option linter.unusedVariables false
set_option linter.unusedSimpArgs false
def addE (mo : Bool) (R : List ((Int × Int) × Int)) (e l d : Int) : Int := if ¬ (errP e ∧ lvB mo l = true) then 2 else if posB l d = false then 1 else if (getL R e l).isSome then 7 else 0
def addR (mo : Bool) (R : List ((Int × Int) × Int)) (e l d : Int) : List ((Int × Int) × Int) := if addE mo R e l d = 0 then putL R e l d else R
theorem zero_int : ∀ u : World, (zeroValue 3).run Try.prog u = .ok (.int .i64 0) u := fun u => by
  have := Try.zeroValue3 u
  exact this
set_option maxRecDepth 100000 in
set_option maxHeartbeats 16000000 in
theorem add_any (g rb cb : Nat) (mo : Bool) (R C : List ((Int × Int) × Int)) (e l d : Int) (w : World) (h : MV w g rb cb mo R C) : Calls Try.prog 21 #[.pointer (some ⟨g, 0, none⟩), .agg #[.int .i64 e, .int .i64 l, .int .i64 d]] w fun r w' => r = .returned (.int .i64 (addE mo R e l d)) ∧ MV w' g rb cb mo (addR mo R e l d) C ∧ Fo (fun b => b = rb) w w' := by
  have hsz : g < w.heap.size ∧ rb < w.heap.size ∧ cb < w.heap.size := ⟨h.lt, h.rl.lt, h.ct.lt⟩
  obtain ⟨X, hX⟩ : ∃ X, w.heap.size = X := ⟨_, rfl⟩
  rw [hX] at hsz
  have HXS := Lib.hid hX
  have HG := Lib.hid hsz
  obtain ⟨W0, hW0⟩ : ∃ W0, w.alloc (.cells #[.int .i64 e, .int .i64 l, .int .i64 d] 59) = W0 := ⟨_, rfl⟩
  have b0 : Below X w W0 := by rw [← hW0, ← hX]; exact (Below.refl _ _).alloc (Nat.le_refl _) _
  have S0 : W0.heap.size = X + 1 := by rw [← hW0, ← hX]; simp
  have hx0 : W0.heap[X]? = some (.cells #[.int .i64 e, .int .i64 l, .int .i64 d] 59 (0, 0)) := by rw [← hW0, ← hX]; exact heap_alloc_new _ _
  obtain ⟨W1, hW1⟩ : ∃ W1, W0.alloc (.cells #[.int .i64 0, .int .i64 0] 68) = W1 := ⟨_, rfl⟩
  have hy1 : W1.heap[X + 1]? = some (.cells #[.int .i64 0, .int .i64 0] 68 (0, 0)) := by rw [← hW1, ← S0]; exact heap_alloc_new _ _
  have b1 : Below X w W1 := by rw [← hW1]; exact b0.trans ((Below.refl _ _).alloc (by rw [S0]; omega) _)
  have hx1 : W1.heap[X]? = some (.cells #[.int .i64 e, .int .i64 l, .int .i64 d] 59 (0, 0)) := by rw [← hW1]; exact (((Below.refl W0.heap.size W0).alloc (Nat.le_refl _) _).block X (by omega)).trans hx0
  obtain ⟨W2, hW2⟩ : ∃ W2, (W1.setCell ⟨X + 1, 0, none⟩ (.int .i64 e)).setCell ⟨X + 1, 1, none⟩ (.int .i64 l) = W2 := ⟨_, rfl⟩
  have HY_W2 : Hid (W2.heap[X + 1]? = some (.cells #[.int .i64 e, .int .i64 l] 68 (0, 0))) := by rw [← hW2]; exact set_at (set_at hy1 0 _) 1 _
  have HX_W2 : Hid (W2.heap[X]? = some (.cells #[.int .i64 e, .int .i64 l, .int .i64 d] 59 (0, 0))) := by rw [← hW2]; exact (set_far 1 _ (by omega)).trans ((set_far 0 _ (by omega)).trans hx1)
  have b2 : Below X w W2 := by rw [← hW2]; exact (b1.setCell (by exact Nat.le_succ _) _).setCell (by exact Nat.le_succ _) _
  have HM_W2 : Hid (MV W2 g rb cb mo R C) := h.below (by rw [hX]; exact b2)
  have HB2 := Lib.hid b2
  have c0 : W0.cell? ⟨X, 0, none⟩ = some (.int .i64 e) := by rw [(row_cell hx0 0).1]; rfl
  have c1 : W0.cell? ⟨X, 1, none⟩ = some (.int .i64 l) := by rw [(row_cell hx0 1).1]; rfl
  have z0 : W1.frozen? ⟨X + 1, 0, none⟩ = false := (row_cell hy1 0).2
  have z1 : W1.frozen? ⟨X + 1, 1, none⟩ = false := (row_cell hy1 1).2
  have y0 : W1.cell? ⟨X + 1, 0, none⟩ = some (.int .i64 0) := by rw [(row_cell hy1 0).1]; rfl
  have y1 : W1.cell? ⟨X + 1, 1, none⟩ = some (.int .i64 0) := by rw [(row_cell hy1 1).1]; rfl
  have pg : W2.cell? ⟨g, 1, none⟩ = some (.map (some rb)) := by rw [(row_cell HM_W2.out.hp 1).1]; rfl
  have px0 : W2.cell? ⟨X, 0, none⟩ = some (.int .i64 e) := by rw [(row_cell HX_W2.out 0).1]; rfl
  have px1 : W2.cell? ⟨X, 1, none⟩ = some (.int .i64 l) := by rw [(row_cell HX_W2.out 1).1]; rfl
  have px2 : W2.cell? ⟨X, 2, none⟩ = some (.int .i64 d) := by rw [(row_cell HX_W2.out 2).1]; rfl
  have py0 : W2.cell? ⟨X + 1, 0, none⟩ = some (.int .i64 e) := by rw [(row_cell HY_W2.out 0).1]; rfl
  have py1 : W2.cell? ⟨X + 1, 1, none⟩ = some (.int .i64 l) := by rw [(row_cell HY_W2.out 1).1]; rfl
  have hl : (Instr.lookup 61 (.map (some rb)) (.agg #[.int .i64 e, .int .i64 l]) true).run Try.prog W2.drew = .ok (.tuple #[.int .i64 ((getL R e l).getD 0), .bool (getL R e l).isSome]) W2.drew := lookup_ok (w := W2.drew) (HM_W2.out.rl.keep rfl) ek_matter Try.underlying61 (zero_int _) e l
  obtain ⟨tv, htv⟩ : ∃ x, (getL R e l).getD 0 = x := ⟨_, rfl⟩
  obtain ⟨tw, htw⟩ : ∃ x, (getL R e l).isSome = x := ⟨_, rfl⟩
  rw [htv, htw] at hl
  have HTW := Lib.hid htw
  clear h hsz b0 hx0 hy1 b1 hx1 b2 htv htw
  go_enter Try.func21, Try.ntmps21
  go_upto_region 2 with fail
  clear c0 c1 z0 z1 y0 y1 hW0 hW1 hW2 hX S0
  refine wp_region_held_drew (S := (fun w' => w'.cell? ⟨g, 1, none⟩ = some (.map (some rb)) ∧ w'.cell? ⟨X, 0, none⟩ = some (.int .i64 e) ∧ w'.cell? ⟨X, 1, none⟩ = some (.int .i64 l) ∧ w'.cell? ⟨X, 2, none⟩ = some (.int .i64 d) ∧ w'.cell? ⟨X + 1, 0, none⟩ = some (.int .i64 e) ∧ w'.cell? ⟨X + 1, 1, none⟩ = some (.int .i64 l))) (by kernel_rfl) ?_ (fun hHeld => ?_)
  · exact ⟨pg, px0, px1, px2, py0, py1⟩
  refine takeD (i := 0) (d := some 14) (v := ?_) _ rfl rfl (by kernel_rfl) (by kernel_rfl) (by kernel_rfl) (fun _ _ _ h => h) (by rfl) ?_ (by assumption) ?_
  rotate_left
  · (intro w hSw; (try dsimp only at hSw); go_simp) <;> with_reducible rfl
  try simp only [Act.put, List.setIfInBounds_toArray, List.set_cons_zero, List.set_cons_succ]
  refine takeD (i := 1) (d := some 15) (v := ?_) _ rfl rfl (by kernel_rfl) (by kernel_rfl) (by kernel_rfl) (fun _ _ _ h => h) (by rfl) ?_ (by assumption) ?_
  rotate_left
  · (intro w hSw; (try dsimp only at hSw); go_simp) <;> with_reducible rfl
  try simp only [Act.put, List.setIfInBounds_toArray, List.set_cons_zero, List.set_cons_succ]
  refine takeD (i := 2) (d := some 16) (v := ?_) _ rfl rfl (by kernel_rfl) (by kernel_rfl) (by kernel_rfl) (fun _ _ _ h => h) (by rfl) ?_ (by assumption) ?_
  rotate_left
  · (intro w hSw; (try dsimp only at hSw); go_simp) <;> with_reducible rfl
  try simp only [Act.put, List.setIfInBounds_toArray, List.set_cons_zero, List.set_cons_succ]
  refine takeD (i := 3) (d := some 17) (v := ?_) _ rfl rfl (by kernel_rfl) (by kernel_rfl) (by kernel_rfl) (fun _ _ _ h => h) (by rfl) ?_ (by assumption) ?_
  rotate_left
  · (intro w hSw; (try dsimp only at hSw); go_simp) <;> with_reducible rfl
  try simp only [Act.put, List.setIfInBounds_toArray, List.set_cons_zero, List.set_cons_succ]
  refine takeD (i := 4) (d := some 18) (v := ?_) _ rfl rfl (by kernel_rfl) (by kernel_rfl) (by kernel_rfl) (fun _ _ _ h => h) (by rfl) ?_ (by assumption) ?_
  rotate_left
  · (intro w hSw; (try dsimp only at hSw); go_simp) <;> with_reducible rfl
  try simp only [Act.put, List.setIfInBounds_toArray, List.set_cons_zero, List.set_cons_succ]
  refine wpAnyH_ready (rs := [5]) (by kernel_rfl) (by simp) ?_
  refine AllReadyH.cons rfl (fun K0 hK => ?_) AllReadyH.nil
  try go_simp
  refine hK.out _ _ hHeld (fun hHeld => ?_)
  clear hK K0
  try simp only [Act.put, List.setIfInBounds_toArray, List.set_cons_zero, List.set_cons_succ]
  refine takeD (i := 6) (d := some 13) (v := ?_) _ rfl rfl (by kernel_rfl) (by kernel_rfl) (by kernel_rfl) (fun _ _ _ h => h) (by rfl) ?_ (by assumption) ?_
  rotate_left
  · (intro w hSw; (try dsimp only at hSw); go_simp) <;> with_reducible rfl
  try simp only [Act.put, List.setIfInBounds_toArray, List.set_cons_zero, List.set_cons_succ]
  refine takeD (i := 7) (d := some 20) (v := ?_) _ rfl rfl (by kernel_rfl) (by kernel_rfl) (by kernel_rfl) (fun _ _ _ h => h) (by rfl) ?_ (by assumption) ?_
  rotate_left
  · (intro w hSw; (try dsimp only at hSw); go_simp) <;> with_reducible rfl
  try simp only [Act.put, List.setIfInBounds_toArray, List.set_cons_zero, List.set_cons_succ]
  refine takeD (i := 8) (d := some 21) (v := ?_) _ rfl rfl (by kernel_rfl) (by kernel_rfl) (by kernel_rfl) (fun _ _ _ h => h) (by rfl) ?_ (by assumption) ?_
  rotate_left
  · (intro w hSw; (try dsimp only at hSw); go_simp) <;> with_reducible rfl
  try simp only [Act.put, List.setIfInBounds_toArray, List.set_cons_zero, List.set_cons_succ]
  refine takeD (i := 9) (d := some 6) (v := ?_) _ rfl rfl (by kernel_rfl) (by kernel_rfl) (by kernel_rfl) (fun _ _ _ h => h) (by rfl) ?_ (by assumption) ?_
  rotate_left
  · (intro w hSw; (try dsimp only at hSw); go_simp) <;> with_reducible rfl
  try simp only [Act.put, List.setIfInBounds_toArray, List.set_cons_zero, List.set_cons_succ]
  refine takeD (i := 10) (d := some 7) (v := ?_) _ rfl rfl (by kernel_rfl) (by kernel_rfl) (by kernel_rfl) (fun _ _ _ h => h) (by rfl) ?_ (by assumption) ?_
  rotate_left
  · (intro w hSw; (try dsimp only at hSw); go_simp) <;> with_reducible rfl
  try simp only [Act.put, List.setIfInBounds_toArray, List.set_cons_zero, List.set_cons_succ]
  refine wpAnyH_done (by kernel_rfl) ?_ _
  clear hHeld hl pg px0 px1 px2 py0 py1
  have HM_W3 : Hid (MV W2.drew g rb cb mo R C) := HM_W2.out.keep rfl
  have HX_W3 : Hid (W2.drew.heap[X]? = some (.cells #[.int .i64 e, .int .i64 l, .int .i64 d] 59 (0, 0))) := HX_W2.out
  have HY_W3 : Hid (W2.drew.heap[X + 1]? = some (.cells #[.int .i64 e, .int .i64 l] 68 (0, 0))) := HY_W2.out
  have HB3 : Hid (Below X w W2.drew) := HB2.out.drew
  obtain ⟨W3, hW3⟩ : ∃ W, W2.drew = W := ⟨_, rfl⟩
  rw [hW3] at HM_W3 HX_W3 HY_W3 HB3
  rw [hW3]
  clear hW3 HM_W2 HX_W2 HY_W2 HB2
  have pg : W3.cell? ⟨g, 1, none⟩ = some (.map (some rb)) := by rw [(row_cell HM_W3.out.hp 1).1]; rfl
  have px0 : W3.cell? ⟨X, 0, none⟩ = some (.int .i64 e) := by rw [(row_cell HX_W3.out 0).1]; rfl
  have px1 : W3.cell? ⟨X, 1, none⟩ = some (.int .i64 l) := by rw [(row_cell HX_W3.out 1).1]; rfl
  have px2 : W3.cell? ⟨X, 2, none⟩ = some (.int .i64 d) := by rw [(row_cell HX_W3.out 2).1]; rfl
  have py0 : W3.cell? ⟨X + 1, 0, none⟩ = some (.int .i64 e) := by rw [(row_cell HY_W3.out 0).1]; rfl
  have py1 : W3.cell? ⟨X + 1, 1, none⟩ = some (.int .i64 l) := by rw [(row_cell HY_W3.out 1).1]; rfl
  have FO3 : Hid (Fo (fun b => b = rb) w W3) := ⟨HB3.out.os, HB3.out.tape, HB3.out.output, HB3.out.size, fun k hk _ => HB3.out.block k (by have := HXS.out; omega)⟩
  have CE := Lib.hid (err_any e W3)
  have CL := Lib.hid (lv_any g rb cb mo R C l W3 HM_W3.out)
  have CP := Lib.hid (pos_any l d W3)
  by_cases he : errP e
  rotate_left
  · rw [decide_eq_false he] at CE
    have HE : Hid (addE mo R e l d = 2) := if_pos (fun hh => he hh.1)
    clear he
    go_wp2_with fail
    refine CE.out.mono ?_
    rintro r w1 ⟨rfl, hw⟩
    rw [hw]
    clear hw
    go_wp2_with fail
    go_ret
    exact ⟨by rw [HE.out]; rfl, by rw [show addR mo R e l d = R by unfold addR; rw [HE.out]; rfl]; exact HM_W3.out, FO3.out⟩
  rw [decide_eq_true he] at CE
  obtain ⟨bl, hbl⟩ : ∃ b, lvB mo l = b := ⟨_, rfl⟩
  rw [hbl] at CL
  cases bl
  · have HE : Hid (addE mo R e l d = 2) := if_pos (fun hh => by rw [hbl] at hh; cases hh.2)
    clear he hbl
    go_wp2_with fail
    refine CE.out.mono ?_
    rintro r w1 ⟨rfl, hw⟩
    rw [hw]
    clear hw
    go_wp2_with fail
    refine CL.out.mono ?_
    rintro r w1 ⟨rfl, hw⟩
    rw [hw]
    clear hw
    go_wp2_with fail
    go_ret
    exact ⟨by rw [HE.out]; rfl, by rw [show addR mo R e l d = R by unfold addR; rw [HE.out]; rfl]; exact HM_W3.out, FO3.out⟩
  obtain ⟨bp, hbp⟩ : ∃ b, posB l d = b := ⟨_, rfl⟩
  rw [hbp] at CP
  have A1 : addE mo R e l d = if posB l d = false then 1 else if (getL R e l).isSome then 7 else 0 := if_neg (fun hh => hh ⟨he, hbl⟩)
  cases bp
  · have HE : Hid (addE mo R e l d = 1) := by rw [A1]; exact if_pos hbp
    clear he hbl hbp A1
    go_wp2_with fail
    refine CE.out.mono ?_
    rintro r w1 ⟨rfl, hw⟩
    rw [hw]
    clear hw
    go_wp2_with fail
    refine CL.out.mono ?_
    rintro r w1 ⟨rfl, hw⟩
    rw [hw]
    clear hw
    go_wp2_with fail
    refine CP.out.mono ?_
    rintro r w1 ⟨rfl, hw⟩
    rw [hw]
    clear hw
    go_wp2_with fail
    go_ret
    exact ⟨by rw [HE.out]; rfl, by rw [show addR mo R e l d = R by unfold addR; rw [HE.out]; rfl]; exact HM_W3.out, FO3.out⟩
  have A2 : addE mo R e l d = if (getL R e l).isSome then 7 else 0 := by rw [A1]; exact if_neg (by rw [hbp]; simp)
  cases tw
  rotate_left
  · have HE : Hid (addE mo R e l d = 7) := by rw [A2, HTW.out]; rfl
    clear he hbl hbp A1 A2
    go_wp2_with fail
    refine CE.out.mono ?_
    rintro r w1 ⟨rfl, hw⟩
    rw [hw]
    clear hw
    go_wp2_with fail
    refine CL.out.mono ?_
    rintro r w1 ⟨rfl, hw⟩
    rw [hw]
    clear hw
    go_wp2_with fail
    refine CP.out.mono ?_
    rintro r w1 ⟨rfl, hw⟩
    rw [hw]
    clear hw
    go_wp2_with fail
    go_ret
    exact ⟨by rw [HE.out]; rfl, by rw [show addR mo R e l d = R by unfold addR; rw [HE.out]; rfl]; exact HM_W3.out, FO3.out⟩
  have HE : Hid (addE mo R e l d = 0) := by rw [A2, HTW.out]; rfl
  obtain ⟨W9, hu, hM9, hF9⟩ := update_run (w := W3.drew) (HM_W3.out.rl.keep rfl) ek_matter Try.underlying61 e l d
  have HU9 := Lib.hid hM9
  have F9 := Lib.hid hF9
  have hu' : (Instr.mapUpdate 61 (.map (some rb)) (.agg #[.int .i64 e, .int .i64 l]) (.int .i64 d)).run Try.prog W3.drew = .ok () W9 := hu
  have NE : Hid (g ≠ rb ∧ X ≠ rb ∧ X + 1 ≠ rb) := ⟨HM_W3.out.ne.1, by have := HG.out; omega, by have := HG.out; omega⟩
  clear he hbl hbp A1 A2 hM9 hF9 hu
  go_wp2_with fail
  refine CE.out.mono ?_
  rintro r w1 ⟨rfl, hw⟩
  rw [hw]
  clear hw
  go_wp2_with fail
  refine CL.out.mono ?_
  rintro r w1 ⟨rfl, hw⟩
  rw [hw]
  clear hw
  go_wp2_with fail
  refine CP.out.mono ?_
  rintro r w1 ⟨rfl, hw⟩
  rw [hw]
  clear hw
  go_wp2_with fail
  refine wp_region_held_drew (S := (fun w' => w'.cell? ⟨g, 1, none⟩ = some (.map (some rb)) ∧ w'.cell? ⟨X, 0, none⟩ = some (.int .i64 e) ∧ w'.cell? ⟨X, 1, none⟩ = some (.int .i64 l) ∧ w'.cell? ⟨X, 2, none⟩ = some (.int .i64 d) ∧ w'.cell? ⟨X + 1, 0, none⟩ = some (.int .i64 e) ∧ w'.cell? ⟨X + 1, 1, none⟩ = some (.int .i64 l))) (by kernel_rfl) ?_ (fun hHeld => ?_)
  · exact ⟨pg, px0, px1, px2, py0, py1⟩
  refine takeD (i := 0) (d := some 43) (v := ?_) _ rfl rfl (by kernel_rfl) (by kernel_rfl) (by kernel_rfl) (fun _ _ _ h => h) (by rfl) ?_ (by assumption) ?_
  rotate_left
  · (intro w hSw; (try dsimp only at hSw); go_simp) <;> with_reducible rfl
  try simp only [Act.put, List.setIfInBounds_toArray, List.set_cons_zero, List.set_cons_succ]
  refine takeD (i := 1) (d := some 44) (v := ?_) _ rfl rfl (by kernel_rfl) (by kernel_rfl) (by kernel_rfl) (fun _ _ _ h => h) (by rfl) ?_ (by assumption) ?_
  rotate_left
  · (intro w hSw; (try dsimp only at hSw); go_simp) <;> with_reducible rfl
  try simp only [Act.put, List.setIfInBounds_toArray, List.set_cons_zero, List.set_cons_succ]
  refine takeD (i := 2) (d := some 45) (v := ?_) _ rfl rfl (by kernel_rfl) (by kernel_rfl) (by kernel_rfl) (fun _ _ _ h => h) (by rfl) ?_ (by assumption) ?_
  rotate_left
  · (intro w hSw; (try dsimp only at hSw); go_simp) <;> with_reducible rfl
  try simp only [Act.put, List.setIfInBounds_toArray, List.set_cons_zero, List.set_cons_succ]
  refine takeD (i := 3) (d := some 46) (v := ?_) _ rfl rfl (by kernel_rfl) (by kernel_rfl) (by kernel_rfl) (fun _ _ _ h => h) (by rfl) ?_ (by assumption) ?_
  rotate_left
  · (intro w hSw; (try dsimp only at hSw); go_simp) <;> with_reducible rfl
  try simp only [Act.put, List.setIfInBounds_toArray, List.set_cons_zero, List.set_cons_succ]
  refine takeD (i := 4) (d := some 47) (v := ?_) _ rfl rfl (by kernel_rfl) (by kernel_rfl) (by kernel_rfl) (fun _ _ _ h => h) (by rfl) ?_ (by assumption) ?_
  rotate_left
  · (intro w hSw; (try dsimp only at hSw); go_simp) <;> with_reducible rfl
  try simp only [Act.put, List.setIfInBounds_toArray, List.set_cons_zero, List.set_cons_succ]
  refine takeD (i := 5) (d := some 48) (v := ?_) _ rfl rfl (by kernel_rfl) (by kernel_rfl) (by kernel_rfl) (fun _ _ _ h => h) (by rfl) ?_ (by assumption) ?_
  rotate_left
  · (intro w hSw; (try dsimp only at hSw); go_simp) <;> with_reducible rfl
  try simp only [Act.put, List.setIfInBounds_toArray, List.set_cons_zero, List.set_cons_succ]
  refine takeD (i := 6) (d := some 49) (v := ?_) _ rfl rfl (by kernel_rfl) (by kernel_rfl) (by kernel_rfl) (fun _ _ _ h => h) (by rfl) ?_ (by assumption) ?_
  rotate_left
  · (intro w hSw; (try dsimp only at hSw); go_simp) <;> with_reducible rfl
  try simp only [Act.put, List.setIfInBounds_toArray, List.set_cons_zero, List.set_cons_succ]
  refine wpAnyH_ready (rs := [7]) (by kernel_rfl) (by simp) ?_
  refine AllReadyH.cons rfl (fun K0 hK => ?_) AllReadyH.nil
  try go_simp
  refine hK.out _ _ ⟨F9.out.cell NE.out.1 hHeld.1, F9.out.cell NE.out.2.1 hHeld.2.1, F9.out.cell NE.out.2.1 hHeld.2.2.1, F9.out.cell NE.out.2.1 hHeld.2.2.2.1, F9.out.cell NE.out.2.2 hHeld.2.2.2.2.1, F9.out.cell NE.out.2.2 hHeld.2.2.2.2.2⟩ (fun hHeld => ?_)
  clear hK K0
  try simp only [Act.put, List.setIfInBounds_toArray, List.set_cons_zero, List.set_cons_succ]
  refine wpAnyH_done (by kernel_rfl) ?_ _
  clear hHeld hu' pg px0 px1 px2 py0 py1
  go_wp2_with fail
  go_ret
  refine ⟨by rw [HE.out]; rfl, ?_, ?_⟩
  · rw [show addR mo R e l d = putL R e l d by unfold addR; rw [HE.out]; rfl]
    exact (HM_W3.out.keep (w' := W3.drew) rfl).rule F9.out HU9.out
  · have F3 : Fo (fun b => b = rb) w W3.drew := ⟨FO3.out.os, FO3.out.tape, FO3.out.output, FO3.out.size, FO3.out.block⟩
    exact F3.trans F9.out (fun i hi => .inl hi)
end Go.Proofs.Ythnlkfcfiieddaa.Hl
