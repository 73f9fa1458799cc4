/-
  What is done about an error. Each statement bears its own conditions.
-/
import Derived.Test.YthnlkfcfiieddaaHlD
namespace Go.Proofs.Ythnlkfcfiieddaa.Hl
open Go.RowKit Go.Proofs.Ythnlkfcfiieddaa.F 
set_option linter.unusedVariables false
set_option linter.unusedSimpArgs false
def decV (mo : Bool) (R : List ((Int × Int) × Int)) (p e : Int) : Int × Int := if ¬ errP e then (0, 0) else if mo then findV R e (2, 1) [2] else if whoI mo p = -1 then findV R e (1, 6) [1] else findV R e (0, 2) [0, 1]
def decC (mo : Bool) (C : List ((Int × Int) × Int)) (p e : Int) : List ((Int × Int) × Int) := if ¬ errP e then C else putL C e (whoI mo p) (IntKind.i64.wrap ((getL C e (whoI mo p)).getD 0 + 1))
set_option maxRecDepth 100000 in
set_option maxHeartbeats 32000000 in
theorem decide_any (g rb cb : Nat) (mo : Bool) (R C : List ((Int × Int) × Int)) (p e : Int) (w : World) (h : MV w g rb cb mo R C) : Calls Try.prog 15 #[.pointer (some ⟨g, 0, none⟩), .int .i64 p, .int .i64 e] w fun r w' => r = .returned (.agg #[.int .i64 (decV mo R p e).1, .int .i64 (decV mo R p e).2]) ∧ MV w' g rb cb mo R (decC mo C p e) ∧ Fo (fun b => b = cb) w w' := by
  have hsz : g < w.heap.size ∧ rb < w.heap.size ∧ cb < w.heap.size := ⟨h.lt, h.rl.lt, h.ct.lt⟩
  obtain ⟨X, hX⟩ : ∃ X, w.heap.size = X := ⟨_, rfl⟩
  rw [hX] at hsz
  have HG := Lib.hid hsz
  have HXS := Lib.hid hX
  obtain ⟨W0, hW0⟩ : ∃ W0, w.alloc (.cells #[.int .i64 0, .int .i64 0] 40) = W0 := ⟨_, rfl⟩
  have B0 : Hid (Below X w W0) := by rw [← hW0, ← hX]; exact (Below.refl _ _).alloc (Nat.le_refl _) _
  have S0 : Hid (W0.heap.size = X + 1) := by rw [← hW0, ← hX]; unfold Hid; simp
  have HX0 : Hid (W0.heap[X]? = some (.cells #[.int .i64 0, .int .i64 0] 40 (0, 0))) := by rw [← hW0, ← hX]; exact heap_alloc_new _ _
  have HM0 : Hid (MV W0 g rb cb mo R C) := h.below (by rw [hX]; exact B0.out)
  have F0 : Hid (Fo (fun b => b = cb) w W0) := ⟨B0.out.os, B0.out.tape, B0.out.output, B0.out.size, fun k hk _ => B0.out.block k (by omega)⟩
  have CE := Lib.hid (err_any e W0)
  have CW := Lib.hid (who_any g rb cb mo R C p W0 HM0.out)
  clear h hsz
  by_cases he : errP e
  rotate_left
  · rw [decide_eq_false he] at CE
    have HV : Hid (decV mo R p e = (0, 0) ∧ decC mo C p e = C) := ⟨if_pos he, if_pos he⟩
    have z0 : W0.frozen? ⟨X, 0, none⟩ = false := (row_cell HX0.out 0).2
    have z1 : W0.frozen? ⟨X, 1, none⟩ = false := (row_cell HX0.out 1).2
    have x0 : W0.cell? ⟨X, 0, none⟩ = some (.int .i64 0) := by rw [(row_cell HX0.out 0).1]; rfl
    have x1 : W0.cell? ⟨X, 1, none⟩ = some (.int .i64 0) := by rw [(row_cell HX0.out 1).1]; rfl
    clear he
    go_enter Try.func15, Try.ntmps15
    go_wp2_with fail
    refine CE.out.mono ?_
    rintro r w1 ⟨rfl, hw⟩
    rw [hw]
    clear hw
    go_wp2_with fail
    refine bodyPost_ret (results_cell_one rfl _ _ X _ _ rfl (set_two HX0.out _ _) Try.underlying40 rfl (by kernel_rfl)) rfl ?_
    have hfo : Fo (fun b => b = X) W0 _ := ((Fo.refl (fun b => b = X) W0).setCell (.inl rfl) 0 (.int .i64 0)).setCell (.inl rfl) 1 (.int .i64 0)
    refine ⟨by rw [HV.out.1], ?_, F0.out.trans hfo (fun i hi => .inr (by rw [hi, HXS.out]; exact Nat.le_refl _))⟩
    rw [HV.out.2]
    exact HM0.out.fo hfo (by have := HG.out; omega) (by have := HG.out; omega) (by have := HG.out; omega)
  rw [decide_eq_true he] at CE
  obtain ⟨q, hq⟩ : ∃ q, whoI mo p = q := ⟨_, rfl⟩
  rw [hq] at CW
  have HC : Hid (decC mo C p e = putL C e q (IntKind.i64.wrap ((getL C e q).getD 0 + 1))) := by unfold Hid decC; rw [if_neg (fun hh => hh he), hq]
  have HV : Hid (decV mo R p e = if mo then findV R e (2, 1) [2] else if q = -1 then findV R e (1, 6) [1] else findV R e (0, 2) [0, 1]) := by unfold Hid decV; rw [if_neg (fun hh => hh he), hq]
  clear he hq
  go_enter Try.func15, Try.ntmps15
  go_wp2_with fail
  refine CE.out.mono ?_
  rintro r w1 ⟨rfl, hw⟩
  rw [hw]
  clear hw CE
  go_wp2_with fail
  refine CW.out.mono ?_
  rintro r w1 ⟨rfl, hw⟩
  rw [hw]
  clear hw CW
  go_upto_region 4 with fail
  clear hW0 hX
  have HM : Hid (MV W0.drew g rb cb mo R C) := HM0.out.keep rfl
  have g2 : W0.drew.cell? ⟨g, 2, none⟩ = some (.map (some cb)) := by rw [(row_cell HM.out.hp 2).1]; rfl
  obtain ⟨x, hx⟩ : ∃ x, (getL C e q).getD 0 = x := ⟨_, rfl⟩
  rw [hx] at HC
  obtain ⟨y, hy⟩ : ∃ y, IntKind.i64.wrap (x + 1) = y := ⟨_, rfl⟩
  rw [hy] at HC
  have hl0 : (Instr.lookup 62 (.map (some cb)) (.agg #[.int .i64 e, .int .i64 q]) false).run Try.prog W0.drew = .ok (.int .i64 x) W0.drew := by
    have := lookup_one (mt := 62) HM.out.ct ek_event Try.underlying62 (zero_int _) e q
    rw [hx] at this
    exact this
  obtain ⟨x1, st, w1, L1, en, f1, mp1, same1, sto⟩ := entry_run (mt := 62) HM.out.ct ek_event Try.underlying62 zero_int e q
  have en' : (Instr.mapEntry 62 (.map (some cb)) (.agg #[.int .i64 e, .int .i64 q])).run Try.prog W0.drew = .ok (.tuple #[.int .i64 x1, .int .i64 (st : Int)]) w1 := en
  have hl1 : (Instr.lookup 62 (.map (some cb)) (.agg #[.int .i64 e, .int .i64 q]) false).run Try.prog w1 = .ok (.int .i64 x) w1 := by
    have := lookup_one (mt := 62) mp1 ek_event Try.underlying62 (zero_int _) e q
    rw [same1, hx] at this
    exact this
  obtain ⟨w3, es, mp3, f3⟩ := sto w1 y rfl
  have es' : (Instr.entryStore 62 (.map (some cb)) (.int .i64 (st : Int)) (.int .i64 y)).run Try.prog w1 = .ok () w3 := es
  have FF : Hid (Fo (fun b => b = cb) W0.drew w3) := f1.trans f3 (fun i hi => .inl hi)
  have M3 : Hid (MV w3 g rb cb mo R (decC mo C p e)) := by rw [HC.out]; exact HM.out.count FF.out mp3
  have k1 : w1.cell? ⟨g, 2, none⟩ = some (.map (some cb)) := f1.cell (by exact HM.out.ne.2.1) g2
  have k3 : w3.cell? ⟨g, 2, none⟩ = some (.map (some cb)) := FF.out.cell (by exact HM.out.ne.2.1) g2
  clear en f1 mp1 same1 sto mp3 f3 hx
  have TAIL : Hid (MV w3 g rb cb mo R (decC mo C p e) ∧ Fo (fun b => b = cb) w w3 ∧ w3.heap[X]? = some (.cells #[.int .i64 0, .int .i64 0] 40 (0, 0)) ∧ X < w3.heap.size) := by
    have h1 : Fo (fun b => b = cb) w W0.drew := ⟨F0.out.os, F0.out.tape, F0.out.output, F0.out.size, F0.out.block⟩
    have h2 : w3.heap[X]? = some (.cells #[.int .i64 0, .int .i64 0] 40 (0, 0)) := (FF.out.block X (by show X < W0.heap.size; rw [S0.out]; omega) (by have := HG.out; omega)).trans HX0.out
    exact ⟨M3.out, h1.trans FF.out (fun i hi => .inl hi), h2, (Array.getElem?_eq_some_iff.1 h2).1⟩
  refine wp_region_held_drew (S := (fun w' => w'.cell? ⟨g, 2, none⟩ = some (.map (some cb)))) (by kernel_rfl) g2 (fun hHeld => ?_)
  refine takeD (i := 0) (d := some 14) (v := ?_) _ rfl rfl (by kernel_rfl) (by kernel_rfl) (by kernel_rfl) (fun _ _ _ h => h) (by rfl) ?_ (by assumption) ?_
  rotate_left
  · (intro w hSw; (try dsimp only at hSw); go_simp) <;> with_reducible rfl
  try simp only [Act.put, List.setIfInBounds_toArray, List.set_cons_zero, List.set_cons_succ]
  refine takeD (i := 1) (d := some 15) (v := ?_) _ rfl rfl (by kernel_rfl) (by kernel_rfl) (by kernel_rfl) (fun _ _ _ h => h) (by rfl) ?_ (by assumption) ?_
  rotate_left
  · (intro w hSw; (try dsimp only at hSw); go_simp) <;> with_reducible rfl
  try simp only [Act.put, List.setIfInBounds_toArray, List.set_cons_zero, List.set_cons_succ]
  refine takeD (i := 2) (d := some 16) (v := ?_) _ rfl rfl (by kernel_rfl) (by kernel_rfl) (by kernel_rfl) (fun _ _ _ h => h) (by rfl) ?_ (by assumption) ?_
  rotate_left
  · (intro w hSw; (try dsimp only at hSw); go_simp) <;> with_reducible rfl
  try simp only [Act.put, List.setIfInBounds_toArray, List.set_cons_zero, List.set_cons_succ]
  refine takeD (i := 3) (d := some 17) (v := ?_) _ rfl rfl (by kernel_rfl) (by kernel_rfl) (by kernel_rfl) (fun _ _ _ h => h) (by rfl) ?_ (by assumption) ?_
  rotate_left
  · (intro w hSw; (try dsimp only at hSw); go_simp) <;> with_reducible rfl
  try simp only [Act.put, List.setIfInBounds_toArray, List.set_cons_zero, List.set_cons_succ]
  refine takeD (i := 4) (d := some 18) (v := ?_) _ rfl rfl (by kernel_rfl) (by kernel_rfl) (by kernel_rfl) (fun _ _ _ h => h) (by rfl) ?_ (by assumption) ?_
  rotate_left
  · (intro w hSw; (try dsimp only at hSw); go_simp) <;> with_reducible rfl
  try simp only [Act.put, List.setIfInBounds_toArray, List.set_cons_zero, List.set_cons_succ]
  refine takeD (i := 5) (d := some 19) (v := ?_) _ rfl rfl (by kernel_rfl) (by kernel_rfl) (by kernel_rfl) (fun _ _ _ h => h) (by rfl) ?_ (by assumption) ?_
  rotate_left
  · (intro w hSw; (try dsimp only at hSw); go_simp) <;> with_reducible rfl
  try simp only [Act.put, List.setIfInBounds_toArray, List.set_cons_zero, List.set_cons_succ]
  refine takeD (i := 6) (d := some 20) (v := ?_) _ rfl rfl (by kernel_rfl) (by kernel_rfl) (by kernel_rfl) (fun _ _ _ h => h) (by rfl) ?_ (by assumption) ?_
  rotate_left
  · (intro w hSw; (try dsimp only at hSw); go_simp) <;> with_reducible rfl
  try simp only [Act.put, List.setIfInBounds_toArray, List.set_cons_zero, List.set_cons_succ]
  refine wpAnyH_ready (rs := [7, 9]) (by kernel_rfl) (by simp) ?_
  refine AllReadyH.cons rfl (fun K0 hK => ?_) (AllReadyH.cons rfl (fun K0 hK => ?_) AllReadyH.nil)
  · try go_simp
    refine hK.out _ _ g2 (fun hHeld => ?_)
    clear hK K0
    try simp only [Act.put, List.setIfInBounds_toArray, List.set_cons_zero, List.set_cons_succ]
    refine takeD (i := 8) (d := some 22) (v := ?_) _ rfl rfl (by kernel_rfl) (by kernel_rfl) (by kernel_rfl) (fun _ _ _ h => h) (by rfl) ?_ (by assumption) ?_
    rotate_left
    · (intro w hSw; (try dsimp only at hSw); go_simp) <;> with_reducible rfl
    try simp only [Act.put, List.setIfInBounds_toArray, List.set_cons_zero, List.set_cons_succ]
    refine wpAnyH_ready (rs := [9]) (by kernel_rfl) (by simp) ?_
    refine AllReadyH.cons rfl (fun K0 hK => ?_) AllReadyH.nil
    try go_simp
    refine hK.out _ _ k1 (fun hHeld => ?_)
    clear hK K0
    try simp only [Act.put, List.setIfInBounds_toArray, List.set_cons_zero, List.set_cons_succ]
    refine takeD (i := 10) (d := some 24) (v := ?_) _ rfl rfl (by kernel_rfl) (by kernel_rfl) (by kernel_rfl) (fun _ _ _ h => h) (by rfl) ?_ (by assumption) ?_
    rotate_left
    · (intro w hSw; (try dsimp only at hSw); go_simp) <;> with_reducible rfl
    try simp only [Act.put, List.setIfInBounds_toArray, List.set_cons_zero, List.set_cons_succ]
    refine wpAnyH_ready (rs := [11]) (by kernel_rfl) (by simp) ?_
    refine AllReadyH.cons rfl (fun K0 hK => ?_) AllReadyH.nil
    try go_simp
    refine hK.out _ _ k3 (fun hHeld => ?_)
    clear hK K0
    try simp only [Act.put, List.setIfInBounds_toArray, List.set_cons_zero, List.set_cons_succ]
    refine wpAnyH_done (by kernel_rfl) ?_ _
    clear hHeld en' hl0 hl1 es es' k1 k3 g2
    have c0 : w3.cell? ⟨g, 0, none⟩ = some (.bool mo) := by rw [(row_cell TAIL.out.1.hp 0).1]; rfl
    cases mo
    · have c0' := c0
      clear c0'
      by_cases hqm : q = -1
      · have gq : (q == -1) = true := by simpa using hqm
        have HQ := Lib.hid hqm
        clear hqm
        have HV2 : Hid (decV false R p e = findV R e (1, 6) [1]) := by unfold Hid; rw [HV.out]; rw [if_neg (by simp), if_pos HQ.out]
        have hal : Below w3.heap.size w3 (w3.alloc (.cells #[.int .i64 1] 3)) := (Below.refl _ _).alloc (Nat.le_refl _) _
        have hb0 : (w3.alloc (.cells #[.int .i64 1] 3)).heap[w3.heap.size]? = some (.cells #[.int .i64 1] 3 (0, 0)) := heap_alloc_new _ _
        have hsz4 : (w3.alloc (.cells #[.int .i64 1] 3)).heap.size = w3.heap.size + 1 := by simp
        obtain ⟨w4, hw4⟩ : ∃ W, w3.alloc (.cells #[.int .i64 1] 3) = W := ⟨_, rfl⟩
        obtain ⟨Y, hY⟩ : ∃ Y, w3.heap.size = Y := ⟨_, rfl⟩
        rw [hw4] at hal hb0 hsz4
        rw [hY] at hb0 hsz4
        have hXY : X < Y := by have := TAIL.out.2.2.2; omega
        have M4 := Lib.hid (TAIL.out.1.below hal)
        have X4 : Hid (w4.heap[X]? = some (.cells #[.int .i64 0, .int .i64 0] 40 (0, 0))) := (hal.block X TAIL.out.2.2.2).trans TAIL.out.2.2.1
        have F4 : Hid (Fo (fun b => b = cb) w w4) := TAIL.out.2.1.trans (Fo.of_below hal : Fo (fun b => b = cb) w3 w4) (fun i hi => .inl hi)
        have CF := Lib.hid (find_any g rb cb false R (decC false C p e) e 1 6 Y 0 1 [1] w4 M4.out rfl (by omega) (by omega) (fun i x hi => by
          rw [Nat.zero_add, (row_cell hb0 i).1]
          rcases i with _ | i <;> simp at hi ⊢ <;> first | omega | exact hi))
        clear hal hb0 hsz4 hXY
        go_wp2_with fail
        refine CF.out.mono ?_
        rintro r w5 ⟨rfl, b5⟩
        have M5 := Lib.hid (M4.out.below b5)
        have X5 : Hid (w5.heap[X]? = some (.cells #[.int .i64 0, .int .i64 0] 40 (0, 0))) := (b5.block X (Array.getElem?_eq_some_iff.1 X4.out).1).trans X4.out
        have F5 : Hid (Fo (fun b => b = cb) w w5) := F4.out.trans (Fo.of_below b5 : Fo (fun b => b = cb) w4 w5) (fun i hi => .inl hi)
        have z0 : w5.frozen? ⟨X, 0, none⟩ = false := (row_cell X5.out 0).2
        have z1 : w5.frozen? ⟨X, 1, none⟩ = false := (row_cell X5.out 1).2
        have y0 : w5.cell? ⟨X, 0, none⟩ = some (.int .i64 0) := by rw [(row_cell X5.out 0).1]; rfl
        have y1 : w5.cell? ⟨X, 1, none⟩ = some (.int .i64 0) := by rw [(row_cell X5.out 1).1]; rfl
        clear b5 CF M4 X4 F4
        go_wp2_with fail
        refine bodyPost_ret (results_cell_one rfl _ _ X _ _ rfl (set_two X5.out _ _) Try.underlying40 rfl (by kernel_rfl)) rfl ?_
        have hfo : Fo (fun b => b = X) w5 _ := ((Fo.refl (fun b => b = X) w5).setCell (.inl rfl) 0 (.int .i64 (findV R e (1, 6) [1]).1)).setCell (.inl rfl) 1 (.int .i64 (findV R e (1, 6) [1]).2)
        refine ⟨by rw [HV2.out], M5.out.fo hfo (by have := HG.out; omega) (by have := HG.out; omega) (by have := HG.out; omega), F5.out.trans hfo (fun i hi => .inr (by rw [hi, HXS.out]; exact Nat.le_refl _))⟩
      · have gq : (q == -1) = false := by simpa using hqm
        have HQ := Lib.hid hqm
        clear hqm
        have HV2 : Hid (decV false R p e = findV R e (0, 2) [0, 1]) := by unfold Hid; rw [HV.out]; rw [if_neg (by simp), if_neg HQ.out]
        have hal : Below w3.heap.size w3 (w3.alloc (.cells #[.int .i64 0, .int .i64 1] 3)) := (Below.refl _ _).alloc (Nat.le_refl _) _
        have hb0 : (w3.alloc (.cells #[.int .i64 0, .int .i64 1] 3)).heap[w3.heap.size]? = some (.cells #[.int .i64 0, .int .i64 1] 3 (0, 0)) := heap_alloc_new _ _
        have hsz4 : (w3.alloc (.cells #[.int .i64 0, .int .i64 1] 3)).heap.size = w3.heap.size + 1 := by simp
        obtain ⟨w4, hw4⟩ : ∃ W, w3.alloc (.cells #[.int .i64 0, .int .i64 1] 3) = W := ⟨_, rfl⟩
        obtain ⟨Y, hY⟩ : ∃ Y, w3.heap.size = Y := ⟨_, rfl⟩
        rw [hw4] at hal hb0 hsz4
        rw [hY] at hb0 hsz4
        have hXY : X < Y := by have := TAIL.out.2.2.2; omega
        have M4 := Lib.hid (TAIL.out.1.below hal)
        have X4 : Hid (w4.heap[X]? = some (.cells #[.int .i64 0, .int .i64 0] 40 (0, 0))) := (hal.block X TAIL.out.2.2.2).trans TAIL.out.2.2.1
        have F4 : Hid (Fo (fun b => b = cb) w w4) := TAIL.out.2.1.trans (Fo.of_below hal : Fo (fun b => b = cb) w3 w4) (fun i hi => .inl hi)
        have CF := Lib.hid (find_any g rb cb false R (decC false C p e) e 0 2 Y 0 2 [0, 1] w4 M4.out rfl (by omega) (by omega) (fun i x hi => by
          rw [Nat.zero_add, (row_cell hb0 i).1]
          rcases i with _ | _ | i <;> simp at hi ⊢ <;> first | omega | exact hi))
        clear hal hb0 hsz4 hXY
        go_wp2_with fail
        refine CF.out.mono ?_
        rintro r w5 ⟨rfl, b5⟩
        have M5 := Lib.hid (M4.out.below b5)
        have X5 : Hid (w5.heap[X]? = some (.cells #[.int .i64 0, .int .i64 0] 40 (0, 0))) := (b5.block X (Array.getElem?_eq_some_iff.1 X4.out).1).trans X4.out
        have F5 : Hid (Fo (fun b => b = cb) w w5) := F4.out.trans (Fo.of_below b5 : Fo (fun b => b = cb) w4 w5) (fun i hi => .inl hi)
        have z0 : w5.frozen? ⟨X, 0, none⟩ = false := (row_cell X5.out 0).2
        have z1 : w5.frozen? ⟨X, 1, none⟩ = false := (row_cell X5.out 1).2
        have y0 : w5.cell? ⟨X, 0, none⟩ = some (.int .i64 0) := by rw [(row_cell X5.out 0).1]; rfl
        have y1 : w5.cell? ⟨X, 1, none⟩ = some (.int .i64 0) := by rw [(row_cell X5.out 1).1]; rfl
        clear b5 CF M4 X4 F4
        go_wp2_with fail
        refine bodyPost_ret (results_cell_one rfl _ _ X _ _ rfl (set_two X5.out _ _) Try.underlying40 rfl (by kernel_rfl)) rfl ?_
        have hfo : Fo (fun b => b = X) w5 _ := ((Fo.refl (fun b => b = X) w5).setCell (.inl rfl) 0 (.int .i64 (findV R e (0, 2) [0, 1]).1)).setCell (.inl rfl) 1 (.int .i64 (findV R e (0, 2) [0, 1]).2)
        refine ⟨by rw [HV2.out], M5.out.fo hfo (by have := HG.out; omega) (by have := HG.out; omega) (by have := HG.out; omega), F5.out.trans hfo (fun i hi => .inr (by rw [hi, HXS.out]; exact Nat.le_refl _))⟩
    · skip
      have HV2 : Hid (decV true R p e = findV R e (2, 1) [2]) := by unfold Hid; rw [HV.out]; rw [if_pos rfl]
      have hal : Below w3.heap.size w3 (w3.alloc (.cells #[.int .i64 2] 3)) := (Below.refl _ _).alloc (Nat.le_refl _) _
      have hb0 : (w3.alloc (.cells #[.int .i64 2] 3)).heap[w3.heap.size]? = some (.cells #[.int .i64 2] 3 (0, 0)) := heap_alloc_new _ _
      have hsz4 : (w3.alloc (.cells #[.int .i64 2] 3)).heap.size = w3.heap.size + 1 := by simp
      obtain ⟨w4, hw4⟩ : ∃ W, w3.alloc (.cells #[.int .i64 2] 3) = W := ⟨_, rfl⟩
      obtain ⟨Y, hY⟩ : ∃ Y, w3.heap.size = Y := ⟨_, rfl⟩
      rw [hw4] at hal hb0 hsz4
      rw [hY] at hb0 hsz4
      have hXY : X < Y := by have := TAIL.out.2.2.2; omega
      have M4 := Lib.hid (TAIL.out.1.below hal)
      have X4 : Hid (w4.heap[X]? = some (.cells #[.int .i64 0, .int .i64 0] 40 (0, 0))) := (hal.block X TAIL.out.2.2.2).trans TAIL.out.2.2.1
      have F4 : Hid (Fo (fun b => b = cb) w w4) := TAIL.out.2.1.trans (Fo.of_below hal : Fo (fun b => b = cb) w3 w4) (fun i hi => .inl hi)
      have CF := Lib.hid (find_any g rb cb true R (decC true C p e) e 2 1 Y 0 1 [2] w4 M4.out rfl (by omega) (by omega) (fun i x hi => by
        rw [Nat.zero_add, (row_cell hb0 i).1]
        rcases i with _ | i <;> simp at hi ⊢ <;> first | omega | exact hi))
      clear hal hb0 hsz4 hXY
      go_wp2_with fail
      refine CF.out.mono ?_
      rintro r w5 ⟨rfl, b5⟩
      have M5 := Lib.hid (M4.out.below b5)
      have X5 : Hid (w5.heap[X]? = some (.cells #[.int .i64 0, .int .i64 0] 40 (0, 0))) := (b5.block X (Array.getElem?_eq_some_iff.1 X4.out).1).trans X4.out
      have F5 : Hid (Fo (fun b => b = cb) w w5) := F4.out.trans (Fo.of_below b5 : Fo (fun b => b = cb) w4 w5) (fun i hi => .inl hi)
      have z0 : w5.frozen? ⟨X, 0, none⟩ = false := (row_cell X5.out 0).2
      have z1 : w5.frozen? ⟨X, 1, none⟩ = false := (row_cell X5.out 1).2
      have y0 : w5.cell? ⟨X, 0, none⟩ = some (.int .i64 0) := by rw [(row_cell X5.out 0).1]; rfl
      have y1 : w5.cell? ⟨X, 1, none⟩ = some (.int .i64 0) := by rw [(row_cell X5.out 1).1]; rfl
      clear b5 CF M4 X4 F4
      go_wp2_with fail
      refine bodyPost_ret (results_cell_one rfl _ _ X _ _ rfl (set_two X5.out _ _) Try.underlying40 rfl (by kernel_rfl)) rfl ?_
      have hfo : Fo (fun b => b = X) w5 _ := ((Fo.refl (fun b => b = X) w5).setCell (.inl rfl) 0 (.int .i64 (findV R e (2, 1) [2]).1)).setCell (.inl rfl) 1 (.int .i64 (findV R e (2, 1) [2]).2)
      refine ⟨by rw [HV2.out], M5.out.fo hfo (by have := HG.out; omega) (by have := HG.out; omega) (by have := HG.out; omega), F5.out.trans hfo (fun i hi => .inr (by rw [hi, HXS.out]; exact Nat.le_refl _))⟩
  · try go_simp
    refine hK.out _ _ k1 (fun hHeld => ?_)
    clear hK K0
    try simp only [Act.put, List.setIfInBounds_toArray, List.set_cons_zero, List.set_cons_succ]
    refine takeD (i := 10) (d := some 24) (v := ?_) _ rfl rfl (by kernel_rfl) (by kernel_rfl) (by kernel_rfl) (fun _ _ _ h => h) (by rfl) ?_ (by assumption) ?_
    rotate_left
    · (intro w hSw; (try dsimp only at hSw); go_simp) <;> with_reducible rfl
    try simp only [Act.put, List.setIfInBounds_toArray, List.set_cons_zero, List.set_cons_succ]
    refine wpAnyH_ready (rs := [7]) (by kernel_rfl) (by simp) ?_
    refine AllReadyH.cons rfl (fun K0 hK => ?_) AllReadyH.nil
    try go_simp
    refine hK.out _ _ k1 (fun hHeld => ?_)
    clear hK K0
    try simp only [Act.put, List.setIfInBounds_toArray, List.set_cons_zero, List.set_cons_succ]
    refine takeD (i := 8) (d := some 22) (v := ?_) _ rfl rfl (by kernel_rfl) (by kernel_rfl) (by kernel_rfl) (fun _ _ _ h => h) (by rfl) ?_ (by assumption) ?_
    rotate_left
    · (intro w hSw; (try dsimp only at hSw); go_simp) <;> with_reducible rfl
    try simp only [Act.put, List.setIfInBounds_toArray, List.set_cons_zero, List.set_cons_succ]
    refine wpAnyH_ready (rs := [11]) (by kernel_rfl) (by simp) ?_
    refine AllReadyH.cons rfl (fun K0 hK => ?_) AllReadyH.nil
    try go_simp
    refine hK.out _ _ k3 (fun hHeld => ?_)
    clear hK K0
    try simp only [Act.put, List.setIfInBounds_toArray, List.set_cons_zero, List.set_cons_succ]
    refine wpAnyH_done (by kernel_rfl) ?_ _
    clear hHeld en' hl0 hl1 es es' k1 k3 g2
    have c0 : w3.cell? ⟨g, 0, none⟩ = some (.bool mo) := by rw [(row_cell TAIL.out.1.hp 0).1]; rfl
    cases mo
    · have c0' := c0
      clear c0'
      by_cases hqm : q = -1
      · have gq : (q == -1) = true := by simpa using hqm
        have HQ := Lib.hid hqm
        clear hqm
        have HV2 : Hid (decV false R p e = findV R e (1, 6) [1]) := by unfold Hid; rw [HV.out]; rw [if_neg (by simp), if_pos HQ.out]
        have hal : Below w3.heap.size w3 (w3.alloc (.cells #[.int .i64 1] 3)) := (Below.refl _ _).alloc (Nat.le_refl _) _
        have hb0 : (w3.alloc (.cells #[.int .i64 1] 3)).heap[w3.heap.size]? = some (.cells #[.int .i64 1] 3 (0, 0)) := heap_alloc_new _ _
        have hsz4 : (w3.alloc (.cells #[.int .i64 1] 3)).heap.size = w3.heap.size + 1 := by simp
        obtain ⟨w4, hw4⟩ : ∃ W, w3.alloc (.cells #[.int .i64 1] 3) = W := ⟨_, rfl⟩
        obtain ⟨Y, hY⟩ : ∃ Y, w3.heap.size = Y := ⟨_, rfl⟩
        rw [hw4] at hal hb0 hsz4
        rw [hY] at hb0 hsz4
        have hXY : X < Y := by have := TAIL.out.2.2.2; omega
        have M4 := Lib.hid (TAIL.out.1.below hal)
        have X4 : Hid (w4.heap[X]? = some (.cells #[.int .i64 0, .int .i64 0] 40 (0, 0))) := (hal.block X TAIL.out.2.2.2).trans TAIL.out.2.2.1
        have F4 : Hid (Fo (fun b => b = cb) w w4) := TAIL.out.2.1.trans (Fo.of_below hal : Fo (fun b => b = cb) w3 w4) (fun i hi => .inl hi)
        have CF := Lib.hid (find_any g rb cb false R (decC false C p e) e 1 6 Y 0 1 [1] w4 M4.out rfl (by omega) (by omega) (fun i x hi => by
          rw [Nat.zero_add, (row_cell hb0 i).1]
          rcases i with _ | i <;> simp at hi ⊢ <;> first | omega | exact hi))
        clear hal hb0 hsz4 hXY
        go_wp2_with fail
        refine CF.out.mono ?_
        rintro r w5 ⟨rfl, b5⟩
        have M5 := Lib.hid (M4.out.below b5)
        have X5 : Hid (w5.heap[X]? = some (.cells #[.int .i64 0, .int .i64 0] 40 (0, 0))) := (b5.block X (Array.getElem?_eq_some_iff.1 X4.out).1).trans X4.out
        have F5 : Hid (Fo (fun b => b = cb) w w5) := F4.out.trans (Fo.of_below b5 : Fo (fun b => b = cb) w4 w5) (fun i hi => .inl hi)
        have z0 : w5.frozen? ⟨X, 0, none⟩ = false := (row_cell X5.out 0).2
        have z1 : w5.frozen? ⟨X, 1, none⟩ = false := (row_cell X5.out 1).2
        have y0 : w5.cell? ⟨X, 0, none⟩ = some (.int .i64 0) := by rw [(row_cell X5.out 0).1]; rfl
        have y1 : w5.cell? ⟨X, 1, none⟩ = some (.int .i64 0) := by rw [(row_cell X5.out 1).1]; rfl
        clear b5 CF M4 X4 F4
        go_wp2_with fail
        refine bodyPost_ret (results_cell_one rfl _ _ X _ _ rfl (set_two X5.out _ _) Try.underlying40 rfl (by kernel_rfl)) rfl ?_
        have hfo : Fo (fun b => b = X) w5 _ := ((Fo.refl (fun b => b = X) w5).setCell (.inl rfl) 0 (.int .i64 (findV R e (1, 6) [1]).1)).setCell (.inl rfl) 1 (.int .i64 (findV R e (1, 6) [1]).2)
        refine ⟨by rw [HV2.out], M5.out.fo hfo (by have := HG.out; omega) (by have := HG.out; omega) (by have := HG.out; omega), F5.out.trans hfo (fun i hi => .inr (by rw [hi, HXS.out]; exact Nat.le_refl _))⟩
      · have gq : (q == -1) = false := by simpa using hqm
        have HQ := Lib.hid hqm
        clear hqm
        have HV2 : Hid (decV false R p e = findV R e (0, 2) [0, 1]) := by unfold Hid; rw [HV.out]; rw [if_neg (by simp), if_neg HQ.out]
        have hal : Below w3.heap.size w3 (w3.alloc (.cells #[.int .i64 0, .int .i64 1] 3)) := (Below.refl _ _).alloc (Nat.le_refl _) _
        have hb0 : (w3.alloc (.cells #[.int .i64 0, .int .i64 1] 3)).heap[w3.heap.size]? = some (.cells #[.int .i64 0, .int .i64 1] 3 (0, 0)) := heap_alloc_new _ _
        have hsz4 : (w3.alloc (.cells #[.int .i64 0, .int .i64 1] 3)).heap.size = w3.heap.size + 1 := by simp
        obtain ⟨w4, hw4⟩ : ∃ W, w3.alloc (.cells #[.int .i64 0, .int .i64 1] 3) = W := ⟨_, rfl⟩
        obtain ⟨Y, hY⟩ : ∃ Y, w3.heap.size = Y := ⟨_, rfl⟩
        rw [hw4] at hal hb0 hsz4
        rw [hY] at hb0 hsz4
        have hXY : X < Y := by have := TAIL.out.2.2.2; omega
        have M4 := Lib.hid (TAIL.out.1.below hal)
        have X4 : Hid (w4.heap[X]? = some (.cells #[.int .i64 0, .int .i64 0] 40 (0, 0))) := (hal.block X TAIL.out.2.2.2).trans TAIL.out.2.2.1
        have F4 : Hid (Fo (fun b => b = cb) w w4) := TAIL.out.2.1.trans (Fo.of_below hal : Fo (fun b => b = cb) w3 w4) (fun i hi => .inl hi)
        have CF := Lib.hid (find_any g rb cb false R (decC false C p e) e 0 2 Y 0 2 [0, 1] w4 M4.out rfl (by omega) (by omega) (fun i x hi => by
          rw [Nat.zero_add, (row_cell hb0 i).1]
          rcases i with _ | _ | i <;> simp at hi ⊢ <;> first | omega | exact hi))
        clear hal hb0 hsz4 hXY
        go_wp2_with fail
        refine CF.out.mono ?_
        rintro r w5 ⟨rfl, b5⟩
        have M5 := Lib.hid (M4.out.below b5)
        have X5 : Hid (w5.heap[X]? = some (.cells #[.int .i64 0, .int .i64 0] 40 (0, 0))) := (b5.block X (Array.getElem?_eq_some_iff.1 X4.out).1).trans X4.out
        have F5 : Hid (Fo (fun b => b = cb) w w5) := F4.out.trans (Fo.of_below b5 : Fo (fun b => b = cb) w4 w5) (fun i hi => .inl hi)
        have z0 : w5.frozen? ⟨X, 0, none⟩ = false := (row_cell X5.out 0).2
        have z1 : w5.frozen? ⟨X, 1, none⟩ = false := (row_cell X5.out 1).2
        have y0 : w5.cell? ⟨X, 0, none⟩ = some (.int .i64 0) := by rw [(row_cell X5.out 0).1]; rfl
        have y1 : w5.cell? ⟨X, 1, none⟩ = some (.int .i64 0) := by rw [(row_cell X5.out 1).1]; rfl
        clear b5 CF M4 X4 F4
        go_wp2_with fail
        refine bodyPost_ret (results_cell_one rfl _ _ X _ _ rfl (set_two X5.out _ _) Try.underlying40 rfl (by kernel_rfl)) rfl ?_
        have hfo : Fo (fun b => b = X) w5 _ := ((Fo.refl (fun b => b = X) w5).setCell (.inl rfl) 0 (.int .i64 (findV R e (0, 2) [0, 1]).1)).setCell (.inl rfl) 1 (.int .i64 (findV R e (0, 2) [0, 1]).2)
        refine ⟨by rw [HV2.out], M5.out.fo hfo (by have := HG.out; omega) (by have := HG.out; omega) (by have := HG.out; omega), F5.out.trans hfo (fun i hi => .inr (by rw [hi, HXS.out]; exact Nat.le_refl _))⟩
    · skip
      have HV2 : Hid (decV true R p e = findV R e (2, 1) [2]) := by unfold Hid; rw [HV.out]; rw [if_pos rfl]
      have hal : Below w3.heap.size w3 (w3.alloc (.cells #[.int .i64 2] 3)) := (Below.refl _ _).alloc (Nat.le_refl _) _
      have hb0 : (w3.alloc (.cells #[.int .i64 2] 3)).heap[w3.heap.size]? = some (.cells #[.int .i64 2] 3 (0, 0)) := heap_alloc_new _ _
      have hsz4 : (w3.alloc (.cells #[.int .i64 2] 3)).heap.size = w3.heap.size + 1 := by simp
      obtain ⟨w4, hw4⟩ : ∃ W, w3.alloc (.cells #[.int .i64 2] 3) = W := ⟨_, rfl⟩
      obtain ⟨Y, hY⟩ : ∃ Y, w3.heap.size = Y := ⟨_, rfl⟩
      rw [hw4] at hal hb0 hsz4
      rw [hY] at hb0 hsz4
      have hXY : X < Y := by have := TAIL.out.2.2.2; omega
      have M4 := Lib.hid (TAIL.out.1.below hal)
      have X4 : Hid (w4.heap[X]? = some (.cells #[.int .i64 0, .int .i64 0] 40 (0, 0))) := (hal.block X TAIL.out.2.2.2).trans TAIL.out.2.2.1
      have F4 : Hid (Fo (fun b => b = cb) w w4) := TAIL.out.2.1.trans (Fo.of_below hal : Fo (fun b => b = cb) w3 w4) (fun i hi => .inl hi)
      have CF := Lib.hid (find_any g rb cb true R (decC true C p e) e 2 1 Y 0 1 [2] w4 M4.out rfl (by omega) (by omega) (fun i x hi => by
        rw [Nat.zero_add, (row_cell hb0 i).1]
        rcases i with _ | i <;> simp at hi ⊢ <;> first | omega | exact hi))
      clear hal hb0 hsz4 hXY
      go_wp2_with fail
      refine CF.out.mono ?_
      rintro r w5 ⟨rfl, b5⟩
      have M5 := Lib.hid (M4.out.below b5)
      have X5 : Hid (w5.heap[X]? = some (.cells #[.int .i64 0, .int .i64 0] 40 (0, 0))) := (b5.block X (Array.getElem?_eq_some_iff.1 X4.out).1).trans X4.out
      have F5 : Hid (Fo (fun b => b = cb) w w5) := F4.out.trans (Fo.of_below b5 : Fo (fun b => b = cb) w4 w5) (fun i hi => .inl hi)
      have z0 : w5.frozen? ⟨X, 0, none⟩ = false := (row_cell X5.out 0).2
      have z1 : w5.frozen? ⟨X, 1, none⟩ = false := (row_cell X5.out 1).2
      have y0 : w5.cell? ⟨X, 0, none⟩ = some (.int .i64 0) := by rw [(row_cell X5.out 0).1]; rfl
      have y1 : w5.cell? ⟨X, 1, none⟩ = some (.int .i64 0) := by rw [(row_cell X5.out 1).1]; rfl
      clear b5 CF M4 X4 F4
      go_wp2_with fail
      refine bodyPost_ret (results_cell_one rfl _ _ X _ _ rfl (set_two X5.out _ _) Try.underlying40 rfl (by kernel_rfl)) rfl ?_
      have hfo : Fo (fun b => b = X) w5 _ := ((Fo.refl (fun b => b = X) w5).setCell (.inl rfl) 0 (.int .i64 (findV R e (2, 1) [2]).1)).setCell (.inl rfl) 1 (.int .i64 (findV R e (2, 1) [2]).2)
      refine ⟨by rw [HV2.out], M5.out.fo hfo (by have := HG.out; omega) (by have := HG.out; omega) (by have := HG.out; omega), F5.out.trans hfo (fun i hi => .inr (by rw [hi, HXS.out]; exact Nat.le_refl _))⟩
end Go.Proofs.Ythnlkfcfiieddaa.Hl
