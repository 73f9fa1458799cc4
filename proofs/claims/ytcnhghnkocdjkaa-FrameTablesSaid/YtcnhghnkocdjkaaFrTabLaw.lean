/-
  The walk of FrameTables. Each statement bears its own conditions.
-/
import Derived.Test.YtcnhghnkocdjkaaFrL
namespace Go.Proofs.Ytcnhghnkocdjkaa
open Go.RowKit
set_option linter.unusedVariables false
set_option linter.unusedSimpArgs false
theorem neqW_self (a b c : Int) (W : World) : (binOp .neq 39 (.agg #[.int .i64 a, .int .i64 b, .int .i64 c]) (.agg #[.int .i64 a, .int .i64 b, .int .i64 c])).run Try.prog W = .ok (.bool false) W := by
  go_simp
structure TabRel (n : Nat) (L : List MW) (w : World) (v14 v15 : Value) (wr : World) : Prop where
  ex : ∃ k : Nat, k ≤ n ∧ v15 = .int .i64 (k : Int) ∧ v14 = .int .i64 (sumL (L.take k)) ∧ Below w.heap.size w wr
set_option maxRecDepth 100000 in
set_option maxHeartbeats 4000000 in
theorem tables_walk (fr tick who : Int) (v : Value) (ws : List MW) (w : World) (h : Row w 3 RW v ws) (hcap : CapOk v) (ht : I64 tick) :
    Calls Try.prog 3 #[.agg #[.int .i64 fr, v], .int .i64 tick, .int .i64 who] w fun e w' => e = .returned (.bool true) ∧ Below w.heap.size w w' := by
  obtain ⟨a, cap, rfl, hm⟩ := h.form
  obtain ⟨n, hn⟩ : ∃ n, ws.length = n := ⟨_, rfl⟩
  rw [hn] at h hm hcap ⊢
  have hnc : n ≤ cap := hcap _ _ _ rfl
  have CU := Lib.hid fun W => cut_any fr a n cap W hnc (by unfold rowMax at hm; exact hm)
  have HR0 := Lib.hid (row_cut h)
  obtain ⟨m, hmm⟩ : ∃ m : Nat, (min (n : Int) 70).toNat = m := ⟨_, rfl⟩
  obtain ⟨us, hus⟩ : ∃ us, ws.take 70 = us := ⟨_, rfl⟩
  have hul : us.length ≤ 70 := by rw [← hus, List.length_take]; omega
  rw [hmm] at CU HR0
  rw [hus] at HR0
  have HUL := Lib.hid hul
  have HT := Lib.hid ht
  clear h hn hcap hm hnc hmm hus hul ht
  obtain ⟨W0, hW0⟩ : ∃ W0, w.alloc (.cells #[.int .i64 fr, .slice a n cap] 24) = W0 := ⟨_, rfl⟩
  have BW : Hid (Below w.heap.size w W0) := by rw [← hW0]; exact (Below.refl _ _).alloc (Nat.le_refl _) _
  have HS0 : Hid (W0.heap.size = w.heap.size + 1) := by rw [← hW0]; unfold Hid; simp
  have HH0 : Hid (W0.heap[w.heap.size]? = some (.cells #[.int .i64 fr, .slice a n cap] 24 (0, 0))) := by rw [← hW0]; exact heap_alloc_new _ _
  have d0 : W0.cell? ⟨w.heap.size, 0, none⟩ = some (.int .i64 fr) := by rw [← hW0]; simp
  have d1 : W0.cell? ⟨w.heap.size, 1, none⟩ = some (.slice a n cap) := by rw [← hW0]; simp
  go_enter Try.func3, Try.ntmps3
  go_wp2_with fail
  clear hW0
  refine (CU.out W0).mono ?_
  rintro e W1 ⟨rfl, b1⟩
  have f1 : W1.heap[w.heap.size]? = some (.cells #[.int .i64 fr, .slice a n cap] 24 (0, 0)) := (b1.block _ (by rw [HS0.out]; omega)).trans HH0.out
  have B1 : Hid (Below w.heap.size w W1) := BW.out.trans (b1.mono BW.out.size)
  have g0 := (row_cell f1 0).2
  have g1 := (row_cell f1 1).2
  have k0 := (row_cell f1 0).1
  have k1 := (row_cell f1 1).1
  simp at k0 k1
  have HF1 := Lib.hid f1
  clear d0 d1 b1 f1
  obtain ⟨V1, hV1⟩ : ∃ V1, (W1.setCell ⟨w.heap.size, 0, none⟩ (.int .i64 fr)).setCell ⟨w.heap.size, 1, none⟩ (.slice a m cap) = V1 := ⟨_, rfl⟩
  have BV1 : Hid (Below w.heap.size w V1) := by rw [← hV1]; exact (B1.out.setCell (p := ⟨w.heap.size, 0, none⟩) (Nat.le_refl _) _).setCell (p := ⟨w.heap.size, 1, none⟩) (Nat.le_refl _) _
  have hrng := set_two HF1.out (.int .i64 fr) (.slice a m cap)
  rw [hV1] at hrng
  have d0 : V1.cell? ⟨w.heap.size, 0, none⟩ = some (.int .i64 fr) := by simpa using hrng 0 _ rfl
  have d1 : V1.cell? ⟨w.heap.size, 1, none⟩ = some (.slice a m cap) := by simpa using hrng 1 _ rfl
  have D0 := Lib.hid d0
  have D1 := Lib.hid d1
  have RV1 : Hid (Row V1 3 RW (.slice a m cap) us) := HR0.out.below BV1.out
  have LO := Lib.hid (lof_any fr (.slice a m cap) us V1 RV1.out HUL.out)
  clear hrng
  go_wp2_with fail
  clear hV1 g0 g1 k0 k1 HF1 B1
  refine LO.out.mono ?_
  rintro e W2 ⟨⟨rm, rfl, hrm⟩, b2⟩
  obtain ⟨am, cm, rfl, hmm⟩ := hrm.form
  obtain ⟨mm, hmmm⟩ : ∃ mm, us.length = mm := ⟨_, rfl⟩
  rw [hmmm] at hrm ⊢
  have B2 := Lib.hid b2
  have HRM := Lib.hid hrm
  clear d0 d1 b2 hmm hrm hmmm LO
  obtain ⟨Wm, hWm⟩ : ∃ Wm, W2.alloc (.cells #[.int .i64 fr, .slice am mm cm] 28) = Wm := ⟨_, rfl⟩
  have BM2 : Hid (Below W2.heap.size W2 Wm) := by rw [← hWm]; exact (Below.refl _ _).alloc (Nat.le_refl _) _
  have BM1 : Hid (Below V1.heap.size V1 Wm) := B2.out.trans (BM2.out.mono B2.out.size)
  have BMw : Hid (Below w.heap.size w Wm) := BV1.out.trans (BM1.out.mono BV1.out.size)
  have HRA : Hid (Row Wm 3 RW (.slice a m cap) us) := RV1.out.below BM1.out
  have HRB : Hid (Row Wm 3 RW (.slice am mm cm) us) := HRM.out.below BM2.out
  have d0 : Wm.cell? ⟨w.heap.size, 0, none⟩ = some (.int .i64 fr) := cell_later BM1.out D0.out
  have d1 : Wm.cell? ⟨w.heap.size, 1, none⟩ = some (.slice a m cap) := cell_later BM1.out D1.out
  have d2 : Wm.cell? ⟨W2.heap.size, 0, none⟩ = some (.int .i64 fr) := by rw [← hWm]; simp
  have d3 : Wm.cell? ⟨W2.heap.size, 1, none⟩ = some (.slice am mm cm) := by rw [← hWm]; simp
  have E0 := Lib.hid d0
  have E1 := Lib.hid d1
  have E2 := Lib.hid d2
  have E3 := Lib.hid d3
  obtain ⟨p, q, hpq⟩ : ∃ p q, atW fr tick us = (p, q) := ⟨_, _, rfl⟩
  obtain ⟨c, hc⟩ : ∃ c, chk fr us = c := ⟨_, rfl⟩
  obtain ⟨L, hL⟩ : ∃ L, ofL fr who us = L := ⟨_, rfl⟩
  have CA := Lib.hid fun W (hb : Below Wm.heap.size Wm W) => at_any fr tick (.slice a m cap) us W (HRA.out.below hb) HT.out
  have RA := Lib.hid fun W (hb : Below Wm.heap.size Wm W) => rat_any fr tick (.slice am mm cm) us W (HRB.out.below hb) HT.out
  have CO := Lib.hid fun W (hb : Below Wm.heap.size Wm W) => of_any fr who (.slice a m cap) us W (HRA.out.below hb)
  have RO := Lib.hid fun W (hb : Below Wm.heap.size Wm W) => rof_any fr who (.slice am mm cm) us W (HRB.out.below hb)
  have CC := Lib.hid fun W (hb : Below Wm.heap.size Wm W) => check_any fr (.slice a m cap) us W (HRA.out.below hb)
  have RCC := Lib.hid fun W (hb : Below Wm.heap.size Wm W) => rcheck_any fr (.slice am mm cm) us W (HRB.out.below hb)
  have CT := Lib.hid fun W (hb : Below Wm.heap.size Wm W) => total_any fr who (.slice a m cap) us W (HRA.out.below hb)
  rw [hpq] at CA RA
  rw [hL] at CO RO CT
  rw [hc] at CC RCC
  have GL : Hid ((∀ x ∈ L, 1 ≤ x.len) ∧ 0 ≤ sumL L ∧ sumL L ≤ 1048576 ∧ L.length ≤ 64) := by rw [← hL]; exact ofL_good
  clear hpq hc hL
  go_wp2_with fail
  clear hWm
  refine (CA.out _ (Below.refl _ _)).mono ?_
  rintro e W3 ⟨rfl, b⟩
  have B3 := Lib.hid b
  clear b d0 d1 d2 d3 CA
  have d2 := cell_later B3.out E2.out
  have d3 := cell_later B3.out E3.out
  go_wp2_with fail
  refine (RA.out _ B3.out).mono ?_
  rintro e W4 ⟨rfl, b⟩
  have B4 : Hid (Below Wm.heap.size Wm W4) := B3.out.trans (b.mono B3.out.size)
  clear b d2 d3 RA
  have d0 := cell_later B4.out E0.out
  have d1 := cell_later B4.out E1.out
  have d2 := cell_later B4.out E2.out
  have d3 := cell_later B4.out E3.out
  go_wp2_with fail
  refine wp_region_held_drew (S := (fun w' => Below Wm.heap.size Wm w' ∧ w'.cell? ⟨w.heap.size, 0, none⟩ = some (.int .i64 fr) ∧ w'.cell? ⟨w.heap.size, 1, none⟩ = some (.slice a m cap) ∧ w'.cell? ⟨W2.heap.size, 0, none⟩ = some (.int .i64 fr) ∧ w'.cell? ⟨W2.heap.size, 1, none⟩ = some (.slice am mm cm))) (by kernel_rfl) ?_ (fun hHeld => ?_)
  · exact ⟨below_drewN B4.out 1, d0, d1, d2, d3⟩
  refine takeD (i := 0) (d := some 32) (v := ?_) _ rfl rfl (by kernel_rfl) (by kernel_rfl) (by kernel_rfl) (fun _ _ _ h => h) (by rfl) ?_ (by assumption) ?_
  rotate_left
  · (intro w hSw; (try dsimp only at hSw); go_simp) <;> with_reducible rfl
  try simp only [Act.put, List.setIfInBounds_toArray, List.set_cons_zero, List.set_cons_succ]
  refine takeD (i := 1) (d := some 33) (v := ?_) _ rfl rfl (by kernel_rfl) (by kernel_rfl) (by kernel_rfl) (fun _ _ _ h => h) (by rfl) ?_ (by assumption) ?_
  rotate_left
  · (intro w hSw; (try dsimp only at hSw); go_simp) <;> with_reducible rfl
  try simp only [Act.put, List.setIfInBounds_toArray, List.set_cons_zero, List.set_cons_succ]
  refine takeD (i := 3) (d := some 35) (v := ?_) _ rfl rfl (by kernel_rfl) (by kernel_rfl) (by kernel_rfl) (fun _ _ _ h => h) (by rfl) ?_ (by assumption) ?_
  rotate_left
  · (intro w hSw; (try dsimp only at hSw); go_simp) <;> with_reducible rfl
  try simp only [Act.put, List.setIfInBounds_toArray, List.set_cons_zero, List.set_cons_succ]
  refine takeD (i := 4) (d := some 36) (v := ?_) _ rfl rfl (by kernel_rfl) (by kernel_rfl) (by kernel_rfl) (fun _ _ _ h => h) (by rfl) ?_ (by assumption) ?_
  rotate_left
  · (intro w hSw; (try dsimp only at hSw); go_simp) <;> with_reducible rfl
  try simp only [Act.put, List.setIfInBounds_toArray, List.set_cons_zero, List.set_cons_succ]
  refine wpAnyH_ready (rs := [2]) (by kernel_rfl) (by simp) ?_
  refine AllReadyH.cons rfl (fun K hK => ?_) AllReadyH.nil
  (go_simp; go_at_call 13; refine (CO.out _ hHeld.1).mono ?_; rintro e wt1 ⟨⟨r1, rfl, hr1⟩, hbt⟩; try go_wp2_with fail)
  refine hK.out _ _ ?_ (fun hHeld => ?_)
  · exact ⟨hHeld.1.trans (hbt.mono hHeld.1.size), cell_later hbt hHeld.2.1, cell_later hbt hHeld.2.2.1, cell_later hbt hHeld.2.2.2.1, cell_later hbt hHeld.2.2.2.2⟩
  clear hK K
  try simp only [Act.put, List.setIfInBounds_toArray, List.set_cons_zero, List.set_cons_succ]
  have HR1 := Lib.hid hr1
  clear hr1 hbt
  refine wpAnyH_ready (rs := [5]) (by kernel_rfl) (by simp) ?_
  refine AllReadyH.cons rfl (fun K hK => ?_) AllReadyH.nil
  (go_simp; go_at_call 14; refine (RO.out _ hHeld.1).mono ?_; rintro e wt2 ⟨⟨r2, rfl, hr2⟩, hbt⟩; try go_wp2_with fail)
  refine hK.out _ _ ?_ (fun hHeld => ?_)
  · exact ⟨hHeld.1.trans (hbt.mono hHeld.1.size), cell_later hbt hHeld.2.1, cell_later hbt hHeld.2.2.1, cell_later hbt hHeld.2.2.2.1, cell_later hbt hHeld.2.2.2.2⟩
  clear hK K
  try simp only [Act.put, List.setIfInBounds_toArray, List.set_cons_zero, List.set_cons_succ]
  have HR1 : Hid (Row wt2 3 RW r1 L) := HR1.out.below hbt
  have HR2 := Lib.hid hr2
  clear hr2 hbt
  refine takeD (i := 6) (d := some 12) (v := ?_) _ rfl rfl (by kernel_rfl) (by kernel_rfl) (by kernel_rfl) (fun _ _ _ h => h) (by rfl) ?_ (by assumption) ?_
  rotate_left
  · (intro w hSw; (try dsimp only at hSw); go_simp) <;> with_reducible rfl
  try simp only [Act.put, List.setIfInBounds_toArray, List.set_cons_zero, List.set_cons_succ]
  refine takeD (i := 7) (d := some 13) (v := ?_) _ rfl rfl (by kernel_rfl) (by kernel_rfl) (by kernel_rfl) (fun _ _ _ h => h) (by rfl) ?_ (by assumption) ?_
  rotate_left
  · (intro w hSw; (try dsimp only at hSw); go_simp) <;> with_reducible rfl
  try simp only [Act.put, List.setIfInBounds_toArray, List.set_cons_zero, List.set_cons_succ]
  refine wpAnyH_done (by kernel_rfl) ?_ _
  have B5 := Lib.hid hHeld.1
  clear hHeld d0 d1 d2 d3 CO RO
  have d0 := cell_later B5.out E0.out
  have d1 := cell_later B5.out E1.out
  have d2 := cell_later B5.out E2.out
  have d3 := cell_later B5.out E3.out
  obtain ⟨a1, c1, rfl, hm1⟩ := HR1.out.form
  obtain ⟨a2, c2, rfl, hm2⟩ := HR2.out.form
  obtain ⟨l, hl⟩ : ∃ l, L.length = l := ⟨_, rfl⟩
  rw [hl] at HR1 HR2
  have HLL := Lib.hid hl
  have hl64 : l ≤ 64 := by have := GL.out.2.2.2; omega
  simp only [hl]
  clear hl hm1 hm2
  go_wp2_with fail
  refine wp_region_held_drew (S := (fun w' => Below Wm.heap.size Wm w' ∧ w'.cell? ⟨w.heap.size, 0, none⟩ = some (.int .i64 fr) ∧ w'.cell? ⟨w.heap.size, 1, none⟩ = some (.slice a m cap) ∧ w'.cell? ⟨W2.heap.size, 0, none⟩ = some (.int .i64 fr) ∧ w'.cell? ⟨W2.heap.size, 1, none⟩ = some (.slice am mm cm) ∧ Below wt2.heap.size wt2 w')) (by kernel_rfl) ?_ (fun hHeld => ?_)
  · exact ⟨below_drewN B5.out 1, d0, d1, d2, d3, below_drewN (Below.refl _ _) 1⟩
  refine takeD (i := 0) (d := some 38) (v := ?_) _ rfl rfl (by kernel_rfl) (by kernel_rfl) (by kernel_rfl) (fun _ _ _ h => h) (by rfl) ?_ (by assumption) ?_
  rotate_left
  · (intro w hSw; (try dsimp only at hSw); go_simp) <;> with_reducible rfl
  try simp only [Act.put, List.setIfInBounds_toArray, List.set_cons_zero, List.set_cons_succ]
  refine takeD (i := 2) (d := some 40) (v := ?_) _ rfl rfl (by kernel_rfl) (by kernel_rfl) (by kernel_rfl) (fun _ _ _ h => h) (by rfl) ?_ (by assumption) ?_
  rotate_left
  · (intro w hSw; (try dsimp only at hSw); go_simp) <;> with_reducible rfl
  try simp only [Act.put, List.setIfInBounds_toArray, List.set_cons_zero, List.set_cons_succ]
  refine wpAnyH_ready (rs := [1]) (by kernel_rfl) (by simp) ?_
  refine AllReadyH.cons rfl (fun K hK => ?_) AllReadyH.nil
  (go_simp; go_at_call 15; refine (CC.out _ hHeld.1).mono ?_; rintro e wt3 ⟨rfl, hbt⟩; try go_wp2_with fail)
  refine hK.out _ _ ?_ (fun hHeld => ?_)
  · exact ⟨hHeld.1.trans (hbt.mono hHeld.1.size), cell_later hbt hHeld.2.1, cell_later hbt hHeld.2.2.1, cell_later hbt hHeld.2.2.2.1, cell_later hbt hHeld.2.2.2.2.1, hHeld.2.2.2.2.2.trans (hbt.mono hHeld.2.2.2.2.2.size)⟩
  clear hK K
  try simp only [Act.put, List.setIfInBounds_toArray, List.set_cons_zero, List.set_cons_succ]
  clear hbt
  refine wpAnyH_ready (rs := [3]) (by kernel_rfl) (by simp) ?_
  refine AllReadyH.cons rfl (fun K hK => ?_) AllReadyH.nil
  (go_simp; go_at_call 16; refine (RCC.out _ hHeld.1).mono ?_; rintro e wt4 ⟨rfl, hbt⟩; try go_wp2_with fail)
  refine hK.out _ _ ?_ (fun hHeld => ?_)
  · exact ⟨hHeld.1.trans (hbt.mono hHeld.1.size), cell_later hbt hHeld.2.1, cell_later hbt hHeld.2.2.1, cell_later hbt hHeld.2.2.2.1, cell_later hbt hHeld.2.2.2.2.1, hHeld.2.2.2.2.2.trans (hbt.mono hHeld.2.2.2.2.2.size)⟩
  clear hK K
  try simp only [Act.put, List.setIfInBounds_toArray, List.set_cons_zero, List.set_cons_succ]
  clear hbt
  refine takeD (i := 4) (d := some 42) (v := ?_) _ rfl rfl (by kernel_rfl) (by kernel_rfl) (by kernel_rfl) (fun _ _ _ h => h) (by rfl) ?_ (by assumption) ?_
  rotate_left
  · (intro w hSw; (try dsimp only at hSw); go_simp) <;> with_reducible rfl
  try simp only [Act.put, List.setIfInBounds_toArray, List.set_cons_zero, List.set_cons_succ]
  refine takeD (i := 5) (d := some 43) (v := ?_) _ rfl rfl (by kernel_rfl) (by kernel_rfl) (by kernel_rfl) (fun _ _ _ h => h) (by rfl) ?_ (by assumption) ?_
  rotate_left
  · (intro w hSw; (try dsimp only at hSw); go_simp) <;> with_reducible rfl
  try simp only [Act.put, List.setIfInBounds_toArray, List.set_cons_zero, List.set_cons_succ]
  refine takeD (i := 6) (d := some 44) (v := ?_) _ rfl rfl (by kernel_rfl) (by kernel_rfl) (by kernel_rfl) (fun _ _ _ h => h) (by rfl) ?_ (by assumption) ?_
  rotate_left
  · (intro w hSw; (try dsimp only at hSw); go_simp) <;> with_reducible rfl
  try simp only [Act.put, List.setIfInBounds_toArray, List.set_cons_zero, List.set_cons_succ]
  refine takeD (i := 7) (d := some 45) (v := ?_) _ rfl rfl (by kernel_rfl) (by kernel_rfl) (by kernel_rfl) (fun _ _ _ h => h) (by rfl) ?_ (by assumption) ?_
  rotate_left
  · (intro w hSw; (try dsimp only at hSw); go_simp) <;> with_reducible rfl
  try simp only [Act.put, List.setIfInBounds_toArray, List.set_cons_zero, List.set_cons_succ]
  refine takeD (i := 8) (d := some 46) (v := ?_) _ rfl rfl (by kernel_rfl) (by kernel_rfl) (by kernel_rfl) (fun _ _ _ h => h) (by rfl) ?_ (by assumption) ?_
  rotate_left
  · (intro w hSw; (try dsimp only at hSw); go_simp) <;> with_reducible rfl
  try simp only [Act.put, List.setIfInBounds_toArray, List.set_cons_zero, List.set_cons_succ]
  refine takeD (i := 9) (d := some 47) (v := ?_) _ rfl rfl (by kernel_rfl) (by kernel_rfl) (by kernel_rfl) (fun _ _ _ h => h) (by rfl) ?_ (by assumption) ?_
  rotate_left
  · (intro w hSw; (try dsimp only at hSw); go_simp) <;> with_reducible rfl
  try simp only [Act.put, List.setIfInBounds_toArray, List.set_cons_zero, List.set_cons_succ]
  refine takeD (i := 10) (d := some 48) (v := ?_) _ rfl rfl (by kernel_rfl) (by kernel_rfl) (by kernel_rfl) (fun _ _ _ h => h) (by rfl) ?_ (by assumption) ?_
  rotate_left
  · (intro w hSw; (try dsimp only at hSw); go_simp) <;> with_reducible rfl
  try simp only [Act.put, List.setIfInBounds_toArray, List.set_cons_zero, List.set_cons_succ]
  refine takeD (i := 11) (d := some 49) (v := ?_) _ rfl rfl (by kernel_rfl) (by kernel_rfl) (by kernel_rfl) (fun _ _ _ h => h) (by rfl) ?_ (by assumption) ?_
  rotate_left
  · (intro w hSw; (try dsimp only at hSw); go_simp) <;> with_reducible rfl
  try simp only [Act.put, List.setIfInBounds_toArray, List.set_cons_zero, List.set_cons_succ]
  refine takeD (i := 12) (d := some 50) (v := ?_) _ rfl rfl (by kernel_rfl) (by kernel_rfl) (by kernel_rfl) (fun _ _ _ h => h) (by rfl) ?_ (by assumption) ?_
  rotate_left
  · (intro w hSw; (try dsimp only at hSw); go_simp) <;> with_reducible rfl
  try simp only [Act.put, List.setIfInBounds_toArray, List.set_cons_zero, List.set_cons_succ]
  refine takeD (i := 13) (d := some 51) (v := ?_) _ rfl rfl (by kernel_rfl) (by kernel_rfl) (by kernel_rfl) (fun _ _ _ h => h) (by rfl) ?_ (by assumption) ?_
  rotate_left
  · (intro w hSw; (try dsimp only at hSw); go_simp) <;> with_reducible rfl
  try simp only [Act.put, List.setIfInBounds_toArray, List.set_cons_zero, List.set_cons_succ]
  refine takeD (i := 14) (d := some 52) (v := ?_) _ rfl rfl (by kernel_rfl) (by kernel_rfl) (by kernel_rfl) (fun _ _ _ h => h) (by rfl) ?_ (by assumption) ?_
  rotate_left
  · (intro w hSw; (try dsimp only at hSw); go_simp) <;> with_reducible rfl
  try simp only [Act.put, List.setIfInBounds_toArray, List.set_cons_zero, List.set_cons_succ]
  refine takeD (i := 15) (d := some 53) (v := ?_) _ rfl rfl (by kernel_rfl) (by kernel_rfl) (by kernel_rfl) (fun _ _ _ h => h) (by rfl) ?_ (by assumption) ?_
  rotate_left
  · (intro w hSw; (try dsimp only at hSw); go_simp) <;> with_reducible rfl
  try simp only [Act.put, List.setIfInBounds_toArray, List.set_cons_zero, List.set_cons_succ]
  refine takeD (i := 16) (d := some 54) (v := ?_) _ rfl rfl (by kernel_rfl) (by kernel_rfl) (by kernel_rfl) (fun _ _ _ h => h) (by rfl) ?_ (by assumption) ?_
  rotate_left
  · (intro w hSw; (try dsimp only at hSw); go_simp) <;> with_reducible rfl
  try simp only [Act.put, List.setIfInBounds_toArray, List.set_cons_zero, List.set_cons_succ]
  refine takeD (i := 17) (d := some 55) (v := ?_) _ rfl rfl (by kernel_rfl) (by kernel_rfl) (by kernel_rfl) (fun _ _ _ h => h) (by rfl) ?_ (by assumption) ?_
  rotate_left
  · (intro w hSw; (try dsimp only at hSw); go_simp) <;> with_reducible rfl
  try simp only [Act.put, List.setIfInBounds_toArray, List.set_cons_zero, List.set_cons_succ]
  refine takeD (i := 18) (d := some 56) (v := ?_) _ rfl rfl (by kernel_rfl) (by kernel_rfl) (by kernel_rfl) (fun _ _ _ h => h) (by rfl) ?_ (by assumption) ?_
  rotate_left
  · (intro w hSw; (try dsimp only at hSw); go_simp) <;> with_reducible rfl
  try simp only [Act.put, List.setIfInBounds_toArray, List.set_cons_zero, List.set_cons_succ]
  refine takeD (i := 19) (d := some 57) (v := ?_) _ rfl rfl (by kernel_rfl) (by kernel_rfl) (by kernel_rfl) (fun _ _ _ h => h) (by rfl) ?_ (by assumption) ?_
  rotate_left
  · (intro w hSw; (try dsimp only at hSw); go_simp) <;> with_reducible rfl
  try simp only [Act.put, List.setIfInBounds_toArray, List.set_cons_zero, List.set_cons_succ]
  refine takeD (i := 20) (d := some 58) (v := ?_) _ rfl rfl (by kernel_rfl) (by kernel_rfl) (by kernel_rfl) (fun _ _ _ h => h) (by rfl) ?_ (by assumption) ?_
  rotate_left
  · (intro w hSw; (try dsimp only at hSw); go_simp) <;> with_reducible rfl
  try simp only [Act.put, List.setIfInBounds_toArray, List.set_cons_zero, List.set_cons_succ]
  refine takeD (i := 21) (d := some 59) (v := ?_) _ rfl rfl (by kernel_rfl) (by kernel_rfl) (by kernel_rfl) (fun _ _ _ h => h) (by rfl) ?_ (by assumption) ?_
  rotate_left
  · (intro w hSw; (try dsimp only at hSw); go_simp) <;> with_reducible rfl
  try simp only [Act.put, List.setIfInBounds_toArray, List.set_cons_zero, List.set_cons_succ]
  refine wpAnyH_done (by kernel_rfl) ?_ _
  have B6 := Lib.hid hHeld.1
  have B7 := Lib.hid hHeld.2.2.2.2.2
  clear hHeld d0 d1 d2 d3 CC RCC
  have HR1 : Hid (Row wt4 3 RW (.slice a1 l c1) L) := HR1.out.below B7.out
  have HR2 : Hid (Row wt4 3 RW (.slice a2 l c2) L) := HR2.out.below B7.out
  go_wp2_with fail
  go_loopw [14, 15] (fun v14 v15 wr => TabRel l L wt4 v14 v15 wr) (fun _ v => fun _ => l - (intOf v).toNat)
  case atStart => exact ⟨⟨0, Nat.zero_le _, rfl, rfl, Below.refl _ _⟩⟩
  case round =>
    obtain ⟨⟨k, hk, rfl, rfl, hb⟩⟩ := hrel
    have HK := Lib.hid hk
    have HB := Lib.hid hb
    obtain ⟨s, hs⟩ : ∃ s, sumL (L.take k) = s := ⟨_, rfl⟩
    rw [hs]
    have HSS := Lib.hid hs
    clear hk hb hs
    by_cases hlt : k < l
    · have hkI : (k : Int) < (l : Int) := by omega
      have HX : Hid (k < l) := hlt
      obtain ⟨hnx, b, off, x, cs, rfl, hbl, hx, hR, _, hc⟩ := HR1.out.at_ k hlt
      obtain ⟨hnx', b', off', x', cs', rfl, hbl', hx', hR', _, hc'⟩ := HR2.out.at_ k hlt
      have hxx : x = x' := by rw [hx] at hx'; injection hx'
      subst hxx
      clear hnx hnx' hx'
      have h1 := sum_snoc hx
      have h2 := (sum_take_le GL.out.1 k).1
      have h3 := sum_take_le GL.out.1 (k + 1)
      have h4 := GL.out.1 x (List.mem_of_getElem? hx)
      obtain ⟨xw, xf, xl⟩ := x
      obtain ⟨rfl, hi0, hi1, hi2⟩ := hR
      obtain ⟨rfl, _, _, _⟩ := hR'
      dsimp only at h1 h4
      rw [HSS.out] at h1 h2
      have HQ := Lib.hid h1
      have hwr : IntKind.i64.wrap (s + xl) = s + xl := wrap_ok (by omega) (by have := GL.out.2.1; have := GL.out.2.2.1; omega)
      have RUN := fun W => neqW_self xw xf xl W
      have d0 : wr.cell? ⟨b, off + k * 3, none⟩ = some (.int .i64 xw) := cell_later HB.out (hc 0 _ rfl)
      have d1 : wr.cell? ⟨b, off + k * 3 + 1, none⟩ = some (.int .i64 xf) := cell_later HB.out (hc 1 _ rfl)
      have d2 : wr.cell? ⟨b, off + k * 3 + 2, none⟩ = some (.int .i64 xl) := cell_later HB.out (hc 2 _ rfl)
      have d3 : wr.cell? ⟨b', off' + k * 3, none⟩ = some (.int .i64 xw) := cell_later HB.out (hc' 0 _ rfl)
      have d4 : wr.cell? ⟨b', off' + k * 3 + 1, none⟩ = some (.int .i64 xf) := cell_later HB.out (hc' 1 _ rfl)
      have d5 : wr.cell? ⟨b', off' + k * 3 + 2, none⟩ = some (.int .i64 xl) := cell_later HB.out (hc' 2 _ rfl)
      clear hc hc' hi0 hi1 hi2 hbl hbl' hx hlt h1 h2 h3 h4
      go_wp2_with fail
      go_quiet (fail)
      go_wp2_with fail
      go_roundw
      case rel =>
        have Q : ∀ N, TabRel l L wt4 (.int .i64 (s + xl)) (.int .i64 ((k : Int) + 1)) (wr.drewN N) := fun N => ⟨⟨k + 1, HX.out, by go_num, by rw [HQ.out], below_drewN HB.out N⟩⟩
        first | exact Q _ | ((repeat apply Exists.intro); exact ⟨Q _, rfl⟩)
      case measure => have := HX.out; simp [intOf]; omega
    · have hkI : ¬ (k : Int) < (l : Int) := by omega
      have HZ : Hid (s = sumL L) := by
        unfold Hid
        rw [← HSS.out, List.take_of_length_le (by have := HLL.out; omega)]
      have B8 : Hid (Below Wm.heap.size Wm wr) := B6.out.trans (HB.out.mono B6.out.size)
      go_wp2_with fail
      refine (known_any _).mono ?_
      rintro e W9 ⟨rfl, b9⟩
      have B9 : Hid (Below Wm.heap.size Wm W9) := B8.out.trans (b9.mono B8.out.size)
      have d0 := cell_later B9.out E0.out
      have d1 := cell_later B9.out E1.out
      have C := Lib.hid (CT.out W9 B9.out)
      have hs := HZ.out
      rw [← hs] at C
      clear b9 hs
      go_wp2_with fail
      refine C.out.mono ?_
      rintro e W10 ⟨rfl, b10⟩
      go_wp2_with fail
      go_ret
      exact ⟨rfl, BMw.out.trans ((B9.out.trans (b10.mono B9.out.size)).mono BMw.out.size)⟩
end Go.Proofs.Ytcnhghnkocdjkaa
