/-
  The reference's Decode, whole; its Encode. Each statement bears its own conditions.
-/
import Derived.Test.YtglpbngdikfliaaDoorCaI
namespace Go.Proofs.YtglpbngdikfliaaDoor.Ca
open Go.RowKit Go.Proofs.YtglpbngdikfliaaDoor.F
set_option linter.unusedVariables false
set_option linter.unusedSimpArgs false
theorem rdecode_any (n : Int) (r : List Int) (hr : Regs r) (w : World) : Calls Tryd.prog 10 #[.int .i64 n, .agg (RG r)] w fun e w' => e = .returned (.tuple #[(decQ n r).val, .int .i64 (decE n r)]) ∧ Below w.heap.size w w' := by
  rcases Bool.eq_false_or_eq_true (is n) with hn | hn
  · by_cases h26 : n = 26
    · exact rdecode_26 n r hr hn h26 w
    · exact rdecode_ne n r hr hn h26 w
  · obtain ⟨X, hX⟩ : ∃ X, w.heap.size = X := ⟨_, rfl⟩
    obtain ⟨W0, hW0⟩ : ∃ W0, (w.alloc (.cells (RG r) 23)).alloc (.cells #[.int .i64 0, .int .i64 0, .int .u32 0, .int .i64 0, .int .i64 0] 29) = W0 := ⟨_, rfl⟩
    have B0 : Hid (Below X w W0) := by rw [← hW0, ← hX]; exact ((Below.refl _ _).alloc (Nat.le_refl _) _).alloc (by simp) _
    have HY0 : Hid (W0.heap[X + 1]? = some (.cells #[.int .i64 0, .int .i64 0, .int .u32 0, .int .i64 0, .int .i64 0] 29 (0, 0))) := by
      unfold Hid; rw [← hW0, ← hX]; have := heap_alloc_new (w.alloc (.cells (RG r) 23)) (.cells #[.int .i64 0, .int .i64 0, .int .u32 0, .int .i64 0, .int .i64 0] 29); simpa using this
    have S0 : Hid (W0.heap.size = X + 2) := by rw [← hW0, ← hX]; unfold Hid; simp
    have CO := Lib.hid (of_any n W0)
    have HP : Hid (decQ n r = zeroQ ∧ decE n r = 9) := by unfold Hid decQ decE; rw [hn]; exact ⟨rfl, rfl⟩
    have HQ : rowQ n = .agg #[.string ⟨#[]⟩, .bool false, .bool false, .bool false, .bool false, .int .i64 0] := by unfold rowQ; rw [hn]; rfl
    rw [hn, HQ] at CO
    clear HQ hn hr
    simp only [hX]
    go_enter Tryd.func10, Tryd.ntmps10
    go_wp2_with fail
    refine CO.out.mono ?_
    rintro e w1 ⟨rfl, hb⟩
    have b2 : Below w1.heap.size w1 (w1.alloc (.cells #[.string ⟨#[]⟩, .bool false, .bool false, .bool false, .bool false, .int .i64 0] 46)) := (Below.refl _ _).alloc (Nat.le_refl _) _
    have s1 : X + 2 ≤ w1.heap.size := by have := hb.size; have := S0.out; omega
    have HY2 : Hid ((w1.alloc (.cells #[.string ⟨#[]⟩, .bool false, .bool false, .bool false, .bool false, .int .i64 0] 46)).heap[X + 1]? = some (.cells #[.int .i64 0, .int .i64 0, .int .u32 0, .int .i64 0, .int .i64 0] 29 (0, 0))) := (b2.block (X + 1) (by omega)).trans ((hb.block (X + 1) (by have := S0.out; omega)).trans HY0.out)
    have B2 : Hid (Below X w (w1.alloc (.cells #[.string ⟨#[]⟩, .bool false, .bool false, .bool false, .bool false, .int .i64 0] 46))) := (B0.out.trans (hb.mono (by have := S0.out; omega))).trans (b2.mono (by omega))
    clear hb b2 s1 hW0 CO B0 HY0 S0
    go_upto_region 2 with fail
    obtain ⟨W2, hW2⟩ : ∃ W, w1.alloc (.cells #[.string ⟨#[]⟩, .bool false, .bool false, .bool false, .bool false, .int .i64 0] 46) = W := ⟨_, rfl⟩
    rw [hW2] at HY2 B2 ⊢
    clear hW2
    have y0 : W2.cell? ⟨X + 1, 0, none⟩ = some (.int .i64 0) := by rw [(row_cell HY2.out 0).1]; rfl
    have yz0 : W2.frozen? ⟨X + 1, 0, none⟩ = false := (row_cell HY2.out 0).2
    have y1 : W2.cell? ⟨X + 1, 1, none⟩ = some (.int .i64 0) := by rw [(row_cell HY2.out 1).1]; rfl
    have yz1 : W2.frozen? ⟨X + 1, 1, none⟩ = false := (row_cell HY2.out 1).2
    have y2 : W2.cell? ⟨X + 1, 2, none⟩ = some (.int .u32 0) := by rw [(row_cell HY2.out 2).1]; rfl
    have yz2 : W2.frozen? ⟨X + 1, 2, none⟩ = false := (row_cell HY2.out 2).2
    have y3 : W2.cell? ⟨X + 1, 3, none⟩ = some (.int .i64 0) := by rw [(row_cell HY2.out 3).1]; rfl
    have yz3 : W2.frozen? ⟨X + 1, 3, none⟩ = false := (row_cell HY2.out 3).2
    have y4 : W2.cell? ⟨X + 1, 4, none⟩ = some (.int .i64 0) := by rw [(row_cell HY2.out 4).1]; rfl
    have yz4 : W2.frozen? ⟨X + 1, 4, none⟩ = false := (row_cell HY2.out 4).2
    go_wp2_with fail
    refine bodyPost_ret (results_cell_tmp rfl _ _ (X + 1) _ _ rfl (set_five HY2.out _ _ _ _ _) Tryd.underlying29 rfl (by kernel_rfl)) rfl ?_
    exact ⟨by rw [HP.out.1, HP.out.2]; rfl, (((((B2.out).setCell (by exact Nat.le_succ _) _).setCell (by exact Nat.le_succ _) _).setCell (by exact Nat.le_succ _) _).setCell (by exact Nat.le_succ _) _).setCell (by exact Nat.le_succ _) _⟩
set_option maxRecDepth 100000 in
set_option maxHeartbeats 32000000 in
theorem rencode_any (q : Rq) (r : List Int) (hr : Regs r) (ha : 0 ≤ q.at_ ∧ q.at_ ≤ 4294967295) (w : World) : Calls Tryd.prog 16 #[q.val, .agg (RG r)] w fun e w' => e = .returned (.agg (RG (encV q r))) ∧ Below w.heap.size w w' := by
  obtain ⟨v, hv⟩ : ∃ v, validV q = v := ⟨_, rfl⟩
  have VF := fun h : v = true => valid_fits (hv.trans h)
  have HVV : Hid (encV q r = if v then encR q r else r) := by unfold Hid encV; rw [hv]
  have CV0 := fun W => rright_any q W
  rw [hv] at CV0
  obtain ⟨n, o, a, ws, t⟩ := q
  show Calls Tryd.prog 16 #[.agg #[.int .i64 n, .int .i64 o, .int .u32 a, .int .i64 ws, .int .i64 t], .agg (RG r)] w _
  have HT1 : Hid (0 ≤ a ∧ a ≤ 4294967295) := ha
  have HRr := Lib.hid hr
  have hsr := hr.size
  obtain ⟨X, hX⟩ : ∃ X, w.heap.size = X := ⟨_, rfl⟩
  obtain ⟨W0, hW0⟩ : ∃ W0, ((w.alloc (.cells #[.int .i64 n, .int .i64 o, .int .u32 a, .int .i64 ws, .int .i64 t] 29)).alloc (.cells (RG r) 23)).alloc (.cells #[.int .u32 0, .int .u32 0, .int .u32 0, .int .u32 0, .int .u32 0, .int .u32 0, .int .u32 0, .int .u32 0, .int .u32 0, .int .u32 0, .int .u32 0, .int .u32 0, .int .u32 0, .int .u32 0, .int .u32 0, .int .u32 0] 23) = W0 := ⟨_, rfl⟩
  have B0 : Hid (Below X w W0) := by rw [← hW0, ← hX]; exact (((Below.refl _ _).alloc (Nat.le_refl _) _).alloc (by simp) _).alloc (by simp; omega) _
  have HX0 : Hid (W0.heap[X]? = some (.cells #[.int .i64 n, .int .i64 o, .int .u32 a, .int .i64 ws, .int .i64 t] 29 (0, 0))) := by
    unfold Hid; rw [← hW0, ← hX]
    exact ((((Below.refl _ _).alloc (by simp) _).alloc (by simp) _).block (B := (w.alloc (.cells #[.int .i64 n, .int .i64 o, .int .u32 a, .int .i64 ws, .int .i64 t] 29)).heap.size) _ (by simp)).trans (heap_alloc_new _ _)
  have HR0 : Hid (W0.heap[X + 1]? = some (.cells (RG r) 23 (0, 0))) := by
    unfold Hid; rw [← hW0, ← hX]
    have e := heap_alloc_new (w.alloc (.cells #[.int .i64 n, .int .i64 o, .int .u32 a, .int .i64 ws, .int .i64 t] 29)) (.cells (RG r) 23)
    exact (((Below.refl _ _).alloc (by simp) _).block (B := ((w.alloc (.cells #[.int .i64 n, .int .i64 o, .int .u32 a, .int .i64 ws, .int .i64 t] 29)).alloc (.cells (RG r) 23)).heap.size) _ (by simp)).trans (by simpa using e)
  have HZ0 : Hid (W0.heap[X + 1 + 1]? = some (.cells #[.int .u32 0, .int .u32 0, .int .u32 0, .int .u32 0, .int .u32 0, .int .u32 0, .int .u32 0, .int .u32 0, .int .u32 0, .int .u32 0, .int .u32 0, .int .u32 0, .int .u32 0, .int .u32 0, .int .u32 0, .int .u32 0] 23 (0, 0))) := by unfold Hid; rw [← hW0, ← hX]; have := heap_alloc_new ((w.alloc (.cells #[.int .i64 n, .int .i64 o, .int .u32 a, .int .i64 ws, .int .i64 t] 29)).alloc (.cells (RG r) 23)) (.cells #[.int .u32 0, .int .u32 0, .int .u32 0, .int .u32 0, .int .u32 0, .int .u32 0, .int .u32 0, .int .u32 0, .int .u32 0, .int .u32 0, .int .u32 0, .int .u32 0, .int .u32 0, .int .u32 0, .int .u32 0, .int .u32 0] 23); simpa using this
  have S0 : Hid (X + 3 ≤ W0.heap.size) := by unfold Hid; rw [← hW0, ← hX]; simp
  have CV := Lib.hid (CV0 W0)
  clear CV0 hv hr ha
  have x0 : W0.cell? ⟨X, 0, none⟩ = some (.int .i64 n) := by rw [(row_cell HX0.out 0).1]; rfl
  have x1 : W0.cell? ⟨X, 1, none⟩ = some (.int .i64 o) := by rw [(row_cell HX0.out 1).1]; rfl
  have x2 : W0.cell? ⟨X, 2, none⟩ = some (.int .u32 a) := by rw [(row_cell HX0.out 2).1]; rfl
  have x3 : W0.cell? ⟨X, 3, none⟩ = some (.int .i64 ws) := by rw [(row_cell HX0.out 3).1]; rfl
  have x4 : W0.cell? ⟨X, 4, none⟩ = some (.int .i64 t) := by rw [(row_cell HX0.out 4).1]; rfl
  simp only [hX]
  go_enter Tryd.func16, Tryd.ntmps16
  go_wp2_with fail
  refine CV.out.mono ?_
  rintro e V ⟨rfl, hb⟩
  have HXc : Hid (V.heap[X]? = some (.cells #[.int .i64 n, .int .i64 o, .int .u32 a, .int .i64 ws, .int .i64 t] 29 (0, 0))) := (hb.block X (by have := S0.out; omega)).trans HX0.out
  have HRc : Hid (V.heap[X + 1]? = some (.cells (RG r) 23 (0, 0))) := (hb.block (X + 1) (by have := S0.out; omega)).trans HR0.out
  have HZc : Hid (V.heap[X + 1 + 1]? = some (.cells #[.int .u32 0, .int .u32 0, .int .u32 0, .int .u32 0, .int .u32 0, .int .u32 0, .int .u32 0, .int .u32 0, .int .u32 0, .int .u32 0, .int .u32 0, .int .u32 0, .int .u32 0, .int .u32 0, .int .u32 0, .int .u32 0] 23 (0, 0))) := (hb.block (X + 1 + 1) (by have := S0.out; omega)).trans HZ0.out
  have Sc : Hid (X + 3 ≤ V.heap.size) := Nat.le_trans S0.out hb.size
  have Bc : Hid (Below X w V) := B0.out.trans (hb.mono (by have := S0.out; omega))
  clear hb HX0 HR0 HZ0 S0 B0 CV hW0 x0 x1 x2 x3 x4
  cases v
  · have hst := store16 HZc.out (by rfl) HRr.out
    obtain ⟨V4, hV4⟩ : ∃ W, V.setRow (X + 1 + 1) (RG r) = W := ⟨_, rfl⟩
    have HV4 : Hid (V4.heap[X + 1 + 1]? = some (.cells (RG r) 23 (0, 0))) := by unfold Hid; rw [← hV4]; exact setRow_heap _ _ _ _ _ _ HZc.out
    have BV4 : Hid (Below X w V4) := by rw [← hV4]; exact below_setRow Bc.out (by omega) _
    rw [hV4] at hst
    clear hV4
    generalize hC : RG r = C at hsr hst HV4 HRc ⊢
    go_wp2_with (refine wpList_load_row rfl 23 _ rfl (X + 1) rfl 23 C (0, 0) _ HRc.out Tryd.underlying23 rfl (by rw [hsr]; exact size16) ?_)
    refine bodyPost_ret (v := .agg C) (results_cell_row (ty := 23) (p := 4) rfl _ _ (X + 1 + 1) 23 C (0, 0) _ rfl HV4.out Tryd.underlying23 rfl (by rw [hsr]; exact size16)) rfl ⟨by rw [HVV.out, ← hC]; rfl, BV4.out⟩
  obtain ⟨hn, h2, _⟩ := VF rfl
  replace hn : is n = true := hn
  have hw := fits_wds h2
  replace hw : 0 ≤ o ∧ o ≤ 15 ∧ 0 ≤ ws ∧ ws ≤ 32 ∧ -1 ≤ t ∧ t ≤ 4294967294 := hw
  have HT0 : Hid (0 ≤ o ∧ o ≤ 4294967295) := ⟨hw.1, by omega⟩
  have HT2 : Hid (0 ≤ ws ∧ ws ≤ 4294967295) := ⟨hw.2.2.1, by omega⟩
  have e0 : IntKind.u32.wrap o = o := IntWalk.u32_in _ ⟨hw.1, by omega⟩
  have e2 : IntKind.u32.wrap ws = ws := IntWalk.u32_in _ ⟨hw.2.2.1, by omega⟩
  obtain ⟨tv, htv⟩ : ∃ x, backT t = x := ⟨_, rfl⟩
  have TV := Lib.hid htv
  have e3 : IntKind.u32.wrap t = tv := by
    rw [← htv]; unfold backT
    split
    · rename_i e; subst e; decide
    · exact IntWalk.u32_in _ ⟨by omega, by omega⟩
  have HT3 : Hid (0 ≤ tv ∧ tv ≤ 4294967295) := by unfold Hid; rw [← htv]; unfold backT; split <;> omega
  clear VF h2 hw htv
  have CO := Lib.hid (of_any n V)
  rw [hn] at CO
  obtain ⟨bo, hbo⟩ : ∃ x, oB n = x := ⟨_, rfl⟩
  obtain ⟨ba, hba⟩ : ∃ x, aB n = x := ⟨_, rfl⟩
  obtain ⟨bw, hbw⟩ : ∃ x, wB n = x := ⟨_, rfl⟩
  obtain ⟨bt, hbt⟩ : ∃ x, tB n = x := ⟨_, rfl⟩
  obtain ⟨p, hp⟩ : ∃ x, priceL.getD n.toNat 0 = x := ⟨_, rfl⟩
  obtain ⟨wd, hwd⟩ : ∃ x, byteL.getD n.toNat #[] = x := ⟨_, rfl⟩
  have HQ : rowQ n = .agg #[.string ⟨wd⟩, .bool bo, .bool ba, .bool bw, .bool bt, .int .i64 p] := by unfold rowQ wordV; rw [hn, hbo, hba, hbw, hbt, hp, hwd]; rfl
  rw [HQ] at CO
  have HBB : Hid (oB n = bo ∧ aB n = ba ∧ wB n = bw ∧ tB n = bt) := ⟨hbo, hba, hbw, hbt⟩
  clear HQ hbo hba hbw hbt hp hwd hn
  have x0 : V.cell? ⟨X, 0, none⟩ = some (.int .i64 n) := by rw [(row_cell HXc.out 0).1]; rfl
  have x1 : V.cell? ⟨X, 1, none⟩ = some (.int .i64 o) := by rw [(row_cell HXc.out 1).1]; rfl
  have x2 : V.cell? ⟨X, 2, none⟩ = some (.int .u32 a) := by rw [(row_cell HXc.out 2).1]; rfl
  have x3 : V.cell? ⟨X, 3, none⟩ = some (.int .i64 ws) := by rw [(row_cell HXc.out 3).1]; rfl
  have x4 : V.cell? ⟨X, 4, none⟩ = some (.int .i64 t) := by rw [(row_cell HXc.out 4).1]; rfl
  go_wp2_with fail
  refine CO.out.mono ?_
  rintro e V2 ⟨rfl, hb⟩
  have HXd : Hid (V2.heap[X]? = some (.cells #[.int .i64 n, .int .i64 o, .int .u32 a, .int .i64 ws, .int .i64 t] 29 (0, 0))) := (hb.block X (by have := Sc.out; omega)).trans HXc.out
  have HRd : Hid (V2.heap[X + 1]? = some (.cells (RG r) 23 (0, 0))) := (hb.block (X + 1) (by have := Sc.out; omega)).trans HRc.out
  have HZd : Hid (V2.heap[X + 1 + 1]? = some (.cells #[.int .u32 0, .int .u32 0, .int .u32 0, .int .u32 0, .int .u32 0, .int .u32 0, .int .u32 0, .int .u32 0, .int .u32 0, .int .u32 0, .int .u32 0, .int .u32 0, .int .u32 0, .int .u32 0, .int .u32 0, .int .u32 0] 23 (0, 0))) := (hb.block (X + 1 + 1) (by have := Sc.out; omega)).trans HZc.out
  have Bd : Hid (Below X w V2) := Bc.out.trans (hb.mono (by have := Sc.out; omega))
  obtain ⟨Z, hZ⟩ : ∃ Z, V2.heap.size = Z := ⟨_, rfl⟩
  have HXZ : Hid (X + 2 < Z) := by have := hb.size; have := Sc.out; unfold Hid; omega
  clear hb CO HXc HRc HZc Sc Bc x0 x1 x2 x3 x4
  go_upto_region 4 with fail
  obtain ⟨W0, hW0⟩ : ∃ W, V2.alloc (.cells #[.string ⟨wd⟩, .bool bo, .bool ba, .bool bw, .bool bt, .int .i64 p] 46) = W := ⟨_, rfl⟩
  rw [hW0]
  have b3 : Below V2.heap.size V2 W0 := by rw [← hW0]; exact (Below.refl _ _).alloc (Nat.le_refl _) _
  have HX0 : Hid (W0.heap[X]? = some (.cells #[.int .i64 n, .int .i64 o, .int .u32 a, .int .i64 ws, .int .i64 t] 29 (0, 0))) := (b3.block X (by have := HXZ.out; omega)).trans HXd.out
  have HR0 : Hid (W0.heap[X + 1]? = some (.cells (RG r) 23 (0, 0))) := (b3.block (X + 1) (by have := HXZ.out; omega)).trans HRd.out
  have HZ0 : Hid (W0.heap[X + 1 + 1]? = some (.cells #[.int .u32 0, .int .u32 0, .int .u32 0, .int .u32 0, .int .u32 0, .int .u32 0, .int .u32 0, .int .u32 0, .int .u32 0, .int .u32 0, .int .u32 0, .int .u32 0, .int .u32 0, .int .u32 0, .int .u32 0, .int .u32 0] 23 (0, 0))) := (b3.block (X + 1 + 1) (by have := HXZ.out; omega)).trans HZd.out
  have HK0 : Hid (W0.heap[Z]? = some (.cells #[.string ⟨wd⟩, .bool bo, .bool ba, .bool bw, .bool bt, .int .i64 p] 46 (0, 0))) := by unfold Hid; rw [← hW0, ← hZ]; exact heap_alloc_new _ _
  have B0 : Hid (Below X w W0) := Bd.out.trans (b3.mono (by have := HXZ.out; omega))
  clear hW0 b3 hZ HXd HRd HZd Bd
  cases bo
  · have t0 : W0.cell? ⟨Z, 0, none⟩ = some (.string ⟨wd⟩) := by rw [(row_cell HK0.out 0).1]; rfl
    have t1 : W0.cell? ⟨Z, 1, none⟩ = some (.bool false) := by rw [(row_cell HK0.out 1).1]; rfl
    have t2 : W0.cell? ⟨Z, 2, none⟩ = some (.bool ba) := by rw [(row_cell HK0.out 2).1]; rfl
    have t3 : W0.cell? ⟨Z, 3, none⟩ = some (.bool bw) := by rw [(row_cell HK0.out 3).1]; rfl
    have t4 : W0.cell? ⟨Z, 4, none⟩ = some (.bool bt) := by rw [(row_cell HK0.out 4).1]; rfl
    have t5 : W0.cell? ⟨Z, 5, none⟩ = some (.int .i64 p) := by rw [(row_cell HK0.out 5).1]; rfl
    go_upto_region 6 with fail
    obtain ⟨W00, hW00⟩ : ∃ W, W = W0 := ⟨_, rfl⟩
    subst hW00
    have HX00 := HX0
    have HR00 := HR0
    have HZ00 := HZ0
    have HK00 : Hid (W00.heap[Z]? = some (.cells #[.string ⟨wd⟩, .bool false, .bool ba, .bool bw, .bool bt, .int .i64 p] 46 (0, 0))) := HK0
    have B00 := B0
    clear t0 t1 t2 t3 t4 t5
    cases ba
    · have t0 : W00.cell? ⟨Z, 0, none⟩ = some (.string ⟨wd⟩) := by rw [(row_cell HK00.out 0).1]; rfl
      have t1 : W00.cell? ⟨Z, 1, none⟩ = some (.bool false) := by rw [(row_cell HK00.out 1).1]; rfl
      have t2 : W00.cell? ⟨Z, 2, none⟩ = some (.bool false) := by rw [(row_cell HK00.out 2).1]; rfl
      have t3 : W00.cell? ⟨Z, 3, none⟩ = some (.bool bw) := by rw [(row_cell HK00.out 3).1]; rfl
      have t4 : W00.cell? ⟨Z, 4, none⟩ = some (.bool bt) := by rw [(row_cell HK00.out 4).1]; rfl
      have t5 : W00.cell? ⟨Z, 5, none⟩ = some (.int .i64 p) := by rw [(row_cell HK00.out 5).1]; rfl
      go_upto_region 8 with fail
      obtain ⟨W000, hW000⟩ : ∃ W, W = W00 := ⟨_, rfl⟩
      subst hW000
      have HX000 := HX00
      have HR000 := HR00
      have HZ000 := HZ00
      have HK000 : Hid (W000.heap[Z]? = some (.cells #[.string ⟨wd⟩, .bool false, .bool false, .bool bw, .bool bt, .int .i64 p] 46 (0, 0))) := HK00
      have B000 := B00
      clear t0 t1 t2 t3 t4 t5
      cases bw
      · have t0 : W000.cell? ⟨Z, 0, none⟩ = some (.string ⟨wd⟩) := by rw [(row_cell HK000.out 0).1]; rfl
        have t1 : W000.cell? ⟨Z, 1, none⟩ = some (.bool false) := by rw [(row_cell HK000.out 1).1]; rfl
        have t2 : W000.cell? ⟨Z, 2, none⟩ = some (.bool false) := by rw [(row_cell HK000.out 2).1]; rfl
        have t3 : W000.cell? ⟨Z, 3, none⟩ = some (.bool false) := by rw [(row_cell HK000.out 3).1]; rfl
        have t4 : W000.cell? ⟨Z, 4, none⟩ = some (.bool bt) := by rw [(row_cell HK000.out 4).1]; rfl
        have t5 : W000.cell? ⟨Z, 5, none⟩ = some (.int .i64 p) := by rw [(row_cell HK000.out 5).1]; rfl
        go_upto_region 10 with fail
        obtain ⟨W0000, hW0000⟩ : ∃ W, W = W000 := ⟨_, rfl⟩
        subst hW0000
        have HX0000 := HX000
        have HR0000 := HR000
        have HZ0000 := HZ000
        have HK0000 : Hid (W0000.heap[Z]? = some (.cells #[.string ⟨wd⟩, .bool false, .bool false, .bool false, .bool bt, .int .i64 p] 46 (0, 0))) := HK000
        have B0000 := B000
        clear t0 t1 t2 t3 t4 t5
        cases bt
        · have t0 : W0000.cell? ⟨Z, 0, none⟩ = some (.string ⟨wd⟩) := by rw [(row_cell HK0000.out 0).1]; rfl
          have t1 : W0000.cell? ⟨Z, 1, none⟩ = some (.bool false) := by rw [(row_cell HK0000.out 1).1]; rfl
          have t2 : W0000.cell? ⟨Z, 2, none⟩ = some (.bool false) := by rw [(row_cell HK0000.out 2).1]; rfl
          have t3 : W0000.cell? ⟨Z, 3, none⟩ = some (.bool false) := by rw [(row_cell HK0000.out 3).1]; rfl
          have t4 : W0000.cell? ⟨Z, 4, none⟩ = some (.bool false) := by rw [(row_cell HK0000.out 4).1]; rfl
          have t5 : W0000.cell? ⟨Z, 5, none⟩ = some (.int .i64 p) := by rw [(row_cell HK0000.out 5).1]; rfl
          go_upto_region 12 with fail
          obtain ⟨W00000, hW00000⟩ : ∃ W, W = W0000 := ⟨_, rfl⟩
          subst hW00000
          have HX00000 := HX0000
          have HR00000 := HR0000
          have HZ00000 := HZ0000
          have HK00000 : Hid (W00000.heap[Z]? = some (.cells #[.string ⟨wd⟩, .bool false, .bool false, .bool false, .bool false, .int .i64 p] 46 (0, 0))) := HK0000
          have B00000 := B0000
          clear t0 t1 t2 t3 t4 t5
          have hrg : Regs (r) := HRr.out
          have hst := store16 HZ00000.out (by rfl) hrg
          obtain ⟨V4, hV4⟩ : ∃ W, W00000.setRow (X + 1 + 1) (RG (r)) = W := ⟨_, rfl⟩
          have HV4 : Hid (V4.heap[X + 1 + 1]? = some (.cells (RG (r)) 23 (0, 0))) := by unfold Hid; rw [← hV4]; exact setRow_heap _ _ _ _ _ _ HZ00000.out
          have BV4 : Hid (Below X w V4) := by rw [← hV4]; exact below_setRow B00000.out (by omega) _
          rw [hV4] at hst
          have hsz := hrg.size
          have HE : Hid (RG (encR ⟨n, o, a, ws, t⟩ r) = RG (r)) := by unfold Hid encR; simp only [HBB.out.1, HBB.out.2.1, HBB.out.2.2.1, HBB.out.2.2.2, if_true, if_false, Bool.false_eq_true, TV.out]
          clear hV4 hrg
          generalize hC : RG (r) = C at hsz hst HV4 HR00000 HE
          go_wp2_with (refine wpList_load_row rfl 23 _ rfl (X + 1) rfl 23 C (0, 0) _ HR00000.out Tryd.underlying23 rfl (by rw [hsz]; exact size16) ?_)
          refine bodyPost_ret (v := .agg C) (results_cell_row (ty := 23) (p := 4) rfl _ _ (X + 1 + 1) 23 C (0, 0) _ rfl HV4.out Tryd.underlying23 rfl (by rw [hsz]; exact size16)) rfl ⟨by rw [HVV.out, if_pos (by simp), HE.out], BV4.out⟩
        · have t0 : W0000.cell? ⟨Z, 0, none⟩ = some (.string ⟨wd⟩) := by rw [(row_cell HK0000.out 0).1]; rfl
          have t1 : W0000.cell? ⟨Z, 1, none⟩ = some (.bool false) := by rw [(row_cell HK0000.out 1).1]; rfl
          have t2 : W0000.cell? ⟨Z, 2, none⟩ = some (.bool false) := by rw [(row_cell HK0000.out 2).1]; rfl
          have t3 : W0000.cell? ⟨Z, 3, none⟩ = some (.bool false) := by rw [(row_cell HK0000.out 3).1]; rfl
          have t4 : W0000.cell? ⟨Z, 4, none⟩ = some (.bool true) := by rw [(row_cell HK0000.out 4).1]; rfl
          have t5 : W0000.cell? ⟨Z, 5, none⟩ = some (.int .i64 p) := by rw [(row_cell HK0000.out 5).1]; rfl
          have x00000 : W0000.cell? ⟨X, 0, none⟩ = some (.int .i64 n) := by rw [(row_cell HX0000.out 0).1]; rfl
          have x00001 : W0000.cell? ⟨X, 1, none⟩ = some (.int .i64 o) := by rw [(row_cell HX0000.out 1).1]; rfl
          have x00002 : W0000.cell? ⟨X, 2, none⟩ = some (.int .u32 a) := by rw [(row_cell HX0000.out 2).1]; rfl
          have x00003 : W0000.cell? ⟨X, 3, none⟩ = some (.int .i64 ws) := by rw [(row_cell HX0000.out 3).1]; rfl
          have x00004 : W0000.cell? ⟨X, 4, none⟩ = some (.int .i64 t) := by rw [(row_cell HX0000.out 4).1]; rfl
          obtain ⟨ro, hro⟩ : ∃ x, (r).getD 3 0 = x := ⟨_, rfl⟩
          have y0 := reg_at HR0000.out (HRr.out) (i := 3) (by omega)
          rw [hro] at y0
          obtain ⟨y0, yf⟩ := y0
          clear hro
          go_upto_region 12 with fail
          obtain ⟨W00001, hW00001⟩ : ∃ W, W0000.setCell ⟨X + 1, 3, none⟩ (.int .u32 tv) = W := ⟨_, rfl⟩
          rw [hW00001]
          have HX00001 : Hid (W00001.heap[X]? = some (.cells #[.int .i64 n, .int .i64 o, .int .u32 a, .int .i64 ws, .int .i64 t] 29 (0, 0))) := by rw [← hW00001]; exact (set_far _ _ (by omega)).trans HX0000.out
          have HR00001 : Hid (W00001.heap[X + 1]? = some (.cells (RG (r.set 3 tv)) 23 (0, 0))) := by rw [← hW00001]; exact reg_set HR0000.out 3 _
          have HZ00001 : Hid (W00001.heap[X + 1 + 1]? = some (.cells #[.int .u32 0, .int .u32 0, .int .u32 0, .int .u32 0, .int .u32 0, .int .u32 0, .int .u32 0, .int .u32 0, .int .u32 0, .int .u32 0, .int .u32 0, .int .u32 0, .int .u32 0, .int .u32 0, .int .u32 0, .int .u32 0] 23 (0, 0))) := by rw [← hW00001]; exact (set_far _ _ (by omega)).trans HZ0000.out
          have HK00001 : Hid (W00001.heap[Z]? = some (.cells #[.string ⟨wd⟩, .bool false, .bool false, .bool false, .bool true, .int .i64 p] 46 (0, 0))) := by rw [← hW00001]; exact (set_far _ _ (by have := HXZ.out; omega)).trans HK0000.out
          have B00001 : Hid (Below X w W00001) := by rw [← hW00001]; exact B0000.out.setCell (by show X ≤ X + 1; omega) _
          clear hW00001 y0 yf t0 t1 t2 t3 t4 t5 x00000 x00001 x00002 x00003 x00004
          have hrg : Regs (r.set 3 tv) := (HRr.out.set 3 HT3.out)
          have hst := store16 HZ00001.out (by rfl) hrg
          obtain ⟨V4, hV4⟩ : ∃ W, W00001.setRow (X + 1 + 1) (RG (r.set 3 tv)) = W := ⟨_, rfl⟩
          have HV4 : Hid (V4.heap[X + 1 + 1]? = some (.cells (RG (r.set 3 tv)) 23 (0, 0))) := by unfold Hid; rw [← hV4]; exact setRow_heap _ _ _ _ _ _ HZ00001.out
          have BV4 : Hid (Below X w V4) := by rw [← hV4]; exact below_setRow B00001.out (by omega) _
          rw [hV4] at hst
          have hsz := hrg.size
          have HE : Hid (RG (encR ⟨n, o, a, ws, t⟩ r) = RG (r.set 3 tv)) := by unfold Hid encR; simp only [HBB.out.1, HBB.out.2.1, HBB.out.2.2.1, HBB.out.2.2.2, if_true, if_false, Bool.false_eq_true, TV.out]
          clear hV4 hrg
          generalize hC : RG (r.set 3 tv) = C at hsz hst HV4 HR00001 HE
          go_wp2_with (refine wpList_load_row rfl 23 _ rfl (X + 1) rfl 23 C (0, 0) _ HR00001.out Tryd.underlying23 rfl (by rw [hsz]; exact size16) ?_)
          refine bodyPost_ret (v := .agg C) (results_cell_row (ty := 23) (p := 4) rfl _ _ (X + 1 + 1) 23 C (0, 0) _ rfl HV4.out Tryd.underlying23 rfl (by rw [hsz]; exact size16)) rfl ⟨by rw [HVV.out, if_pos (by simp), HE.out], BV4.out⟩
      · have t0 : W000.cell? ⟨Z, 0, none⟩ = some (.string ⟨wd⟩) := by rw [(row_cell HK000.out 0).1]; rfl
        have t1 : W000.cell? ⟨Z, 1, none⟩ = some (.bool false) := by rw [(row_cell HK000.out 1).1]; rfl
        have t2 : W000.cell? ⟨Z, 2, none⟩ = some (.bool false) := by rw [(row_cell HK000.out 2).1]; rfl
        have t3 : W000.cell? ⟨Z, 3, none⟩ = some (.bool true) := by rw [(row_cell HK000.out 3).1]; rfl
        have t4 : W000.cell? ⟨Z, 4, none⟩ = some (.bool bt) := by rw [(row_cell HK000.out 4).1]; rfl
        have t5 : W000.cell? ⟨Z, 5, none⟩ = some (.int .i64 p) := by rw [(row_cell HK000.out 5).1]; rfl
        have x0000 : W000.cell? ⟨X, 0, none⟩ = some (.int .i64 n) := by rw [(row_cell HX000.out 0).1]; rfl
        have x0001 : W000.cell? ⟨X, 1, none⟩ = some (.int .i64 o) := by rw [(row_cell HX000.out 1).1]; rfl
        have x0002 : W000.cell? ⟨X, 2, none⟩ = some (.int .u32 a) := by rw [(row_cell HX000.out 2).1]; rfl
        have x0003 : W000.cell? ⟨X, 3, none⟩ = some (.int .i64 ws) := by rw [(row_cell HX000.out 3).1]; rfl
        have x0004 : W000.cell? ⟨X, 4, none⟩ = some (.int .i64 t) := by rw [(row_cell HX000.out 4).1]; rfl
        obtain ⟨ro, hro⟩ : ∃ x, (r).getD 2 0 = x := ⟨_, rfl⟩
        have y0 := reg_at HR000.out (HRr.out) (i := 2) (by omega)
        rw [hro] at y0
        obtain ⟨y0, yf⟩ := y0
        clear hro
        go_upto_region 10 with fail
        obtain ⟨W0001, hW0001⟩ : ∃ W, W000.setCell ⟨X + 1, 2, none⟩ (.int .u32 ws) = W := ⟨_, rfl⟩
        rw [hW0001]
        have HX0001 : Hid (W0001.heap[X]? = some (.cells #[.int .i64 n, .int .i64 o, .int .u32 a, .int .i64 ws, .int .i64 t] 29 (0, 0))) := by rw [← hW0001]; exact (set_far _ _ (by omega)).trans HX000.out
        have HR0001 : Hid (W0001.heap[X + 1]? = some (.cells (RG (r.set 2 ws)) 23 (0, 0))) := by rw [← hW0001]; exact reg_set HR000.out 2 _
        have HZ0001 : Hid (W0001.heap[X + 1 + 1]? = some (.cells #[.int .u32 0, .int .u32 0, .int .u32 0, .int .u32 0, .int .u32 0, .int .u32 0, .int .u32 0, .int .u32 0, .int .u32 0, .int .u32 0, .int .u32 0, .int .u32 0, .int .u32 0, .int .u32 0, .int .u32 0, .int .u32 0] 23 (0, 0))) := by rw [← hW0001]; exact (set_far _ _ (by omega)).trans HZ000.out
        have HK0001 : Hid (W0001.heap[Z]? = some (.cells #[.string ⟨wd⟩, .bool false, .bool false, .bool true, .bool bt, .int .i64 p] 46 (0, 0))) := by rw [← hW0001]; exact (set_far _ _ (by have := HXZ.out; omega)).trans HK000.out
        have B0001 : Hid (Below X w W0001) := by rw [← hW0001]; exact B000.out.setCell (by show X ≤ X + 1; omega) _
        clear hW0001 y0 yf t0 t1 t2 t3 t4 t5 x0000 x0001 x0002 x0003 x0004
        cases bt
        · have t0 : W0001.cell? ⟨Z, 0, none⟩ = some (.string ⟨wd⟩) := by rw [(row_cell HK0001.out 0).1]; rfl
          have t1 : W0001.cell? ⟨Z, 1, none⟩ = some (.bool false) := by rw [(row_cell HK0001.out 1).1]; rfl
          have t2 : W0001.cell? ⟨Z, 2, none⟩ = some (.bool false) := by rw [(row_cell HK0001.out 2).1]; rfl
          have t3 : W0001.cell? ⟨Z, 3, none⟩ = some (.bool true) := by rw [(row_cell HK0001.out 3).1]; rfl
          have t4 : W0001.cell? ⟨Z, 4, none⟩ = some (.bool false) := by rw [(row_cell HK0001.out 4).1]; rfl
          have t5 : W0001.cell? ⟨Z, 5, none⟩ = some (.int .i64 p) := by rw [(row_cell HK0001.out 5).1]; rfl
          go_upto_region 12 with fail
          obtain ⟨W00010, hW00010⟩ : ∃ W, W = W0001 := ⟨_, rfl⟩
          subst hW00010
          have HX00010 := HX0001
          have HR00010 := HR0001
          have HZ00010 := HZ0001
          have HK00010 : Hid (W00010.heap[Z]? = some (.cells #[.string ⟨wd⟩, .bool false, .bool false, .bool true, .bool false, .int .i64 p] 46 (0, 0))) := HK0001
          have B00010 := B0001
          clear t0 t1 t2 t3 t4 t5
          have hrg : Regs (r.set 2 ws) := (HRr.out.set 2 HT2.out)
          have hst := store16 HZ00010.out (by rfl) hrg
          obtain ⟨V4, hV4⟩ : ∃ W, W00010.setRow (X + 1 + 1) (RG (r.set 2 ws)) = W := ⟨_, rfl⟩
          have HV4 : Hid (V4.heap[X + 1 + 1]? = some (.cells (RG (r.set 2 ws)) 23 (0, 0))) := by unfold Hid; rw [← hV4]; exact setRow_heap _ _ _ _ _ _ HZ00010.out
          have BV4 : Hid (Below X w V4) := by rw [← hV4]; exact below_setRow B00010.out (by omega) _
          rw [hV4] at hst
          have hsz := hrg.size
          have HE : Hid (RG (encR ⟨n, o, a, ws, t⟩ r) = RG (r.set 2 ws)) := by unfold Hid encR; simp only [HBB.out.1, HBB.out.2.1, HBB.out.2.2.1, HBB.out.2.2.2, if_true, if_false, Bool.false_eq_true, TV.out]
          clear hV4 hrg
          generalize hC : RG (r.set 2 ws) = C at hsz hst HV4 HR00010 HE
          go_wp2_with (refine wpList_load_row rfl 23 _ rfl (X + 1) rfl 23 C (0, 0) _ HR00010.out Tryd.underlying23 rfl (by rw [hsz]; exact size16) ?_)
          refine bodyPost_ret (v := .agg C) (results_cell_row (ty := 23) (p := 4) rfl _ _ (X + 1 + 1) 23 C (0, 0) _ rfl HV4.out Tryd.underlying23 rfl (by rw [hsz]; exact size16)) rfl ⟨by rw [HVV.out, if_pos (by simp), HE.out], BV4.out⟩
        · have t0 : W0001.cell? ⟨Z, 0, none⟩ = some (.string ⟨wd⟩) := by rw [(row_cell HK0001.out 0).1]; rfl
          have t1 : W0001.cell? ⟨Z, 1, none⟩ = some (.bool false) := by rw [(row_cell HK0001.out 1).1]; rfl
          have t2 : W0001.cell? ⟨Z, 2, none⟩ = some (.bool false) := by rw [(row_cell HK0001.out 2).1]; rfl
          have t3 : W0001.cell? ⟨Z, 3, none⟩ = some (.bool true) := by rw [(row_cell HK0001.out 3).1]; rfl
          have t4 : W0001.cell? ⟨Z, 4, none⟩ = some (.bool true) := by rw [(row_cell HK0001.out 4).1]; rfl
          have t5 : W0001.cell? ⟨Z, 5, none⟩ = some (.int .i64 p) := by rw [(row_cell HK0001.out 5).1]; rfl
          have x00010 : W0001.cell? ⟨X, 0, none⟩ = some (.int .i64 n) := by rw [(row_cell HX0001.out 0).1]; rfl
          have x00011 : W0001.cell? ⟨X, 1, none⟩ = some (.int .i64 o) := by rw [(row_cell HX0001.out 1).1]; rfl
          have x00012 : W0001.cell? ⟨X, 2, none⟩ = some (.int .u32 a) := by rw [(row_cell HX0001.out 2).1]; rfl
          have x00013 : W0001.cell? ⟨X, 3, none⟩ = some (.int .i64 ws) := by rw [(row_cell HX0001.out 3).1]; rfl
          have x00014 : W0001.cell? ⟨X, 4, none⟩ = some (.int .i64 t) := by rw [(row_cell HX0001.out 4).1]; rfl
          obtain ⟨ro, hro⟩ : ∃ x, (r.set 2 ws).getD 3 0 = x := ⟨_, rfl⟩
          have y0 := reg_at HR0001.out ((HRr.out.set 2 HT2.out)) (i := 3) (by omega)
          rw [hro] at y0
          obtain ⟨y0, yf⟩ := y0
          clear hro
          go_upto_region 12 with fail
          obtain ⟨W00011, hW00011⟩ : ∃ W, W0001.setCell ⟨X + 1, 3, none⟩ (.int .u32 tv) = W := ⟨_, rfl⟩
          rw [hW00011]
          have HX00011 : Hid (W00011.heap[X]? = some (.cells #[.int .i64 n, .int .i64 o, .int .u32 a, .int .i64 ws, .int .i64 t] 29 (0, 0))) := by rw [← hW00011]; exact (set_far _ _ (by omega)).trans HX0001.out
          have HR00011 : Hid (W00011.heap[X + 1]? = some (.cells (RG ((r.set 2 ws).set 3 tv)) 23 (0, 0))) := by rw [← hW00011]; exact reg_set HR0001.out 3 _
          have HZ00011 : Hid (W00011.heap[X + 1 + 1]? = some (.cells #[.int .u32 0, .int .u32 0, .int .u32 0, .int .u32 0, .int .u32 0, .int .u32 0, .int .u32 0, .int .u32 0, .int .u32 0, .int .u32 0, .int .u32 0, .int .u32 0, .int .u32 0, .int .u32 0, .int .u32 0, .int .u32 0] 23 (0, 0))) := by rw [← hW00011]; exact (set_far _ _ (by omega)).trans HZ0001.out
          have HK00011 : Hid (W00011.heap[Z]? = some (.cells #[.string ⟨wd⟩, .bool false, .bool false, .bool true, .bool true, .int .i64 p] 46 (0, 0))) := by rw [← hW00011]; exact (set_far _ _ (by have := HXZ.out; omega)).trans HK0001.out
          have B00011 : Hid (Below X w W00011) := by rw [← hW00011]; exact B0001.out.setCell (by show X ≤ X + 1; omega) _
          clear hW00011 y0 yf t0 t1 t2 t3 t4 t5 x00010 x00011 x00012 x00013 x00014
          have hrg : Regs ((r.set 2 ws).set 3 tv) := ((HRr.out.set 2 HT2.out).set 3 HT3.out)
          have hst := store16 HZ00011.out (by rfl) hrg
          obtain ⟨V4, hV4⟩ : ∃ W, W00011.setRow (X + 1 + 1) (RG ((r.set 2 ws).set 3 tv)) = W := ⟨_, rfl⟩
          have HV4 : Hid (V4.heap[X + 1 + 1]? = some (.cells (RG ((r.set 2 ws).set 3 tv)) 23 (0, 0))) := by unfold Hid; rw [← hV4]; exact setRow_heap _ _ _ _ _ _ HZ00011.out
          have BV4 : Hid (Below X w V4) := by rw [← hV4]; exact below_setRow B00011.out (by omega) _
          rw [hV4] at hst
          have hsz := hrg.size
          have HE : Hid (RG (encR ⟨n, o, a, ws, t⟩ r) = RG ((r.set 2 ws).set 3 tv)) := by unfold Hid encR; simp only [HBB.out.1, HBB.out.2.1, HBB.out.2.2.1, HBB.out.2.2.2, if_true, if_false, Bool.false_eq_true, TV.out]
          clear hV4 hrg
          generalize hC : RG ((r.set 2 ws).set 3 tv) = C at hsz hst HV4 HR00011 HE
          go_wp2_with (refine wpList_load_row rfl 23 _ rfl (X + 1) rfl 23 C (0, 0) _ HR00011.out Tryd.underlying23 rfl (by rw [hsz]; exact size16) ?_)
          refine bodyPost_ret (v := .agg C) (results_cell_row (ty := 23) (p := 4) rfl _ _ (X + 1 + 1) 23 C (0, 0) _ rfl HV4.out Tryd.underlying23 rfl (by rw [hsz]; exact size16)) rfl ⟨by rw [HVV.out, if_pos (by simp), HE.out], BV4.out⟩
    · have t0 : W00.cell? ⟨Z, 0, none⟩ = some (.string ⟨wd⟩) := by rw [(row_cell HK00.out 0).1]; rfl
      have t1 : W00.cell? ⟨Z, 1, none⟩ = some (.bool false) := by rw [(row_cell HK00.out 1).1]; rfl
      have t2 : W00.cell? ⟨Z, 2, none⟩ = some (.bool true) := by rw [(row_cell HK00.out 2).1]; rfl
      have t3 : W00.cell? ⟨Z, 3, none⟩ = some (.bool bw) := by rw [(row_cell HK00.out 3).1]; rfl
      have t4 : W00.cell? ⟨Z, 4, none⟩ = some (.bool bt) := by rw [(row_cell HK00.out 4).1]; rfl
      have t5 : W00.cell? ⟨Z, 5, none⟩ = some (.int .i64 p) := by rw [(row_cell HK00.out 5).1]; rfl
      have x000 : W00.cell? ⟨X, 0, none⟩ = some (.int .i64 n) := by rw [(row_cell HX00.out 0).1]; rfl
      have x001 : W00.cell? ⟨X, 1, none⟩ = some (.int .i64 o) := by rw [(row_cell HX00.out 1).1]; rfl
      have x002 : W00.cell? ⟨X, 2, none⟩ = some (.int .u32 a) := by rw [(row_cell HX00.out 2).1]; rfl
      have x003 : W00.cell? ⟨X, 3, none⟩ = some (.int .i64 ws) := by rw [(row_cell HX00.out 3).1]; rfl
      have x004 : W00.cell? ⟨X, 4, none⟩ = some (.int .i64 t) := by rw [(row_cell HX00.out 4).1]; rfl
      obtain ⟨ro, hro⟩ : ∃ x, (r).getD 1 0 = x := ⟨_, rfl⟩
      have y0 := reg_at HR00.out (HRr.out) (i := 1) (by omega)
      rw [hro] at y0
      obtain ⟨y0, yf⟩ := y0
      clear hro
      go_upto_region 8 with fail
      obtain ⟨W001, hW001⟩ : ∃ W, W00.setCell ⟨X + 1, 1, none⟩ (.int .u32 a) = W := ⟨_, rfl⟩
      rw [hW001]
      have HX001 : Hid (W001.heap[X]? = some (.cells #[.int .i64 n, .int .i64 o, .int .u32 a, .int .i64 ws, .int .i64 t] 29 (0, 0))) := by rw [← hW001]; exact (set_far _ _ (by omega)).trans HX00.out
      have HR001 : Hid (W001.heap[X + 1]? = some (.cells (RG (r.set 1 a)) 23 (0, 0))) := by rw [← hW001]; exact reg_set HR00.out 1 _
      have HZ001 : Hid (W001.heap[X + 1 + 1]? = some (.cells #[.int .u32 0, .int .u32 0, .int .u32 0, .int .u32 0, .int .u32 0, .int .u32 0, .int .u32 0, .int .u32 0, .int .u32 0, .int .u32 0, .int .u32 0, .int .u32 0, .int .u32 0, .int .u32 0, .int .u32 0, .int .u32 0] 23 (0, 0))) := by rw [← hW001]; exact (set_far _ _ (by omega)).trans HZ00.out
      have HK001 : Hid (W001.heap[Z]? = some (.cells #[.string ⟨wd⟩, .bool false, .bool true, .bool bw, .bool bt, .int .i64 p] 46 (0, 0))) := by rw [← hW001]; exact (set_far _ _ (by have := HXZ.out; omega)).trans HK00.out
      have B001 : Hid (Below X w W001) := by rw [← hW001]; exact B00.out.setCell (by show X ≤ X + 1; omega) _
      clear hW001 y0 yf t0 t1 t2 t3 t4 t5 x000 x001 x002 x003 x004
      cases bw
      · have t0 : W001.cell? ⟨Z, 0, none⟩ = some (.string ⟨wd⟩) := by rw [(row_cell HK001.out 0).1]; rfl
        have t1 : W001.cell? ⟨Z, 1, none⟩ = some (.bool false) := by rw [(row_cell HK001.out 1).1]; rfl
        have t2 : W001.cell? ⟨Z, 2, none⟩ = some (.bool true) := by rw [(row_cell HK001.out 2).1]; rfl
        have t3 : W001.cell? ⟨Z, 3, none⟩ = some (.bool false) := by rw [(row_cell HK001.out 3).1]; rfl
        have t4 : W001.cell? ⟨Z, 4, none⟩ = some (.bool bt) := by rw [(row_cell HK001.out 4).1]; rfl
        have t5 : W001.cell? ⟨Z, 5, none⟩ = some (.int .i64 p) := by rw [(row_cell HK001.out 5).1]; rfl
        go_upto_region 10 with fail
        obtain ⟨W0010, hW0010⟩ : ∃ W, W = W001 := ⟨_, rfl⟩
        subst hW0010
        have HX0010 := HX001
        have HR0010 := HR001
        have HZ0010 := HZ001
        have HK0010 : Hid (W0010.heap[Z]? = some (.cells #[.string ⟨wd⟩, .bool false, .bool true, .bool false, .bool bt, .int .i64 p] 46 (0, 0))) := HK001
        have B0010 := B001
        clear t0 t1 t2 t3 t4 t5
        cases bt
        · have t0 : W0010.cell? ⟨Z, 0, none⟩ = some (.string ⟨wd⟩) := by rw [(row_cell HK0010.out 0).1]; rfl
          have t1 : W0010.cell? ⟨Z, 1, none⟩ = some (.bool false) := by rw [(row_cell HK0010.out 1).1]; rfl
          have t2 : W0010.cell? ⟨Z, 2, none⟩ = some (.bool true) := by rw [(row_cell HK0010.out 2).1]; rfl
          have t3 : W0010.cell? ⟨Z, 3, none⟩ = some (.bool false) := by rw [(row_cell HK0010.out 3).1]; rfl
          have t4 : W0010.cell? ⟨Z, 4, none⟩ = some (.bool false) := by rw [(row_cell HK0010.out 4).1]; rfl
          have t5 : W0010.cell? ⟨Z, 5, none⟩ = some (.int .i64 p) := by rw [(row_cell HK0010.out 5).1]; rfl
          go_upto_region 12 with fail
          obtain ⟨W00100, hW00100⟩ : ∃ W, W = W0010 := ⟨_, rfl⟩
          subst hW00100
          have HX00100 := HX0010
          have HR00100 := HR0010
          have HZ00100 := HZ0010
          have HK00100 : Hid (W00100.heap[Z]? = some (.cells #[.string ⟨wd⟩, .bool false, .bool true, .bool false, .bool false, .int .i64 p] 46 (0, 0))) := HK0010
          have B00100 := B0010
          clear t0 t1 t2 t3 t4 t5
          have hrg : Regs (r.set 1 a) := (HRr.out.set 1 HT1.out)
          have hst := store16 HZ00100.out (by rfl) hrg
          obtain ⟨V4, hV4⟩ : ∃ W, W00100.setRow (X + 1 + 1) (RG (r.set 1 a)) = W := ⟨_, rfl⟩
          have HV4 : Hid (V4.heap[X + 1 + 1]? = some (.cells (RG (r.set 1 a)) 23 (0, 0))) := by unfold Hid; rw [← hV4]; exact setRow_heap _ _ _ _ _ _ HZ00100.out
          have BV4 : Hid (Below X w V4) := by rw [← hV4]; exact below_setRow B00100.out (by omega) _
          rw [hV4] at hst
          have hsz := hrg.size
          have HE : Hid (RG (encR ⟨n, o, a, ws, t⟩ r) = RG (r.set 1 a)) := by unfold Hid encR; simp only [HBB.out.1, HBB.out.2.1, HBB.out.2.2.1, HBB.out.2.2.2, if_true, if_false, Bool.false_eq_true, TV.out]
          clear hV4 hrg
          generalize hC : RG (r.set 1 a) = C at hsz hst HV4 HR00100 HE
          go_wp2_with (refine wpList_load_row rfl 23 _ rfl (X + 1) rfl 23 C (0, 0) _ HR00100.out Tryd.underlying23 rfl (by rw [hsz]; exact size16) ?_)
          refine bodyPost_ret (v := .agg C) (results_cell_row (ty := 23) (p := 4) rfl _ _ (X + 1 + 1) 23 C (0, 0) _ rfl HV4.out Tryd.underlying23 rfl (by rw [hsz]; exact size16)) rfl ⟨by rw [HVV.out, if_pos (by simp), HE.out], BV4.out⟩
        · have t0 : W0010.cell? ⟨Z, 0, none⟩ = some (.string ⟨wd⟩) := by rw [(row_cell HK0010.out 0).1]; rfl
          have t1 : W0010.cell? ⟨Z, 1, none⟩ = some (.bool false) := by rw [(row_cell HK0010.out 1).1]; rfl
          have t2 : W0010.cell? ⟨Z, 2, none⟩ = some (.bool true) := by rw [(row_cell HK0010.out 2).1]; rfl
          have t3 : W0010.cell? ⟨Z, 3, none⟩ = some (.bool false) := by rw [(row_cell HK0010.out 3).1]; rfl
          have t4 : W0010.cell? ⟨Z, 4, none⟩ = some (.bool true) := by rw [(row_cell HK0010.out 4).1]; rfl
          have t5 : W0010.cell? ⟨Z, 5, none⟩ = some (.int .i64 p) := by rw [(row_cell HK0010.out 5).1]; rfl
          have x00100 : W0010.cell? ⟨X, 0, none⟩ = some (.int .i64 n) := by rw [(row_cell HX0010.out 0).1]; rfl
          have x00101 : W0010.cell? ⟨X, 1, none⟩ = some (.int .i64 o) := by rw [(row_cell HX0010.out 1).1]; rfl
          have x00102 : W0010.cell? ⟨X, 2, none⟩ = some (.int .u32 a) := by rw [(row_cell HX0010.out 2).1]; rfl
          have x00103 : W0010.cell? ⟨X, 3, none⟩ = some (.int .i64 ws) := by rw [(row_cell HX0010.out 3).1]; rfl
          have x00104 : W0010.cell? ⟨X, 4, none⟩ = some (.int .i64 t) := by rw [(row_cell HX0010.out 4).1]; rfl
          obtain ⟨ro, hro⟩ : ∃ x, (r.set 1 a).getD 3 0 = x := ⟨_, rfl⟩
          have y0 := reg_at HR0010.out ((HRr.out.set 1 HT1.out)) (i := 3) (by omega)
          rw [hro] at y0
          obtain ⟨y0, yf⟩ := y0
          clear hro
          go_upto_region 12 with fail
          obtain ⟨W00101, hW00101⟩ : ∃ W, W0010.setCell ⟨X + 1, 3, none⟩ (.int .u32 tv) = W := ⟨_, rfl⟩
          rw [hW00101]
          have HX00101 : Hid (W00101.heap[X]? = some (.cells #[.int .i64 n, .int .i64 o, .int .u32 a, .int .i64 ws, .int .i64 t] 29 (0, 0))) := by rw [← hW00101]; exact (set_far _ _ (by omega)).trans HX0010.out
          have HR00101 : Hid (W00101.heap[X + 1]? = some (.cells (RG ((r.set 1 a).set 3 tv)) 23 (0, 0))) := by rw [← hW00101]; exact reg_set HR0010.out 3 _
          have HZ00101 : Hid (W00101.heap[X + 1 + 1]? = some (.cells #[.int .u32 0, .int .u32 0, .int .u32 0, .int .u32 0, .int .u32 0, .int .u32 0, .int .u32 0, .int .u32 0, .int .u32 0, .int .u32 0, .int .u32 0, .int .u32 0, .int .u32 0, .int .u32 0, .int .u32 0, .int .u32 0] 23 (0, 0))) := by rw [← hW00101]; exact (set_far _ _ (by omega)).trans HZ0010.out
          have HK00101 : Hid (W00101.heap[Z]? = some (.cells #[.string ⟨wd⟩, .bool false, .bool true, .bool false, .bool true, .int .i64 p] 46 (0, 0))) := by rw [← hW00101]; exact (set_far _ _ (by have := HXZ.out; omega)).trans HK0010.out
          have B00101 : Hid (Below X w W00101) := by rw [← hW00101]; exact B0010.out.setCell (by show X ≤ X + 1; omega) _
          clear hW00101 y0 yf t0 t1 t2 t3 t4 t5 x00100 x00101 x00102 x00103 x00104
          have hrg : Regs ((r.set 1 a).set 3 tv) := ((HRr.out.set 1 HT1.out).set 3 HT3.out)
          have hst := store16 HZ00101.out (by rfl) hrg
          obtain ⟨V4, hV4⟩ : ∃ W, W00101.setRow (X + 1 + 1) (RG ((r.set 1 a).set 3 tv)) = W := ⟨_, rfl⟩
          have HV4 : Hid (V4.heap[X + 1 + 1]? = some (.cells (RG ((r.set 1 a).set 3 tv)) 23 (0, 0))) := by unfold Hid; rw [← hV4]; exact setRow_heap _ _ _ _ _ _ HZ00101.out
          have BV4 : Hid (Below X w V4) := by rw [← hV4]; exact below_setRow B00101.out (by omega) _
          rw [hV4] at hst
          have hsz := hrg.size
          have HE : Hid (RG (encR ⟨n, o, a, ws, t⟩ r) = RG ((r.set 1 a).set 3 tv)) := by unfold Hid encR; simp only [HBB.out.1, HBB.out.2.1, HBB.out.2.2.1, HBB.out.2.2.2, if_true, if_false, Bool.false_eq_true, TV.out]
          clear hV4 hrg
          generalize hC : RG ((r.set 1 a).set 3 tv) = C at hsz hst HV4 HR00101 HE
          go_wp2_with (refine wpList_load_row rfl 23 _ rfl (X + 1) rfl 23 C (0, 0) _ HR00101.out Tryd.underlying23 rfl (by rw [hsz]; exact size16) ?_)
          refine bodyPost_ret (v := .agg C) (results_cell_row (ty := 23) (p := 4) rfl _ _ (X + 1 + 1) 23 C (0, 0) _ rfl HV4.out Tryd.underlying23 rfl (by rw [hsz]; exact size16)) rfl ⟨by rw [HVV.out, if_pos (by simp), HE.out], BV4.out⟩
      · have t0 : W001.cell? ⟨Z, 0, none⟩ = some (.string ⟨wd⟩) := by rw [(row_cell HK001.out 0).1]; rfl
        have t1 : W001.cell? ⟨Z, 1, none⟩ = some (.bool false) := by rw [(row_cell HK001.out 1).1]; rfl
        have t2 : W001.cell? ⟨Z, 2, none⟩ = some (.bool true) := by rw [(row_cell HK001.out 2).1]; rfl
        have t3 : W001.cell? ⟨Z, 3, none⟩ = some (.bool true) := by rw [(row_cell HK001.out 3).1]; rfl
        have t4 : W001.cell? ⟨Z, 4, none⟩ = some (.bool bt) := by rw [(row_cell HK001.out 4).1]; rfl
        have t5 : W001.cell? ⟨Z, 5, none⟩ = some (.int .i64 p) := by rw [(row_cell HK001.out 5).1]; rfl
        have x0010 : W001.cell? ⟨X, 0, none⟩ = some (.int .i64 n) := by rw [(row_cell HX001.out 0).1]; rfl
        have x0011 : W001.cell? ⟨X, 1, none⟩ = some (.int .i64 o) := by rw [(row_cell HX001.out 1).1]; rfl
        have x0012 : W001.cell? ⟨X, 2, none⟩ = some (.int .u32 a) := by rw [(row_cell HX001.out 2).1]; rfl
        have x0013 : W001.cell? ⟨X, 3, none⟩ = some (.int .i64 ws) := by rw [(row_cell HX001.out 3).1]; rfl
        have x0014 : W001.cell? ⟨X, 4, none⟩ = some (.int .i64 t) := by rw [(row_cell HX001.out 4).1]; rfl
        obtain ⟨ro, hro⟩ : ∃ x, (r.set 1 a).getD 2 0 = x := ⟨_, rfl⟩
        have y0 := reg_at HR001.out ((HRr.out.set 1 HT1.out)) (i := 2) (by omega)
        rw [hro] at y0
        obtain ⟨y0, yf⟩ := y0
        clear hro
        go_upto_region 10 with fail
        obtain ⟨W0011, hW0011⟩ : ∃ W, W001.setCell ⟨X + 1, 2, none⟩ (.int .u32 ws) = W := ⟨_, rfl⟩
        rw [hW0011]
        have HX0011 : Hid (W0011.heap[X]? = some (.cells #[.int .i64 n, .int .i64 o, .int .u32 a, .int .i64 ws, .int .i64 t] 29 (0, 0))) := by rw [← hW0011]; exact (set_far _ _ (by omega)).trans HX001.out
        have HR0011 : Hid (W0011.heap[X + 1]? = some (.cells (RG ((r.set 1 a).set 2 ws)) 23 (0, 0))) := by rw [← hW0011]; exact reg_set HR001.out 2 _
        have HZ0011 : Hid (W0011.heap[X + 1 + 1]? = some (.cells #[.int .u32 0, .int .u32 0, .int .u32 0, .int .u32 0, .int .u32 0, .int .u32 0, .int .u32 0, .int .u32 0, .int .u32 0, .int .u32 0, .int .u32 0, .int .u32 0, .int .u32 0, .int .u32 0, .int .u32 0, .int .u32 0] 23 (0, 0))) := by rw [← hW0011]; exact (set_far _ _ (by omega)).trans HZ001.out
        have HK0011 : Hid (W0011.heap[Z]? = some (.cells #[.string ⟨wd⟩, .bool false, .bool true, .bool true, .bool bt, .int .i64 p] 46 (0, 0))) := by rw [← hW0011]; exact (set_far _ _ (by have := HXZ.out; omega)).trans HK001.out
        have B0011 : Hid (Below X w W0011) := by rw [← hW0011]; exact B001.out.setCell (by show X ≤ X + 1; omega) _
        clear hW0011 y0 yf t0 t1 t2 t3 t4 t5 x0010 x0011 x0012 x0013 x0014
        cases bt
        · have t0 : W0011.cell? ⟨Z, 0, none⟩ = some (.string ⟨wd⟩) := by rw [(row_cell HK0011.out 0).1]; rfl
          have t1 : W0011.cell? ⟨Z, 1, none⟩ = some (.bool false) := by rw [(row_cell HK0011.out 1).1]; rfl
          have t2 : W0011.cell? ⟨Z, 2, none⟩ = some (.bool true) := by rw [(row_cell HK0011.out 2).1]; rfl
          have t3 : W0011.cell? ⟨Z, 3, none⟩ = some (.bool true) := by rw [(row_cell HK0011.out 3).1]; rfl
          have t4 : W0011.cell? ⟨Z, 4, none⟩ = some (.bool false) := by rw [(row_cell HK0011.out 4).1]; rfl
          have t5 : W0011.cell? ⟨Z, 5, none⟩ = some (.int .i64 p) := by rw [(row_cell HK0011.out 5).1]; rfl
          go_upto_region 12 with fail
          obtain ⟨W00110, hW00110⟩ : ∃ W, W = W0011 := ⟨_, rfl⟩
          subst hW00110
          have HX00110 := HX0011
          have HR00110 := HR0011
          have HZ00110 := HZ0011
          have HK00110 : Hid (W00110.heap[Z]? = some (.cells #[.string ⟨wd⟩, .bool false, .bool true, .bool true, .bool false, .int .i64 p] 46 (0, 0))) := HK0011
          have B00110 := B0011
          clear t0 t1 t2 t3 t4 t5
          have hrg : Regs ((r.set 1 a).set 2 ws) := ((HRr.out.set 1 HT1.out).set 2 HT2.out)
          have hst := store16 HZ00110.out (by rfl) hrg
          obtain ⟨V4, hV4⟩ : ∃ W, W00110.setRow (X + 1 + 1) (RG ((r.set 1 a).set 2 ws)) = W := ⟨_, rfl⟩
          have HV4 : Hid (V4.heap[X + 1 + 1]? = some (.cells (RG ((r.set 1 a).set 2 ws)) 23 (0, 0))) := by unfold Hid; rw [← hV4]; exact setRow_heap _ _ _ _ _ _ HZ00110.out
          have BV4 : Hid (Below X w V4) := by rw [← hV4]; exact below_setRow B00110.out (by omega) _
          rw [hV4] at hst
          have hsz := hrg.size
          have HE : Hid (RG (encR ⟨n, o, a, ws, t⟩ r) = RG ((r.set 1 a).set 2 ws)) := by unfold Hid encR; simp only [HBB.out.1, HBB.out.2.1, HBB.out.2.2.1, HBB.out.2.2.2, if_true, if_false, Bool.false_eq_true, TV.out]
          clear hV4 hrg
          generalize hC : RG ((r.set 1 a).set 2 ws) = C at hsz hst HV4 HR00110 HE
          go_wp2_with (refine wpList_load_row rfl 23 _ rfl (X + 1) rfl 23 C (0, 0) _ HR00110.out Tryd.underlying23 rfl (by rw [hsz]; exact size16) ?_)
          refine bodyPost_ret (v := .agg C) (results_cell_row (ty := 23) (p := 4) rfl _ _ (X + 1 + 1) 23 C (0, 0) _ rfl HV4.out Tryd.underlying23 rfl (by rw [hsz]; exact size16)) rfl ⟨by rw [HVV.out, if_pos (by simp), HE.out], BV4.out⟩
        · have t0 : W0011.cell? ⟨Z, 0, none⟩ = some (.string ⟨wd⟩) := by rw [(row_cell HK0011.out 0).1]; rfl
          have t1 : W0011.cell? ⟨Z, 1, none⟩ = some (.bool false) := by rw [(row_cell HK0011.out 1).1]; rfl
          have t2 : W0011.cell? ⟨Z, 2, none⟩ = some (.bool true) := by rw [(row_cell HK0011.out 2).1]; rfl
          have t3 : W0011.cell? ⟨Z, 3, none⟩ = some (.bool true) := by rw [(row_cell HK0011.out 3).1]; rfl
          have t4 : W0011.cell? ⟨Z, 4, none⟩ = some (.bool true) := by rw [(row_cell HK0011.out 4).1]; rfl
          have t5 : W0011.cell? ⟨Z, 5, none⟩ = some (.int .i64 p) := by rw [(row_cell HK0011.out 5).1]; rfl
          have x00110 : W0011.cell? ⟨X, 0, none⟩ = some (.int .i64 n) := by rw [(row_cell HX0011.out 0).1]; rfl
          have x00111 : W0011.cell? ⟨X, 1, none⟩ = some (.int .i64 o) := by rw [(row_cell HX0011.out 1).1]; rfl
          have x00112 : W0011.cell? ⟨X, 2, none⟩ = some (.int .u32 a) := by rw [(row_cell HX0011.out 2).1]; rfl
          have x00113 : W0011.cell? ⟨X, 3, none⟩ = some (.int .i64 ws) := by rw [(row_cell HX0011.out 3).1]; rfl
          have x00114 : W0011.cell? ⟨X, 4, none⟩ = some (.int .i64 t) := by rw [(row_cell HX0011.out 4).1]; rfl
          obtain ⟨ro, hro⟩ : ∃ x, ((r.set 1 a).set 2 ws).getD 3 0 = x := ⟨_, rfl⟩
          have y0 := reg_at HR0011.out (((HRr.out.set 1 HT1.out).set 2 HT2.out)) (i := 3) (by omega)
          rw [hro] at y0
          obtain ⟨y0, yf⟩ := y0
          clear hro
          go_upto_region 12 with fail
          obtain ⟨W00111, hW00111⟩ : ∃ W, W0011.setCell ⟨X + 1, 3, none⟩ (.int .u32 tv) = W := ⟨_, rfl⟩
          rw [hW00111]
          have HX00111 : Hid (W00111.heap[X]? = some (.cells #[.int .i64 n, .int .i64 o, .int .u32 a, .int .i64 ws, .int .i64 t] 29 (0, 0))) := by rw [← hW00111]; exact (set_far _ _ (by omega)).trans HX0011.out
          have HR00111 : Hid (W00111.heap[X + 1]? = some (.cells (RG (((r.set 1 a).set 2 ws).set 3 tv)) 23 (0, 0))) := by rw [← hW00111]; exact reg_set HR0011.out 3 _
          have HZ00111 : Hid (W00111.heap[X + 1 + 1]? = some (.cells #[.int .u32 0, .int .u32 0, .int .u32 0, .int .u32 0, .int .u32 0, .int .u32 0, .int .u32 0, .int .u32 0, .int .u32 0, .int .u32 0, .int .u32 0, .int .u32 0, .int .u32 0, .int .u32 0, .int .u32 0, .int .u32 0] 23 (0, 0))) := by rw [← hW00111]; exact (set_far _ _ (by omega)).trans HZ0011.out
          have HK00111 : Hid (W00111.heap[Z]? = some (.cells #[.string ⟨wd⟩, .bool false, .bool true, .bool true, .bool true, .int .i64 p] 46 (0, 0))) := by rw [← hW00111]; exact (set_far _ _ (by have := HXZ.out; omega)).trans HK0011.out
          have B00111 : Hid (Below X w W00111) := by rw [← hW00111]; exact B0011.out.setCell (by show X ≤ X + 1; omega) _
          clear hW00111 y0 yf t0 t1 t2 t3 t4 t5 x00110 x00111 x00112 x00113 x00114
          have hrg : Regs (((r.set 1 a).set 2 ws).set 3 tv) := (((HRr.out.set 1 HT1.out).set 2 HT2.out).set 3 HT3.out)
          have hst := store16 HZ00111.out (by rfl) hrg
          obtain ⟨V4, hV4⟩ : ∃ W, W00111.setRow (X + 1 + 1) (RG (((r.set 1 a).set 2 ws).set 3 tv)) = W := ⟨_, rfl⟩
          have HV4 : Hid (V4.heap[X + 1 + 1]? = some (.cells (RG (((r.set 1 a).set 2 ws).set 3 tv)) 23 (0, 0))) := by unfold Hid; rw [← hV4]; exact setRow_heap _ _ _ _ _ _ HZ00111.out
          have BV4 : Hid (Below X w V4) := by rw [← hV4]; exact below_setRow B00111.out (by omega) _
          rw [hV4] at hst
          have hsz := hrg.size
          have HE : Hid (RG (encR ⟨n, o, a, ws, t⟩ r) = RG (((r.set 1 a).set 2 ws).set 3 tv)) := by unfold Hid encR; simp only [HBB.out.1, HBB.out.2.1, HBB.out.2.2.1, HBB.out.2.2.2, if_true, if_false, Bool.false_eq_true, TV.out]
          clear hV4 hrg
          generalize hC : RG (((r.set 1 a).set 2 ws).set 3 tv) = C at hsz hst HV4 HR00111 HE
          go_wp2_with (refine wpList_load_row rfl 23 _ rfl (X + 1) rfl 23 C (0, 0) _ HR00111.out Tryd.underlying23 rfl (by rw [hsz]; exact size16) ?_)
          refine bodyPost_ret (v := .agg C) (results_cell_row (ty := 23) (p := 4) rfl _ _ (X + 1 + 1) 23 C (0, 0) _ rfl HV4.out Tryd.underlying23 rfl (by rw [hsz]; exact size16)) rfl ⟨by rw [HVV.out, if_pos (by simp), HE.out], BV4.out⟩
  · have t0 : W0.cell? ⟨Z, 0, none⟩ = some (.string ⟨wd⟩) := by rw [(row_cell HK0.out 0).1]; rfl
    have t1 : W0.cell? ⟨Z, 1, none⟩ = some (.bool true) := by rw [(row_cell HK0.out 1).1]; rfl
    have t2 : W0.cell? ⟨Z, 2, none⟩ = some (.bool ba) := by rw [(row_cell HK0.out 2).1]; rfl
    have t3 : W0.cell? ⟨Z, 3, none⟩ = some (.bool bw) := by rw [(row_cell HK0.out 3).1]; rfl
    have t4 : W0.cell? ⟨Z, 4, none⟩ = some (.bool bt) := by rw [(row_cell HK0.out 4).1]; rfl
    have t5 : W0.cell? ⟨Z, 5, none⟩ = some (.int .i64 p) := by rw [(row_cell HK0.out 5).1]; rfl
    have x00 : W0.cell? ⟨X, 0, none⟩ = some (.int .i64 n) := by rw [(row_cell HX0.out 0).1]; rfl
    have x01 : W0.cell? ⟨X, 1, none⟩ = some (.int .i64 o) := by rw [(row_cell HX0.out 1).1]; rfl
    have x02 : W0.cell? ⟨X, 2, none⟩ = some (.int .u32 a) := by rw [(row_cell HX0.out 2).1]; rfl
    have x03 : W0.cell? ⟨X, 3, none⟩ = some (.int .i64 ws) := by rw [(row_cell HX0.out 3).1]; rfl
    have x04 : W0.cell? ⟨X, 4, none⟩ = some (.int .i64 t) := by rw [(row_cell HX0.out 4).1]; rfl
    obtain ⟨ro, hro⟩ : ∃ x, (r).getD 0 0 = x := ⟨_, rfl⟩
    have y0 := reg_at HR0.out (HRr.out) (i := 0) (by omega)
    rw [hro] at y0
    obtain ⟨y0, yf⟩ := y0
    clear hro
    go_upto_region 6 with fail
    obtain ⟨W01, hW01⟩ : ∃ W, W0.setCell ⟨X + 1, 0, none⟩ (.int .u32 o) = W := ⟨_, rfl⟩
    rw [hW01]
    have HX01 : Hid (W01.heap[X]? = some (.cells #[.int .i64 n, .int .i64 o, .int .u32 a, .int .i64 ws, .int .i64 t] 29 (0, 0))) := by rw [← hW01]; exact (set_far _ _ (by omega)).trans HX0.out
    have HR01 : Hid (W01.heap[X + 1]? = some (.cells (RG (r.set 0 o)) 23 (0, 0))) := by rw [← hW01]; exact reg_set HR0.out 0 _
    have HZ01 : Hid (W01.heap[X + 1 + 1]? = some (.cells #[.int .u32 0, .int .u32 0, .int .u32 0, .int .u32 0, .int .u32 0, .int .u32 0, .int .u32 0, .int .u32 0, .int .u32 0, .int .u32 0, .int .u32 0, .int .u32 0, .int .u32 0, .int .u32 0, .int .u32 0, .int .u32 0] 23 (0, 0))) := by rw [← hW01]; exact (set_far _ _ (by omega)).trans HZ0.out
    have HK01 : Hid (W01.heap[Z]? = some (.cells #[.string ⟨wd⟩, .bool true, .bool ba, .bool bw, .bool bt, .int .i64 p] 46 (0, 0))) := by rw [← hW01]; exact (set_far _ _ (by have := HXZ.out; omega)).trans HK0.out
    have B01 : Hid (Below X w W01) := by rw [← hW01]; exact B0.out.setCell (by show X ≤ X + 1; omega) _
    clear hW01 y0 yf t0 t1 t2 t3 t4 t5 x00 x01 x02 x03 x04
    cases ba
    · have t0 : W01.cell? ⟨Z, 0, none⟩ = some (.string ⟨wd⟩) := by rw [(row_cell HK01.out 0).1]; rfl
      have t1 : W01.cell? ⟨Z, 1, none⟩ = some (.bool true) := by rw [(row_cell HK01.out 1).1]; rfl
      have t2 : W01.cell? ⟨Z, 2, none⟩ = some (.bool false) := by rw [(row_cell HK01.out 2).1]; rfl
      have t3 : W01.cell? ⟨Z, 3, none⟩ = some (.bool bw) := by rw [(row_cell HK01.out 3).1]; rfl
      have t4 : W01.cell? ⟨Z, 4, none⟩ = some (.bool bt) := by rw [(row_cell HK01.out 4).1]; rfl
      have t5 : W01.cell? ⟨Z, 5, none⟩ = some (.int .i64 p) := by rw [(row_cell HK01.out 5).1]; rfl
      go_upto_region 8 with fail
      obtain ⟨W010, hW010⟩ : ∃ W, W = W01 := ⟨_, rfl⟩
      subst hW010
      have HX010 := HX01
      have HR010 := HR01
      have HZ010 := HZ01
      have HK010 : Hid (W010.heap[Z]? = some (.cells #[.string ⟨wd⟩, .bool true, .bool false, .bool bw, .bool bt, .int .i64 p] 46 (0, 0))) := HK01
      have B010 := B01
      clear t0 t1 t2 t3 t4 t5
      cases bw
      · have t0 : W010.cell? ⟨Z, 0, none⟩ = some (.string ⟨wd⟩) := by rw [(row_cell HK010.out 0).1]; rfl
        have t1 : W010.cell? ⟨Z, 1, none⟩ = some (.bool true) := by rw [(row_cell HK010.out 1).1]; rfl
        have t2 : W010.cell? ⟨Z, 2, none⟩ = some (.bool false) := by rw [(row_cell HK010.out 2).1]; rfl
        have t3 : W010.cell? ⟨Z, 3, none⟩ = some (.bool false) := by rw [(row_cell HK010.out 3).1]; rfl
        have t4 : W010.cell? ⟨Z, 4, none⟩ = some (.bool bt) := by rw [(row_cell HK010.out 4).1]; rfl
        have t5 : W010.cell? ⟨Z, 5, none⟩ = some (.int .i64 p) := by rw [(row_cell HK010.out 5).1]; rfl
        go_upto_region 10 with fail
        obtain ⟨W0100, hW0100⟩ : ∃ W, W = W010 := ⟨_, rfl⟩
        subst hW0100
        have HX0100 := HX010
        have HR0100 := HR010
        have HZ0100 := HZ010
        have HK0100 : Hid (W0100.heap[Z]? = some (.cells #[.string ⟨wd⟩, .bool true, .bool false, .bool false, .bool bt, .int .i64 p] 46 (0, 0))) := HK010
        have B0100 := B010
        clear t0 t1 t2 t3 t4 t5
        cases bt
        · have t0 : W0100.cell? ⟨Z, 0, none⟩ = some (.string ⟨wd⟩) := by rw [(row_cell HK0100.out 0).1]; rfl
          have t1 : W0100.cell? ⟨Z, 1, none⟩ = some (.bool true) := by rw [(row_cell HK0100.out 1).1]; rfl
          have t2 : W0100.cell? ⟨Z, 2, none⟩ = some (.bool false) := by rw [(row_cell HK0100.out 2).1]; rfl
          have t3 : W0100.cell? ⟨Z, 3, none⟩ = some (.bool false) := by rw [(row_cell HK0100.out 3).1]; rfl
          have t4 : W0100.cell? ⟨Z, 4, none⟩ = some (.bool false) := by rw [(row_cell HK0100.out 4).1]; rfl
          have t5 : W0100.cell? ⟨Z, 5, none⟩ = some (.int .i64 p) := by rw [(row_cell HK0100.out 5).1]; rfl
          go_upto_region 12 with fail
          obtain ⟨W01000, hW01000⟩ : ∃ W, W = W0100 := ⟨_, rfl⟩
          subst hW01000
          have HX01000 := HX0100
          have HR01000 := HR0100
          have HZ01000 := HZ0100
          have HK01000 : Hid (W01000.heap[Z]? = some (.cells #[.string ⟨wd⟩, .bool true, .bool false, .bool false, .bool false, .int .i64 p] 46 (0, 0))) := HK0100
          have B01000 := B0100
          clear t0 t1 t2 t3 t4 t5
          have hrg : Regs (r.set 0 o) := (HRr.out.set 0 HT0.out)
          have hst := store16 HZ01000.out (by rfl) hrg
          obtain ⟨V4, hV4⟩ : ∃ W, W01000.setRow (X + 1 + 1) (RG (r.set 0 o)) = W := ⟨_, rfl⟩
          have HV4 : Hid (V4.heap[X + 1 + 1]? = some (.cells (RG (r.set 0 o)) 23 (0, 0))) := by unfold Hid; rw [← hV4]; exact setRow_heap _ _ _ _ _ _ HZ01000.out
          have BV4 : Hid (Below X w V4) := by rw [← hV4]; exact below_setRow B01000.out (by omega) _
          rw [hV4] at hst
          have hsz := hrg.size
          have HE : Hid (RG (encR ⟨n, o, a, ws, t⟩ r) = RG (r.set 0 o)) := by unfold Hid encR; simp only [HBB.out.1, HBB.out.2.1, HBB.out.2.2.1, HBB.out.2.2.2, if_true, if_false, Bool.false_eq_true, TV.out]
          clear hV4 hrg
          generalize hC : RG (r.set 0 o) = C at hsz hst HV4 HR01000 HE
          go_wp2_with (refine wpList_load_row rfl 23 _ rfl (X + 1) rfl 23 C (0, 0) _ HR01000.out Tryd.underlying23 rfl (by rw [hsz]; exact size16) ?_)
          refine bodyPost_ret (v := .agg C) (results_cell_row (ty := 23) (p := 4) rfl _ _ (X + 1 + 1) 23 C (0, 0) _ rfl HV4.out Tryd.underlying23 rfl (by rw [hsz]; exact size16)) rfl ⟨by rw [HVV.out, if_pos (by simp), HE.out], BV4.out⟩
        · have t0 : W0100.cell? ⟨Z, 0, none⟩ = some (.string ⟨wd⟩) := by rw [(row_cell HK0100.out 0).1]; rfl
          have t1 : W0100.cell? ⟨Z, 1, none⟩ = some (.bool true) := by rw [(row_cell HK0100.out 1).1]; rfl
          have t2 : W0100.cell? ⟨Z, 2, none⟩ = some (.bool false) := by rw [(row_cell HK0100.out 2).1]; rfl
          have t3 : W0100.cell? ⟨Z, 3, none⟩ = some (.bool false) := by rw [(row_cell HK0100.out 3).1]; rfl
          have t4 : W0100.cell? ⟨Z, 4, none⟩ = some (.bool true) := by rw [(row_cell HK0100.out 4).1]; rfl
          have t5 : W0100.cell? ⟨Z, 5, none⟩ = some (.int .i64 p) := by rw [(row_cell HK0100.out 5).1]; rfl
          have x01000 : W0100.cell? ⟨X, 0, none⟩ = some (.int .i64 n) := by rw [(row_cell HX0100.out 0).1]; rfl
          have x01001 : W0100.cell? ⟨X, 1, none⟩ = some (.int .i64 o) := by rw [(row_cell HX0100.out 1).1]; rfl
          have x01002 : W0100.cell? ⟨X, 2, none⟩ = some (.int .u32 a) := by rw [(row_cell HX0100.out 2).1]; rfl
          have x01003 : W0100.cell? ⟨X, 3, none⟩ = some (.int .i64 ws) := by rw [(row_cell HX0100.out 3).1]; rfl
          have x01004 : W0100.cell? ⟨X, 4, none⟩ = some (.int .i64 t) := by rw [(row_cell HX0100.out 4).1]; rfl
          obtain ⟨ro, hro⟩ : ∃ x, (r.set 0 o).getD 3 0 = x := ⟨_, rfl⟩
          have y0 := reg_at HR0100.out ((HRr.out.set 0 HT0.out)) (i := 3) (by omega)
          rw [hro] at y0
          obtain ⟨y0, yf⟩ := y0
          clear hro
          go_upto_region 12 with fail
          obtain ⟨W01001, hW01001⟩ : ∃ W, W0100.setCell ⟨X + 1, 3, none⟩ (.int .u32 tv) = W := ⟨_, rfl⟩
          rw [hW01001]
          have HX01001 : Hid (W01001.heap[X]? = some (.cells #[.int .i64 n, .int .i64 o, .int .u32 a, .int .i64 ws, .int .i64 t] 29 (0, 0))) := by rw [← hW01001]; exact (set_far _ _ (by omega)).trans HX0100.out
          have HR01001 : Hid (W01001.heap[X + 1]? = some (.cells (RG ((r.set 0 o).set 3 tv)) 23 (0, 0))) := by rw [← hW01001]; exact reg_set HR0100.out 3 _
          have HZ01001 : Hid (W01001.heap[X + 1 + 1]? = some (.cells #[.int .u32 0, .int .u32 0, .int .u32 0, .int .u32 0, .int .u32 0, .int .u32 0, .int .u32 0, .int .u32 0, .int .u32 0, .int .u32 0, .int .u32 0, .int .u32 0, .int .u32 0, .int .u32 0, .int .u32 0, .int .u32 0] 23 (0, 0))) := by rw [← hW01001]; exact (set_far _ _ (by omega)).trans HZ0100.out
          have HK01001 : Hid (W01001.heap[Z]? = some (.cells #[.string ⟨wd⟩, .bool true, .bool false, .bool false, .bool true, .int .i64 p] 46 (0, 0))) := by rw [← hW01001]; exact (set_far _ _ (by have := HXZ.out; omega)).trans HK0100.out
          have B01001 : Hid (Below X w W01001) := by rw [← hW01001]; exact B0100.out.setCell (by show X ≤ X + 1; omega) _
          clear hW01001 y0 yf t0 t1 t2 t3 t4 t5 x01000 x01001 x01002 x01003 x01004
          have hrg : Regs ((r.set 0 o).set 3 tv) := ((HRr.out.set 0 HT0.out).set 3 HT3.out)
          have hst := store16 HZ01001.out (by rfl) hrg
          obtain ⟨V4, hV4⟩ : ∃ W, W01001.setRow (X + 1 + 1) (RG ((r.set 0 o).set 3 tv)) = W := ⟨_, rfl⟩
          have HV4 : Hid (V4.heap[X + 1 + 1]? = some (.cells (RG ((r.set 0 o).set 3 tv)) 23 (0, 0))) := by unfold Hid; rw [← hV4]; exact setRow_heap _ _ _ _ _ _ HZ01001.out
          have BV4 : Hid (Below X w V4) := by rw [← hV4]; exact below_setRow B01001.out (by omega) _
          rw [hV4] at hst
          have hsz := hrg.size
          have HE : Hid (RG (encR ⟨n, o, a, ws, t⟩ r) = RG ((r.set 0 o).set 3 tv)) := by unfold Hid encR; simp only [HBB.out.1, HBB.out.2.1, HBB.out.2.2.1, HBB.out.2.2.2, if_true, if_false, Bool.false_eq_true, TV.out]
          clear hV4 hrg
          generalize hC : RG ((r.set 0 o).set 3 tv) = C at hsz hst HV4 HR01001 HE
          go_wp2_with (refine wpList_load_row rfl 23 _ rfl (X + 1) rfl 23 C (0, 0) _ HR01001.out Tryd.underlying23 rfl (by rw [hsz]; exact size16) ?_)
          refine bodyPost_ret (v := .agg C) (results_cell_row (ty := 23) (p := 4) rfl _ _ (X + 1 + 1) 23 C (0, 0) _ rfl HV4.out Tryd.underlying23 rfl (by rw [hsz]; exact size16)) rfl ⟨by rw [HVV.out, if_pos (by simp), HE.out], BV4.out⟩
      · have t0 : W010.cell? ⟨Z, 0, none⟩ = some (.string ⟨wd⟩) := by rw [(row_cell HK010.out 0).1]; rfl
        have t1 : W010.cell? ⟨Z, 1, none⟩ = some (.bool true) := by rw [(row_cell HK010.out 1).1]; rfl
        have t2 : W010.cell? ⟨Z, 2, none⟩ = some (.bool false) := by rw [(row_cell HK010.out 2).1]; rfl
        have t3 : W010.cell? ⟨Z, 3, none⟩ = some (.bool true) := by rw [(row_cell HK010.out 3).1]; rfl
        have t4 : W010.cell? ⟨Z, 4, none⟩ = some (.bool bt) := by rw [(row_cell HK010.out 4).1]; rfl
        have t5 : W010.cell? ⟨Z, 5, none⟩ = some (.int .i64 p) := by rw [(row_cell HK010.out 5).1]; rfl
        have x0100 : W010.cell? ⟨X, 0, none⟩ = some (.int .i64 n) := by rw [(row_cell HX010.out 0).1]; rfl
        have x0101 : W010.cell? ⟨X, 1, none⟩ = some (.int .i64 o) := by rw [(row_cell HX010.out 1).1]; rfl
        have x0102 : W010.cell? ⟨X, 2, none⟩ = some (.int .u32 a) := by rw [(row_cell HX010.out 2).1]; rfl
        have x0103 : W010.cell? ⟨X, 3, none⟩ = some (.int .i64 ws) := by rw [(row_cell HX010.out 3).1]; rfl
        have x0104 : W010.cell? ⟨X, 4, none⟩ = some (.int .i64 t) := by rw [(row_cell HX010.out 4).1]; rfl
        obtain ⟨ro, hro⟩ : ∃ x, (r.set 0 o).getD 2 0 = x := ⟨_, rfl⟩
        have y0 := reg_at HR010.out ((HRr.out.set 0 HT0.out)) (i := 2) (by omega)
        rw [hro] at y0
        obtain ⟨y0, yf⟩ := y0
        clear hro
        go_upto_region 10 with fail
        obtain ⟨W0101, hW0101⟩ : ∃ W, W010.setCell ⟨X + 1, 2, none⟩ (.int .u32 ws) = W := ⟨_, rfl⟩
        rw [hW0101]
        have HX0101 : Hid (W0101.heap[X]? = some (.cells #[.int .i64 n, .int .i64 o, .int .u32 a, .int .i64 ws, .int .i64 t] 29 (0, 0))) := by rw [← hW0101]; exact (set_far _ _ (by omega)).trans HX010.out
        have HR0101 : Hid (W0101.heap[X + 1]? = some (.cells (RG ((r.set 0 o).set 2 ws)) 23 (0, 0))) := by rw [← hW0101]; exact reg_set HR010.out 2 _
        have HZ0101 : Hid (W0101.heap[X + 1 + 1]? = some (.cells #[.int .u32 0, .int .u32 0, .int .u32 0, .int .u32 0, .int .u32 0, .int .u32 0, .int .u32 0, .int .u32 0, .int .u32 0, .int .u32 0, .int .u32 0, .int .u32 0, .int .u32 0, .int .u32 0, .int .u32 0, .int .u32 0] 23 (0, 0))) := by rw [← hW0101]; exact (set_far _ _ (by omega)).trans HZ010.out
        have HK0101 : Hid (W0101.heap[Z]? = some (.cells #[.string ⟨wd⟩, .bool true, .bool false, .bool true, .bool bt, .int .i64 p] 46 (0, 0))) := by rw [← hW0101]; exact (set_far _ _ (by have := HXZ.out; omega)).trans HK010.out
        have B0101 : Hid (Below X w W0101) := by rw [← hW0101]; exact B010.out.setCell (by show X ≤ X + 1; omega) _
        clear hW0101 y0 yf t0 t1 t2 t3 t4 t5 x0100 x0101 x0102 x0103 x0104
        cases bt
        · have t0 : W0101.cell? ⟨Z, 0, none⟩ = some (.string ⟨wd⟩) := by rw [(row_cell HK0101.out 0).1]; rfl
          have t1 : W0101.cell? ⟨Z, 1, none⟩ = some (.bool true) := by rw [(row_cell HK0101.out 1).1]; rfl
          have t2 : W0101.cell? ⟨Z, 2, none⟩ = some (.bool false) := by rw [(row_cell HK0101.out 2).1]; rfl
          have t3 : W0101.cell? ⟨Z, 3, none⟩ = some (.bool true) := by rw [(row_cell HK0101.out 3).1]; rfl
          have t4 : W0101.cell? ⟨Z, 4, none⟩ = some (.bool false) := by rw [(row_cell HK0101.out 4).1]; rfl
          have t5 : W0101.cell? ⟨Z, 5, none⟩ = some (.int .i64 p) := by rw [(row_cell HK0101.out 5).1]; rfl
          go_upto_region 12 with fail
          obtain ⟨W01010, hW01010⟩ : ∃ W, W = W0101 := ⟨_, rfl⟩
          subst hW01010
          have HX01010 := HX0101
          have HR01010 := HR0101
          have HZ01010 := HZ0101
          have HK01010 : Hid (W01010.heap[Z]? = some (.cells #[.string ⟨wd⟩, .bool true, .bool false, .bool true, .bool false, .int .i64 p] 46 (0, 0))) := HK0101
          have B01010 := B0101
          clear t0 t1 t2 t3 t4 t5
          have hrg : Regs ((r.set 0 o).set 2 ws) := ((HRr.out.set 0 HT0.out).set 2 HT2.out)
          have hst := store16 HZ01010.out (by rfl) hrg
          obtain ⟨V4, hV4⟩ : ∃ W, W01010.setRow (X + 1 + 1) (RG ((r.set 0 o).set 2 ws)) = W := ⟨_, rfl⟩
          have HV4 : Hid (V4.heap[X + 1 + 1]? = some (.cells (RG ((r.set 0 o).set 2 ws)) 23 (0, 0))) := by unfold Hid; rw [← hV4]; exact setRow_heap _ _ _ _ _ _ HZ01010.out
          have BV4 : Hid (Below X w V4) := by rw [← hV4]; exact below_setRow B01010.out (by omega) _
          rw [hV4] at hst
          have hsz := hrg.size
          have HE : Hid (RG (encR ⟨n, o, a, ws, t⟩ r) = RG ((r.set 0 o).set 2 ws)) := by unfold Hid encR; simp only [HBB.out.1, HBB.out.2.1, HBB.out.2.2.1, HBB.out.2.2.2, if_true, if_false, Bool.false_eq_true, TV.out]
          clear hV4 hrg
          generalize hC : RG ((r.set 0 o).set 2 ws) = C at hsz hst HV4 HR01010 HE
          go_wp2_with (refine wpList_load_row rfl 23 _ rfl (X + 1) rfl 23 C (0, 0) _ HR01010.out Tryd.underlying23 rfl (by rw [hsz]; exact size16) ?_)
          refine bodyPost_ret (v := .agg C) (results_cell_row (ty := 23) (p := 4) rfl _ _ (X + 1 + 1) 23 C (0, 0) _ rfl HV4.out Tryd.underlying23 rfl (by rw [hsz]; exact size16)) rfl ⟨by rw [HVV.out, if_pos (by simp), HE.out], BV4.out⟩
        · have t0 : W0101.cell? ⟨Z, 0, none⟩ = some (.string ⟨wd⟩) := by rw [(row_cell HK0101.out 0).1]; rfl
          have t1 : W0101.cell? ⟨Z, 1, none⟩ = some (.bool true) := by rw [(row_cell HK0101.out 1).1]; rfl
          have t2 : W0101.cell? ⟨Z, 2, none⟩ = some (.bool false) := by rw [(row_cell HK0101.out 2).1]; rfl
          have t3 : W0101.cell? ⟨Z, 3, none⟩ = some (.bool true) := by rw [(row_cell HK0101.out 3).1]; rfl
          have t4 : W0101.cell? ⟨Z, 4, none⟩ = some (.bool true) := by rw [(row_cell HK0101.out 4).1]; rfl
          have t5 : W0101.cell? ⟨Z, 5, none⟩ = some (.int .i64 p) := by rw [(row_cell HK0101.out 5).1]; rfl
          have x01010 : W0101.cell? ⟨X, 0, none⟩ = some (.int .i64 n) := by rw [(row_cell HX0101.out 0).1]; rfl
          have x01011 : W0101.cell? ⟨X, 1, none⟩ = some (.int .i64 o) := by rw [(row_cell HX0101.out 1).1]; rfl
          have x01012 : W0101.cell? ⟨X, 2, none⟩ = some (.int .u32 a) := by rw [(row_cell HX0101.out 2).1]; rfl
          have x01013 : W0101.cell? ⟨X, 3, none⟩ = some (.int .i64 ws) := by rw [(row_cell HX0101.out 3).1]; rfl
          have x01014 : W0101.cell? ⟨X, 4, none⟩ = some (.int .i64 t) := by rw [(row_cell HX0101.out 4).1]; rfl
          obtain ⟨ro, hro⟩ : ∃ x, ((r.set 0 o).set 2 ws).getD 3 0 = x := ⟨_, rfl⟩
          have y0 := reg_at HR0101.out (((HRr.out.set 0 HT0.out).set 2 HT2.out)) (i := 3) (by omega)
          rw [hro] at y0
          obtain ⟨y0, yf⟩ := y0
          clear hro
          go_upto_region 12 with fail
          obtain ⟨W01011, hW01011⟩ : ∃ W, W0101.setCell ⟨X + 1, 3, none⟩ (.int .u32 tv) = W := ⟨_, rfl⟩
          rw [hW01011]
          have HX01011 : Hid (W01011.heap[X]? = some (.cells #[.int .i64 n, .int .i64 o, .int .u32 a, .int .i64 ws, .int .i64 t] 29 (0, 0))) := by rw [← hW01011]; exact (set_far _ _ (by omega)).trans HX0101.out
          have HR01011 : Hid (W01011.heap[X + 1]? = some (.cells (RG (((r.set 0 o).set 2 ws).set 3 tv)) 23 (0, 0))) := by rw [← hW01011]; exact reg_set HR0101.out 3 _
          have HZ01011 : Hid (W01011.heap[X + 1 + 1]? = some (.cells #[.int .u32 0, .int .u32 0, .int .u32 0, .int .u32 0, .int .u32 0, .int .u32 0, .int .u32 0, .int .u32 0, .int .u32 0, .int .u32 0, .int .u32 0, .int .u32 0, .int .u32 0, .int .u32 0, .int .u32 0, .int .u32 0] 23 (0, 0))) := by rw [← hW01011]; exact (set_far _ _ (by omega)).trans HZ0101.out
          have HK01011 : Hid (W01011.heap[Z]? = some (.cells #[.string ⟨wd⟩, .bool true, .bool false, .bool true, .bool true, .int .i64 p] 46 (0, 0))) := by rw [← hW01011]; exact (set_far _ _ (by have := HXZ.out; omega)).trans HK0101.out
          have B01011 : Hid (Below X w W01011) := by rw [← hW01011]; exact B0101.out.setCell (by show X ≤ X + 1; omega) _
          clear hW01011 y0 yf t0 t1 t2 t3 t4 t5 x01010 x01011 x01012 x01013 x01014
          have hrg : Regs (((r.set 0 o).set 2 ws).set 3 tv) := (((HRr.out.set 0 HT0.out).set 2 HT2.out).set 3 HT3.out)
          have hst := store16 HZ01011.out (by rfl) hrg
          obtain ⟨V4, hV4⟩ : ∃ W, W01011.setRow (X + 1 + 1) (RG (((r.set 0 o).set 2 ws).set 3 tv)) = W := ⟨_, rfl⟩
          have HV4 : Hid (V4.heap[X + 1 + 1]? = some (.cells (RG (((r.set 0 o).set 2 ws).set 3 tv)) 23 (0, 0))) := by unfold Hid; rw [← hV4]; exact setRow_heap _ _ _ _ _ _ HZ01011.out
          have BV4 : Hid (Below X w V4) := by rw [← hV4]; exact below_setRow B01011.out (by omega) _
          rw [hV4] at hst
          have hsz := hrg.size
          have HE : Hid (RG (encR ⟨n, o, a, ws, t⟩ r) = RG (((r.set 0 o).set 2 ws).set 3 tv)) := by unfold Hid encR; simp only [HBB.out.1, HBB.out.2.1, HBB.out.2.2.1, HBB.out.2.2.2, if_true, if_false, Bool.false_eq_true, TV.out]
          clear hV4 hrg
          generalize hC : RG (((r.set 0 o).set 2 ws).set 3 tv) = C at hsz hst HV4 HR01011 HE
          go_wp2_with (refine wpList_load_row rfl 23 _ rfl (X + 1) rfl 23 C (0, 0) _ HR01011.out Tryd.underlying23 rfl (by rw [hsz]; exact size16) ?_)
          refine bodyPost_ret (v := .agg C) (results_cell_row (ty := 23) (p := 4) rfl _ _ (X + 1 + 1) 23 C (0, 0) _ rfl HV4.out Tryd.underlying23 rfl (by rw [hsz]; exact size16)) rfl ⟨by rw [HVV.out, if_pos (by simp), HE.out], BV4.out⟩
    · have t0 : W01.cell? ⟨Z, 0, none⟩ = some (.string ⟨wd⟩) := by rw [(row_cell HK01.out 0).1]; rfl
      have t1 : W01.cell? ⟨Z, 1, none⟩ = some (.bool true) := by rw [(row_cell HK01.out 1).1]; rfl
      have t2 : W01.cell? ⟨Z, 2, none⟩ = some (.bool true) := by rw [(row_cell HK01.out 2).1]; rfl
      have t3 : W01.cell? ⟨Z, 3, none⟩ = some (.bool bw) := by rw [(row_cell HK01.out 3).1]; rfl
      have t4 : W01.cell? ⟨Z, 4, none⟩ = some (.bool bt) := by rw [(row_cell HK01.out 4).1]; rfl
      have t5 : W01.cell? ⟨Z, 5, none⟩ = some (.int .i64 p) := by rw [(row_cell HK01.out 5).1]; rfl
      have x010 : W01.cell? ⟨X, 0, none⟩ = some (.int .i64 n) := by rw [(row_cell HX01.out 0).1]; rfl
      have x011 : W01.cell? ⟨X, 1, none⟩ = some (.int .i64 o) := by rw [(row_cell HX01.out 1).1]; rfl
      have x012 : W01.cell? ⟨X, 2, none⟩ = some (.int .u32 a) := by rw [(row_cell HX01.out 2).1]; rfl
      have x013 : W01.cell? ⟨X, 3, none⟩ = some (.int .i64 ws) := by rw [(row_cell HX01.out 3).1]; rfl
      have x014 : W01.cell? ⟨X, 4, none⟩ = some (.int .i64 t) := by rw [(row_cell HX01.out 4).1]; rfl
      obtain ⟨ro, hro⟩ : ∃ x, (r.set 0 o).getD 1 0 = x := ⟨_, rfl⟩
      have y0 := reg_at HR01.out ((HRr.out.set 0 HT0.out)) (i := 1) (by omega)
      rw [hro] at y0
      obtain ⟨y0, yf⟩ := y0
      clear hro
      go_upto_region 8 with fail
      obtain ⟨W011, hW011⟩ : ∃ W, W01.setCell ⟨X + 1, 1, none⟩ (.int .u32 a) = W := ⟨_, rfl⟩
      rw [hW011]
      have HX011 : Hid (W011.heap[X]? = some (.cells #[.int .i64 n, .int .i64 o, .int .u32 a, .int .i64 ws, .int .i64 t] 29 (0, 0))) := by rw [← hW011]; exact (set_far _ _ (by omega)).trans HX01.out
      have HR011 : Hid (W011.heap[X + 1]? = some (.cells (RG ((r.set 0 o).set 1 a)) 23 (0, 0))) := by rw [← hW011]; exact reg_set HR01.out 1 _
      have HZ011 : Hid (W011.heap[X + 1 + 1]? = some (.cells #[.int .u32 0, .int .u32 0, .int .u32 0, .int .u32 0, .int .u32 0, .int .u32 0, .int .u32 0, .int .u32 0, .int .u32 0, .int .u32 0, .int .u32 0, .int .u32 0, .int .u32 0, .int .u32 0, .int .u32 0, .int .u32 0] 23 (0, 0))) := by rw [← hW011]; exact (set_far _ _ (by omega)).trans HZ01.out
      have HK011 : Hid (W011.heap[Z]? = some (.cells #[.string ⟨wd⟩, .bool true, .bool true, .bool bw, .bool bt, .int .i64 p] 46 (0, 0))) := by rw [← hW011]; exact (set_far _ _ (by have := HXZ.out; omega)).trans HK01.out
      have B011 : Hid (Below X w W011) := by rw [← hW011]; exact B01.out.setCell (by show X ≤ X + 1; omega) _
      clear hW011 y0 yf t0 t1 t2 t3 t4 t5 x010 x011 x012 x013 x014
      cases bw
      · have t0 : W011.cell? ⟨Z, 0, none⟩ = some (.string ⟨wd⟩) := by rw [(row_cell HK011.out 0).1]; rfl
        have t1 : W011.cell? ⟨Z, 1, none⟩ = some (.bool true) := by rw [(row_cell HK011.out 1).1]; rfl
        have t2 : W011.cell? ⟨Z, 2, none⟩ = some (.bool true) := by rw [(row_cell HK011.out 2).1]; rfl
        have t3 : W011.cell? ⟨Z, 3, none⟩ = some (.bool false) := by rw [(row_cell HK011.out 3).1]; rfl
        have t4 : W011.cell? ⟨Z, 4, none⟩ = some (.bool bt) := by rw [(row_cell HK011.out 4).1]; rfl
        have t5 : W011.cell? ⟨Z, 5, none⟩ = some (.int .i64 p) := by rw [(row_cell HK011.out 5).1]; rfl
        go_upto_region 10 with fail
        obtain ⟨W0110, hW0110⟩ : ∃ W, W = W011 := ⟨_, rfl⟩
        subst hW0110
        have HX0110 := HX011
        have HR0110 := HR011
        have HZ0110 := HZ011
        have HK0110 : Hid (W0110.heap[Z]? = some (.cells #[.string ⟨wd⟩, .bool true, .bool true, .bool false, .bool bt, .int .i64 p] 46 (0, 0))) := HK011
        have B0110 := B011
        clear t0 t1 t2 t3 t4 t5
        cases bt
        · have t0 : W0110.cell? ⟨Z, 0, none⟩ = some (.string ⟨wd⟩) := by rw [(row_cell HK0110.out 0).1]; rfl
          have t1 : W0110.cell? ⟨Z, 1, none⟩ = some (.bool true) := by rw [(row_cell HK0110.out 1).1]; rfl
          have t2 : W0110.cell? ⟨Z, 2, none⟩ = some (.bool true) := by rw [(row_cell HK0110.out 2).1]; rfl
          have t3 : W0110.cell? ⟨Z, 3, none⟩ = some (.bool false) := by rw [(row_cell HK0110.out 3).1]; rfl
          have t4 : W0110.cell? ⟨Z, 4, none⟩ = some (.bool false) := by rw [(row_cell HK0110.out 4).1]; rfl
          have t5 : W0110.cell? ⟨Z, 5, none⟩ = some (.int .i64 p) := by rw [(row_cell HK0110.out 5).1]; rfl
          go_upto_region 12 with fail
          obtain ⟨W01100, hW01100⟩ : ∃ W, W = W0110 := ⟨_, rfl⟩
          subst hW01100
          have HX01100 := HX0110
          have HR01100 := HR0110
          have HZ01100 := HZ0110
          have HK01100 : Hid (W01100.heap[Z]? = some (.cells #[.string ⟨wd⟩, .bool true, .bool true, .bool false, .bool false, .int .i64 p] 46 (0, 0))) := HK0110
          have B01100 := B0110
          clear t0 t1 t2 t3 t4 t5
          have hrg : Regs ((r.set 0 o).set 1 a) := ((HRr.out.set 0 HT0.out).set 1 HT1.out)
          have hst := store16 HZ01100.out (by rfl) hrg
          obtain ⟨V4, hV4⟩ : ∃ W, W01100.setRow (X + 1 + 1) (RG ((r.set 0 o).set 1 a)) = W := ⟨_, rfl⟩
          have HV4 : Hid (V4.heap[X + 1 + 1]? = some (.cells (RG ((r.set 0 o).set 1 a)) 23 (0, 0))) := by unfold Hid; rw [← hV4]; exact setRow_heap _ _ _ _ _ _ HZ01100.out
          have BV4 : Hid (Below X w V4) := by rw [← hV4]; exact below_setRow B01100.out (by omega) _
          rw [hV4] at hst
          have hsz := hrg.size
          have HE : Hid (RG (encR ⟨n, o, a, ws, t⟩ r) = RG ((r.set 0 o).set 1 a)) := by unfold Hid encR; simp only [HBB.out.1, HBB.out.2.1, HBB.out.2.2.1, HBB.out.2.2.2, if_true, if_false, Bool.false_eq_true, TV.out]
          clear hV4 hrg
          generalize hC : RG ((r.set 0 o).set 1 a) = C at hsz hst HV4 HR01100 HE
          go_wp2_with (refine wpList_load_row rfl 23 _ rfl (X + 1) rfl 23 C (0, 0) _ HR01100.out Tryd.underlying23 rfl (by rw [hsz]; exact size16) ?_)
          refine bodyPost_ret (v := .agg C) (results_cell_row (ty := 23) (p := 4) rfl _ _ (X + 1 + 1) 23 C (0, 0) _ rfl HV4.out Tryd.underlying23 rfl (by rw [hsz]; exact size16)) rfl ⟨by rw [HVV.out, if_pos (by simp), HE.out], BV4.out⟩
        · have t0 : W0110.cell? ⟨Z, 0, none⟩ = some (.string ⟨wd⟩) := by rw [(row_cell HK0110.out 0).1]; rfl
          have t1 : W0110.cell? ⟨Z, 1, none⟩ = some (.bool true) := by rw [(row_cell HK0110.out 1).1]; rfl
          have t2 : W0110.cell? ⟨Z, 2, none⟩ = some (.bool true) := by rw [(row_cell HK0110.out 2).1]; rfl
          have t3 : W0110.cell? ⟨Z, 3, none⟩ = some (.bool false) := by rw [(row_cell HK0110.out 3).1]; rfl
          have t4 : W0110.cell? ⟨Z, 4, none⟩ = some (.bool true) := by rw [(row_cell HK0110.out 4).1]; rfl
          have t5 : W0110.cell? ⟨Z, 5, none⟩ = some (.int .i64 p) := by rw [(row_cell HK0110.out 5).1]; rfl
          have x01100 : W0110.cell? ⟨X, 0, none⟩ = some (.int .i64 n) := by rw [(row_cell HX0110.out 0).1]; rfl
          have x01101 : W0110.cell? ⟨X, 1, none⟩ = some (.int .i64 o) := by rw [(row_cell HX0110.out 1).1]; rfl
          have x01102 : W0110.cell? ⟨X, 2, none⟩ = some (.int .u32 a) := by rw [(row_cell HX0110.out 2).1]; rfl
          have x01103 : W0110.cell? ⟨X, 3, none⟩ = some (.int .i64 ws) := by rw [(row_cell HX0110.out 3).1]; rfl
          have x01104 : W0110.cell? ⟨X, 4, none⟩ = some (.int .i64 t) := by rw [(row_cell HX0110.out 4).1]; rfl
          obtain ⟨ro, hro⟩ : ∃ x, ((r.set 0 o).set 1 a).getD 3 0 = x := ⟨_, rfl⟩
          have y0 := reg_at HR0110.out (((HRr.out.set 0 HT0.out).set 1 HT1.out)) (i := 3) (by omega)
          rw [hro] at y0
          obtain ⟨y0, yf⟩ := y0
          clear hro
          go_upto_region 12 with fail
          obtain ⟨W01101, hW01101⟩ : ∃ W, W0110.setCell ⟨X + 1, 3, none⟩ (.int .u32 tv) = W := ⟨_, rfl⟩
          rw [hW01101]
          have HX01101 : Hid (W01101.heap[X]? = some (.cells #[.int .i64 n, .int .i64 o, .int .u32 a, .int .i64 ws, .int .i64 t] 29 (0, 0))) := by rw [← hW01101]; exact (set_far _ _ (by omega)).trans HX0110.out
          have HR01101 : Hid (W01101.heap[X + 1]? = some (.cells (RG (((r.set 0 o).set 1 a).set 3 tv)) 23 (0, 0))) := by rw [← hW01101]; exact reg_set HR0110.out 3 _
          have HZ01101 : Hid (W01101.heap[X + 1 + 1]? = some (.cells #[.int .u32 0, .int .u32 0, .int .u32 0, .int .u32 0, .int .u32 0, .int .u32 0, .int .u32 0, .int .u32 0, .int .u32 0, .int .u32 0, .int .u32 0, .int .u32 0, .int .u32 0, .int .u32 0, .int .u32 0, .int .u32 0] 23 (0, 0))) := by rw [← hW01101]; exact (set_far _ _ (by omega)).trans HZ0110.out
          have HK01101 : Hid (W01101.heap[Z]? = some (.cells #[.string ⟨wd⟩, .bool true, .bool true, .bool false, .bool true, .int .i64 p] 46 (0, 0))) := by rw [← hW01101]; exact (set_far _ _ (by have := HXZ.out; omega)).trans HK0110.out
          have B01101 : Hid (Below X w W01101) := by rw [← hW01101]; exact B0110.out.setCell (by show X ≤ X + 1; omega) _
          clear hW01101 y0 yf t0 t1 t2 t3 t4 t5 x01100 x01101 x01102 x01103 x01104
          have hrg : Regs (((r.set 0 o).set 1 a).set 3 tv) := (((HRr.out.set 0 HT0.out).set 1 HT1.out).set 3 HT3.out)
          have hst := store16 HZ01101.out (by rfl) hrg
          obtain ⟨V4, hV4⟩ : ∃ W, W01101.setRow (X + 1 + 1) (RG (((r.set 0 o).set 1 a).set 3 tv)) = W := ⟨_, rfl⟩
          have HV4 : Hid (V4.heap[X + 1 + 1]? = some (.cells (RG (((r.set 0 o).set 1 a).set 3 tv)) 23 (0, 0))) := by unfold Hid; rw [← hV4]; exact setRow_heap _ _ _ _ _ _ HZ01101.out
          have BV4 : Hid (Below X w V4) := by rw [← hV4]; exact below_setRow B01101.out (by omega) _
          rw [hV4] at hst
          have hsz := hrg.size
          have HE : Hid (RG (encR ⟨n, o, a, ws, t⟩ r) = RG (((r.set 0 o).set 1 a).set 3 tv)) := by unfold Hid encR; simp only [HBB.out.1, HBB.out.2.1, HBB.out.2.2.1, HBB.out.2.2.2, if_true, if_false, Bool.false_eq_true, TV.out]
          clear hV4 hrg
          generalize hC : RG (((r.set 0 o).set 1 a).set 3 tv) = C at hsz hst HV4 HR01101 HE
          go_wp2_with (refine wpList_load_row rfl 23 _ rfl (X + 1) rfl 23 C (0, 0) _ HR01101.out Tryd.underlying23 rfl (by rw [hsz]; exact size16) ?_)
          refine bodyPost_ret (v := .agg C) (results_cell_row (ty := 23) (p := 4) rfl _ _ (X + 1 + 1) 23 C (0, 0) _ rfl HV4.out Tryd.underlying23 rfl (by rw [hsz]; exact size16)) rfl ⟨by rw [HVV.out, if_pos (by simp), HE.out], BV4.out⟩
      · have t0 : W011.cell? ⟨Z, 0, none⟩ = some (.string ⟨wd⟩) := by rw [(row_cell HK011.out 0).1]; rfl
        have t1 : W011.cell? ⟨Z, 1, none⟩ = some (.bool true) := by rw [(row_cell HK011.out 1).1]; rfl
        have t2 : W011.cell? ⟨Z, 2, none⟩ = some (.bool true) := by rw [(row_cell HK011.out 2).1]; rfl
        have t3 : W011.cell? ⟨Z, 3, none⟩ = some (.bool true) := by rw [(row_cell HK011.out 3).1]; rfl
        have t4 : W011.cell? ⟨Z, 4, none⟩ = some (.bool bt) := by rw [(row_cell HK011.out 4).1]; rfl
        have t5 : W011.cell? ⟨Z, 5, none⟩ = some (.int .i64 p) := by rw [(row_cell HK011.out 5).1]; rfl
        have x0110 : W011.cell? ⟨X, 0, none⟩ = some (.int .i64 n) := by rw [(row_cell HX011.out 0).1]; rfl
        have x0111 : W011.cell? ⟨X, 1, none⟩ = some (.int .i64 o) := by rw [(row_cell HX011.out 1).1]; rfl
        have x0112 : W011.cell? ⟨X, 2, none⟩ = some (.int .u32 a) := by rw [(row_cell HX011.out 2).1]; rfl
        have x0113 : W011.cell? ⟨X, 3, none⟩ = some (.int .i64 ws) := by rw [(row_cell HX011.out 3).1]; rfl
        have x0114 : W011.cell? ⟨X, 4, none⟩ = some (.int .i64 t) := by rw [(row_cell HX011.out 4).1]; rfl
        obtain ⟨ro, hro⟩ : ∃ x, ((r.set 0 o).set 1 a).getD 2 0 = x := ⟨_, rfl⟩
        have y0 := reg_at HR011.out (((HRr.out.set 0 HT0.out).set 1 HT1.out)) (i := 2) (by omega)
        rw [hro] at y0
        obtain ⟨y0, yf⟩ := y0
        clear hro
        go_upto_region 10 with fail
        obtain ⟨W0111, hW0111⟩ : ∃ W, W011.setCell ⟨X + 1, 2, none⟩ (.int .u32 ws) = W := ⟨_, rfl⟩
        rw [hW0111]
        have HX0111 : Hid (W0111.heap[X]? = some (.cells #[.int .i64 n, .int .i64 o, .int .u32 a, .int .i64 ws, .int .i64 t] 29 (0, 0))) := by rw [← hW0111]; exact (set_far _ _ (by omega)).trans HX011.out
        have HR0111 : Hid (W0111.heap[X + 1]? = some (.cells (RG (((r.set 0 o).set 1 a).set 2 ws)) 23 (0, 0))) := by rw [← hW0111]; exact reg_set HR011.out 2 _
        have HZ0111 : Hid (W0111.heap[X + 1 + 1]? = some (.cells #[.int .u32 0, .int .u32 0, .int .u32 0, .int .u32 0, .int .u32 0, .int .u32 0, .int .u32 0, .int .u32 0, .int .u32 0, .int .u32 0, .int .u32 0, .int .u32 0, .int .u32 0, .int .u32 0, .int .u32 0, .int .u32 0] 23 (0, 0))) := by rw [← hW0111]; exact (set_far _ _ (by omega)).trans HZ011.out
        have HK0111 : Hid (W0111.heap[Z]? = some (.cells #[.string ⟨wd⟩, .bool true, .bool true, .bool true, .bool bt, .int .i64 p] 46 (0, 0))) := by rw [← hW0111]; exact (set_far _ _ (by have := HXZ.out; omega)).trans HK011.out
        have B0111 : Hid (Below X w W0111) := by rw [← hW0111]; exact B011.out.setCell (by show X ≤ X + 1; omega) _
        clear hW0111 y0 yf t0 t1 t2 t3 t4 t5 x0110 x0111 x0112 x0113 x0114
        cases bt
        · have t0 : W0111.cell? ⟨Z, 0, none⟩ = some (.string ⟨wd⟩) := by rw [(row_cell HK0111.out 0).1]; rfl
          have t1 : W0111.cell? ⟨Z, 1, none⟩ = some (.bool true) := by rw [(row_cell HK0111.out 1).1]; rfl
          have t2 : W0111.cell? ⟨Z, 2, none⟩ = some (.bool true) := by rw [(row_cell HK0111.out 2).1]; rfl
          have t3 : W0111.cell? ⟨Z, 3, none⟩ = some (.bool true) := by rw [(row_cell HK0111.out 3).1]; rfl
          have t4 : W0111.cell? ⟨Z, 4, none⟩ = some (.bool false) := by rw [(row_cell HK0111.out 4).1]; rfl
          have t5 : W0111.cell? ⟨Z, 5, none⟩ = some (.int .i64 p) := by rw [(row_cell HK0111.out 5).1]; rfl
          go_upto_region 12 with fail
          obtain ⟨W01110, hW01110⟩ : ∃ W, W = W0111 := ⟨_, rfl⟩
          subst hW01110
          have HX01110 := HX0111
          have HR01110 := HR0111
          have HZ01110 := HZ0111
          have HK01110 : Hid (W01110.heap[Z]? = some (.cells #[.string ⟨wd⟩, .bool true, .bool true, .bool true, .bool false, .int .i64 p] 46 (0, 0))) := HK0111
          have B01110 := B0111
          clear t0 t1 t2 t3 t4 t5
          have hrg : Regs (((r.set 0 o).set 1 a).set 2 ws) := (((HRr.out.set 0 HT0.out).set 1 HT1.out).set 2 HT2.out)
          have hst := store16 HZ01110.out (by rfl) hrg
          obtain ⟨V4, hV4⟩ : ∃ W, W01110.setRow (X + 1 + 1) (RG (((r.set 0 o).set 1 a).set 2 ws)) = W := ⟨_, rfl⟩
          have HV4 : Hid (V4.heap[X + 1 + 1]? = some (.cells (RG (((r.set 0 o).set 1 a).set 2 ws)) 23 (0, 0))) := by unfold Hid; rw [← hV4]; exact setRow_heap _ _ _ _ _ _ HZ01110.out
          have BV4 : Hid (Below X w V4) := by rw [← hV4]; exact below_setRow B01110.out (by omega) _
          rw [hV4] at hst
          have hsz := hrg.size
          have HE : Hid (RG (encR ⟨n, o, a, ws, t⟩ r) = RG (((r.set 0 o).set 1 a).set 2 ws)) := by unfold Hid encR; simp only [HBB.out.1, HBB.out.2.1, HBB.out.2.2.1, HBB.out.2.2.2, if_true, if_false, Bool.false_eq_true, TV.out]
          clear hV4 hrg
          generalize hC : RG (((r.set 0 o).set 1 a).set 2 ws) = C at hsz hst HV4 HR01110 HE
          go_wp2_with (refine wpList_load_row rfl 23 _ rfl (X + 1) rfl 23 C (0, 0) _ HR01110.out Tryd.underlying23 rfl (by rw [hsz]; exact size16) ?_)
          refine bodyPost_ret (v := .agg C) (results_cell_row (ty := 23) (p := 4) rfl _ _ (X + 1 + 1) 23 C (0, 0) _ rfl HV4.out Tryd.underlying23 rfl (by rw [hsz]; exact size16)) rfl ⟨by rw [HVV.out, if_pos (by simp), HE.out], BV4.out⟩
        · have t0 : W0111.cell? ⟨Z, 0, none⟩ = some (.string ⟨wd⟩) := by rw [(row_cell HK0111.out 0).1]; rfl
          have t1 : W0111.cell? ⟨Z, 1, none⟩ = some (.bool true) := by rw [(row_cell HK0111.out 1).1]; rfl
          have t2 : W0111.cell? ⟨Z, 2, none⟩ = some (.bool true) := by rw [(row_cell HK0111.out 2).1]; rfl
          have t3 : W0111.cell? ⟨Z, 3, none⟩ = some (.bool true) := by rw [(row_cell HK0111.out 3).1]; rfl
          have t4 : W0111.cell? ⟨Z, 4, none⟩ = some (.bool true) := by rw [(row_cell HK0111.out 4).1]; rfl
          have t5 : W0111.cell? ⟨Z, 5, none⟩ = some (.int .i64 p) := by rw [(row_cell HK0111.out 5).1]; rfl
          have x01110 : W0111.cell? ⟨X, 0, none⟩ = some (.int .i64 n) := by rw [(row_cell HX0111.out 0).1]; rfl
          have x01111 : W0111.cell? ⟨X, 1, none⟩ = some (.int .i64 o) := by rw [(row_cell HX0111.out 1).1]; rfl
          have x01112 : W0111.cell? ⟨X, 2, none⟩ = some (.int .u32 a) := by rw [(row_cell HX0111.out 2).1]; rfl
          have x01113 : W0111.cell? ⟨X, 3, none⟩ = some (.int .i64 ws) := by rw [(row_cell HX0111.out 3).1]; rfl
          have x01114 : W0111.cell? ⟨X, 4, none⟩ = some (.int .i64 t) := by rw [(row_cell HX0111.out 4).1]; rfl
          obtain ⟨ro, hro⟩ : ∃ x, (((r.set 0 o).set 1 a).set 2 ws).getD 3 0 = x := ⟨_, rfl⟩
          have y0 := reg_at HR0111.out ((((HRr.out.set 0 HT0.out).set 1 HT1.out).set 2 HT2.out)) (i := 3) (by omega)
          rw [hro] at y0
          obtain ⟨y0, yf⟩ := y0
          clear hro
          go_upto_region 12 with fail
          obtain ⟨W01111, hW01111⟩ : ∃ W, W0111.setCell ⟨X + 1, 3, none⟩ (.int .u32 tv) = W := ⟨_, rfl⟩
          rw [hW01111]
          have HX01111 : Hid (W01111.heap[X]? = some (.cells #[.int .i64 n, .int .i64 o, .int .u32 a, .int .i64 ws, .int .i64 t] 29 (0, 0))) := by rw [← hW01111]; exact (set_far _ _ (by omega)).trans HX0111.out
          have HR01111 : Hid (W01111.heap[X + 1]? = some (.cells (RG ((((r.set 0 o).set 1 a).set 2 ws).set 3 tv)) 23 (0, 0))) := by rw [← hW01111]; exact reg_set HR0111.out 3 _
          have HZ01111 : Hid (W01111.heap[X + 1 + 1]? = some (.cells #[.int .u32 0, .int .u32 0, .int .u32 0, .int .u32 0, .int .u32 0, .int .u32 0, .int .u32 0, .int .u32 0, .int .u32 0, .int .u32 0, .int .u32 0, .int .u32 0, .int .u32 0, .int .u32 0, .int .u32 0, .int .u32 0] 23 (0, 0))) := by rw [← hW01111]; exact (set_far _ _ (by omega)).trans HZ0111.out
          have HK01111 : Hid (W01111.heap[Z]? = some (.cells #[.string ⟨wd⟩, .bool true, .bool true, .bool true, .bool true, .int .i64 p] 46 (0, 0))) := by rw [← hW01111]; exact (set_far _ _ (by have := HXZ.out; omega)).trans HK0111.out
          have B01111 : Hid (Below X w W01111) := by rw [← hW01111]; exact B0111.out.setCell (by show X ≤ X + 1; omega) _
          clear hW01111 y0 yf t0 t1 t2 t3 t4 t5 x01110 x01111 x01112 x01113 x01114
          have hrg : Regs ((((r.set 0 o).set 1 a).set 2 ws).set 3 tv) := ((((HRr.out.set 0 HT0.out).set 1 HT1.out).set 2 HT2.out).set 3 HT3.out)
          have hst := store16 HZ01111.out (by rfl) hrg
          obtain ⟨V4, hV4⟩ : ∃ W, W01111.setRow (X + 1 + 1) (RG ((((r.set 0 o).set 1 a).set 2 ws).set 3 tv)) = W := ⟨_, rfl⟩
          have HV4 : Hid (V4.heap[X + 1 + 1]? = some (.cells (RG ((((r.set 0 o).set 1 a).set 2 ws).set 3 tv)) 23 (0, 0))) := by unfold Hid; rw [← hV4]; exact setRow_heap _ _ _ _ _ _ HZ01111.out
          have BV4 : Hid (Below X w V4) := by rw [← hV4]; exact below_setRow B01111.out (by omega) _
          rw [hV4] at hst
          have hsz := hrg.size
          have HE : Hid (RG (encR ⟨n, o, a, ws, t⟩ r) = RG ((((r.set 0 o).set 1 a).set 2 ws).set 3 tv)) := by unfold Hid encR; simp only [HBB.out.1, HBB.out.2.1, HBB.out.2.2.1, HBB.out.2.2.2, if_true, if_false, Bool.false_eq_true, TV.out]
          clear hV4 hrg
          generalize hC : RG ((((r.set 0 o).set 1 a).set 2 ws).set 3 tv) = C at hsz hst HV4 HR01111 HE
          go_wp2_with (refine wpList_load_row rfl 23 _ rfl (X + 1) rfl 23 C (0, 0) _ HR01111.out Tryd.underlying23 rfl (by rw [hsz]; exact size16) ?_)
          refine bodyPost_ret (v := .agg C) (results_cell_row (ty := 23) (p := 4) rfl _ _ (X + 1 + 1) 23 C (0, 0) _ rfl HV4.out Tryd.underlying23 rfl (by rw [hsz]; exact size16)) rfl ⟨by rw [HVV.out, if_pos (by simp), HE.out], BV4.out⟩
end Go.Proofs.YtglpbngdikfliaaDoor.Ca
