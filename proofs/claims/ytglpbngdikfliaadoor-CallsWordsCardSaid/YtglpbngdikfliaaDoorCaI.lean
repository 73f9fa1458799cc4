/-
  The reference's Decode. Each statement bears its own conditions.
-/
import Derived.Test.YtglpbngdikfliaaDoorCaH
namespace Go.Proofs.YtglpbngdikfliaaDoor.Ca
open Go.RowKit Go.Proofs.YtglpbngdikfliaaDoor.F
set_option linter.unusedVariables false
set_option linter.unusedSimpArgs false
set_option maxRecDepth 100000 in
set_option maxHeartbeats 32000000 in
theorem rdecode_26 (n : Int) (r : List Int) (hr : Regs r) (hn : is n = true) (h26 : n = 26) (w : World) : Calls Tryd.prog 10 #[.int .i64 n, .agg (RG r)] w fun e w' => e = .returned (.tuple #[(decQ n r).val, .int .i64 (decE n r)]) ∧ Below w.heap.size w w' := by
  obtain ⟨X, hX⟩ : ∃ X, w.heap.size = X := ⟨_, rfl⟩
  obtain ⟨W0, hW0⟩ : ∃ W0, (w.alloc (.cells (RG r) 23)).alloc (.cells #[.int .i64 0, .int .i64 0, .int .u32 0, .int .i64 0, .int .i64 0] 29) = W0 := ⟨_, rfl⟩
  have B0 : Hid (Below X w W0) := by rw [← hW0, ← hX]; exact ((Below.refl _ _).alloc (Nat.le_refl _) _).alloc (by simp) _
  have HX0 : Hid (W0.heap[X]? = some (.cells (RG r) 23 (0, 0))) := by
    unfold Hid; rw [← hW0, ← hX]; exact (((Below.refl _ _).alloc (by simp) _).block (B := (w.alloc (.cells (RG r) 23)).heap.size) _ (by simp)).trans (heap_alloc_new _ _)
  have HY0 : Hid (W0.heap[X + 1]? = some (.cells #[.int .i64 0, .int .i64 0, .int .u32 0, .int .i64 0, .int .i64 0] 29 (0, 0))) := by
    unfold Hid; rw [← hW0, ← hX]; have := heap_alloc_new (w.alloc (.cells (RG r) 23)) (.cells #[.int .i64 0, .int .i64 0, .int .u32 0, .int .i64 0, .int .i64 0] 29); simpa using this
  have S0 : Hid (W0.heap.size = X + 2) := by rw [← hW0, ← hX]; unfold Hid; simp
  have CO := Lib.hid (of_any n W0)
  rw [hn] at CO
  obtain ⟨bo, hbo⟩ : ∃ x, oB n = x := ⟨_, rfl⟩
  obtain ⟨ba, hba⟩ : ∃ x, aB n = x := ⟨_, rfl⟩
  obtain ⟨bw, hbw⟩ : ∃ x, wB n = x := ⟨_, rfl⟩
  obtain ⟨bt, hbt⟩ : ∃ x, tB n = x := ⟨_, rfl⟩
  obtain ⟨p, hp⟩ : ∃ x, priceL.getD n.toNat 0 = x := ⟨_, rfl⟩
  obtain ⟨wd, hwd⟩ : ∃ x, byteL.getD n.toNat #[] = x := ⟨_, rfl⟩
  have HQ : rowQ n = .agg #[.string ⟨wd⟩, .bool bo, .bool ba, .bool bw, .bool bt, .int .i64 p] := by unfold rowQ wordV; rw [hn, hbo, hba, hbw, hbt, hp, hwd]; rfl
  rw [HQ] at CO
  obtain ⟨r0, hr0⟩ : ∃ x, r.getD 0 0 = x := ⟨_, rfl⟩
  have rb0 := hr.at_ (i := 0) (by omega)
  rw [hr0] at rb0
  obtain ⟨r1, hr1⟩ : ∃ x, r.getD 1 0 = x := ⟨_, rfl⟩
  have rb1 := hr.at_ (i := 1) (by omega)
  rw [hr1] at rb1
  obtain ⟨r2, hr2⟩ : ∃ x, r.getD 2 0 = x := ⟨_, rfl⟩
  have rb2 := hr.at_ (i := 2) (by omega)
  rw [hr2] at rb2
  obtain ⟨r3, hr3⟩ : ∃ x, r.getD 3 0 = x := ⟨_, rfl⟩
  have rb3 := hr.at_ (i := 3) (by omega)
  rw [hr3] at rb3
  have y0 : W0.cell? ⟨X, 0, none⟩ = some (.int .u32 r0) := by rw [← hr0]; exact (reg_at HX0.out hr (by omega)).1
  have y1 : W0.cell? ⟨X, 1, none⟩ = some (.int .u32 r1) := by rw [← hr1]; exact (reg_at HX0.out hr (by omega)).1
  have y2 : W0.cell? ⟨X, 2, none⟩ = some (.int .u32 r2) := by rw [← hr2]; exact (reg_at HX0.out hr (by omega)).1
  have y3 : W0.cell? ⟨X, 3, none⟩ = some (.int .u32 r3) := by rw [← hr3]; exact (reg_at HX0.out hr (by omega)).1
  obtain ⟨tt, htt⟩ : ∃ x, tickV r3 = x := ⟨_, rfl⟩
  have HTT := Lib.hid htt
  have htb : -1 ≤ tt ∧ tt ≤ 4294967294 := by rw [← htt]; unfold tickV; split <;> omega
  obtain ⟨Q, hQ⟩ : ∃ Q, ownV (askQ n r) = Q := ⟨_, rfl⟩
  obtain ⟨f, hf⟩ : ∃ f, fitsV Q = f := ⟨_, rfl⟩
  have hQ2 : Q = ⟨n, if bo then r0 else 0, if ba then r1 else 0, if bw then r2 else 0, if bt then tt else 0⟩ := by
    rw [← hQ]; unfold ownV askQ; simp only [hr0, hr1, hr2, hr3, htt, hbo, hba, hbw, hbt]
  have HOW := Lib.hid hQ2
  have HP : Hid (decQ n r = (if f then Q else zeroQ) ∧ decE n r = if f then 0 else 2) := by unfold Hid decQ decE; rw [hn, hQ, hf]; exact ⟨rfl, rfl⟩
  have HF : Hid (decide ((bo = true → r0 ≤ 15) ∧ (bw = true → r2 ≤ 32) ∧ (n = 26 → 1 ≤ r1 ∧ r1 ≤ 27)) = f) := by
    unfold Hid
    rw [← hf, hQ2]
    unfold fitsV
    rw [decide_eq_decide]
    have hb2 : ba = true := by rw [← hba, h26]; rfl
    simp only
    simp only [hb2]
    cases bo <;> cases bw <;> cases bt <;> simp <;> omega
  have H26 := Lib.hid h26
  obtain rfl : bo = false := by rw [← hbo, h26]; rfl
  obtain rfl : ba = true := by rw [← hba, h26]; rfl
  obtain rfl : bw = false := by rw [← hbw, h26]; rfl
  obtain rfl : bt = false := by rw [← hbt, h26]; rfl
  have k26 : (n == 26) = true := by simpa using h26
  have f0 : IntKind.i64.wrap r0 = r0 := by rw [IntKind.wrap_i64]; omega
  have f2 : IntKind.i64.wrap r2 = r2 := by rw [IntKind.wrap_i64]; omega
  have f3 : IntKind.i64.wrap r3 = r3 := by rw [IntKind.wrap_i64]; omega
  have HRR := Lib.hid hr
  have HRV : Hid (r.getD 0 0 = r0 ∧ r.getD 1 0 = r1 ∧ r.getD 2 0 = r2 ∧ r.getD 3 0 = r3) := ⟨hr0, hr1, hr2, hr3⟩
  simp only [hX]
  clear HQ hbo hba hbw hbt hp hwd h26 hQ hf hQ2 hr0 hr1 hr2 hr3 htt htb hr y0 y1 y2 y3 hn
  go_enter Tryd.func10, Tryd.ntmps10
  go_wp2_with fail
  refine CO.out.mono ?_
  rintro e w1 ⟨rfl, hb⟩
  have HX1 : Hid (w1.heap[X]? = some (.cells (RG r) 23 (0, 0))) := (hb.block X (by have := S0.out; omega)).trans HX0.out
  have HY1 : Hid (w1.heap[X + 1]? = some (.cells #[.int .i64 0, .int .i64 0, .int .u32 0, .int .i64 0, .int .i64 0] 29 (0, 0))) := (hb.block (X + 1) (by have := S0.out; omega)).trans HY0.out
  have B1 : Hid (Below X w w1) := B0.out.trans (hb.mono (by have := S0.out; omega))
  obtain ⟨Z, hZ⟩ : ∃ Z, w1.heap.size = Z := ⟨_, rfl⟩
  have HXZ : Hid (X + 1 < Z) := by have := hb.size; have := S0.out; unfold Hid; omega
  clear hb hW0 CO HX0 HY0 B0 S0
  go_upto_region 5 with fail
  obtain ⟨w3, hw3⟩ : ∃ W, (w1.alloc (.cells #[.string ⟨wd⟩, .bool false, .bool true, .bool false, .bool false, .int .i64 p] 46)).alloc (.cells #[.int .i64 n, .int .i64 0, .int .u32 0, .int .i64 0, .int .i64 0] 29) = W := ⟨_, rfl⟩
  rw [hw3]
  have b3 : Below w1.heap.size w1 w3 := by rw [← hw3]; exact ((Below.refl _ _).alloc (Nat.le_refl _) _).alloc (by simp) _
  have hx3 : w3.heap[X]? = some (.cells (RG r) 23 (0, 0)) := (b3.block X (by have := HXZ.out; omega)).trans HX1.out
  have HY : Hid (w3.heap[X + 1]? = some (.cells #[.int .i64 0, .int .i64 0, .int .u32 0, .int .i64 0, .int .i64 0] 29 (0, 0))) := (b3.block (X + 1) (by have := HXZ.out; omega)).trans HY1.out
  have HZ3 : Hid (w3.heap[Z]? = some (.cells #[.string ⟨wd⟩, .bool false, .bool true, .bool false, .bool false, .int .i64 p] 46 (0, 0))) := by
    unfold Hid; rw [← hw3, ← hZ]; exact (((Below.refl _ _).alloc (by simp) _).block (B := (w1.alloc (.cells #[.string ⟨wd⟩, .bool false, .bool true, .bool false, .bool false, .int .i64 p] 46)).heap.size) _ (by simp)).trans (heap_alloc_new _ _)
  have HQ3 : Hid (w3.heap[Z + 1]? = some (.cells #[.int .i64 n, .int .i64 0, .int .u32 0, .int .i64 0, .int .i64 0] 29 (0, 0))) := by
    unfold Hid; rw [← hw3, ← hZ]; have := heap_alloc_new (w1.alloc (.cells #[.string ⟨wd⟩, .bool false, .bool true, .bool false, .bool false, .int .i64 p] 46)) (.cells #[.int .i64 n, .int .i64 0, .int .u32 0, .int .i64 0, .int .i64 0] 29); simpa using this
  have HB3 : Hid (Below X w w3) := B1.out.trans (b3.mono (by have := HXZ.out; omega))
  have HR : Hid (w3.cell? ⟨X, 0, none⟩ = some (.int .u32 r0) ∧ w3.cell? ⟨X, 1, none⟩ = some (.int .u32 r1) ∧ w3.cell? ⟨X, 2, none⟩ = some (.int .u32 r2) ∧ w3.cell? ⟨X, 3, none⟩ = some (.int .u32 r3)) := by
    exact ⟨HRV.out.1 ▸ (reg_at hx3 HRR.out (by omega)).1, HRV.out.2.1 ▸ (reg_at hx3 HRR.out (by omega)).1, HRV.out.2.2.1 ▸ (reg_at hx3 HRR.out (by omega)).1, HRV.out.2.2.2 ▸ (reg_at hx3 HRR.out (by omega)).1⟩
  have HT : Hid (w3.cell? ⟨Z, 1, none⟩ = some (.bool false) ∧ w3.cell? ⟨Z, 2, none⟩ = some (.bool true) ∧ w3.cell? ⟨Z, 3, none⟩ = some (.bool false) ∧ w3.cell? ⟨Z, 4, none⟩ = some (.bool false)) := by
    refine ⟨?_, ?_, ?_, ?_⟩
    · rw [(row_cell HZ3.out 1).1]; rfl
    · rw [(row_cell HZ3.out 2).1]; rfl
    · rw [(row_cell HZ3.out 3).1]; rfl
    · rw [(row_cell HZ3.out 4).1]; rfl
  clear hw3 b3 hZ hx3 HX1 HY1 B1 HZ3 HRR
  obtain ⟨W0, hW0⟩ : ∃ W, W = w3 := ⟨_, rfl⟩
  have F0 : Hid (Fo (fun b => b = Z + 1) w3 W0) := by rw [hW0]; exact Fo.refl _ _
  have HQ0 : Hid (W0.heap[Z + 1]? = some (.cells #[.int .i64 n, .int .i64 0, .int .u32 0, .int .i64 0, .int .i64 0] 29 (0, 0))) := by rw [hW0]; exact HQ3.out
  rw [← hW0]
  clear hW0 HQ3
  have x0 : W0.cell? ⟨X, 0, none⟩ = some (.int .u32 r0) := F0.out.cell (fun e => by have := HXZ.out; simp at e; omega) HR.out.1
  have x1 : W0.cell? ⟨X, 1, none⟩ = some (.int .u32 r1) := F0.out.cell (fun e => by have := HXZ.out; simp at e; omega) HR.out.2.1
  have x2 : W0.cell? ⟨X, 2, none⟩ = some (.int .u32 r2) := F0.out.cell (fun e => by have := HXZ.out; simp at e; omega) HR.out.2.2.1
  have x3 : W0.cell? ⟨X, 3, none⟩ = some (.int .u32 r3) := F0.out.cell (fun e => by have := HXZ.out; simp at e; omega) HR.out.2.2.2
  have t1 : W0.cell? ⟨Z, 1, none⟩ = some (.bool false) := F0.out.cell (fun e => by simp at e) HT.out.1
  have t2 : W0.cell? ⟨Z, 2, none⟩ = some (.bool true) := F0.out.cell (fun e => by simp at e) HT.out.2.1
  have t3 : W0.cell? ⟨Z, 3, none⟩ = some (.bool false) := F0.out.cell (fun e => by simp at e) HT.out.2.2.1
  have t4 : W0.cell? ⟨Z, 4, none⟩ = some (.bool false) := F0.out.cell (fun e => by simp at e) HT.out.2.2.2
  go_upto_region 9 with fail
  obtain ⟨W00, hW00⟩ : ∃ W, W = W0 := ⟨_, rfl⟩
  subst hW00
  have HQ00 := HQ0
  have F00 := F0
  clear x0 x1 x2 x3 t1 t2 t3 t4
  have x0 : W00.cell? ⟨X, 0, none⟩ = some (.int .u32 r0) := F00.out.cell (fun e => by have := HXZ.out; simp at e; omega) HR.out.1
  have x1 : W00.cell? ⟨X, 1, none⟩ = some (.int .u32 r1) := F00.out.cell (fun e => by have := HXZ.out; simp at e; omega) HR.out.2.1
  have x2 : W00.cell? ⟨X, 2, none⟩ = some (.int .u32 r2) := F00.out.cell (fun e => by have := HXZ.out; simp at e; omega) HR.out.2.2.1
  have x3 : W00.cell? ⟨X, 3, none⟩ = some (.int .u32 r3) := F00.out.cell (fun e => by have := HXZ.out; simp at e; omega) HR.out.2.2.2
  have t1 : W00.cell? ⟨Z, 1, none⟩ = some (.bool false) := F00.out.cell (fun e => by simp at e) HT.out.1
  have t2 : W00.cell? ⟨Z, 2, none⟩ = some (.bool true) := F00.out.cell (fun e => by simp at e) HT.out.2.1
  have t3 : W00.cell? ⟨Z, 3, none⟩ = some (.bool false) := F00.out.cell (fun e => by simp at e) HT.out.2.2.1
  have t4 : W00.cell? ⟨Z, 4, none⟩ = some (.bool false) := F00.out.cell (fun e => by simp at e) HT.out.2.2.2
  have z0 : W00.cell? ⟨Z + 1, 0, none⟩ = some (.int .i64 n) := by rw [(row_cell HQ00.out 0).1]; rfl
  have zz0 : W00.frozen? ⟨Z + 1, 0, none⟩ = false := (row_cell HQ00.out 0).2
  have z1 : W00.cell? ⟨Z + 1, 1, none⟩ = some (.int .i64 0) := by rw [(row_cell HQ00.out 1).1]; rfl
  have zz1 : W00.frozen? ⟨Z + 1, 1, none⟩ = false := (row_cell HQ00.out 1).2
  have z2 : W00.cell? ⟨Z + 1, 2, none⟩ = some (.int .u32 0) := by rw [(row_cell HQ00.out 2).1]; rfl
  have zz2 : W00.frozen? ⟨Z + 1, 2, none⟩ = false := (row_cell HQ00.out 2).2
  have z3 : W00.cell? ⟨Z + 1, 3, none⟩ = some (.int .i64 0) := by rw [(row_cell HQ00.out 3).1]; rfl
  have zz3 : W00.frozen? ⟨Z + 1, 3, none⟩ = false := (row_cell HQ00.out 3).2
  have z4 : W00.cell? ⟨Z + 1, 4, none⟩ = some (.int .i64 0) := by rw [(row_cell HQ00.out 4).1]; rfl
  have zz4 : W00.frozen? ⟨Z + 1, 4, none⟩ = false := (row_cell HQ00.out 4).2
  go_upto_region 11 with fail
  obtain ⟨W001, hW001⟩ : ∃ W, W00.setCell ⟨Z + 1, 2, none⟩ (.int .u32 r1) = W := ⟨_, rfl⟩
  rw [hW001]
  have HQ001 : Hid (W001.heap[Z + 1]? = some (.cells #[.int .i64 n, .int .i64 0, .int .u32 r1, .int .i64 0, .int .i64 0] 29 (0, 0))) := by unfold Hid; rw [← hW001]; exact set_at HQ00.out 2 _
  have F001 : Hid (Fo (fun b => b = Z + 1) w3 W001) := by unfold Hid; rw [← hW001]; exact F00.out.setCell (.inl rfl) 2 _
  clear hW001 x0 x1 x2 x3 t1 t2 t3 t4 z0 zz0 z1 zz1 z2 zz2 z3 zz3 z4 zz4
  have x0 : W001.cell? ⟨X, 0, none⟩ = some (.int .u32 r0) := F001.out.cell (fun e => by have := HXZ.out; simp at e; omega) HR.out.1
  have x1 : W001.cell? ⟨X, 1, none⟩ = some (.int .u32 r1) := F001.out.cell (fun e => by have := HXZ.out; simp at e; omega) HR.out.2.1
  have x2 : W001.cell? ⟨X, 2, none⟩ = some (.int .u32 r2) := F001.out.cell (fun e => by have := HXZ.out; simp at e; omega) HR.out.2.2.1
  have x3 : W001.cell? ⟨X, 3, none⟩ = some (.int .u32 r3) := F001.out.cell (fun e => by have := HXZ.out; simp at e; omega) HR.out.2.2.2
  have t1 : W001.cell? ⟨Z, 1, none⟩ = some (.bool false) := F001.out.cell (fun e => by simp at e) HT.out.1
  have t2 : W001.cell? ⟨Z, 2, none⟩ = some (.bool true) := F001.out.cell (fun e => by simp at e) HT.out.2.1
  have t3 : W001.cell? ⟨Z, 3, none⟩ = some (.bool false) := F001.out.cell (fun e => by simp at e) HT.out.2.2.1
  have t4 : W001.cell? ⟨Z, 4, none⟩ = some (.bool false) := F001.out.cell (fun e => by simp at e) HT.out.2.2.2
  go_upto_region 15 with fail
  obtain ⟨W0010, hW0010⟩ : ∃ W, W = W001 := ⟨_, rfl⟩
  subst hW0010
  have HQ0010 := HQ001
  have F0010 := F001
  clear x0 x1 x2 x3 t1 t2 t3 t4
  have x0 : W0010.cell? ⟨X, 0, none⟩ = some (.int .u32 r0) := F0010.out.cell (fun e => by have := HXZ.out; simp at e; omega) HR.out.1
  have x1 : W0010.cell? ⟨X, 1, none⟩ = some (.int .u32 r1) := F0010.out.cell (fun e => by have := HXZ.out; simp at e; omega) HR.out.2.1
  have x2 : W0010.cell? ⟨X, 2, none⟩ = some (.int .u32 r2) := F0010.out.cell (fun e => by have := HXZ.out; simp at e; omega) HR.out.2.2.1
  have x3 : W0010.cell? ⟨X, 3, none⟩ = some (.int .u32 r3) := F0010.out.cell (fun e => by have := HXZ.out; simp at e; omega) HR.out.2.2.2
  have t1 : W0010.cell? ⟨Z, 1, none⟩ = some (.bool false) := F0010.out.cell (fun e => by simp at e) HT.out.1
  have t2 : W0010.cell? ⟨Z, 2, none⟩ = some (.bool true) := F0010.out.cell (fun e => by simp at e) HT.out.2.1
  have t3 : W0010.cell? ⟨Z, 3, none⟩ = some (.bool false) := F0010.out.cell (fun e => by simp at e) HT.out.2.2.1
  have t4 : W0010.cell? ⟨Z, 4, none⟩ = some (.bool false) := F0010.out.cell (fun e => by simp at e) HT.out.2.2.2
  go_upto_region 19 with fail
  obtain ⟨W00100, hW00100⟩ : ∃ W, W = W0010 := ⟨_, rfl⟩
  subst hW00100
  have HQ00100 := HQ0010
  have F00100 := F0010
  clear x0 x1 x2 x3 t1 t2 t3 t4
  have z2 : W00100.cell? ⟨Z + 1, 2, none⟩ = some (.int .u32 r1) := by rw [(row_cell HQ00100.out 2).1]; rfl
  by_cases g7 : r1 < 1
  · have k7 : decide (r1 < 1) = true := by simp only [g7, decide_true]
    have HY00100 : Hid (W00100.heap[X + 1]? = some (.cells #[.int .i64 0, .int .i64 0, .int .u32 0, .int .i64 0, .int .i64 0] 29 (0, 0))) := (F00100.out.block (X + 1) (Array.getElem?_eq_some_iff.1 HY.out).1 (by have := HXZ.out; omega)).trans HY.out
    have BB00100 : Hid (Below X w W00100) := HB3.out.trans (F00100.out.below (fun b hb => by have := HXZ.out; omega) (by have := (Array.getElem?_eq_some_iff.1 HY.out).1; omega))
    have y0 : W00100.cell? ⟨X + 1, 0, none⟩ = some (.int .i64 0) := by rw [(row_cell HY00100.out 0).1]; rfl
    have yz0 : W00100.frozen? ⟨X + 1, 0, none⟩ = false := (row_cell HY00100.out 0).2
    have y1 : W00100.cell? ⟨X + 1, 1, none⟩ = some (.int .i64 0) := by rw [(row_cell HY00100.out 1).1]; rfl
    have yz1 : W00100.frozen? ⟨X + 1, 1, none⟩ = false := (row_cell HY00100.out 1).2
    have y2 : W00100.cell? ⟨X + 1, 2, none⟩ = some (.int .u32 0) := by rw [(row_cell HY00100.out 2).1]; rfl
    have yz2 : W00100.frozen? ⟨X + 1, 2, none⟩ = false := (row_cell HY00100.out 2).2
    have y3 : W00100.cell? ⟨X + 1, 3, none⟩ = some (.int .i64 0) := by rw [(row_cell HY00100.out 3).1]; rfl
    have yz3 : W00100.frozen? ⟨X + 1, 3, none⟩ = false := (row_cell HY00100.out 3).2
    have y4 : W00100.cell? ⟨X + 1, 4, none⟩ = some (.int .i64 0) := by rw [(row_cell HY00100.out 4).1]; rfl
    have yz4 : W00100.frozen? ⟨X + 1, 4, none⟩ = false := (row_cell HY00100.out 4).2
    go_wp2_with fail
    refine bodyPost_ret (results_cell_tmp rfl _ _ (X + 1) _ _ rfl (set_five HY00100.out _ _ _ _ _) Tryd.underlying29 rfl (by kernel_rfl)) rfl ?_
    have hf : f = false := by rw [← HF.out]; exact decide_eq_false (fun h => by have := h.2.2 H26.out; omega)
    exact ⟨by rw [HP.out.1, HP.out.2, hf]; rfl, (((((BB00100.out).setCell (by exact Nat.le_succ _) _).setCell (by exact Nat.le_succ _) _).setCell (by exact Nat.le_succ _) _).setCell (by exact Nat.le_succ _) _).setCell (by exact Nat.le_succ _) _⟩
  have k7 : decide (r1 < 1) = false := by simp only [g7, decide_false]
  by_cases g8 : 27 < r1
  · have k8 : decide (27 < r1) = true := by simp only [g8, decide_true]
    have HY00100 : Hid (W00100.heap[X + 1]? = some (.cells #[.int .i64 0, .int .i64 0, .int .u32 0, .int .i64 0, .int .i64 0] 29 (0, 0))) := (F00100.out.block (X + 1) (Array.getElem?_eq_some_iff.1 HY.out).1 (by have := HXZ.out; omega)).trans HY.out
    have BB00100 : Hid (Below X w W00100) := HB3.out.trans (F00100.out.below (fun b hb => by have := HXZ.out; omega) (by have := (Array.getElem?_eq_some_iff.1 HY.out).1; omega))
    have y0 : W00100.cell? ⟨X + 1, 0, none⟩ = some (.int .i64 0) := by rw [(row_cell HY00100.out 0).1]; rfl
    have yz0 : W00100.frozen? ⟨X + 1, 0, none⟩ = false := (row_cell HY00100.out 0).2
    have y1 : W00100.cell? ⟨X + 1, 1, none⟩ = some (.int .i64 0) := by rw [(row_cell HY00100.out 1).1]; rfl
    have yz1 : W00100.frozen? ⟨X + 1, 1, none⟩ = false := (row_cell HY00100.out 1).2
    have y2 : W00100.cell? ⟨X + 1, 2, none⟩ = some (.int .u32 0) := by rw [(row_cell HY00100.out 2).1]; rfl
    have yz2 : W00100.frozen? ⟨X + 1, 2, none⟩ = false := (row_cell HY00100.out 2).2
    have y3 : W00100.cell? ⟨X + 1, 3, none⟩ = some (.int .i64 0) := by rw [(row_cell HY00100.out 3).1]; rfl
    have yz3 : W00100.frozen? ⟨X + 1, 3, none⟩ = false := (row_cell HY00100.out 3).2
    have y4 : W00100.cell? ⟨X + 1, 4, none⟩ = some (.int .i64 0) := by rw [(row_cell HY00100.out 4).1]; rfl
    have yz4 : W00100.frozen? ⟨X + 1, 4, none⟩ = false := (row_cell HY00100.out 4).2
    go_wp2_with fail
    refine bodyPost_ret (results_cell_tmp rfl _ _ (X + 1) _ _ rfl (set_five HY00100.out _ _ _ _ _) Tryd.underlying29 rfl (by kernel_rfl)) rfl ?_
    have hf : f = false := by rw [← HF.out]; exact decide_eq_false (fun h => by have := h.2.2 H26.out; omega)
    exact ⟨by rw [HP.out.1, HP.out.2, hf]; rfl, (((((BB00100.out).setCell (by exact Nat.le_succ _) _).setCell (by exact Nat.le_succ _) _).setCell (by exact Nat.le_succ _) _).setCell (by exact Nat.le_succ _) _).setCell (by exact Nat.le_succ _) _⟩
  have k8 : decide (27 < r1) = false := by simp only [g8, decide_false]
  have HY00100 : Hid (W00100.heap[X + 1]? = some (.cells #[.int .i64 0, .int .i64 0, .int .u32 0, .int .i64 0, .int .i64 0] 29 (0, 0))) := (F00100.out.block (X + 1) (Array.getElem?_eq_some_iff.1 HY.out).1 (by have := HXZ.out; omega)).trans HY.out
  have BB00100 : Hid (Below X w W00100) := HB3.out.trans (F00100.out.below (fun b hb => by have := HXZ.out; omega) (by have := (Array.getElem?_eq_some_iff.1 HY.out).1; omega))
  have y0 : W00100.cell? ⟨X + 1, 0, none⟩ = some (.int .i64 0) := by rw [(row_cell HY00100.out 0).1]; rfl
  have yz0 : W00100.frozen? ⟨X + 1, 0, none⟩ = false := (row_cell HY00100.out 0).2
  have y1 : W00100.cell? ⟨X + 1, 1, none⟩ = some (.int .i64 0) := by rw [(row_cell HY00100.out 1).1]; rfl
  have yz1 : W00100.frozen? ⟨X + 1, 1, none⟩ = false := (row_cell HY00100.out 1).2
  have y2 : W00100.cell? ⟨X + 1, 2, none⟩ = some (.int .u32 0) := by rw [(row_cell HY00100.out 2).1]; rfl
  have yz2 : W00100.frozen? ⟨X + 1, 2, none⟩ = false := (row_cell HY00100.out 2).2
  have y3 : W00100.cell? ⟨X + 1, 3, none⟩ = some (.int .i64 0) := by rw [(row_cell HY00100.out 3).1]; rfl
  have yz3 : W00100.frozen? ⟨X + 1, 3, none⟩ = false := (row_cell HY00100.out 3).2
  have y4 : W00100.cell? ⟨X + 1, 4, none⟩ = some (.int .i64 0) := by rw [(row_cell HY00100.out 4).1]; rfl
  have yz4 : W00100.frozen? ⟨X + 1, 4, none⟩ = false := (row_cell HY00100.out 4).2
  have z0 : W00100.cell? ⟨Z + 1, 0, none⟩ = some (.int .i64 n) := by rw [(row_cell HQ00100.out 0).1]; rfl
  have z1 : W00100.cell? ⟨Z + 1, 1, none⟩ = some (.int .i64 0) := by rw [(row_cell HQ00100.out 1).1]; rfl
  have z2 : W00100.cell? ⟨Z + 1, 2, none⟩ = some (.int .u32 r1) := by rw [(row_cell HQ00100.out 2).1]; rfl
  have z3 : W00100.cell? ⟨Z + 1, 3, none⟩ = some (.int .i64 0) := by rw [(row_cell HQ00100.out 3).1]; rfl
  have z4 : W00100.cell? ⟨Z + 1, 4, none⟩ = some (.int .i64 0) := by rw [(row_cell HQ00100.out 4).1]; rfl
  go_wp2_with fail
  refine bodyPost_ret (results_cell_tmp rfl _ _ (X + 1) _ _ rfl (set_five HY00100.out _ _ _ _ _) Tryd.underlying29 rfl (by kernel_rfl)) rfl ?_
  have hf : f = true := by rw [← HF.out]; exact decide_eq_true (⟨(fun h => by cases h), (fun h => by cases h), fun _ => by omega⟩)
  exact ⟨by rw [HP.out.1, HP.out.2, hf, HOW.out]; rfl, (((((BB00100.out).setCell (by exact Nat.le_succ _) _).setCell (by exact Nat.le_succ _) _).setCell (by exact Nat.le_succ _) _).setCell (by exact Nat.le_succ _) _).setCell (by exact Nat.le_succ _) _⟩
set_option maxRecDepth 100000 in
set_option maxHeartbeats 32000000 in
theorem rdecode_ne (n : Int) (r : List Int) (hr : Regs r) (hn : is n = true) (h26 : ¬ n = 26) (w : World) : Calls Tryd.prog 10 #[.int .i64 n, .agg (RG r)] w fun e w' => e = .returned (.tuple #[(decQ n r).val, .int .i64 (decE n r)]) ∧ Below w.heap.size w w' := by
  obtain ⟨X, hX⟩ : ∃ X, w.heap.size = X := ⟨_, rfl⟩
  obtain ⟨W0, hW0⟩ : ∃ W0, (w.alloc (.cells (RG r) 23)).alloc (.cells #[.int .i64 0, .int .i64 0, .int .u32 0, .int .i64 0, .int .i64 0] 29) = W0 := ⟨_, rfl⟩
  have B0 : Hid (Below X w W0) := by rw [← hW0, ← hX]; exact ((Below.refl _ _).alloc (Nat.le_refl _) _).alloc (by simp) _
  have HX0 : Hid (W0.heap[X]? = some (.cells (RG r) 23 (0, 0))) := by
    unfold Hid; rw [← hW0, ← hX]; exact (((Below.refl _ _).alloc (by simp) _).block (B := (w.alloc (.cells (RG r) 23)).heap.size) _ (by simp)).trans (heap_alloc_new _ _)
  have HY0 : Hid (W0.heap[X + 1]? = some (.cells #[.int .i64 0, .int .i64 0, .int .u32 0, .int .i64 0, .int .i64 0] 29 (0, 0))) := by
    unfold Hid; rw [← hW0, ← hX]; have := heap_alloc_new (w.alloc (.cells (RG r) 23)) (.cells #[.int .i64 0, .int .i64 0, .int .u32 0, .int .i64 0, .int .i64 0] 29); simpa using this
  have S0 : Hid (W0.heap.size = X + 2) := by rw [← hW0, ← hX]; unfold Hid; simp
  have CO := Lib.hid (of_any n W0)
  rw [hn] at CO
  obtain ⟨bo, hbo⟩ : ∃ x, oB n = x := ⟨_, rfl⟩
  obtain ⟨ba, hba⟩ : ∃ x, aB n = x := ⟨_, rfl⟩
  obtain ⟨bw, hbw⟩ : ∃ x, wB n = x := ⟨_, rfl⟩
  obtain ⟨bt, hbt⟩ : ∃ x, tB n = x := ⟨_, rfl⟩
  obtain ⟨p, hp⟩ : ∃ x, priceL.getD n.toNat 0 = x := ⟨_, rfl⟩
  obtain ⟨wd, hwd⟩ : ∃ x, byteL.getD n.toNat #[] = x := ⟨_, rfl⟩
  have HQ : rowQ n = .agg #[.string ⟨wd⟩, .bool bo, .bool ba, .bool bw, .bool bt, .int .i64 p] := by unfold rowQ wordV; rw [hn, hbo, hba, hbw, hbt, hp, hwd]; rfl
  rw [HQ] at CO
  obtain ⟨r0, hr0⟩ : ∃ x, r.getD 0 0 = x := ⟨_, rfl⟩
  have rb0 := hr.at_ (i := 0) (by omega)
  rw [hr0] at rb0
  obtain ⟨r1, hr1⟩ : ∃ x, r.getD 1 0 = x := ⟨_, rfl⟩
  have rb1 := hr.at_ (i := 1) (by omega)
  rw [hr1] at rb1
  obtain ⟨r2, hr2⟩ : ∃ x, r.getD 2 0 = x := ⟨_, rfl⟩
  have rb2 := hr.at_ (i := 2) (by omega)
  rw [hr2] at rb2
  obtain ⟨r3, hr3⟩ : ∃ x, r.getD 3 0 = x := ⟨_, rfl⟩
  have rb3 := hr.at_ (i := 3) (by omega)
  rw [hr3] at rb3
  have y0 : W0.cell? ⟨X, 0, none⟩ = some (.int .u32 r0) := by rw [← hr0]; exact (reg_at HX0.out hr (by omega)).1
  have y1 : W0.cell? ⟨X, 1, none⟩ = some (.int .u32 r1) := by rw [← hr1]; exact (reg_at HX0.out hr (by omega)).1
  have y2 : W0.cell? ⟨X, 2, none⟩ = some (.int .u32 r2) := by rw [← hr2]; exact (reg_at HX0.out hr (by omega)).1
  have y3 : W0.cell? ⟨X, 3, none⟩ = some (.int .u32 r3) := by rw [← hr3]; exact (reg_at HX0.out hr (by omega)).1
  obtain ⟨tt, htt⟩ : ∃ x, tickV r3 = x := ⟨_, rfl⟩
  have HTT := Lib.hid htt
  have htb : -1 ≤ tt ∧ tt ≤ 4294967294 := by rw [← htt]; unfold tickV; split <;> omega
  obtain ⟨Q, hQ⟩ : ∃ Q, ownV (askQ n r) = Q := ⟨_, rfl⟩
  obtain ⟨f, hf⟩ : ∃ f, fitsV Q = f := ⟨_, rfl⟩
  have hQ2 : Q = ⟨n, if bo then r0 else 0, if ba then r1 else 0, if bw then r2 else 0, if bt then tt else 0⟩ := by
    rw [← hQ]; unfold ownV askQ; simp only [hr0, hr1, hr2, hr3, htt, hbo, hba, hbw, hbt]
  have HOW := Lib.hid hQ2
  have HP : Hid (decQ n r = (if f then Q else zeroQ) ∧ decE n r = if f then 0 else 2) := by unfold Hid decQ decE; rw [hn, hQ, hf]; exact ⟨rfl, rfl⟩
  have HF : Hid (decide ((bo = true → r0 ≤ 15) ∧ (bw = true → r2 ≤ 32) ∧ (n = 26 → 1 ≤ r1 ∧ r1 ≤ 27)) = f) := by
    unfold Hid
    rw [← hf, hQ2]
    unfold fitsV
    rw [decide_eq_decide]
    skip
    simp only
    skip
    cases bo <;> cases ba <;> cases bw <;> cases bt <;> simp <;> omega
  have H26 := Lib.hid h26
  have k26 : (n == 26) = false := by simpa using h26
  have f0 : IntKind.i64.wrap r0 = r0 := by rw [IntKind.wrap_i64]; omega
  have f2 : IntKind.i64.wrap r2 = r2 := by rw [IntKind.wrap_i64]; omega
  have f3 : IntKind.i64.wrap r3 = r3 := by rw [IntKind.wrap_i64]; omega
  have HRR := Lib.hid hr
  have HRV : Hid (r.getD 0 0 = r0 ∧ r.getD 1 0 = r1 ∧ r.getD 2 0 = r2 ∧ r.getD 3 0 = r3) := ⟨hr0, hr1, hr2, hr3⟩
  simp only [hX]
  clear HQ hbo hba hbw hbt hp hwd h26 hQ hf hQ2 hr0 hr1 hr2 hr3 htt htb hr y0 y1 y2 y3 hn
  go_enter Tryd.func10, Tryd.ntmps10
  go_wp2_with fail
  refine CO.out.mono ?_
  rintro e w1 ⟨rfl, hb⟩
  have HX1 : Hid (w1.heap[X]? = some (.cells (RG r) 23 (0, 0))) := (hb.block X (by have := S0.out; omega)).trans HX0.out
  have HY1 : Hid (w1.heap[X + 1]? = some (.cells #[.int .i64 0, .int .i64 0, .int .u32 0, .int .i64 0, .int .i64 0] 29 (0, 0))) := (hb.block (X + 1) (by have := S0.out; omega)).trans HY0.out
  have B1 : Hid (Below X w w1) := B0.out.trans (hb.mono (by have := S0.out; omega))
  obtain ⟨Z, hZ⟩ : ∃ Z, w1.heap.size = Z := ⟨_, rfl⟩
  have HXZ : Hid (X + 1 < Z) := by have := hb.size; have := S0.out; unfold Hid; omega
  clear hb hW0 CO HX0 HY0 B0 S0
  go_upto_region 5 with fail
  obtain ⟨w3, hw3⟩ : ∃ W, (w1.alloc (.cells #[.string ⟨wd⟩, .bool bo, .bool ba, .bool bw, .bool bt, .int .i64 p] 46)).alloc (.cells #[.int .i64 n, .int .i64 0, .int .u32 0, .int .i64 0, .int .i64 0] 29) = W := ⟨_, rfl⟩
  rw [hw3]
  have b3 : Below w1.heap.size w1 w3 := by rw [← hw3]; exact ((Below.refl _ _).alloc (Nat.le_refl _) _).alloc (by simp) _
  have hx3 : w3.heap[X]? = some (.cells (RG r) 23 (0, 0)) := (b3.block X (by have := HXZ.out; omega)).trans HX1.out
  have HY : Hid (w3.heap[X + 1]? = some (.cells #[.int .i64 0, .int .i64 0, .int .u32 0, .int .i64 0, .int .i64 0] 29 (0, 0))) := (b3.block (X + 1) (by have := HXZ.out; omega)).trans HY1.out
  have HZ3 : Hid (w3.heap[Z]? = some (.cells #[.string ⟨wd⟩, .bool bo, .bool ba, .bool bw, .bool bt, .int .i64 p] 46 (0, 0))) := by
    unfold Hid; rw [← hw3, ← hZ]; exact (((Below.refl _ _).alloc (by simp) _).block (B := (w1.alloc (.cells #[.string ⟨wd⟩, .bool bo, .bool ba, .bool bw, .bool bt, .int .i64 p] 46)).heap.size) _ (by simp)).trans (heap_alloc_new _ _)
  have HQ3 : Hid (w3.heap[Z + 1]? = some (.cells #[.int .i64 n, .int .i64 0, .int .u32 0, .int .i64 0, .int .i64 0] 29 (0, 0))) := by
    unfold Hid; rw [← hw3, ← hZ]; have := heap_alloc_new (w1.alloc (.cells #[.string ⟨wd⟩, .bool bo, .bool ba, .bool bw, .bool bt, .int .i64 p] 46)) (.cells #[.int .i64 n, .int .i64 0, .int .u32 0, .int .i64 0, .int .i64 0] 29); simpa using this
  have HB3 : Hid (Below X w w3) := B1.out.trans (b3.mono (by have := HXZ.out; omega))
  have HR : Hid (w3.cell? ⟨X, 0, none⟩ = some (.int .u32 r0) ∧ w3.cell? ⟨X, 1, none⟩ = some (.int .u32 r1) ∧ w3.cell? ⟨X, 2, none⟩ = some (.int .u32 r2) ∧ w3.cell? ⟨X, 3, none⟩ = some (.int .u32 r3)) := by
    exact ⟨HRV.out.1 ▸ (reg_at hx3 HRR.out (by omega)).1, HRV.out.2.1 ▸ (reg_at hx3 HRR.out (by omega)).1, HRV.out.2.2.1 ▸ (reg_at hx3 HRR.out (by omega)).1, HRV.out.2.2.2 ▸ (reg_at hx3 HRR.out (by omega)).1⟩
  have HT : Hid (w3.cell? ⟨Z, 1, none⟩ = some (.bool bo) ∧ w3.cell? ⟨Z, 2, none⟩ = some (.bool ba) ∧ w3.cell? ⟨Z, 3, none⟩ = some (.bool bw) ∧ w3.cell? ⟨Z, 4, none⟩ = some (.bool bt)) := by
    refine ⟨?_, ?_, ?_, ?_⟩
    · rw [(row_cell HZ3.out 1).1]; rfl
    · rw [(row_cell HZ3.out 2).1]; rfl
    · rw [(row_cell HZ3.out 3).1]; rfl
    · rw [(row_cell HZ3.out 4).1]; rfl
  clear hw3 b3 hZ hx3 HX1 HY1 B1 HZ3 HRR
  obtain ⟨W0, hW0⟩ : ∃ W, W = w3 := ⟨_, rfl⟩
  have F0 : Hid (Fo (fun b => b = Z + 1) w3 W0) := by rw [hW0]; exact Fo.refl _ _
  have HQ0 : Hid (W0.heap[Z + 1]? = some (.cells #[.int .i64 n, .int .i64 0, .int .u32 0, .int .i64 0, .int .i64 0] 29 (0, 0))) := by rw [hW0]; exact HQ3.out
  rw [← hW0]
  clear hW0 HQ3
  cases bo
  · have x0 : W0.cell? ⟨X, 0, none⟩ = some (.int .u32 r0) := F0.out.cell (fun e => by have := HXZ.out; simp at e; omega) HR.out.1
    have x1 : W0.cell? ⟨X, 1, none⟩ = some (.int .u32 r1) := F0.out.cell (fun e => by have := HXZ.out; simp at e; omega) HR.out.2.1
    have x2 : W0.cell? ⟨X, 2, none⟩ = some (.int .u32 r2) := F0.out.cell (fun e => by have := HXZ.out; simp at e; omega) HR.out.2.2.1
    have x3 : W0.cell? ⟨X, 3, none⟩ = some (.int .u32 r3) := F0.out.cell (fun e => by have := HXZ.out; simp at e; omega) HR.out.2.2.2
    have t1 : W0.cell? ⟨Z, 1, none⟩ = some (.bool false) := F0.out.cell (fun e => by simp at e) HT.out.1
    have t2 : W0.cell? ⟨Z, 2, none⟩ = some (.bool ba) := F0.out.cell (fun e => by simp at e) HT.out.2.1
    have t3 : W0.cell? ⟨Z, 3, none⟩ = some (.bool bw) := F0.out.cell (fun e => by simp at e) HT.out.2.2.1
    have t4 : W0.cell? ⟨Z, 4, none⟩ = some (.bool bt) := F0.out.cell (fun e => by simp at e) HT.out.2.2.2
    go_upto_region 9 with fail
    obtain ⟨W00, hW00⟩ : ∃ W, W = W0 := ⟨_, rfl⟩
    subst hW00
    have HQ00 := HQ0
    have F00 := F0
    clear x0 x1 x2 x3 t1 t2 t3 t4
    cases ba
    · have x0 : W00.cell? ⟨X, 0, none⟩ = some (.int .u32 r0) := F00.out.cell (fun e => by have := HXZ.out; simp at e; omega) HR.out.1
      have x1 : W00.cell? ⟨X, 1, none⟩ = some (.int .u32 r1) := F00.out.cell (fun e => by have := HXZ.out; simp at e; omega) HR.out.2.1
      have x2 : W00.cell? ⟨X, 2, none⟩ = some (.int .u32 r2) := F00.out.cell (fun e => by have := HXZ.out; simp at e; omega) HR.out.2.2.1
      have x3 : W00.cell? ⟨X, 3, none⟩ = some (.int .u32 r3) := F00.out.cell (fun e => by have := HXZ.out; simp at e; omega) HR.out.2.2.2
      have t1 : W00.cell? ⟨Z, 1, none⟩ = some (.bool false) := F00.out.cell (fun e => by simp at e) HT.out.1
      have t2 : W00.cell? ⟨Z, 2, none⟩ = some (.bool false) := F00.out.cell (fun e => by simp at e) HT.out.2.1
      have t3 : W00.cell? ⟨Z, 3, none⟩ = some (.bool bw) := F00.out.cell (fun e => by simp at e) HT.out.2.2.1
      have t4 : W00.cell? ⟨Z, 4, none⟩ = some (.bool bt) := F00.out.cell (fun e => by simp at e) HT.out.2.2.2
      go_upto_region 11 with fail
      obtain ⟨W000, hW000⟩ : ∃ W, W = W00 := ⟨_, rfl⟩
      subst hW000
      have HQ000 := HQ00
      have F000 := F00
      clear x0 x1 x2 x3 t1 t2 t3 t4
      cases bw
      · have x0 : W000.cell? ⟨X, 0, none⟩ = some (.int .u32 r0) := F000.out.cell (fun e => by have := HXZ.out; simp at e; omega) HR.out.1
        have x1 : W000.cell? ⟨X, 1, none⟩ = some (.int .u32 r1) := F000.out.cell (fun e => by have := HXZ.out; simp at e; omega) HR.out.2.1
        have x2 : W000.cell? ⟨X, 2, none⟩ = some (.int .u32 r2) := F000.out.cell (fun e => by have := HXZ.out; simp at e; omega) HR.out.2.2.1
        have x3 : W000.cell? ⟨X, 3, none⟩ = some (.int .u32 r3) := F000.out.cell (fun e => by have := HXZ.out; simp at e; omega) HR.out.2.2.2
        have t1 : W000.cell? ⟨Z, 1, none⟩ = some (.bool false) := F000.out.cell (fun e => by simp at e) HT.out.1
        have t2 : W000.cell? ⟨Z, 2, none⟩ = some (.bool false) := F000.out.cell (fun e => by simp at e) HT.out.2.1
        have t3 : W000.cell? ⟨Z, 3, none⟩ = some (.bool false) := F000.out.cell (fun e => by simp at e) HT.out.2.2.1
        have t4 : W000.cell? ⟨Z, 4, none⟩ = some (.bool bt) := F000.out.cell (fun e => by simp at e) HT.out.2.2.2
        go_upto_region 15 with fail
        obtain ⟨W0000, hW0000⟩ : ∃ W, W = W000 := ⟨_, rfl⟩
        subst hW0000
        have HQ0000 := HQ000
        have F0000 := F000
        clear x0 x1 x2 x3 t1 t2 t3 t4
        cases bt
        · have x0 : W0000.cell? ⟨X, 0, none⟩ = some (.int .u32 r0) := F0000.out.cell (fun e => by have := HXZ.out; simp at e; omega) HR.out.1
          have x1 : W0000.cell? ⟨X, 1, none⟩ = some (.int .u32 r1) := F0000.out.cell (fun e => by have := HXZ.out; simp at e; omega) HR.out.2.1
          have x2 : W0000.cell? ⟨X, 2, none⟩ = some (.int .u32 r2) := F0000.out.cell (fun e => by have := HXZ.out; simp at e; omega) HR.out.2.2.1
          have x3 : W0000.cell? ⟨X, 3, none⟩ = some (.int .u32 r3) := F0000.out.cell (fun e => by have := HXZ.out; simp at e; omega) HR.out.2.2.2
          have t1 : W0000.cell? ⟨Z, 1, none⟩ = some (.bool false) := F0000.out.cell (fun e => by simp at e) HT.out.1
          have t2 : W0000.cell? ⟨Z, 2, none⟩ = some (.bool false) := F0000.out.cell (fun e => by simp at e) HT.out.2.1
          have t3 : W0000.cell? ⟨Z, 3, none⟩ = some (.bool false) := F0000.out.cell (fun e => by simp at e) HT.out.2.2.1
          have t4 : W0000.cell? ⟨Z, 4, none⟩ = some (.bool false) := F0000.out.cell (fun e => by simp at e) HT.out.2.2.2
          go_upto_region 19 with fail
          obtain ⟨W00000, hW00000⟩ : ∃ W, W = W0000 := ⟨_, rfl⟩
          subst hW00000
          have HQ00000 := HQ0000
          have F00000 := F0000
          clear x0 x1 x2 x3 t1 t2 t3 t4
          have HY00000 : Hid (W00000.heap[X + 1]? = some (.cells #[.int .i64 0, .int .i64 0, .int .u32 0, .int .i64 0, .int .i64 0] 29 (0, 0))) := (F00000.out.block (X + 1) (Array.getElem?_eq_some_iff.1 HY.out).1 (by have := HXZ.out; omega)).trans HY.out
          have BB00000 : Hid (Below X w W00000) := HB3.out.trans (F00000.out.below (fun b hb => by have := HXZ.out; omega) (by have := (Array.getElem?_eq_some_iff.1 HY.out).1; omega))
          have y0 : W00000.cell? ⟨X + 1, 0, none⟩ = some (.int .i64 0) := by rw [(row_cell HY00000.out 0).1]; rfl
          have yz0 : W00000.frozen? ⟨X + 1, 0, none⟩ = false := (row_cell HY00000.out 0).2
          have y1 : W00000.cell? ⟨X + 1, 1, none⟩ = some (.int .i64 0) := by rw [(row_cell HY00000.out 1).1]; rfl
          have yz1 : W00000.frozen? ⟨X + 1, 1, none⟩ = false := (row_cell HY00000.out 1).2
          have y2 : W00000.cell? ⟨X + 1, 2, none⟩ = some (.int .u32 0) := by rw [(row_cell HY00000.out 2).1]; rfl
          have yz2 : W00000.frozen? ⟨X + 1, 2, none⟩ = false := (row_cell HY00000.out 2).2
          have y3 : W00000.cell? ⟨X + 1, 3, none⟩ = some (.int .i64 0) := by rw [(row_cell HY00000.out 3).1]; rfl
          have yz3 : W00000.frozen? ⟨X + 1, 3, none⟩ = false := (row_cell HY00000.out 3).2
          have y4 : W00000.cell? ⟨X + 1, 4, none⟩ = some (.int .i64 0) := by rw [(row_cell HY00000.out 4).1]; rfl
          have yz4 : W00000.frozen? ⟨X + 1, 4, none⟩ = false := (row_cell HY00000.out 4).2
          have z0 : W00000.cell? ⟨Z + 1, 0, none⟩ = some (.int .i64 n) := by rw [(row_cell HQ00000.out 0).1]; rfl
          have z1 : W00000.cell? ⟨Z + 1, 1, none⟩ = some (.int .i64 0) := by rw [(row_cell HQ00000.out 1).1]; rfl
          have z2 : W00000.cell? ⟨Z + 1, 2, none⟩ = some (.int .u32 0) := by rw [(row_cell HQ00000.out 2).1]; rfl
          have z3 : W00000.cell? ⟨Z + 1, 3, none⟩ = some (.int .i64 0) := by rw [(row_cell HQ00000.out 3).1]; rfl
          have z4 : W00000.cell? ⟨Z + 1, 4, none⟩ = some (.int .i64 0) := by rw [(row_cell HQ00000.out 4).1]; rfl
          go_wp2_with fail
          refine bodyPost_ret (results_cell_tmp rfl _ _ (X + 1) _ _ rfl (set_five HY00000.out _ _ _ _ _) Tryd.underlying29 rfl (by kernel_rfl)) rfl ?_
          have hf : f = true := by rw [← HF.out]; exact decide_eq_true (⟨(fun h => by cases h), (fun h => by cases h), fun h => absurd h H26.out⟩)
          exact ⟨by rw [HP.out.1, HP.out.2, hf, HOW.out]; rfl, (((((BB00000.out).setCell (by exact Nat.le_succ _) _).setCell (by exact Nat.le_succ _) _).setCell (by exact Nat.le_succ _) _).setCell (by exact Nat.le_succ _) _).setCell (by exact Nat.le_succ _) _⟩
        · have x0 : W0000.cell? ⟨X, 0, none⟩ = some (.int .u32 r0) := F0000.out.cell (fun e => by have := HXZ.out; simp at e; omega) HR.out.1
          have x1 : W0000.cell? ⟨X, 1, none⟩ = some (.int .u32 r1) := F0000.out.cell (fun e => by have := HXZ.out; simp at e; omega) HR.out.2.1
          have x2 : W0000.cell? ⟨X, 2, none⟩ = some (.int .u32 r2) := F0000.out.cell (fun e => by have := HXZ.out; simp at e; omega) HR.out.2.2.1
          have x3 : W0000.cell? ⟨X, 3, none⟩ = some (.int .u32 r3) := F0000.out.cell (fun e => by have := HXZ.out; simp at e; omega) HR.out.2.2.2
          have t1 : W0000.cell? ⟨Z, 1, none⟩ = some (.bool false) := F0000.out.cell (fun e => by simp at e) HT.out.1
          have t2 : W0000.cell? ⟨Z, 2, none⟩ = some (.bool false) := F0000.out.cell (fun e => by simp at e) HT.out.2.1
          have t3 : W0000.cell? ⟨Z, 3, none⟩ = some (.bool false) := F0000.out.cell (fun e => by simp at e) HT.out.2.2.1
          have t4 : W0000.cell? ⟨Z, 4, none⟩ = some (.bool true) := F0000.out.cell (fun e => by simp at e) HT.out.2.2.2
          have z0 : W0000.cell? ⟨Z + 1, 0, none⟩ = some (.int .i64 n) := by rw [(row_cell HQ0000.out 0).1]; rfl
          have zz0 : W0000.frozen? ⟨Z + 1, 0, none⟩ = false := (row_cell HQ0000.out 0).2
          have z1 : W0000.cell? ⟨Z + 1, 1, none⟩ = some (.int .i64 0) := by rw [(row_cell HQ0000.out 1).1]; rfl
          have zz1 : W0000.frozen? ⟨Z + 1, 1, none⟩ = false := (row_cell HQ0000.out 1).2
          have z2 : W0000.cell? ⟨Z + 1, 2, none⟩ = some (.int .u32 0) := by rw [(row_cell HQ0000.out 2).1]; rfl
          have zz2 : W0000.frozen? ⟨Z + 1, 2, none⟩ = false := (row_cell HQ0000.out 2).2
          have z3 : W0000.cell? ⟨Z + 1, 3, none⟩ = some (.int .i64 0) := by rw [(row_cell HQ0000.out 3).1]; rfl
          have zz3 : W0000.frozen? ⟨Z + 1, 3, none⟩ = false := (row_cell HQ0000.out 3).2
          have z4 : W0000.cell? ⟨Z + 1, 4, none⟩ = some (.int .i64 0) := by rw [(row_cell HQ0000.out 4).1]; rfl
          have zz4 : W0000.frozen? ⟨Z + 1, 4, none⟩ = false := (row_cell HQ0000.out 4).2
          by_cases g3 : r3 = 4294967295
          · have k3 : (r3 == 4294967295) = true := by simpa using g3
            have e9 : tt = -1 := by rw [← HTT.out, g3]; rfl
            subst e9
            have G3 := Lib.hid g3
            subst g3
            go_upto_region 19 with fail
            obtain ⟨W00001, hW00001⟩ : ∃ W, (W0000.setCell ⟨Z + 1, 4, none⟩ (.int .i64 4294967295)).setCell ⟨Z + 1, 4, none⟩ (.int .i64 (-1)) = W := ⟨_, rfl⟩
            rw [hW00001]
            have HQ00001 : Hid (W00001.heap[Z + 1]? = some (.cells #[.int .i64 n, .int .i64 0, .int .u32 0, .int .i64 0, .int .i64 (-1)] 29 (0, 0))) := by unfold Hid; rw [← hW00001]; exact set_at (set_at HQ0000.out 4 _) 4 _
            have F00001 : Hid (Fo (fun b => b = Z + 1) w3 W00001) := by unfold Hid; rw [← hW00001]; exact (F0000.out.setCell (.inl rfl) 4 _).setCell (.inl rfl) 4 _
            clear hW00001 x0 x1 x2 x3 t1 t2 t3 t4 z0 zz0 z1 zz1 z2 zz2 z3 zz3 z4 zz4
            have HY00001 : Hid (W00001.heap[X + 1]? = some (.cells #[.int .i64 0, .int .i64 0, .int .u32 0, .int .i64 0, .int .i64 0] 29 (0, 0))) := (F00001.out.block (X + 1) (Array.getElem?_eq_some_iff.1 HY.out).1 (by have := HXZ.out; omega)).trans HY.out
            have BB00001 : Hid (Below X w W00001) := HB3.out.trans (F00001.out.below (fun b hb => by have := HXZ.out; omega) (by have := (Array.getElem?_eq_some_iff.1 HY.out).1; omega))
            have y0 : W00001.cell? ⟨X + 1, 0, none⟩ = some (.int .i64 0) := by rw [(row_cell HY00001.out 0).1]; rfl
            have yz0 : W00001.frozen? ⟨X + 1, 0, none⟩ = false := (row_cell HY00001.out 0).2
            have y1 : W00001.cell? ⟨X + 1, 1, none⟩ = some (.int .i64 0) := by rw [(row_cell HY00001.out 1).1]; rfl
            have yz1 : W00001.frozen? ⟨X + 1, 1, none⟩ = false := (row_cell HY00001.out 1).2
            have y2 : W00001.cell? ⟨X + 1, 2, none⟩ = some (.int .u32 0) := by rw [(row_cell HY00001.out 2).1]; rfl
            have yz2 : W00001.frozen? ⟨X + 1, 2, none⟩ = false := (row_cell HY00001.out 2).2
            have y3 : W00001.cell? ⟨X + 1, 3, none⟩ = some (.int .i64 0) := by rw [(row_cell HY00001.out 3).1]; rfl
            have yz3 : W00001.frozen? ⟨X + 1, 3, none⟩ = false := (row_cell HY00001.out 3).2
            have y4 : W00001.cell? ⟨X + 1, 4, none⟩ = some (.int .i64 0) := by rw [(row_cell HY00001.out 4).1]; rfl
            have yz4 : W00001.frozen? ⟨X + 1, 4, none⟩ = false := (row_cell HY00001.out 4).2
            have z0 : W00001.cell? ⟨Z + 1, 0, none⟩ = some (.int .i64 n) := by rw [(row_cell HQ00001.out 0).1]; rfl
            have z1 : W00001.cell? ⟨Z + 1, 1, none⟩ = some (.int .i64 0) := by rw [(row_cell HQ00001.out 1).1]; rfl
            have z2 : W00001.cell? ⟨Z + 1, 2, none⟩ = some (.int .u32 0) := by rw [(row_cell HQ00001.out 2).1]; rfl
            have z3 : W00001.cell? ⟨Z + 1, 3, none⟩ = some (.int .i64 0) := by rw [(row_cell HQ00001.out 3).1]; rfl
            have z4 : W00001.cell? ⟨Z + 1, 4, none⟩ = some (.int .i64 (-1)) := by rw [(row_cell HQ00001.out 4).1]; rfl
            go_wp2_with fail
            refine bodyPost_ret (results_cell_tmp rfl _ _ (X + 1) _ _ rfl (set_five HY00001.out _ _ _ _ _) Tryd.underlying29 rfl (by kernel_rfl)) rfl ?_
            have hf : f = true := by rw [← HF.out]; exact decide_eq_true (⟨(fun h => by cases h), (fun h => by cases h), fun h => absurd h H26.out⟩)
            exact ⟨by rw [HP.out.1, HP.out.2, hf, HOW.out]; rfl, (((((BB00001.out).setCell (by exact Nat.le_succ _) _).setCell (by exact Nat.le_succ _) _).setCell (by exact Nat.le_succ _) _).setCell (by exact Nat.le_succ _) _).setCell (by exact Nat.le_succ _) _⟩
          have k3 : (r3 == 4294967295) = false := by simpa using g3
          have e9 : r3 = tt := by rw [← HTT.out]; unfold tickV; rw [if_neg g3]
          subst e9
          go_upto_region 19 with fail
          obtain ⟨W00002, hW00002⟩ : ∃ W, W0000.setCell ⟨Z + 1, 4, none⟩ (.int .i64 r3) = W := ⟨_, rfl⟩
          rw [hW00002]
          have HQ00002 : Hid (W00002.heap[Z + 1]? = some (.cells #[.int .i64 n, .int .i64 0, .int .u32 0, .int .i64 0, .int .i64 r3] 29 (0, 0))) := by unfold Hid; rw [← hW00002]; exact set_at HQ0000.out 4 _
          have F00002 : Hid (Fo (fun b => b = Z + 1) w3 W00002) := by unfold Hid; rw [← hW00002]; exact F0000.out.setCell (.inl rfl) 4 _
          clear hW00002 x0 x1 x2 x3 t1 t2 t3 t4 z0 zz0 z1 zz1 z2 zz2 z3 zz3 z4 zz4
          have HY00002 : Hid (W00002.heap[X + 1]? = some (.cells #[.int .i64 0, .int .i64 0, .int .u32 0, .int .i64 0, .int .i64 0] 29 (0, 0))) := (F00002.out.block (X + 1) (Array.getElem?_eq_some_iff.1 HY.out).1 (by have := HXZ.out; omega)).trans HY.out
          have BB00002 : Hid (Below X w W00002) := HB3.out.trans (F00002.out.below (fun b hb => by have := HXZ.out; omega) (by have := (Array.getElem?_eq_some_iff.1 HY.out).1; omega))
          have y0 : W00002.cell? ⟨X + 1, 0, none⟩ = some (.int .i64 0) := by rw [(row_cell HY00002.out 0).1]; rfl
          have yz0 : W00002.frozen? ⟨X + 1, 0, none⟩ = false := (row_cell HY00002.out 0).2
          have y1 : W00002.cell? ⟨X + 1, 1, none⟩ = some (.int .i64 0) := by rw [(row_cell HY00002.out 1).1]; rfl
          have yz1 : W00002.frozen? ⟨X + 1, 1, none⟩ = false := (row_cell HY00002.out 1).2
          have y2 : W00002.cell? ⟨X + 1, 2, none⟩ = some (.int .u32 0) := by rw [(row_cell HY00002.out 2).1]; rfl
          have yz2 : W00002.frozen? ⟨X + 1, 2, none⟩ = false := (row_cell HY00002.out 2).2
          have y3 : W00002.cell? ⟨X + 1, 3, none⟩ = some (.int .i64 0) := by rw [(row_cell HY00002.out 3).1]; rfl
          have yz3 : W00002.frozen? ⟨X + 1, 3, none⟩ = false := (row_cell HY00002.out 3).2
          have y4 : W00002.cell? ⟨X + 1, 4, none⟩ = some (.int .i64 0) := by rw [(row_cell HY00002.out 4).1]; rfl
          have yz4 : W00002.frozen? ⟨X + 1, 4, none⟩ = false := (row_cell HY00002.out 4).2
          have z0 : W00002.cell? ⟨Z + 1, 0, none⟩ = some (.int .i64 n) := by rw [(row_cell HQ00002.out 0).1]; rfl
          have z1 : W00002.cell? ⟨Z + 1, 1, none⟩ = some (.int .i64 0) := by rw [(row_cell HQ00002.out 1).1]; rfl
          have z2 : W00002.cell? ⟨Z + 1, 2, none⟩ = some (.int .u32 0) := by rw [(row_cell HQ00002.out 2).1]; rfl
          have z3 : W00002.cell? ⟨Z + 1, 3, none⟩ = some (.int .i64 0) := by rw [(row_cell HQ00002.out 3).1]; rfl
          have z4 : W00002.cell? ⟨Z + 1, 4, none⟩ = some (.int .i64 r3) := by rw [(row_cell HQ00002.out 4).1]; rfl
          go_wp2_with fail
          refine bodyPost_ret (results_cell_tmp rfl _ _ (X + 1) _ _ rfl (set_five HY00002.out _ _ _ _ _) Tryd.underlying29 rfl (by kernel_rfl)) rfl ?_
          have hf : f = true := by rw [← HF.out]; exact decide_eq_true (⟨(fun h => by cases h), (fun h => by cases h), fun h => absurd h H26.out⟩)
          exact ⟨by rw [HP.out.1, HP.out.2, hf, HOW.out]; rfl, (((((BB00002.out).setCell (by exact Nat.le_succ _) _).setCell (by exact Nat.le_succ _) _).setCell (by exact Nat.le_succ _) _).setCell (by exact Nat.le_succ _) _).setCell (by exact Nat.le_succ _) _⟩
      · have x0 : W000.cell? ⟨X, 0, none⟩ = some (.int .u32 r0) := F000.out.cell (fun e => by have := HXZ.out; simp at e; omega) HR.out.1
        have x1 : W000.cell? ⟨X, 1, none⟩ = some (.int .u32 r1) := F000.out.cell (fun e => by have := HXZ.out; simp at e; omega) HR.out.2.1
        have x2 : W000.cell? ⟨X, 2, none⟩ = some (.int .u32 r2) := F000.out.cell (fun e => by have := HXZ.out; simp at e; omega) HR.out.2.2.1
        have x3 : W000.cell? ⟨X, 3, none⟩ = some (.int .u32 r3) := F000.out.cell (fun e => by have := HXZ.out; simp at e; omega) HR.out.2.2.2
        have t1 : W000.cell? ⟨Z, 1, none⟩ = some (.bool false) := F000.out.cell (fun e => by simp at e) HT.out.1
        have t2 : W000.cell? ⟨Z, 2, none⟩ = some (.bool false) := F000.out.cell (fun e => by simp at e) HT.out.2.1
        have t3 : W000.cell? ⟨Z, 3, none⟩ = some (.bool true) := F000.out.cell (fun e => by simp at e) HT.out.2.2.1
        have t4 : W000.cell? ⟨Z, 4, none⟩ = some (.bool bt) := F000.out.cell (fun e => by simp at e) HT.out.2.2.2
        by_cases g2 : 32 < r2
        · have k2 : decide (32 < r2) = true := by simp only [g2, decide_true]
          have HY000 : Hid (W000.heap[X + 1]? = some (.cells #[.int .i64 0, .int .i64 0, .int .u32 0, .int .i64 0, .int .i64 0] 29 (0, 0))) := (F000.out.block (X + 1) (Array.getElem?_eq_some_iff.1 HY.out).1 (by have := HXZ.out; omega)).trans HY.out
          have BB000 : Hid (Below X w W000) := HB3.out.trans (F000.out.below (fun b hb => by have := HXZ.out; omega) (by have := (Array.getElem?_eq_some_iff.1 HY.out).1; omega))
          have y0 : W000.cell? ⟨X + 1, 0, none⟩ = some (.int .i64 0) := by rw [(row_cell HY000.out 0).1]; rfl
          have yz0 : W000.frozen? ⟨X + 1, 0, none⟩ = false := (row_cell HY000.out 0).2
          have y1 : W000.cell? ⟨X + 1, 1, none⟩ = some (.int .i64 0) := by rw [(row_cell HY000.out 1).1]; rfl
          have yz1 : W000.frozen? ⟨X + 1, 1, none⟩ = false := (row_cell HY000.out 1).2
          have y2 : W000.cell? ⟨X + 1, 2, none⟩ = some (.int .u32 0) := by rw [(row_cell HY000.out 2).1]; rfl
          have yz2 : W000.frozen? ⟨X + 1, 2, none⟩ = false := (row_cell HY000.out 2).2
          have y3 : W000.cell? ⟨X + 1, 3, none⟩ = some (.int .i64 0) := by rw [(row_cell HY000.out 3).1]; rfl
          have yz3 : W000.frozen? ⟨X + 1, 3, none⟩ = false := (row_cell HY000.out 3).2
          have y4 : W000.cell? ⟨X + 1, 4, none⟩ = some (.int .i64 0) := by rw [(row_cell HY000.out 4).1]; rfl
          have yz4 : W000.frozen? ⟨X + 1, 4, none⟩ = false := (row_cell HY000.out 4).2
          go_wp2_with fail
          refine bodyPost_ret (results_cell_tmp rfl _ _ (X + 1) _ _ rfl (set_five HY000.out _ _ _ _ _) Tryd.underlying29 rfl (by kernel_rfl)) rfl ?_
          have hf : f = false := by rw [← HF.out]; exact decide_eq_false (fun h => by have := h.2.1 (by simp); omega)
          exact ⟨by rw [HP.out.1, HP.out.2, hf]; rfl, (((((BB000.out).setCell (by exact Nat.le_succ _) _).setCell (by exact Nat.le_succ _) _).setCell (by exact Nat.le_succ _) _).setCell (by exact Nat.le_succ _) _).setCell (by exact Nat.le_succ _) _⟩
        have k2 : decide (32 < r2) = false := by simp only [g2, decide_false]
        have z0 : W000.cell? ⟨Z + 1, 0, none⟩ = some (.int .i64 n) := by rw [(row_cell HQ000.out 0).1]; rfl
        have zz0 : W000.frozen? ⟨Z + 1, 0, none⟩ = false := (row_cell HQ000.out 0).2
        have z1 : W000.cell? ⟨Z + 1, 1, none⟩ = some (.int .i64 0) := by rw [(row_cell HQ000.out 1).1]; rfl
        have zz1 : W000.frozen? ⟨Z + 1, 1, none⟩ = false := (row_cell HQ000.out 1).2
        have z2 : W000.cell? ⟨Z + 1, 2, none⟩ = some (.int .u32 0) := by rw [(row_cell HQ000.out 2).1]; rfl
        have zz2 : W000.frozen? ⟨Z + 1, 2, none⟩ = false := (row_cell HQ000.out 2).2
        have z3 : W000.cell? ⟨Z + 1, 3, none⟩ = some (.int .i64 0) := by rw [(row_cell HQ000.out 3).1]; rfl
        have zz3 : W000.frozen? ⟨Z + 1, 3, none⟩ = false := (row_cell HQ000.out 3).2
        have z4 : W000.cell? ⟨Z + 1, 4, none⟩ = some (.int .i64 0) := by rw [(row_cell HQ000.out 4).1]; rfl
        have zz4 : W000.frozen? ⟨Z + 1, 4, none⟩ = false := (row_cell HQ000.out 4).2
        go_upto_region 15 with fail
        obtain ⟨W0001, hW0001⟩ : ∃ W, W000.setCell ⟨Z + 1, 3, none⟩ (.int .i64 r2) = W := ⟨_, rfl⟩
        rw [hW0001]
        have HQ0001 : Hid (W0001.heap[Z + 1]? = some (.cells #[.int .i64 n, .int .i64 0, .int .u32 0, .int .i64 r2, .int .i64 0] 29 (0, 0))) := by unfold Hid; rw [← hW0001]; exact set_at HQ000.out 3 _
        have F0001 : Hid (Fo (fun b => b = Z + 1) w3 W0001) := by unfold Hid; rw [← hW0001]; exact F000.out.setCell (.inl rfl) 3 _
        clear hW0001 x0 x1 x2 x3 t1 t2 t3 t4 z0 zz0 z1 zz1 z2 zz2 z3 zz3 z4 zz4
        cases bt
        · have x0 : W0001.cell? ⟨X, 0, none⟩ = some (.int .u32 r0) := F0001.out.cell (fun e => by have := HXZ.out; simp at e; omega) HR.out.1
          have x1 : W0001.cell? ⟨X, 1, none⟩ = some (.int .u32 r1) := F0001.out.cell (fun e => by have := HXZ.out; simp at e; omega) HR.out.2.1
          have x2 : W0001.cell? ⟨X, 2, none⟩ = some (.int .u32 r2) := F0001.out.cell (fun e => by have := HXZ.out; simp at e; omega) HR.out.2.2.1
          have x3 : W0001.cell? ⟨X, 3, none⟩ = some (.int .u32 r3) := F0001.out.cell (fun e => by have := HXZ.out; simp at e; omega) HR.out.2.2.2
          have t1 : W0001.cell? ⟨Z, 1, none⟩ = some (.bool false) := F0001.out.cell (fun e => by simp at e) HT.out.1
          have t2 : W0001.cell? ⟨Z, 2, none⟩ = some (.bool false) := F0001.out.cell (fun e => by simp at e) HT.out.2.1
          have t3 : W0001.cell? ⟨Z, 3, none⟩ = some (.bool true) := F0001.out.cell (fun e => by simp at e) HT.out.2.2.1
          have t4 : W0001.cell? ⟨Z, 4, none⟩ = some (.bool false) := F0001.out.cell (fun e => by simp at e) HT.out.2.2.2
          go_upto_region 19 with fail
          obtain ⟨W00010, hW00010⟩ : ∃ W, W = W0001 := ⟨_, rfl⟩
          subst hW00010
          have HQ00010 := HQ0001
          have F00010 := F0001
          clear x0 x1 x2 x3 t1 t2 t3 t4
          have HY00010 : Hid (W00010.heap[X + 1]? = some (.cells #[.int .i64 0, .int .i64 0, .int .u32 0, .int .i64 0, .int .i64 0] 29 (0, 0))) := (F00010.out.block (X + 1) (Array.getElem?_eq_some_iff.1 HY.out).1 (by have := HXZ.out; omega)).trans HY.out
          have BB00010 : Hid (Below X w W00010) := HB3.out.trans (F00010.out.below (fun b hb => by have := HXZ.out; omega) (by have := (Array.getElem?_eq_some_iff.1 HY.out).1; omega))
          have y0 : W00010.cell? ⟨X + 1, 0, none⟩ = some (.int .i64 0) := by rw [(row_cell HY00010.out 0).1]; rfl
          have yz0 : W00010.frozen? ⟨X + 1, 0, none⟩ = false := (row_cell HY00010.out 0).2
          have y1 : W00010.cell? ⟨X + 1, 1, none⟩ = some (.int .i64 0) := by rw [(row_cell HY00010.out 1).1]; rfl
          have yz1 : W00010.frozen? ⟨X + 1, 1, none⟩ = false := (row_cell HY00010.out 1).2
          have y2 : W00010.cell? ⟨X + 1, 2, none⟩ = some (.int .u32 0) := by rw [(row_cell HY00010.out 2).1]; rfl
          have yz2 : W00010.frozen? ⟨X + 1, 2, none⟩ = false := (row_cell HY00010.out 2).2
          have y3 : W00010.cell? ⟨X + 1, 3, none⟩ = some (.int .i64 0) := by rw [(row_cell HY00010.out 3).1]; rfl
          have yz3 : W00010.frozen? ⟨X + 1, 3, none⟩ = false := (row_cell HY00010.out 3).2
          have y4 : W00010.cell? ⟨X + 1, 4, none⟩ = some (.int .i64 0) := by rw [(row_cell HY00010.out 4).1]; rfl
          have yz4 : W00010.frozen? ⟨X + 1, 4, none⟩ = false := (row_cell HY00010.out 4).2
          have z0 : W00010.cell? ⟨Z + 1, 0, none⟩ = some (.int .i64 n) := by rw [(row_cell HQ00010.out 0).1]; rfl
          have z1 : W00010.cell? ⟨Z + 1, 1, none⟩ = some (.int .i64 0) := by rw [(row_cell HQ00010.out 1).1]; rfl
          have z2 : W00010.cell? ⟨Z + 1, 2, none⟩ = some (.int .u32 0) := by rw [(row_cell HQ00010.out 2).1]; rfl
          have z3 : W00010.cell? ⟨Z + 1, 3, none⟩ = some (.int .i64 r2) := by rw [(row_cell HQ00010.out 3).1]; rfl
          have z4 : W00010.cell? ⟨Z + 1, 4, none⟩ = some (.int .i64 0) := by rw [(row_cell HQ00010.out 4).1]; rfl
          go_wp2_with fail
          refine bodyPost_ret (results_cell_tmp rfl _ _ (X + 1) _ _ rfl (set_five HY00010.out _ _ _ _ _) Tryd.underlying29 rfl (by kernel_rfl)) rfl ?_
          have hf : f = true := by rw [← HF.out]; exact decide_eq_true (⟨(fun h => by cases h), (fun _ => by omega), fun h => absurd h H26.out⟩)
          exact ⟨by rw [HP.out.1, HP.out.2, hf, HOW.out]; rfl, (((((BB00010.out).setCell (by exact Nat.le_succ _) _).setCell (by exact Nat.le_succ _) _).setCell (by exact Nat.le_succ _) _).setCell (by exact Nat.le_succ _) _).setCell (by exact Nat.le_succ _) _⟩
        · have x0 : W0001.cell? ⟨X, 0, none⟩ = some (.int .u32 r0) := F0001.out.cell (fun e => by have := HXZ.out; simp at e; omega) HR.out.1
          have x1 : W0001.cell? ⟨X, 1, none⟩ = some (.int .u32 r1) := F0001.out.cell (fun e => by have := HXZ.out; simp at e; omega) HR.out.2.1
          have x2 : W0001.cell? ⟨X, 2, none⟩ = some (.int .u32 r2) := F0001.out.cell (fun e => by have := HXZ.out; simp at e; omega) HR.out.2.2.1
          have x3 : W0001.cell? ⟨X, 3, none⟩ = some (.int .u32 r3) := F0001.out.cell (fun e => by have := HXZ.out; simp at e; omega) HR.out.2.2.2
          have t1 : W0001.cell? ⟨Z, 1, none⟩ = some (.bool false) := F0001.out.cell (fun e => by simp at e) HT.out.1
          have t2 : W0001.cell? ⟨Z, 2, none⟩ = some (.bool false) := F0001.out.cell (fun e => by simp at e) HT.out.2.1
          have t3 : W0001.cell? ⟨Z, 3, none⟩ = some (.bool true) := F0001.out.cell (fun e => by simp at e) HT.out.2.2.1
          have t4 : W0001.cell? ⟨Z, 4, none⟩ = some (.bool true) := F0001.out.cell (fun e => by simp at e) HT.out.2.2.2
          have z0 : W0001.cell? ⟨Z + 1, 0, none⟩ = some (.int .i64 n) := by rw [(row_cell HQ0001.out 0).1]; rfl
          have zz0 : W0001.frozen? ⟨Z + 1, 0, none⟩ = false := (row_cell HQ0001.out 0).2
          have z1 : W0001.cell? ⟨Z + 1, 1, none⟩ = some (.int .i64 0) := by rw [(row_cell HQ0001.out 1).1]; rfl
          have zz1 : W0001.frozen? ⟨Z + 1, 1, none⟩ = false := (row_cell HQ0001.out 1).2
          have z2 : W0001.cell? ⟨Z + 1, 2, none⟩ = some (.int .u32 0) := by rw [(row_cell HQ0001.out 2).1]; rfl
          have zz2 : W0001.frozen? ⟨Z + 1, 2, none⟩ = false := (row_cell HQ0001.out 2).2
          have z3 : W0001.cell? ⟨Z + 1, 3, none⟩ = some (.int .i64 r2) := by rw [(row_cell HQ0001.out 3).1]; rfl
          have zz3 : W0001.frozen? ⟨Z + 1, 3, none⟩ = false := (row_cell HQ0001.out 3).2
          have z4 : W0001.cell? ⟨Z + 1, 4, none⟩ = some (.int .i64 0) := by rw [(row_cell HQ0001.out 4).1]; rfl
          have zz4 : W0001.frozen? ⟨Z + 1, 4, none⟩ = false := (row_cell HQ0001.out 4).2
          by_cases g3 : r3 = 4294967295
          · have k3 : (r3 == 4294967295) = true := by simpa using g3
            have e9 : tt = -1 := by rw [← HTT.out, g3]; rfl
            subst e9
            have G3 := Lib.hid g3
            subst g3
            go_upto_region 19 with fail
            obtain ⟨W00011, hW00011⟩ : ∃ W, (W0001.setCell ⟨Z + 1, 4, none⟩ (.int .i64 4294967295)).setCell ⟨Z + 1, 4, none⟩ (.int .i64 (-1)) = W := ⟨_, rfl⟩
            rw [hW00011]
            have HQ00011 : Hid (W00011.heap[Z + 1]? = some (.cells #[.int .i64 n, .int .i64 0, .int .u32 0, .int .i64 r2, .int .i64 (-1)] 29 (0, 0))) := by unfold Hid; rw [← hW00011]; exact set_at (set_at HQ0001.out 4 _) 4 _
            have F00011 : Hid (Fo (fun b => b = Z + 1) w3 W00011) := by unfold Hid; rw [← hW00011]; exact (F0001.out.setCell (.inl rfl) 4 _).setCell (.inl rfl) 4 _
            clear hW00011 x0 x1 x2 x3 t1 t2 t3 t4 z0 zz0 z1 zz1 z2 zz2 z3 zz3 z4 zz4
            have HY00011 : Hid (W00011.heap[X + 1]? = some (.cells #[.int .i64 0, .int .i64 0, .int .u32 0, .int .i64 0, .int .i64 0] 29 (0, 0))) := (F00011.out.block (X + 1) (Array.getElem?_eq_some_iff.1 HY.out).1 (by have := HXZ.out; omega)).trans HY.out
            have BB00011 : Hid (Below X w W00011) := HB3.out.trans (F00011.out.below (fun b hb => by have := HXZ.out; omega) (by have := (Array.getElem?_eq_some_iff.1 HY.out).1; omega))
            have y0 : W00011.cell? ⟨X + 1, 0, none⟩ = some (.int .i64 0) := by rw [(row_cell HY00011.out 0).1]; rfl
            have yz0 : W00011.frozen? ⟨X + 1, 0, none⟩ = false := (row_cell HY00011.out 0).2
            have y1 : W00011.cell? ⟨X + 1, 1, none⟩ = some (.int .i64 0) := by rw [(row_cell HY00011.out 1).1]; rfl
            have yz1 : W00011.frozen? ⟨X + 1, 1, none⟩ = false := (row_cell HY00011.out 1).2
            have y2 : W00011.cell? ⟨X + 1, 2, none⟩ = some (.int .u32 0) := by rw [(row_cell HY00011.out 2).1]; rfl
            have yz2 : W00011.frozen? ⟨X + 1, 2, none⟩ = false := (row_cell HY00011.out 2).2
            have y3 : W00011.cell? ⟨X + 1, 3, none⟩ = some (.int .i64 0) := by rw [(row_cell HY00011.out 3).1]; rfl
            have yz3 : W00011.frozen? ⟨X + 1, 3, none⟩ = false := (row_cell HY00011.out 3).2
            have y4 : W00011.cell? ⟨X + 1, 4, none⟩ = some (.int .i64 0) := by rw [(row_cell HY00011.out 4).1]; rfl
            have yz4 : W00011.frozen? ⟨X + 1, 4, none⟩ = false := (row_cell HY00011.out 4).2
            have z0 : W00011.cell? ⟨Z + 1, 0, none⟩ = some (.int .i64 n) := by rw [(row_cell HQ00011.out 0).1]; rfl
            have z1 : W00011.cell? ⟨Z + 1, 1, none⟩ = some (.int .i64 0) := by rw [(row_cell HQ00011.out 1).1]; rfl
            have z2 : W00011.cell? ⟨Z + 1, 2, none⟩ = some (.int .u32 0) := by rw [(row_cell HQ00011.out 2).1]; rfl
            have z3 : W00011.cell? ⟨Z + 1, 3, none⟩ = some (.int .i64 r2) := by rw [(row_cell HQ00011.out 3).1]; rfl
            have z4 : W00011.cell? ⟨Z + 1, 4, none⟩ = some (.int .i64 (-1)) := by rw [(row_cell HQ00011.out 4).1]; rfl
            go_wp2_with fail
            refine bodyPost_ret (results_cell_tmp rfl _ _ (X + 1) _ _ rfl (set_five HY00011.out _ _ _ _ _) Tryd.underlying29 rfl (by kernel_rfl)) rfl ?_
            have hf : f = true := by rw [← HF.out]; exact decide_eq_true (⟨(fun h => by cases h), (fun _ => by omega), fun h => absurd h H26.out⟩)
            exact ⟨by rw [HP.out.1, HP.out.2, hf, HOW.out]; rfl, (((((BB00011.out).setCell (by exact Nat.le_succ _) _).setCell (by exact Nat.le_succ _) _).setCell (by exact Nat.le_succ _) _).setCell (by exact Nat.le_succ _) _).setCell (by exact Nat.le_succ _) _⟩
          have k3 : (r3 == 4294967295) = false := by simpa using g3
          have e9 : r3 = tt := by rw [← HTT.out]; unfold tickV; rw [if_neg g3]
          subst e9
          go_upto_region 19 with fail
          obtain ⟨W00012, hW00012⟩ : ∃ W, W0001.setCell ⟨Z + 1, 4, none⟩ (.int .i64 r3) = W := ⟨_, rfl⟩
          rw [hW00012]
          have HQ00012 : Hid (W00012.heap[Z + 1]? = some (.cells #[.int .i64 n, .int .i64 0, .int .u32 0, .int .i64 r2, .int .i64 r3] 29 (0, 0))) := by unfold Hid; rw [← hW00012]; exact set_at HQ0001.out 4 _
          have F00012 : Hid (Fo (fun b => b = Z + 1) w3 W00012) := by unfold Hid; rw [← hW00012]; exact F0001.out.setCell (.inl rfl) 4 _
          clear hW00012 x0 x1 x2 x3 t1 t2 t3 t4 z0 zz0 z1 zz1 z2 zz2 z3 zz3 z4 zz4
          have HY00012 : Hid (W00012.heap[X + 1]? = some (.cells #[.int .i64 0, .int .i64 0, .int .u32 0, .int .i64 0, .int .i64 0] 29 (0, 0))) := (F00012.out.block (X + 1) (Array.getElem?_eq_some_iff.1 HY.out).1 (by have := HXZ.out; omega)).trans HY.out
          have BB00012 : Hid (Below X w W00012) := HB3.out.trans (F00012.out.below (fun b hb => by have := HXZ.out; omega) (by have := (Array.getElem?_eq_some_iff.1 HY.out).1; omega))
          have y0 : W00012.cell? ⟨X + 1, 0, none⟩ = some (.int .i64 0) := by rw [(row_cell HY00012.out 0).1]; rfl
          have yz0 : W00012.frozen? ⟨X + 1, 0, none⟩ = false := (row_cell HY00012.out 0).2
          have y1 : W00012.cell? ⟨X + 1, 1, none⟩ = some (.int .i64 0) := by rw [(row_cell HY00012.out 1).1]; rfl
          have yz1 : W00012.frozen? ⟨X + 1, 1, none⟩ = false := (row_cell HY00012.out 1).2
          have y2 : W00012.cell? ⟨X + 1, 2, none⟩ = some (.int .u32 0) := by rw [(row_cell HY00012.out 2).1]; rfl
          have yz2 : W00012.frozen? ⟨X + 1, 2, none⟩ = false := (row_cell HY00012.out 2).2
          have y3 : W00012.cell? ⟨X + 1, 3, none⟩ = some (.int .i64 0) := by rw [(row_cell HY00012.out 3).1]; rfl
          have yz3 : W00012.frozen? ⟨X + 1, 3, none⟩ = false := (row_cell HY00012.out 3).2
          have y4 : W00012.cell? ⟨X + 1, 4, none⟩ = some (.int .i64 0) := by rw [(row_cell HY00012.out 4).1]; rfl
          have yz4 : W00012.frozen? ⟨X + 1, 4, none⟩ = false := (row_cell HY00012.out 4).2
          have z0 : W00012.cell? ⟨Z + 1, 0, none⟩ = some (.int .i64 n) := by rw [(row_cell HQ00012.out 0).1]; rfl
          have z1 : W00012.cell? ⟨Z + 1, 1, none⟩ = some (.int .i64 0) := by rw [(row_cell HQ00012.out 1).1]; rfl
          have z2 : W00012.cell? ⟨Z + 1, 2, none⟩ = some (.int .u32 0) := by rw [(row_cell HQ00012.out 2).1]; rfl
          have z3 : W00012.cell? ⟨Z + 1, 3, none⟩ = some (.int .i64 r2) := by rw [(row_cell HQ00012.out 3).1]; rfl
          have z4 : W00012.cell? ⟨Z + 1, 4, none⟩ = some (.int .i64 r3) := by rw [(row_cell HQ00012.out 4).1]; rfl
          go_wp2_with fail
          refine bodyPost_ret (results_cell_tmp rfl _ _ (X + 1) _ _ rfl (set_five HY00012.out _ _ _ _ _) Tryd.underlying29 rfl (by kernel_rfl)) rfl ?_
          have hf : f = true := by rw [← HF.out]; exact decide_eq_true (⟨(fun h => by cases h), (fun _ => by omega), fun h => absurd h H26.out⟩)
          exact ⟨by rw [HP.out.1, HP.out.2, hf, HOW.out]; rfl, (((((BB00012.out).setCell (by exact Nat.le_succ _) _).setCell (by exact Nat.le_succ _) _).setCell (by exact Nat.le_succ _) _).setCell (by exact Nat.le_succ _) _).setCell (by exact Nat.le_succ _) _⟩
    · have x0 : W00.cell? ⟨X, 0, none⟩ = some (.int .u32 r0) := F00.out.cell (fun e => by have := HXZ.out; simp at e; omega) HR.out.1
      have x1 : W00.cell? ⟨X, 1, none⟩ = some (.int .u32 r1) := F00.out.cell (fun e => by have := HXZ.out; simp at e; omega) HR.out.2.1
      have x2 : W00.cell? ⟨X, 2, none⟩ = some (.int .u32 r2) := F00.out.cell (fun e => by have := HXZ.out; simp at e; omega) HR.out.2.2.1
      have x3 : W00.cell? ⟨X, 3, none⟩ = some (.int .u32 r3) := F00.out.cell (fun e => by have := HXZ.out; simp at e; omega) HR.out.2.2.2
      have t1 : W00.cell? ⟨Z, 1, none⟩ = some (.bool false) := F00.out.cell (fun e => by simp at e) HT.out.1
      have t2 : W00.cell? ⟨Z, 2, none⟩ = some (.bool true) := F00.out.cell (fun e => by simp at e) HT.out.2.1
      have t3 : W00.cell? ⟨Z, 3, none⟩ = some (.bool bw) := F00.out.cell (fun e => by simp at e) HT.out.2.2.1
      have t4 : W00.cell? ⟨Z, 4, none⟩ = some (.bool bt) := F00.out.cell (fun e => by simp at e) HT.out.2.2.2
      have z0 : W00.cell? ⟨Z + 1, 0, none⟩ = some (.int .i64 n) := by rw [(row_cell HQ00.out 0).1]; rfl
      have zz0 : W00.frozen? ⟨Z + 1, 0, none⟩ = false := (row_cell HQ00.out 0).2
      have z1 : W00.cell? ⟨Z + 1, 1, none⟩ = some (.int .i64 0) := by rw [(row_cell HQ00.out 1).1]; rfl
      have zz1 : W00.frozen? ⟨Z + 1, 1, none⟩ = false := (row_cell HQ00.out 1).2
      have z2 : W00.cell? ⟨Z + 1, 2, none⟩ = some (.int .u32 0) := by rw [(row_cell HQ00.out 2).1]; rfl
      have zz2 : W00.frozen? ⟨Z + 1, 2, none⟩ = false := (row_cell HQ00.out 2).2
      have z3 : W00.cell? ⟨Z + 1, 3, none⟩ = some (.int .i64 0) := by rw [(row_cell HQ00.out 3).1]; rfl
      have zz3 : W00.frozen? ⟨Z + 1, 3, none⟩ = false := (row_cell HQ00.out 3).2
      have z4 : W00.cell? ⟨Z + 1, 4, none⟩ = some (.int .i64 0) := by rw [(row_cell HQ00.out 4).1]; rfl
      have zz4 : W00.frozen? ⟨Z + 1, 4, none⟩ = false := (row_cell HQ00.out 4).2
      go_upto_region 11 with fail
      obtain ⟨W001, hW001⟩ : ∃ W, W00.setCell ⟨Z + 1, 2, none⟩ (.int .u32 r1) = W := ⟨_, rfl⟩
      rw [hW001]
      have HQ001 : Hid (W001.heap[Z + 1]? = some (.cells #[.int .i64 n, .int .i64 0, .int .u32 r1, .int .i64 0, .int .i64 0] 29 (0, 0))) := by unfold Hid; rw [← hW001]; exact set_at HQ00.out 2 _
      have F001 : Hid (Fo (fun b => b = Z + 1) w3 W001) := by unfold Hid; rw [← hW001]; exact F00.out.setCell (.inl rfl) 2 _
      clear hW001 x0 x1 x2 x3 t1 t2 t3 t4 z0 zz0 z1 zz1 z2 zz2 z3 zz3 z4 zz4
      cases bw
      · have x0 : W001.cell? ⟨X, 0, none⟩ = some (.int .u32 r0) := F001.out.cell (fun e => by have := HXZ.out; simp at e; omega) HR.out.1
        have x1 : W001.cell? ⟨X, 1, none⟩ = some (.int .u32 r1) := F001.out.cell (fun e => by have := HXZ.out; simp at e; omega) HR.out.2.1
        have x2 : W001.cell? ⟨X, 2, none⟩ = some (.int .u32 r2) := F001.out.cell (fun e => by have := HXZ.out; simp at e; omega) HR.out.2.2.1
        have x3 : W001.cell? ⟨X, 3, none⟩ = some (.int .u32 r3) := F001.out.cell (fun e => by have := HXZ.out; simp at e; omega) HR.out.2.2.2
        have t1 : W001.cell? ⟨Z, 1, none⟩ = some (.bool false) := F001.out.cell (fun e => by simp at e) HT.out.1
        have t2 : W001.cell? ⟨Z, 2, none⟩ = some (.bool true) := F001.out.cell (fun e => by simp at e) HT.out.2.1
        have t3 : W001.cell? ⟨Z, 3, none⟩ = some (.bool false) := F001.out.cell (fun e => by simp at e) HT.out.2.2.1
        have t4 : W001.cell? ⟨Z, 4, none⟩ = some (.bool bt) := F001.out.cell (fun e => by simp at e) HT.out.2.2.2
        go_upto_region 15 with fail
        obtain ⟨W0010, hW0010⟩ : ∃ W, W = W001 := ⟨_, rfl⟩
        subst hW0010
        have HQ0010 := HQ001
        have F0010 := F001
        clear x0 x1 x2 x3 t1 t2 t3 t4
        cases bt
        · have x0 : W0010.cell? ⟨X, 0, none⟩ = some (.int .u32 r0) := F0010.out.cell (fun e => by have := HXZ.out; simp at e; omega) HR.out.1
          have x1 : W0010.cell? ⟨X, 1, none⟩ = some (.int .u32 r1) := F0010.out.cell (fun e => by have := HXZ.out; simp at e; omega) HR.out.2.1
          have x2 : W0010.cell? ⟨X, 2, none⟩ = some (.int .u32 r2) := F0010.out.cell (fun e => by have := HXZ.out; simp at e; omega) HR.out.2.2.1
          have x3 : W0010.cell? ⟨X, 3, none⟩ = some (.int .u32 r3) := F0010.out.cell (fun e => by have := HXZ.out; simp at e; omega) HR.out.2.2.2
          have t1 : W0010.cell? ⟨Z, 1, none⟩ = some (.bool false) := F0010.out.cell (fun e => by simp at e) HT.out.1
          have t2 : W0010.cell? ⟨Z, 2, none⟩ = some (.bool true) := F0010.out.cell (fun e => by simp at e) HT.out.2.1
          have t3 : W0010.cell? ⟨Z, 3, none⟩ = some (.bool false) := F0010.out.cell (fun e => by simp at e) HT.out.2.2.1
          have t4 : W0010.cell? ⟨Z, 4, none⟩ = some (.bool false) := F0010.out.cell (fun e => by simp at e) HT.out.2.2.2
          go_upto_region 19 with fail
          obtain ⟨W00100, hW00100⟩ : ∃ W, W = W0010 := ⟨_, rfl⟩
          subst hW00100
          have HQ00100 := HQ0010
          have F00100 := F0010
          clear x0 x1 x2 x3 t1 t2 t3 t4
          have HY00100 : Hid (W00100.heap[X + 1]? = some (.cells #[.int .i64 0, .int .i64 0, .int .u32 0, .int .i64 0, .int .i64 0] 29 (0, 0))) := (F00100.out.block (X + 1) (Array.getElem?_eq_some_iff.1 HY.out).1 (by have := HXZ.out; omega)).trans HY.out
          have BB00100 : Hid (Below X w W00100) := HB3.out.trans (F00100.out.below (fun b hb => by have := HXZ.out; omega) (by have := (Array.getElem?_eq_some_iff.1 HY.out).1; omega))
          have y0 : W00100.cell? ⟨X + 1, 0, none⟩ = some (.int .i64 0) := by rw [(row_cell HY00100.out 0).1]; rfl
          have yz0 : W00100.frozen? ⟨X + 1, 0, none⟩ = false := (row_cell HY00100.out 0).2
          have y1 : W00100.cell? ⟨X + 1, 1, none⟩ = some (.int .i64 0) := by rw [(row_cell HY00100.out 1).1]; rfl
          have yz1 : W00100.frozen? ⟨X + 1, 1, none⟩ = false := (row_cell HY00100.out 1).2
          have y2 : W00100.cell? ⟨X + 1, 2, none⟩ = some (.int .u32 0) := by rw [(row_cell HY00100.out 2).1]; rfl
          have yz2 : W00100.frozen? ⟨X + 1, 2, none⟩ = false := (row_cell HY00100.out 2).2
          have y3 : W00100.cell? ⟨X + 1, 3, none⟩ = some (.int .i64 0) := by rw [(row_cell HY00100.out 3).1]; rfl
          have yz3 : W00100.frozen? ⟨X + 1, 3, none⟩ = false := (row_cell HY00100.out 3).2
          have y4 : W00100.cell? ⟨X + 1, 4, none⟩ = some (.int .i64 0) := by rw [(row_cell HY00100.out 4).1]; rfl
          have yz4 : W00100.frozen? ⟨X + 1, 4, none⟩ = false := (row_cell HY00100.out 4).2
          have z0 : W00100.cell? ⟨Z + 1, 0, none⟩ = some (.int .i64 n) := by rw [(row_cell HQ00100.out 0).1]; rfl
          have z1 : W00100.cell? ⟨Z + 1, 1, none⟩ = some (.int .i64 0) := by rw [(row_cell HQ00100.out 1).1]; rfl
          have z2 : W00100.cell? ⟨Z + 1, 2, none⟩ = some (.int .u32 r1) := by rw [(row_cell HQ00100.out 2).1]; rfl
          have z3 : W00100.cell? ⟨Z + 1, 3, none⟩ = some (.int .i64 0) := by rw [(row_cell HQ00100.out 3).1]; rfl
          have z4 : W00100.cell? ⟨Z + 1, 4, none⟩ = some (.int .i64 0) := by rw [(row_cell HQ00100.out 4).1]; rfl
          go_wp2_with fail
          refine bodyPost_ret (results_cell_tmp rfl _ _ (X + 1) _ _ rfl (set_five HY00100.out _ _ _ _ _) Tryd.underlying29 rfl (by kernel_rfl)) rfl ?_
          have hf : f = true := by rw [← HF.out]; exact decide_eq_true (⟨(fun h => by cases h), (fun h => by cases h), fun h => absurd h H26.out⟩)
          exact ⟨by rw [HP.out.1, HP.out.2, hf, HOW.out]; rfl, (((((BB00100.out).setCell (by exact Nat.le_succ _) _).setCell (by exact Nat.le_succ _) _).setCell (by exact Nat.le_succ _) _).setCell (by exact Nat.le_succ _) _).setCell (by exact Nat.le_succ _) _⟩
        · have x0 : W0010.cell? ⟨X, 0, none⟩ = some (.int .u32 r0) := F0010.out.cell (fun e => by have := HXZ.out; simp at e; omega) HR.out.1
          have x1 : W0010.cell? ⟨X, 1, none⟩ = some (.int .u32 r1) := F0010.out.cell (fun e => by have := HXZ.out; simp at e; omega) HR.out.2.1
          have x2 : W0010.cell? ⟨X, 2, none⟩ = some (.int .u32 r2) := F0010.out.cell (fun e => by have := HXZ.out; simp at e; omega) HR.out.2.2.1
          have x3 : W0010.cell? ⟨X, 3, none⟩ = some (.int .u32 r3) := F0010.out.cell (fun e => by have := HXZ.out; simp at e; omega) HR.out.2.2.2
          have t1 : W0010.cell? ⟨Z, 1, none⟩ = some (.bool false) := F0010.out.cell (fun e => by simp at e) HT.out.1
          have t2 : W0010.cell? ⟨Z, 2, none⟩ = some (.bool true) := F0010.out.cell (fun e => by simp at e) HT.out.2.1
          have t3 : W0010.cell? ⟨Z, 3, none⟩ = some (.bool false) := F0010.out.cell (fun e => by simp at e) HT.out.2.2.1
          have t4 : W0010.cell? ⟨Z, 4, none⟩ = some (.bool true) := F0010.out.cell (fun e => by simp at e) HT.out.2.2.2
          have z0 : W0010.cell? ⟨Z + 1, 0, none⟩ = some (.int .i64 n) := by rw [(row_cell HQ0010.out 0).1]; rfl
          have zz0 : W0010.frozen? ⟨Z + 1, 0, none⟩ = false := (row_cell HQ0010.out 0).2
          have z1 : W0010.cell? ⟨Z + 1, 1, none⟩ = some (.int .i64 0) := by rw [(row_cell HQ0010.out 1).1]; rfl
          have zz1 : W0010.frozen? ⟨Z + 1, 1, none⟩ = false := (row_cell HQ0010.out 1).2
          have z2 : W0010.cell? ⟨Z + 1, 2, none⟩ = some (.int .u32 r1) := by rw [(row_cell HQ0010.out 2).1]; rfl
          have zz2 : W0010.frozen? ⟨Z + 1, 2, none⟩ = false := (row_cell HQ0010.out 2).2
          have z3 : W0010.cell? ⟨Z + 1, 3, none⟩ = some (.int .i64 0) := by rw [(row_cell HQ0010.out 3).1]; rfl
          have zz3 : W0010.frozen? ⟨Z + 1, 3, none⟩ = false := (row_cell HQ0010.out 3).2
          have z4 : W0010.cell? ⟨Z + 1, 4, none⟩ = some (.int .i64 0) := by rw [(row_cell HQ0010.out 4).1]; rfl
          have zz4 : W0010.frozen? ⟨Z + 1, 4, none⟩ = false := (row_cell HQ0010.out 4).2
          by_cases g3 : r3 = 4294967295
          · have k3 : (r3 == 4294967295) = true := by simpa using g3
            have e9 : tt = -1 := by rw [← HTT.out, g3]; rfl
            subst e9
            have G3 := Lib.hid g3
            subst g3
            go_upto_region 19 with fail
            obtain ⟨W00101, hW00101⟩ : ∃ W, (W0010.setCell ⟨Z + 1, 4, none⟩ (.int .i64 4294967295)).setCell ⟨Z + 1, 4, none⟩ (.int .i64 (-1)) = W := ⟨_, rfl⟩
            rw [hW00101]
            have HQ00101 : Hid (W00101.heap[Z + 1]? = some (.cells #[.int .i64 n, .int .i64 0, .int .u32 r1, .int .i64 0, .int .i64 (-1)] 29 (0, 0))) := by unfold Hid; rw [← hW00101]; exact set_at (set_at HQ0010.out 4 _) 4 _
            have F00101 : Hid (Fo (fun b => b = Z + 1) w3 W00101) := by unfold Hid; rw [← hW00101]; exact (F0010.out.setCell (.inl rfl) 4 _).setCell (.inl rfl) 4 _
            clear hW00101 x0 x1 x2 x3 t1 t2 t3 t4 z0 zz0 z1 zz1 z2 zz2 z3 zz3 z4 zz4
            have HY00101 : Hid (W00101.heap[X + 1]? = some (.cells #[.int .i64 0, .int .i64 0, .int .u32 0, .int .i64 0, .int .i64 0] 29 (0, 0))) := (F00101.out.block (X + 1) (Array.getElem?_eq_some_iff.1 HY.out).1 (by have := HXZ.out; omega)).trans HY.out
            have BB00101 : Hid (Below X w W00101) := HB3.out.trans (F00101.out.below (fun b hb => by have := HXZ.out; omega) (by have := (Array.getElem?_eq_some_iff.1 HY.out).1; omega))
            have y0 : W00101.cell? ⟨X + 1, 0, none⟩ = some (.int .i64 0) := by rw [(row_cell HY00101.out 0).1]; rfl
            have yz0 : W00101.frozen? ⟨X + 1, 0, none⟩ = false := (row_cell HY00101.out 0).2
            have y1 : W00101.cell? ⟨X + 1, 1, none⟩ = some (.int .i64 0) := by rw [(row_cell HY00101.out 1).1]; rfl
            have yz1 : W00101.frozen? ⟨X + 1, 1, none⟩ = false := (row_cell HY00101.out 1).2
            have y2 : W00101.cell? ⟨X + 1, 2, none⟩ = some (.int .u32 0) := by rw [(row_cell HY00101.out 2).1]; rfl
            have yz2 : W00101.frozen? ⟨X + 1, 2, none⟩ = false := (row_cell HY00101.out 2).2
            have y3 : W00101.cell? ⟨X + 1, 3, none⟩ = some (.int .i64 0) := by rw [(row_cell HY00101.out 3).1]; rfl
            have yz3 : W00101.frozen? ⟨X + 1, 3, none⟩ = false := (row_cell HY00101.out 3).2
            have y4 : W00101.cell? ⟨X + 1, 4, none⟩ = some (.int .i64 0) := by rw [(row_cell HY00101.out 4).1]; rfl
            have yz4 : W00101.frozen? ⟨X + 1, 4, none⟩ = false := (row_cell HY00101.out 4).2
            have z0 : W00101.cell? ⟨Z + 1, 0, none⟩ = some (.int .i64 n) := by rw [(row_cell HQ00101.out 0).1]; rfl
            have z1 : W00101.cell? ⟨Z + 1, 1, none⟩ = some (.int .i64 0) := by rw [(row_cell HQ00101.out 1).1]; rfl
            have z2 : W00101.cell? ⟨Z + 1, 2, none⟩ = some (.int .u32 r1) := by rw [(row_cell HQ00101.out 2).1]; rfl
            have z3 : W00101.cell? ⟨Z + 1, 3, none⟩ = some (.int .i64 0) := by rw [(row_cell HQ00101.out 3).1]; rfl
            have z4 : W00101.cell? ⟨Z + 1, 4, none⟩ = some (.int .i64 (-1)) := by rw [(row_cell HQ00101.out 4).1]; rfl
            go_wp2_with fail
            refine bodyPost_ret (results_cell_tmp rfl _ _ (X + 1) _ _ rfl (set_five HY00101.out _ _ _ _ _) Tryd.underlying29 rfl (by kernel_rfl)) rfl ?_
            have hf : f = true := by rw [← HF.out]; exact decide_eq_true (⟨(fun h => by cases h), (fun h => by cases h), fun h => absurd h H26.out⟩)
            exact ⟨by rw [HP.out.1, HP.out.2, hf, HOW.out]; rfl, (((((BB00101.out).setCell (by exact Nat.le_succ _) _).setCell (by exact Nat.le_succ _) _).setCell (by exact Nat.le_succ _) _).setCell (by exact Nat.le_succ _) _).setCell (by exact Nat.le_succ _) _⟩
          have k3 : (r3 == 4294967295) = false := by simpa using g3
          have e9 : r3 = tt := by rw [← HTT.out]; unfold tickV; rw [if_neg g3]
          subst e9
          go_upto_region 19 with fail
          obtain ⟨W00102, hW00102⟩ : ∃ W, W0010.setCell ⟨Z + 1, 4, none⟩ (.int .i64 r3) = W := ⟨_, rfl⟩
          rw [hW00102]
          have HQ00102 : Hid (W00102.heap[Z + 1]? = some (.cells #[.int .i64 n, .int .i64 0, .int .u32 r1, .int .i64 0, .int .i64 r3] 29 (0, 0))) := by unfold Hid; rw [← hW00102]; exact set_at HQ0010.out 4 _
          have F00102 : Hid (Fo (fun b => b = Z + 1) w3 W00102) := by unfold Hid; rw [← hW00102]; exact F0010.out.setCell (.inl rfl) 4 _
          clear hW00102 x0 x1 x2 x3 t1 t2 t3 t4 z0 zz0 z1 zz1 z2 zz2 z3 zz3 z4 zz4
          have HY00102 : Hid (W00102.heap[X + 1]? = some (.cells #[.int .i64 0, .int .i64 0, .int .u32 0, .int .i64 0, .int .i64 0] 29 (0, 0))) := (F00102.out.block (X + 1) (Array.getElem?_eq_some_iff.1 HY.out).1 (by have := HXZ.out; omega)).trans HY.out
          have BB00102 : Hid (Below X w W00102) := HB3.out.trans (F00102.out.below (fun b hb => by have := HXZ.out; omega) (by have := (Array.getElem?_eq_some_iff.1 HY.out).1; omega))
          have y0 : W00102.cell? ⟨X + 1, 0, none⟩ = some (.int .i64 0) := by rw [(row_cell HY00102.out 0).1]; rfl
          have yz0 : W00102.frozen? ⟨X + 1, 0, none⟩ = false := (row_cell HY00102.out 0).2
          have y1 : W00102.cell? ⟨X + 1, 1, none⟩ = some (.int .i64 0) := by rw [(row_cell HY00102.out 1).1]; rfl
          have yz1 : W00102.frozen? ⟨X + 1, 1, none⟩ = false := (row_cell HY00102.out 1).2
          have y2 : W00102.cell? ⟨X + 1, 2, none⟩ = some (.int .u32 0) := by rw [(row_cell HY00102.out 2).1]; rfl
          have yz2 : W00102.frozen? ⟨X + 1, 2, none⟩ = false := (row_cell HY00102.out 2).2
          have y3 : W00102.cell? ⟨X + 1, 3, none⟩ = some (.int .i64 0) := by rw [(row_cell HY00102.out 3).1]; rfl
          have yz3 : W00102.frozen? ⟨X + 1, 3, none⟩ = false := (row_cell HY00102.out 3).2
          have y4 : W00102.cell? ⟨X + 1, 4, none⟩ = some (.int .i64 0) := by rw [(row_cell HY00102.out 4).1]; rfl
          have yz4 : W00102.frozen? ⟨X + 1, 4, none⟩ = false := (row_cell HY00102.out 4).2
          have z0 : W00102.cell? ⟨Z + 1, 0, none⟩ = some (.int .i64 n) := by rw [(row_cell HQ00102.out 0).1]; rfl
          have z1 : W00102.cell? ⟨Z + 1, 1, none⟩ = some (.int .i64 0) := by rw [(row_cell HQ00102.out 1).1]; rfl
          have z2 : W00102.cell? ⟨Z + 1, 2, none⟩ = some (.int .u32 r1) := by rw [(row_cell HQ00102.out 2).1]; rfl
          have z3 : W00102.cell? ⟨Z + 1, 3, none⟩ = some (.int .i64 0) := by rw [(row_cell HQ00102.out 3).1]; rfl
          have z4 : W00102.cell? ⟨Z + 1, 4, none⟩ = some (.int .i64 r3) := by rw [(row_cell HQ00102.out 4).1]; rfl
          go_wp2_with fail
          refine bodyPost_ret (results_cell_tmp rfl _ _ (X + 1) _ _ rfl (set_five HY00102.out _ _ _ _ _) Tryd.underlying29 rfl (by kernel_rfl)) rfl ?_
          have hf : f = true := by rw [← HF.out]; exact decide_eq_true (⟨(fun h => by cases h), (fun h => by cases h), fun h => absurd h H26.out⟩)
          exact ⟨by rw [HP.out.1, HP.out.2, hf, HOW.out]; rfl, (((((BB00102.out).setCell (by exact Nat.le_succ _) _).setCell (by exact Nat.le_succ _) _).setCell (by exact Nat.le_succ _) _).setCell (by exact Nat.le_succ _) _).setCell (by exact Nat.le_succ _) _⟩
      · have x0 : W001.cell? ⟨X, 0, none⟩ = some (.int .u32 r0) := F001.out.cell (fun e => by have := HXZ.out; simp at e; omega) HR.out.1
        have x1 : W001.cell? ⟨X, 1, none⟩ = some (.int .u32 r1) := F001.out.cell (fun e => by have := HXZ.out; simp at e; omega) HR.out.2.1
        have x2 : W001.cell? ⟨X, 2, none⟩ = some (.int .u32 r2) := F001.out.cell (fun e => by have := HXZ.out; simp at e; omega) HR.out.2.2.1
        have x3 : W001.cell? ⟨X, 3, none⟩ = some (.int .u32 r3) := F001.out.cell (fun e => by have := HXZ.out; simp at e; omega) HR.out.2.2.2
        have t1 : W001.cell? ⟨Z, 1, none⟩ = some (.bool false) := F001.out.cell (fun e => by simp at e) HT.out.1
        have t2 : W001.cell? ⟨Z, 2, none⟩ = some (.bool true) := F001.out.cell (fun e => by simp at e) HT.out.2.1
        have t3 : W001.cell? ⟨Z, 3, none⟩ = some (.bool true) := F001.out.cell (fun e => by simp at e) HT.out.2.2.1
        have t4 : W001.cell? ⟨Z, 4, none⟩ = some (.bool bt) := F001.out.cell (fun e => by simp at e) HT.out.2.2.2
        by_cases g2 : 32 < r2
        · have k2 : decide (32 < r2) = true := by simp only [g2, decide_true]
          have HY001 : Hid (W001.heap[X + 1]? = some (.cells #[.int .i64 0, .int .i64 0, .int .u32 0, .int .i64 0, .int .i64 0] 29 (0, 0))) := (F001.out.block (X + 1) (Array.getElem?_eq_some_iff.1 HY.out).1 (by have := HXZ.out; omega)).trans HY.out
          have BB001 : Hid (Below X w W001) := HB3.out.trans (F001.out.below (fun b hb => by have := HXZ.out; omega) (by have := (Array.getElem?_eq_some_iff.1 HY.out).1; omega))
          have y0 : W001.cell? ⟨X + 1, 0, none⟩ = some (.int .i64 0) := by rw [(row_cell HY001.out 0).1]; rfl
          have yz0 : W001.frozen? ⟨X + 1, 0, none⟩ = false := (row_cell HY001.out 0).2
          have y1 : W001.cell? ⟨X + 1, 1, none⟩ = some (.int .i64 0) := by rw [(row_cell HY001.out 1).1]; rfl
          have yz1 : W001.frozen? ⟨X + 1, 1, none⟩ = false := (row_cell HY001.out 1).2
          have y2 : W001.cell? ⟨X + 1, 2, none⟩ = some (.int .u32 0) := by rw [(row_cell HY001.out 2).1]; rfl
          have yz2 : W001.frozen? ⟨X + 1, 2, none⟩ = false := (row_cell HY001.out 2).2
          have y3 : W001.cell? ⟨X + 1, 3, none⟩ = some (.int .i64 0) := by rw [(row_cell HY001.out 3).1]; rfl
          have yz3 : W001.frozen? ⟨X + 1, 3, none⟩ = false := (row_cell HY001.out 3).2
          have y4 : W001.cell? ⟨X + 1, 4, none⟩ = some (.int .i64 0) := by rw [(row_cell HY001.out 4).1]; rfl
          have yz4 : W001.frozen? ⟨X + 1, 4, none⟩ = false := (row_cell HY001.out 4).2
          go_wp2_with fail
          refine bodyPost_ret (results_cell_tmp rfl _ _ (X + 1) _ _ rfl (set_five HY001.out _ _ _ _ _) Tryd.underlying29 rfl (by kernel_rfl)) rfl ?_
          have hf : f = false := by rw [← HF.out]; exact decide_eq_false (fun h => by have := h.2.1 (by simp); omega)
          exact ⟨by rw [HP.out.1, HP.out.2, hf]; rfl, (((((BB001.out).setCell (by exact Nat.le_succ _) _).setCell (by exact Nat.le_succ _) _).setCell (by exact Nat.le_succ _) _).setCell (by exact Nat.le_succ _) _).setCell (by exact Nat.le_succ _) _⟩
        have k2 : decide (32 < r2) = false := by simp only [g2, decide_false]
        have z0 : W001.cell? ⟨Z + 1, 0, none⟩ = some (.int .i64 n) := by rw [(row_cell HQ001.out 0).1]; rfl
        have zz0 : W001.frozen? ⟨Z + 1, 0, none⟩ = false := (row_cell HQ001.out 0).2
        have z1 : W001.cell? ⟨Z + 1, 1, none⟩ = some (.int .i64 0) := by rw [(row_cell HQ001.out 1).1]; rfl
        have zz1 : W001.frozen? ⟨Z + 1, 1, none⟩ = false := (row_cell HQ001.out 1).2
        have z2 : W001.cell? ⟨Z + 1, 2, none⟩ = some (.int .u32 r1) := by rw [(row_cell HQ001.out 2).1]; rfl
        have zz2 : W001.frozen? ⟨Z + 1, 2, none⟩ = false := (row_cell HQ001.out 2).2
        have z3 : W001.cell? ⟨Z + 1, 3, none⟩ = some (.int .i64 0) := by rw [(row_cell HQ001.out 3).1]; rfl
        have zz3 : W001.frozen? ⟨Z + 1, 3, none⟩ = false := (row_cell HQ001.out 3).2
        have z4 : W001.cell? ⟨Z + 1, 4, none⟩ = some (.int .i64 0) := by rw [(row_cell HQ001.out 4).1]; rfl
        have zz4 : W001.frozen? ⟨Z + 1, 4, none⟩ = false := (row_cell HQ001.out 4).2
        go_upto_region 15 with fail
        obtain ⟨W0011, hW0011⟩ : ∃ W, W001.setCell ⟨Z + 1, 3, none⟩ (.int .i64 r2) = W := ⟨_, rfl⟩
        rw [hW0011]
        have HQ0011 : Hid (W0011.heap[Z + 1]? = some (.cells #[.int .i64 n, .int .i64 0, .int .u32 r1, .int .i64 r2, .int .i64 0] 29 (0, 0))) := by unfold Hid; rw [← hW0011]; exact set_at HQ001.out 3 _
        have F0011 : Hid (Fo (fun b => b = Z + 1) w3 W0011) := by unfold Hid; rw [← hW0011]; exact F001.out.setCell (.inl rfl) 3 _
        clear hW0011 x0 x1 x2 x3 t1 t2 t3 t4 z0 zz0 z1 zz1 z2 zz2 z3 zz3 z4 zz4
        cases bt
        · have x0 : W0011.cell? ⟨X, 0, none⟩ = some (.int .u32 r0) := F0011.out.cell (fun e => by have := HXZ.out; simp at e; omega) HR.out.1
          have x1 : W0011.cell? ⟨X, 1, none⟩ = some (.int .u32 r1) := F0011.out.cell (fun e => by have := HXZ.out; simp at e; omega) HR.out.2.1
          have x2 : W0011.cell? ⟨X, 2, none⟩ = some (.int .u32 r2) := F0011.out.cell (fun e => by have := HXZ.out; simp at e; omega) HR.out.2.2.1
          have x3 : W0011.cell? ⟨X, 3, none⟩ = some (.int .u32 r3) := F0011.out.cell (fun e => by have := HXZ.out; simp at e; omega) HR.out.2.2.2
          have t1 : W0011.cell? ⟨Z, 1, none⟩ = some (.bool false) := F0011.out.cell (fun e => by simp at e) HT.out.1
          have t2 : W0011.cell? ⟨Z, 2, none⟩ = some (.bool true) := F0011.out.cell (fun e => by simp at e) HT.out.2.1
          have t3 : W0011.cell? ⟨Z, 3, none⟩ = some (.bool true) := F0011.out.cell (fun e => by simp at e) HT.out.2.2.1
          have t4 : W0011.cell? ⟨Z, 4, none⟩ = some (.bool false) := F0011.out.cell (fun e => by simp at e) HT.out.2.2.2
          go_upto_region 19 with fail
          obtain ⟨W00110, hW00110⟩ : ∃ W, W = W0011 := ⟨_, rfl⟩
          subst hW00110
          have HQ00110 := HQ0011
          have F00110 := F0011
          clear x0 x1 x2 x3 t1 t2 t3 t4
          have HY00110 : Hid (W00110.heap[X + 1]? = some (.cells #[.int .i64 0, .int .i64 0, .int .u32 0, .int .i64 0, .int .i64 0] 29 (0, 0))) := (F00110.out.block (X + 1) (Array.getElem?_eq_some_iff.1 HY.out).1 (by have := HXZ.out; omega)).trans HY.out
          have BB00110 : Hid (Below X w W00110) := HB3.out.trans (F00110.out.below (fun b hb => by have := HXZ.out; omega) (by have := (Array.getElem?_eq_some_iff.1 HY.out).1; omega))
          have y0 : W00110.cell? ⟨X + 1, 0, none⟩ = some (.int .i64 0) := by rw [(row_cell HY00110.out 0).1]; rfl
          have yz0 : W00110.frozen? ⟨X + 1, 0, none⟩ = false := (row_cell HY00110.out 0).2
          have y1 : W00110.cell? ⟨X + 1, 1, none⟩ = some (.int .i64 0) := by rw [(row_cell HY00110.out 1).1]; rfl
          have yz1 : W00110.frozen? ⟨X + 1, 1, none⟩ = false := (row_cell HY00110.out 1).2
          have y2 : W00110.cell? ⟨X + 1, 2, none⟩ = some (.int .u32 0) := by rw [(row_cell HY00110.out 2).1]; rfl
          have yz2 : W00110.frozen? ⟨X + 1, 2, none⟩ = false := (row_cell HY00110.out 2).2
          have y3 : W00110.cell? ⟨X + 1, 3, none⟩ = some (.int .i64 0) := by rw [(row_cell HY00110.out 3).1]; rfl
          have yz3 : W00110.frozen? ⟨X + 1, 3, none⟩ = false := (row_cell HY00110.out 3).2
          have y4 : W00110.cell? ⟨X + 1, 4, none⟩ = some (.int .i64 0) := by rw [(row_cell HY00110.out 4).1]; rfl
          have yz4 : W00110.frozen? ⟨X + 1, 4, none⟩ = false := (row_cell HY00110.out 4).2
          have z0 : W00110.cell? ⟨Z + 1, 0, none⟩ = some (.int .i64 n) := by rw [(row_cell HQ00110.out 0).1]; rfl
          have z1 : W00110.cell? ⟨Z + 1, 1, none⟩ = some (.int .i64 0) := by rw [(row_cell HQ00110.out 1).1]; rfl
          have z2 : W00110.cell? ⟨Z + 1, 2, none⟩ = some (.int .u32 r1) := by rw [(row_cell HQ00110.out 2).1]; rfl
          have z3 : W00110.cell? ⟨Z + 1, 3, none⟩ = some (.int .i64 r2) := by rw [(row_cell HQ00110.out 3).1]; rfl
          have z4 : W00110.cell? ⟨Z + 1, 4, none⟩ = some (.int .i64 0) := by rw [(row_cell HQ00110.out 4).1]; rfl
          go_wp2_with fail
          refine bodyPost_ret (results_cell_tmp rfl _ _ (X + 1) _ _ rfl (set_five HY00110.out _ _ _ _ _) Tryd.underlying29 rfl (by kernel_rfl)) rfl ?_
          have hf : f = true := by rw [← HF.out]; exact decide_eq_true (⟨(fun h => by cases h), (fun _ => by omega), fun h => absurd h H26.out⟩)
          exact ⟨by rw [HP.out.1, HP.out.2, hf, HOW.out]; rfl, (((((BB00110.out).setCell (by exact Nat.le_succ _) _).setCell (by exact Nat.le_succ _) _).setCell (by exact Nat.le_succ _) _).setCell (by exact Nat.le_succ _) _).setCell (by exact Nat.le_succ _) _⟩
        · have x0 : W0011.cell? ⟨X, 0, none⟩ = some (.int .u32 r0) := F0011.out.cell (fun e => by have := HXZ.out; simp at e; omega) HR.out.1
          have x1 : W0011.cell? ⟨X, 1, none⟩ = some (.int .u32 r1) := F0011.out.cell (fun e => by have := HXZ.out; simp at e; omega) HR.out.2.1
          have x2 : W0011.cell? ⟨X, 2, none⟩ = some (.int .u32 r2) := F0011.out.cell (fun e => by have := HXZ.out; simp at e; omega) HR.out.2.2.1
          have x3 : W0011.cell? ⟨X, 3, none⟩ = some (.int .u32 r3) := F0011.out.cell (fun e => by have := HXZ.out; simp at e; omega) HR.out.2.2.2
          have t1 : W0011.cell? ⟨Z, 1, none⟩ = some (.bool false) := F0011.out.cell (fun e => by simp at e) HT.out.1
          have t2 : W0011.cell? ⟨Z, 2, none⟩ = some (.bool true) := F0011.out.cell (fun e => by simp at e) HT.out.2.1
          have t3 : W0011.cell? ⟨Z, 3, none⟩ = some (.bool true) := F0011.out.cell (fun e => by simp at e) HT.out.2.2.1
          have t4 : W0011.cell? ⟨Z, 4, none⟩ = some (.bool true) := F0011.out.cell (fun e => by simp at e) HT.out.2.2.2
          have z0 : W0011.cell? ⟨Z + 1, 0, none⟩ = some (.int .i64 n) := by rw [(row_cell HQ0011.out 0).1]; rfl
          have zz0 : W0011.frozen? ⟨Z + 1, 0, none⟩ = false := (row_cell HQ0011.out 0).2
          have z1 : W0011.cell? ⟨Z + 1, 1, none⟩ = some (.int .i64 0) := by rw [(row_cell HQ0011.out 1).1]; rfl
          have zz1 : W0011.frozen? ⟨Z + 1, 1, none⟩ = false := (row_cell HQ0011.out 1).2
          have z2 : W0011.cell? ⟨Z + 1, 2, none⟩ = some (.int .u32 r1) := by rw [(row_cell HQ0011.out 2).1]; rfl
          have zz2 : W0011.frozen? ⟨Z + 1, 2, none⟩ = false := (row_cell HQ0011.out 2).2
          have z3 : W0011.cell? ⟨Z + 1, 3, none⟩ = some (.int .i64 r2) := by rw [(row_cell HQ0011.out 3).1]; rfl
          have zz3 : W0011.frozen? ⟨Z + 1, 3, none⟩ = false := (row_cell HQ0011.out 3).2
          have z4 : W0011.cell? ⟨Z + 1, 4, none⟩ = some (.int .i64 0) := by rw [(row_cell HQ0011.out 4).1]; rfl
          have zz4 : W0011.frozen? ⟨Z + 1, 4, none⟩ = false := (row_cell HQ0011.out 4).2
          by_cases g3 : r3 = 4294967295
          · have k3 : (r3 == 4294967295) = true := by simpa using g3
            have e9 : tt = -1 := by rw [← HTT.out, g3]; rfl
            subst e9
            have G3 := Lib.hid g3
            subst g3
            go_upto_region 19 with fail
            obtain ⟨W00111, hW00111⟩ : ∃ W, (W0011.setCell ⟨Z + 1, 4, none⟩ (.int .i64 4294967295)).setCell ⟨Z + 1, 4, none⟩ (.int .i64 (-1)) = W := ⟨_, rfl⟩
            rw [hW00111]
            have HQ00111 : Hid (W00111.heap[Z + 1]? = some (.cells #[.int .i64 n, .int .i64 0, .int .u32 r1, .int .i64 r2, .int .i64 (-1)] 29 (0, 0))) := by unfold Hid; rw [← hW00111]; exact set_at (set_at HQ0011.out 4 _) 4 _
            have F00111 : Hid (Fo (fun b => b = Z + 1) w3 W00111) := by unfold Hid; rw [← hW00111]; exact (F0011.out.setCell (.inl rfl) 4 _).setCell (.inl rfl) 4 _
            clear hW00111 x0 x1 x2 x3 t1 t2 t3 t4 z0 zz0 z1 zz1 z2 zz2 z3 zz3 z4 zz4
            have HY00111 : Hid (W00111.heap[X + 1]? = some (.cells #[.int .i64 0, .int .i64 0, .int .u32 0, .int .i64 0, .int .i64 0] 29 (0, 0))) := (F00111.out.block (X + 1) (Array.getElem?_eq_some_iff.1 HY.out).1 (by have := HXZ.out; omega)).trans HY.out
            have BB00111 : Hid (Below X w W00111) := HB3.out.trans (F00111.out.below (fun b hb => by have := HXZ.out; omega) (by have := (Array.getElem?_eq_some_iff.1 HY.out).1; omega))
            have y0 : W00111.cell? ⟨X + 1, 0, none⟩ = some (.int .i64 0) := by rw [(row_cell HY00111.out 0).1]; rfl
            have yz0 : W00111.frozen? ⟨X + 1, 0, none⟩ = false := (row_cell HY00111.out 0).2
            have y1 : W00111.cell? ⟨X + 1, 1, none⟩ = some (.int .i64 0) := by rw [(row_cell HY00111.out 1).1]; rfl
            have yz1 : W00111.frozen? ⟨X + 1, 1, none⟩ = false := (row_cell HY00111.out 1).2
            have y2 : W00111.cell? ⟨X + 1, 2, none⟩ = some (.int .u32 0) := by rw [(row_cell HY00111.out 2).1]; rfl
            have yz2 : W00111.frozen? ⟨X + 1, 2, none⟩ = false := (row_cell HY00111.out 2).2
            have y3 : W00111.cell? ⟨X + 1, 3, none⟩ = some (.int .i64 0) := by rw [(row_cell HY00111.out 3).1]; rfl
            have yz3 : W00111.frozen? ⟨X + 1, 3, none⟩ = false := (row_cell HY00111.out 3).2
            have y4 : W00111.cell? ⟨X + 1, 4, none⟩ = some (.int .i64 0) := by rw [(row_cell HY00111.out 4).1]; rfl
            have yz4 : W00111.frozen? ⟨X + 1, 4, none⟩ = false := (row_cell HY00111.out 4).2
            have z0 : W00111.cell? ⟨Z + 1, 0, none⟩ = some (.int .i64 n) := by rw [(row_cell HQ00111.out 0).1]; rfl
            have z1 : W00111.cell? ⟨Z + 1, 1, none⟩ = some (.int .i64 0) := by rw [(row_cell HQ00111.out 1).1]; rfl
            have z2 : W00111.cell? ⟨Z + 1, 2, none⟩ = some (.int .u32 r1) := by rw [(row_cell HQ00111.out 2).1]; rfl
            have z3 : W00111.cell? ⟨Z + 1, 3, none⟩ = some (.int .i64 r2) := by rw [(row_cell HQ00111.out 3).1]; rfl
            have z4 : W00111.cell? ⟨Z + 1, 4, none⟩ = some (.int .i64 (-1)) := by rw [(row_cell HQ00111.out 4).1]; rfl
            go_wp2_with fail
            refine bodyPost_ret (results_cell_tmp rfl _ _ (X + 1) _ _ rfl (set_five HY00111.out _ _ _ _ _) Tryd.underlying29 rfl (by kernel_rfl)) rfl ?_
            have hf : f = true := by rw [← HF.out]; exact decide_eq_true (⟨(fun h => by cases h), (fun _ => by omega), fun h => absurd h H26.out⟩)
            exact ⟨by rw [HP.out.1, HP.out.2, hf, HOW.out]; rfl, (((((BB00111.out).setCell (by exact Nat.le_succ _) _).setCell (by exact Nat.le_succ _) _).setCell (by exact Nat.le_succ _) _).setCell (by exact Nat.le_succ _) _).setCell (by exact Nat.le_succ _) _⟩
          have k3 : (r3 == 4294967295) = false := by simpa using g3
          have e9 : r3 = tt := by rw [← HTT.out]; unfold tickV; rw [if_neg g3]
          subst e9
          go_upto_region 19 with fail
          obtain ⟨W00112, hW00112⟩ : ∃ W, W0011.setCell ⟨Z + 1, 4, none⟩ (.int .i64 r3) = W := ⟨_, rfl⟩
          rw [hW00112]
          have HQ00112 : Hid (W00112.heap[Z + 1]? = some (.cells #[.int .i64 n, .int .i64 0, .int .u32 r1, .int .i64 r2, .int .i64 r3] 29 (0, 0))) := by unfold Hid; rw [← hW00112]; exact set_at HQ0011.out 4 _
          have F00112 : Hid (Fo (fun b => b = Z + 1) w3 W00112) := by unfold Hid; rw [← hW00112]; exact F0011.out.setCell (.inl rfl) 4 _
          clear hW00112 x0 x1 x2 x3 t1 t2 t3 t4 z0 zz0 z1 zz1 z2 zz2 z3 zz3 z4 zz4
          have HY00112 : Hid (W00112.heap[X + 1]? = some (.cells #[.int .i64 0, .int .i64 0, .int .u32 0, .int .i64 0, .int .i64 0] 29 (0, 0))) := (F00112.out.block (X + 1) (Array.getElem?_eq_some_iff.1 HY.out).1 (by have := HXZ.out; omega)).trans HY.out
          have BB00112 : Hid (Below X w W00112) := HB3.out.trans (F00112.out.below (fun b hb => by have := HXZ.out; omega) (by have := (Array.getElem?_eq_some_iff.1 HY.out).1; omega))
          have y0 : W00112.cell? ⟨X + 1, 0, none⟩ = some (.int .i64 0) := by rw [(row_cell HY00112.out 0).1]; rfl
          have yz0 : W00112.frozen? ⟨X + 1, 0, none⟩ = false := (row_cell HY00112.out 0).2
          have y1 : W00112.cell? ⟨X + 1, 1, none⟩ = some (.int .i64 0) := by rw [(row_cell HY00112.out 1).1]; rfl
          have yz1 : W00112.frozen? ⟨X + 1, 1, none⟩ = false := (row_cell HY00112.out 1).2
          have y2 : W00112.cell? ⟨X + 1, 2, none⟩ = some (.int .u32 0) := by rw [(row_cell HY00112.out 2).1]; rfl
          have yz2 : W00112.frozen? ⟨X + 1, 2, none⟩ = false := (row_cell HY00112.out 2).2
          have y3 : W00112.cell? ⟨X + 1, 3, none⟩ = some (.int .i64 0) := by rw [(row_cell HY00112.out 3).1]; rfl
          have yz3 : W00112.frozen? ⟨X + 1, 3, none⟩ = false := (row_cell HY00112.out 3).2
          have y4 : W00112.cell? ⟨X + 1, 4, none⟩ = some (.int .i64 0) := by rw [(row_cell HY00112.out 4).1]; rfl
          have yz4 : W00112.frozen? ⟨X + 1, 4, none⟩ = false := (row_cell HY00112.out 4).2
          have z0 : W00112.cell? ⟨Z + 1, 0, none⟩ = some (.int .i64 n) := by rw [(row_cell HQ00112.out 0).1]; rfl
          have z1 : W00112.cell? ⟨Z + 1, 1, none⟩ = some (.int .i64 0) := by rw [(row_cell HQ00112.out 1).1]; rfl
          have z2 : W00112.cell? ⟨Z + 1, 2, none⟩ = some (.int .u32 r1) := by rw [(row_cell HQ00112.out 2).1]; rfl
          have z3 : W00112.cell? ⟨Z + 1, 3, none⟩ = some (.int .i64 r2) := by rw [(row_cell HQ00112.out 3).1]; rfl
          have z4 : W00112.cell? ⟨Z + 1, 4, none⟩ = some (.int .i64 r3) := by rw [(row_cell HQ00112.out 4).1]; rfl
          go_wp2_with fail
          refine bodyPost_ret (results_cell_tmp rfl _ _ (X + 1) _ _ rfl (set_five HY00112.out _ _ _ _ _) Tryd.underlying29 rfl (by kernel_rfl)) rfl ?_
          have hf : f = true := by rw [← HF.out]; exact decide_eq_true (⟨(fun h => by cases h), (fun _ => by omega), fun h => absurd h H26.out⟩)
          exact ⟨by rw [HP.out.1, HP.out.2, hf, HOW.out]; rfl, (((((BB00112.out).setCell (by exact Nat.le_succ _) _).setCell (by exact Nat.le_succ _) _).setCell (by exact Nat.le_succ _) _).setCell (by exact Nat.le_succ _) _).setCell (by exact Nat.le_succ _) _⟩
  · have x0 : W0.cell? ⟨X, 0, none⟩ = some (.int .u32 r0) := F0.out.cell (fun e => by have := HXZ.out; simp at e; omega) HR.out.1
    have x1 : W0.cell? ⟨X, 1, none⟩ = some (.int .u32 r1) := F0.out.cell (fun e => by have := HXZ.out; simp at e; omega) HR.out.2.1
    have x2 : W0.cell? ⟨X, 2, none⟩ = some (.int .u32 r2) := F0.out.cell (fun e => by have := HXZ.out; simp at e; omega) HR.out.2.2.1
    have x3 : W0.cell? ⟨X, 3, none⟩ = some (.int .u32 r3) := F0.out.cell (fun e => by have := HXZ.out; simp at e; omega) HR.out.2.2.2
    have t1 : W0.cell? ⟨Z, 1, none⟩ = some (.bool true) := F0.out.cell (fun e => by simp at e) HT.out.1
    have t2 : W0.cell? ⟨Z, 2, none⟩ = some (.bool ba) := F0.out.cell (fun e => by simp at e) HT.out.2.1
    have t3 : W0.cell? ⟨Z, 3, none⟩ = some (.bool bw) := F0.out.cell (fun e => by simp at e) HT.out.2.2.1
    have t4 : W0.cell? ⟨Z, 4, none⟩ = some (.bool bt) := F0.out.cell (fun e => by simp at e) HT.out.2.2.2
    by_cases g0 : 15 < r0
    · have k0 : decide (15 < r0) = true := by simp only [g0, decide_true]
      have HY0 : Hid (W0.heap[X + 1]? = some (.cells #[.int .i64 0, .int .i64 0, .int .u32 0, .int .i64 0, .int .i64 0] 29 (0, 0))) := (F0.out.block (X + 1) (Array.getElem?_eq_some_iff.1 HY.out).1 (by have := HXZ.out; omega)).trans HY.out
      have BB0 : Hid (Below X w W0) := HB3.out.trans (F0.out.below (fun b hb => by have := HXZ.out; omega) (by have := (Array.getElem?_eq_some_iff.1 HY.out).1; omega))
      have y0 : W0.cell? ⟨X + 1, 0, none⟩ = some (.int .i64 0) := by rw [(row_cell HY0.out 0).1]; rfl
      have yz0 : W0.frozen? ⟨X + 1, 0, none⟩ = false := (row_cell HY0.out 0).2
      have y1 : W0.cell? ⟨X + 1, 1, none⟩ = some (.int .i64 0) := by rw [(row_cell HY0.out 1).1]; rfl
      have yz1 : W0.frozen? ⟨X + 1, 1, none⟩ = false := (row_cell HY0.out 1).2
      have y2 : W0.cell? ⟨X + 1, 2, none⟩ = some (.int .u32 0) := by rw [(row_cell HY0.out 2).1]; rfl
      have yz2 : W0.frozen? ⟨X + 1, 2, none⟩ = false := (row_cell HY0.out 2).2
      have y3 : W0.cell? ⟨X + 1, 3, none⟩ = some (.int .i64 0) := by rw [(row_cell HY0.out 3).1]; rfl
      have yz3 : W0.frozen? ⟨X + 1, 3, none⟩ = false := (row_cell HY0.out 3).2
      have y4 : W0.cell? ⟨X + 1, 4, none⟩ = some (.int .i64 0) := by rw [(row_cell HY0.out 4).1]; rfl
      have yz4 : W0.frozen? ⟨X + 1, 4, none⟩ = false := (row_cell HY0.out 4).2
      go_wp2_with fail
      refine bodyPost_ret (results_cell_tmp rfl _ _ (X + 1) _ _ rfl (set_five HY0.out _ _ _ _ _) Tryd.underlying29 rfl (by kernel_rfl)) rfl ?_
      have hf : f = false := by rw [← HF.out]; exact decide_eq_false (fun h => by have := h.1 (by simp); omega)
      exact ⟨by rw [HP.out.1, HP.out.2, hf]; rfl, (((((BB0.out).setCell (by exact Nat.le_succ _) _).setCell (by exact Nat.le_succ _) _).setCell (by exact Nat.le_succ _) _).setCell (by exact Nat.le_succ _) _).setCell (by exact Nat.le_succ _) _⟩
    have k0 : decide (15 < r0) = false := by simp only [g0, decide_false]
    have z0 : W0.cell? ⟨Z + 1, 0, none⟩ = some (.int .i64 n) := by rw [(row_cell HQ0.out 0).1]; rfl
    have zz0 : W0.frozen? ⟨Z + 1, 0, none⟩ = false := (row_cell HQ0.out 0).2
    have z1 : W0.cell? ⟨Z + 1, 1, none⟩ = some (.int .i64 0) := by rw [(row_cell HQ0.out 1).1]; rfl
    have zz1 : W0.frozen? ⟨Z + 1, 1, none⟩ = false := (row_cell HQ0.out 1).2
    have z2 : W0.cell? ⟨Z + 1, 2, none⟩ = some (.int .u32 0) := by rw [(row_cell HQ0.out 2).1]; rfl
    have zz2 : W0.frozen? ⟨Z + 1, 2, none⟩ = false := (row_cell HQ0.out 2).2
    have z3 : W0.cell? ⟨Z + 1, 3, none⟩ = some (.int .i64 0) := by rw [(row_cell HQ0.out 3).1]; rfl
    have zz3 : W0.frozen? ⟨Z + 1, 3, none⟩ = false := (row_cell HQ0.out 3).2
    have z4 : W0.cell? ⟨Z + 1, 4, none⟩ = some (.int .i64 0) := by rw [(row_cell HQ0.out 4).1]; rfl
    have zz4 : W0.frozen? ⟨Z + 1, 4, none⟩ = false := (row_cell HQ0.out 4).2
    go_upto_region 9 with fail
    obtain ⟨W01, hW01⟩ : ∃ W, W0.setCell ⟨Z + 1, 1, none⟩ (.int .i64 r0) = W := ⟨_, rfl⟩
    rw [hW01]
    have HQ01 : Hid (W01.heap[Z + 1]? = some (.cells #[.int .i64 n, .int .i64 r0, .int .u32 0, .int .i64 0, .int .i64 0] 29 (0, 0))) := by unfold Hid; rw [← hW01]; exact set_at HQ0.out 1 _
    have F01 : Hid (Fo (fun b => b = Z + 1) w3 W01) := by unfold Hid; rw [← hW01]; exact F0.out.setCell (.inl rfl) 1 _
    clear hW01 x0 x1 x2 x3 t1 t2 t3 t4 z0 zz0 z1 zz1 z2 zz2 z3 zz3 z4 zz4
    cases ba
    · have x0 : W01.cell? ⟨X, 0, none⟩ = some (.int .u32 r0) := F01.out.cell (fun e => by have := HXZ.out; simp at e; omega) HR.out.1
      have x1 : W01.cell? ⟨X, 1, none⟩ = some (.int .u32 r1) := F01.out.cell (fun e => by have := HXZ.out; simp at e; omega) HR.out.2.1
      have x2 : W01.cell? ⟨X, 2, none⟩ = some (.int .u32 r2) := F01.out.cell (fun e => by have := HXZ.out; simp at e; omega) HR.out.2.2.1
      have x3 : W01.cell? ⟨X, 3, none⟩ = some (.int .u32 r3) := F01.out.cell (fun e => by have := HXZ.out; simp at e; omega) HR.out.2.2.2
      have t1 : W01.cell? ⟨Z, 1, none⟩ = some (.bool true) := F01.out.cell (fun e => by simp at e) HT.out.1
      have t2 : W01.cell? ⟨Z, 2, none⟩ = some (.bool false) := F01.out.cell (fun e => by simp at e) HT.out.2.1
      have t3 : W01.cell? ⟨Z, 3, none⟩ = some (.bool bw) := F01.out.cell (fun e => by simp at e) HT.out.2.2.1
      have t4 : W01.cell? ⟨Z, 4, none⟩ = some (.bool bt) := F01.out.cell (fun e => by simp at e) HT.out.2.2.2
      go_upto_region 11 with fail
      obtain ⟨W010, hW010⟩ : ∃ W, W = W01 := ⟨_, rfl⟩
      subst hW010
      have HQ010 := HQ01
      have F010 := F01
      clear x0 x1 x2 x3 t1 t2 t3 t4
      cases bw
      · have x0 : W010.cell? ⟨X, 0, none⟩ = some (.int .u32 r0) := F010.out.cell (fun e => by have := HXZ.out; simp at e; omega) HR.out.1
        have x1 : W010.cell? ⟨X, 1, none⟩ = some (.int .u32 r1) := F010.out.cell (fun e => by have := HXZ.out; simp at e; omega) HR.out.2.1
        have x2 : W010.cell? ⟨X, 2, none⟩ = some (.int .u32 r2) := F010.out.cell (fun e => by have := HXZ.out; simp at e; omega) HR.out.2.2.1
        have x3 : W010.cell? ⟨X, 3, none⟩ = some (.int .u32 r3) := F010.out.cell (fun e => by have := HXZ.out; simp at e; omega) HR.out.2.2.2
        have t1 : W010.cell? ⟨Z, 1, none⟩ = some (.bool true) := F010.out.cell (fun e => by simp at e) HT.out.1
        have t2 : W010.cell? ⟨Z, 2, none⟩ = some (.bool false) := F010.out.cell (fun e => by simp at e) HT.out.2.1
        have t3 : W010.cell? ⟨Z, 3, none⟩ = some (.bool false) := F010.out.cell (fun e => by simp at e) HT.out.2.2.1
        have t4 : W010.cell? ⟨Z, 4, none⟩ = some (.bool bt) := F010.out.cell (fun e => by simp at e) HT.out.2.2.2
        go_upto_region 15 with fail
        obtain ⟨W0100, hW0100⟩ : ∃ W, W = W010 := ⟨_, rfl⟩
        subst hW0100
        have HQ0100 := HQ010
        have F0100 := F010
        clear x0 x1 x2 x3 t1 t2 t3 t4
        cases bt
        · have x0 : W0100.cell? ⟨X, 0, none⟩ = some (.int .u32 r0) := F0100.out.cell (fun e => by have := HXZ.out; simp at e; omega) HR.out.1
          have x1 : W0100.cell? ⟨X, 1, none⟩ = some (.int .u32 r1) := F0100.out.cell (fun e => by have := HXZ.out; simp at e; omega) HR.out.2.1
          have x2 : W0100.cell? ⟨X, 2, none⟩ = some (.int .u32 r2) := F0100.out.cell (fun e => by have := HXZ.out; simp at e; omega) HR.out.2.2.1
          have x3 : W0100.cell? ⟨X, 3, none⟩ = some (.int .u32 r3) := F0100.out.cell (fun e => by have := HXZ.out; simp at e; omega) HR.out.2.2.2
          have t1 : W0100.cell? ⟨Z, 1, none⟩ = some (.bool true) := F0100.out.cell (fun e => by simp at e) HT.out.1
          have t2 : W0100.cell? ⟨Z, 2, none⟩ = some (.bool false) := F0100.out.cell (fun e => by simp at e) HT.out.2.1
          have t3 : W0100.cell? ⟨Z, 3, none⟩ = some (.bool false) := F0100.out.cell (fun e => by simp at e) HT.out.2.2.1
          have t4 : W0100.cell? ⟨Z, 4, none⟩ = some (.bool false) := F0100.out.cell (fun e => by simp at e) HT.out.2.2.2
          go_upto_region 19 with fail
          obtain ⟨W01000, hW01000⟩ : ∃ W, W = W0100 := ⟨_, rfl⟩
          subst hW01000
          have HQ01000 := HQ0100
          have F01000 := F0100
          clear x0 x1 x2 x3 t1 t2 t3 t4
          have HY01000 : Hid (W01000.heap[X + 1]? = some (.cells #[.int .i64 0, .int .i64 0, .int .u32 0, .int .i64 0, .int .i64 0] 29 (0, 0))) := (F01000.out.block (X + 1) (Array.getElem?_eq_some_iff.1 HY.out).1 (by have := HXZ.out; omega)).trans HY.out
          have BB01000 : Hid (Below X w W01000) := HB3.out.trans (F01000.out.below (fun b hb => by have := HXZ.out; omega) (by have := (Array.getElem?_eq_some_iff.1 HY.out).1; omega))
          have y0 : W01000.cell? ⟨X + 1, 0, none⟩ = some (.int .i64 0) := by rw [(row_cell HY01000.out 0).1]; rfl
          have yz0 : W01000.frozen? ⟨X + 1, 0, none⟩ = false := (row_cell HY01000.out 0).2
          have y1 : W01000.cell? ⟨X + 1, 1, none⟩ = some (.int .i64 0) := by rw [(row_cell HY01000.out 1).1]; rfl
          have yz1 : W01000.frozen? ⟨X + 1, 1, none⟩ = false := (row_cell HY01000.out 1).2
          have y2 : W01000.cell? ⟨X + 1, 2, none⟩ = some (.int .u32 0) := by rw [(row_cell HY01000.out 2).1]; rfl
          have yz2 : W01000.frozen? ⟨X + 1, 2, none⟩ = false := (row_cell HY01000.out 2).2
          have y3 : W01000.cell? ⟨X + 1, 3, none⟩ = some (.int .i64 0) := by rw [(row_cell HY01000.out 3).1]; rfl
          have yz3 : W01000.frozen? ⟨X + 1, 3, none⟩ = false := (row_cell HY01000.out 3).2
          have y4 : W01000.cell? ⟨X + 1, 4, none⟩ = some (.int .i64 0) := by rw [(row_cell HY01000.out 4).1]; rfl
          have yz4 : W01000.frozen? ⟨X + 1, 4, none⟩ = false := (row_cell HY01000.out 4).2
          have z0 : W01000.cell? ⟨Z + 1, 0, none⟩ = some (.int .i64 n) := by rw [(row_cell HQ01000.out 0).1]; rfl
          have z1 : W01000.cell? ⟨Z + 1, 1, none⟩ = some (.int .i64 r0) := by rw [(row_cell HQ01000.out 1).1]; rfl
          have z2 : W01000.cell? ⟨Z + 1, 2, none⟩ = some (.int .u32 0) := by rw [(row_cell HQ01000.out 2).1]; rfl
          have z3 : W01000.cell? ⟨Z + 1, 3, none⟩ = some (.int .i64 0) := by rw [(row_cell HQ01000.out 3).1]; rfl
          have z4 : W01000.cell? ⟨Z + 1, 4, none⟩ = some (.int .i64 0) := by rw [(row_cell HQ01000.out 4).1]; rfl
          go_wp2_with fail
          refine bodyPost_ret (results_cell_tmp rfl _ _ (X + 1) _ _ rfl (set_five HY01000.out _ _ _ _ _) Tryd.underlying29 rfl (by kernel_rfl)) rfl ?_
          have hf : f = true := by rw [← HF.out]; exact decide_eq_true (⟨(fun _ => by omega), (fun h => by cases h), fun h => absurd h H26.out⟩)
          exact ⟨by rw [HP.out.1, HP.out.2, hf, HOW.out]; rfl, (((((BB01000.out).setCell (by exact Nat.le_succ _) _).setCell (by exact Nat.le_succ _) _).setCell (by exact Nat.le_succ _) _).setCell (by exact Nat.le_succ _) _).setCell (by exact Nat.le_succ _) _⟩
        · have x0 : W0100.cell? ⟨X, 0, none⟩ = some (.int .u32 r0) := F0100.out.cell (fun e => by have := HXZ.out; simp at e; omega) HR.out.1
          have x1 : W0100.cell? ⟨X, 1, none⟩ = some (.int .u32 r1) := F0100.out.cell (fun e => by have := HXZ.out; simp at e; omega) HR.out.2.1
          have x2 : W0100.cell? ⟨X, 2, none⟩ = some (.int .u32 r2) := F0100.out.cell (fun e => by have := HXZ.out; simp at e; omega) HR.out.2.2.1
          have x3 : W0100.cell? ⟨X, 3, none⟩ = some (.int .u32 r3) := F0100.out.cell (fun e => by have := HXZ.out; simp at e; omega) HR.out.2.2.2
          have t1 : W0100.cell? ⟨Z, 1, none⟩ = some (.bool true) := F0100.out.cell (fun e => by simp at e) HT.out.1
          have t2 : W0100.cell? ⟨Z, 2, none⟩ = some (.bool false) := F0100.out.cell (fun e => by simp at e) HT.out.2.1
          have t3 : W0100.cell? ⟨Z, 3, none⟩ = some (.bool false) := F0100.out.cell (fun e => by simp at e) HT.out.2.2.1
          have t4 : W0100.cell? ⟨Z, 4, none⟩ = some (.bool true) := F0100.out.cell (fun e => by simp at e) HT.out.2.2.2
          have z0 : W0100.cell? ⟨Z + 1, 0, none⟩ = some (.int .i64 n) := by rw [(row_cell HQ0100.out 0).1]; rfl
          have zz0 : W0100.frozen? ⟨Z + 1, 0, none⟩ = false := (row_cell HQ0100.out 0).2
          have z1 : W0100.cell? ⟨Z + 1, 1, none⟩ = some (.int .i64 r0) := by rw [(row_cell HQ0100.out 1).1]; rfl
          have zz1 : W0100.frozen? ⟨Z + 1, 1, none⟩ = false := (row_cell HQ0100.out 1).2
          have z2 : W0100.cell? ⟨Z + 1, 2, none⟩ = some (.int .u32 0) := by rw [(row_cell HQ0100.out 2).1]; rfl
          have zz2 : W0100.frozen? ⟨Z + 1, 2, none⟩ = false := (row_cell HQ0100.out 2).2
          have z3 : W0100.cell? ⟨Z + 1, 3, none⟩ = some (.int .i64 0) := by rw [(row_cell HQ0100.out 3).1]; rfl
          have zz3 : W0100.frozen? ⟨Z + 1, 3, none⟩ = false := (row_cell HQ0100.out 3).2
          have z4 : W0100.cell? ⟨Z + 1, 4, none⟩ = some (.int .i64 0) := by rw [(row_cell HQ0100.out 4).1]; rfl
          have zz4 : W0100.frozen? ⟨Z + 1, 4, none⟩ = false := (row_cell HQ0100.out 4).2
          by_cases g3 : r3 = 4294967295
          · have k3 : (r3 == 4294967295) = true := by simpa using g3
            have e9 : tt = -1 := by rw [← HTT.out, g3]; rfl
            subst e9
            have G3 := Lib.hid g3
            subst g3
            go_upto_region 19 with fail
            obtain ⟨W01001, hW01001⟩ : ∃ W, (W0100.setCell ⟨Z + 1, 4, none⟩ (.int .i64 4294967295)).setCell ⟨Z + 1, 4, none⟩ (.int .i64 (-1)) = W := ⟨_, rfl⟩
            rw [hW01001]
            have HQ01001 : Hid (W01001.heap[Z + 1]? = some (.cells #[.int .i64 n, .int .i64 r0, .int .u32 0, .int .i64 0, .int .i64 (-1)] 29 (0, 0))) := by unfold Hid; rw [← hW01001]; exact set_at (set_at HQ0100.out 4 _) 4 _
            have F01001 : Hid (Fo (fun b => b = Z + 1) w3 W01001) := by unfold Hid; rw [← hW01001]; exact (F0100.out.setCell (.inl rfl) 4 _).setCell (.inl rfl) 4 _
            clear hW01001 x0 x1 x2 x3 t1 t2 t3 t4 z0 zz0 z1 zz1 z2 zz2 z3 zz3 z4 zz4
            have HY01001 : Hid (W01001.heap[X + 1]? = some (.cells #[.int .i64 0, .int .i64 0, .int .u32 0, .int .i64 0, .int .i64 0] 29 (0, 0))) := (F01001.out.block (X + 1) (Array.getElem?_eq_some_iff.1 HY.out).1 (by have := HXZ.out; omega)).trans HY.out
            have BB01001 : Hid (Below X w W01001) := HB3.out.trans (F01001.out.below (fun b hb => by have := HXZ.out; omega) (by have := (Array.getElem?_eq_some_iff.1 HY.out).1; omega))
            have y0 : W01001.cell? ⟨X + 1, 0, none⟩ = some (.int .i64 0) := by rw [(row_cell HY01001.out 0).1]; rfl
            have yz0 : W01001.frozen? ⟨X + 1, 0, none⟩ = false := (row_cell HY01001.out 0).2
            have y1 : W01001.cell? ⟨X + 1, 1, none⟩ = some (.int .i64 0) := by rw [(row_cell HY01001.out 1).1]; rfl
            have yz1 : W01001.frozen? ⟨X + 1, 1, none⟩ = false := (row_cell HY01001.out 1).2
            have y2 : W01001.cell? ⟨X + 1, 2, none⟩ = some (.int .u32 0) := by rw [(row_cell HY01001.out 2).1]; rfl
            have yz2 : W01001.frozen? ⟨X + 1, 2, none⟩ = false := (row_cell HY01001.out 2).2
            have y3 : W01001.cell? ⟨X + 1, 3, none⟩ = some (.int .i64 0) := by rw [(row_cell HY01001.out 3).1]; rfl
            have yz3 : W01001.frozen? ⟨X + 1, 3, none⟩ = false := (row_cell HY01001.out 3).2
            have y4 : W01001.cell? ⟨X + 1, 4, none⟩ = some (.int .i64 0) := by rw [(row_cell HY01001.out 4).1]; rfl
            have yz4 : W01001.frozen? ⟨X + 1, 4, none⟩ = false := (row_cell HY01001.out 4).2
            have z0 : W01001.cell? ⟨Z + 1, 0, none⟩ = some (.int .i64 n) := by rw [(row_cell HQ01001.out 0).1]; rfl
            have z1 : W01001.cell? ⟨Z + 1, 1, none⟩ = some (.int .i64 r0) := by rw [(row_cell HQ01001.out 1).1]; rfl
            have z2 : W01001.cell? ⟨Z + 1, 2, none⟩ = some (.int .u32 0) := by rw [(row_cell HQ01001.out 2).1]; rfl
            have z3 : W01001.cell? ⟨Z + 1, 3, none⟩ = some (.int .i64 0) := by rw [(row_cell HQ01001.out 3).1]; rfl
            have z4 : W01001.cell? ⟨Z + 1, 4, none⟩ = some (.int .i64 (-1)) := by rw [(row_cell HQ01001.out 4).1]; rfl
            go_wp2_with fail
            refine bodyPost_ret (results_cell_tmp rfl _ _ (X + 1) _ _ rfl (set_five HY01001.out _ _ _ _ _) Tryd.underlying29 rfl (by kernel_rfl)) rfl ?_
            have hf : f = true := by rw [← HF.out]; exact decide_eq_true (⟨(fun _ => by omega), (fun h => by cases h), fun h => absurd h H26.out⟩)
            exact ⟨by rw [HP.out.1, HP.out.2, hf, HOW.out]; rfl, (((((BB01001.out).setCell (by exact Nat.le_succ _) _).setCell (by exact Nat.le_succ _) _).setCell (by exact Nat.le_succ _) _).setCell (by exact Nat.le_succ _) _).setCell (by exact Nat.le_succ _) _⟩
          have k3 : (r3 == 4294967295) = false := by simpa using g3
          have e9 : r3 = tt := by rw [← HTT.out]; unfold tickV; rw [if_neg g3]
          subst e9
          go_upto_region 19 with fail
          obtain ⟨W01002, hW01002⟩ : ∃ W, W0100.setCell ⟨Z + 1, 4, none⟩ (.int .i64 r3) = W := ⟨_, rfl⟩
          rw [hW01002]
          have HQ01002 : Hid (W01002.heap[Z + 1]? = some (.cells #[.int .i64 n, .int .i64 r0, .int .u32 0, .int .i64 0, .int .i64 r3] 29 (0, 0))) := by unfold Hid; rw [← hW01002]; exact set_at HQ0100.out 4 _
          have F01002 : Hid (Fo (fun b => b = Z + 1) w3 W01002) := by unfold Hid; rw [← hW01002]; exact F0100.out.setCell (.inl rfl) 4 _
          clear hW01002 x0 x1 x2 x3 t1 t2 t3 t4 z0 zz0 z1 zz1 z2 zz2 z3 zz3 z4 zz4
          have HY01002 : Hid (W01002.heap[X + 1]? = some (.cells #[.int .i64 0, .int .i64 0, .int .u32 0, .int .i64 0, .int .i64 0] 29 (0, 0))) := (F01002.out.block (X + 1) (Array.getElem?_eq_some_iff.1 HY.out).1 (by have := HXZ.out; omega)).trans HY.out
          have BB01002 : Hid (Below X w W01002) := HB3.out.trans (F01002.out.below (fun b hb => by have := HXZ.out; omega) (by have := (Array.getElem?_eq_some_iff.1 HY.out).1; omega))
          have y0 : W01002.cell? ⟨X + 1, 0, none⟩ = some (.int .i64 0) := by rw [(row_cell HY01002.out 0).1]; rfl
          have yz0 : W01002.frozen? ⟨X + 1, 0, none⟩ = false := (row_cell HY01002.out 0).2
          have y1 : W01002.cell? ⟨X + 1, 1, none⟩ = some (.int .i64 0) := by rw [(row_cell HY01002.out 1).1]; rfl
          have yz1 : W01002.frozen? ⟨X + 1, 1, none⟩ = false := (row_cell HY01002.out 1).2
          have y2 : W01002.cell? ⟨X + 1, 2, none⟩ = some (.int .u32 0) := by rw [(row_cell HY01002.out 2).1]; rfl
          have yz2 : W01002.frozen? ⟨X + 1, 2, none⟩ = false := (row_cell HY01002.out 2).2
          have y3 : W01002.cell? ⟨X + 1, 3, none⟩ = some (.int .i64 0) := by rw [(row_cell HY01002.out 3).1]; rfl
          have yz3 : W01002.frozen? ⟨X + 1, 3, none⟩ = false := (row_cell HY01002.out 3).2
          have y4 : W01002.cell? ⟨X + 1, 4, none⟩ = some (.int .i64 0) := by rw [(row_cell HY01002.out 4).1]; rfl
          have yz4 : W01002.frozen? ⟨X + 1, 4, none⟩ = false := (row_cell HY01002.out 4).2
          have z0 : W01002.cell? ⟨Z + 1, 0, none⟩ = some (.int .i64 n) := by rw [(row_cell HQ01002.out 0).1]; rfl
          have z1 : W01002.cell? ⟨Z + 1, 1, none⟩ = some (.int .i64 r0) := by rw [(row_cell HQ01002.out 1).1]; rfl
          have z2 : W01002.cell? ⟨Z + 1, 2, none⟩ = some (.int .u32 0) := by rw [(row_cell HQ01002.out 2).1]; rfl
          have z3 : W01002.cell? ⟨Z + 1, 3, none⟩ = some (.int .i64 0) := by rw [(row_cell HQ01002.out 3).1]; rfl
          have z4 : W01002.cell? ⟨Z + 1, 4, none⟩ = some (.int .i64 r3) := by rw [(row_cell HQ01002.out 4).1]; rfl
          go_wp2_with fail
          refine bodyPost_ret (results_cell_tmp rfl _ _ (X + 1) _ _ rfl (set_five HY01002.out _ _ _ _ _) Tryd.underlying29 rfl (by kernel_rfl)) rfl ?_
          have hf : f = true := by rw [← HF.out]; exact decide_eq_true (⟨(fun _ => by omega), (fun h => by cases h), fun h => absurd h H26.out⟩)
          exact ⟨by rw [HP.out.1, HP.out.2, hf, HOW.out]; rfl, (((((BB01002.out).setCell (by exact Nat.le_succ _) _).setCell (by exact Nat.le_succ _) _).setCell (by exact Nat.le_succ _) _).setCell (by exact Nat.le_succ _) _).setCell (by exact Nat.le_succ _) _⟩
      · have x0 : W010.cell? ⟨X, 0, none⟩ = some (.int .u32 r0) := F010.out.cell (fun e => by have := HXZ.out; simp at e; omega) HR.out.1
        have x1 : W010.cell? ⟨X, 1, none⟩ = some (.int .u32 r1) := F010.out.cell (fun e => by have := HXZ.out; simp at e; omega) HR.out.2.1
        have x2 : W010.cell? ⟨X, 2, none⟩ = some (.int .u32 r2) := F010.out.cell (fun e => by have := HXZ.out; simp at e; omega) HR.out.2.2.1
        have x3 : W010.cell? ⟨X, 3, none⟩ = some (.int .u32 r3) := F010.out.cell (fun e => by have := HXZ.out; simp at e; omega) HR.out.2.2.2
        have t1 : W010.cell? ⟨Z, 1, none⟩ = some (.bool true) := F010.out.cell (fun e => by simp at e) HT.out.1
        have t2 : W010.cell? ⟨Z, 2, none⟩ = some (.bool false) := F010.out.cell (fun e => by simp at e) HT.out.2.1
        have t3 : W010.cell? ⟨Z, 3, none⟩ = some (.bool true) := F010.out.cell (fun e => by simp at e) HT.out.2.2.1
        have t4 : W010.cell? ⟨Z, 4, none⟩ = some (.bool bt) := F010.out.cell (fun e => by simp at e) HT.out.2.2.2
        by_cases g2 : 32 < r2
        · have k2 : decide (32 < r2) = true := by simp only [g2, decide_true]
          have HY010 : Hid (W010.heap[X + 1]? = some (.cells #[.int .i64 0, .int .i64 0, .int .u32 0, .int .i64 0, .int .i64 0] 29 (0, 0))) := (F010.out.block (X + 1) (Array.getElem?_eq_some_iff.1 HY.out).1 (by have := HXZ.out; omega)).trans HY.out
          have BB010 : Hid (Below X w W010) := HB3.out.trans (F010.out.below (fun b hb => by have := HXZ.out; omega) (by have := (Array.getElem?_eq_some_iff.1 HY.out).1; omega))
          have y0 : W010.cell? ⟨X + 1, 0, none⟩ = some (.int .i64 0) := by rw [(row_cell HY010.out 0).1]; rfl
          have yz0 : W010.frozen? ⟨X + 1, 0, none⟩ = false := (row_cell HY010.out 0).2
          have y1 : W010.cell? ⟨X + 1, 1, none⟩ = some (.int .i64 0) := by rw [(row_cell HY010.out 1).1]; rfl
          have yz1 : W010.frozen? ⟨X + 1, 1, none⟩ = false := (row_cell HY010.out 1).2
          have y2 : W010.cell? ⟨X + 1, 2, none⟩ = some (.int .u32 0) := by rw [(row_cell HY010.out 2).1]; rfl
          have yz2 : W010.frozen? ⟨X + 1, 2, none⟩ = false := (row_cell HY010.out 2).2
          have y3 : W010.cell? ⟨X + 1, 3, none⟩ = some (.int .i64 0) := by rw [(row_cell HY010.out 3).1]; rfl
          have yz3 : W010.frozen? ⟨X + 1, 3, none⟩ = false := (row_cell HY010.out 3).2
          have y4 : W010.cell? ⟨X + 1, 4, none⟩ = some (.int .i64 0) := by rw [(row_cell HY010.out 4).1]; rfl
          have yz4 : W010.frozen? ⟨X + 1, 4, none⟩ = false := (row_cell HY010.out 4).2
          go_wp2_with fail
          refine bodyPost_ret (results_cell_tmp rfl _ _ (X + 1) _ _ rfl (set_five HY010.out _ _ _ _ _) Tryd.underlying29 rfl (by kernel_rfl)) rfl ?_
          have hf : f = false := by rw [← HF.out]; exact decide_eq_false (fun h => by have := h.2.1 (by simp); omega)
          exact ⟨by rw [HP.out.1, HP.out.2, hf]; rfl, (((((BB010.out).setCell (by exact Nat.le_succ _) _).setCell (by exact Nat.le_succ _) _).setCell (by exact Nat.le_succ _) _).setCell (by exact Nat.le_succ _) _).setCell (by exact Nat.le_succ _) _⟩
        have k2 : decide (32 < r2) = false := by simp only [g2, decide_false]
        have z0 : W010.cell? ⟨Z + 1, 0, none⟩ = some (.int .i64 n) := by rw [(row_cell HQ010.out 0).1]; rfl
        have zz0 : W010.frozen? ⟨Z + 1, 0, none⟩ = false := (row_cell HQ010.out 0).2
        have z1 : W010.cell? ⟨Z + 1, 1, none⟩ = some (.int .i64 r0) := by rw [(row_cell HQ010.out 1).1]; rfl
        have zz1 : W010.frozen? ⟨Z + 1, 1, none⟩ = false := (row_cell HQ010.out 1).2
        have z2 : W010.cell? ⟨Z + 1, 2, none⟩ = some (.int .u32 0) := by rw [(row_cell HQ010.out 2).1]; rfl
        have zz2 : W010.frozen? ⟨Z + 1, 2, none⟩ = false := (row_cell HQ010.out 2).2
        have z3 : W010.cell? ⟨Z + 1, 3, none⟩ = some (.int .i64 0) := by rw [(row_cell HQ010.out 3).1]; rfl
        have zz3 : W010.frozen? ⟨Z + 1, 3, none⟩ = false := (row_cell HQ010.out 3).2
        have z4 : W010.cell? ⟨Z + 1, 4, none⟩ = some (.int .i64 0) := by rw [(row_cell HQ010.out 4).1]; rfl
        have zz4 : W010.frozen? ⟨Z + 1, 4, none⟩ = false := (row_cell HQ010.out 4).2
        go_upto_region 15 with fail
        obtain ⟨W0101, hW0101⟩ : ∃ W, W010.setCell ⟨Z + 1, 3, none⟩ (.int .i64 r2) = W := ⟨_, rfl⟩
        rw [hW0101]
        have HQ0101 : Hid (W0101.heap[Z + 1]? = some (.cells #[.int .i64 n, .int .i64 r0, .int .u32 0, .int .i64 r2, .int .i64 0] 29 (0, 0))) := by unfold Hid; rw [← hW0101]; exact set_at HQ010.out 3 _
        have F0101 : Hid (Fo (fun b => b = Z + 1) w3 W0101) := by unfold Hid; rw [← hW0101]; exact F010.out.setCell (.inl rfl) 3 _
        clear hW0101 x0 x1 x2 x3 t1 t2 t3 t4 z0 zz0 z1 zz1 z2 zz2 z3 zz3 z4 zz4
        cases bt
        · have x0 : W0101.cell? ⟨X, 0, none⟩ = some (.int .u32 r0) := F0101.out.cell (fun e => by have := HXZ.out; simp at e; omega) HR.out.1
          have x1 : W0101.cell? ⟨X, 1, none⟩ = some (.int .u32 r1) := F0101.out.cell (fun e => by have := HXZ.out; simp at e; omega) HR.out.2.1
          have x2 : W0101.cell? ⟨X, 2, none⟩ = some (.int .u32 r2) := F0101.out.cell (fun e => by have := HXZ.out; simp at e; omega) HR.out.2.2.1
          have x3 : W0101.cell? ⟨X, 3, none⟩ = some (.int .u32 r3) := F0101.out.cell (fun e => by have := HXZ.out; simp at e; omega) HR.out.2.2.2
          have t1 : W0101.cell? ⟨Z, 1, none⟩ = some (.bool true) := F0101.out.cell (fun e => by simp at e) HT.out.1
          have t2 : W0101.cell? ⟨Z, 2, none⟩ = some (.bool false) := F0101.out.cell (fun e => by simp at e) HT.out.2.1
          have t3 : W0101.cell? ⟨Z, 3, none⟩ = some (.bool true) := F0101.out.cell (fun e => by simp at e) HT.out.2.2.1
          have t4 : W0101.cell? ⟨Z, 4, none⟩ = some (.bool false) := F0101.out.cell (fun e => by simp at e) HT.out.2.2.2
          go_upto_region 19 with fail
          obtain ⟨W01010, hW01010⟩ : ∃ W, W = W0101 := ⟨_, rfl⟩
          subst hW01010
          have HQ01010 := HQ0101
          have F01010 := F0101
          clear x0 x1 x2 x3 t1 t2 t3 t4
          have HY01010 : Hid (W01010.heap[X + 1]? = some (.cells #[.int .i64 0, .int .i64 0, .int .u32 0, .int .i64 0, .int .i64 0] 29 (0, 0))) := (F01010.out.block (X + 1) (Array.getElem?_eq_some_iff.1 HY.out).1 (by have := HXZ.out; omega)).trans HY.out
          have BB01010 : Hid (Below X w W01010) := HB3.out.trans (F01010.out.below (fun b hb => by have := HXZ.out; omega) (by have := (Array.getElem?_eq_some_iff.1 HY.out).1; omega))
          have y0 : W01010.cell? ⟨X + 1, 0, none⟩ = some (.int .i64 0) := by rw [(row_cell HY01010.out 0).1]; rfl
          have yz0 : W01010.frozen? ⟨X + 1, 0, none⟩ = false := (row_cell HY01010.out 0).2
          have y1 : W01010.cell? ⟨X + 1, 1, none⟩ = some (.int .i64 0) := by rw [(row_cell HY01010.out 1).1]; rfl
          have yz1 : W01010.frozen? ⟨X + 1, 1, none⟩ = false := (row_cell HY01010.out 1).2
          have y2 : W01010.cell? ⟨X + 1, 2, none⟩ = some (.int .u32 0) := by rw [(row_cell HY01010.out 2).1]; rfl
          have yz2 : W01010.frozen? ⟨X + 1, 2, none⟩ = false := (row_cell HY01010.out 2).2
          have y3 : W01010.cell? ⟨X + 1, 3, none⟩ = some (.int .i64 0) := by rw [(row_cell HY01010.out 3).1]; rfl
          have yz3 : W01010.frozen? ⟨X + 1, 3, none⟩ = false := (row_cell HY01010.out 3).2
          have y4 : W01010.cell? ⟨X + 1, 4, none⟩ = some (.int .i64 0) := by rw [(row_cell HY01010.out 4).1]; rfl
          have yz4 : W01010.frozen? ⟨X + 1, 4, none⟩ = false := (row_cell HY01010.out 4).2
          have z0 : W01010.cell? ⟨Z + 1, 0, none⟩ = some (.int .i64 n) := by rw [(row_cell HQ01010.out 0).1]; rfl
          have z1 : W01010.cell? ⟨Z + 1, 1, none⟩ = some (.int .i64 r0) := by rw [(row_cell HQ01010.out 1).1]; rfl
          have z2 : W01010.cell? ⟨Z + 1, 2, none⟩ = some (.int .u32 0) := by rw [(row_cell HQ01010.out 2).1]; rfl
          have z3 : W01010.cell? ⟨Z + 1, 3, none⟩ = some (.int .i64 r2) := by rw [(row_cell HQ01010.out 3).1]; rfl
          have z4 : W01010.cell? ⟨Z + 1, 4, none⟩ = some (.int .i64 0) := by rw [(row_cell HQ01010.out 4).1]; rfl
          go_wp2_with fail
          refine bodyPost_ret (results_cell_tmp rfl _ _ (X + 1) _ _ rfl (set_five HY01010.out _ _ _ _ _) Tryd.underlying29 rfl (by kernel_rfl)) rfl ?_
          have hf : f = true := by rw [← HF.out]; exact decide_eq_true (⟨(fun _ => by omega), (fun _ => by omega), fun h => absurd h H26.out⟩)
          exact ⟨by rw [HP.out.1, HP.out.2, hf, HOW.out]; rfl, (((((BB01010.out).setCell (by exact Nat.le_succ _) _).setCell (by exact Nat.le_succ _) _).setCell (by exact Nat.le_succ _) _).setCell (by exact Nat.le_succ _) _).setCell (by exact Nat.le_succ _) _⟩
        · have x0 : W0101.cell? ⟨X, 0, none⟩ = some (.int .u32 r0) := F0101.out.cell (fun e => by have := HXZ.out; simp at e; omega) HR.out.1
          have x1 : W0101.cell? ⟨X, 1, none⟩ = some (.int .u32 r1) := F0101.out.cell (fun e => by have := HXZ.out; simp at e; omega) HR.out.2.1
          have x2 : W0101.cell? ⟨X, 2, none⟩ = some (.int .u32 r2) := F0101.out.cell (fun e => by have := HXZ.out; simp at e; omega) HR.out.2.2.1
          have x3 : W0101.cell? ⟨X, 3, none⟩ = some (.int .u32 r3) := F0101.out.cell (fun e => by have := HXZ.out; simp at e; omega) HR.out.2.2.2
          have t1 : W0101.cell? ⟨Z, 1, none⟩ = some (.bool true) := F0101.out.cell (fun e => by simp at e) HT.out.1
          have t2 : W0101.cell? ⟨Z, 2, none⟩ = some (.bool false) := F0101.out.cell (fun e => by simp at e) HT.out.2.1
          have t3 : W0101.cell? ⟨Z, 3, none⟩ = some (.bool true) := F0101.out.cell (fun e => by simp at e) HT.out.2.2.1
          have t4 : W0101.cell? ⟨Z, 4, none⟩ = some (.bool true) := F0101.out.cell (fun e => by simp at e) HT.out.2.2.2
          have z0 : W0101.cell? ⟨Z + 1, 0, none⟩ = some (.int .i64 n) := by rw [(row_cell HQ0101.out 0).1]; rfl
          have zz0 : W0101.frozen? ⟨Z + 1, 0, none⟩ = false := (row_cell HQ0101.out 0).2
          have z1 : W0101.cell? ⟨Z + 1, 1, none⟩ = some (.int .i64 r0) := by rw [(row_cell HQ0101.out 1).1]; rfl
          have zz1 : W0101.frozen? ⟨Z + 1, 1, none⟩ = false := (row_cell HQ0101.out 1).2
          have z2 : W0101.cell? ⟨Z + 1, 2, none⟩ = some (.int .u32 0) := by rw [(row_cell HQ0101.out 2).1]; rfl
          have zz2 : W0101.frozen? ⟨Z + 1, 2, none⟩ = false := (row_cell HQ0101.out 2).2
          have z3 : W0101.cell? ⟨Z + 1, 3, none⟩ = some (.int .i64 r2) := by rw [(row_cell HQ0101.out 3).1]; rfl
          have zz3 : W0101.frozen? ⟨Z + 1, 3, none⟩ = false := (row_cell HQ0101.out 3).2
          have z4 : W0101.cell? ⟨Z + 1, 4, none⟩ = some (.int .i64 0) := by rw [(row_cell HQ0101.out 4).1]; rfl
          have zz4 : W0101.frozen? ⟨Z + 1, 4, none⟩ = false := (row_cell HQ0101.out 4).2
          by_cases g3 : r3 = 4294967295
          · have k3 : (r3 == 4294967295) = true := by simpa using g3
            have e9 : tt = -1 := by rw [← HTT.out, g3]; rfl
            subst e9
            have G3 := Lib.hid g3
            subst g3
            go_upto_region 19 with fail
            obtain ⟨W01011, hW01011⟩ : ∃ W, (W0101.setCell ⟨Z + 1, 4, none⟩ (.int .i64 4294967295)).setCell ⟨Z + 1, 4, none⟩ (.int .i64 (-1)) = W := ⟨_, rfl⟩
            rw [hW01011]
            have HQ01011 : Hid (W01011.heap[Z + 1]? = some (.cells #[.int .i64 n, .int .i64 r0, .int .u32 0, .int .i64 r2, .int .i64 (-1)] 29 (0, 0))) := by unfold Hid; rw [← hW01011]; exact set_at (set_at HQ0101.out 4 _) 4 _
            have F01011 : Hid (Fo (fun b => b = Z + 1) w3 W01011) := by unfold Hid; rw [← hW01011]; exact (F0101.out.setCell (.inl rfl) 4 _).setCell (.inl rfl) 4 _
            clear hW01011 x0 x1 x2 x3 t1 t2 t3 t4 z0 zz0 z1 zz1 z2 zz2 z3 zz3 z4 zz4
            have HY01011 : Hid (W01011.heap[X + 1]? = some (.cells #[.int .i64 0, .int .i64 0, .int .u32 0, .int .i64 0, .int .i64 0] 29 (0, 0))) := (F01011.out.block (X + 1) (Array.getElem?_eq_some_iff.1 HY.out).1 (by have := HXZ.out; omega)).trans HY.out
            have BB01011 : Hid (Below X w W01011) := HB3.out.trans (F01011.out.below (fun b hb => by have := HXZ.out; omega) (by have := (Array.getElem?_eq_some_iff.1 HY.out).1; omega))
            have y0 : W01011.cell? ⟨X + 1, 0, none⟩ = some (.int .i64 0) := by rw [(row_cell HY01011.out 0).1]; rfl
            have yz0 : W01011.frozen? ⟨X + 1, 0, none⟩ = false := (row_cell HY01011.out 0).2
            have y1 : W01011.cell? ⟨X + 1, 1, none⟩ = some (.int .i64 0) := by rw [(row_cell HY01011.out 1).1]; rfl
            have yz1 : W01011.frozen? ⟨X + 1, 1, none⟩ = false := (row_cell HY01011.out 1).2
            have y2 : W01011.cell? ⟨X + 1, 2, none⟩ = some (.int .u32 0) := by rw [(row_cell HY01011.out 2).1]; rfl
            have yz2 : W01011.frozen? ⟨X + 1, 2, none⟩ = false := (row_cell HY01011.out 2).2
            have y3 : W01011.cell? ⟨X + 1, 3, none⟩ = some (.int .i64 0) := by rw [(row_cell HY01011.out 3).1]; rfl
            have yz3 : W01011.frozen? ⟨X + 1, 3, none⟩ = false := (row_cell HY01011.out 3).2
            have y4 : W01011.cell? ⟨X + 1, 4, none⟩ = some (.int .i64 0) := by rw [(row_cell HY01011.out 4).1]; rfl
            have yz4 : W01011.frozen? ⟨X + 1, 4, none⟩ = false := (row_cell HY01011.out 4).2
            have z0 : W01011.cell? ⟨Z + 1, 0, none⟩ = some (.int .i64 n) := by rw [(row_cell HQ01011.out 0).1]; rfl
            have z1 : W01011.cell? ⟨Z + 1, 1, none⟩ = some (.int .i64 r0) := by rw [(row_cell HQ01011.out 1).1]; rfl
            have z2 : W01011.cell? ⟨Z + 1, 2, none⟩ = some (.int .u32 0) := by rw [(row_cell HQ01011.out 2).1]; rfl
            have z3 : W01011.cell? ⟨Z + 1, 3, none⟩ = some (.int .i64 r2) := by rw [(row_cell HQ01011.out 3).1]; rfl
            have z4 : W01011.cell? ⟨Z + 1, 4, none⟩ = some (.int .i64 (-1)) := by rw [(row_cell HQ01011.out 4).1]; rfl
            go_wp2_with fail
            refine bodyPost_ret (results_cell_tmp rfl _ _ (X + 1) _ _ rfl (set_five HY01011.out _ _ _ _ _) Tryd.underlying29 rfl (by kernel_rfl)) rfl ?_
            have hf : f = true := by rw [← HF.out]; exact decide_eq_true (⟨(fun _ => by omega), (fun _ => by omega), fun h => absurd h H26.out⟩)
            exact ⟨by rw [HP.out.1, HP.out.2, hf, HOW.out]; rfl, (((((BB01011.out).setCell (by exact Nat.le_succ _) _).setCell (by exact Nat.le_succ _) _).setCell (by exact Nat.le_succ _) _).setCell (by exact Nat.le_succ _) _).setCell (by exact Nat.le_succ _) _⟩
          have k3 : (r3 == 4294967295) = false := by simpa using g3
          have e9 : r3 = tt := by rw [← HTT.out]; unfold tickV; rw [if_neg g3]
          subst e9
          go_upto_region 19 with fail
          obtain ⟨W01012, hW01012⟩ : ∃ W, W0101.setCell ⟨Z + 1, 4, none⟩ (.int .i64 r3) = W := ⟨_, rfl⟩
          rw [hW01012]
          have HQ01012 : Hid (W01012.heap[Z + 1]? = some (.cells #[.int .i64 n, .int .i64 r0, .int .u32 0, .int .i64 r2, .int .i64 r3] 29 (0, 0))) := by unfold Hid; rw [← hW01012]; exact set_at HQ0101.out 4 _
          have F01012 : Hid (Fo (fun b => b = Z + 1) w3 W01012) := by unfold Hid; rw [← hW01012]; exact F0101.out.setCell (.inl rfl) 4 _
          clear hW01012 x0 x1 x2 x3 t1 t2 t3 t4 z0 zz0 z1 zz1 z2 zz2 z3 zz3 z4 zz4
          have HY01012 : Hid (W01012.heap[X + 1]? = some (.cells #[.int .i64 0, .int .i64 0, .int .u32 0, .int .i64 0, .int .i64 0] 29 (0, 0))) := (F01012.out.block (X + 1) (Array.getElem?_eq_some_iff.1 HY.out).1 (by have := HXZ.out; omega)).trans HY.out
          have BB01012 : Hid (Below X w W01012) := HB3.out.trans (F01012.out.below (fun b hb => by have := HXZ.out; omega) (by have := (Array.getElem?_eq_some_iff.1 HY.out).1; omega))
          have y0 : W01012.cell? ⟨X + 1, 0, none⟩ = some (.int .i64 0) := by rw [(row_cell HY01012.out 0).1]; rfl
          have yz0 : W01012.frozen? ⟨X + 1, 0, none⟩ = false := (row_cell HY01012.out 0).2
          have y1 : W01012.cell? ⟨X + 1, 1, none⟩ = some (.int .i64 0) := by rw [(row_cell HY01012.out 1).1]; rfl
          have yz1 : W01012.frozen? ⟨X + 1, 1, none⟩ = false := (row_cell HY01012.out 1).2
          have y2 : W01012.cell? ⟨X + 1, 2, none⟩ = some (.int .u32 0) := by rw [(row_cell HY01012.out 2).1]; rfl
          have yz2 : W01012.frozen? ⟨X + 1, 2, none⟩ = false := (row_cell HY01012.out 2).2
          have y3 : W01012.cell? ⟨X + 1, 3, none⟩ = some (.int .i64 0) := by rw [(row_cell HY01012.out 3).1]; rfl
          have yz3 : W01012.frozen? ⟨X + 1, 3, none⟩ = false := (row_cell HY01012.out 3).2
          have y4 : W01012.cell? ⟨X + 1, 4, none⟩ = some (.int .i64 0) := by rw [(row_cell HY01012.out 4).1]; rfl
          have yz4 : W01012.frozen? ⟨X + 1, 4, none⟩ = false := (row_cell HY01012.out 4).2
          have z0 : W01012.cell? ⟨Z + 1, 0, none⟩ = some (.int .i64 n) := by rw [(row_cell HQ01012.out 0).1]; rfl
          have z1 : W01012.cell? ⟨Z + 1, 1, none⟩ = some (.int .i64 r0) := by rw [(row_cell HQ01012.out 1).1]; rfl
          have z2 : W01012.cell? ⟨Z + 1, 2, none⟩ = some (.int .u32 0) := by rw [(row_cell HQ01012.out 2).1]; rfl
          have z3 : W01012.cell? ⟨Z + 1, 3, none⟩ = some (.int .i64 r2) := by rw [(row_cell HQ01012.out 3).1]; rfl
          have z4 : W01012.cell? ⟨Z + 1, 4, none⟩ = some (.int .i64 r3) := by rw [(row_cell HQ01012.out 4).1]; rfl
          go_wp2_with fail
          refine bodyPost_ret (results_cell_tmp rfl _ _ (X + 1) _ _ rfl (set_five HY01012.out _ _ _ _ _) Tryd.underlying29 rfl (by kernel_rfl)) rfl ?_
          have hf : f = true := by rw [← HF.out]; exact decide_eq_true (⟨(fun _ => by omega), (fun _ => by omega), fun h => absurd h H26.out⟩)
          exact ⟨by rw [HP.out.1, HP.out.2, hf, HOW.out]; rfl, (((((BB01012.out).setCell (by exact Nat.le_succ _) _).setCell (by exact Nat.le_succ _) _).setCell (by exact Nat.le_succ _) _).setCell (by exact Nat.le_succ _) _).setCell (by exact Nat.le_succ _) _⟩
    · have x0 : W01.cell? ⟨X, 0, none⟩ = some (.int .u32 r0) := F01.out.cell (fun e => by have := HXZ.out; simp at e; omega) HR.out.1
      have x1 : W01.cell? ⟨X, 1, none⟩ = some (.int .u32 r1) := F01.out.cell (fun e => by have := HXZ.out; simp at e; omega) HR.out.2.1
      have x2 : W01.cell? ⟨X, 2, none⟩ = some (.int .u32 r2) := F01.out.cell (fun e => by have := HXZ.out; simp at e; omega) HR.out.2.2.1
      have x3 : W01.cell? ⟨X, 3, none⟩ = some (.int .u32 r3) := F01.out.cell (fun e => by have := HXZ.out; simp at e; omega) HR.out.2.2.2
      have t1 : W01.cell? ⟨Z, 1, none⟩ = some (.bool true) := F01.out.cell (fun e => by simp at e) HT.out.1
      have t2 : W01.cell? ⟨Z, 2, none⟩ = some (.bool true) := F01.out.cell (fun e => by simp at e) HT.out.2.1
      have t3 : W01.cell? ⟨Z, 3, none⟩ = some (.bool bw) := F01.out.cell (fun e => by simp at e) HT.out.2.2.1
      have t4 : W01.cell? ⟨Z, 4, none⟩ = some (.bool bt) := F01.out.cell (fun e => by simp at e) HT.out.2.2.2
      have z0 : W01.cell? ⟨Z + 1, 0, none⟩ = some (.int .i64 n) := by rw [(row_cell HQ01.out 0).1]; rfl
      have zz0 : W01.frozen? ⟨Z + 1, 0, none⟩ = false := (row_cell HQ01.out 0).2
      have z1 : W01.cell? ⟨Z + 1, 1, none⟩ = some (.int .i64 r0) := by rw [(row_cell HQ01.out 1).1]; rfl
      have zz1 : W01.frozen? ⟨Z + 1, 1, none⟩ = false := (row_cell HQ01.out 1).2
      have z2 : W01.cell? ⟨Z + 1, 2, none⟩ = some (.int .u32 0) := by rw [(row_cell HQ01.out 2).1]; rfl
      have zz2 : W01.frozen? ⟨Z + 1, 2, none⟩ = false := (row_cell HQ01.out 2).2
      have z3 : W01.cell? ⟨Z + 1, 3, none⟩ = some (.int .i64 0) := by rw [(row_cell HQ01.out 3).1]; rfl
      have zz3 : W01.frozen? ⟨Z + 1, 3, none⟩ = false := (row_cell HQ01.out 3).2
      have z4 : W01.cell? ⟨Z + 1, 4, none⟩ = some (.int .i64 0) := by rw [(row_cell HQ01.out 4).1]; rfl
      have zz4 : W01.frozen? ⟨Z + 1, 4, none⟩ = false := (row_cell HQ01.out 4).2
      go_upto_region 11 with fail
      obtain ⟨W011, hW011⟩ : ∃ W, W01.setCell ⟨Z + 1, 2, none⟩ (.int .u32 r1) = W := ⟨_, rfl⟩
      rw [hW011]
      have HQ011 : Hid (W011.heap[Z + 1]? = some (.cells #[.int .i64 n, .int .i64 r0, .int .u32 r1, .int .i64 0, .int .i64 0] 29 (0, 0))) := by unfold Hid; rw [← hW011]; exact set_at HQ01.out 2 _
      have F011 : Hid (Fo (fun b => b = Z + 1) w3 W011) := by unfold Hid; rw [← hW011]; exact F01.out.setCell (.inl rfl) 2 _
      clear hW011 x0 x1 x2 x3 t1 t2 t3 t4 z0 zz0 z1 zz1 z2 zz2 z3 zz3 z4 zz4
      cases bw
      · have x0 : W011.cell? ⟨X, 0, none⟩ = some (.int .u32 r0) := F011.out.cell (fun e => by have := HXZ.out; simp at e; omega) HR.out.1
        have x1 : W011.cell? ⟨X, 1, none⟩ = some (.int .u32 r1) := F011.out.cell (fun e => by have := HXZ.out; simp at e; omega) HR.out.2.1
        have x2 : W011.cell? ⟨X, 2, none⟩ = some (.int .u32 r2) := F011.out.cell (fun e => by have := HXZ.out; simp at e; omega) HR.out.2.2.1
        have x3 : W011.cell? ⟨X, 3, none⟩ = some (.int .u32 r3) := F011.out.cell (fun e => by have := HXZ.out; simp at e; omega) HR.out.2.2.2
        have t1 : W011.cell? ⟨Z, 1, none⟩ = some (.bool true) := F011.out.cell (fun e => by simp at e) HT.out.1
        have t2 : W011.cell? ⟨Z, 2, none⟩ = some (.bool true) := F011.out.cell (fun e => by simp at e) HT.out.2.1
        have t3 : W011.cell? ⟨Z, 3, none⟩ = some (.bool false) := F011.out.cell (fun e => by simp at e) HT.out.2.2.1
        have t4 : W011.cell? ⟨Z, 4, none⟩ = some (.bool bt) := F011.out.cell (fun e => by simp at e) HT.out.2.2.2
        go_upto_region 15 with fail
        obtain ⟨W0110, hW0110⟩ : ∃ W, W = W011 := ⟨_, rfl⟩
        subst hW0110
        have HQ0110 := HQ011
        have F0110 := F011
        clear x0 x1 x2 x3 t1 t2 t3 t4
        cases bt
        · have x0 : W0110.cell? ⟨X, 0, none⟩ = some (.int .u32 r0) := F0110.out.cell (fun e => by have := HXZ.out; simp at e; omega) HR.out.1
          have x1 : W0110.cell? ⟨X, 1, none⟩ = some (.int .u32 r1) := F0110.out.cell (fun e => by have := HXZ.out; simp at e; omega) HR.out.2.1
          have x2 : W0110.cell? ⟨X, 2, none⟩ = some (.int .u32 r2) := F0110.out.cell (fun e => by have := HXZ.out; simp at e; omega) HR.out.2.2.1
          have x3 : W0110.cell? ⟨X, 3, none⟩ = some (.int .u32 r3) := F0110.out.cell (fun e => by have := HXZ.out; simp at e; omega) HR.out.2.2.2
          have t1 : W0110.cell? ⟨Z, 1, none⟩ = some (.bool true) := F0110.out.cell (fun e => by simp at e) HT.out.1
          have t2 : W0110.cell? ⟨Z, 2, none⟩ = some (.bool true) := F0110.out.cell (fun e => by simp at e) HT.out.2.1
          have t3 : W0110.cell? ⟨Z, 3, none⟩ = some (.bool false) := F0110.out.cell (fun e => by simp at e) HT.out.2.2.1
          have t4 : W0110.cell? ⟨Z, 4, none⟩ = some (.bool false) := F0110.out.cell (fun e => by simp at e) HT.out.2.2.2
          go_upto_region 19 with fail
          obtain ⟨W01100, hW01100⟩ : ∃ W, W = W0110 := ⟨_, rfl⟩
          subst hW01100
          have HQ01100 := HQ0110
          have F01100 := F0110
          clear x0 x1 x2 x3 t1 t2 t3 t4
          have HY01100 : Hid (W01100.heap[X + 1]? = some (.cells #[.int .i64 0, .int .i64 0, .int .u32 0, .int .i64 0, .int .i64 0] 29 (0, 0))) := (F01100.out.block (X + 1) (Array.getElem?_eq_some_iff.1 HY.out).1 (by have := HXZ.out; omega)).trans HY.out
          have BB01100 : Hid (Below X w W01100) := HB3.out.trans (F01100.out.below (fun b hb => by have := HXZ.out; omega) (by have := (Array.getElem?_eq_some_iff.1 HY.out).1; omega))
          have y0 : W01100.cell? ⟨X + 1, 0, none⟩ = some (.int .i64 0) := by rw [(row_cell HY01100.out 0).1]; rfl
          have yz0 : W01100.frozen? ⟨X + 1, 0, none⟩ = false := (row_cell HY01100.out 0).2
          have y1 : W01100.cell? ⟨X + 1, 1, none⟩ = some (.int .i64 0) := by rw [(row_cell HY01100.out 1).1]; rfl
          have yz1 : W01100.frozen? ⟨X + 1, 1, none⟩ = false := (row_cell HY01100.out 1).2
          have y2 : W01100.cell? ⟨X + 1, 2, none⟩ = some (.int .u32 0) := by rw [(row_cell HY01100.out 2).1]; rfl
          have yz2 : W01100.frozen? ⟨X + 1, 2, none⟩ = false := (row_cell HY01100.out 2).2
          have y3 : W01100.cell? ⟨X + 1, 3, none⟩ = some (.int .i64 0) := by rw [(row_cell HY01100.out 3).1]; rfl
          have yz3 : W01100.frozen? ⟨X + 1, 3, none⟩ = false := (row_cell HY01100.out 3).2
          have y4 : W01100.cell? ⟨X + 1, 4, none⟩ = some (.int .i64 0) := by rw [(row_cell HY01100.out 4).1]; rfl
          have yz4 : W01100.frozen? ⟨X + 1, 4, none⟩ = false := (row_cell HY01100.out 4).2
          have z0 : W01100.cell? ⟨Z + 1, 0, none⟩ = some (.int .i64 n) := by rw [(row_cell HQ01100.out 0).1]; rfl
          have z1 : W01100.cell? ⟨Z + 1, 1, none⟩ = some (.int .i64 r0) := by rw [(row_cell HQ01100.out 1).1]; rfl
          have z2 : W01100.cell? ⟨Z + 1, 2, none⟩ = some (.int .u32 r1) := by rw [(row_cell HQ01100.out 2).1]; rfl
          have z3 : W01100.cell? ⟨Z + 1, 3, none⟩ = some (.int .i64 0) := by rw [(row_cell HQ01100.out 3).1]; rfl
          have z4 : W01100.cell? ⟨Z + 1, 4, none⟩ = some (.int .i64 0) := by rw [(row_cell HQ01100.out 4).1]; rfl
          go_wp2_with fail
          refine bodyPost_ret (results_cell_tmp rfl _ _ (X + 1) _ _ rfl (set_five HY01100.out _ _ _ _ _) Tryd.underlying29 rfl (by kernel_rfl)) rfl ?_
          have hf : f = true := by rw [← HF.out]; exact decide_eq_true (⟨(fun _ => by omega), (fun h => by cases h), fun h => absurd h H26.out⟩)
          exact ⟨by rw [HP.out.1, HP.out.2, hf, HOW.out]; rfl, (((((BB01100.out).setCell (by exact Nat.le_succ _) _).setCell (by exact Nat.le_succ _) _).setCell (by exact Nat.le_succ _) _).setCell (by exact Nat.le_succ _) _).setCell (by exact Nat.le_succ _) _⟩
        · have x0 : W0110.cell? ⟨X, 0, none⟩ = some (.int .u32 r0) := F0110.out.cell (fun e => by have := HXZ.out; simp at e; omega) HR.out.1
          have x1 : W0110.cell? ⟨X, 1, none⟩ = some (.int .u32 r1) := F0110.out.cell (fun e => by have := HXZ.out; simp at e; omega) HR.out.2.1
          have x2 : W0110.cell? ⟨X, 2, none⟩ = some (.int .u32 r2) := F0110.out.cell (fun e => by have := HXZ.out; simp at e; omega) HR.out.2.2.1
          have x3 : W0110.cell? ⟨X, 3, none⟩ = some (.int .u32 r3) := F0110.out.cell (fun e => by have := HXZ.out; simp at e; omega) HR.out.2.2.2
          have t1 : W0110.cell? ⟨Z, 1, none⟩ = some (.bool true) := F0110.out.cell (fun e => by simp at e) HT.out.1
          have t2 : W0110.cell? ⟨Z, 2, none⟩ = some (.bool true) := F0110.out.cell (fun e => by simp at e) HT.out.2.1
          have t3 : W0110.cell? ⟨Z, 3, none⟩ = some (.bool false) := F0110.out.cell (fun e => by simp at e) HT.out.2.2.1
          have t4 : W0110.cell? ⟨Z, 4, none⟩ = some (.bool true) := F0110.out.cell (fun e => by simp at e) HT.out.2.2.2
          have z0 : W0110.cell? ⟨Z + 1, 0, none⟩ = some (.int .i64 n) := by rw [(row_cell HQ0110.out 0).1]; rfl
          have zz0 : W0110.frozen? ⟨Z + 1, 0, none⟩ = false := (row_cell HQ0110.out 0).2
          have z1 : W0110.cell? ⟨Z + 1, 1, none⟩ = some (.int .i64 r0) := by rw [(row_cell HQ0110.out 1).1]; rfl
          have zz1 : W0110.frozen? ⟨Z + 1, 1, none⟩ = false := (row_cell HQ0110.out 1).2
          have z2 : W0110.cell? ⟨Z + 1, 2, none⟩ = some (.int .u32 r1) := by rw [(row_cell HQ0110.out 2).1]; rfl
          have zz2 : W0110.frozen? ⟨Z + 1, 2, none⟩ = false := (row_cell HQ0110.out 2).2
          have z3 : W0110.cell? ⟨Z + 1, 3, none⟩ = some (.int .i64 0) := by rw [(row_cell HQ0110.out 3).1]; rfl
          have zz3 : W0110.frozen? ⟨Z + 1, 3, none⟩ = false := (row_cell HQ0110.out 3).2
          have z4 : W0110.cell? ⟨Z + 1, 4, none⟩ = some (.int .i64 0) := by rw [(row_cell HQ0110.out 4).1]; rfl
          have zz4 : W0110.frozen? ⟨Z + 1, 4, none⟩ = false := (row_cell HQ0110.out 4).2
          by_cases g3 : r3 = 4294967295
          · have k3 : (r3 == 4294967295) = true := by simpa using g3
            have e9 : tt = -1 := by rw [← HTT.out, g3]; rfl
            subst e9
            have G3 := Lib.hid g3
            subst g3
            go_upto_region 19 with fail
            obtain ⟨W01101, hW01101⟩ : ∃ W, (W0110.setCell ⟨Z + 1, 4, none⟩ (.int .i64 4294967295)).setCell ⟨Z + 1, 4, none⟩ (.int .i64 (-1)) = W := ⟨_, rfl⟩
            rw [hW01101]
            have HQ01101 : Hid (W01101.heap[Z + 1]? = some (.cells #[.int .i64 n, .int .i64 r0, .int .u32 r1, .int .i64 0, .int .i64 (-1)] 29 (0, 0))) := by unfold Hid; rw [← hW01101]; exact set_at (set_at HQ0110.out 4 _) 4 _
            have F01101 : Hid (Fo (fun b => b = Z + 1) w3 W01101) := by unfold Hid; rw [← hW01101]; exact (F0110.out.setCell (.inl rfl) 4 _).setCell (.inl rfl) 4 _
            clear hW01101 x0 x1 x2 x3 t1 t2 t3 t4 z0 zz0 z1 zz1 z2 zz2 z3 zz3 z4 zz4
            have HY01101 : Hid (W01101.heap[X + 1]? = some (.cells #[.int .i64 0, .int .i64 0, .int .u32 0, .int .i64 0, .int .i64 0] 29 (0, 0))) := (F01101.out.block (X + 1) (Array.getElem?_eq_some_iff.1 HY.out).1 (by have := HXZ.out; omega)).trans HY.out
            have BB01101 : Hid (Below X w W01101) := HB3.out.trans (F01101.out.below (fun b hb => by have := HXZ.out; omega) (by have := (Array.getElem?_eq_some_iff.1 HY.out).1; omega))
            have y0 : W01101.cell? ⟨X + 1, 0, none⟩ = some (.int .i64 0) := by rw [(row_cell HY01101.out 0).1]; rfl
            have yz0 : W01101.frozen? ⟨X + 1, 0, none⟩ = false := (row_cell HY01101.out 0).2
            have y1 : W01101.cell? ⟨X + 1, 1, none⟩ = some (.int .i64 0) := by rw [(row_cell HY01101.out 1).1]; rfl
            have yz1 : W01101.frozen? ⟨X + 1, 1, none⟩ = false := (row_cell HY01101.out 1).2
            have y2 : W01101.cell? ⟨X + 1, 2, none⟩ = some (.int .u32 0) := by rw [(row_cell HY01101.out 2).1]; rfl
            have yz2 : W01101.frozen? ⟨X + 1, 2, none⟩ = false := (row_cell HY01101.out 2).2
            have y3 : W01101.cell? ⟨X + 1, 3, none⟩ = some (.int .i64 0) := by rw [(row_cell HY01101.out 3).1]; rfl
            have yz3 : W01101.frozen? ⟨X + 1, 3, none⟩ = false := (row_cell HY01101.out 3).2
            have y4 : W01101.cell? ⟨X + 1, 4, none⟩ = some (.int .i64 0) := by rw [(row_cell HY01101.out 4).1]; rfl
            have yz4 : W01101.frozen? ⟨X + 1, 4, none⟩ = false := (row_cell HY01101.out 4).2
            have z0 : W01101.cell? ⟨Z + 1, 0, none⟩ = some (.int .i64 n) := by rw [(row_cell HQ01101.out 0).1]; rfl
            have z1 : W01101.cell? ⟨Z + 1, 1, none⟩ = some (.int .i64 r0) := by rw [(row_cell HQ01101.out 1).1]; rfl
            have z2 : W01101.cell? ⟨Z + 1, 2, none⟩ = some (.int .u32 r1) := by rw [(row_cell HQ01101.out 2).1]; rfl
            have z3 : W01101.cell? ⟨Z + 1, 3, none⟩ = some (.int .i64 0) := by rw [(row_cell HQ01101.out 3).1]; rfl
            have z4 : W01101.cell? ⟨Z + 1, 4, none⟩ = some (.int .i64 (-1)) := by rw [(row_cell HQ01101.out 4).1]; rfl
            go_wp2_with fail
            refine bodyPost_ret (results_cell_tmp rfl _ _ (X + 1) _ _ rfl (set_five HY01101.out _ _ _ _ _) Tryd.underlying29 rfl (by kernel_rfl)) rfl ?_
            have hf : f = true := by rw [← HF.out]; exact decide_eq_true (⟨(fun _ => by omega), (fun h => by cases h), fun h => absurd h H26.out⟩)
            exact ⟨by rw [HP.out.1, HP.out.2, hf, HOW.out]; rfl, (((((BB01101.out).setCell (by exact Nat.le_succ _) _).setCell (by exact Nat.le_succ _) _).setCell (by exact Nat.le_succ _) _).setCell (by exact Nat.le_succ _) _).setCell (by exact Nat.le_succ _) _⟩
          have k3 : (r3 == 4294967295) = false := by simpa using g3
          have e9 : r3 = tt := by rw [← HTT.out]; unfold tickV; rw [if_neg g3]
          subst e9
          go_upto_region 19 with fail
          obtain ⟨W01102, hW01102⟩ : ∃ W, W0110.setCell ⟨Z + 1, 4, none⟩ (.int .i64 r3) = W := ⟨_, rfl⟩
          rw [hW01102]
          have HQ01102 : Hid (W01102.heap[Z + 1]? = some (.cells #[.int .i64 n, .int .i64 r0, .int .u32 r1, .int .i64 0, .int .i64 r3] 29 (0, 0))) := by unfold Hid; rw [← hW01102]; exact set_at HQ0110.out 4 _
          have F01102 : Hid (Fo (fun b => b = Z + 1) w3 W01102) := by unfold Hid; rw [← hW01102]; exact F0110.out.setCell (.inl rfl) 4 _
          clear hW01102 x0 x1 x2 x3 t1 t2 t3 t4 z0 zz0 z1 zz1 z2 zz2 z3 zz3 z4 zz4
          have HY01102 : Hid (W01102.heap[X + 1]? = some (.cells #[.int .i64 0, .int .i64 0, .int .u32 0, .int .i64 0, .int .i64 0] 29 (0, 0))) := (F01102.out.block (X + 1) (Array.getElem?_eq_some_iff.1 HY.out).1 (by have := HXZ.out; omega)).trans HY.out
          have BB01102 : Hid (Below X w W01102) := HB3.out.trans (F01102.out.below (fun b hb => by have := HXZ.out; omega) (by have := (Array.getElem?_eq_some_iff.1 HY.out).1; omega))
          have y0 : W01102.cell? ⟨X + 1, 0, none⟩ = some (.int .i64 0) := by rw [(row_cell HY01102.out 0).1]; rfl
          have yz0 : W01102.frozen? ⟨X + 1, 0, none⟩ = false := (row_cell HY01102.out 0).2
          have y1 : W01102.cell? ⟨X + 1, 1, none⟩ = some (.int .i64 0) := by rw [(row_cell HY01102.out 1).1]; rfl
          have yz1 : W01102.frozen? ⟨X + 1, 1, none⟩ = false := (row_cell HY01102.out 1).2
          have y2 : W01102.cell? ⟨X + 1, 2, none⟩ = some (.int .u32 0) := by rw [(row_cell HY01102.out 2).1]; rfl
          have yz2 : W01102.frozen? ⟨X + 1, 2, none⟩ = false := (row_cell HY01102.out 2).2
          have y3 : W01102.cell? ⟨X + 1, 3, none⟩ = some (.int .i64 0) := by rw [(row_cell HY01102.out 3).1]; rfl
          have yz3 : W01102.frozen? ⟨X + 1, 3, none⟩ = false := (row_cell HY01102.out 3).2
          have y4 : W01102.cell? ⟨X + 1, 4, none⟩ = some (.int .i64 0) := by rw [(row_cell HY01102.out 4).1]; rfl
          have yz4 : W01102.frozen? ⟨X + 1, 4, none⟩ = false := (row_cell HY01102.out 4).2
          have z0 : W01102.cell? ⟨Z + 1, 0, none⟩ = some (.int .i64 n) := by rw [(row_cell HQ01102.out 0).1]; rfl
          have z1 : W01102.cell? ⟨Z + 1, 1, none⟩ = some (.int .i64 r0) := by rw [(row_cell HQ01102.out 1).1]; rfl
          have z2 : W01102.cell? ⟨Z + 1, 2, none⟩ = some (.int .u32 r1) := by rw [(row_cell HQ01102.out 2).1]; rfl
          have z3 : W01102.cell? ⟨Z + 1, 3, none⟩ = some (.int .i64 0) := by rw [(row_cell HQ01102.out 3).1]; rfl
          have z4 : W01102.cell? ⟨Z + 1, 4, none⟩ = some (.int .i64 r3) := by rw [(row_cell HQ01102.out 4).1]; rfl
          go_wp2_with fail
          refine bodyPost_ret (results_cell_tmp rfl _ _ (X + 1) _ _ rfl (set_five HY01102.out _ _ _ _ _) Tryd.underlying29 rfl (by kernel_rfl)) rfl ?_
          have hf : f = true := by rw [← HF.out]; exact decide_eq_true (⟨(fun _ => by omega), (fun h => by cases h), fun h => absurd h H26.out⟩)
          exact ⟨by rw [HP.out.1, HP.out.2, hf, HOW.out]; rfl, (((((BB01102.out).setCell (by exact Nat.le_succ _) _).setCell (by exact Nat.le_succ _) _).setCell (by exact Nat.le_succ _) _).setCell (by exact Nat.le_succ _) _).setCell (by exact Nat.le_succ _) _⟩
      · have x0 : W011.cell? ⟨X, 0, none⟩ = some (.int .u32 r0) := F011.out.cell (fun e => by have := HXZ.out; simp at e; omega) HR.out.1
        have x1 : W011.cell? ⟨X, 1, none⟩ = some (.int .u32 r1) := F011.out.cell (fun e => by have := HXZ.out; simp at e; omega) HR.out.2.1
        have x2 : W011.cell? ⟨X, 2, none⟩ = some (.int .u32 r2) := F011.out.cell (fun e => by have := HXZ.out; simp at e; omega) HR.out.2.2.1
        have x3 : W011.cell? ⟨X, 3, none⟩ = some (.int .u32 r3) := F011.out.cell (fun e => by have := HXZ.out; simp at e; omega) HR.out.2.2.2
        have t1 : W011.cell? ⟨Z, 1, none⟩ = some (.bool true) := F011.out.cell (fun e => by simp at e) HT.out.1
        have t2 : W011.cell? ⟨Z, 2, none⟩ = some (.bool true) := F011.out.cell (fun e => by simp at e) HT.out.2.1
        have t3 : W011.cell? ⟨Z, 3, none⟩ = some (.bool true) := F011.out.cell (fun e => by simp at e) HT.out.2.2.1
        have t4 : W011.cell? ⟨Z, 4, none⟩ = some (.bool bt) := F011.out.cell (fun e => by simp at e) HT.out.2.2.2
        by_cases g2 : 32 < r2
        · have k2 : decide (32 < r2) = true := by simp only [g2, decide_true]
          have HY011 : Hid (W011.heap[X + 1]? = some (.cells #[.int .i64 0, .int .i64 0, .int .u32 0, .int .i64 0, .int .i64 0] 29 (0, 0))) := (F011.out.block (X + 1) (Array.getElem?_eq_some_iff.1 HY.out).1 (by have := HXZ.out; omega)).trans HY.out
          have BB011 : Hid (Below X w W011) := HB3.out.trans (F011.out.below (fun b hb => by have := HXZ.out; omega) (by have := (Array.getElem?_eq_some_iff.1 HY.out).1; omega))
          have y0 : W011.cell? ⟨X + 1, 0, none⟩ = some (.int .i64 0) := by rw [(row_cell HY011.out 0).1]; rfl
          have yz0 : W011.frozen? ⟨X + 1, 0, none⟩ = false := (row_cell HY011.out 0).2
          have y1 : W011.cell? ⟨X + 1, 1, none⟩ = some (.int .i64 0) := by rw [(row_cell HY011.out 1).1]; rfl
          have yz1 : W011.frozen? ⟨X + 1, 1, none⟩ = false := (row_cell HY011.out 1).2
          have y2 : W011.cell? ⟨X + 1, 2, none⟩ = some (.int .u32 0) := by rw [(row_cell HY011.out 2).1]; rfl
          have yz2 : W011.frozen? ⟨X + 1, 2, none⟩ = false := (row_cell HY011.out 2).2
          have y3 : W011.cell? ⟨X + 1, 3, none⟩ = some (.int .i64 0) := by rw [(row_cell HY011.out 3).1]; rfl
          have yz3 : W011.frozen? ⟨X + 1, 3, none⟩ = false := (row_cell HY011.out 3).2
          have y4 : W011.cell? ⟨X + 1, 4, none⟩ = some (.int .i64 0) := by rw [(row_cell HY011.out 4).1]; rfl
          have yz4 : W011.frozen? ⟨X + 1, 4, none⟩ = false := (row_cell HY011.out 4).2
          go_wp2_with fail
          refine bodyPost_ret (results_cell_tmp rfl _ _ (X + 1) _ _ rfl (set_five HY011.out _ _ _ _ _) Tryd.underlying29 rfl (by kernel_rfl)) rfl ?_
          have hf : f = false := by rw [← HF.out]; exact decide_eq_false (fun h => by have := h.2.1 (by simp); omega)
          exact ⟨by rw [HP.out.1, HP.out.2, hf]; rfl, (((((BB011.out).setCell (by exact Nat.le_succ _) _).setCell (by exact Nat.le_succ _) _).setCell (by exact Nat.le_succ _) _).setCell (by exact Nat.le_succ _) _).setCell (by exact Nat.le_succ _) _⟩
        have k2 : decide (32 < r2) = false := by simp only [g2, decide_false]
        have z0 : W011.cell? ⟨Z + 1, 0, none⟩ = some (.int .i64 n) := by rw [(row_cell HQ011.out 0).1]; rfl
        have zz0 : W011.frozen? ⟨Z + 1, 0, none⟩ = false := (row_cell HQ011.out 0).2
        have z1 : W011.cell? ⟨Z + 1, 1, none⟩ = some (.int .i64 r0) := by rw [(row_cell HQ011.out 1).1]; rfl
        have zz1 : W011.frozen? ⟨Z + 1, 1, none⟩ = false := (row_cell HQ011.out 1).2
        have z2 : W011.cell? ⟨Z + 1, 2, none⟩ = some (.int .u32 r1) := by rw [(row_cell HQ011.out 2).1]; rfl
        have zz2 : W011.frozen? ⟨Z + 1, 2, none⟩ = false := (row_cell HQ011.out 2).2
        have z3 : W011.cell? ⟨Z + 1, 3, none⟩ = some (.int .i64 0) := by rw [(row_cell HQ011.out 3).1]; rfl
        have zz3 : W011.frozen? ⟨Z + 1, 3, none⟩ = false := (row_cell HQ011.out 3).2
        have z4 : W011.cell? ⟨Z + 1, 4, none⟩ = some (.int .i64 0) := by rw [(row_cell HQ011.out 4).1]; rfl
        have zz4 : W011.frozen? ⟨Z + 1, 4, none⟩ = false := (row_cell HQ011.out 4).2
        go_upto_region 15 with fail
        obtain ⟨W0111, hW0111⟩ : ∃ W, W011.setCell ⟨Z + 1, 3, none⟩ (.int .i64 r2) = W := ⟨_, rfl⟩
        rw [hW0111]
        have HQ0111 : Hid (W0111.heap[Z + 1]? = some (.cells #[.int .i64 n, .int .i64 r0, .int .u32 r1, .int .i64 r2, .int .i64 0] 29 (0, 0))) := by unfold Hid; rw [← hW0111]; exact set_at HQ011.out 3 _
        have F0111 : Hid (Fo (fun b => b = Z + 1) w3 W0111) := by unfold Hid; rw [← hW0111]; exact F011.out.setCell (.inl rfl) 3 _
        clear hW0111 x0 x1 x2 x3 t1 t2 t3 t4 z0 zz0 z1 zz1 z2 zz2 z3 zz3 z4 zz4
        cases bt
        · have x0 : W0111.cell? ⟨X, 0, none⟩ = some (.int .u32 r0) := F0111.out.cell (fun e => by have := HXZ.out; simp at e; omega) HR.out.1
          have x1 : W0111.cell? ⟨X, 1, none⟩ = some (.int .u32 r1) := F0111.out.cell (fun e => by have := HXZ.out; simp at e; omega) HR.out.2.1
          have x2 : W0111.cell? ⟨X, 2, none⟩ = some (.int .u32 r2) := F0111.out.cell (fun e => by have := HXZ.out; simp at e; omega) HR.out.2.2.1
          have x3 : W0111.cell? ⟨X, 3, none⟩ = some (.int .u32 r3) := F0111.out.cell (fun e => by have := HXZ.out; simp at e; omega) HR.out.2.2.2
          have t1 : W0111.cell? ⟨Z, 1, none⟩ = some (.bool true) := F0111.out.cell (fun e => by simp at e) HT.out.1
          have t2 : W0111.cell? ⟨Z, 2, none⟩ = some (.bool true) := F0111.out.cell (fun e => by simp at e) HT.out.2.1
          have t3 : W0111.cell? ⟨Z, 3, none⟩ = some (.bool true) := F0111.out.cell (fun e => by simp at e) HT.out.2.2.1
          have t4 : W0111.cell? ⟨Z, 4, none⟩ = some (.bool false) := F0111.out.cell (fun e => by simp at e) HT.out.2.2.2
          go_upto_region 19 with fail
          obtain ⟨W01110, hW01110⟩ : ∃ W, W = W0111 := ⟨_, rfl⟩
          subst hW01110
          have HQ01110 := HQ0111
          have F01110 := F0111
          clear x0 x1 x2 x3 t1 t2 t3 t4
          have HY01110 : Hid (W01110.heap[X + 1]? = some (.cells #[.int .i64 0, .int .i64 0, .int .u32 0, .int .i64 0, .int .i64 0] 29 (0, 0))) := (F01110.out.block (X + 1) (Array.getElem?_eq_some_iff.1 HY.out).1 (by have := HXZ.out; omega)).trans HY.out
          have BB01110 : Hid (Below X w W01110) := HB3.out.trans (F01110.out.below (fun b hb => by have := HXZ.out; omega) (by have := (Array.getElem?_eq_some_iff.1 HY.out).1; omega))
          have y0 : W01110.cell? ⟨X + 1, 0, none⟩ = some (.int .i64 0) := by rw [(row_cell HY01110.out 0).1]; rfl
          have yz0 : W01110.frozen? ⟨X + 1, 0, none⟩ = false := (row_cell HY01110.out 0).2
          have y1 : W01110.cell? ⟨X + 1, 1, none⟩ = some (.int .i64 0) := by rw [(row_cell HY01110.out 1).1]; rfl
          have yz1 : W01110.frozen? ⟨X + 1, 1, none⟩ = false := (row_cell HY01110.out 1).2
          have y2 : W01110.cell? ⟨X + 1, 2, none⟩ = some (.int .u32 0) := by rw [(row_cell HY01110.out 2).1]; rfl
          have yz2 : W01110.frozen? ⟨X + 1, 2, none⟩ = false := (row_cell HY01110.out 2).2
          have y3 : W01110.cell? ⟨X + 1, 3, none⟩ = some (.int .i64 0) := by rw [(row_cell HY01110.out 3).1]; rfl
          have yz3 : W01110.frozen? ⟨X + 1, 3, none⟩ = false := (row_cell HY01110.out 3).2
          have y4 : W01110.cell? ⟨X + 1, 4, none⟩ = some (.int .i64 0) := by rw [(row_cell HY01110.out 4).1]; rfl
          have yz4 : W01110.frozen? ⟨X + 1, 4, none⟩ = false := (row_cell HY01110.out 4).2
          have z0 : W01110.cell? ⟨Z + 1, 0, none⟩ = some (.int .i64 n) := by rw [(row_cell HQ01110.out 0).1]; rfl
          have z1 : W01110.cell? ⟨Z + 1, 1, none⟩ = some (.int .i64 r0) := by rw [(row_cell HQ01110.out 1).1]; rfl
          have z2 : W01110.cell? ⟨Z + 1, 2, none⟩ = some (.int .u32 r1) := by rw [(row_cell HQ01110.out 2).1]; rfl
          have z3 : W01110.cell? ⟨Z + 1, 3, none⟩ = some (.int .i64 r2) := by rw [(row_cell HQ01110.out 3).1]; rfl
          have z4 : W01110.cell? ⟨Z + 1, 4, none⟩ = some (.int .i64 0) := by rw [(row_cell HQ01110.out 4).1]; rfl
          go_wp2_with fail
          refine bodyPost_ret (results_cell_tmp rfl _ _ (X + 1) _ _ rfl (set_five HY01110.out _ _ _ _ _) Tryd.underlying29 rfl (by kernel_rfl)) rfl ?_
          have hf : f = true := by rw [← HF.out]; exact decide_eq_true (⟨(fun _ => by omega), (fun _ => by omega), fun h => absurd h H26.out⟩)
          exact ⟨by rw [HP.out.1, HP.out.2, hf, HOW.out]; rfl, (((((BB01110.out).setCell (by exact Nat.le_succ _) _).setCell (by exact Nat.le_succ _) _).setCell (by exact Nat.le_succ _) _).setCell (by exact Nat.le_succ _) _).setCell (by exact Nat.le_succ _) _⟩
        · have x0 : W0111.cell? ⟨X, 0, none⟩ = some (.int .u32 r0) := F0111.out.cell (fun e => by have := HXZ.out; simp at e; omega) HR.out.1
          have x1 : W0111.cell? ⟨X, 1, none⟩ = some (.int .u32 r1) := F0111.out.cell (fun e => by have := HXZ.out; simp at e; omega) HR.out.2.1
          have x2 : W0111.cell? ⟨X, 2, none⟩ = some (.int .u32 r2) := F0111.out.cell (fun e => by have := HXZ.out; simp at e; omega) HR.out.2.2.1
          have x3 : W0111.cell? ⟨X, 3, none⟩ = some (.int .u32 r3) := F0111.out.cell (fun e => by have := HXZ.out; simp at e; omega) HR.out.2.2.2
          have t1 : W0111.cell? ⟨Z, 1, none⟩ = some (.bool true) := F0111.out.cell (fun e => by simp at e) HT.out.1
          have t2 : W0111.cell? ⟨Z, 2, none⟩ = some (.bool true) := F0111.out.cell (fun e => by simp at e) HT.out.2.1
          have t3 : W0111.cell? ⟨Z, 3, none⟩ = some (.bool true) := F0111.out.cell (fun e => by simp at e) HT.out.2.2.1
          have t4 : W0111.cell? ⟨Z, 4, none⟩ = some (.bool true) := F0111.out.cell (fun e => by simp at e) HT.out.2.2.2
          have z0 : W0111.cell? ⟨Z + 1, 0, none⟩ = some (.int .i64 n) := by rw [(row_cell HQ0111.out 0).1]; rfl
          have zz0 : W0111.frozen? ⟨Z + 1, 0, none⟩ = false := (row_cell HQ0111.out 0).2
          have z1 : W0111.cell? ⟨Z + 1, 1, none⟩ = some (.int .i64 r0) := by rw [(row_cell HQ0111.out 1).1]; rfl
          have zz1 : W0111.frozen? ⟨Z + 1, 1, none⟩ = false := (row_cell HQ0111.out 1).2
          have z2 : W0111.cell? ⟨Z + 1, 2, none⟩ = some (.int .u32 r1) := by rw [(row_cell HQ0111.out 2).1]; rfl
          have zz2 : W0111.frozen? ⟨Z + 1, 2, none⟩ = false := (row_cell HQ0111.out 2).2
          have z3 : W0111.cell? ⟨Z + 1, 3, none⟩ = some (.int .i64 r2) := by rw [(row_cell HQ0111.out 3).1]; rfl
          have zz3 : W0111.frozen? ⟨Z + 1, 3, none⟩ = false := (row_cell HQ0111.out 3).2
          have z4 : W0111.cell? ⟨Z + 1, 4, none⟩ = some (.int .i64 0) := by rw [(row_cell HQ0111.out 4).1]; rfl
          have zz4 : W0111.frozen? ⟨Z + 1, 4, none⟩ = false := (row_cell HQ0111.out 4).2
          by_cases g3 : r3 = 4294967295
          · have k3 : (r3 == 4294967295) = true := by simpa using g3
            have e9 : tt = -1 := by rw [← HTT.out, g3]; rfl
            subst e9
            have G3 := Lib.hid g3
            subst g3
            go_upto_region 19 with fail
            obtain ⟨W01111, hW01111⟩ : ∃ W, (W0111.setCell ⟨Z + 1, 4, none⟩ (.int .i64 4294967295)).setCell ⟨Z + 1, 4, none⟩ (.int .i64 (-1)) = W := ⟨_, rfl⟩
            rw [hW01111]
            have HQ01111 : Hid (W01111.heap[Z + 1]? = some (.cells #[.int .i64 n, .int .i64 r0, .int .u32 r1, .int .i64 r2, .int .i64 (-1)] 29 (0, 0))) := by unfold Hid; rw [← hW01111]; exact set_at (set_at HQ0111.out 4 _) 4 _
            have F01111 : Hid (Fo (fun b => b = Z + 1) w3 W01111) := by unfold Hid; rw [← hW01111]; exact (F0111.out.setCell (.inl rfl) 4 _).setCell (.inl rfl) 4 _
            clear hW01111 x0 x1 x2 x3 t1 t2 t3 t4 z0 zz0 z1 zz1 z2 zz2 z3 zz3 z4 zz4
            have HY01111 : Hid (W01111.heap[X + 1]? = some (.cells #[.int .i64 0, .int .i64 0, .int .u32 0, .int .i64 0, .int .i64 0] 29 (0, 0))) := (F01111.out.block (X + 1) (Array.getElem?_eq_some_iff.1 HY.out).1 (by have := HXZ.out; omega)).trans HY.out
            have BB01111 : Hid (Below X w W01111) := HB3.out.trans (F01111.out.below (fun b hb => by have := HXZ.out; omega) (by have := (Array.getElem?_eq_some_iff.1 HY.out).1; omega))
            have y0 : W01111.cell? ⟨X + 1, 0, none⟩ = some (.int .i64 0) := by rw [(row_cell HY01111.out 0).1]; rfl
            have yz0 : W01111.frozen? ⟨X + 1, 0, none⟩ = false := (row_cell HY01111.out 0).2
            have y1 : W01111.cell? ⟨X + 1, 1, none⟩ = some (.int .i64 0) := by rw [(row_cell HY01111.out 1).1]; rfl
            have yz1 : W01111.frozen? ⟨X + 1, 1, none⟩ = false := (row_cell HY01111.out 1).2
            have y2 : W01111.cell? ⟨X + 1, 2, none⟩ = some (.int .u32 0) := by rw [(row_cell HY01111.out 2).1]; rfl
            have yz2 : W01111.frozen? ⟨X + 1, 2, none⟩ = false := (row_cell HY01111.out 2).2
            have y3 : W01111.cell? ⟨X + 1, 3, none⟩ = some (.int .i64 0) := by rw [(row_cell HY01111.out 3).1]; rfl
            have yz3 : W01111.frozen? ⟨X + 1, 3, none⟩ = false := (row_cell HY01111.out 3).2
            have y4 : W01111.cell? ⟨X + 1, 4, none⟩ = some (.int .i64 0) := by rw [(row_cell HY01111.out 4).1]; rfl
            have yz4 : W01111.frozen? ⟨X + 1, 4, none⟩ = false := (row_cell HY01111.out 4).2
            have z0 : W01111.cell? ⟨Z + 1, 0, none⟩ = some (.int .i64 n) := by rw [(row_cell HQ01111.out 0).1]; rfl
            have z1 : W01111.cell? ⟨Z + 1, 1, none⟩ = some (.int .i64 r0) := by rw [(row_cell HQ01111.out 1).1]; rfl
            have z2 : W01111.cell? ⟨Z + 1, 2, none⟩ = some (.int .u32 r1) := by rw [(row_cell HQ01111.out 2).1]; rfl
            have z3 : W01111.cell? ⟨Z + 1, 3, none⟩ = some (.int .i64 r2) := by rw [(row_cell HQ01111.out 3).1]; rfl
            have z4 : W01111.cell? ⟨Z + 1, 4, none⟩ = some (.int .i64 (-1)) := by rw [(row_cell HQ01111.out 4).1]; rfl
            go_wp2_with fail
            refine bodyPost_ret (results_cell_tmp rfl _ _ (X + 1) _ _ rfl (set_five HY01111.out _ _ _ _ _) Tryd.underlying29 rfl (by kernel_rfl)) rfl ?_
            have hf : f = true := by rw [← HF.out]; exact decide_eq_true (⟨(fun _ => by omega), (fun _ => by omega), fun h => absurd h H26.out⟩)
            exact ⟨by rw [HP.out.1, HP.out.2, hf, HOW.out]; rfl, (((((BB01111.out).setCell (by exact Nat.le_succ _) _).setCell (by exact Nat.le_succ _) _).setCell (by exact Nat.le_succ _) _).setCell (by exact Nat.le_succ _) _).setCell (by exact Nat.le_succ _) _⟩
          have k3 : (r3 == 4294967295) = false := by simpa using g3
          have e9 : r3 = tt := by rw [← HTT.out]; unfold tickV; rw [if_neg g3]
          subst e9
          go_upto_region 19 with fail
          obtain ⟨W01112, hW01112⟩ : ∃ W, W0111.setCell ⟨Z + 1, 4, none⟩ (.int .i64 r3) = W := ⟨_, rfl⟩
          rw [hW01112]
          have HQ01112 : Hid (W01112.heap[Z + 1]? = some (.cells #[.int .i64 n, .int .i64 r0, .int .u32 r1, .int .i64 r2, .int .i64 r3] 29 (0, 0))) := by unfold Hid; rw [← hW01112]; exact set_at HQ0111.out 4 _
          have F01112 : Hid (Fo (fun b => b = Z + 1) w3 W01112) := by unfold Hid; rw [← hW01112]; exact F0111.out.setCell (.inl rfl) 4 _
          clear hW01112 x0 x1 x2 x3 t1 t2 t3 t4 z0 zz0 z1 zz1 z2 zz2 z3 zz3 z4 zz4
          have HY01112 : Hid (W01112.heap[X + 1]? = some (.cells #[.int .i64 0, .int .i64 0, .int .u32 0, .int .i64 0, .int .i64 0] 29 (0, 0))) := (F01112.out.block (X + 1) (Array.getElem?_eq_some_iff.1 HY.out).1 (by have := HXZ.out; omega)).trans HY.out
          have BB01112 : Hid (Below X w W01112) := HB3.out.trans (F01112.out.below (fun b hb => by have := HXZ.out; omega) (by have := (Array.getElem?_eq_some_iff.1 HY.out).1; omega))
          have y0 : W01112.cell? ⟨X + 1, 0, none⟩ = some (.int .i64 0) := by rw [(row_cell HY01112.out 0).1]; rfl
          have yz0 : W01112.frozen? ⟨X + 1, 0, none⟩ = false := (row_cell HY01112.out 0).2
          have y1 : W01112.cell? ⟨X + 1, 1, none⟩ = some (.int .i64 0) := by rw [(row_cell HY01112.out 1).1]; rfl
          have yz1 : W01112.frozen? ⟨X + 1, 1, none⟩ = false := (row_cell HY01112.out 1).2
          have y2 : W01112.cell? ⟨X + 1, 2, none⟩ = some (.int .u32 0) := by rw [(row_cell HY01112.out 2).1]; rfl
          have yz2 : W01112.frozen? ⟨X + 1, 2, none⟩ = false := (row_cell HY01112.out 2).2
          have y3 : W01112.cell? ⟨X + 1, 3, none⟩ = some (.int .i64 0) := by rw [(row_cell HY01112.out 3).1]; rfl
          have yz3 : W01112.frozen? ⟨X + 1, 3, none⟩ = false := (row_cell HY01112.out 3).2
          have y4 : W01112.cell? ⟨X + 1, 4, none⟩ = some (.int .i64 0) := by rw [(row_cell HY01112.out 4).1]; rfl
          have yz4 : W01112.frozen? ⟨X + 1, 4, none⟩ = false := (row_cell HY01112.out 4).2
          have z0 : W01112.cell? ⟨Z + 1, 0, none⟩ = some (.int .i64 n) := by rw [(row_cell HQ01112.out 0).1]; rfl
          have z1 : W01112.cell? ⟨Z + 1, 1, none⟩ = some (.int .i64 r0) := by rw [(row_cell HQ01112.out 1).1]; rfl
          have z2 : W01112.cell? ⟨Z + 1, 2, none⟩ = some (.int .u32 r1) := by rw [(row_cell HQ01112.out 2).1]; rfl
          have z3 : W01112.cell? ⟨Z + 1, 3, none⟩ = some (.int .i64 r2) := by rw [(row_cell HQ01112.out 3).1]; rfl
          have z4 : W01112.cell? ⟨Z + 1, 4, none⟩ = some (.int .i64 r3) := by rw [(row_cell HQ01112.out 4).1]; rfl
          go_wp2_with fail
          refine bodyPost_ret (results_cell_tmp rfl _ _ (X + 1) _ _ rfl (set_five HY01112.out _ _ _ _ _) Tryd.underlying29 rfl (by kernel_rfl)) rfl ?_
          have hf : f = true := by rw [← HF.out]; exact decide_eq_true (⟨(fun _ => by omega), (fun _ => by omega), fun h => absurd h H26.out⟩)
          exact ⟨by rw [HP.out.1, HP.out.2, hf, HOW.out]; rfl, (((((BB01112.out).setCell (by exact Nat.le_succ _) _).setCell (by exact Nat.le_succ _) _).setCell (by exact Nat.le_succ _) _).setCell (by exact Nat.le_succ _) _).setCell (by exact Nat.le_succ _) _⟩
end Go.Proofs.YtglpbngdikfliaaDoor.Ca
