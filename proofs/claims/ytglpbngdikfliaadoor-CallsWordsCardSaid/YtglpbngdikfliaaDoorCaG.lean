/-
  The reference's Right. Each statement bears its own conditions.
-/
import Derived.Test.YtglpbngdikfliaaDoorCaF
namespace Go.Proofs.YtglpbngdikfliaaDoor.Ca
open Go.RowKit Go.Proofs.YtglpbngdikfliaaDoor.F
set_option linter.unusedVariables false
set_option linter.unusedSimpArgs false
theorem right_alt {n o a ws t : Int} (hn : is n = true) : validV ⟨n, o, a, ws, t⟩ = decide ((0 ≤ o ∧ o ≤ 15 ∧ 0 ≤ ws ∧ ws ≤ 32 ∧ -1 ≤ t ∧ t ≤ 4294967294 ∧ (n = 26 → 1 ≤ a ∧ a ≤ 27)) ∧ (oB n = false → o = 0) ∧ (aB n = false → a = 0) ∧ (wB n = false → ws = 0) ∧ (tB n = false → t = 0)) := by
  unfold validV
  rw [show is ((⟨n, o, a, ws, t⟩ : Rq).call) = true from hn]
  unfold sameB ownV fitsV
  simp only [Bool.true_and]
  rw [← Bool.decide_and, decide_eq_decide]
  cases oB n <;> cases aB n <;> cases wB n <;> cases tB n <;> simp <;> omega
set_option maxRecDepth 100000 in
set_option maxHeartbeats 32000000 in
theorem rright_26 (n o a ws t : Int) (hn : is n = true) (h26 : n = 26) (w : World) : Calls Tryd.prog 17 #[.agg #[.int .i64 n, .int .i64 o, .int .u32 a, .int .i64 ws, .int .i64 t]] w fun e w' => e = .returned (.bool (validV ⟨n, o, a, ws, t⟩)) ∧ Below w.heap.size w w' := by
  obtain ⟨X, hX⟩ : ∃ X, w.heap.size = X := ⟨_, rfl⟩
  obtain ⟨W0, hW0⟩ : ∃ W0, w.alloc (.cells #[.int .i64 n, .int .i64 o, .int .u32 a, .int .i64 ws, .int .i64 t] 29) = W0 := ⟨_, rfl⟩
  have B0 : Hid (Below X w W0) := by rw [← hW0, ← hX]; exact (Below.refl _ _).alloc (Nat.le_refl _) _
  have HX0 : Hid (W0.heap[X]? = some (.cells #[.int .i64 n, .int .i64 o, .int .u32 a, .int .i64 ws, .int .i64 t] 29 (0, 0))) := by rw [← hW0, ← hX]; exact heap_alloc_new _ _
  have S0 : Hid (X < W0.heap.size) := by rw [← hW0, ← hX]; unfold Hid; simp
  have CO := Lib.hid (of_any n W0)
  rw [hn] at CO
  obtain ⟨v, hv⟩ : ∃ v, validV ⟨n, o, a, ws, t⟩ = v := ⟨_, rfl⟩
  have HV := Lib.hid hv
  rw [right_alt hn] at hv
  have HVA := Lib.hid hv
  rw [HV.out]
  clear hv
  obtain ⟨bo, hbo⟩ : ∃ x, oB n = x := ⟨_, rfl⟩
  obtain ⟨ba, hba⟩ : ∃ x, aB n = x := ⟨_, rfl⟩
  obtain ⟨bw, hbw⟩ : ∃ x, wB n = x := ⟨_, rfl⟩
  obtain ⟨bt, hbt⟩ : ∃ x, tB n = x := ⟨_, rfl⟩
  obtain ⟨p, hp⟩ : ∃ x, priceL.getD n.toNat 0 = x := ⟨_, rfl⟩
  obtain ⟨wd, hwd⟩ : ∃ x, byteL.getD n.toNat #[] = x := ⟨_, rfl⟩
  have HQ : rowQ n = .agg #[.string ⟨wd⟩, .bool bo, .bool ba, .bool bw, .bool bt, .int .i64 p] := by unfold rowQ wordV; rw [hn, hbo, hba, hbw, hbt, hp, hwd]; rfl
  rw [HQ] at CO
  have HB : Hid (oB n = bo ∧ aB n = ba ∧ wB n = bw ∧ tB n = bt) := ⟨hbo, hba, hbw, hbt⟩
  have H26 := Lib.hid h26
  obtain rfl : bo = false := by rw [← hbo, h26]; rfl
  obtain rfl : ba = true := by rw [← hba, h26]; rfl
  obtain rfl : bw = false := by rw [← hbw, h26]; rfl
  obtain rfl : bt = false := by rw [← hbt, h26]; rfl
  have k26 : (n == 26) = true := by simpa using h26
  have x0 : W0.cell? ⟨X, 0, none⟩ = some (.int .i64 n) := by rw [(row_cell HX0.out 0).1]; rfl
  have x1 : W0.cell? ⟨X, 1, none⟩ = some (.int .i64 o) := by rw [(row_cell HX0.out 1).1]; rfl
  have x2 : W0.cell? ⟨X, 2, none⟩ = some (.int .u32 a) := by rw [(row_cell HX0.out 2).1]; rfl
  have x3 : W0.cell? ⟨X, 3, none⟩ = some (.int .i64 ws) := by rw [(row_cell HX0.out 3).1]; rfl
  have x4 : W0.cell? ⟨X, 4, none⟩ = some (.int .i64 t) := by rw [(row_cell HX0.out 4).1]; rfl
  simp only [hX]
  clear HQ hbo hba hbw hbt hp hwd h26
  go_enter Tryd.func17, Tryd.ntmps17
  go_wp2_with fail
  refine CO.out.mono ?_
  rintro e w1 ⟨rfl, hb⟩
  have HX1 : Hid (w1.heap[X]? = some (.cells #[.int .i64 n, .int .i64 o, .int .u32 a, .int .i64 ws, .int .i64 t] 29 (0, 0))) := (hb.block X S0.out).trans HX0.out
  have B1 : Hid (Below X w w1) := B0.out.trans (hb.mono (Nat.le_of_lt S0.out))
  obtain ⟨Z, hZ⟩ : ∃ Z, w1.heap.size = Z := ⟨_, rfl⟩
  have hXZ : Hid (X < Z) := by have := hb.size; have := S0.out; unfold Hid; omega
  clear hb hW0 CO x0 x1 x2 x3 x4 HX0 B0 S0
  go_upto_region 2 with fail
  obtain ⟨w2, hw2⟩ : ∃ W, w1.alloc (.cells #[.string ⟨wd⟩, .bool false, .bool true, .bool false, .bool false, .int .i64 p] 46) = W := ⟨_, rfl⟩
  rw [hw2]
  have b2 : Below w1.heap.size w1 w2 := by rw [← hw2]; exact (Below.refl _ _).alloc (Nat.le_refl _) _
  have HX2 : Hid (w2.heap[X]? = some (.cells #[.int .i64 n, .int .i64 o, .int .u32 a, .int .i64 ws, .int .i64 t] 29 (0, 0))) := (b2.block X (by rw [hZ]; exact hXZ.out)).trans HX1.out
  have HZ2 : Hid (w2.heap[Z]? = some (.cells #[.string ⟨wd⟩, .bool false, .bool true, .bool false, .bool false, .int .i64 p] 46 (0, 0))) := by unfold Hid; rw [← hw2, ← hZ]; exact heap_alloc_new _ _
  have B2 : Hid (Below X w w2) := B1.out.trans (b2.mono (by rw [hZ]; exact Nat.le_of_lt hXZ.out))
  clear hw2 b2 hZ HX1 B1
  have x0 : w2.cell? ⟨X, 0, none⟩ = some (.int .i64 n) := by rw [(row_cell HX2.out 0).1]; rfl
  have x1 : w2.cell? ⟨X, 1, none⟩ = some (.int .i64 o) := by rw [(row_cell HX2.out 1).1]; rfl
  have x2 : w2.cell? ⟨X, 2, none⟩ = some (.int .u32 a) := by rw [(row_cell HX2.out 2).1]; rfl
  have x3 : w2.cell? ⟨X, 3, none⟩ = some (.int .i64 ws) := by rw [(row_cell HX2.out 3).1]; rfl
  have x4 : w2.cell? ⟨X, 4, none⟩ = some (.int .i64 t) := by rw [(row_cell HX2.out 4).1]; rfl
  have z0 : w2.cell? ⟨Z, 0, none⟩ = some (.string ⟨wd⟩) := by rw [(row_cell HZ2.out 0).1]; rfl
  have z1 : w2.cell? ⟨Z, 1, none⟩ = some (.bool false) := by rw [(row_cell HZ2.out 1).1]; rfl
  have z2 : w2.cell? ⟨Z, 2, none⟩ = some (.bool true) := by rw [(row_cell HZ2.out 2).1]; rfl
  have z3 : w2.cell? ⟨Z, 3, none⟩ = some (.bool false) := by rw [(row_cell HZ2.out 3).1]; rfl
  have z4 : w2.cell? ⟨Z, 4, none⟩ = some (.bool false) := by rw [(row_cell HZ2.out 4).1]; rfl
  have z5 : w2.cell? ⟨Z, 5, none⟩ = some (.int .i64 p) := by rw [(row_cell HZ2.out 5).1]; rfl
  by_cases g0 : o < 0
  · have k0 : decide (o < 0) = true := by simp only [g0, decide_true]
    go_wp2_with fail
    go_ret
    refine ⟨congrArg (fun b => Ending.returned (Value.bool b)) ?_, B2.out⟩
    rw [← HVA.out]
    symm
    rw [decide_eq_false (fun h => by have := h.1; omega)]
  have k0 : decide (o < 0) = false := by simp only [g0, decide_false]
  by_cases g1 : 15 < o
  · have k1 : decide (15 < o) = true := by simp only [g1, decide_true]
    go_wp2_with fail
    go_ret
    refine ⟨congrArg (fun b => Ending.returned (Value.bool b)) ?_, B2.out⟩
    rw [← HVA.out]
    symm
    rw [decide_eq_false (fun h => by have := h.1; omega)]
  have k1 : decide (15 < o) = false := by simp only [g1, decide_false]
  by_cases g2 : ws < 0
  · have k2 : decide (ws < 0) = true := by simp only [g2, decide_true]
    go_wp2_with fail
    go_ret
    refine ⟨congrArg (fun b => Ending.returned (Value.bool b)) ?_, B2.out⟩
    rw [← HVA.out]
    symm
    rw [decide_eq_false (fun h => by have := h.1; omega)]
  have k2 : decide (ws < 0) = false := by simp only [g2, decide_false]
  by_cases g3 : 32 < ws
  · have k3 : decide (32 < ws) = true := by simp only [g3, decide_true]
    go_wp2_with fail
    go_ret
    refine ⟨congrArg (fun b => Ending.returned (Value.bool b)) ?_, B2.out⟩
    rw [← HVA.out]
    symm
    rw [decide_eq_false (fun h => by have := h.1; omega)]
  have k3 : decide (32 < ws) = false := by simp only [g3, decide_false]
  by_cases g4 : t < -1
  · have k4 : decide (t < -1) = true := by simp only [g4, decide_true]
    go_wp2_with fail
    go_ret
    refine ⟨congrArg (fun b => Ending.returned (Value.bool b)) ?_, B2.out⟩
    rw [← HVA.out]
    symm
    rw [decide_eq_false (fun h => by have := h.1; omega)]
  have k4 : decide (t < -1) = false := by simp only [g4, decide_false]
  by_cases g5 : 4294967294 < t
  · have k5 : decide (4294967294 < t) = true := by simp only [g5, decide_true]
    go_wp2_with fail
    go_ret
    refine ⟨congrArg (fun b => Ending.returned (Value.bool b)) ?_, B2.out⟩
    rw [← HVA.out]
    symm
    rw [decide_eq_false (fun h => by have := h.1; omega)]
  have k5 : decide (4294967294 < t) = false := by simp only [g5, decide_false]
  go_upto_region 4 with fail
  by_cases m0 : o = 0
  rotate_left
  · have M0 := Lib.hid m0
    have l0 : (o == 0) = false := by simpa using m0
    go_wp2_with fail
    go_ret
    refine ⟨congrArg (fun b => Ending.returned (Value.bool b)) ?_, B2.out⟩
    rw [← HVA.out]
    symm
    rw [decide_eq_false (fun h => M0.out (h.2.1 HB.out.1))]
  have l0 : (o == 0) = true := by simpa using m0
  have M0 := Lib.hid m0
  clear m0
  by_cases m2 : ws = 0
  rotate_left
  · have M2 := Lib.hid m2
    have l2 : (ws == 0) = false := by simpa using m2
    go_wp2_with fail
    go_ret
    refine ⟨congrArg (fun b => Ending.returned (Value.bool b)) ?_, B2.out⟩
    rw [← HVA.out]
    symm
    rw [decide_eq_false (fun h => M2.out (h.2.2.2.1 HB.out.2.2.1))]
  have l2 : (ws == 0) = true := by simpa using m2
  have M2 := Lib.hid m2
  clear m2
  by_cases m3 : t = 0
  rotate_left
  · have M3 := Lib.hid m3
    have l3 : (t == 0) = false := by simpa using m3
    go_wp2_with fail
    go_ret
    refine ⟨congrArg (fun b => Ending.returned (Value.bool b)) ?_, B2.out⟩
    rw [← HVA.out]
    symm
    rw [decide_eq_false (fun h => M3.out (h.2.2.2.2 HB.out.2.2.2))]
  have l3 : (t == 0) = true := by simpa using m3
  have M3 := Lib.hid m3
  clear m3
  by_cases g7 : 1 ≤ a
  rotate_left
  · have k7 : decide (1 ≤ a) = false := by simp only [g7, decide_false]
    go_wp2_with fail
    go_ret
    refine ⟨congrArg (fun b => Ending.returned (Value.bool b)) ?_, B2.out⟩
    rw [← HVA.out]
    symm
    rw [decide_eq_false (fun h => by have := h.1.2.2.2.2.2.2 H26.out; omega)]
  have k7 : decide (1 ≤ a) = true := by simp only [g7, decide_true]
  by_cases g8 : a ≤ 27
  rotate_left
  · have k8 : decide (a ≤ 27) = false := by simp only [g8, decide_false]
    go_wp2_with fail
    go_ret
    refine ⟨congrArg (fun b => Ending.returned (Value.bool b)) ?_, B2.out⟩
    rw [← HVA.out]
    symm
    rw [decide_eq_false (fun h => by have := h.1.2.2.2.2.2.2 H26.out; omega)]
  have k8 : decide (a ≤ 27) = true := by simp only [g8, decide_true]
  go_wp2_with fail
  go_ret
  refine ⟨congrArg (fun b => Ending.returned (Value.bool b)) ?_, B2.out⟩
  rw [← HVA.out]
  symm
  rw [decide_eq_true (⟨⟨by omega, by omega, by omega, by omega, by omega, by omega, (fun _ => by omega)⟩, fun _ => M0.out, (fun h => by rw [HB.out.2.1] at h; cases h), fun _ => M2.out, fun _ => M3.out⟩)]
set_option maxRecDepth 100000 in
set_option maxHeartbeats 32000000 in
theorem rright_ne (n o a ws t : Int) (hn : is n = true) (h26 : ¬ n = 26) (w : World) : Calls Tryd.prog 17 #[.agg #[.int .i64 n, .int .i64 o, .int .u32 a, .int .i64 ws, .int .i64 t]] w fun e w' => e = .returned (.bool (validV ⟨n, o, a, ws, t⟩)) ∧ Below w.heap.size w w' := by
  obtain ⟨X, hX⟩ : ∃ X, w.heap.size = X := ⟨_, rfl⟩
  obtain ⟨W0, hW0⟩ : ∃ W0, w.alloc (.cells #[.int .i64 n, .int .i64 o, .int .u32 a, .int .i64 ws, .int .i64 t] 29) = W0 := ⟨_, rfl⟩
  have B0 : Hid (Below X w W0) := by rw [← hW0, ← hX]; exact (Below.refl _ _).alloc (Nat.le_refl _) _
  have HX0 : Hid (W0.heap[X]? = some (.cells #[.int .i64 n, .int .i64 o, .int .u32 a, .int .i64 ws, .int .i64 t] 29 (0, 0))) := by rw [← hW0, ← hX]; exact heap_alloc_new _ _
  have S0 : Hid (X < W0.heap.size) := by rw [← hW0, ← hX]; unfold Hid; simp
  have CO := Lib.hid (of_any n W0)
  rw [hn] at CO
  obtain ⟨v, hv⟩ : ∃ v, validV ⟨n, o, a, ws, t⟩ = v := ⟨_, rfl⟩
  have HV := Lib.hid hv
  rw [right_alt hn] at hv
  have HVA := Lib.hid hv
  rw [HV.out]
  clear hv
  obtain ⟨bo, hbo⟩ : ∃ x, oB n = x := ⟨_, rfl⟩
  obtain ⟨ba, hba⟩ : ∃ x, aB n = x := ⟨_, rfl⟩
  obtain ⟨bw, hbw⟩ : ∃ x, wB n = x := ⟨_, rfl⟩
  obtain ⟨bt, hbt⟩ : ∃ x, tB n = x := ⟨_, rfl⟩
  obtain ⟨p, hp⟩ : ∃ x, priceL.getD n.toNat 0 = x := ⟨_, rfl⟩
  obtain ⟨wd, hwd⟩ : ∃ x, byteL.getD n.toNat #[] = x := ⟨_, rfl⟩
  have HQ : rowQ n = .agg #[.string ⟨wd⟩, .bool bo, .bool ba, .bool bw, .bool bt, .int .i64 p] := by unfold rowQ wordV; rw [hn, hbo, hba, hbw, hbt, hp, hwd]; rfl
  rw [HQ] at CO
  have HB : Hid (oB n = bo ∧ aB n = ba ∧ wB n = bw ∧ tB n = bt) := ⟨hbo, hba, hbw, hbt⟩
  have H26 := Lib.hid h26
  have k26 : (n == 26) = false := by simpa using h26
  have x0 : W0.cell? ⟨X, 0, none⟩ = some (.int .i64 n) := by rw [(row_cell HX0.out 0).1]; rfl
  have x1 : W0.cell? ⟨X, 1, none⟩ = some (.int .i64 o) := by rw [(row_cell HX0.out 1).1]; rfl
  have x2 : W0.cell? ⟨X, 2, none⟩ = some (.int .u32 a) := by rw [(row_cell HX0.out 2).1]; rfl
  have x3 : W0.cell? ⟨X, 3, none⟩ = some (.int .i64 ws) := by rw [(row_cell HX0.out 3).1]; rfl
  have x4 : W0.cell? ⟨X, 4, none⟩ = some (.int .i64 t) := by rw [(row_cell HX0.out 4).1]; rfl
  simp only [hX]
  clear HQ hbo hba hbw hbt hp hwd h26
  go_enter Tryd.func17, Tryd.ntmps17
  go_wp2_with fail
  refine CO.out.mono ?_
  rintro e w1 ⟨rfl, hb⟩
  have HX1 : Hid (w1.heap[X]? = some (.cells #[.int .i64 n, .int .i64 o, .int .u32 a, .int .i64 ws, .int .i64 t] 29 (0, 0))) := (hb.block X S0.out).trans HX0.out
  have B1 : Hid (Below X w w1) := B0.out.trans (hb.mono (Nat.le_of_lt S0.out))
  obtain ⟨Z, hZ⟩ : ∃ Z, w1.heap.size = Z := ⟨_, rfl⟩
  have hXZ : Hid (X < Z) := by have := hb.size; have := S0.out; unfold Hid; omega
  clear hb hW0 CO x0 x1 x2 x3 x4 HX0 B0 S0
  go_upto_region 2 with fail
  obtain ⟨w2, hw2⟩ : ∃ W, w1.alloc (.cells #[.string ⟨wd⟩, .bool bo, .bool ba, .bool bw, .bool bt, .int .i64 p] 46) = W := ⟨_, rfl⟩
  rw [hw2]
  have b2 : Below w1.heap.size w1 w2 := by rw [← hw2]; exact (Below.refl _ _).alloc (Nat.le_refl _) _
  have HX2 : Hid (w2.heap[X]? = some (.cells #[.int .i64 n, .int .i64 o, .int .u32 a, .int .i64 ws, .int .i64 t] 29 (0, 0))) := (b2.block X (by rw [hZ]; exact hXZ.out)).trans HX1.out
  have HZ2 : Hid (w2.heap[Z]? = some (.cells #[.string ⟨wd⟩, .bool bo, .bool ba, .bool bw, .bool bt, .int .i64 p] 46 (0, 0))) := by unfold Hid; rw [← hw2, ← hZ]; exact heap_alloc_new _ _
  have B2 : Hid (Below X w w2) := B1.out.trans (b2.mono (by rw [hZ]; exact Nat.le_of_lt hXZ.out))
  clear hw2 b2 hZ HX1 B1
  have x0 : w2.cell? ⟨X, 0, none⟩ = some (.int .i64 n) := by rw [(row_cell HX2.out 0).1]; rfl
  have x1 : w2.cell? ⟨X, 1, none⟩ = some (.int .i64 o) := by rw [(row_cell HX2.out 1).1]; rfl
  have x2 : w2.cell? ⟨X, 2, none⟩ = some (.int .u32 a) := by rw [(row_cell HX2.out 2).1]; rfl
  have x3 : w2.cell? ⟨X, 3, none⟩ = some (.int .i64 ws) := by rw [(row_cell HX2.out 3).1]; rfl
  have x4 : w2.cell? ⟨X, 4, none⟩ = some (.int .i64 t) := by rw [(row_cell HX2.out 4).1]; rfl
  have z0 : w2.cell? ⟨Z, 0, none⟩ = some (.string ⟨wd⟩) := by rw [(row_cell HZ2.out 0).1]; rfl
  have z1 : w2.cell? ⟨Z, 1, none⟩ = some (.bool bo) := by rw [(row_cell HZ2.out 1).1]; rfl
  have z2 : w2.cell? ⟨Z, 2, none⟩ = some (.bool ba) := by rw [(row_cell HZ2.out 2).1]; rfl
  have z3 : w2.cell? ⟨Z, 3, none⟩ = some (.bool bw) := by rw [(row_cell HZ2.out 3).1]; rfl
  have z4 : w2.cell? ⟨Z, 4, none⟩ = some (.bool bt) := by rw [(row_cell HZ2.out 4).1]; rfl
  have z5 : w2.cell? ⟨Z, 5, none⟩ = some (.int .i64 p) := by rw [(row_cell HZ2.out 5).1]; rfl
  by_cases g0 : o < 0
  · have k0 : decide (o < 0) = true := by simp only [g0, decide_true]
    go_wp2_with fail
    go_ret
    refine ⟨congrArg (fun b => Ending.returned (Value.bool b)) ?_, B2.out⟩
    rw [← HVA.out]
    symm
    rw [decide_eq_false (fun h => by have := h.1; omega)]
  have k0 : decide (o < 0) = false := by simp only [g0, decide_false]
  by_cases g1 : 15 < o
  · have k1 : decide (15 < o) = true := by simp only [g1, decide_true]
    go_wp2_with fail
    go_ret
    refine ⟨congrArg (fun b => Ending.returned (Value.bool b)) ?_, B2.out⟩
    rw [← HVA.out]
    symm
    rw [decide_eq_false (fun h => by have := h.1; omega)]
  have k1 : decide (15 < o) = false := by simp only [g1, decide_false]
  by_cases g2 : ws < 0
  · have k2 : decide (ws < 0) = true := by simp only [g2, decide_true]
    go_wp2_with fail
    go_ret
    refine ⟨congrArg (fun b => Ending.returned (Value.bool b)) ?_, B2.out⟩
    rw [← HVA.out]
    symm
    rw [decide_eq_false (fun h => by have := h.1; omega)]
  have k2 : decide (ws < 0) = false := by simp only [g2, decide_false]
  by_cases g3 : 32 < ws
  · have k3 : decide (32 < ws) = true := by simp only [g3, decide_true]
    go_wp2_with fail
    go_ret
    refine ⟨congrArg (fun b => Ending.returned (Value.bool b)) ?_, B2.out⟩
    rw [← HVA.out]
    symm
    rw [decide_eq_false (fun h => by have := h.1; omega)]
  have k3 : decide (32 < ws) = false := by simp only [g3, decide_false]
  by_cases g4 : t < -1
  · have k4 : decide (t < -1) = true := by simp only [g4, decide_true]
    go_wp2_with fail
    go_ret
    refine ⟨congrArg (fun b => Ending.returned (Value.bool b)) ?_, B2.out⟩
    rw [← HVA.out]
    symm
    rw [decide_eq_false (fun h => by have := h.1; omega)]
  have k4 : decide (t < -1) = false := by simp only [g4, decide_false]
  by_cases g5 : 4294967294 < t
  · have k5 : decide (4294967294 < t) = true := by simp only [g5, decide_true]
    go_wp2_with fail
    go_ret
    refine ⟨congrArg (fun b => Ending.returned (Value.bool b)) ?_, B2.out⟩
    rw [← HVA.out]
    symm
    rw [decide_eq_false (fun h => by have := h.1; omega)]
  have k5 : decide (4294967294 < t) = false := by simp only [g5, decide_false]
  go_upto_region 4 with fail
  cases bo
  · by_cases m0 : o = 0
    rotate_left
    · have M0 := Lib.hid m0
      have l0 : (o == 0) = false := by simpa using m0
      go_wp2_with fail
      go_ret
      refine ⟨congrArg (fun b => Ending.returned (Value.bool b)) ?_, B2.out⟩
      rw [← HVA.out]
      symm
      rw [decide_eq_false (fun h => M0.out (h.2.1 HB.out.1))]
    have l0 : (o == 0) = true := by simpa using m0
    have M0 := Lib.hid m0
    clear m0
    cases ba
    · by_cases m1 : a = 0
      rotate_left
      · have M1 := Lib.hid m1
        have l1 : (a == 0) = false := by simpa using m1
        go_wp2_with fail
        go_ret
        refine ⟨congrArg (fun b => Ending.returned (Value.bool b)) ?_, B2.out⟩
        rw [← HVA.out]
        symm
        rw [decide_eq_false (fun h => M1.out (h.2.2.1 HB.out.2.1))]
      have l1 : (a == 0) = true := by simpa using m1
      have M1 := Lib.hid m1
      clear m1
      cases bw
      · by_cases m2 : ws = 0
        rotate_left
        · have M2 := Lib.hid m2
          have l2 : (ws == 0) = false := by simpa using m2
          go_wp2_with fail
          go_ret
          refine ⟨congrArg (fun b => Ending.returned (Value.bool b)) ?_, B2.out⟩
          rw [← HVA.out]
          symm
          rw [decide_eq_false (fun h => M2.out (h.2.2.2.1 HB.out.2.2.1))]
        have l2 : (ws == 0) = true := by simpa using m2
        have M2 := Lib.hid m2
        clear m2
        cases bt
        · by_cases m3 : t = 0
          rotate_left
          · have M3 := Lib.hid m3
            have l3 : (t == 0) = false := by simpa using m3
            go_wp2_with fail
            go_ret
            refine ⟨congrArg (fun b => Ending.returned (Value.bool b)) ?_, B2.out⟩
            rw [← HVA.out]
            symm
            rw [decide_eq_false (fun h => M3.out (h.2.2.2.2 HB.out.2.2.2))]
          have l3 : (t == 0) = true := by simpa using m3
          have M3 := Lib.hid m3
          clear m3
          go_upto_region 6 with fail
          go_wp2_with fail
          go_ret
          refine ⟨congrArg (fun b => Ending.returned (Value.bool b)) ?_, B2.out⟩
          rw [← HVA.out]
          symm
          rw [decide_eq_true (⟨⟨by omega, by omega, by omega, by omega, by omega, by omega, fun h => absurd h H26.out⟩, fun _ => M0.out, fun _ => M1.out, fun _ => M2.out, fun _ => M3.out⟩)]
        · go_upto_region 6 with fail
          go_wp2_with fail
          go_ret
          refine ⟨congrArg (fun b => Ending.returned (Value.bool b)) ?_, B2.out⟩
          rw [← HVA.out]
          symm
          rw [decide_eq_true (⟨⟨by omega, by omega, by omega, by omega, by omega, by omega, fun h => absurd h H26.out⟩, fun _ => M0.out, fun _ => M1.out, fun _ => M2.out, (fun h => by rw [HB.out.2.2.2] at h; cases h)⟩)]
      · cases bt
        · by_cases m3 : t = 0
          rotate_left
          · have M3 := Lib.hid m3
            have l3 : (t == 0) = false := by simpa using m3
            go_wp2_with fail
            go_ret
            refine ⟨congrArg (fun b => Ending.returned (Value.bool b)) ?_, B2.out⟩
            rw [← HVA.out]
            symm
            rw [decide_eq_false (fun h => M3.out (h.2.2.2.2 HB.out.2.2.2))]
          have l3 : (t == 0) = true := by simpa using m3
          have M3 := Lib.hid m3
          clear m3
          go_upto_region 6 with fail
          go_wp2_with fail
          go_ret
          refine ⟨congrArg (fun b => Ending.returned (Value.bool b)) ?_, B2.out⟩
          rw [← HVA.out]
          symm
          rw [decide_eq_true (⟨⟨by omega, by omega, by omega, by omega, by omega, by omega, fun h => absurd h H26.out⟩, fun _ => M0.out, fun _ => M1.out, (fun h => by rw [HB.out.2.2.1] at h; cases h), fun _ => M3.out⟩)]
        · go_upto_region 6 with fail
          go_wp2_with fail
          go_ret
          refine ⟨congrArg (fun b => Ending.returned (Value.bool b)) ?_, B2.out⟩
          rw [← HVA.out]
          symm
          rw [decide_eq_true (⟨⟨by omega, by omega, by omega, by omega, by omega, by omega, fun h => absurd h H26.out⟩, fun _ => M0.out, fun _ => M1.out, (fun h => by rw [HB.out.2.2.1] at h; cases h), (fun h => by rw [HB.out.2.2.2] at h; cases h)⟩)]
    · cases bw
      · by_cases m2 : ws = 0
        rotate_left
        · have M2 := Lib.hid m2
          have l2 : (ws == 0) = false := by simpa using m2
          go_wp2_with fail
          go_ret
          refine ⟨congrArg (fun b => Ending.returned (Value.bool b)) ?_, B2.out⟩
          rw [← HVA.out]
          symm
          rw [decide_eq_false (fun h => M2.out (h.2.2.2.1 HB.out.2.2.1))]
        have l2 : (ws == 0) = true := by simpa using m2
        have M2 := Lib.hid m2
        clear m2
        cases bt
        · by_cases m3 : t = 0
          rotate_left
          · have M3 := Lib.hid m3
            have l3 : (t == 0) = false := by simpa using m3
            go_wp2_with fail
            go_ret
            refine ⟨congrArg (fun b => Ending.returned (Value.bool b)) ?_, B2.out⟩
            rw [← HVA.out]
            symm
            rw [decide_eq_false (fun h => M3.out (h.2.2.2.2 HB.out.2.2.2))]
          have l3 : (t == 0) = true := by simpa using m3
          have M3 := Lib.hid m3
          clear m3
          go_upto_region 6 with fail
          go_wp2_with fail
          go_ret
          refine ⟨congrArg (fun b => Ending.returned (Value.bool b)) ?_, B2.out⟩
          rw [← HVA.out]
          symm
          rw [decide_eq_true (⟨⟨by omega, by omega, by omega, by omega, by omega, by omega, fun h => absurd h H26.out⟩, fun _ => M0.out, (fun h => by rw [HB.out.2.1] at h; cases h), fun _ => M2.out, fun _ => M3.out⟩)]
        · go_upto_region 6 with fail
          go_wp2_with fail
          go_ret
          refine ⟨congrArg (fun b => Ending.returned (Value.bool b)) ?_, B2.out⟩
          rw [← HVA.out]
          symm
          rw [decide_eq_true (⟨⟨by omega, by omega, by omega, by omega, by omega, by omega, fun h => absurd h H26.out⟩, fun _ => M0.out, (fun h => by rw [HB.out.2.1] at h; cases h), fun _ => M2.out, (fun h => by rw [HB.out.2.2.2] at h; cases h)⟩)]
      · cases bt
        · by_cases m3 : t = 0
          rotate_left
          · have M3 := Lib.hid m3
            have l3 : (t == 0) = false := by simpa using m3
            go_wp2_with fail
            go_ret
            refine ⟨congrArg (fun b => Ending.returned (Value.bool b)) ?_, B2.out⟩
            rw [← HVA.out]
            symm
            rw [decide_eq_false (fun h => M3.out (h.2.2.2.2 HB.out.2.2.2))]
          have l3 : (t == 0) = true := by simpa using m3
          have M3 := Lib.hid m3
          clear m3
          go_upto_region 6 with fail
          go_wp2_with fail
          go_ret
          refine ⟨congrArg (fun b => Ending.returned (Value.bool b)) ?_, B2.out⟩
          rw [← HVA.out]
          symm
          rw [decide_eq_true (⟨⟨by omega, by omega, by omega, by omega, by omega, by omega, fun h => absurd h H26.out⟩, fun _ => M0.out, (fun h => by rw [HB.out.2.1] at h; cases h), (fun h => by rw [HB.out.2.2.1] at h; cases h), fun _ => M3.out⟩)]
        · go_upto_region 6 with fail
          go_wp2_with fail
          go_ret
          refine ⟨congrArg (fun b => Ending.returned (Value.bool b)) ?_, B2.out⟩
          rw [← HVA.out]
          symm
          rw [decide_eq_true (⟨⟨by omega, by omega, by omega, by omega, by omega, by omega, fun h => absurd h H26.out⟩, fun _ => M0.out, (fun h => by rw [HB.out.2.1] at h; cases h), (fun h => by rw [HB.out.2.2.1] at h; cases h), (fun h => by rw [HB.out.2.2.2] at h; cases h)⟩)]
  · cases ba
    · by_cases m1 : a = 0
      rotate_left
      · have M1 := Lib.hid m1
        have l1 : (a == 0) = false := by simpa using m1
        go_wp2_with fail
        go_ret
        refine ⟨congrArg (fun b => Ending.returned (Value.bool b)) ?_, B2.out⟩
        rw [← HVA.out]
        symm
        rw [decide_eq_false (fun h => M1.out (h.2.2.1 HB.out.2.1))]
      have l1 : (a == 0) = true := by simpa using m1
      have M1 := Lib.hid m1
      clear m1
      cases bw
      · by_cases m2 : ws = 0
        rotate_left
        · have M2 := Lib.hid m2
          have l2 : (ws == 0) = false := by simpa using m2
          go_wp2_with fail
          go_ret
          refine ⟨congrArg (fun b => Ending.returned (Value.bool b)) ?_, B2.out⟩
          rw [← HVA.out]
          symm
          rw [decide_eq_false (fun h => M2.out (h.2.2.2.1 HB.out.2.2.1))]
        have l2 : (ws == 0) = true := by simpa using m2
        have M2 := Lib.hid m2
        clear m2
        cases bt
        · by_cases m3 : t = 0
          rotate_left
          · have M3 := Lib.hid m3
            have l3 : (t == 0) = false := by simpa using m3
            go_wp2_with fail
            go_ret
            refine ⟨congrArg (fun b => Ending.returned (Value.bool b)) ?_, B2.out⟩
            rw [← HVA.out]
            symm
            rw [decide_eq_false (fun h => M3.out (h.2.2.2.2 HB.out.2.2.2))]
          have l3 : (t == 0) = true := by simpa using m3
          have M3 := Lib.hid m3
          clear m3
          go_upto_region 6 with fail
          go_wp2_with fail
          go_ret
          refine ⟨congrArg (fun b => Ending.returned (Value.bool b)) ?_, B2.out⟩
          rw [← HVA.out]
          symm
          rw [decide_eq_true (⟨⟨by omega, by omega, by omega, by omega, by omega, by omega, fun h => absurd h H26.out⟩, (fun h => by rw [HB.out.1] at h; cases h), fun _ => M1.out, fun _ => M2.out, fun _ => M3.out⟩)]
        · go_upto_region 6 with fail
          go_wp2_with fail
          go_ret
          refine ⟨congrArg (fun b => Ending.returned (Value.bool b)) ?_, B2.out⟩
          rw [← HVA.out]
          symm
          rw [decide_eq_true (⟨⟨by omega, by omega, by omega, by omega, by omega, by omega, fun h => absurd h H26.out⟩, (fun h => by rw [HB.out.1] at h; cases h), fun _ => M1.out, fun _ => M2.out, (fun h => by rw [HB.out.2.2.2] at h; cases h)⟩)]
      · cases bt
        · by_cases m3 : t = 0
          rotate_left
          · have M3 := Lib.hid m3
            have l3 : (t == 0) = false := by simpa using m3
            go_wp2_with fail
            go_ret
            refine ⟨congrArg (fun b => Ending.returned (Value.bool b)) ?_, B2.out⟩
            rw [← HVA.out]
            symm
            rw [decide_eq_false (fun h => M3.out (h.2.2.2.2 HB.out.2.2.2))]
          have l3 : (t == 0) = true := by simpa using m3
          have M3 := Lib.hid m3
          clear m3
          go_upto_region 6 with fail
          go_wp2_with fail
          go_ret
          refine ⟨congrArg (fun b => Ending.returned (Value.bool b)) ?_, B2.out⟩
          rw [← HVA.out]
          symm
          rw [decide_eq_true (⟨⟨by omega, by omega, by omega, by omega, by omega, by omega, fun h => absurd h H26.out⟩, (fun h => by rw [HB.out.1] at h; cases h), fun _ => M1.out, (fun h => by rw [HB.out.2.2.1] at h; cases h), fun _ => M3.out⟩)]
        · go_upto_region 6 with fail
          go_wp2_with fail
          go_ret
          refine ⟨congrArg (fun b => Ending.returned (Value.bool b)) ?_, B2.out⟩
          rw [← HVA.out]
          symm
          rw [decide_eq_true (⟨⟨by omega, by omega, by omega, by omega, by omega, by omega, fun h => absurd h H26.out⟩, (fun h => by rw [HB.out.1] at h; cases h), fun _ => M1.out, (fun h => by rw [HB.out.2.2.1] at h; cases h), (fun h => by rw [HB.out.2.2.2] at h; cases h)⟩)]
    · cases bw
      · by_cases m2 : ws = 0
        rotate_left
        · have M2 := Lib.hid m2
          have l2 : (ws == 0) = false := by simpa using m2
          go_wp2_with fail
          go_ret
          refine ⟨congrArg (fun b => Ending.returned (Value.bool b)) ?_, B2.out⟩
          rw [← HVA.out]
          symm
          rw [decide_eq_false (fun h => M2.out (h.2.2.2.1 HB.out.2.2.1))]
        have l2 : (ws == 0) = true := by simpa using m2
        have M2 := Lib.hid m2
        clear m2
        cases bt
        · by_cases m3 : t = 0
          rotate_left
          · have M3 := Lib.hid m3
            have l3 : (t == 0) = false := by simpa using m3
            go_wp2_with fail
            go_ret
            refine ⟨congrArg (fun b => Ending.returned (Value.bool b)) ?_, B2.out⟩
            rw [← HVA.out]
            symm
            rw [decide_eq_false (fun h => M3.out (h.2.2.2.2 HB.out.2.2.2))]
          have l3 : (t == 0) = true := by simpa using m3
          have M3 := Lib.hid m3
          clear m3
          go_upto_region 6 with fail
          go_wp2_with fail
          go_ret
          refine ⟨congrArg (fun b => Ending.returned (Value.bool b)) ?_, B2.out⟩
          rw [← HVA.out]
          symm
          rw [decide_eq_true (⟨⟨by omega, by omega, by omega, by omega, by omega, by omega, fun h => absurd h H26.out⟩, (fun h => by rw [HB.out.1] at h; cases h), (fun h => by rw [HB.out.2.1] at h; cases h), fun _ => M2.out, fun _ => M3.out⟩)]
        · go_upto_region 6 with fail
          go_wp2_with fail
          go_ret
          refine ⟨congrArg (fun b => Ending.returned (Value.bool b)) ?_, B2.out⟩
          rw [← HVA.out]
          symm
          rw [decide_eq_true (⟨⟨by omega, by omega, by omega, by omega, by omega, by omega, fun h => absurd h H26.out⟩, (fun h => by rw [HB.out.1] at h; cases h), (fun h => by rw [HB.out.2.1] at h; cases h), fun _ => M2.out, (fun h => by rw [HB.out.2.2.2] at h; cases h)⟩)]
      · cases bt
        · by_cases m3 : t = 0
          rotate_left
          · have M3 := Lib.hid m3
            have l3 : (t == 0) = false := by simpa using m3
            go_wp2_with fail
            go_ret
            refine ⟨congrArg (fun b => Ending.returned (Value.bool b)) ?_, B2.out⟩
            rw [← HVA.out]
            symm
            rw [decide_eq_false (fun h => M3.out (h.2.2.2.2 HB.out.2.2.2))]
          have l3 : (t == 0) = true := by simpa using m3
          have M3 := Lib.hid m3
          clear m3
          go_upto_region 6 with fail
          go_wp2_with fail
          go_ret
          refine ⟨congrArg (fun b => Ending.returned (Value.bool b)) ?_, B2.out⟩
          rw [← HVA.out]
          symm
          rw [decide_eq_true (⟨⟨by omega, by omega, by omega, by omega, by omega, by omega, fun h => absurd h H26.out⟩, (fun h => by rw [HB.out.1] at h; cases h), (fun h => by rw [HB.out.2.1] at h; cases h), (fun h => by rw [HB.out.2.2.1] at h; cases h), fun _ => M3.out⟩)]
        · go_upto_region 6 with fail
          go_wp2_with fail
          go_ret
          refine ⟨congrArg (fun b => Ending.returned (Value.bool b)) ?_, B2.out⟩
          rw [← HVA.out]
          symm
          rw [decide_eq_true (⟨⟨by omega, by omega, by omega, by omega, by omega, by omega, fun h => absurd h H26.out⟩, (fun h => by rw [HB.out.1] at h; cases h), (fun h => by rw [HB.out.2.1] at h; cases h), (fun h => by rw [HB.out.2.2.1] at h; cases h), (fun h => by rw [HB.out.2.2.2] at h; cases h)⟩)]
end Go.Proofs.YtglpbngdikfliaaDoor.Ca
