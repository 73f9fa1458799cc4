/-
  The reference's Right, Price, Most. Each statement bears its own conditions.
-/
import Derived.Test.YtglpbngdikfliaaDoorCaG
namespace Go.Proofs.YtglpbngdikfliaaDoor.Ca
open Go.RowKit Go.Proofs.YtglpbngdikfliaaDoor.F
set_option linter.unusedVariables false
set_option linter.unusedSimpArgs false
set_option maxRecDepth 100000 in
set_option maxHeartbeats 8000000 in
theorem rright_any (q : Rq) (w : World) : Calls Tryd.prog 17 #[q.val] w fun e w' => e = .returned (.bool (validV q)) ∧ Below w.heap.size w w' := by
  obtain ⟨n, o, a, ws, t⟩ := q
  show Calls Tryd.prog 17 #[.agg #[.int .i64 n, .int .i64 o, .int .u32 a, .int .i64 ws, .int .i64 t]] w _
  rcases Bool.eq_false_or_eq_true (is n) with hn | hn
  · by_cases h26 : n = 26
    · exact rright_26 n o a ws t hn h26 w
    · exact rright_ne n o a ws t hn h26 w
  · have hv : validV ⟨n, o, a, ws, t⟩ = false := by unfold validV; rw [show is ((⟨n, o, a, ws, t⟩ : Rq).call) = false from hn]; rfl
    rw [hv]
    obtain ⟨X, hX⟩ : ∃ X, w.heap.size = X := ⟨_, rfl⟩
    obtain ⟨W0, hW0⟩ : ∃ W0, w.alloc (.cells #[.int .i64 n, .int .i64 o, .int .u32 a, .int .i64 ws, .int .i64 t] 29) = W0 := ⟨_, rfl⟩
    have B0 : Hid (Below X w W0) := by rw [← hW0, ← hX]; exact (Below.refl _ _).alloc (Nat.le_refl _) _
    have HX0 : Hid (W0.heap[X]? = some (.cells #[.int .i64 n, .int .i64 o, .int .u32 a, .int .i64 ws, .int .i64 t] 29 (0, 0))) := by rw [← hW0, ← hX]; exact heap_alloc_new _ _
    have S0 : Hid (X < W0.heap.size) := by rw [← hW0, ← hX]; unfold Hid; simp
    have CO := Lib.hid (of_any n W0)
    have HQ : rowQ n = .agg #[.string ⟨#[]⟩, .bool false, .bool false, .bool false, .bool false, .int .i64 0] := by unfold rowQ; rw [hn]; rfl
    rw [hn, HQ] at CO
    have x0 : W0.cell? ⟨X, 0, none⟩ = some (.int .i64 n) := by rw [(row_cell HX0.out 0).1]; rfl
    have x1 : W0.cell? ⟨X, 1, none⟩ = some (.int .i64 o) := by rw [(row_cell HX0.out 1).1]; rfl
    have x2 : W0.cell? ⟨X, 2, none⟩ = some (.int .u32 a) := by rw [(row_cell HX0.out 2).1]; rfl
    have x3 : W0.cell? ⟨X, 3, none⟩ = some (.int .i64 ws) := by rw [(row_cell HX0.out 3).1]; rfl
    have x4 : W0.cell? ⟨X, 4, none⟩ = some (.int .i64 t) := by rw [(row_cell HX0.out 4).1]; rfl
    simp only [hX]
    go_enter Tryd.func17, Tryd.ntmps17
    go_wp2_with fail
    refine CO.out.mono ?_
    rintro e w1 ⟨rfl, hb⟩
    have B1 : Hid (Below X w w1) := B0.out.trans (hb.mono (Nat.le_of_lt S0.out))
    have b2 : Hid (Below X w (w1.alloc (.cells #[.string ⟨#[]⟩, .bool false, .bool false, .bool false, .bool false, .int .i64 0] 46))) := B1.out.alloc (by have := hb.size; have := S0.out; omega) _
    clear hb hW0 CO HQ hv hn HX0 B0 S0
    go_wp2_with fail
    go_ret
    exact ⟨rfl, b2.out⟩
set_option maxRecDepth 100000 in
set_option maxHeartbeats 8000000 in
theorem rprice_any (q : Rq) (w : World) : Calls Tryd.prog 14 #[q.val] w fun e w' => e = .returned (.int .i64 (priceV q)) ∧ Below w.heap.size w w' := by
  obtain ⟨v, hv⟩ : ∃ v, validV q = v := ⟨_, rfl⟩
  have VF := fun h : v = true => valid_fits (hv.trans h)
  have HP : Hid (priceV q = if v then priceL.getD q.call.toNat 0 + q.wds else 0) := by unfold Hid priceV; rw [hv]
  have CV0 := fun W => rright_any q W
  rw [hv] at CV0
  obtain ⟨n, o, a, ws, t⟩ := q
  show Calls Tryd.prog 14 #[.agg #[.int .i64 n, .int .i64 o, .int .u32 a, .int .i64 ws, .int .i64 t]] w _
  obtain ⟨X, hX⟩ : ∃ X, w.heap.size = X := ⟨_, rfl⟩
  obtain ⟨W0, hW0⟩ : ∃ W0, w.alloc (.cells #[.int .i64 n, .int .i64 o, .int .u32 a, .int .i64 ws, .int .i64 t] 29) = W0 := ⟨_, rfl⟩
  have B0 : Hid (Below X w W0) := by rw [← hW0, ← hX]; exact (Below.refl _ _).alloc (Nat.le_refl _) _
  have HX0 : Hid (W0.heap[X]? = some (.cells #[.int .i64 n, .int .i64 o, .int .u32 a, .int .i64 ws, .int .i64 t] 29 (0, 0))) := by rw [← hW0, ← hX]; exact heap_alloc_new _ _
  have S0 : Hid (X < W0.heap.size) := by rw [← hW0, ← hX]; unfold Hid; simp
  have CV := Lib.hid (CV0 W0)
  clear CV0 hv
  have x0 : W0.cell? ⟨X, 0, none⟩ = some (.int .i64 n) := by rw [(row_cell HX0.out 0).1]; rfl
  have x1 : W0.cell? ⟨X, 1, none⟩ = some (.int .i64 o) := by rw [(row_cell HX0.out 1).1]; rfl
  have x2 : W0.cell? ⟨X, 2, none⟩ = some (.int .u32 a) := by rw [(row_cell HX0.out 2).1]; rfl
  have x3 : W0.cell? ⟨X, 3, none⟩ = some (.int .i64 ws) := by rw [(row_cell HX0.out 3).1]; rfl
  have x4 : W0.cell? ⟨X, 4, none⟩ = some (.int .i64 t) := by rw [(row_cell HX0.out 4).1]; rfl
  simp only [hX]
  go_enter Tryd.func14, Tryd.ntmps14
  go_wp2_with fail
  refine CV.out.mono ?_
  rintro e w1 ⟨rfl, hb⟩
  have HX1 : Hid (w1.heap[X]? = some (.cells #[.int .i64 n, .int .i64 o, .int .u32 a, .int .i64 ws, .int .i64 t] 29 (0, 0))) := (hb.block X S0.out).trans HX0.out
  have B1 : Hid (Below X w w1) := B0.out.trans (hb.mono (Nat.le_of_lt S0.out))
  have S1 : Hid (X < w1.heap.size) := Nat.lt_of_lt_of_le S0.out hb.size
  clear hb x0 x1 x2 x3 x4 hW0 B0 HX0 S0 CV
  cases v
  · go_wp2_with fail
    go_ret
    exact ⟨by rw [HP.out]; rfl, B1.out⟩
  · obtain ⟨h1, h2, _⟩ := VF rfl
    have hn : is n = true := h1
    have hw := fits_wds h2
    replace hw : 0 ≤ ws ∧ ws ≤ 32 := ⟨hw.2.2.1, hw.2.2.2.1⟩
    have CO := Lib.hid (of_any n w1)
    rw [hn] at CO
    obtain ⟨bo, hbo⟩ : ∃ x, oB n = x := ⟨_, rfl⟩
    obtain ⟨ba, hba⟩ : ∃ x, aB n = x := ⟨_, rfl⟩
    obtain ⟨bw, hbw⟩ : ∃ x, wB n = x := ⟨_, rfl⟩
    obtain ⟨bt, hbt⟩ : ∃ x, tB n = x := ⟨_, rfl⟩
    obtain ⟨p, hp⟩ : ∃ x, priceL.getD n.toNat 0 = x := ⟨_, rfl⟩
    obtain ⟨wd, hwd⟩ : ∃ x, byteL.getD n.toNat #[] = x := ⟨_, rfl⟩
    have HQ : rowQ n = .agg #[.string ⟨wd⟩, .bool bo, .bool ba, .bool bw, .bool bt, .int .i64 p] := by unfold rowQ wordV; rw [hn, hbo, hba, hbw, hbt, hp, hwd]; rfl
    rw [HQ] at CO
    have hpb : 1 ≤ p ∧ p ≤ 6 := by
      obtain ⟨k, hk, hk2⟩ := is_nat hn
      rw [← hp, hk]; exact price_le k hk2
    have e1 : IntKind.i64.wrap (p + ws) = p + ws := by rw [IntKind.wrap_i64]; omega
    have HQ2 : Hid (priceV ⟨n, o, a, ws, t⟩ = p + ws) := by unfold Hid; rw [HP.out, ← hp]; rfl
    clear VF h1 h2 HQ hbo hba hbw hbt hp hwd hn hw hpb HP
    have x0 : w1.cell? ⟨X, 0, none⟩ = some (.int .i64 n) := by rw [(row_cell HX1.out 0).1]; rfl
    have x1 : w1.cell? ⟨X, 1, none⟩ = some (.int .i64 o) := by rw [(row_cell HX1.out 1).1]; rfl
    have x2 : w1.cell? ⟨X, 2, none⟩ = some (.int .u32 a) := by rw [(row_cell HX1.out 2).1]; rfl
    have x3 : w1.cell? ⟨X, 3, none⟩ = some (.int .i64 ws) := by rw [(row_cell HX1.out 3).1]; rfl
    have x4 : w1.cell? ⟨X, 4, none⟩ = some (.int .i64 t) := by rw [(row_cell HX1.out 4).1]; rfl
    go_wp2_with fail
    refine CO.out.mono ?_
    rintro e w2 ⟨rfl, hb⟩
    have HX2 : Hid (w2.heap[X]? = some (.cells #[.int .i64 n, .int .i64 o, .int .u32 a, .int .i64 ws, .int .i64 t] 29 (0, 0))) := (hb.block X S1.out).trans HX1.out
    have B2 : Hid (Below X w w2) := B1.out.trans (hb.mono (Nat.le_of_lt S1.out))
    obtain ⟨Z, hZ⟩ : ∃ Z, w2.heap.size = Z := ⟨_, rfl⟩
    have hXZ : Hid (X < Z) := by have := hb.size; have := S1.out; unfold Hid; omega
    clear hb x0 x1 x2 x3 x4 HX1 B1 S1 CO
    go_upto_region 4 with fail
    obtain ⟨w3, hw3⟩ : ∃ W, w2.alloc (.cells #[.string ⟨wd⟩, .bool bo, .bool ba, .bool bw, .bool bt, .int .i64 p] 46) = W := ⟨_, rfl⟩
    rw [hw3]
    have b3 : Below w2.heap.size w2 w3 := by rw [← hw3]; exact (Below.refl _ _).alloc (Nat.le_refl _) _
    have HX3 : Hid (w3.heap[X]? = some (.cells #[.int .i64 n, .int .i64 o, .int .u32 a, .int .i64 ws, .int .i64 t] 29 (0, 0))) := (b3.block X (by rw [hZ]; exact hXZ.out)).trans HX2.out
    have HZ3 : Hid (w3.heap[Z]? = some (.cells #[.string ⟨wd⟩, .bool bo, .bool ba, .bool bw, .bool bt, .int .i64 p] 46 (0, 0))) := by unfold Hid; rw [← hw3, ← hZ]; exact heap_alloc_new _ _
    have B3 : Hid (Below X w w3) := B2.out.trans (b3.mono (by rw [hZ]; exact Nat.le_of_lt hXZ.out))
    clear hw3 b3 hZ HX2 B2
    have x0 : w3.cell? ⟨X, 0, none⟩ = some (.int .i64 n) := by rw [(row_cell HX3.out 0).1]; rfl
    have x1 : w3.cell? ⟨X, 1, none⟩ = some (.int .i64 o) := by rw [(row_cell HX3.out 1).1]; rfl
    have x2 : w3.cell? ⟨X, 2, none⟩ = some (.int .u32 a) := by rw [(row_cell HX3.out 2).1]; rfl
    have x3 : w3.cell? ⟨X, 3, none⟩ = some (.int .i64 ws) := by rw [(row_cell HX3.out 3).1]; rfl
    have x4 : w3.cell? ⟨X, 4, none⟩ = some (.int .i64 t) := by rw [(row_cell HX3.out 4).1]; rfl
    have z0 : w3.cell? ⟨Z, 0, none⟩ = some (.string ⟨wd⟩) := by rw [(row_cell HZ3.out 0).1]; rfl
    have z1 : w3.cell? ⟨Z, 1, none⟩ = some (.bool bo) := by rw [(row_cell HZ3.out 1).1]; rfl
    have z2 : w3.cell? ⟨Z, 2, none⟩ = some (.bool ba) := by rw [(row_cell HZ3.out 2).1]; rfl
    have z3 : w3.cell? ⟨Z, 3, none⟩ = some (.bool bw) := by rw [(row_cell HZ3.out 3).1]; rfl
    have z4 : w3.cell? ⟨Z, 4, none⟩ = some (.bool bt) := by rw [(row_cell HZ3.out 4).1]; rfl
    have z5 : w3.cell? ⟨Z, 5, none⟩ = some (.int .i64 p) := by rw [(row_cell HZ3.out 5).1]; rfl
    go_wp2_with fail
    go_ret
    exact ⟨by rw [HQ2.out]; rfl, B3.out⟩
set_option maxRecDepth 100000 in
set_option maxHeartbeats 8000000 in
theorem rmost_any (n : Int) (w : World) : Calls Tryd.prog 21 #[.int .i64 n] w fun e w' => e = .returned (.int .i64 (mostV n)) ∧ Below w.heap.size w w' := by
  have CO := Lib.hid (of_any n w)
  obtain ⟨v, hv⟩ : ∃ v, is n = v := ⟨_, rfl⟩
  have HP : Hid (mostV n = if v then priceL.getD n.toNat 0 + (if wB n then 32 else 0) else 0) := by unfold Hid mostV; rw [hv]
  rw [hv] at CO
  obtain ⟨X, hX⟩ : ∃ X, w.heap.size = X := ⟨_, rfl⟩
  rw [hX] at CO ⊢
  cases v
  · have HQ : rowQ n = .agg #[.string ⟨#[]⟩, .bool false, .bool false, .bool false, .bool false, .int .i64 0] := by unfold rowQ; rw [hv]; rfl
    rw [HQ] at CO
    clear HQ hv
    go_enter Tryd.func21, Tryd.ntmps21
    go_wp2_with fail
    refine CO.out.mono ?_
    rintro e w1 ⟨rfl, hb⟩
    have b2 : Hid (Below X w (w1.alloc (.cells #[.string ⟨#[]⟩, .bool false, .bool false, .bool false, .bool false, .int .i64 0] 46))) := hb.alloc (by have := hb.size; omega) _
    clear hb CO
    go_wp2_with fail
    go_ret
    exact ⟨by rw [HP.out]; rfl, b2.out⟩
  · have hn := hv
    obtain ⟨bo, hbo⟩ : ∃ x, oB n = x := ⟨_, rfl⟩
    obtain ⟨ba, hba⟩ : ∃ x, aB n = x := ⟨_, rfl⟩
    obtain ⟨bw, hbw⟩ : ∃ x, wB n = x := ⟨_, rfl⟩
    obtain ⟨bt, hbt⟩ : ∃ x, tB n = x := ⟨_, rfl⟩
    obtain ⟨p, hp⟩ : ∃ x, priceL.getD n.toNat 0 = x := ⟨_, rfl⟩
    obtain ⟨wd, hwd⟩ : ∃ x, byteL.getD n.toNat #[] = x := ⟨_, rfl⟩
    have HQ : rowQ n = .agg #[.string ⟨wd⟩, .bool bo, .bool ba, .bool bw, .bool bt, .int .i64 p] := by unfold rowQ wordV; rw [hn, hbo, hba, hbw, hbt, hp, hwd]; rfl
    rw [HQ] at CO
    have hpb : 1 ≤ p ∧ p ≤ 6 := by
      obtain ⟨k, hk, hk2⟩ := is_nat hn
      rw [← hp, hk]; exact price_le k hk2
    have e1 : IntKind.i64.wrap (p + 32) = p + 32 := by rw [IntKind.wrap_i64]; omega
    have HQ2 : Hid (mostV n = p + (if bw then 32 else 0)) := by unfold Hid; rw [HP.out, ← hp, hbw]; rfl
    clear HQ hbo hba hbw hbt hp hwd hn hv hpb HP
    go_enter Tryd.func21, Tryd.ntmps21
    go_wp2_with fail
    refine CO.out.mono ?_
    rintro e w2 ⟨rfl, hb⟩
    have B2 := Lib.hid hb
    obtain ⟨Z, hZ⟩ : ∃ Z, w2.heap.size = Z := ⟨_, rfl⟩
    have hXZ : Hid (X ≤ Z) := by have := hb.size; unfold Hid; omega
    clear hb CO
    go_upto_region 2 with fail
    obtain ⟨w3, hw3⟩ : ∃ W, w2.alloc (.cells #[.string ⟨wd⟩, .bool bo, .bool ba, .bool bw, .bool bt, .int .i64 p] 46) = W := ⟨_, rfl⟩
    rw [hw3]
    have HZ3 : Hid (w3.heap[Z]? = some (.cells #[.string ⟨wd⟩, .bool bo, .bool ba, .bool bw, .bool bt, .int .i64 p] 46 (0, 0))) := by unfold Hid; rw [← hw3, ← hZ]; exact heap_alloc_new _ _
    have B3 : Hid (Below X w w3) := by rw [← hw3]; exact B2.out.alloc (by rw [hZ]; exact hXZ.out) _
    clear hw3 hZ B2
    have z0 : w3.cell? ⟨Z, 0, none⟩ = some (.string ⟨wd⟩) := by rw [(row_cell HZ3.out 0).1]; rfl
    have z1 : w3.cell? ⟨Z, 1, none⟩ = some (.bool bo) := by rw [(row_cell HZ3.out 1).1]; rfl
    have z2 : w3.cell? ⟨Z, 2, none⟩ = some (.bool ba) := by rw [(row_cell HZ3.out 2).1]; rfl
    have z3 : w3.cell? ⟨Z, 3, none⟩ = some (.bool bw) := by rw [(row_cell HZ3.out 3).1]; rfl
    have z4 : w3.cell? ⟨Z, 4, none⟩ = some (.bool bt) := by rw [(row_cell HZ3.out 4).1]; rfl
    have z5 : w3.cell? ⟨Z, 5, none⟩ = some (.int .i64 p) := by rw [(row_cell HZ3.out 5).1]; rfl
    cases bw
    · go_wp2_with fail
      go_ret
      exact ⟨by rw [HQ2.out]; simp, B3.out⟩
    · go_wp2_with fail
      go_ret
      exact ⟨by rw [HQ2.out]; rfl, B3.out⟩
end Go.Proofs.YtglpbngdikfliaaDoor.Ca
