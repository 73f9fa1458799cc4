/-
  Contract of valid. Each statement bears its own conditions.
-/
import Derived.Test.YthmalhakkdjilaaDoorIsA
namespace Go.Proofs.YthmalhakkdjilaaDoor
open Go.RowKit
set_option linter.unusedVariables false
set_option linter.unusedSimpArgs false
theorem fitsV_le {a : Int} {h : Bool} (ht : fitsV a h = true) : 0 ≤ a ∧ a ≤ 15 := by
  unfold fitsV at ht
  simp at ht
  omega
/-- Whether an instruction is one of the machine. -/
def validV (o a b n : Int) : Bool := decide (0 ≤ o ∧ o < 24) && (fitsV a (decide (0 < regsL.getD o.toNat 0)) && fitsV b (decide (1 < regsL.getD o.toNat 0)) && decide (leastL.getD o.toNat 0 ≤ n) && decide (n ≤ mostL.getD o.toNat 0) && (decide (o ≠ 18) || decide (0 < 16 * a + b)))
set_option maxRecDepth 100000 in
set_option maxHeartbeats 8000000 in
theorem valid_any (o a b n : Int) (w : World) (hL : Laid w) : Calls Tryd.prog 56 #[.agg #[.int .i64 o, .int .i64 a, .int .i64 b, .int .i64 n]] w fun e w' => e = .returned (.bool (validV o a b n)) ∧ Below w.heap.size w w' := by
  obtain ⟨W1, hW1⟩ : ∃ W1, w.alloc (.cells #[.int .i64 o, .int .i64 a, .int .i64 b, .int .i64 n] 66) = W1 := ⟨_, rfl⟩
  have b1 : Below w.heap.size w W1 := by rw [← hW1]; exact (Below.refl _ _).alloc (Nat.le_refl _) _
  obtain ⟨g1, hg1⟩ : ∃ g1, w.heap.size = g1 := ⟨_, rfl⟩
  have H1 : Hid (W1.heap[g1]? = some (.cells #[.int .i64 o, .int .i64 a, .int .i64 b, .int .i64 n] 66 (0, 0))) := by rw [← hW1, ← hg1]; exact heap_alloc_new _ _
  have HB1 := Lib.hid b1
  have i0 := (row_cell H1.out 0).1
  have i1 := (row_cell H1.out 1).1
  have i2 := (row_cell H1.out 2).1
  have i3 := (row_cell H1.out 3).1
  simp at i0 i1 i2 i3
  by_cases h0 : o < 0
  · clear hL b1
    go_enter Tryd.func56, Tryd.ntmps56
    simp only [hW1, hg1]
    go_wp2_with fail
    go_ret
    refine ⟨?_, by rw [← hg1]; exact HB1.out⟩
    unfold validV
    rw [decide_eq_false (by omega)]; rfl
  · by_cases h1 : 24 ≤ o
    · clear hL b1
      go_enter Tryd.func56, Tryd.ntmps56
      simp only [hW1, hg1]
      go_wp2_with fail
      go_ret
      refine ⟨?_, by rw [← hg1]; exact HB1.out⟩
      unfold validV
      rw [decide_eq_false (by omega)]; rfl
    · obtain ⟨k, rfl⟩ : ∃ k : Nat, o = (k : Int) := ⟨o.toNat, by omega⟩
      have hk : k < 24 := by omega
      have hkI : (k : Int) < 24 := by omega
      have hk0 : (0 : Int) ≤ (k : Int) := by omega
      have hkn : ¬ ((k : Int) < 0) := by omega
      have hk24 : ¬ (24 ≤ (k : Int)) := by omega
      obtain ⟨s, t, c0, c1, c2, c3, c4, c5⟩ := (hL.below b1).row k hk
      have hv : validV (k : Int) a b n = (fitsV a (decide (0 < regsL.getD k 0)) && fitsV b (decide (1 < regsL.getD k 0)) && decide (leastL.getD k 0 ≤ n) && decide (n ≤ mostL.getD k 0) && (decide ((k : Int) ≠ 18) || decide (0 < 16 * a + b))) := by
        unfold validV; rw [decide_eq_true ⟨by omega, by omega⟩]; simp
      rw [hv]
      obtain ⟨rg, hrg⟩ : ∃ y, regsL.getD k 0 = y := ⟨_, rfl⟩
      obtain ⟨ls, hls⟩ : ∃ y, leastL.getD k 0 = y := ⟨_, rfl⟩
      obtain ⟨ms, hms⟩ : ∃ y, mostL.getD k 0 = y := ⟨_, rfl⟩
      obtain ⟨pr, hpr⟩ : ∃ y, priceL.getD k 0 = y := ⟨_, rfl⟩
      rw [hrg] at c2 ⊢
      rw [hls] at c3 ⊢
      rw [hms] at c4 ⊢
      rw [hpr] at c5
      clear hL hv hrg hls hms hpr b1 h0 h1
      go_enter Tryd.func56, Tryd.ntmps56
      obtain ⟨W2, hW2⟩ : ∃ W2, W1.alloc (.cells #[.string s, .string t, .int .i64 rg, .int .i64 ls, .int .i64 ms, .int .i64 pr] 84) = W2 := ⟨_, rfl⟩
      obtain ⟨g2, hg2⟩ : ∃ g2, W1.heap.size = g2 := ⟨_, rfl⟩
      have b12 : Below W1.heap.size W1 W2 := by rw [← hW2]; exact (Below.refl _ _).alloc (Nat.le_refl _) _
      have H2 : Hid (W2.heap[g2]? = some (.cells #[.string s, .string t, .int .i64 rg, .int .i64 ls, .int .i64 ms, .int .i64 pr] 84 (0, 0))) := by rw [← hW2, ← hg2]; exact heap_alloc_new _ _
      have HI := Lib.hid (And.intro (cell_later b12 i0) (And.intro (cell_later b12 i1) (And.intro (cell_later b12 i2) (cell_later b12 i3))))
      have HB2 : Hid (Below w.heap.size w W2) := HB1.out.trans (b12.mono HB1.out.size)
      obtain ⟨t1, ht1⟩ : ∃ t1, fitsV a (decide (0 < rg)) = t1 := ⟨_, rfl⟩
      obtain ⟨t2, ht2⟩ : ∃ t2, fitsV b (decide (1 < rg)) = t2 := ⟨_, rfl⟩
      have C1 := Lib.hid fun (W : World) => fits_any a (decide (0 < rg)) W
      have C2 := Lib.hid fun (W : World) => fits_any b (decide (1 < rg)) W
      rw [ht1] at C1 ⊢
      rw [ht2] at C2 ⊢
      have HT1 := Lib.hid ht1
      have HT2 := Lib.hid ht2
      clear b12 ht1 ht2
      simp only [hg1]
      obtain ⟨j0, j1, j2, j3⟩ := HI.out
      have o2 := (row_cell H2.out 2).1
      have o3 := (row_cell H2.out 3).1
      have o4 := (row_cell H2.out 4).1
      simp at o2 o3 o4
      go_wp2_with fail
      clear i0 i1 i2 i3 c0 c1 c2 c3 c4 c5 hW1 hW2 H1 H2
      have i0 := j0
      have i1 := j1
      have i2 := j2
      have i3 := j3
      clear j0 j1 j2 j3
      refine (C1.out _).mono ?_
      rintro e V1 ⟨rfl, v1⟩
      have i0 := cell_later v1 i0
      have i1 := cell_later v1 i1
      have i2 := cell_later v1 i2
      have i3 := cell_later v1 i3
      have o2 := cell_later v1 o2
      have o3 := cell_later v1 o3
      have o4 := cell_later v1 o4
      have HV1 : Hid (Below w.heap.size w V1) := HB2.out.trans (v1.mono HB2.out.size)
      clear v1 C1
      cases t1 with
      | false =>
        go_wp2_with fail
        go_ret
        exact ⟨by simp, by rw [← hg1]; exact HV1.out⟩
      | true =>
        go_wp2_with fail
        refine (C2.out _).mono ?_
        rintro e V2 ⟨rfl, v2⟩
        have i0 := cell_later v2 i0
        have i1 := cell_later v2 i1
        have i2 := cell_later v2 i2
        have i3 := cell_later v2 i3
        have o2 := cell_later v2 o2
        have o3 := cell_later v2 o3
        have o4 := cell_later v2 o4
        have HV2 : Hid (Below w.heap.size w V2) := HV1.out.trans (v2.mono HV1.out.size)
        clear v2 C2
        cases t2 with
        | false =>
          go_wp2_with fail
          go_ret
          exact ⟨by simp, by rw [← hg1]; exact HV2.out⟩
        | true =>
          by_cases hl : ls ≤ n
          · by_cases hm : n ≤ ms
            · by_cases h18 : k = 18
              · subst h18
                have CB := Lib.hid fun (W : World) => body_any 18 a b n W (fitsV_le HT1.out) (fitsV_le HT2.out)
                obtain ⟨y, hy⟩ : ∃ y, 16 * a + b = y := ⟨_, rfl⟩
                rw [hy] at CB
                have e18 : ((18 : Nat) : Int) = 18 := rfl
                simp only [e18] at i0 ⊢
                go_wp2_with fail
                refine (CB.out _).mono ?_
                rintro e V3 ⟨rfl, v3⟩
                have HV3 : Hid (Below w.heap.size w V3) := HV2.out.trans (v3.mono HV2.out.size)
                clear v3 CB
                go_wp2_with fail
                go_ret
                exact ⟨by simp [hl, hm, hy], by rw [← hg1]; exact HV3.out⟩
              · have h18I : ¬ ((k : Int) = 18) := by omega
                go_wp2_with fail
                go_ret
                exact ⟨by simp [hl, hm, h18I], by rw [← hg1]; exact HV2.out⟩
            · go_wp2_with fail
              go_ret
              exact ⟨by rw [decide_eq_false (show ¬ n ≤ ms by omega)]; simp, by rw [← hg1]; exact HV2.out⟩
          · go_wp2_with fail
            go_ret
            exact ⟨by rw [decide_eq_false (show ¬ ls ≤ n by omega)]; simp, by rw [← hg1]; exact HV2.out⟩
end Go.Proofs.YthmalhakkdjilaaDoor
