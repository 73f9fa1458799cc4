/-
  The reference's Same. Each statement bears its own conditions.
-/
import Derived.Test.YtehbcoopggpmjaaBgW
namespace Go.Proofs.Ytehbcoopggpmjaa.Bg
open Go.RowKit Go.Proofs.Ytehbcoopggpmjaa.F
set_option linter.unusedVariables false
set_option linter.unusedSimpArgs false
theorem len_zero {n : Nat} : ((n : Int) == 0) = (n == 0) := by
  rw [Bool.eq_iff_iff]; simp
set_option maxRecDepth 100000 in
set_option maxHeartbeats 64000000 in
theorem rsame_any (Z P F K U K2 U2 : Int) (lv lv2 : Value) (L L2 : List (Int × Int)) (p p2 : Nat → Prop) (w : World) (hr : RelS ⟨Z, P, F, K, U⟩ L) (hr2 : RelS ⟨Z, P, F, K2, U2⟩ L2) (hl : LV w p lv L) (hl2 : LV w p2 lv2 L2) (hn : L.length ≤ 60) (hn2 : L2.length ≤ 60) : Calls Try.prog 22 #[.agg #[.int .i64 Z, .int .i64 P, .int .i64 F, lv], .agg #[.int .i64 Z, .int .i64 P, .int .i64 F, lv2]] w fun e w' => e = .returned (.bool (decide (K = K2 ∧ U = U2))) ∧ Below w.heap.size w w' := by
  obtain ⟨X, hX⟩ : ∃ X, w.heap.size = X := ⟨_, rfl⟩
  have hl := hl.imp (q := fun b => b < X) (fun b hb _ => by omega)
  have hl2 := hl2.imp (q := fun b => b < X) (fun b hb _ => by omega)
  obtain ⟨A, c, rfl, _⟩ := hl.ex
  obtain ⟨A2, c2, rfl, _⟩ := hl2.ex
  obtain ⟨n, hnl⟩ : ∃ n, L.length = n := ⟨_, rfl⟩
  obtain ⟨n2, hnl2⟩ : ∃ n, L2.length = n := ⟨_, rfl⟩
  rw [hnl] at hl ⊢
  rw [hnl2] at hl2 ⊢
  obtain ⟨v, hv⟩ : ∃ v, decide (K = K2 ∧ U = U2) = v := ⟨_, rfl⟩
  rw [hv]
  have HV := Lib.hid hv
  obtain ⟨W0, hW0⟩ : ∃ W0, (w.alloc (.cells #[.int .i64 Z, .int .i64 P, .int .i64 F, .slice A n c] 29)).alloc (.cells #[.int .i64 Z, .int .i64 P, .int .i64 F, .slice A2 n2 c2] 29) = W0 := ⟨_, rfl⟩
  have B0 : Below X w W0 := by rw [← hW0, ← hX]; exact ((Below.refl _ _).alloc (Nat.le_refl _) _).alloc (by simp) _
  have S0 : W0.heap.size = X + 2 := by rw [← hW0, ← hX]; simp
  have HX0 : W0.heap[X]? = some (.cells #[.int .i64 Z, .int .i64 P, .int .i64 F, .slice A n c] 29 (0, 0)) := by
    rw [← hW0, ← hX]; exact (((Below.refl _ _).alloc (by simp) _).block (B := (w.alloc (.cells #[.int .i64 Z, .int .i64 P, .int .i64 F, .slice A n c] 29)).heap.size) _ (by simp)).trans (heap_alloc_new _ _)
  have HB0 : W0.heap[X + 1]? = some (.cells #[.int .i64 Z, .int .i64 P, .int .i64 F, .slice A2 n2 c2] 29 (0, 0)) := by
    rw [← hW0, ← hX]; have := heap_alloc_new (w.alloc (.cells #[.int .i64 Z, .int .i64 P, .int .i64 F, .slice A n c] 29)) (.cells #[.int .i64 Z, .int .i64 P, .int .i64 F, .slice A2 n2 c2] 29); simpa using this
  obtain ⟨W1, hW1⟩ : ∃ W, (W0.alloc (.cells #[.int .i64 0, .int .i64 0] 65)).alloc (.cells #[.int .i64 0, .int .i64 0] 65) = W := ⟨_, rfl⟩
  have b01 : Below W0.heap.size W0 W1 := by rw [← hW1]; exact ((Below.refl _ _).alloc (Nat.le_refl _) _).alloc (by simp) _
  have S1 : W1.heap.size = X + 4 := by rw [← hW1]; simp [S0]
  have B1 : Hid (Below X w W1) := B0.trans (b01.mono (by omega))
  have HX1 : Hid (W1.heap[X]? = some (.cells #[.int .i64 Z, .int .i64 P, .int .i64 F, .slice A n c] 29 (0, 0))) := (b01.block _ (by omega)).trans HX0
  have HB1 : Hid (W1.heap[X + 1]? = some (.cells #[.int .i64 Z, .int .i64 P, .int .i64 F, .slice A2 n2 c2] 29 (0, 0))) := (b01.block _ (by omega)).trans HB0
  have HY1 : Hid (W1.heap[X + 2]? = some (.cells #[.int .i64 0, .int .i64 0] 65 (0, 0))) := by
    unfold Hid; rw [← hW1, ← S0]; exact (((Below.refl _ _).alloc (by simp) _).block (B := (W0.alloc (.cells #[.int .i64 0, .int .i64 0] 65)).heap.size) _ (by simp)).trans (heap_alloc_new _ _)
  have HZ1 : Hid (W1.heap[X + 3]? = some (.cells #[.int .i64 0, .int .i64 0] 65 (0, 0))) := by
    unfold Hid; rw [← hW1]; have := heap_alloc_new (W0.alloc (.cells #[.int .i64 0, .int .i64 0] 65)) (.cells #[.int .i64 0, .int .i64 0] 65); simpa [S0] using this
  have HL1 : Hid (LV W1 (fun b => b < X) (.slice A n c) L) := (hl.below (by rw [hX]; exact B1.out))
  have HL2 : Hid (LV W1 (fun b => b < X) (.slice A2 n2 c2) L2) := (hl2.below (by rw [hX]; exact B1.out))
  have S1' := Lib.hid S1
  have HN := Lib.hid hnl
  have HN2 := Lib.hid hnl2
  have H60 := Lib.hid hn
  have H602 := Lib.hid hn2
  have HR := Lib.hid hr
  have HR2 := Lib.hid hr2
  have HZ : Hid ((K = K2 ∧ U = U2) → (n = 0 ↔ n2 = 0)) := fun ⟨e1, e2⟩ => by
    have a1 : n = 0 ↔ L = [] := by rw [← hnl]; exact List.length_eq_zero_iff
    have a2 : n2 = 0 ↔ L2 = [] := by rw [← hnl2]; exact List.length_eq_zero_iff
    rw [a1, a2]
    constructor
    · intro h
      apply Classical.byContradiction
      intro h2
      have := (hr.nil h).2; have := hr2.some_ h2; simp only at *; omega
    · intro h
      apply Classical.byContradiction
      intro h2
      have := (hr2.nil h).2; have := hr.some_ h2; simp only at *; omega
  have HW0 := Lib.hid hW0
  have HW1 := Lib.hid hW1
  clear hW0 hW1 S0 b01 B0 HX0 HB0 hv hl hl2 hn hn2 hr hr2 S1 hnl hnl2
  go_enter Try.func22, Try.ntmps22
  go_upto_region 2 with fail
  simp only [HW0.out, HW1.out, Nat.add_assoc, Nat.reduceAdd]
  clear HW0 HW1
  go_upto_block 0 with fail
  go_wp2_with fail
  go_loopw [7] (fun iv wr => SmR (X + 2) L W1 iv wr) (fun i _ => L.length - (intOf i).toNat)
  case atStart => exact ⟨⟨0, Nat.zero_le _, rfl, HY1.out, Fo.refl _ _⟩⟩
  case round =>
    obtain ⟨vr, hvr⟩ : ∃ w', w' = wr := ⟨_, rfl⟩
    subst hvr
    obtain ⟨⟨j, hj, rfl, hy, hfo⟩⟩ := hrel
    have FVR := Lib.hid hfo
    have HYR := Lib.hid hy
    obtain ⟨g, hg⟩ : ∃ x, (L.take j).foldl fl (0, 0) = x := ⟨_, rfl⟩
    rw [hg] at HYR
    have HXR : Hid (vr.heap[X]? = some (.cells #[.int .i64 Z, .int .i64 P, .int .i64 F, .slice A n c] 29 (0, 0))) := (hfo.block (X) (Array.getElem?_eq_some_iff.1 HX1.out).1 (by omega)).trans HX1.out
    have v3 : vr.cell? ⟨X, 3, none⟩ = some (.slice A n c) := (row_cell HXR.out 3).1.trans rfl
    clear hy hfo
    by_cases hlt : j < n
    rotate_left
    · have hjI : ¬ (j : Int) < (n : Int) := by omega
      have k0 : decide ((j : Int) < (n : Int)) = false := by simp only [hjI, decide_false]
      have HYF : Hid (vr.heap[X + 2]? = some (.cells #[.int .i64 K, .int .i64 U] 65 (0, 0))) := by
        have e : j = L.length := by have := HN.out; omega
        have e2 := HR.out.fold
        rw [e, List.take_length] at hg
        rw [hg] at e2
        have h1 := HYR.out
        rw [e2] at h1
        exact h1
      clear hlt hj hg
      obtain ⟨Wm, hWm⟩ : ∃ W, W = vr := ⟨_, rfl⟩
      subst hWm
      have HXm := HXR
      have HYm := HYF
      have HBm : Hid (Wm.heap[X + 1]? = some (.cells #[.int .i64 Z, .int .i64 P, .int .i64 F, .slice A2 n2 c2] 29 (0, 0))) := (FVR.out.block (X + 1) (by have := S1'.out; omega) (by omega)).trans HB1.out
      have HZm : Hid (Wm.heap[X + 3]? = some (.cells #[.int .i64 0, .int .i64 0] 65 (0, 0))) := (FVR.out.block (X + 3) (by have := S1'.out; omega) (by omega)).trans HZ1.out
      have HLm : Hid (LV Wm (fun b => b < X) (.slice A2 n2 c2) L2) := HL2.out.fo FVR.out (fun b hb => by omega)
      have Sm : Hid (X + 4 ≤ Wm.heap.size) := by have := FVR.out.size; have := S1'.out; unfold Hid; omega
      have Bm : Hid (Below X w Wm) := B1.out.trans (FVR.out.below (fun b hb => by omega) (by have := S1'.out; omega))
      clear HXR HYF FVR HYR HX1 HY1 HB1 HZ1 HL1 HL2 B1 S1'
      go_upto_block 2 with fail
      go_wp2_with fail
      go_loopw [8] (fun iv wr => SmR (X + 3) L2 Wm iv wr) (fun i _ => L2.length - (intOf i).toNat)
      case atStart => exact ⟨⟨0, Nat.zero_le _, rfl, HZm.out, Fo.refl _ _⟩⟩
      case round =>
        obtain ⟨vr, hvr⟩ : ∃ w', w' = wr := ⟨_, rfl⟩
        subst hvr
        obtain ⟨⟨j, hj, rfl, hy, hfo⟩⟩ := hrel
        have FVR := Lib.hid hfo
        have HYR := Lib.hid hy
        obtain ⟨g, hg⟩ : ∃ x, (L2.take j).foldl fl (0, 0) = x := ⟨_, rfl⟩
        rw [hg] at HYR
        have HXR : Hid (vr.heap[X + 1]? = some (.cells #[.int .i64 Z, .int .i64 P, .int .i64 F, .slice A2 n2 c2] 29 (0, 0))) := (hfo.block (X + 1) (Array.getElem?_eq_some_iff.1 HBm.out).1 (by omega)).trans HBm.out
        have v3 : vr.cell? ⟨X + 1, 3, none⟩ = some (.slice A2 n2 c2) := (row_cell HXR.out 3).1.trans rfl
        clear hy hfo
        by_cases hlt : j < n2
        rotate_left
        · have hjI : ¬ (j : Int) < (n2 : Int) := by omega
          have k0 : decide ((j : Int) < (n2 : Int)) = false := by simp only [hjI, decide_false]
          have HYF : Hid (vr.heap[X + 3]? = some (.cells #[.int .i64 K2, .int .i64 U2] 65 (0, 0))) := by
            have e : j = L2.length := by have := HN2.out; omega
            have e2 := HR2.out.fold
            rw [e, List.take_length] at hg
            rw [hg] at e2
            have h1 := HYR.out
            rw [e2] at h1
            exact h1
          clear hlt hj hg
          have HXe : Hid (vr.heap[X]? = some (.cells #[.int .i64 Z, .int .i64 P, .int .i64 F, .slice A n c] 29 (0, 0))) := (FVR.out.block X (by have := Sm.out; omega) (by omega)).trans HXm.out
          have HYe : Hid (vr.heap[X + 2]? = some (.cells #[.int .i64 K, .int .i64 U] 65 (0, 0))) := (FVR.out.block (X + 2) (by have := Sm.out; omega) (by omega)).trans HYm.out
          have Be : Hid (Below X w vr) := Bm.out.trans (FVR.out.below (fun b hb => by omega) (by have := Sm.out; omega))
          clear v3
          have p0 : vr.cell? ⟨X, 0, none⟩ = some (.int .i64 Z) := by rw [(row_cell HXe.out 0).1]; rfl
          have p1 : vr.cell? ⟨X, 1, none⟩ = some (.int .i64 P) := by rw [(row_cell HXe.out 1).1]; rfl
          have p2 : vr.cell? ⟨X, 2, none⟩ = some (.int .i64 F) := by rw [(row_cell HXe.out 2).1]; rfl
          have p3 : vr.cell? ⟨X, 3, none⟩ = some (.slice A n c) := by rw [(row_cell HXe.out 3).1]; rfl
          have q0 : vr.cell? ⟨X + 1, 0, none⟩ = some (.int .i64 Z) := by rw [(row_cell HXR.out 0).1]; rfl
          have q1 : vr.cell? ⟨X + 1, 1, none⟩ = some (.int .i64 P) := by rw [(row_cell HXR.out 1).1]; rfl
          have q2 : vr.cell? ⟨X + 1, 2, none⟩ = some (.int .i64 F) := by rw [(row_cell HXR.out 2).1]; rfl
          have q3 : vr.cell? ⟨X + 1, 3, none⟩ = some (.slice A2 n2 c2) := by rw [(row_cell HXR.out 3).1]; rfl
          have r0 : vr.cell? ⟨X + 2, 0, none⟩ = some (.int .i64 K) := by rw [(row_cell HYe.out 0).1]; rfl
          have r1 : vr.cell? ⟨X + 2, 1, none⟩ = some (.int .i64 U) := by rw [(row_cell HYe.out 1).1]; rfl
          have t0 : vr.cell? ⟨X + 3, 0, none⟩ = some (.int .i64 K2) := by rw [(row_cell HYF.out 0).1]; rfl
          have t1 : vr.cell? ⟨X + 3, 1, none⟩ = some (.int .i64 U2) := by rw [(row_cell HYF.out 1).1]; rfl
          cases v with
          | false =>
            have cq : ∀ W, (binOp .eql 65 (.agg #[.int .i64 K, .int .i64 U]) (.agg #[.int .i64 K2, .int .i64 U2])).run Try.prog W = .ok (.bool false) W := fun W => by rw [c_eql]; have := of_decide_eq_false HV.out; congr 2; rw [Bool.eq_false_iff]; simp; intro h1 h2; exact this ⟨h1, h2⟩
            clear k0
            go_wp2_with fail
            go_ret
            exact ⟨rfl, Be.out⟩
          | true =>
            have cq : ∀ W, (binOp .eql 65 (.agg #[.int .i64 K, .int .i64 U]) (.agg #[.int .i64 K2, .int .i64 U2])).run Try.prog W = .ok (.bool true) W := fun W => by rw [c_eql]; have := of_decide_eq_true HV.out; simp [this.1, this.2]
            by_cases h0 : n = 0
            · have m0 : ((n : Int) == 0) = true := by simp [h0]
              have m1 : ((n2 : Int) == 0) = true := by simp [(HZ.out (of_decide_eq_true HV.out)).1 h0]
              clear h0
              go_wp2_with fail
              go_ret
              exact ⟨rfl, Be.out⟩
            · have m0 : ((n : Int) == 0) = false := by simp [h0]
              have m1 : ((n2 : Int) == 0) = false := by simp; exact fun e => h0 ((HZ.out (of_decide_eq_true HV.out)).2 e)
              clear h0
              go_wp2_with fail
              go_ret
              exact ⟨rfl, Be.out⟩
        have hjI : (j : Int) < (n2 : Int) := by omega
        have k0 : decide ((j : Int) < (n2 : Int)) = true := by simp only [hjI, decide_true]
        have hjL : j < L2.length := by have := HN2.out; omega
        obtain ⟨A', c', e', hcell⟩ := HLm.out.ex
        injection e' with e1' e2' e3'
        subst e1'
        obtain ⟨b, off, hA, hb, hp, hcc⟩ := hcell (by omega)
        subst hA
        have HBB : Hid (b < X) := hp
        obtain ⟨d, hd⟩ : ∃ d, L2[j]? = some d := ⟨_, List.getElem?_eq_getElem hjL⟩
        have cc := hcc j d hd
        have e0 : vr.cell? ⟨b, off + j * 2, none⟩ = some (.int .i64 d.1) := FVR.out.cell (by have := HBB.out; simp only; omega) cc.1
        have e1 : vr.cell? ⟨b, off + j * 2 + 1, none⟩ = some (.int .i64 d.2) := FVR.out.cell (by have := HBB.out; simp only; omega) cc.2
        have hst : (L2.take (j + 1)).foldl fl (0, 0) = fl g d := by rw [take_step hd, List.foldl_append, hg]; rfl
        have hpre := HR2.out.pre (j + 1)
        rw [hst] at hpre
        obtain ⟨d1, d2⟩ := d
        obtain ⟨a1, a2⟩ := g
        simp only at e0 e1 HYR
        have HJ : Hid (j < L2.length) := hjL
        have jb : (j : Int) ≤ 60 := by have := H602.out; omega
        have y0 : vr.cell? ⟨X + 3, 0, none⟩ = some (.int .i64 a1) := (row_cell HYR.out 0).1.trans rfl
        have HE0 := Lib.hid e0
        have HE1 := Lib.hid e1
        have HV3 := Lib.hid v3
        have HST0 := Lib.hid hst
        have HPRE := Lib.hid hpre
        clear hcc cc hd hp hb hcell hjL hlt hj hg hst hpre e2' e3' e1
        go_upto_region 11 with fail
        refine wp_region_held_drew (S := (fun w' => w'.cell? ⟨X + 3, 0, none⟩ = some (.int .i64 a1) ∧ w'.cell? ⟨X + 1, 3, none⟩ = some (.slice (some ⟨b, off, none⟩) n2 c2) ∧ w'.cell? ⟨b, off + j * 2, none⟩ = some (.int .i64 d1))) (by kernel_rfl) ⟨y0, v3, e0⟩ (fun hHeld => ?_)
        refine takeD (i := 0) (d := some 51) (v := ?_) _ rfl rfl (by kernel_rfl) (by kernel_rfl) (by kernel_rfl) (fun _ _ _ h => h) (by rfl) ?_ (by assumption) ?_
        rotate_left
        · (intro w hSw; (try dsimp only at hSw); go_simp) <;> with_reducible rfl
        try simp only [Act.put, List.setIfInBounds_toArray, List.set_cons_zero, List.set_cons_succ]
        refine takeD (i := 1) (d := some 52) (v := ?_) _ rfl rfl (by kernel_rfl) (by kernel_rfl) (by kernel_rfl) (fun _ _ _ h => h) (by rfl) ?_ (by assumption) ?_
        rotate_left
        · (intro w hSw; (try dsimp only at hSw); go_simp) <;> with_reducible rfl
        try simp only [Act.put, List.setIfInBounds_toArray, List.set_cons_zero, List.set_cons_succ]
        refine takeD (i := 2) (d := some 53) (v := ?_) _ rfl rfl (by kernel_rfl) (by kernel_rfl) (by kernel_rfl) (fun _ _ _ h => h) (by rfl) ?_ (by assumption) ?_
        rotate_left
        · (intro w hSw; (try dsimp only at hSw); go_simp) <;> with_reducible rfl
        try simp only [Act.put, List.setIfInBounds_toArray, List.set_cons_zero, List.set_cons_succ]
        refine takeD (i := 3) (d := some 54) (v := ?_) _ rfl rfl (by kernel_rfl) (by kernel_rfl) (by kernel_rfl) (fun _ _ _ h => h) (by rfl) ?_ (by assumption) ?_
        rotate_left
        · (intro w hSw; (try dsimp only at hSw); go_simp) <;> with_reducible rfl
        try simp only [Act.put, List.setIfInBounds_toArray, List.set_cons_zero, List.set_cons_succ]
        refine takeD (i := 4) (d := some 55) (v := ?_) _ rfl rfl (by kernel_rfl) (by kernel_rfl) (by kernel_rfl) (fun _ _ _ h => h) (by rfl) ?_ (by assumption) ?_
        rotate_left
        · (intro w hSw; (try dsimp only at hSw); go_simp) <;> with_reducible rfl
        try simp only [Act.put, List.setIfInBounds_toArray, List.set_cons_zero, List.set_cons_succ]
        refine takeD (i := 5) (d := some 56) (v := ?_) _ rfl rfl (by kernel_rfl) (by kernel_rfl) (by kernel_rfl) (fun _ _ _ h => h) (by rfl) ?_ (by assumption) ?_
        rotate_left
        · (intro w hSw; (try dsimp only at hSw); go_simp) <;> with_reducible rfl
        try simp only [Act.put, List.setIfInBounds_toArray, List.set_cons_zero, List.set_cons_succ]
        refine takeD (i := 6) (d := some 57) (v := ?_) _ rfl rfl (by kernel_rfl) (by kernel_rfl) (by kernel_rfl) (fun _ _ _ h => h) (by rfl) ?_ (by assumption) ?_
        rotate_left
        · (intro w hSw; (try dsimp only at hSw); go_simp) <;> with_reducible rfl
        try simp only [Act.put, List.setIfInBounds_toArray, List.set_cons_zero, List.set_cons_succ]
        refine takeD (i := 7) (d := some 58) (v := ?_) _ rfl rfl (by kernel_rfl) (by kernel_rfl) (by kernel_rfl) (fun _ _ _ h => h) (by rfl) ?_ (by assumption) ?_
        rotate_left
        · (intro w hSw; (try dsimp only at hSw); go_simp) <;> with_reducible rfl
        try simp only [Act.put, List.setIfInBounds_toArray, List.set_cons_zero, List.set_cons_succ]
        refine takeD (i := 8) (d := some 59) (v := ?_) _ rfl rfl (by kernel_rfl) (by kernel_rfl) (by kernel_rfl) (fun _ _ _ h => h) (by rfl) ?_ (by assumption) ?_
        rotate_left
        · (intro w hSw; (try dsimp only at hSw); go_simp) <;> with_reducible rfl
        try simp only [Act.put, List.setIfInBounds_toArray, List.set_cons_zero, List.set_cons_succ]
        refine wpAnyH_done (by kernel_rfl) ?_ _
        obtain ⟨V, hV⟩ : ∃ W, vr.drew = W := ⟨_, rfl⟩
        have v3 : V.cell? ⟨X + 1, 3, none⟩ = some (.slice (some ⟨b, off, none⟩) n2 c2) := by rw [← hV]; exact HV3.out
        have e0 : V.cell? ⟨b, off + j * 2, none⟩ = some (.int .i64 d1) := by rw [← hV]; exact HE0.out
        have e1 : V.cell? ⟨b, off + j * 2 + 1, none⟩ = some (.int .i64 d2) := by rw [← hV]; exact HE1.out
        have HYW : Hid (V.heap[X + 3]? = some (.cells #[.int .i64 a1, .int .i64 a2] 65 (0, 0))) := by rw [← hV]; exact HYR.out
        have FW : Hid (Fo (fun b => b = X + 3) Wm V) := by rw [← hV]; exact FVR.out.trans (Fo.of_below (Below.refl _ _).drew) (fun _ h => .inl h)
        simp only [hV]
        clear hHeld hV y0 HV3 HE0 HE1 HYR FVR HXR
        by_cases hc : a1 = d1
        · have k1 : (a1 == d1) = true := by simpa using hc
          have k2 : (a1 != d1) = false := by simpa using hc
          obtain ⟨s, hs⟩ : ∃ x, a2 = x := ⟨_, rfl⟩
          have HST : Hid ((L2.take (j + 1)).foldl fl (0, 0) = (d1, s + d2)) := by unfold Hid; rw [HST0.out]; unfold fl; rw [if_pos hc, hc, hs]
          have u1 : IntKind.i64.wrap (s + d2) = s + d2 := by have h1 := HPRE.out; unfold fl at h1; rw [if_pos hc, hs] at h1; simp only at h1; rw [IntKind.wrap_i64]; omega
          have HYV : Hid (V.heap[X + 3]? = some (.cells #[.int .i64 d1, .int .i64 s] 65 (0, 0))) := by unfold Hid; rw [← hs, ← hc]; exact HYW.out
          have FV := Lib.hid FW.out
          clear hc hs HYW FW HST0 HPRE e0
          have y1 : V.cell? ⟨X + 3, 1, none⟩ = some (.int .i64 s) := (row_cell HYV.out 1).1.trans rfl
          have yz1 : V.frozen? ⟨X + 3, 1, none⟩ = false := (row_cell HYV.out 1).2
          go_upto_region 13 with fail
          refine wp_region_held_drew (S := (fun w' => w'.cell? ⟨X + 1, 3, none⟩ = some (.slice (some ⟨b, off, none⟩) n2 c2) ∧ w'.cell? ⟨b, off + j * 2 + 1, none⟩ = some (.int .i64 d2))) (by kernel_rfl) ⟨v3, e1⟩ (fun hHeld => ?_)
          obtain ⟨Vd, hVd⟩ : ∃ W, V.drew = W := ⟨_, rfl⟩
          have g1 : Vd.cell? ⟨X + 3, 1, none⟩ = some (.int .i64 s) := by rw [← hVd]; exact y1
          have gz1 : Vd.frozen? ⟨X + 3, 1, none⟩ = false := by rw [← hVd]; exact yz1
          have GV : Hid (Vd.cell? ⟨X + 1, 3, none⟩ = some (.slice (some ⟨b, off, none⟩) n2 c2) ∧ Vd.cell? ⟨b, off + j * 2 + 1, none⟩ = some (.int .i64 d2)) := by rw [← hVd]; exact ⟨v3, e1⟩
          have HYD : Hid (Vd.heap[X + 3]? = some (.cells #[.int .i64 d1, .int .i64 s] 65 (0, 0))) := by rw [← hVd]; exact HYV.out
          have FD : Hid (Fo (fun b => b = X + 3) Wm Vd) := by rw [← hVd]; exact FV.out.trans (Fo.of_below (Below.refl _ _).drew) (fun _ h => .inl h)
          clear v3 e1 y1 yz1
          try simp only [hVd]
          clear hVd
          refine takeD (i := 0) (d := some 67) (v := ?_) _ rfl rfl (by kernel_rfl) (by kernel_rfl) (by kernel_rfl) (fun _ _ _ h => h) (by rfl) ?_ (GV.out) ?_
          rotate_left
          · (intro w hSw; (try dsimp only at hSw); go_simp) <;> with_reducible rfl
          try simp only [Act.put, List.setIfInBounds_toArray, List.set_cons_zero, List.set_cons_succ]
          refine takeD (i := 2) (d := some 69) (v := ?_) _ rfl rfl (by kernel_rfl) (by kernel_rfl) (by kernel_rfl) (fun _ _ _ h => h) (by rfl) ?_ (GV.out) ?_
          rotate_left
          · (intro w hSw; (try dsimp only at hSw); go_simp) <;> with_reducible rfl
          try simp only [Act.put, List.setIfInBounds_toArray, List.set_cons_zero, List.set_cons_succ]
          refine takeD (i := 3) (d := some 70) (v := ?_) _ rfl rfl (by kernel_rfl) (by kernel_rfl) (by kernel_rfl) (fun _ _ _ h => h) (by rfl) ?_ (GV.out) ?_
          rotate_left
          · (intro w hSw; (try dsimp only at hSw); go_simp) <;> with_reducible rfl
          try simp only [Act.put, List.setIfInBounds_toArray, List.set_cons_zero, List.set_cons_succ]
          refine takeD (i := 4) (d := some 71) (v := ?_) _ rfl rfl (by kernel_rfl) (by kernel_rfl) (by kernel_rfl) (fun _ _ _ h => h) (by rfl) ?_ (GV.out) ?_
          rotate_left
          · (intro w hSw; (try dsimp only at hSw); go_simp) <;> with_reducible rfl
          try simp only [Act.put, List.setIfInBounds_toArray, List.set_cons_zero, List.set_cons_succ]
          refine takeD (i := 5) (d := some 72) (v := ?_) _ rfl rfl (by kernel_rfl) (by kernel_rfl) (by kernel_rfl) (fun _ _ _ h => h) (by rfl) ?_ (GV.out) ?_
          rotate_left
          · (intro w hSw; (try dsimp only at hSw); go_simp) <;> with_reducible rfl
          try simp only [Act.put, List.setIfInBounds_toArray, List.set_cons_zero, List.set_cons_succ]
          refine takeD (i := 6) (d := some 73) (v := ?_) _ rfl rfl (by kernel_rfl) (by kernel_rfl) (by kernel_rfl) (fun _ _ _ h => h) (by rfl) ?_ (GV.out) ?_
          rotate_left
          · (intro w hSw; (try dsimp only at hSw); go_simp) <;> with_reducible rfl
          try simp only [Act.put, List.setIfInBounds_toArray, List.set_cons_zero, List.set_cons_succ]
          refine takeD (i := 7) (d := some 74) (v := ?_) _ rfl rfl (by kernel_rfl) (by kernel_rfl) (by kernel_rfl) (fun _ _ _ h => h) (by rfl) ?_ (GV.out) ?_
          rotate_left
          · (intro w hSw; (try dsimp only at hSw); go_simp) <;> with_reducible rfl
          try simp only [Act.put, List.setIfInBounds_toArray, List.set_cons_zero, List.set_cons_succ]
          refine wpAnyH_ready (rs := [1]) (by kernel_rfl) (by simp) ?_
          refine AllReadyH.cons rfl (fun K0 hK => ?_) AllReadyH.nil
          try go_simp
          refine hK.out _ _ GV.out (fun hHeld => ?_)
          clear hK K0 hHeld
          try simp only [Act.put, List.setIfInBounds_toArray, List.set_cons_zero, List.set_cons_succ]
          refine takeD (i := 8) (d := some 75) (v := ?_) _ rfl rfl (by kernel_rfl) (by kernel_rfl) (by kernel_rfl) (fun _ _ _ h => h) (by rfl) ?_ (GV.out) ?_
          rotate_left
          · (intro w hSw; (try dsimp only at hSw); go_simp) <;> with_reducible rfl
          try simp only [Act.put, List.setIfInBounds_toArray, List.set_cons_zero, List.set_cons_succ]
          refine takeD (i := 9) (d := some 76) (v := ?_) _ rfl rfl (by kernel_rfl) (by kernel_rfl) (by kernel_rfl) (fun _ _ _ h => h) (by rfl) ?_ (GV.out) ?_
          rotate_left
          · (intro w hSw; (try dsimp only at hSw); go_simp) <;> with_reducible rfl
          try simp only [Act.put, List.setIfInBounds_toArray, List.set_cons_zero, List.set_cons_succ]
          refine wpAnyH_ready (rs := [10]) (by kernel_rfl) (by simp) ?_
          refine AllReadyH.cons rfl (fun K0 hK => ?_) AllReadyH.nil
          try go_simp
          obtain ⟨Vs, hVs⟩ : ∃ W, Vd.setCell ⟨X + 3, 1, none⟩ (.int .i64 (s + d2)) = W := ⟨_, rfl⟩
          try rw [hVs]
          have HYs : Hid (Vs.heap[X + 3]? = some (.cells #[.int .i64 d1, .int .i64 (s + d2)] 65 (0, 0))) := by unfold Hid; rw [← hVs]; exact set_at HYD.out 1 _
          have Fs : Hid (Fo (fun b => b = X + 3) Wm Vs) := by unfold Hid; rw [← hVs]; exact FD.out.setCell (.inl rfl) 1 _
          have GS : Vs.cell? ⟨X + 1, 3, none⟩ = some (.slice (some ⟨b, off, none⟩) n2 c2) ∧ Vs.cell? ⟨b, off + j * 2 + 1, none⟩ = some (.int .i64 d2) := by
            rw [← hVs]
            exact ⟨(World.cell?_of_block (set_far 1 _ (by simp only; omega))).trans GV.out.1, (World.cell?_of_block (set_far 1 _ (by have := HBB.out; simp only; omega))).trans GV.out.2⟩
          refine hK.out _ _ GS (fun hHeld => ?_)
          clear hK K0 hHeld hVs GS g1 gz1
          try simp only [Act.put, List.setIfInBounds_toArray, List.set_cons_zero, List.set_cons_succ]
          refine wpAnyH_done (by kernel_rfl) ?_ _
          go_wp2_with fail
          have Q : SmR (X + 3) L2 Wm (.int .i64 ((j : Int) + 1)) Vs := ⟨⟨j + 1, HJ.out, by go_num, by rw [HST.out]; exact HYs.out, Fs.out⟩⟩
          refine ⟨Q, ?_⟩
          have := HJ.out
          simp [intOf]
          omega
        have k1 : (a1 == d1) = false := by simpa using hc
        have k2 : (a1 != d1) = true := by simpa using hc
        obtain ⟨s, hs⟩ : ∃ x : Int, 0 = x := ⟨_, rfl⟩
        have HST : Hid ((L2.take (j + 1)).foldl fl (0, 0) = (d1, s + d2)) := by unfold Hid; rw [HST0.out]; unfold fl; rw [if_neg hc, ← hs, Int.zero_add]
        have u1 : IntKind.i64.wrap (s + d2) = s + d2 := by have h1 := HPRE.out; unfold fl at h1; rw [if_neg hc] at h1; simp only at h1; rw [IntKind.wrap_i64]; omega
        have y0 : V.cell? ⟨X + 3, 0, none⟩ = some (.int .i64 a1) := (row_cell HYW.out 0).1.trans rfl
        have yz0 : V.frozen? ⟨X + 3, 0, none⟩ = false := (row_cell HYW.out 0).2
        have y1 : V.cell? ⟨X + 3, 1, none⟩ = some (.int .i64 a2) := (row_cell HYW.out 1).1.trans rfl
        have yz1 : V.frozen? ⟨X + 3, 1, none⟩ = false := (row_cell HYW.out 1).2
        have HE1 := Lib.hid e1
        have HV3 := Lib.hid v3
        clear hc HST0 HPRE e1
        go_upto_region 13 with fail
        obtain ⟨V2, hV2⟩ : ∃ W, (V.setCell ⟨X + 3, 0, none⟩ (.int .i64 d1)).setCell ⟨X + 3, 1, none⟩ (.int .i64 s) = W := ⟨_, rfl⟩
        rw [hV2]
        have HYV : Hid (V2.heap[X + 3]? = some (.cells #[.int .i64 d1, .int .i64 s] 65 (0, 0))) := by unfold Hid; rw [← hV2]; exact set_at (set_at HYW.out 0 _) 1 _
        have FV : Hid (Fo (fun b => b = X + 3) Wm V2) := by unfold Hid; rw [← hV2]; exact (FW.out.setCell (.inl rfl) 0 _).setCell (.inl rfl) 1 _
        clear v3 y0 yz0 y1 yz1
        have v3 : V2.cell? ⟨X + 1, 3, none⟩ = some (.slice (some ⟨b, off, none⟩) n2 c2) := by rw [← hV2]; exact (World.cell?_of_block ((set_far _ _ (by simp only; omega)).trans (set_far _ _ (by simp only; omega)))).trans HV3.out
        have e1 : V2.cell? ⟨b, off + j * 2 + 1, none⟩ = some (.int .i64 d2) := by rw [← hV2]; exact (World.cell?_of_block ((set_far _ _ (by have := HBB.out; simp only; omega)).trans (set_far _ _ (by have := HBB.out; simp only; omega)))).trans HE1.out
        clear hV2 HYW FW e0 HE1 HV3 hs
        have y1 : V2.cell? ⟨X + 3, 1, none⟩ = some (.int .i64 s) := (row_cell HYV.out 1).1.trans rfl
        have yz1 : V2.frozen? ⟨X + 3, 1, none⟩ = false := (row_cell HYV.out 1).2
        go_upto_region 13 with fail
        refine wp_region_held_drew (S := (fun w' => w'.cell? ⟨X + 1, 3, none⟩ = some (.slice (some ⟨b, off, none⟩) n2 c2) ∧ w'.cell? ⟨b, off + j * 2 + 1, none⟩ = some (.int .i64 d2))) (by kernel_rfl) ⟨v3, e1⟩ (fun hHeld => ?_)
        obtain ⟨Vd, hVd⟩ : ∃ W, V2.drew = W := ⟨_, rfl⟩
        have g1 : Vd.cell? ⟨X + 3, 1, none⟩ = some (.int .i64 s) := by rw [← hVd]; exact y1
        have gz1 : Vd.frozen? ⟨X + 3, 1, none⟩ = false := by rw [← hVd]; exact yz1
        have GV : Hid (Vd.cell? ⟨X + 1, 3, none⟩ = some (.slice (some ⟨b, off, none⟩) n2 c2) ∧ Vd.cell? ⟨b, off + j * 2 + 1, none⟩ = some (.int .i64 d2)) := by rw [← hVd]; exact ⟨v3, e1⟩
        have HYD : Hid (Vd.heap[X + 3]? = some (.cells #[.int .i64 d1, .int .i64 s] 65 (0, 0))) := by rw [← hVd]; exact HYV.out
        have FD : Hid (Fo (fun b => b = X + 3) Wm Vd) := by rw [← hVd]; exact FV.out.trans (Fo.of_below (Below.refl _ _).drew) (fun _ h => .inl h)
        clear v3 e1 y1 yz1
        try simp only [hVd]
        clear hVd
        refine takeD (i := 0) (d := some 67) (v := ?_) _ rfl rfl (by kernel_rfl) (by kernel_rfl) (by kernel_rfl) (fun _ _ _ h => h) (by rfl) ?_ (GV.out) ?_
        rotate_left
        · (intro w hSw; (try dsimp only at hSw); go_simp) <;> with_reducible rfl
        try simp only [Act.put, List.setIfInBounds_toArray, List.set_cons_zero, List.set_cons_succ]
        refine takeD (i := 2) (d := some 69) (v := ?_) _ rfl rfl (by kernel_rfl) (by kernel_rfl) (by kernel_rfl) (fun _ _ _ h => h) (by rfl) ?_ (GV.out) ?_
        rotate_left
        · (intro w hSw; (try dsimp only at hSw); go_simp) <;> with_reducible rfl
        try simp only [Act.put, List.setIfInBounds_toArray, List.set_cons_zero, List.set_cons_succ]
        refine takeD (i := 3) (d := some 70) (v := ?_) _ rfl rfl (by kernel_rfl) (by kernel_rfl) (by kernel_rfl) (fun _ _ _ h => h) (by rfl) ?_ (GV.out) ?_
        rotate_left
        · (intro w hSw; (try dsimp only at hSw); go_simp) <;> with_reducible rfl
        try simp only [Act.put, List.setIfInBounds_toArray, List.set_cons_zero, List.set_cons_succ]
        refine takeD (i := 4) (d := some 71) (v := ?_) _ rfl rfl (by kernel_rfl) (by kernel_rfl) (by kernel_rfl) (fun _ _ _ h => h) (by rfl) ?_ (GV.out) ?_
        rotate_left
        · (intro w hSw; (try dsimp only at hSw); go_simp) <;> with_reducible rfl
        try simp only [Act.put, List.setIfInBounds_toArray, List.set_cons_zero, List.set_cons_succ]
        refine takeD (i := 5) (d := some 72) (v := ?_) _ rfl rfl (by kernel_rfl) (by kernel_rfl) (by kernel_rfl) (fun _ _ _ h => h) (by rfl) ?_ (GV.out) ?_
        rotate_left
        · (intro w hSw; (try dsimp only at hSw); go_simp) <;> with_reducible rfl
        try simp only [Act.put, List.setIfInBounds_toArray, List.set_cons_zero, List.set_cons_succ]
        refine takeD (i := 6) (d := some 73) (v := ?_) _ rfl rfl (by kernel_rfl) (by kernel_rfl) (by kernel_rfl) (fun _ _ _ h => h) (by rfl) ?_ (GV.out) ?_
        rotate_left
        · (intro w hSw; (try dsimp only at hSw); go_simp) <;> with_reducible rfl
        try simp only [Act.put, List.setIfInBounds_toArray, List.set_cons_zero, List.set_cons_succ]
        refine takeD (i := 7) (d := some 74) (v := ?_) _ rfl rfl (by kernel_rfl) (by kernel_rfl) (by kernel_rfl) (fun _ _ _ h => h) (by rfl) ?_ (GV.out) ?_
        rotate_left
        · (intro w hSw; (try dsimp only at hSw); go_simp) <;> with_reducible rfl
        try simp only [Act.put, List.setIfInBounds_toArray, List.set_cons_zero, List.set_cons_succ]
        refine wpAnyH_ready (rs := [1]) (by kernel_rfl) (by simp) ?_
        refine AllReadyH.cons rfl (fun K0 hK => ?_) AllReadyH.nil
        try go_simp
        refine hK.out _ _ GV.out (fun hHeld => ?_)
        clear hK K0 hHeld
        try simp only [Act.put, List.setIfInBounds_toArray, List.set_cons_zero, List.set_cons_succ]
        refine takeD (i := 8) (d := some 75) (v := ?_) _ rfl rfl (by kernel_rfl) (by kernel_rfl) (by kernel_rfl) (fun _ _ _ h => h) (by rfl) ?_ (GV.out) ?_
        rotate_left
        · (intro w hSw; (try dsimp only at hSw); go_simp) <;> with_reducible rfl
        try simp only [Act.put, List.setIfInBounds_toArray, List.set_cons_zero, List.set_cons_succ]
        refine takeD (i := 9) (d := some 76) (v := ?_) _ rfl rfl (by kernel_rfl) (by kernel_rfl) (by kernel_rfl) (fun _ _ _ h => h) (by rfl) ?_ (GV.out) ?_
        rotate_left
        · (intro w hSw; (try dsimp only at hSw); go_simp) <;> with_reducible rfl
        try simp only [Act.put, List.setIfInBounds_toArray, List.set_cons_zero, List.set_cons_succ]
        refine wpAnyH_ready (rs := [10]) (by kernel_rfl) (by simp) ?_
        refine AllReadyH.cons rfl (fun K0 hK => ?_) AllReadyH.nil
        try go_simp
        obtain ⟨Vs, hVs⟩ : ∃ W, Vd.setCell ⟨X + 3, 1, none⟩ (.int .i64 (s + d2)) = W := ⟨_, rfl⟩
        try rw [hVs]
        have HYs : Hid (Vs.heap[X + 3]? = some (.cells #[.int .i64 d1, .int .i64 (s + d2)] 65 (0, 0))) := by unfold Hid; rw [← hVs]; exact set_at HYD.out 1 _
        have Fs : Hid (Fo (fun b => b = X + 3) Wm Vs) := by unfold Hid; rw [← hVs]; exact FD.out.setCell (.inl rfl) 1 _
        have GS : Vs.cell? ⟨X + 1, 3, none⟩ = some (.slice (some ⟨b, off, none⟩) n2 c2) ∧ Vs.cell? ⟨b, off + j * 2 + 1, none⟩ = some (.int .i64 d2) := by
          rw [← hVs]
          exact ⟨(World.cell?_of_block (set_far 1 _ (by simp only; omega))).trans GV.out.1, (World.cell?_of_block (set_far 1 _ (by have := HBB.out; simp only; omega))).trans GV.out.2⟩
        refine hK.out _ _ GS (fun hHeld => ?_)
        clear hK K0 hHeld hVs GS g1 gz1
        try simp only [Act.put, List.setIfInBounds_toArray, List.set_cons_zero, List.set_cons_succ]
        refine wpAnyH_done (by kernel_rfl) ?_ _
        go_wp2_with fail
        have Q : SmR (X + 3) L2 Wm (.int .i64 ((j : Int) + 1)) Vs := ⟨⟨j + 1, HJ.out, by go_num, by rw [HST.out]; exact HYs.out, Fs.out⟩⟩
        refine ⟨Q, ?_⟩
        have := HJ.out
        simp [intOf]
        omega
    have hjI : (j : Int) < (n : Int) := by omega
    have k0 : decide ((j : Int) < (n : Int)) = true := by simp only [hjI, decide_true]
    have hjL : j < L.length := by have := HN.out; omega
    obtain ⟨A', c', e', hcell⟩ := HL1.out.ex
    injection e' with e1' e2' e3'
    subst e1'
    obtain ⟨b, off, hA, hb, hp, hcc⟩ := hcell (by omega)
    subst hA
    have HBB : Hid (b < X) := hp
    obtain ⟨d, hd⟩ : ∃ d, L[j]? = some d := ⟨_, List.getElem?_eq_getElem hjL⟩
    have cc := hcc j d hd
    have e0 : vr.cell? ⟨b, off + j * 2, none⟩ = some (.int .i64 d.1) := FVR.out.cell (by have := HBB.out; simp only; omega) cc.1
    have e1 : vr.cell? ⟨b, off + j * 2 + 1, none⟩ = some (.int .i64 d.2) := FVR.out.cell (by have := HBB.out; simp only; omega) cc.2
    have hst : (L.take (j + 1)).foldl fl (0, 0) = fl g d := by rw [take_step hd, List.foldl_append, hg]; rfl
    have hpre := HR.out.pre (j + 1)
    rw [hst] at hpre
    obtain ⟨d1, d2⟩ := d
    obtain ⟨a1, a2⟩ := g
    simp only at e0 e1 HYR
    have HJ : Hid (j < L.length) := hjL
    have jb : (j : Int) ≤ 60 := by have := H60.out; omega
    have y0 : vr.cell? ⟨X + 2, 0, none⟩ = some (.int .i64 a1) := (row_cell HYR.out 0).1.trans rfl
    have HE0 := Lib.hid e0
    have HE1 := Lib.hid e1
    have HV3 := Lib.hid v3
    have HST0 := Lib.hid hst
    have HPRE := Lib.hid hpre
    clear hcc cc hd hp hb hcell hjL hlt hj hg hst hpre e2' e3' e1
    go_upto_region 5 with fail
    refine wp_region_held_drew (S := (fun w' => w'.cell? ⟨X + 2, 0, none⟩ = some (.int .i64 a1) ∧ w'.cell? ⟨X, 3, none⟩ = some (.slice (some ⟨b, off, none⟩) n c) ∧ w'.cell? ⟨b, off + j * 2, none⟩ = some (.int .i64 d1))) (by kernel_rfl) ⟨y0, v3, e0⟩ (fun hHeld => ?_)
    refine takeD (i := 0) (d := some 18) (v := ?_) _ rfl rfl (by kernel_rfl) (by kernel_rfl) (by kernel_rfl) (fun _ _ _ h => h) (by rfl) ?_ (by assumption) ?_
    rotate_left
    · (intro w hSw; (try dsimp only at hSw); go_simp) <;> with_reducible rfl
    try simp only [Act.put, List.setIfInBounds_toArray, List.set_cons_zero, List.set_cons_succ]
    refine takeD (i := 1) (d := some 19) (v := ?_) _ rfl rfl (by kernel_rfl) (by kernel_rfl) (by kernel_rfl) (fun _ _ _ h => h) (by rfl) ?_ (by assumption) ?_
    rotate_left
    · (intro w hSw; (try dsimp only at hSw); go_simp) <;> with_reducible rfl
    try simp only [Act.put, List.setIfInBounds_toArray, List.set_cons_zero, List.set_cons_succ]
    refine takeD (i := 2) (d := some 20) (v := ?_) _ rfl rfl (by kernel_rfl) (by kernel_rfl) (by kernel_rfl) (fun _ _ _ h => h) (by rfl) ?_ (by assumption) ?_
    rotate_left
    · (intro w hSw; (try dsimp only at hSw); go_simp) <;> with_reducible rfl
    try simp only [Act.put, List.setIfInBounds_toArray, List.set_cons_zero, List.set_cons_succ]
    refine takeD (i := 3) (d := some 21) (v := ?_) _ rfl rfl (by kernel_rfl) (by kernel_rfl) (by kernel_rfl) (fun _ _ _ h => h) (by rfl) ?_ (by assumption) ?_
    rotate_left
    · (intro w hSw; (try dsimp only at hSw); go_simp) <;> with_reducible rfl
    try simp only [Act.put, List.setIfInBounds_toArray, List.set_cons_zero, List.set_cons_succ]
    refine takeD (i := 4) (d := some 22) (v := ?_) _ rfl rfl (by kernel_rfl) (by kernel_rfl) (by kernel_rfl) (fun _ _ _ h => h) (by rfl) ?_ (by assumption) ?_
    rotate_left
    · (intro w hSw; (try dsimp only at hSw); go_simp) <;> with_reducible rfl
    try simp only [Act.put, List.setIfInBounds_toArray, List.set_cons_zero, List.set_cons_succ]
    refine takeD (i := 5) (d := some 23) (v := ?_) _ rfl rfl (by kernel_rfl) (by kernel_rfl) (by kernel_rfl) (fun _ _ _ h => h) (by rfl) ?_ (by assumption) ?_
    rotate_left
    · (intro w hSw; (try dsimp only at hSw); go_simp) <;> with_reducible rfl
    try simp only [Act.put, List.setIfInBounds_toArray, List.set_cons_zero, List.set_cons_succ]
    refine takeD (i := 6) (d := some 24) (v := ?_) _ rfl rfl (by kernel_rfl) (by kernel_rfl) (by kernel_rfl) (fun _ _ _ h => h) (by rfl) ?_ (by assumption) ?_
    rotate_left
    · (intro w hSw; (try dsimp only at hSw); go_simp) <;> with_reducible rfl
    try simp only [Act.put, List.setIfInBounds_toArray, List.set_cons_zero, List.set_cons_succ]
    refine takeD (i := 7) (d := some 25) (v := ?_) _ rfl rfl (by kernel_rfl) (by kernel_rfl) (by kernel_rfl) (fun _ _ _ h => h) (by rfl) ?_ (by assumption) ?_
    rotate_left
    · (intro w hSw; (try dsimp only at hSw); go_simp) <;> with_reducible rfl
    try simp only [Act.put, List.setIfInBounds_toArray, List.set_cons_zero, List.set_cons_succ]
    refine takeD (i := 8) (d := some 26) (v := ?_) _ rfl rfl (by kernel_rfl) (by kernel_rfl) (by kernel_rfl) (fun _ _ _ h => h) (by rfl) ?_ (by assumption) ?_
    rotate_left
    · (intro w hSw; (try dsimp only at hSw); go_simp) <;> with_reducible rfl
    try simp only [Act.put, List.setIfInBounds_toArray, List.set_cons_zero, List.set_cons_succ]
    refine wpAnyH_done (by kernel_rfl) ?_ _
    obtain ⟨V, hV⟩ : ∃ W, vr.drew = W := ⟨_, rfl⟩
    have v3 : V.cell? ⟨X, 3, none⟩ = some (.slice (some ⟨b, off, none⟩) n c) := by rw [← hV]; exact HV3.out
    have e0 : V.cell? ⟨b, off + j * 2, none⟩ = some (.int .i64 d1) := by rw [← hV]; exact HE0.out
    have e1 : V.cell? ⟨b, off + j * 2 + 1, none⟩ = some (.int .i64 d2) := by rw [← hV]; exact HE1.out
    have HYW : Hid (V.heap[X + 2]? = some (.cells #[.int .i64 a1, .int .i64 a2] 65 (0, 0))) := by rw [← hV]; exact HYR.out
    have FW : Hid (Fo (fun b => b = X + 2) W1 V) := by rw [← hV]; exact FVR.out.trans (Fo.of_below (Below.refl _ _).drew) (fun _ h => .inl h)
    simp only [hV]
    clear hHeld hV y0 HV3 HE0 HE1 HYR FVR HXR
    by_cases hc : a1 = d1
    · have k1 : (a1 == d1) = true := by simpa using hc
      have k2 : (a1 != d1) = false := by simpa using hc
      obtain ⟨s, hs⟩ : ∃ x, a2 = x := ⟨_, rfl⟩
      have HST : Hid ((L.take (j + 1)).foldl fl (0, 0) = (d1, s + d2)) := by unfold Hid; rw [HST0.out]; unfold fl; rw [if_pos hc, hc, hs]
      have u1 : IntKind.i64.wrap (s + d2) = s + d2 := by have h1 := HPRE.out; unfold fl at h1; rw [if_pos hc, hs] at h1; simp only at h1; rw [IntKind.wrap_i64]; omega
      have HYV : Hid (V.heap[X + 2]? = some (.cells #[.int .i64 d1, .int .i64 s] 65 (0, 0))) := by unfold Hid; rw [← hs, ← hc]; exact HYW.out
      have FV := Lib.hid FW.out
      clear hc hs HYW FW HST0 HPRE e0
      have y1 : V.cell? ⟨X + 2, 1, none⟩ = some (.int .i64 s) := (row_cell HYV.out 1).1.trans rfl
      have yz1 : V.frozen? ⟨X + 2, 1, none⟩ = false := (row_cell HYV.out 1).2
      go_upto_region 7 with fail
      refine wp_region_held_drew (S := (fun w' => w'.cell? ⟨X, 3, none⟩ = some (.slice (some ⟨b, off, none⟩) n c) ∧ w'.cell? ⟨b, off + j * 2 + 1, none⟩ = some (.int .i64 d2))) (by kernel_rfl) ⟨v3, e1⟩ (fun hHeld => ?_)
      obtain ⟨Vd, hVd⟩ : ∃ W, V.drew = W := ⟨_, rfl⟩
      have g1 : Vd.cell? ⟨X + 2, 1, none⟩ = some (.int .i64 s) := by rw [← hVd]; exact y1
      have gz1 : Vd.frozen? ⟨X + 2, 1, none⟩ = false := by rw [← hVd]; exact yz1
      have GV : Hid (Vd.cell? ⟨X, 3, none⟩ = some (.slice (some ⟨b, off, none⟩) n c) ∧ Vd.cell? ⟨b, off + j * 2 + 1, none⟩ = some (.int .i64 d2)) := by rw [← hVd]; exact ⟨v3, e1⟩
      have HYD : Hid (Vd.heap[X + 2]? = some (.cells #[.int .i64 d1, .int .i64 s] 65 (0, 0))) := by rw [← hVd]; exact HYV.out
      have FD : Hid (Fo (fun b => b = X + 2) W1 Vd) := by rw [← hVd]; exact FV.out.trans (Fo.of_below (Below.refl _ _).drew) (fun _ h => .inl h)
      clear v3 e1 y1 yz1
      try simp only [hVd]
      clear hVd
      refine takeD (i := 0) (d := some 34) (v := ?_) _ rfl rfl (by kernel_rfl) (by kernel_rfl) (by kernel_rfl) (fun _ _ _ h => h) (by rfl) ?_ (GV.out) ?_
      rotate_left
      · (intro w hSw; (try dsimp only at hSw); go_simp) <;> with_reducible rfl
      try simp only [Act.put, List.setIfInBounds_toArray, List.set_cons_zero, List.set_cons_succ]
      refine takeD (i := 2) (d := some 36) (v := ?_) _ rfl rfl (by kernel_rfl) (by kernel_rfl) (by kernel_rfl) (fun _ _ _ h => h) (by rfl) ?_ (GV.out) ?_
      rotate_left
      · (intro w hSw; (try dsimp only at hSw); go_simp) <;> with_reducible rfl
      try simp only [Act.put, List.setIfInBounds_toArray, List.set_cons_zero, List.set_cons_succ]
      refine takeD (i := 3) (d := some 37) (v := ?_) _ rfl rfl (by kernel_rfl) (by kernel_rfl) (by kernel_rfl) (fun _ _ _ h => h) (by rfl) ?_ (GV.out) ?_
      rotate_left
      · (intro w hSw; (try dsimp only at hSw); go_simp) <;> with_reducible rfl
      try simp only [Act.put, List.setIfInBounds_toArray, List.set_cons_zero, List.set_cons_succ]
      refine takeD (i := 4) (d := some 38) (v := ?_) _ rfl rfl (by kernel_rfl) (by kernel_rfl) (by kernel_rfl) (fun _ _ _ h => h) (by rfl) ?_ (GV.out) ?_
      rotate_left
      · (intro w hSw; (try dsimp only at hSw); go_simp) <;> with_reducible rfl
      try simp only [Act.put, List.setIfInBounds_toArray, List.set_cons_zero, List.set_cons_succ]
      refine takeD (i := 5) (d := some 39) (v := ?_) _ rfl rfl (by kernel_rfl) (by kernel_rfl) (by kernel_rfl) (fun _ _ _ h => h) (by rfl) ?_ (GV.out) ?_
      rotate_left
      · (intro w hSw; (try dsimp only at hSw); go_simp) <;> with_reducible rfl
      try simp only [Act.put, List.setIfInBounds_toArray, List.set_cons_zero, List.set_cons_succ]
      refine takeD (i := 6) (d := some 40) (v := ?_) _ rfl rfl (by kernel_rfl) (by kernel_rfl) (by kernel_rfl) (fun _ _ _ h => h) (by rfl) ?_ (GV.out) ?_
      rotate_left
      · (intro w hSw; (try dsimp only at hSw); go_simp) <;> with_reducible rfl
      try simp only [Act.put, List.setIfInBounds_toArray, List.set_cons_zero, List.set_cons_succ]
      refine takeD (i := 7) (d := some 41) (v := ?_) _ rfl rfl (by kernel_rfl) (by kernel_rfl) (by kernel_rfl) (fun _ _ _ h => h) (by rfl) ?_ (GV.out) ?_
      rotate_left
      · (intro w hSw; (try dsimp only at hSw); go_simp) <;> with_reducible rfl
      try simp only [Act.put, List.setIfInBounds_toArray, List.set_cons_zero, List.set_cons_succ]
      refine wpAnyH_ready (rs := [1]) (by kernel_rfl) (by simp) ?_
      refine AllReadyH.cons rfl (fun K0 hK => ?_) AllReadyH.nil
      try go_simp
      refine hK.out _ _ GV.out (fun hHeld => ?_)
      clear hK K0 hHeld
      try simp only [Act.put, List.setIfInBounds_toArray, List.set_cons_zero, List.set_cons_succ]
      refine takeD (i := 8) (d := some 42) (v := ?_) _ rfl rfl (by kernel_rfl) (by kernel_rfl) (by kernel_rfl) (fun _ _ _ h => h) (by rfl) ?_ (GV.out) ?_
      rotate_left
      · (intro w hSw; (try dsimp only at hSw); go_simp) <;> with_reducible rfl
      try simp only [Act.put, List.setIfInBounds_toArray, List.set_cons_zero, List.set_cons_succ]
      refine takeD (i := 9) (d := some 43) (v := ?_) _ rfl rfl (by kernel_rfl) (by kernel_rfl) (by kernel_rfl) (fun _ _ _ h => h) (by rfl) ?_ (GV.out) ?_
      rotate_left
      · (intro w hSw; (try dsimp only at hSw); go_simp) <;> with_reducible rfl
      try simp only [Act.put, List.setIfInBounds_toArray, List.set_cons_zero, List.set_cons_succ]
      refine wpAnyH_ready (rs := [10]) (by kernel_rfl) (by simp) ?_
      refine AllReadyH.cons rfl (fun K0 hK => ?_) AllReadyH.nil
      try go_simp
      obtain ⟨Vs, hVs⟩ : ∃ W, Vd.setCell ⟨X + 2, 1, none⟩ (.int .i64 (s + d2)) = W := ⟨_, rfl⟩
      try rw [hVs]
      have HYs : Hid (Vs.heap[X + 2]? = some (.cells #[.int .i64 d1, .int .i64 (s + d2)] 65 (0, 0))) := by unfold Hid; rw [← hVs]; exact set_at HYD.out 1 _
      have Fs : Hid (Fo (fun b => b = X + 2) W1 Vs) := by unfold Hid; rw [← hVs]; exact FD.out.setCell (.inl rfl) 1 _
      have GS : Vs.cell? ⟨X, 3, none⟩ = some (.slice (some ⟨b, off, none⟩) n c) ∧ Vs.cell? ⟨b, off + j * 2 + 1, none⟩ = some (.int .i64 d2) := by
        rw [← hVs]
        exact ⟨(World.cell?_of_block (set_far 1 _ (by simp only; omega))).trans GV.out.1, (World.cell?_of_block (set_far 1 _ (by have := HBB.out; simp only; omega))).trans GV.out.2⟩
      refine hK.out _ _ GS (fun hHeld => ?_)
      clear hK K0 hHeld hVs GS g1 gz1
      try simp only [Act.put, List.setIfInBounds_toArray, List.set_cons_zero, List.set_cons_succ]
      refine wpAnyH_done (by kernel_rfl) ?_ _
      go_wp2_with fail
      have Q : SmR (X + 2) L W1 (.int .i64 ((j : Int) + 1)) Vs := ⟨⟨j + 1, HJ.out, by go_num, by rw [HST.out]; exact HYs.out, Fs.out⟩⟩
      refine ⟨Q, ?_⟩
      have := HJ.out
      simp [intOf]
      omega
    have k1 : (a1 == d1) = false := by simpa using hc
    have k2 : (a1 != d1) = true := by simpa using hc
    obtain ⟨s, hs⟩ : ∃ x : Int, 0 = x := ⟨_, rfl⟩
    have HST : Hid ((L.take (j + 1)).foldl fl (0, 0) = (d1, s + d2)) := by unfold Hid; rw [HST0.out]; unfold fl; rw [if_neg hc, ← hs, Int.zero_add]
    have u1 : IntKind.i64.wrap (s + d2) = s + d2 := by have h1 := HPRE.out; unfold fl at h1; rw [if_neg hc] at h1; simp only at h1; rw [IntKind.wrap_i64]; omega
    have y0 : V.cell? ⟨X + 2, 0, none⟩ = some (.int .i64 a1) := (row_cell HYW.out 0).1.trans rfl
    have yz0 : V.frozen? ⟨X + 2, 0, none⟩ = false := (row_cell HYW.out 0).2
    have y1 : V.cell? ⟨X + 2, 1, none⟩ = some (.int .i64 a2) := (row_cell HYW.out 1).1.trans rfl
    have yz1 : V.frozen? ⟨X + 2, 1, none⟩ = false := (row_cell HYW.out 1).2
    have HE1 := Lib.hid e1
    have HV3 := Lib.hid v3
    clear hc HST0 HPRE e1
    go_upto_region 7 with fail
    obtain ⟨V2, hV2⟩ : ∃ W, (V.setCell ⟨X + 2, 0, none⟩ (.int .i64 d1)).setCell ⟨X + 2, 1, none⟩ (.int .i64 s) = W := ⟨_, rfl⟩
    rw [hV2]
    have HYV : Hid (V2.heap[X + 2]? = some (.cells #[.int .i64 d1, .int .i64 s] 65 (0, 0))) := by unfold Hid; rw [← hV2]; exact set_at (set_at HYW.out 0 _) 1 _
    have FV : Hid (Fo (fun b => b = X + 2) W1 V2) := by unfold Hid; rw [← hV2]; exact (FW.out.setCell (.inl rfl) 0 _).setCell (.inl rfl) 1 _
    clear v3 y0 yz0 y1 yz1
    have v3 : V2.cell? ⟨X, 3, none⟩ = some (.slice (some ⟨b, off, none⟩) n c) := by rw [← hV2]; exact (World.cell?_of_block ((set_far _ _ (by simp only; omega)).trans (set_far _ _ (by simp only; omega)))).trans HV3.out
    have e1 : V2.cell? ⟨b, off + j * 2 + 1, none⟩ = some (.int .i64 d2) := by rw [← hV2]; exact (World.cell?_of_block ((set_far _ _ (by have := HBB.out; simp only; omega)).trans (set_far _ _ (by have := HBB.out; simp only; omega)))).trans HE1.out
    clear hV2 HYW FW e0 HE1 HV3 hs
    have y1 : V2.cell? ⟨X + 2, 1, none⟩ = some (.int .i64 s) := (row_cell HYV.out 1).1.trans rfl
    have yz1 : V2.frozen? ⟨X + 2, 1, none⟩ = false := (row_cell HYV.out 1).2
    go_upto_region 7 with fail
    refine wp_region_held_drew (S := (fun w' => w'.cell? ⟨X, 3, none⟩ = some (.slice (some ⟨b, off, none⟩) n c) ∧ w'.cell? ⟨b, off + j * 2 + 1, none⟩ = some (.int .i64 d2))) (by kernel_rfl) ⟨v3, e1⟩ (fun hHeld => ?_)
    obtain ⟨Vd, hVd⟩ : ∃ W, V2.drew = W := ⟨_, rfl⟩
    have g1 : Vd.cell? ⟨X + 2, 1, none⟩ = some (.int .i64 s) := by rw [← hVd]; exact y1
    have gz1 : Vd.frozen? ⟨X + 2, 1, none⟩ = false := by rw [← hVd]; exact yz1
    have GV : Hid (Vd.cell? ⟨X, 3, none⟩ = some (.slice (some ⟨b, off, none⟩) n c) ∧ Vd.cell? ⟨b, off + j * 2 + 1, none⟩ = some (.int .i64 d2)) := by rw [← hVd]; exact ⟨v3, e1⟩
    have HYD : Hid (Vd.heap[X + 2]? = some (.cells #[.int .i64 d1, .int .i64 s] 65 (0, 0))) := by rw [← hVd]; exact HYV.out
    have FD : Hid (Fo (fun b => b = X + 2) W1 Vd) := by rw [← hVd]; exact FV.out.trans (Fo.of_below (Below.refl _ _).drew) (fun _ h => .inl h)
    clear v3 e1 y1 yz1
    try simp only [hVd]
    clear hVd
    refine takeD (i := 0) (d := some 34) (v := ?_) _ rfl rfl (by kernel_rfl) (by kernel_rfl) (by kernel_rfl) (fun _ _ _ h => h) (by rfl) ?_ (GV.out) ?_
    rotate_left
    · (intro w hSw; (try dsimp only at hSw); go_simp) <;> with_reducible rfl
    try simp only [Act.put, List.setIfInBounds_toArray, List.set_cons_zero, List.set_cons_succ]
    refine takeD (i := 2) (d := some 36) (v := ?_) _ rfl rfl (by kernel_rfl) (by kernel_rfl) (by kernel_rfl) (fun _ _ _ h => h) (by rfl) ?_ (GV.out) ?_
    rotate_left
    · (intro w hSw; (try dsimp only at hSw); go_simp) <;> with_reducible rfl
    try simp only [Act.put, List.setIfInBounds_toArray, List.set_cons_zero, List.set_cons_succ]
    refine takeD (i := 3) (d := some 37) (v := ?_) _ rfl rfl (by kernel_rfl) (by kernel_rfl) (by kernel_rfl) (fun _ _ _ h => h) (by rfl) ?_ (GV.out) ?_
    rotate_left
    · (intro w hSw; (try dsimp only at hSw); go_simp) <;> with_reducible rfl
    try simp only [Act.put, List.setIfInBounds_toArray, List.set_cons_zero, List.set_cons_succ]
    refine takeD (i := 4) (d := some 38) (v := ?_) _ rfl rfl (by kernel_rfl) (by kernel_rfl) (by kernel_rfl) (fun _ _ _ h => h) (by rfl) ?_ (GV.out) ?_
    rotate_left
    · (intro w hSw; (try dsimp only at hSw); go_simp) <;> with_reducible rfl
    try simp only [Act.put, List.setIfInBounds_toArray, List.set_cons_zero, List.set_cons_succ]
    refine takeD (i := 5) (d := some 39) (v := ?_) _ rfl rfl (by kernel_rfl) (by kernel_rfl) (by kernel_rfl) (fun _ _ _ h => h) (by rfl) ?_ (GV.out) ?_
    rotate_left
    · (intro w hSw; (try dsimp only at hSw); go_simp) <;> with_reducible rfl
    try simp only [Act.put, List.setIfInBounds_toArray, List.set_cons_zero, List.set_cons_succ]
    refine takeD (i := 6) (d := some 40) (v := ?_) _ rfl rfl (by kernel_rfl) (by kernel_rfl) (by kernel_rfl) (fun _ _ _ h => h) (by rfl) ?_ (GV.out) ?_
    rotate_left
    · (intro w hSw; (try dsimp only at hSw); go_simp) <;> with_reducible rfl
    try simp only [Act.put, List.setIfInBounds_toArray, List.set_cons_zero, List.set_cons_succ]
    refine takeD (i := 7) (d := some 41) (v := ?_) _ rfl rfl (by kernel_rfl) (by kernel_rfl) (by kernel_rfl) (fun _ _ _ h => h) (by rfl) ?_ (GV.out) ?_
    rotate_left
    · (intro w hSw; (try dsimp only at hSw); go_simp) <;> with_reducible rfl
    try simp only [Act.put, List.setIfInBounds_toArray, List.set_cons_zero, List.set_cons_succ]
    refine wpAnyH_ready (rs := [1]) (by kernel_rfl) (by simp) ?_
    refine AllReadyH.cons rfl (fun K0 hK => ?_) AllReadyH.nil
    try go_simp
    refine hK.out _ _ GV.out (fun hHeld => ?_)
    clear hK K0 hHeld
    try simp only [Act.put, List.setIfInBounds_toArray, List.set_cons_zero, List.set_cons_succ]
    refine takeD (i := 8) (d := some 42) (v := ?_) _ rfl rfl (by kernel_rfl) (by kernel_rfl) (by kernel_rfl) (fun _ _ _ h => h) (by rfl) ?_ (GV.out) ?_
    rotate_left
    · (intro w hSw; (try dsimp only at hSw); go_simp) <;> with_reducible rfl
    try simp only [Act.put, List.setIfInBounds_toArray, List.set_cons_zero, List.set_cons_succ]
    refine takeD (i := 9) (d := some 43) (v := ?_) _ rfl rfl (by kernel_rfl) (by kernel_rfl) (by kernel_rfl) (fun _ _ _ h => h) (by rfl) ?_ (GV.out) ?_
    rotate_left
    · (intro w hSw; (try dsimp only at hSw); go_simp) <;> with_reducible rfl
    try simp only [Act.put, List.setIfInBounds_toArray, List.set_cons_zero, List.set_cons_succ]
    refine wpAnyH_ready (rs := [10]) (by kernel_rfl) (by simp) ?_
    refine AllReadyH.cons rfl (fun K0 hK => ?_) AllReadyH.nil
    try go_simp
    obtain ⟨Vs, hVs⟩ : ∃ W, Vd.setCell ⟨X + 2, 1, none⟩ (.int .i64 (s + d2)) = W := ⟨_, rfl⟩
    try rw [hVs]
    have HYs : Hid (Vs.heap[X + 2]? = some (.cells #[.int .i64 d1, .int .i64 (s + d2)] 65 (0, 0))) := by unfold Hid; rw [← hVs]; exact set_at HYD.out 1 _
    have Fs : Hid (Fo (fun b => b = X + 2) W1 Vs) := by unfold Hid; rw [← hVs]; exact FD.out.setCell (.inl rfl) 1 _
    have GS : Vs.cell? ⟨X, 3, none⟩ = some (.slice (some ⟨b, off, none⟩) n c) ∧ Vs.cell? ⟨b, off + j * 2 + 1, none⟩ = some (.int .i64 d2) := by
      rw [← hVs]
      exact ⟨(World.cell?_of_block (set_far 1 _ (by simp only; omega))).trans GV.out.1, (World.cell?_of_block (set_far 1 _ (by have := HBB.out; simp only; omega))).trans GV.out.2⟩
    refine hK.out _ _ GS (fun hHeld => ?_)
    clear hK K0 hHeld hVs GS g1 gz1
    try simp only [Act.put, List.setIfInBounds_toArray, List.set_cons_zero, List.set_cons_succ]
    refine wpAnyH_done (by kernel_rfl) ?_ _
    go_wp2_with fail
    have Q : SmR (X + 2) L W1 (.int .i64 ((j : Int) + 1)) Vs := ⟨⟨j + 1, HJ.out, by go_num, by rw [HST.out]; exact HYs.out, Fs.out⟩⟩
    refine ⟨Q, ?_⟩
    have := HJ.out
    simp [intOf]
    omega
end Go.Proofs.Ytehbcoopggpmjaa.Bg
