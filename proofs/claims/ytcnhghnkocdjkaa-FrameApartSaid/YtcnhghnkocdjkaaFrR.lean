/-
  Contracts of the reference's Check, window, At and Of. Each statement bears its own conditions.
-/
import Derived.Test.YtcnhghnkocdjkaaFrU
namespace Go.Proofs.Ytcnhghnkocdjkaa
open Go.RowKit
set_option linter.unusedVariables false
set_option linter.unusedSimpArgs false
structure RChkRel (fr : Int) (n : Nat) (ws : List MW) (w : World) (v : Value) (wr : World) : Prop where
  ex : ∃ (k : Nat) (f : Int), k ≤ n ∧ v = .int .i64 (k : Int) ∧ ((k = 0 ∧ f = 0) ∨ ∃ k' y, k = k' + 1 ∧ ws[k']? = some y ∧ f = y.frm + y.len) ∧ chkL fr 0 ws = chkL fr f (ws.drop k) ∧ 0 ≤ f ∧ f ≤ fr ∧ Below w.heap.size w wr ∧ wr.cell? ⟨w.heap.size, 0, none⟩ = some (.int .i64 fr) ∧ ∃ a cap, wr.cell? ⟨w.heap.size, 1, none⟩ = some (.slice a n cap) ∧ Row w 3 RW (.slice a n cap) ws
set_option maxRecDepth 100000 in
set_option maxHeartbeats 2000000 in
theorem rcheck_any (fr : Int) (v : Value) (ws : List MW) (w : World) (h : Row w 3 RW v ws) :
    Calls Try.prog 16 #[.agg #[.int .i64 fr, v]] w fun e w' => e = .returned (.int .i64 (chk fr ws)) ∧ Below w.heap.size w w' := by
  obtain ⟨a, cap, rfl, hm⟩ := h.form
  obtain ⟨n, hn⟩ : ∃ n, ws.length = n := ⟨_, rfl⟩
  rw [hn] at h hm ⊢
  have HN := Lib.hid hn
  have H := Lib.hid h
  unfold rowMax at hm
  have HM := Lib.hid hm
  obtain ⟨r, hr⟩ : ∃ r, chk fr ws = r := ⟨_, rfl⟩
  rw [hr]
  unfold chk at hr
  rw [hn] at hr
  clear hn h
  by_cases h1 : fr < 1
  · rw [if_pos h1] at hr
    subst hr
    go_enter Try.func16, Try.ntmps16
    go_wp2_with fail
    go_ret
    exact ⟨rfl, (Below.refl _ _).alloc (Nat.le_refl _) _⟩
  rw [if_neg h1] at hr
  by_cases h2 : 1048576 < fr
  · rw [if_pos h2] at hr
    subst hr
    go_enter Try.func16, Try.ntmps16
    go_wp2_with fail
    go_ret
    exact ⟨rfl, (Below.refl _ _).alloc (Nat.le_refl _) _⟩
  rw [if_neg h2] at hr
  by_cases h3 : 64 < n
  · rw [if_pos h3] at hr
    subst hr
    have h3' : (64 : Int) < (n : Int) := by omega
    go_enter Try.func16, Try.ntmps16
    go_wp2_with fail
    go_ret
    exact ⟨rfl, (Below.refl _ _).alloc (Nat.le_refl _) _⟩
  rw [if_neg h3] at hr
  have h3' : ¬ (64 : Int) < (n : Int) := by omega
  have HR := Lib.hid hr
  have HF : Hid (1 ≤ fr ∧ fr ≤ 1048576) := ⟨by omega, by omega⟩
  clear hr h3
  go_enter Try.func16, Try.ntmps16
  go_wp2_with fail
  go_loopw [3] (fun v wr => RChkRel fr n ws w v wr) (fun v => fun _ => n - (intOf v).toNat)
  case atStart => exact ⟨⟨0, 0, Nat.zero_le _, rfl, .inl ⟨rfl, rfl⟩, by simp, by omega, by have := HF.out; omega, (Below.refl _ _).alloc (Nat.le_refl _) _, by simp, a, cap, by simp, H.out⟩⟩
  case round =>
    obtain ⟨⟨k, f, hk, rfl, hpr, hch, hf0, hf1, hb, hbox, a, cap, hbox2, hrow⟩⟩ := hrel
    have HK := Lib.hid hk
    have HC := Lib.hid hch
    have HP := Lib.hid hpr
    have HFF : Hid (0 ≤ f ∧ f ≤ fr) := ⟨hf0, hf1⟩
    have HB := Lib.hid hb
    have HBX := Lib.hid hbox
    have HBY := Lib.hid hbox2
    have HRW := Lib.hid hrow
    clear hk hch hb hf0 hf1 hpr hrow
    by_cases hlt : k < n
    · have hkI : (k : Int) < (n : Int) := by omega
      have HX : Hid (k < n) := hlt
      obtain ⟨hnx, b, off, x, cs, rfl, hbl, hx, hR, _, hc⟩ := HRW.out.at_ k hlt
      clear hnx
      have HXS := Lib.hid hx
      obtain ⟨xw, xf, xl⟩ := x
      obtain ⟨rfl, hi0, hi1, hi2⟩ := hR
      have d0 : wr.cell? ⟨b, off + k * 3, none⟩ = some (.int .i64 xw) := cell_later HB.out (hc 0 _ rfl)
      have d1 : wr.cell? ⟨b, off + k * 3 + 1, none⟩ = some (.int .i64 xf) := cell_later HB.out (hc 1 _ rfl)
      have d2 : wr.cell? ⟨b, off + k * 3 + 2, none⟩ = some (.int .i64 xl) := cell_later HB.out (hc 2 _ rfl)
      have HB1 : Hid (Below w.heap.size w (wr.alloc (.cells #[.int .i64 xw, .int .i64 xf, .int .i64 xl] 39))) := HB.out.alloc HB.out.size _
      have hstep : Hid (chkL fr 0 ws = if fitsB ⟨xw, xf, xl⟩ fr = false then 2 else if xf < f then 22 else chkL fr (xf + xl) (ws.drop (k + 1))) := by
        unfold Hid
        rw [HC.out, drop_cons HXS.out]; rfl
      clear hi0 hi1 hi2 hbl hx hlt
      obtain ⟨W1, hW1⟩ : ∃ W1, wr.alloc (.cells #[.int .i64 xw, .int .i64 xf, .int .i64 xl] 39) = W1 := ⟨_, rfl⟩
      rw [hW1] at HB1
      have bq : Below wr.heap.size wr W1 := by rw [← hW1]; exact (Below.refl _ _).alloc (Nat.le_refl _) _
      have k0 : W1.cell? ⟨w.heap.size, 0, none⟩ = some (.int .i64 fr) := cell_later bq HBX.out
      have k1 : W1.cell? ⟨w.heap.size, 1, none⟩ = some (.slice (some ⟨b, off, none⟩) n cap) := cell_later bq HBY.out
      have j0 : W1.cell? ⟨wr.heap.size, 0, none⟩ = some (.int .i64 xw) := by rw [← hW1]; simp
      have j1 : W1.cell? ⟨wr.heap.size, 1, none⟩ = some (.int .i64 xf) := by rw [← hW1]; simp
      have j2 : W1.cell? ⟨wr.heap.size, 2, none⟩ = some (.int .i64 xl) := by rw [← hW1]; simp
      have K0 := Lib.hid k0
      have K1 := Lib.hid k1
      by_cases h1 : xw < 0
      · have HZ : Hid (r = 2) := by unfold Hid; rw [← HR.out, hstep.out, if_pos (by rw [← Bool.not_eq_true, fits_iff]; dsimp only; omega)]
        clear hm
        go_wp2_with fail
        go_ret
        exact ⟨by rw [HZ.out]; rfl, HB1.out⟩
      by_cases h2 : xf < 0
      · have HZ : Hid (r = 2) := by unfold Hid; rw [← HR.out, hstep.out, if_pos (by rw [← Bool.not_eq_true, fits_iff]; dsimp only; omega)]
        clear hm
        go_wp2_with fail
        go_ret
        exact ⟨by rw [HZ.out]; rfl, HB1.out⟩
      by_cases h3 : xl < 1
      · have HZ : Hid (r = 2) := by unfold Hid; rw [← HR.out, hstep.out, if_pos (by rw [← Bool.not_eq_true, fits_iff]; dsimp only; omega)]
        clear hm
        go_wp2_with fail
        go_ret
        exact ⟨by rw [HZ.out]; rfl, HB1.out⟩
      by_cases h4 : fr < xf
      · have HZ : Hid (r = 2) := by unfold Hid; rw [← HR.out, hstep.out, if_pos (by rw [← Bool.not_eq_true, fits_iff]; dsimp only; omega)]
        clear hm
        go_wp2_with fail
        go_ret
        exact ⟨by rw [HZ.out]; rfl, HB1.out⟩
      by_cases h5 : fr < xl
      · have HZ : Hid (r = 2) := by unfold Hid; rw [← HR.out, hstep.out, if_pos (by rw [← Bool.not_eq_true, fits_iff]; dsimp only; omega)]
        clear hm
        go_wp2_with fail
        go_ret
        exact ⟨by rw [HZ.out]; rfl, HB1.out⟩
      have hw0 : IntKind.i64.wrap (xf + xl) = xf + xl := wrap_ok (by omega) (by have := HF.out; omega)
      by_cases h6 : fr < xf + xl
      · have HZ : Hid (r = 2) := by unfold Hid; rw [← HR.out, hstep.out, if_pos (by rw [← Bool.not_eq_true, fits_iff]; dsimp only; omega)]
        clear hm
        go_wp2_with fail
        go_ret
        exact ⟨by rw [HZ.out]; rfl, HB1.out⟩
      have HQ : Hid (chkL fr 0 ws = if xf < f then 22 else chkL fr (xf + xl) (ws.drop (k + 1))) := by unfold Hid; rw [hstep.out, if_neg (by rw [fits_iff.2 (by dsimp only; omega)]; simp)]
      have HI : Hid (0 ≤ xf ∧ 0 ≤ xf + xl ∧ xf + xl ≤ fr) := ⟨by omega, by omega, by omega⟩
      rcases HP.out with ⟨hk0, hf⟩ | ⟨k', y, hkk, hy, hf⟩
      · have HK0 := Lib.hid hk0
        have hg : decide (0 < k) = false := by simp [hk0]
        have hgi : decide ((0 : Int) < (k : Int)) = false := by simp [hk0]
        have HQ2 : Hid (chkL fr 0 ws = chkL fr (xf + xl) (ws.drop (k + 1))) := by unfold Hid; rw [HQ.out, if_neg (by omega)]
        clear hk0 hf hc
        go_wp2_with fail
        refine wp_region_held_drew (S := (fun w' => Below w.heap.size w w' ∧ w'.cell? ⟨w.heap.size, 0, none⟩ = some (.int .i64 fr) ∧ w'.cell? ⟨w.heap.size, 1, none⟩ = some (.slice (some ⟨b, off, none⟩) n cap) ∧ w'.cell? ⟨wr.heap.size, 1, none⟩ = some (.int .i64 xf))) (by kernel_rfl) ?_ (fun hHeld => ?_)
        · exact ⟨below_drewN HB1.out 1, k0, k1, j1⟩
        refine takeD (i := 0) (d := some 66) (v := ?_) _ rfl rfl (by kernel_rfl) (by kernel_rfl) (by kernel_rfl) (fun _ _ _ h => h) (by rfl) ?_ (by assumption) ?_
        rotate_left
        · (intro w hSw; (try dsimp only at hSw); go_simp) <;> with_reducible rfl
        try simp only [Act.put, List.setIfInBounds_toArray, List.set_cons_zero, List.set_cons_succ]
        refine takeD (i := 1) (d := some 67) (v := ?_) _ rfl rfl (by kernel_rfl) (by kernel_rfl) (by kernel_rfl) (fun _ _ _ h => h) (by rfl) ?_ (by assumption) ?_
        rotate_left
        · (intro w hSw; (try dsimp only at hSw); go_simp) <;> with_reducible rfl
        try simp only [Act.put, List.setIfInBounds_toArray, List.set_cons_zero, List.set_cons_succ]
        refine takeD (i := 2) (d := some 68) (v := ?_) _ rfl rfl (by kernel_rfl) (by kernel_rfl) (by kernel_rfl) (fun _ _ _ h => h) (by rfl) ?_ (by assumption) ?_
        rotate_left
        · (intro w hSw; (try dsimp only at hSw); go_simp) <;> with_reducible rfl
        try simp only [Act.put, List.setIfInBounds_toArray, List.set_cons_zero, List.set_cons_succ]
        refine skipD (i := 3) (d := some 69) _ rfl rfl (by kernel_rfl) (by kernel_rfl) (by kernel_rfl) (fun _ _ _ h => h) (by rfl) (by assumption) ?_
        try simp only [Act.put, List.setIfInBounds_toArray, List.set_cons_zero, List.set_cons_succ]
        refine skipD (i := 4) (d := some 70) _ rfl rfl (by kernel_rfl) (by kernel_rfl) (by kernel_rfl) (fun _ _ _ h => h) (by rfl) (by assumption) ?_
        try simp only [Act.put, List.setIfInBounds_toArray, List.set_cons_zero, List.set_cons_succ]
        refine skipD (i := 5) (d := some 71) _ rfl rfl (by kernel_rfl) (by kernel_rfl) (by kernel_rfl) (fun _ _ _ h => h) (by rfl) (by assumption) ?_
        try simp only [Act.put, List.setIfInBounds_toArray, List.set_cons_zero, List.set_cons_succ]
        refine skipD (i := 6) (d := some 72) _ rfl rfl (by kernel_rfl) (by kernel_rfl) (by kernel_rfl) (fun _ _ _ h => h) (by rfl) (by assumption) ?_
        try simp only [Act.put, List.setIfInBounds_toArray, List.set_cons_zero, List.set_cons_succ]
        refine skipD (i := 7) (d := some 73) _ rfl rfl (by kernel_rfl) (by kernel_rfl) (by kernel_rfl) (fun _ _ _ h => h) (by rfl) (by assumption) ?_
        try simp only [Act.put, List.setIfInBounds_toArray, List.set_cons_zero, List.set_cons_succ]
        refine skipD (i := 8) (d := some 74) _ rfl rfl (by kernel_rfl) (by kernel_rfl) (by kernel_rfl) (fun _ _ _ h => h) (by rfl) (by assumption) ?_
        try simp only [Act.put, List.setIfInBounds_toArray, List.set_cons_zero, List.set_cons_succ]
        refine skipD (i := 9) (d := some 75) _ rfl rfl (by kernel_rfl) (by kernel_rfl) (by kernel_rfl) (fun _ _ _ h => h) (by rfl) (by assumption) ?_
        try simp only [Act.put, List.setIfInBounds_toArray, List.set_cons_zero, List.set_cons_succ]
        refine skipD (i := 10) (d := some 76) _ rfl rfl (by kernel_rfl) (by kernel_rfl) (by kernel_rfl) (fun _ _ _ h => h) (by rfl) (by assumption) ?_
        try simp only [Act.put, List.setIfInBounds_toArray, List.set_cons_zero, List.set_cons_succ]
        refine skipD (i := 11) (d := some 77) _ rfl rfl (by kernel_rfl) (by kernel_rfl) (by kernel_rfl) (fun _ _ _ h => h) (by rfl) (by assumption) ?_
        try simp only [Act.put, List.setIfInBounds_toArray, List.set_cons_zero, List.set_cons_succ]
        refine skipD (i := 12) (d := some 78) _ rfl rfl (by kernel_rfl) (by kernel_rfl) (by kernel_rfl) (fun _ _ _ h => h) (by rfl) (by assumption) ?_
        try simp only [Act.put, List.setIfInBounds_toArray, List.set_cons_zero, List.set_cons_succ]
        refine skipD (i := 13) (d := some 79) _ rfl rfl (by kernel_rfl) (by kernel_rfl) (by kernel_rfl) (fun _ _ _ h => h) (by rfl) (by assumption) ?_
        try simp only [Act.put, List.setIfInBounds_toArray, List.set_cons_zero, List.set_cons_succ]
        refine skipD (i := 14) (d := some 80) _ rfl rfl (by kernel_rfl) (by kernel_rfl) (by kernel_rfl) (fun _ _ _ h => h) (by rfl) (by assumption) ?_
        try simp only [Act.put, List.setIfInBounds_toArray, List.set_cons_zero, List.set_cons_succ]
        refine skipD (i := 15) (d := some 81) _ rfl rfl (by kernel_rfl) (by kernel_rfl) (by kernel_rfl) (fun _ _ _ h => h) (by rfl) (by assumption) ?_
        try simp only [Act.put, List.setIfInBounds_toArray, List.set_cons_zero, List.set_cons_succ]
        refine skipD (i := 16) (d := some 82) _ rfl rfl (by kernel_rfl) (by kernel_rfl) (by kernel_rfl) (fun _ _ _ h => h) (by rfl) (by assumption) ?_
        try simp only [Act.put, List.setIfInBounds_toArray, List.set_cons_zero, List.set_cons_succ]
        refine skipD (i := 17) (d := some 83) _ rfl rfl (by kernel_rfl) (by kernel_rfl) (by kernel_rfl) (fun _ _ _ h => h) (by rfl) (by assumption) ?_
        try simp only [Act.put, List.setIfInBounds_toArray, List.set_cons_zero, List.set_cons_succ]
        refine skipD (i := 18) (d := some 84) _ rfl rfl (by kernel_rfl) (by kernel_rfl) (by kernel_rfl) (fun _ _ _ h => h) (by rfl) (by assumption) ?_
        try simp only [Act.put, List.setIfInBounds_toArray, List.set_cons_zero, List.set_cons_succ]
        refine skipD (i := 19) (d := some 85) _ rfl rfl (by kernel_rfl) (by kernel_rfl) (by kernel_rfl) (fun _ _ _ h => h) (by rfl) (by assumption) ?_
        try simp only [Act.put, List.setIfInBounds_toArray, List.set_cons_zero, List.set_cons_succ]
        refine skipD (i := 20) (d := some 86) _ rfl rfl (by kernel_rfl) (by kernel_rfl) (by kernel_rfl) (fun _ _ _ h => h) (by rfl) (by assumption) ?_
        try simp only [Act.put, List.setIfInBounds_toArray, List.set_cons_zero, List.set_cons_succ]
        refine takeD (i := 21) (d := some 87) (v := ?_) _ rfl rfl (by kernel_rfl) (by kernel_rfl) (by kernel_rfl) (fun _ _ _ h => h) (by rfl) ?_ (by assumption) ?_
        rotate_left
        · (intro w hSw; (try dsimp only at hSw); go_simp) <;> with_reducible rfl
        try simp only [Act.put, List.setIfInBounds_toArray, List.set_cons_zero, List.set_cons_succ]
        refine wpAnyH_done (by kernel_rfl) ?_ _
        have BF := Lib.hid hHeld.1
        have BK0 := Lib.hid hHeld.2.1
        have BK1 := Lib.hid hHeld.2.2.1
        clear hHeld
        go_wp2_with fail
        go_roundw
        case rel =>
          have Q : RChkRel fr n ws w (.int .i64 ((k : Int) + 1)) _ := ⟨⟨k + 1, xf + xl, HX.out, by go_num, .inr ⟨k, _, rfl, HXS.out, rfl⟩, HQ2.out, HI.out.2.1, HI.out.2.2, BF.out, BK0.out, _, _, BK1.out, HRW.out⟩⟩
          first | exact Q | ((repeat apply Exists.intro); exact ⟨Q, rfl⟩)
        case measure => have := HX.out; simp [intOf]; omega
      · obtain ⟨yw, yf, yl⟩ := y
        dsimp only at hf
        have hg : decide (0 < k) = true := by simp; omega
        have hgi : decide ((0 : Int) < (k : Int)) = true := by simp; omega
        have hkw : IntKind.i64.wrap ((k : Int) - 1) = (k' : Int) := by rw [IntKind.wrap_i64]; have := HX.out; omega
        have hk'I : (k' : Int) < (n : Int) := by have := HX.out; omega
        obtain ⟨hnx, b', off', x', cs', e', hbl', hx', hR', hlc', hc'⟩ := HRW.out.at_ k' (by have := HX.out; omega)
        clear hnx hbl'
        injection e' with e'
        injection e' with e1 e2
        subst e1 e2
        rw [hy] at hx'
        injection hx' with hx'
        subst hx'
        obtain ⟨rfl, hi3, hi4, hi5⟩ := hR'
        clear hi3 hi4 hi5 hlc'
        have m1 : W1.cell? ⟨b, off + k' * 3 + 1, none⟩ = some (.int .i64 yf) := cell_later HB1.out (hc' 1 _ rfl)
        have m2 : W1.cell? ⟨b, off + k' * 3 + 2, none⟩ = some (.int .i64 yl) := cell_later HB1.out (hc' 2 _ rfl)
        have hwy : IntKind.i64.wrap (yf + yl) = yf + yl := wrap_ok (by have := HFF.out; omega) (by have := HFF.out; have := HF.out; omega)
        have HF3 := Lib.hid hf
        clear hc hc' hf hkk hy
        by_cases h7 : xf < yf + yl
        · have HZ : Hid (r = 22) := by unfold Hid; rw [← HR.out, HQ.out, if_pos (by rw [HF3.out]; exact h7)]
          go_wp2_with fail
          refine wp_region_held_drew (S := (fun w' => Below w.heap.size w w' ∧ w'.cell? ⟨w.heap.size, 0, none⟩ = some (.int .i64 fr) ∧ w'.cell? ⟨w.heap.size, 1, none⟩ = some (.slice (some ⟨b, off, none⟩) n cap) ∧ w'.cell? ⟨wr.heap.size, 1, none⟩ = some (.int .i64 xf) ∧ w'.cell? ⟨b, off + k' * 3 + 1, none⟩ = some (.int .i64 yf) ∧ w'.cell? ⟨b, off + k' * 3 + 2, none⟩ = some (.int .i64 yl))) (by kernel_rfl) ?_ (fun hHeld => ?_)
          · exact ⟨below_drewN HB1.out 1, k0, k1, j1, m1, m2⟩
          refine takeD (i := 0) (d := some 66) (v := ?_) _ rfl rfl (by kernel_rfl) (by kernel_rfl) (by kernel_rfl) (fun _ _ _ h => h) (by rfl) ?_ (by assumption) ?_
          rotate_left
          · (intro w hSw; (try dsimp only at hSw); go_simp) <;> with_reducible rfl
          try simp only [Act.put, List.setIfInBounds_toArray, List.set_cons_zero, List.set_cons_succ]
          refine takeD (i := 1) (d := some 67) (v := ?_) _ rfl rfl (by kernel_rfl) (by kernel_rfl) (by kernel_rfl) (fun _ _ _ h => h) (by rfl) ?_ (by assumption) ?_
          rotate_left
          · (intro w hSw; (try dsimp only at hSw); go_simp) <;> with_reducible rfl
          try simp only [Act.put, List.setIfInBounds_toArray, List.set_cons_zero, List.set_cons_succ]
          refine takeD (i := 2) (d := some 68) (v := ?_) _ rfl rfl (by kernel_rfl) (by kernel_rfl) (by kernel_rfl) (fun _ _ _ h => h) (by rfl) ?_ (by assumption) ?_
          rotate_left
          · (intro w hSw; (try dsimp only at hSw); go_simp) <;> with_reducible rfl
          try simp only [Act.put, List.setIfInBounds_toArray, List.set_cons_zero, List.set_cons_succ]
          refine takeD (i := 3) (d := some 69) (v := ?_) _ rfl rfl (by kernel_rfl) (by kernel_rfl) (by kernel_rfl) (fun _ _ _ h => h) (by rfl) ?_ (by assumption) ?_
          rotate_left
          · (intro w hSw; (try dsimp only at hSw); go_simp) <;> with_reducible rfl
          try simp only [Act.put, List.setIfInBounds_toArray, List.set_cons_zero, List.set_cons_succ]
          refine takeD (i := 4) (d := some 70) (v := ?_) _ rfl rfl (by kernel_rfl) (by kernel_rfl) (by kernel_rfl) (fun _ _ _ h => h) (by rfl) ?_ (by assumption) ?_
          rotate_left
          · (intro w hSw; (try dsimp only at hSw); go_simp) <;> with_reducible rfl
          try simp only [Act.put, List.setIfInBounds_toArray, List.set_cons_zero, List.set_cons_succ]
          refine takeD (i := 5) (d := some 71) (v := ?_) _ rfl rfl (by kernel_rfl) (by kernel_rfl) (by kernel_rfl) (fun _ _ _ h => h) (by rfl) ?_ (by assumption) ?_
          rotate_left
          · (intro w hSw; (try dsimp only at hSw); go_simp) <;> with_reducible rfl
          try simp only [Act.put, List.setIfInBounds_toArray, List.set_cons_zero, List.set_cons_succ]
          refine takeD (i := 6) (d := some 72) (v := ?_) _ rfl rfl (by kernel_rfl) (by kernel_rfl) (by kernel_rfl) (fun _ _ _ h => h) (by rfl) ?_ (by assumption) ?_
          rotate_left
          · (intro w hSw; (try dsimp only at hSw); go_simp) <;> with_reducible rfl
          try simp only [Act.put, List.setIfInBounds_toArray, List.set_cons_zero, List.set_cons_succ]
          refine takeD (i := 7) (d := some 73) (v := ?_) _ rfl rfl (by kernel_rfl) (by kernel_rfl) (by kernel_rfl) (fun _ _ _ h => h) (by rfl) ?_ (by assumption) ?_
          rotate_left
          · (intro w hSw; (try dsimp only at hSw); go_simp) <;> with_reducible rfl
          try simp only [Act.put, List.setIfInBounds_toArray, List.set_cons_zero, List.set_cons_succ]
          refine takeD (i := 8) (d := some 74) (v := ?_) _ rfl rfl (by kernel_rfl) (by kernel_rfl) (by kernel_rfl) (fun _ _ _ h => h) (by rfl) ?_ (by assumption) ?_
          rotate_left
          · (intro w hSw; (try dsimp only at hSw); go_simp) <;> with_reducible rfl
          try simp only [Act.put, List.setIfInBounds_toArray, List.set_cons_zero, List.set_cons_succ]
          refine takeD (i := 9) (d := some 75) (v := ?_) _ rfl rfl (by kernel_rfl) (by kernel_rfl) (by kernel_rfl) (fun _ _ _ h => h) (by rfl) ?_ (by assumption) ?_
          rotate_left
          · (intro w hSw; (try dsimp only at hSw); go_simp) <;> with_reducible rfl
          try simp only [Act.put, List.setIfInBounds_toArray, List.set_cons_zero, List.set_cons_succ]
          refine takeD (i := 10) (d := some 76) (v := ?_) _ rfl rfl (by kernel_rfl) (by kernel_rfl) (by kernel_rfl) (fun _ _ _ h => h) (by rfl) ?_ (by assumption) ?_
          rotate_left
          · (intro w hSw; (try dsimp only at hSw); go_simp) <;> with_reducible rfl
          try simp only [Act.put, List.setIfInBounds_toArray, List.set_cons_zero, List.set_cons_succ]
          refine takeD (i := 11) (d := some 77) (v := ?_) _ rfl rfl (by kernel_rfl) (by kernel_rfl) (by kernel_rfl) (fun _ _ _ h => h) (by rfl) ?_ (by assumption) ?_
          rotate_left
          · (intro w hSw; (try dsimp only at hSw); go_simp) <;> with_reducible rfl
          try simp only [Act.put, List.setIfInBounds_toArray, List.set_cons_zero, List.set_cons_succ]
          refine takeD (i := 12) (d := some 78) (v := ?_) _ rfl rfl (by kernel_rfl) (by kernel_rfl) (by kernel_rfl) (fun _ _ _ h => h) (by rfl) ?_ (by assumption) ?_
          rotate_left
          · (intro w hSw; (try dsimp only at hSw); go_simp) <;> with_reducible rfl
          try simp only [Act.put, List.setIfInBounds_toArray, List.set_cons_zero, List.set_cons_succ]
          refine takeD (i := 13) (d := some 79) (v := ?_) _ rfl rfl (by kernel_rfl) (by kernel_rfl) (by kernel_rfl) (fun _ _ _ h => h) (by rfl) ?_ (by assumption) ?_
          rotate_left
          · (intro w hSw; (try dsimp only at hSw); go_simp) <;> with_reducible rfl
          try simp only [Act.put, List.setIfInBounds_toArray, List.set_cons_zero, List.set_cons_succ]
          refine takeD (i := 14) (d := some 80) (v := ?_) _ rfl rfl (by kernel_rfl) (by kernel_rfl) (by kernel_rfl) (fun _ _ _ h => h) (by rfl) ?_ (by assumption) ?_
          rotate_left
          · (intro w hSw; (try dsimp only at hSw); go_simp) <;> with_reducible rfl
          try simp only [Act.put, List.setIfInBounds_toArray, List.set_cons_zero, List.set_cons_succ]
          refine takeD (i := 15) (d := some 81) (v := ?_) _ rfl rfl (by kernel_rfl) (by kernel_rfl) (by kernel_rfl) (fun _ _ _ h => h) (by rfl) ?_ (by assumption) ?_
          rotate_left
          · (intro w hSw; (try dsimp only at hSw); go_simp) <;> with_reducible rfl
          try simp only [Act.put, List.setIfInBounds_toArray, List.set_cons_zero, List.set_cons_succ]
          refine takeD (i := 16) (d := some 82) (v := ?_) _ rfl rfl (by kernel_rfl) (by kernel_rfl) (by kernel_rfl) (fun _ _ _ h => h) (by rfl) ?_ (by assumption) ?_
          rotate_left
          · (intro w hSw; (try dsimp only at hSw); go_simp) <;> with_reducible rfl
          try simp only [Act.put, List.setIfInBounds_toArray, List.set_cons_zero, List.set_cons_succ]
          refine takeD (i := 17) (d := some 83) (v := ?_) _ rfl rfl (by kernel_rfl) (by kernel_rfl) (by kernel_rfl) (fun _ _ _ h => h) (by rfl) ?_ (by assumption) ?_
          rotate_left
          · (intro w hSw; (try dsimp only at hSw); go_simp) <;> with_reducible rfl
          try simp only [Act.put, List.setIfInBounds_toArray, List.set_cons_zero, List.set_cons_succ]
          refine takeD (i := 18) (d := some 84) (v := ?_) _ rfl rfl (by kernel_rfl) (by kernel_rfl) (by kernel_rfl) (fun _ _ _ h => h) (by rfl) ?_ (by assumption) ?_
          rotate_left
          · (intro w hSw; (try dsimp only at hSw); go_simp) <;> with_reducible rfl
          try simp only [Act.put, List.setIfInBounds_toArray, List.set_cons_zero, List.set_cons_succ]
          refine takeD (i := 19) (d := some 85) (v := ?_) _ rfl rfl (by kernel_rfl) (by kernel_rfl) (by kernel_rfl) (fun _ _ _ h => h) (by rfl) ?_ (by assumption) ?_
          rotate_left
          · (intro w hSw; (try dsimp only at hSw); go_simp) <;> with_reducible rfl
          try simp only [Act.put, List.setIfInBounds_toArray, List.set_cons_zero, List.set_cons_succ]
          refine takeD (i := 20) (d := some 86) (v := ?_) _ rfl rfl (by kernel_rfl) (by kernel_rfl) (by kernel_rfl) (fun _ _ _ h => h) (by rfl) ?_ (by assumption) ?_
          rotate_left
          · (intro w hSw; (try dsimp only at hSw); go_simp) <;> with_reducible rfl
          try simp only [Act.put, List.setIfInBounds_toArray, List.set_cons_zero, List.set_cons_succ]
          refine takeD (i := 21) (d := some 87) (v := ?_) _ rfl rfl (by kernel_rfl) (by kernel_rfl) (by kernel_rfl) (fun _ _ _ h => h) (by rfl) ?_ (by assumption) ?_
          rotate_left
          · (intro w hSw; (try dsimp only at hSw); go_simp) <;> with_reducible rfl
          try simp only [Act.put, List.setIfInBounds_toArray, List.set_cons_zero, List.set_cons_succ]
          refine wpAnyH_done (by kernel_rfl) ?_ _
          have BF := Lib.hid hHeld.1
          have BK0 := Lib.hid hHeld.2.1
          have BK1 := Lib.hid hHeld.2.2.1
          clear hHeld
          go_wp2_with fail
          go_ret
          exact ⟨by rw [HZ.out]; rfl, BF.out⟩
        · have HQ2 : Hid (chkL fr 0 ws = chkL fr (xf + xl) (ws.drop (k + 1))) := by unfold Hid; rw [HQ.out, if_neg (by rw [HF3.out]; exact h7)]
          go_wp2_with fail
          refine wp_region_held_drew (S := (fun w' => Below w.heap.size w w' ∧ w'.cell? ⟨w.heap.size, 0, none⟩ = some (.int .i64 fr) ∧ w'.cell? ⟨w.heap.size, 1, none⟩ = some (.slice (some ⟨b, off, none⟩) n cap) ∧ w'.cell? ⟨wr.heap.size, 1, none⟩ = some (.int .i64 xf) ∧ w'.cell? ⟨b, off + k' * 3 + 1, none⟩ = some (.int .i64 yf) ∧ w'.cell? ⟨b, off + k' * 3 + 2, none⟩ = some (.int .i64 yl))) (by kernel_rfl) ?_ (fun hHeld => ?_)
          · exact ⟨below_drewN HB1.out 1, k0, k1, j1, m1, m2⟩
          refine takeD (i := 0) (d := some 66) (v := ?_) _ rfl rfl (by kernel_rfl) (by kernel_rfl) (by kernel_rfl) (fun _ _ _ h => h) (by rfl) ?_ (by assumption) ?_
          rotate_left
          · (intro w hSw; (try dsimp only at hSw); go_simp) <;> with_reducible rfl
          try simp only [Act.put, List.setIfInBounds_toArray, List.set_cons_zero, List.set_cons_succ]
          refine takeD (i := 1) (d := some 67) (v := ?_) _ rfl rfl (by kernel_rfl) (by kernel_rfl) (by kernel_rfl) (fun _ _ _ h => h) (by rfl) ?_ (by assumption) ?_
          rotate_left
          · (intro w hSw; (try dsimp only at hSw); go_simp) <;> with_reducible rfl
          try simp only [Act.put, List.setIfInBounds_toArray, List.set_cons_zero, List.set_cons_succ]
          refine takeD (i := 2) (d := some 68) (v := ?_) _ rfl rfl (by kernel_rfl) (by kernel_rfl) (by kernel_rfl) (fun _ _ _ h => h) (by rfl) ?_ (by assumption) ?_
          rotate_left
          · (intro w hSw; (try dsimp only at hSw); go_simp) <;> with_reducible rfl
          try simp only [Act.put, List.setIfInBounds_toArray, List.set_cons_zero, List.set_cons_succ]
          refine takeD (i := 3) (d := some 69) (v := ?_) _ rfl rfl (by kernel_rfl) (by kernel_rfl) (by kernel_rfl) (fun _ _ _ h => h) (by rfl) ?_ (by assumption) ?_
          rotate_left
          · (intro w hSw; (try dsimp only at hSw); go_simp) <;> with_reducible rfl
          try simp only [Act.put, List.setIfInBounds_toArray, List.set_cons_zero, List.set_cons_succ]
          refine takeD (i := 4) (d := some 70) (v := ?_) _ rfl rfl (by kernel_rfl) (by kernel_rfl) (by kernel_rfl) (fun _ _ _ h => h) (by rfl) ?_ (by assumption) ?_
          rotate_left
          · (intro w hSw; (try dsimp only at hSw); go_simp) <;> with_reducible rfl
          try simp only [Act.put, List.setIfInBounds_toArray, List.set_cons_zero, List.set_cons_succ]
          refine takeD (i := 5) (d := some 71) (v := ?_) _ rfl rfl (by kernel_rfl) (by kernel_rfl) (by kernel_rfl) (fun _ _ _ h => h) (by rfl) ?_ (by assumption) ?_
          rotate_left
          · (intro w hSw; (try dsimp only at hSw); go_simp) <;> with_reducible rfl
          try simp only [Act.put, List.setIfInBounds_toArray, List.set_cons_zero, List.set_cons_succ]
          refine takeD (i := 6) (d := some 72) (v := ?_) _ rfl rfl (by kernel_rfl) (by kernel_rfl) (by kernel_rfl) (fun _ _ _ h => h) (by rfl) ?_ (by assumption) ?_
          rotate_left
          · (intro w hSw; (try dsimp only at hSw); go_simp) <;> with_reducible rfl
          try simp only [Act.put, List.setIfInBounds_toArray, List.set_cons_zero, List.set_cons_succ]
          refine takeD (i := 7) (d := some 73) (v := ?_) _ rfl rfl (by kernel_rfl) (by kernel_rfl) (by kernel_rfl) (fun _ _ _ h => h) (by rfl) ?_ (by assumption) ?_
          rotate_left
          · (intro w hSw; (try dsimp only at hSw); go_simp) <;> with_reducible rfl
          try simp only [Act.put, List.setIfInBounds_toArray, List.set_cons_zero, List.set_cons_succ]
          refine takeD (i := 8) (d := some 74) (v := ?_) _ rfl rfl (by kernel_rfl) (by kernel_rfl) (by kernel_rfl) (fun _ _ _ h => h) (by rfl) ?_ (by assumption) ?_
          rotate_left
          · (intro w hSw; (try dsimp only at hSw); go_simp) <;> with_reducible rfl
          try simp only [Act.put, List.setIfInBounds_toArray, List.set_cons_zero, List.set_cons_succ]
          refine takeD (i := 9) (d := some 75) (v := ?_) _ rfl rfl (by kernel_rfl) (by kernel_rfl) (by kernel_rfl) (fun _ _ _ h => h) (by rfl) ?_ (by assumption) ?_
          rotate_left
          · (intro w hSw; (try dsimp only at hSw); go_simp) <;> with_reducible rfl
          try simp only [Act.put, List.setIfInBounds_toArray, List.set_cons_zero, List.set_cons_succ]
          refine takeD (i := 10) (d := some 76) (v := ?_) _ rfl rfl (by kernel_rfl) (by kernel_rfl) (by kernel_rfl) (fun _ _ _ h => h) (by rfl) ?_ (by assumption) ?_
          rotate_left
          · (intro w hSw; (try dsimp only at hSw); go_simp) <;> with_reducible rfl
          try simp only [Act.put, List.setIfInBounds_toArray, List.set_cons_zero, List.set_cons_succ]
          refine takeD (i := 11) (d := some 77) (v := ?_) _ rfl rfl (by kernel_rfl) (by kernel_rfl) (by kernel_rfl) (fun _ _ _ h => h) (by rfl) ?_ (by assumption) ?_
          rotate_left
          · (intro w hSw; (try dsimp only at hSw); go_simp) <;> with_reducible rfl
          try simp only [Act.put, List.setIfInBounds_toArray, List.set_cons_zero, List.set_cons_succ]
          refine takeD (i := 12) (d := some 78) (v := ?_) _ rfl rfl (by kernel_rfl) (by kernel_rfl) (by kernel_rfl) (fun _ _ _ h => h) (by rfl) ?_ (by assumption) ?_
          rotate_left
          · (intro w hSw; (try dsimp only at hSw); go_simp) <;> with_reducible rfl
          try simp only [Act.put, List.setIfInBounds_toArray, List.set_cons_zero, List.set_cons_succ]
          refine takeD (i := 13) (d := some 79) (v := ?_) _ rfl rfl (by kernel_rfl) (by kernel_rfl) (by kernel_rfl) (fun _ _ _ h => h) (by rfl) ?_ (by assumption) ?_
          rotate_left
          · (intro w hSw; (try dsimp only at hSw); go_simp) <;> with_reducible rfl
          try simp only [Act.put, List.setIfInBounds_toArray, List.set_cons_zero, List.set_cons_succ]
          refine takeD (i := 14) (d := some 80) (v := ?_) _ rfl rfl (by kernel_rfl) (by kernel_rfl) (by kernel_rfl) (fun _ _ _ h => h) (by rfl) ?_ (by assumption) ?_
          rotate_left
          · (intro w hSw; (try dsimp only at hSw); go_simp) <;> with_reducible rfl
          try simp only [Act.put, List.setIfInBounds_toArray, List.set_cons_zero, List.set_cons_succ]
          refine takeD (i := 15) (d := some 81) (v := ?_) _ rfl rfl (by kernel_rfl) (by kernel_rfl) (by kernel_rfl) (fun _ _ _ h => h) (by rfl) ?_ (by assumption) ?_
          rotate_left
          · (intro w hSw; (try dsimp only at hSw); go_simp) <;> with_reducible rfl
          try simp only [Act.put, List.setIfInBounds_toArray, List.set_cons_zero, List.set_cons_succ]
          refine takeD (i := 16) (d := some 82) (v := ?_) _ rfl rfl (by kernel_rfl) (by kernel_rfl) (by kernel_rfl) (fun _ _ _ h => h) (by rfl) ?_ (by assumption) ?_
          rotate_left
          · (intro w hSw; (try dsimp only at hSw); go_simp) <;> with_reducible rfl
          try simp only [Act.put, List.setIfInBounds_toArray, List.set_cons_zero, List.set_cons_succ]
          refine takeD (i := 17) (d := some 83) (v := ?_) _ rfl rfl (by kernel_rfl) (by kernel_rfl) (by kernel_rfl) (fun _ _ _ h => h) (by rfl) ?_ (by assumption) ?_
          rotate_left
          · (intro w hSw; (try dsimp only at hSw); go_simp) <;> with_reducible rfl
          try simp only [Act.put, List.setIfInBounds_toArray, List.set_cons_zero, List.set_cons_succ]
          refine takeD (i := 18) (d := some 84) (v := ?_) _ rfl rfl (by kernel_rfl) (by kernel_rfl) (by kernel_rfl) (fun _ _ _ h => h) (by rfl) ?_ (by assumption) ?_
          rotate_left
          · (intro w hSw; (try dsimp only at hSw); go_simp) <;> with_reducible rfl
          try simp only [Act.put, List.setIfInBounds_toArray, List.set_cons_zero, List.set_cons_succ]
          refine takeD (i := 19) (d := some 85) (v := ?_) _ rfl rfl (by kernel_rfl) (by kernel_rfl) (by kernel_rfl) (fun _ _ _ h => h) (by rfl) ?_ (by assumption) ?_
          rotate_left
          · (intro w hSw; (try dsimp only at hSw); go_simp) <;> with_reducible rfl
          try simp only [Act.put, List.setIfInBounds_toArray, List.set_cons_zero, List.set_cons_succ]
          refine takeD (i := 20) (d := some 86) (v := ?_) _ rfl rfl (by kernel_rfl) (by kernel_rfl) (by kernel_rfl) (fun _ _ _ h => h) (by rfl) ?_ (by assumption) ?_
          rotate_left
          · (intro w hSw; (try dsimp only at hSw); go_simp) <;> with_reducible rfl
          try simp only [Act.put, List.setIfInBounds_toArray, List.set_cons_zero, List.set_cons_succ]
          refine takeD (i := 21) (d := some 87) (v := ?_) _ rfl rfl (by kernel_rfl) (by kernel_rfl) (by kernel_rfl) (fun _ _ _ h => h) (by rfl) ?_ (by assumption) ?_
          rotate_left
          · (intro w hSw; (try dsimp only at hSw); go_simp) <;> with_reducible rfl
          try simp only [Act.put, List.setIfInBounds_toArray, List.set_cons_zero, List.set_cons_succ]
          refine wpAnyH_done (by kernel_rfl) ?_ _
          have BF := Lib.hid hHeld.1
          have BK0 := Lib.hid hHeld.2.1
          have BK1 := Lib.hid hHeld.2.2.1
          clear hHeld
          go_wp2_with fail
          go_roundw
          case rel =>
            have Q : RChkRel fr n ws w (.int .i64 ((k : Int) + 1)) _ := ⟨⟨k + 1, xf + xl, HX.out, by go_num, .inr ⟨k, _, rfl, HXS.out, rfl⟩, HQ2.out, HI.out.2.1, HI.out.2.2, BF.out, BK0.out, _, _, BK1.out, HRW.out⟩⟩
            first | exact Q | ((repeat apply Exists.intro); exact ⟨Q, rfl⟩)
          case measure => have := HX.out; simp [intOf]; omega
    · have hkI : ¬ (k : Int) < (n : Int) := by omega
      have hkn : k = n := by have := HK.out; omega
      have HZ : Hid (r = 0) := by
        unfold Hid
        rw [← HR.out, HC.out, hkn, List.drop_of_length_le (by have := HN.out; omega)]; rfl
      clear hkn
      go_wp2_with fail
      go_ret
      exact ⟨by rw [HZ.out]; rfl, HB.out⟩
end Go.Proofs.Ytcnhghnkocdjkaa
