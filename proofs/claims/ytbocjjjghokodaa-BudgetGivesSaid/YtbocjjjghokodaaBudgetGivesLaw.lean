/-
  BudgetGives' walk. Each statement bears its own conditions.
-/
import Derived.Test.YtbocjjjghokodaaBgC
namespace Go.Proofs.Ytbocjjjghokodaa.Bg
open Go.RowKit Go.Proofs.Ytbocjjjghokodaa.F 
set_option linter.unusedVariables false
set_option linter.unusedSimpArgs false
/-- A tick so far within a period. -/
theorem wh_at {F P j h : Int} (hP : 0 < P) (h0 : 0 ≤ h) (h1 : h < P) : (F + j * P + h - F) / P = j := by
  rw [show F + j * P + h - F = h + j * P by omega, Int.add_mul_ediv_right _ _ (by omega), Int.ediv_eq_zero_of_lt h0 h1]; omega
theorem left_at {Z P F K U j h : Int} (hP : 0 < P) (h0 : 0 ≤ h) (h1 : h < P) (ht : F ≤ F + j * P + h) (ht1 : F + j * P + h ≤ 1099511627776) (hK : K ≤ j) : leftV ⟨Z, P, F, K, U⟩ (F + j * P + h) = min (if j = K then Z - U else Z) (P - h) ∧ whV ⟨Z, P, F, K, U⟩ (F + j * P + h) = j ∧ nextV ⟨Z, P, F, K, U⟩ (F + j * P + h) = F + j * P + P := by
  have hw : whV ⟨Z, P, F, K, U⟩ (F + j * P + h) = j := wh_at hP h0 h1
  have hh : hasP ⟨Z, P, F, K, U⟩ (F + j * P + h) := ⟨ht, ht1⟩
  have hn : nextV ⟨Z, P, F, K, U⟩ (F + j * P + h) = F + j * P + P := by
    unfold nextV
    rw [if_pos hh, hw]
    have : (j + 1) * P = j * P + P := by rw [Int.add_mul, Int.one_mul]
    show F + (j + 1) * P = _
    omega
  refine ⟨?_, hw, hn⟩
  unfold leftV
  rw [if_neg (fun e => e hh), hw, hn, if_neg (show ¬ j < K by omega)]
  show min (if j = K then Z - U else Z) _ = _
  congr 1
  omega
/-- One asks first of all in a period. -/
theorem gives_step {Z P F K U n : Int} {j : Nat} (hZ : 1 ≤ Z ∧ Z ≤ P) (hP : 1 ≤ P ∧ P ≤ 1000) (hF : 0 ≤ F ∧ F < 1000000) (hj : j < 40) (hn : 0 ≤ n ∧ n ≤ Z) (hI : K < (j : Int) ∨ ((j : Int) = 0 ∧ K = 0 ∧ U = 0)) :
    n ≤ leftV ⟨Z, P, F, K, U⟩ (F + (j : Int) * P + (P - n) / 2) ∧ chN ⟨Z, P, F, K, U⟩ (F + (j : Int) * P + (P - n) / 2) n = n ∧
    ∃ K2 U2, chS ⟨Z, P, F, K, U⟩ (F + (j : Int) * P + (P - n) / 2) n = ⟨Z, P, F, K2, U2⟩ ∧ K2 < (j : Int) + 1 ∧ (0 ≤ U → leftV ⟨Z, P, F, K2, U2⟩ (F + (j : Int) * P + P - 1) ≤ Z - n) := by
  have hJ : 0 ≤ (j : Int) * P := Int.mul_nonneg (by omega) (by omega)
  have hJ1 : (j : Int) * P ≤ 39 * 1000 := Int.mul_le_mul (by omega) hP.2 (by omega) (by omega)
  have hh0 : 0 ≤ (P - n) / 2 := by omega
  have hh1 : (P - n) / 2 < P := by omega
  obtain ⟨l1, l2, _⟩ := left_at (Z := Z) (K := K) (U := U) (F := F) (j := (j : Int)) (h := (P - n) / 2) (P := P) (by omega) hh0 hh1 (by omega) (by omega) (by omega)
  have hl : leftV ⟨Z, P, F, K, U⟩ (F + (j : Int) * P + (P - n) / 2) = min Z (P - (P - n) / 2) := by
    rw [l1]
    split
    · have : U = 0 := by omega
      rw [this]; simp
    · rfl
  have hc : chN ⟨Z, P, F, K, U⟩ (F + (j : Int) * P + (P - n) / 2) n = n := by unfold chN; rw [hl]; omega
  refine ⟨by rw [hl]; omega, hc, ?_⟩
  have h2 : F + (j : Int) * P + P - 1 = F + (j : Int) * P + (P - 1) := by omega
  unfold chS
  rw [hc, l2]
  by_cases h0 : 0 < n
  · rw [if_pos h0]
    refine ⟨(j : Int), n, ?_, by omega, fun _ => ?_⟩
    · unfold useS
      split
      · rename_i e
        have e' : (j : Int) = K := e
        have hU : U = 0 := by omega
        show (⟨Z, P, F, K, U + n⟩ : Sv) = _
        rw [hU, ← e', Int.zero_add]
      · rfl
    · obtain ⟨m1, _, _⟩ := left_at (Z := Z) (K := (j : Int)) (U := n) (F := F) (j := (j : Int)) (h := P - 1) (P := P) (by omega) (by omega) (by omega) (by omega) (by omega) (by omega)
      rw [h2, m1, if_pos rfl]; omega
  · rw [if_neg h0]
    refine ⟨K, U, rfl, by omega, fun hU => ?_⟩
    obtain ⟨m1, _, _⟩ := left_at (Z := Z) (K := K) (U := U) (F := F) (j := (j : Int)) (h := P - 1) (P := P) (by omega) (by omega) (by omega) (by omega) (by omega) (by omega)
    rw [h2, m1]
    split <;> omega
structure GR (lo len : Nat) (Z P F : Int) (w0 : World) (iv : Value) (wr : World) : Prop where
  ex : ∃ (j : Nat) (K U : Int), j ≤ len ∧ iv = .int .i64 (j : Int) ∧ SV wr lo ⟨Z, P, F, K, U⟩ ∧ (K < (j : Int) ∨ ((j : Int) = 0 ∧ K = 0 ∧ U = 0)) ∧ Below lo w0 wr
set_option maxRecDepth 100000 in
set_option maxHeartbeats 8000000 in
theorem gives_walk (a0 a1 a2 : Int) (a3 : Option Addr) (len cap : Nat) (zs : List Int) (w : World) (h3 : IsRow .u16 w a3 len cap zs) : Calls Try.prog 5 #[.int .i64 a0, .int .i64 a1, .int .i64 a2, .slice a3 len cap] w fun e w' => e = .returned (.bool true) ∧ Below w.heap.size w w' := by
  have he := he_bg
  have HR := Lib.hid h3
  obtain ⟨lo, hlo⟩ : ∃ lo, w.heap.size = lo := ⟨_, rfl⟩
  have HLO := Lib.hid hlo
  obtain ⟨x1, hx1⟩ : ∃ x, (IntKind.u64.wrap a1).tmod 1000 = x := ⟨_, rfl⟩
  have b1 := u64_tmod a1 1000 (by decide)
  rw [hx1] at b1
  have v1 : IntKind.i64.wrap x1 = x1 := by rw [IntKind.wrap_i64]; omega
  have v2 : IntKind.i64.wrap (1 + x1) = 1 + x1 := by rw [IntKind.wrap_i64]; omega
  obtain ⟨P, hP⟩ : ∃ P, 1 + x1 = P := ⟨_, rfl⟩
  have HP : Hid (1 ≤ P ∧ P ≤ 1000) := by unfold Hid; omega
  have hP0 : ¬ P = 0 := by have := HP.out; omega
  have v2b : IntKind.i64.wrap P = P := by have := HP.out; rw [IntKind.wrap_i64]; omega
  have v3 : IntKind.u64.wrap P = P := by have := HP.out; rw [IntKind.wrap_u64]; omega
  obtain ⟨x2, hx2⟩ : ∃ x, (IntKind.u64.wrap a0).tmod P = x := ⟨_, rfl⟩
  have b2 := u64_tmod a0 P (by have := HP.out; omega)
  rw [hx2] at b2
  have v4 : IntKind.i64.wrap x2 = x2 := by have := HP.out; rw [IntKind.wrap_i64]; omega
  have v5 : IntKind.i64.wrap (1 + x2) = 1 + x2 := by have := HP.out; rw [IntKind.wrap_i64]; omega
  obtain ⟨Z, hZ⟩ : ∃ Z, 1 + x2 = Z := ⟨_, rfl⟩
  have HZ : Hid (1 ≤ Z ∧ Z ≤ P) := by unfold Hid; omega
  have v5b : IntKind.i64.wrap Z = Z := by have := HP.out; have := HZ.out; rw [IntKind.wrap_i64]; omega
  obtain ⟨F, hF⟩ : ∃ x, (IntKind.u64.wrap a2).tmod 1000000 = x := ⟨_, rfl⟩
  have b3 := u64_tmod a2 1000000 (by decide)
  rw [hF] at b3
  have HF : Hid (0 ≤ F ∧ F < 1000000) := b3
  have v6 : IntKind.i64.wrap F = F := by rw [IntKind.wrap_i64]; omega
  have NW := Lib.hid (new_any Z P w ⟨by have := HP.out; omega, by have := HZ.out; omega, by have := HZ.out; omega⟩)
  rw [hlo] at NW ⊢
  clear h3 hlo b1 b2 b3
  go_enter Try.func5, Try.ntmps5
  go_wp2_with fail
  refine NW.out.mono ?_
  rintro e w1 ⟨rfl, q1, b1⟩
  have Q1 : Hid (SV w1 lo ⟨Z, P, 0, 0, 0⟩) := q1
  have B1 : Hid (Below lo w w1) := b1
  clear q1 b1 NW hx1 v1 v2 hP v3 hx2 v4 v5 hZ hF v6
  go_wp2_with fail
  refine (reset_any lo ⟨Z, P, 0, 0, 0⟩ F w1 Q1.out).mono ?_
  rw [show resetS ⟨Z, P, 0, 0, 0⟩ F = ⟨Z, P, F, 0, 0⟩ from if_pos ⟨HF.out.1, by have := HF.out; omega⟩]
  rintro e w2 ⟨rfl, q2, f2⟩
  have Q2 := Lib.hid q2
  have B2 : Hid (Below lo w w2) := B1.out.trans (f2.below (fun b hb => by rw [hb]; exact Nat.le_refl _) (by have := Q1.out.lt; omega))
  clear q2 f2 Q1 B1
  go_upto_block 0 with fail
  go_cut [11] (fun ix wx => ∃ K U, SV wx lo ⟨Z, P, F, K, U⟩ ∧ Below lo w wx)
  case first =>
    go_wp2_with fail
    go_loopw [11] (fun iv wr => GR lo len Z P F w iv wr) (fun i _ => len - (intOf i).toNat)
    case atStart => exact ⟨⟨0, 0, 0, Nat.zero_le _, rfl, Q2.out, .inr ⟨rfl, rfl, rfl⟩, B2.out⟩⟩
    case round =>
      clear Q2 B2
      obtain ⟨⟨j, K, U, hj, rfl, hq, hI, hb⟩⟩ := hrel
      have HQ := Lib.hid hq
      have HB := Lib.hid hb
      have HI := Lib.hid hI
      clear hq hb hI
      by_cases hlt : j < len
      rotate_left
      · have hjI : ¬ (j : Int) < (len : Int) := by omega
        have g0 : decide ((j : Int) < (len : Int)) = false := by simp; omega
        clear hlt hj
        go_wp2_with fail
        go_meet
        exact ⟨K, U, HQ.out, HB.out⟩
      by_cases h40 : j < 40
      rotate_left
      · have hjI : (j : Int) < (len : Int) := by omega
        have hcI : ¬ (j : Int) < 40 := by omega
        have g0 : decide ((j : Int) < (len : Int)) = true := by simp; omega
        have g3 : decide ((j : Int) < 40) = false := by simp; omega
        clear hlt hj h40
        go_wp2_with fail
        go_meet
        exact ⟨K, U, HQ.out, HB.out⟩
      have g0 : decide ((j : Int) < (len : Int)) = true := by simp; omega
      have g3 : decide ((j : Int) < 40) = true := by simp; omega
      have hjI : (j : Int) < (len : Int) := by omega
      have hcI : (j : Int) < 40 := by omega
      have HX : Hid (j < len ∧ j < 40) := ⟨hlt, h40⟩
      obtain ⟨b, off, hA, hc⟩ := row_at HR.out (show 0 < len by omega)
      subst hA
      obtain ⟨z, hz⟩ : ∃ x, zs.getD j 0 = x := ⟨_, rfl⟩
      have hc0 := (hc j hlt).1
      have hcw := (hc j hlt).2
      rw [hz] at hc0 hcw
      have hzr : 0 ≤ z ∧ z ≤ 65535 := by simp only [Lit.wf, Bool.and_eq_true, decide_eq_true_eq] at hcw; exact hcw
      have z0 : wr.cell? ⟨b, off + j, none⟩ = some (.int .u16 z) := (HB.out.cell (by show b < lo; rw [← HLO.out]; exact World.block_lt_of_cell? _ _ hc0)).trans hc0
      have u1 : IntKind.i64.wrap z = z := by rw [IntKind.wrap_i64]; omega
      have u2 : IntKind.i64.wrap (Z + 1) = Z + 1 := by have := HP.out; have := HZ.out; rw [IntKind.wrap_i64]; omega
      have hZ1 : ¬ Z + 1 = 0 := by have := HZ.out; omega
      obtain ⟨n, hn⟩ : ∃ n, z.tmod (Z + 1) = n := ⟨_, rfl⟩
      have hn1 : 0 ≤ n ∧ n ≤ Z := by
        have h1 := Int.tmod_nonneg (Z + 1) hzr.1
        have h2 := Int.tmod_lt_of_pos z (show 0 < Z + 1 by have := HZ.out; omega)
        rw [hn] at h1 h2; omega
      have HN := Lib.hid hn1
      have u3 : IntKind.i64.wrap n = n := by have := HP.out; have := HZ.out; rw [IntKind.wrap_i64]; omega
      obtain ⟨J, hJ⟩ : ∃ J, (j : Int) * P = J := ⟨_, rfl⟩
      have hJ1 : 0 ≤ J ∧ J ≤ 39000 := by
        rw [← hJ]
        exact ⟨Int.mul_nonneg (by omega) (by have := HP.out; omega), by have := Int.mul_le_mul (show (j : Int) ≤ 39 by omega) HP.out.2 (by have := HP.out; omega) (by omega : (0 : Int) ≤ 39); omega⟩
      have u4 : IntKind.i64.wrap J = J := by rw [IntKind.wrap_i64]; omega
      have u5 : IntKind.i64.wrap (F + J) = F + J := by have := HF.out; rw [IntKind.wrap_i64]; omega
      have u6 : IntKind.i64.wrap (P - n) = P - n := by have := HP.out; have := HZ.out; rw [IntKind.wrap_i64]; omega
      have u7 : (P - n).tdiv 2 = (P - n) / 2 := Int.tdiv_eq_ediv_of_nonneg (by have := HZ.out; omega)
      obtain ⟨h, hh⟩ : ∃ h, (P - n) / 2 = h := ⟨_, rfl⟩
      have hh1 : 0 ≤ h ∧ h ≤ 1000 := by have := HP.out; have := HZ.out; omega
      have u8 : IntKind.i64.wrap h = h := by rw [IntKind.wrap_i64]; omega
      have u9 : IntKind.i64.wrap (F + J + h) = F + J + h := by have := HF.out; rw [IntKind.wrap_i64]; omega
      have u10 : IntKind.i64.wrap (F + J + P) = F + J + P := by have := HF.out; have := HP.out; rw [IntKind.wrap_i64]; omega
      have u11 : IntKind.i64.wrap (F + J + P - 1) = F + J + P - 1 := by have := HF.out; have := HP.out; rw [IntKind.wrap_i64]; omega
      have u12 : IntKind.i64.wrap (Z - n) = Z - n := by have := HP.out; have := HZ.out; rw [IntKind.wrap_i64]; omega
      have GS := gives_step (K := K) (U := U) HZ.out HP.out HF.out h40 hn1 HI.out
      rw [hJ, hh] at GS
      obtain ⟨y1, y2, K2, U2, y3, y4, y5⟩ := GS
      have Y4 := Lib.hid y4
      have Y5 := Lib.hid (y5 HQ.out.ok.u0)
      have CL := Lib.hid (left_any lo ⟨Z, P, F, K, U⟩ (F + J + h) wr HQ.out)
      have CC : Hid (∀ W, SV W lo ⟨Z, P, F, K, U⟩ → Calls Try.prog 17 #[.pointer (some ⟨lo, 0, none⟩), .int .i64 (F + J + h), .int .i64 n] W fun e w' => e = .returned (.tuple #[.int .i64 n, .bool false]) ∧ SV w' lo ⟨Z, P, F, K2, U2⟩ ∧ Fo (fun b => b = lo) W w') := fun W hW => by
        have := charge_any lo ⟨Z, P, F, K, U⟩ (F + J + h) n W hW
        rw [y2, y3, show decide (n < max n 0) = false by simp; omega] at this
        exact this
      obtain ⟨L0, hL0⟩ : ∃ x, leftV ⟨Z, P, F, K, U⟩ (F + J + h) = x := ⟨_, rfl⟩
      rw [hL0] at CL y1
      have g5 : decide (L0 < n) = false := by simp; omega
      clear y1 y2 y3 y4 y5 hL0 hc hc0 hcw hz hzr hlt hj h40 hn1 hJ1 hh1
      go_wp2_with fail
      refine CL.out.mono ?_
      rintro e w3 ⟨rfl, m, hm⟩
      have Q3 := Lib.hid (HQ.out.drewN m)
      rw [← hm] at Q3
      have B3 : Hid (Below lo w w3) := HB.out.trans (quiet_below hm)
      clear hm CL
      go_wp2_with fail
      refine (CC.out w3 Q3.out).mono ?_
      rintro e w4 ⟨rfl, q4, f4⟩
      have Q4 := Lib.hid q4
      have B4 : Hid (Below lo w w4) := B3.out.trans (f4.below (fun b hb => by rw [hb]; exact Nat.le_refl _) (by have := Q3.out.lt; omega))
      clear q4 f4 Q3 B3 CC
      obtain ⟨L1, hL1⟩ : ∃ x, leftV ⟨Z, P, F, K2, U2⟩ (F + J + P - 1) = x := ⟨_, rfl⟩
      have CM := Lib.hid (left_any lo ⟨Z, P, F, K2, U2⟩ (F + J + P - 1) w4 Q4.out)
      rw [hL1] at CM
      have g6 : decide (Z - n < L1) = false := by have := Y5.out; rw [hL1] at this; simp; omega
      clear hL1
      go_wp2_with fail
      refine CM.out.mono ?_
      rintro e w5 ⟨rfl, m, hm⟩
      have Q5 := Lib.hid (Q4.out.drewN m)
      rw [← hm] at Q5
      have B5 : Hid (Below lo w w5) := B4.out.trans (quiet_below hm)
      clear hm CM
      go_wp2_with fail
      go_roundw
      case rel =>
        have Q : GR lo len Z P F w (.int .i64 ((j : Int) + 1)) w5 := ⟨⟨j + 1, K2, U2, HX.out.1, by go_num, Q5.out, .inl (by have := Y4.out; push_cast; omega), B5.out⟩⟩
        first | exact Q | ((repeat apply Exists.intro); exact ⟨Q, rfl⟩)
      case measure => have := HX.out; simp [intOf]; omega
  case rest =>
    obtain ⟨w3, hw3⟩ : ∃ w', w' = wc := ⟨_, rfl⟩
    subst hw3
    obtain ⟨K, U, hq, hb⟩ := hcut
    have HB := Lib.hid hb
    clear hb hq
    go_wp2_with fail
    refine (known_any w3).mono ?_
    rintro e w4 ⟨rfl, b4⟩
    have B4 : Hid (Below lo w w4) := HB.out.trans (b4.mono (by have := HB.out.size; have := HLO.out; omega))
    clear b4
    go_wp2_with fail
    go_ret
    exact ⟨rfl, B4.out⟩
end Go.Proofs.Ytbocjjjghokodaa.Bg
