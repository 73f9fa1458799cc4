/-
  BudgetBound's walk. Each statement bears its own conditions.
-/
import Derived.Test.YtbocjjjghokodaaBgC
namespace Go.Proofs.Ytbocjjjghokodaa.Bg
open Go.RowKit Go.Proofs.Ytbocjjjghokodaa.F 
set_option linter.unusedVariables false
set_option linter.unusedSimpArgs false
/-- One charge: s is what was charged in the period of t. -/
theorem bound_step {Z P K U t q E s N : Int} (hok : (⟨Z, P, 0, K, U⟩ : Sv).ok) (ht0 : 0 ≤ t) (ht1 : t ≤ 1099511627776) (hq : t / P = q) (hE : (q + 1) * P = E) (hK : K ≤ q) (hs : s = if K = q then U else 0) :
    leftV ⟨Z, P, 0, K, U⟩ t = min (Z - s) (E - t) ∧ nextV ⟨Z, P, 0, K, U⟩ t = E ∧ ∃ K2 U2, chS ⟨Z, P, 0, K, U⟩ t N = ⟨Z, P, 0, K2, U2⟩ ∧ K2 ≤ q ∧ (if K2 = q then U2 else 0) = s + chN ⟨Z, P, 0, K, U⟩ t N := by
  have hw : whV ⟨Z, P, 0, K, U⟩ t = q := by show (t - 0) / P = q; rw [Int.sub_zero]; exact hq
  have hh : hasP ⟨Z, P, 0, K, U⟩ t := ⟨ht0, ht1⟩
  have hn : nextV ⟨Z, P, 0, K, U⟩ t = E := by
    unfold nextV
    rw [if_pos hh, hw]
    show 0 + (q + 1) * P = E
    omega
  have hl : leftV ⟨Z, P, 0, K, U⟩ t = min (Z - s) (E - t) := by
    unfold leftV
    rw [if_neg (fun e => e hh), hw, hn, if_neg (show ¬ q < K by omega), hs]
    show min (if q = K then Z - U else Z) (E - t) = min (Z - if K = q then U else 0) (E - t)
    by_cases e : q = K
    · rw [if_pos e, if_pos e.symm]
    · rw [if_neg e, if_neg (fun h => e h.symm), Int.sub_zero]
  refine ⟨hl, hn, ?_⟩
  have hc0 : 0 ≤ chN ⟨Z, P, 0, K, U⟩ t N := by
    have := (left_facts (t := t) hok).1
    unfold chN; omega
  unfold chS
  rw [hw]
  split
  · rename_i h0
    unfold useS
    by_cases e : q = (⟨Z, P, 0, K, U⟩ : Sv).last
    · rw [if_pos e]
      have e' : q = K := e
      refine ⟨K, U + chN ⟨Z, P, 0, K, U⟩ t N, rfl, hK, ?_⟩
      rw [if_pos e'.symm, hs, if_pos e'.symm]
    · rw [if_neg e]
      have e' : ¬ K = q := fun h => e h.symm
      refine ⟨q, chN ⟨Z, P, 0, K, U⟩ t N, rfl, Int.le_refl _, ?_⟩
      rw [if_pos rfl, hs, if_neg e', Int.zero_add]
  · rename_i h0
    refine ⟨K, U, rfl, hK, ?_⟩
    rw [show chN ⟨Z, P, 0, K, U⟩ t N = 0 by omega, hs, Int.add_zero]
theorem next_period {P q t u E K U s : Int} (hP : 1 ≤ P) (hq : t / P = q) (hE : (q + 1) * P = E) (h0 : t ≤ u) (hK : K ≤ q) (hs : s = if K = q then U else 0) : K ≤ u / P ∧ (¬ u / P = q → (if K = u / P then U else 0) = (0 : Int)) ∧ q ≤ u / P := by
  have h1 : q ≤ u / P := by rw [← hq]; exact Int.ediv_le_ediv (by omega) h0
  refine ⟨by omega, fun hne => if_neg (by omega), h1⟩
structure OR (lo len len2 : Nat) (Z P : Int) (w0 : World) (nv kv sv iv : Value) (wr : World) : Prop where
  ex : ∃ (j : Nat) (t q s K U : Int), j ≤ len ∧ j ≤ 60 ∧ nv = .int .i64 t ∧ kv = .int .i64 q ∧ sv = .int .i64 s ∧ iv = .int .i64 (j : Int) ∧ 0 ≤ t ∧ t ≤ 2000 * (j : Int) ∧ t / P = q ∧ K ≤ q ∧ s = (if K = q then U else 0) ∧ SV wr lo ⟨Z, P, 0, K, U⟩ ∧ Below lo w0 wr
set_option maxRecDepth 100000 in
set_option maxHeartbeats 32000000 in
theorem bound_walk (a0 a1 : Int) (a2 : Option Addr) (len cap : Nat) (zs : List Int) (a3 : Option Addr) (len2 cap2 : Nat) (zs2 : List Int) (w : World) (h2 : IsRow .u16 w a2 len cap zs) (h3 : IsRow .i64 w a3 len2 cap2 zs2) : Calls Try.prog 4 #[.int .i64 a0, .int .i64 a1, .slice a2 len cap, .slice a3 len2 cap2] w fun e w' => e = .returned (.bool true) ∧ Below w.heap.size w w' := by
  have he := he_bg
  have HR := Lib.hid h2
  have HR2 := Lib.hid h3
  obtain ⟨lo, hlo⟩ : ∃ lo, w.heap.size = lo := ⟨_, rfl⟩
  have HLO := Lib.hid hlo
  obtain ⟨x1, hx1⟩ : ∃ x, (IntKind.u64.wrap a1).tmod 1000 = x := ⟨_, rfl⟩
  have b1 := u64_tmod a1 1000 (by decide)
  rw [hx1] at b1
  have v1 : IntKind.i64.wrap x1 = x1 := by rw [IntKind.wrap_i64]; omega
  have v2 : IntKind.i64.wrap (1 + x1) = 1 + x1 := by rw [IntKind.wrap_i64]; omega
  obtain ⟨P, hP⟩ : ∃ P, 1 + x1 = P := ⟨_, rfl⟩
  have HP : Hid (1 ≤ P ∧ P ≤ 1000) := by unfold Hid; omega
  have hP0 : ¬ P = 0 := by have := HP.out; omega
  have v2b : IntKind.i64.wrap P = P := by have := HP.out; rw [IntKind.wrap_i64]; omega
  have v3 : IntKind.u64.wrap P = P := by have := HP.out; rw [IntKind.wrap_u64]; omega
  obtain ⟨x2, hx2⟩ : ∃ x, (IntKind.u64.wrap a0).tmod P = x := ⟨_, rfl⟩
  have b2 := u64_tmod a0 P (by have := HP.out; omega)
  rw [hx2] at b2
  have v4 : IntKind.i64.wrap x2 = x2 := by have := HP.out; rw [IntKind.wrap_i64]; omega
  have v5 : IntKind.i64.wrap (1 + x2) = 1 + x2 := by have := HP.out; rw [IntKind.wrap_i64]; omega
  obtain ⟨Z, hZ⟩ : ∃ Z, 1 + x2 = Z := ⟨_, rfl⟩
  have HZ : Hid (1 ≤ Z ∧ Z ≤ P) := by unfold Hid; omega
  have v5b : IntKind.i64.wrap Z = Z := by have := HP.out; have := HZ.out; rw [IntKind.wrap_i64]; omega
  have NI : Hid (newI Z P) := ⟨by have := HP.out; omega, by have := HZ.out; omega, by have := HZ.out; omega⟩
  have NW := Lib.hid (new_any Z P w NI.out)
  rw [hlo] at NW ⊢
  clear h2 h3 hlo b1 b2
  go_enter Try.func4, Try.ntmps4
  go_wp2_with fail
  refine NW.out.mono ?_
  rintro e w1 ⟨rfl, q1, b1⟩
  have Q1 : Hid (SV w1 lo ⟨Z, P, 0, 0, 0⟩) := q1
  have B1 : Hid (Below lo w w1) := b1
  clear q1 b1 NW hx1 v1 v2 hP v3 hx2 v4 v5 hZ
  go_upto_block 0 with fail
  go_cut [11, 12, 13, 14] (fun nx kx sx ix wx => Below lo w wx)
  case first =>
    go_wp2_with fail
    go_loopw [11, 12, 13, 14] (fun nv kv sv iv wr => OR lo len len2 Z P w nv kv sv iv wr) (fun _ _ _ i _ => len - (intOf i).toNat)
    case atStart => exact ⟨⟨0, 0, 0, 0, 0, 0, Nat.zero_le _, by omega, rfl, rfl, rfl, rfl, by omega, by omega, Int.zero_ediv _, by omega, rfl, Q1.out, B1.out⟩⟩
    case round =>
      clear Q1 B1
      obtain ⟨⟨j, t0, q0, s0, K, U, hj, hj60, rfl, rfl, rfl, rfl, ht0, ht1, hq0, hK0, hs0, hqa, hb⟩⟩ := hrel
      have QA := Lib.hid hqa
      have HB := Lib.hid hb
      clear hqa hb
      by_cases hlt : j < len
      rotate_left
      · have hjI : ¬ (j : Int) < (len : Int) := by omega
        have g0 : decide ((j : Int) < (len : Int)) = false := by simp; omega
        clear hlt hj hq0 hs0
        go_wp2_with fail
        go_meet
        exact HB.out
      have hjI : (j : Int) < (len : Int) := by omega
      have g0 : decide ((j : Int) < (len : Int)) = true := by simp; omega
      by_cases hlt2 : j < len2
      rotate_left
      · have hjI2 : ¬ (j : Int) < (len2 : Int) := by omega
        have g02 : decide ((j : Int) < (len2 : Int)) = false := by simp; omega
        clear hlt hlt2 hj hq0 hs0
        go_wp2_with fail
        go_meet
        exact HB.out
      have hjI2 : (j : Int) < (len2 : Int) := by omega
      have g02 : decide ((j : Int) < (len2 : Int)) = true := by simp; omega
      by_cases h60 : j < 60
      rotate_left
      · have hcI : ¬ (j : Int) < 60 := by omega
        have g3 : decide ((j : Int) < 60) = false := by simp; omega
        clear hlt hlt2 hj h60 hq0 hs0
        go_wp2_with fail
        go_meet
        exact HB.out
      have g3 : decide ((j : Int) < 60) = true := by simp; omega
      have hcI : (j : Int) < 60 := by omega
      have HX : Hid (j < len ∧ j < 60) := ⟨hlt, h60⟩
      obtain ⟨b0, off0, hA0, hc0⟩ := row_at HR.out (show 0 < len by omega)
      subst hA0
      obtain ⟨z, hz0⟩ : ∃ x, zs.getD j 0 = x := ⟨_, rfl⟩
      have hd0 := (hc0 j (by omega)).1
      have hw0 := (hc0 j (by omega)).2
      rw [hz0] at hd0 hw0
      have hr0 : 0 ≤ z ∧ z ≤ 65535 := by simp only [Lit.wf, Bool.and_eq_true, decide_eq_true_eq] at hw0; exact hw0
      have HBL0 : Hid (b0 < lo) := by unfold Hid; rw [← HLO.out]; exact World.block_lt_of_cell? _ _ hd0
      have z0 : wr.cell? ⟨b0, off0 + j, none⟩ = some (.int .u16 z) := (HB.out.cell HBL0.out).trans hd0
      clear hc0 hz0 hd0 hw0
      obtain ⟨b1, off1, hA1, hc1⟩ := row_at HR2.out (show 0 < len2 by omega)
      subst hA1
      obtain ⟨N, hz1⟩ : ∃ x, zs2.getD j 0 = x := ⟨_, rfl⟩
      have hd1 := (hc1 j (by omega)).1
      have hw1 := (hc1 j (by omega)).2
      rw [hz1] at hd1 hw1
      have hr1 : -9223372036854775808 ≤ N ∧ N ≤ 9223372036854775807 := by simp only [Lit.wf, Bool.and_eq_true, decide_eq_true_eq] at hw1; exact hw1
      have HBL1 : Hid (b1 < lo) := by unfold Hid; rw [← HLO.out]; exact World.block_lt_of_cell? _ _ hd1
      have z1 : wr.cell? ⟨b1, off1 + j, none⟩ = some (.int .i64 N) := (HB.out.cell HBL1.out).trans hd1
      clear hc1 hz1 hd1 hw1
      obtain ⟨d, hd⟩ : ∃ x, z.tmod 1000 = x := ⟨_, rfl⟩
      have hd1 : 0 ≤ d ∧ d < 1000 := by
        have h1 := Int.tmod_nonneg 1000 hr0.1
        have h2 := Int.tmod_lt_of_pos z (show (0 : Int) < 1000 by omega)
        rw [hd] at h1 h2
        exact ⟨h1, h2⟩
      have u1 : IntKind.i64.wrap d = d := by rw [IntKind.wrap_i64]; omega
      have u2 : IntKind.i64.wrap (t0 + d) = t0 + d := by rw [IntKind.wrap_i64]; omega
      obtain ⟨t, ht⟩ : ∃ t, t0 + d = t := ⟨_, rfl⟩
      have u2b : IntKind.i64.wrap t = t := by rw [← ht]; exact u2
      have htr : 0 ≤ t ∧ t ≤ 2000 * (j : Int) + 1000 := by omega
      have hP1 := HP.out
      have hP0 : ¬ P = 0 := by omega
      obtain ⟨q, hq⟩ : ∃ q, t / P = q := ⟨_, rfl⟩
      have ut : t.tdiv P = q := by rw [← hq]; exact Int.tdiv_eq_ediv_of_nonneg htr.1
      have hq1 : 0 ≤ q ∧ q ≤ t := by rw [← hq]; exact ⟨Int.ediv_nonneg htr.1 (by omega), Int.ediv_le_self _ htr.1⟩
      have u3 : IntKind.i64.wrap q = q := by rw [IntKind.wrap_i64]; omega
      have u4 : IntKind.i64.wrap (q + 1) = q + 1 := by rw [IntKind.wrap_i64]; omega
      obtain ⟨E, hE⟩ : ∃ E, (q + 1) * P = E := ⟨_, rfl⟩
      have hEr : t < E ∧ E ≤ t + P := by
        have h2 := Int.ediv_mul_le t (show P ≠ 0 by omega)
        have h3 := Int.lt_ediv_add_one_mul_self t (show 0 < P by omega)
        rw [hq] at h2 h3
        have hx : (q + 1) * P = q * P + P := by rw [Int.add_mul, Int.one_mul]
        omega
      have u5 : IntKind.i64.wrap E = E := by rw [IntKind.wrap_i64]; omega
      obtain ⟨hKq, hne, hqq⟩ := next_period (u := t) hP1.1 hq0 rfl (by omega) hK0 hs0
      rw [hq] at hKq hne hqq
      obtain ⟨s, hs⟩ : ∃ s, s = (if K = q then U else 0) := ⟨_, rfl⟩
      obtain ⟨l1, l2, K2, U2, l3, l4, l5⟩ := bound_step (N := N) QA.out.ok htr.1 (by omega) hq hE hKq hs
      have hsr : 0 ≤ s ∧ s ≤ Z := by have h1 := QA.out.ok.u0; have h2 := QA.out.ok.us; have h3 := QA.out.ok.s1; simp only at h1 h2 h3; rw [hs]; split <;> omega
      obtain ⟨c, hc⟩ : ∃ x, chN ⟨Z, P, 0, K, U⟩ t N = x := ⟨_, rfl⟩
      have hcm : c = min (max N 0) (min (Z - s) (E - t)) := by rw [← hc]; unfold chN; rw [l1]
      rw [hc] at l5
      obtain ⟨y, hy⟩ : ∃ y, max N 0 = y := ⟨_, rfl⟩
      obtain ⟨ov, hov⟩ : ∃ b, decide (c < y) = b := ⟨_, rfl⟩
      have g4 : decide (c < N) = ov := by
        rw [← hov]
        by_cases h : 0 ≤ N
        · rw [show y = N by omega]
        · rw [decide_eq_false (by omega), decide_eq_false (by omega)]
      have g5 : decide (c < 0) = false := by simp; omega
      have g6 : decide (y < c) = false := by simp; omega
      have g6b : decide (0 ≤ c) = true := by simp; omega
      have HCS : Hid (0 ≤ c ∧ c ≤ 1000 ∧ s + c ≤ Z ∧ t + c ≤ E ∧ (ov = true → s + c = Z ∨ t + c = E)) := ⟨by omega, by have := HZ.out; omega, by omega, by omega, fun h => by rw [← hov, decide_eq_true_eq] at h; omega⟩
      have u6 : IntKind.i64.wrap (s + c) = s + c := by have := HCS.out; have := HZ.out; rw [IntKind.wrap_i64]; omega
      have u6b : IntKind.i64.wrap c = c := by have := HCS.out; rw [IntKind.wrap_i64]; omega
      have u6c : s = 0 → IntKind.i64.wrap (0 + c) = 0 + c := fun _ => by have := HCS.out; rw [IntKind.wrap_i64]; omega
      have u7 : IntKind.i64.wrap (t + c) = t + c := by have := HCS.out; rw [IntKind.wrap_i64]; omega
      have g7 : decide (Z < s + c) = false := by have := HCS.out; simp; omega
      have g8 : decide (E < t + c) = false := by have := HCS.out; simp; omega
      have CC : Hid (∀ W, SV W lo ⟨Z, P, 0, K, U⟩ → Calls Try.prog 17 #[.pointer (some ⟨lo, 0, none⟩), .int .i64 t, .int .i64 N] W fun e w' => e = .returned (.tuple #[.int .i64 c, .bool ov]) ∧ SV w' lo ⟨Z, P, 0, K2, U2⟩ ∧ Fo (fun b => b = lo) W w') := fun W hW => by
        have := charge_any lo ⟨Z, P, 0, K, U⟩ t N W hW
        rw [hc, l3, hy, hov] at this
        exact this
      have HN2 : Hid (nextV ⟨Z, P, 0, K2, U2⟩ t = E) := by rw [← l2]; rfl
      obtain ⟨v, hv⟩ : ∃ v, t + c = v := ⟨_, rfl⟩
      rw [hv] at u7 g8
      obtain ⟨r, hr⟩ : ∃ r, v / P = r := ⟨_, rfl⟩
      have hvr : 0 ≤ v ∧ v ≤ 2000 * ((j : Int) + 1) := by have := HCS.out; omega
      have ur : v.tdiv P = r := by rw [← hr]; exact Int.tdiv_eq_ediv_of_nonneg hvr.1
      have hr2 : 0 ≤ r ∧ r ≤ v := by rw [← hr]; exact ⟨Int.ediv_nonneg hvr.1 (by omega), Int.ediv_le_self _ hvr.1⟩
      have u8 : IntKind.i64.wrap r = r := by rw [IntKind.wrap_i64]; omega
      have u7b : IntKind.i64.wrap v = v := u7
      obtain ⟨hK2, hne2, hqr⟩ := next_period (u := v) (K := K2) (U := U2) hP1.1 hq rfl (by have := HCS.out; omega) l4 rfl
      rw [hr] at hK2 hne2 hqr
      have HREL : Hid (0 ≤ v ∧ v ≤ 2000 * ((j : Int) + 1) ∧ v / P = r ∧ K2 ≤ r) := ⟨hvr.1, hvr.2, hr, hK2⟩
      have HL5 : Hid ((if K2 = q then U2 else 0) = s + c) := l5
      have HNE2 : Hid (¬ r = q → (if K2 = r then U2 else 0) = 0) := hne2
      have HNE : Hid (¬ q = q0 → s = 0) := fun h => by rw [hs]; exact hne h
      have HEQ : Hid (q = q0 → s0 = s) := fun h => by rw [hs, hs0, h]
      have HN1 : Hid (w.cell? ⟨b1, off1 + j, none⟩ = some (.int .i64 N)) := (HB.out.cell HBL1.out).symm.trans z1
      obtain ⟨Lx, hLx⟩ : ∃ x, leftV ⟨Z, P, 0, K2, U2⟩ t = x := ⟨_, rfl⟩
      have HLX := Lib.hid hLx
      have hEE : (q + 1) * P = E := hE
      clear hov hcm hc hs l1 l2 l3 l4 l5 hsr hne hne2 hKq hqq hK2 hqr hvr hr2 hq1 htr hEr hd1 hr0 hr1 hlt hlt2 hj h60 ht0 ht1 hK0 hs0 hq0 hq hr hE hLx u6c hj60
      by_cases hqe : q = q0
      · have hse := HEQ.out hqe
        have gq : (q != q0) = false := by simpa using hqe
        subst hqe
        rw [hse]
        clear hse
        cases ov
        · go_wp2_with fail
          refine (CC.out wr QA.out).mono ?_
          rintro e w4 ⟨rfl, q4, f4⟩
          have Qw4 := Lib.hid q4
          have Bw4 : Hid (Below lo w w4) := HB.out.trans (f4.below (fun b hb => by rw [hb]; exact Nat.le_refl _) (by have := QA.out.lt; omega))
          have cw4 : w4.cell? ⟨b1, off1 + j, none⟩ = some (.int .i64 N) := (Bw4.out.cell HBL1.out).trans HN1.out
          clear q4 f4 CC QA HB z0 z1
          go_wp2_with fail
          refine (next_any lo ⟨Z, P, 0, K2, U2⟩ t w4 Qw4.out).mono ?_
          rw [HN2.out]
          rintro e w5 ⟨rfl, m, hm⟩
          have Qw5 := Lib.hid (Qw4.out.drewN m)
          rw [← hm] at Qw5
          have Bw5 : Hid (Below lo w w5) := Bw4.out.trans (quiet_below hm)
          have cw5 : w5.cell? ⟨b1, off1 + j, none⟩ = some (.int .i64 N) := (Bw5.out.cell HBL1.out).trans HN1.out
          clear hm Qw4 Bw4 cw4
          by_cases hrq : r = q
          · have gr : (r != q) = false := by simpa using hrq
            have HRQ := Lib.hid hrq
            clear hrq
            go_wp2_with fail
            go_roundw
            case rel =>
              have Q : OR lo len len2 Z P w (.int .i64 v) (.int .i64 q) (.int .i64 (s + c)) (.int .i64 ((j : Int) + 1)) w5 := ⟨⟨j + 1, v, q, s + c, K2, U2, HX.out.1, HX.out.2, rfl, rfl, rfl, by go_num, HREL.out.1, by have := HREL.out.2.1; push_cast; omega, HREL.out.2.2.1.trans HRQ.out, by have h := HREL.out.2.2.2; rw [HRQ.out] at h; exact h, HL5.out.symm, Qw5.out, Bw5.out⟩⟩
              first | exact Q | ((repeat apply Exists.intro); exact ⟨Q, rfl⟩)
            case measure => have := HX.out; simp [intOf]; omega
          · have gr : (r != q) = true := by simpa using hrq
            have HRQ := Lib.hid hrq
            clear hrq
            go_wp2_with fail
            go_roundw
            case rel =>
              have Q : OR lo len len2 Z P w (.int .i64 v) (.int .i64 r) (.int .i64 (0)) (.int .i64 ((j : Int) + 1)) w5 := ⟨⟨j + 1, v, r, 0, K2, U2, HX.out.1, HX.out.2, rfl, rfl, rfl, by go_num, HREL.out.1, by have := HREL.out.2.1; push_cast; omega, HREL.out.2.2.1, HREL.out.2.2.2, (HNE2.out HRQ.out).symm, Qw5.out, Bw5.out⟩⟩
              first | exact Q | ((repeat apply Exists.intro); exact ⟨Q, rfl⟩)
            case measure => have := HX.out; simp [intOf]; omega
        · have HO : Hid (s + c = Z ∨ v = E) := by have h := HCS.out.2.2.2.2 rfl; rw [hv] at h; exact h
          by_cases hL0 : 0 < Lx
          rotate_left
          · have g9 : decide (0 < Lx) = false := by simpa using hL0
            go_wp2_with fail
            refine (CC.out wr QA.out).mono ?_
            rintro e w4 ⟨rfl, q4, f4⟩
            have Qw4 := Lib.hid q4
            have Bw4 : Hid (Below lo w w4) := HB.out.trans (f4.below (fun b hb => by rw [hb]; exact Nat.le_refl _) (by have := QA.out.lt; omega))
            have cw4 : w4.cell? ⟨b1, off1 + j, none⟩ = some (.int .i64 N) := (Bw4.out.cell HBL1.out).trans HN1.out
            clear q4 f4 CC QA HB z0 z1
            go_wp2_with fail
            refine (next_any lo ⟨Z, P, 0, K2, U2⟩ t w4 Qw4.out).mono ?_
            rw [HN2.out]
            rintro e w5 ⟨rfl, m, hm⟩
            have Qw5 := Lib.hid (Qw4.out.drewN m)
            rw [← hm] at Qw5
            have Bw5 : Hid (Below lo w w5) := Bw4.out.trans (quiet_below hm)
            have cw5 : w5.cell? ⟨b1, off1 + j, none⟩ = some (.int .i64 N) := (Bw5.out.cell HBL1.out).trans HN1.out
            clear hm Qw4 Bw4 cw4
            go_wp2_with fail
            refine (left_any lo ⟨Z, P, 0, K2, U2⟩ t w5 Qw5.out).mono ?_
            rw [HLX.out]
            rintro e w6 ⟨rfl, m, hm⟩
            have Qw6 := Lib.hid (Qw5.out.drewN m)
            rw [← hm] at Qw6
            have Bw6 : Hid (Below lo w w6) := Bw5.out.trans (quiet_below hm)
            have cw6 : w6.cell? ⟨b1, off1 + j, none⟩ = some (.int .i64 N) := (Bw6.out.cell HBL1.out).trans HN1.out
            clear hm Qw5 Bw5 cw5
            by_cases hrq : r = q
            · have gr : (r != q) = false := by simpa using hrq
              have HRQ := Lib.hid hrq
              clear hrq
              go_wp2_with fail
              go_roundw
              case rel =>
                have Q : OR lo len len2 Z P w (.int .i64 v) (.int .i64 q) (.int .i64 (s + c)) (.int .i64 ((j : Int) + 1)) w6 := ⟨⟨j + 1, v, q, s + c, K2, U2, HX.out.1, HX.out.2, rfl, rfl, rfl, by go_num, HREL.out.1, by have := HREL.out.2.1; push_cast; omega, HREL.out.2.2.1.trans HRQ.out, by have h := HREL.out.2.2.2; rw [HRQ.out] at h; exact h, HL5.out.symm, Qw6.out, Bw6.out⟩⟩
                first | exact Q | ((repeat apply Exists.intro); exact ⟨Q, rfl⟩)
              case measure => have := HX.out; simp [intOf]; omega
            · have gr : (r != q) = true := by simpa using hrq
              have HRQ := Lib.hid hrq
              clear hrq
              go_wp2_with fail
              go_roundw
              case rel =>
                have Q : OR lo len len2 Z P w (.int .i64 v) (.int .i64 r) (.int .i64 (0)) (.int .i64 ((j : Int) + 1)) w6 := ⟨⟨j + 1, v, r, 0, K2, U2, HX.out.1, HX.out.2, rfl, rfl, rfl, by go_num, HREL.out.1, by have := HREL.out.2.1; push_cast; omega, HREL.out.2.2.1, HREL.out.2.2.2, (HNE2.out HRQ.out).symm, Qw6.out, Bw6.out⟩⟩
                first | exact Q | ((repeat apply Exists.intro); exact ⟨Q, rfl⟩)
              case measure => have := HX.out; simp [intOf]; omega
          have g9 : decide (0 < Lx) = true := by simpa using hL0
          by_cases hvE : v < E
          rotate_left
          · have g10 : decide (v < E) = false := by simpa using hvE
            go_wp2_with fail
            refine (CC.out wr QA.out).mono ?_
            rintro e w4 ⟨rfl, q4, f4⟩
            have Qw4 := Lib.hid q4
            have Bw4 : Hid (Below lo w w4) := HB.out.trans (f4.below (fun b hb => by rw [hb]; exact Nat.le_refl _) (by have := QA.out.lt; omega))
            have cw4 : w4.cell? ⟨b1, off1 + j, none⟩ = some (.int .i64 N) := (Bw4.out.cell HBL1.out).trans HN1.out
            clear q4 f4 CC QA HB z0 z1
            go_wp2_with fail
            refine (next_any lo ⟨Z, P, 0, K2, U2⟩ t w4 Qw4.out).mono ?_
            rw [HN2.out]
            rintro e w5 ⟨rfl, m, hm⟩
            have Qw5 := Lib.hid (Qw4.out.drewN m)
            rw [← hm] at Qw5
            have Bw5 : Hid (Below lo w w5) := Bw4.out.trans (quiet_below hm)
            have cw5 : w5.cell? ⟨b1, off1 + j, none⟩ = some (.int .i64 N) := (Bw5.out.cell HBL1.out).trans HN1.out
            clear hm Qw4 Bw4 cw4
            go_wp2_with fail
            refine (left_any lo ⟨Z, P, 0, K2, U2⟩ t w5 Qw5.out).mono ?_
            rw [HLX.out]
            rintro e w6 ⟨rfl, m, hm⟩
            have Qw6 := Lib.hid (Qw5.out.drewN m)
            rw [← hm] at Qw6
            have Bw6 : Hid (Below lo w w6) := Bw5.out.trans (quiet_below hm)
            have cw6 : w6.cell? ⟨b1, off1 + j, none⟩ = some (.int .i64 N) := (Bw6.out.cell HBL1.out).trans HN1.out
            clear hm Qw5 Bw5 cw5
            by_cases hrq : r = q
            · have gr : (r != q) = false := by simpa using hrq
              have HRQ := Lib.hid hrq
              clear hrq
              go_wp2_with fail
              go_roundw
              case rel =>
                have Q : OR lo len len2 Z P w (.int .i64 v) (.int .i64 q) (.int .i64 (s + c)) (.int .i64 ((j : Int) + 1)) w6 := ⟨⟨j + 1, v, q, s + c, K2, U2, HX.out.1, HX.out.2, rfl, rfl, rfl, by go_num, HREL.out.1, by have := HREL.out.2.1; push_cast; omega, HREL.out.2.2.1.trans HRQ.out, by have h := HREL.out.2.2.2; rw [HRQ.out] at h; exact h, HL5.out.symm, Qw6.out, Bw6.out⟩⟩
                first | exact Q | ((repeat apply Exists.intro); exact ⟨Q, rfl⟩)
              case measure => have := HX.out; simp [intOf]; omega
            · have gr : (r != q) = true := by simpa using hrq
              have HRQ := Lib.hid hrq
              clear hrq
              go_wp2_with fail
              go_roundw
              case rel =>
                have Q : OR lo len len2 Z P w (.int .i64 v) (.int .i64 r) (.int .i64 (0)) (.int .i64 ((j : Int) + 1)) w6 := ⟨⟨j + 1, v, r, 0, K2, U2, HX.out.1, HX.out.2, rfl, rfl, rfl, by go_num, HREL.out.1, by have := HREL.out.2.1; push_cast; omega, HREL.out.2.2.1, HREL.out.2.2.2, (HNE2.out HRQ.out).symm, Qw6.out, Bw6.out⟩⟩
                first | exact Q | ((repeat apply Exists.intro); exact ⟨Q, rfl⟩)
              case measure => have := HX.out; simp [intOf]; omega
          have g10 : decide (v < E) = true := by simpa using hvE
          have g11 : decide (s + c < Z) = false := by have := HO.out; simp; omega
          go_wp2_with fail
          refine (CC.out wr QA.out).mono ?_
          rintro e w4 ⟨rfl, q4, f4⟩
          have Qw4 := Lib.hid q4
          have Bw4 : Hid (Below lo w w4) := HB.out.trans (f4.below (fun b hb => by rw [hb]; exact Nat.le_refl _) (by have := QA.out.lt; omega))
          have cw4 : w4.cell? ⟨b1, off1 + j, none⟩ = some (.int .i64 N) := (Bw4.out.cell HBL1.out).trans HN1.out
          clear q4 f4 CC QA HB z0 z1
          go_wp2_with fail
          refine (next_any lo ⟨Z, P, 0, K2, U2⟩ t w4 Qw4.out).mono ?_
          rw [HN2.out]
          rintro e w5 ⟨rfl, m, hm⟩
          have Qw5 := Lib.hid (Qw4.out.drewN m)
          rw [← hm] at Qw5
          have Bw5 : Hid (Below lo w w5) := Bw4.out.trans (quiet_below hm)
          have cw5 : w5.cell? ⟨b1, off1 + j, none⟩ = some (.int .i64 N) := (Bw5.out.cell HBL1.out).trans HN1.out
          clear hm Qw4 Bw4 cw4
          go_wp2_with fail
          refine (left_any lo ⟨Z, P, 0, K2, U2⟩ t w5 Qw5.out).mono ?_
          rw [HLX.out]
          rintro e w6 ⟨rfl, m, hm⟩
          have Qw6 := Lib.hid (Qw5.out.drewN m)
          rw [← hm] at Qw6
          have Bw6 : Hid (Below lo w w6) := Bw5.out.trans (quiet_below hm)
          have cw6 : w6.cell? ⟨b1, off1 + j, none⟩ = some (.int .i64 N) := (Bw6.out.cell HBL1.out).trans HN1.out
          clear hm Qw5 Bw5 cw5
          by_cases hrq : r = q
          · have gr : (r != q) = false := by simpa using hrq
            have HRQ := Lib.hid hrq
            clear hrq
            go_wp2_with fail
            go_roundw
            case rel =>
              have Q : OR lo len len2 Z P w (.int .i64 v) (.int .i64 q) (.int .i64 (s + c)) (.int .i64 ((j : Int) + 1)) w6 := ⟨⟨j + 1, v, q, s + c, K2, U2, HX.out.1, HX.out.2, rfl, rfl, rfl, by go_num, HREL.out.1, by have := HREL.out.2.1; push_cast; omega, HREL.out.2.2.1.trans HRQ.out, by have h := HREL.out.2.2.2; rw [HRQ.out] at h; exact h, HL5.out.symm, Qw6.out, Bw6.out⟩⟩
              first | exact Q | ((repeat apply Exists.intro); exact ⟨Q, rfl⟩)
            case measure => have := HX.out; simp [intOf]; omega
          · have gr : (r != q) = true := by simpa using hrq
            have HRQ := Lib.hid hrq
            clear hrq
            go_wp2_with fail
            go_roundw
            case rel =>
              have Q : OR lo len len2 Z P w (.int .i64 v) (.int .i64 r) (.int .i64 (0)) (.int .i64 ((j : Int) + 1)) w6 := ⟨⟨j + 1, v, r, 0, K2, U2, HX.out.1, HX.out.2, rfl, rfl, rfl, by go_num, HREL.out.1, by have := HREL.out.2.1; push_cast; omega, HREL.out.2.2.1, HREL.out.2.2.2, (HNE2.out HRQ.out).symm, Qw6.out, Bw6.out⟩⟩
              first | exact Q | ((repeat apply Exists.intro); exact ⟨Q, rfl⟩)
            case measure => have := HX.out; simp [intOf]; omega
      · have hse := HNE.out hqe
        have gq : (q != q0) = true := by simpa using hqe
        have HSE := Lib.hid hse
        have g13 : decide (Z < c) = false := by have := HCS.out; simp; omega
        clear hse
        cases ov
        · go_wp2_with fail
          refine (CC.out wr QA.out).mono ?_
          rintro e w4 ⟨rfl, q4, f4⟩
          have Qw4 := Lib.hid q4
          have Bw4 : Hid (Below lo w w4) := HB.out.trans (f4.below (fun b hb => by rw [hb]; exact Nat.le_refl _) (by have := QA.out.lt; omega))
          have cw4 : w4.cell? ⟨b1, off1 + j, none⟩ = some (.int .i64 N) := (Bw4.out.cell HBL1.out).trans HN1.out
          clear q4 f4 CC QA HB z0 z1
          go_wp2_with fail
          refine (next_any lo ⟨Z, P, 0, K2, U2⟩ t w4 Qw4.out).mono ?_
          rw [HN2.out]
          rintro e w5 ⟨rfl, m, hm⟩
          have Qw5 := Lib.hid (Qw4.out.drewN m)
          rw [← hm] at Qw5
          have Bw5 : Hid (Below lo w w5) := Bw4.out.trans (quiet_below hm)
          have cw5 : w5.cell? ⟨b1, off1 + j, none⟩ = some (.int .i64 N) := (Bw5.out.cell HBL1.out).trans HN1.out
          clear hm Qw4 Bw4 cw4
          by_cases hrq : r = q
          · have gr : (r != q) = false := by simpa using hrq
            have HRQ := Lib.hid hrq
            clear hrq
            go_wp2_with fail
            go_roundw
            case rel =>
              have Q : OR lo len len2 Z P w (.int .i64 v) (.int .i64 q) (.int .i64 (c)) (.int .i64 ((j : Int) + 1)) w5 := ⟨⟨j + 1, v, q, c, K2, U2, HX.out.1, HX.out.2, rfl, rfl, rfl, by go_num, HREL.out.1, by have := HREL.out.2.1; push_cast; omega, HREL.out.2.2.1.trans HRQ.out, by have h := HREL.out.2.2.2; rw [HRQ.out] at h; exact h, by have h1 := HL5.out; rw [HSE.out, Int.zero_add] at h1; exact h1.symm, Qw5.out, Bw5.out⟩⟩
              first | exact Q | ((repeat apply Exists.intro); exact ⟨Q, rfl⟩)
            case measure => have := HX.out; simp [intOf]; omega
          · have gr : (r != q) = true := by simpa using hrq
            have HRQ := Lib.hid hrq
            clear hrq
            go_wp2_with fail
            go_roundw
            case rel =>
              have Q : OR lo len len2 Z P w (.int .i64 v) (.int .i64 r) (.int .i64 (0)) (.int .i64 ((j : Int) + 1)) w5 := ⟨⟨j + 1, v, r, 0, K2, U2, HX.out.1, HX.out.2, rfl, rfl, rfl, by go_num, HREL.out.1, by have := HREL.out.2.1; push_cast; omega, HREL.out.2.2.1, HREL.out.2.2.2, (HNE2.out HRQ.out).symm, Qw5.out, Bw5.out⟩⟩
              first | exact Q | ((repeat apply Exists.intro); exact ⟨Q, rfl⟩)
            case measure => have := HX.out; simp [intOf]; omega
        · have HO : Hid (s + c = Z ∨ v = E) := by have h := HCS.out.2.2.2.2 rfl; rw [hv] at h; exact h
          by_cases hL0 : 0 < Lx
          rotate_left
          · have g9 : decide (0 < Lx) = false := by simpa using hL0
            go_wp2_with fail
            refine (CC.out wr QA.out).mono ?_
            rintro e w4 ⟨rfl, q4, f4⟩
            have Qw4 := Lib.hid q4
            have Bw4 : Hid (Below lo w w4) := HB.out.trans (f4.below (fun b hb => by rw [hb]; exact Nat.le_refl _) (by have := QA.out.lt; omega))
            have cw4 : w4.cell? ⟨b1, off1 + j, none⟩ = some (.int .i64 N) := (Bw4.out.cell HBL1.out).trans HN1.out
            clear q4 f4 CC QA HB z0 z1
            go_wp2_with fail
            refine (next_any lo ⟨Z, P, 0, K2, U2⟩ t w4 Qw4.out).mono ?_
            rw [HN2.out]
            rintro e w5 ⟨rfl, m, hm⟩
            have Qw5 := Lib.hid (Qw4.out.drewN m)
            rw [← hm] at Qw5
            have Bw5 : Hid (Below lo w w5) := Bw4.out.trans (quiet_below hm)
            have cw5 : w5.cell? ⟨b1, off1 + j, none⟩ = some (.int .i64 N) := (Bw5.out.cell HBL1.out).trans HN1.out
            clear hm Qw4 Bw4 cw4
            go_wp2_with fail
            refine (left_any lo ⟨Z, P, 0, K2, U2⟩ t w5 Qw5.out).mono ?_
            rw [HLX.out]
            rintro e w6 ⟨rfl, m, hm⟩
            have Qw6 := Lib.hid (Qw5.out.drewN m)
            rw [← hm] at Qw6
            have Bw6 : Hid (Below lo w w6) := Bw5.out.trans (quiet_below hm)
            have cw6 : w6.cell? ⟨b1, off1 + j, none⟩ = some (.int .i64 N) := (Bw6.out.cell HBL1.out).trans HN1.out
            clear hm Qw5 Bw5 cw5
            by_cases hrq : r = q
            · have gr : (r != q) = false := by simpa using hrq
              have HRQ := Lib.hid hrq
              clear hrq
              go_wp2_with fail
              go_roundw
              case rel =>
                have Q : OR lo len len2 Z P w (.int .i64 v) (.int .i64 q) (.int .i64 (c)) (.int .i64 ((j : Int) + 1)) w6 := ⟨⟨j + 1, v, q, c, K2, U2, HX.out.1, HX.out.2, rfl, rfl, rfl, by go_num, HREL.out.1, by have := HREL.out.2.1; push_cast; omega, HREL.out.2.2.1.trans HRQ.out, by have h := HREL.out.2.2.2; rw [HRQ.out] at h; exact h, by have h1 := HL5.out; rw [HSE.out, Int.zero_add] at h1; exact h1.symm, Qw6.out, Bw6.out⟩⟩
                first | exact Q | ((repeat apply Exists.intro); exact ⟨Q, rfl⟩)
              case measure => have := HX.out; simp [intOf]; omega
            · have gr : (r != q) = true := by simpa using hrq
              have HRQ := Lib.hid hrq
              clear hrq
              go_wp2_with fail
              go_roundw
              case rel =>
                have Q : OR lo len len2 Z P w (.int .i64 v) (.int .i64 r) (.int .i64 (0)) (.int .i64 ((j : Int) + 1)) w6 := ⟨⟨j + 1, v, r, 0, K2, U2, HX.out.1, HX.out.2, rfl, rfl, rfl, by go_num, HREL.out.1, by have := HREL.out.2.1; push_cast; omega, HREL.out.2.2.1, HREL.out.2.2.2, (HNE2.out HRQ.out).symm, Qw6.out, Bw6.out⟩⟩
                first | exact Q | ((repeat apply Exists.intro); exact ⟨Q, rfl⟩)
              case measure => have := HX.out; simp [intOf]; omega
          have g9 : decide (0 < Lx) = true := by simpa using hL0
          by_cases hvE : v < E
          rotate_left
          · have g10 : decide (v < E) = false := by simpa using hvE
            go_wp2_with fail
            refine (CC.out wr QA.out).mono ?_
            rintro e w4 ⟨rfl, q4, f4⟩
            have Qw4 := Lib.hid q4
            have Bw4 : Hid (Below lo w w4) := HB.out.trans (f4.below (fun b hb => by rw [hb]; exact Nat.le_refl _) (by have := QA.out.lt; omega))
            have cw4 : w4.cell? ⟨b1, off1 + j, none⟩ = some (.int .i64 N) := (Bw4.out.cell HBL1.out).trans HN1.out
            clear q4 f4 CC QA HB z0 z1
            go_wp2_with fail
            refine (next_any lo ⟨Z, P, 0, K2, U2⟩ t w4 Qw4.out).mono ?_
            rw [HN2.out]
            rintro e w5 ⟨rfl, m, hm⟩
            have Qw5 := Lib.hid (Qw4.out.drewN m)
            rw [← hm] at Qw5
            have Bw5 : Hid (Below lo w w5) := Bw4.out.trans (quiet_below hm)
            have cw5 : w5.cell? ⟨b1, off1 + j, none⟩ = some (.int .i64 N) := (Bw5.out.cell HBL1.out).trans HN1.out
            clear hm Qw4 Bw4 cw4
            go_wp2_with fail
            refine (left_any lo ⟨Z, P, 0, K2, U2⟩ t w5 Qw5.out).mono ?_
            rw [HLX.out]
            rintro e w6 ⟨rfl, m, hm⟩
            have Qw6 := Lib.hid (Qw5.out.drewN m)
            rw [← hm] at Qw6
            have Bw6 : Hid (Below lo w w6) := Bw5.out.trans (quiet_below hm)
            have cw6 : w6.cell? ⟨b1, off1 + j, none⟩ = some (.int .i64 N) := (Bw6.out.cell HBL1.out).trans HN1.out
            clear hm Qw5 Bw5 cw5
            by_cases hrq : r = q
            · have gr : (r != q) = false := by simpa using hrq
              have HRQ := Lib.hid hrq
              clear hrq
              go_wp2_with fail
              go_roundw
              case rel =>
                have Q : OR lo len len2 Z P w (.int .i64 v) (.int .i64 q) (.int .i64 (c)) (.int .i64 ((j : Int) + 1)) w6 := ⟨⟨j + 1, v, q, c, K2, U2, HX.out.1, HX.out.2, rfl, rfl, rfl, by go_num, HREL.out.1, by have := HREL.out.2.1; push_cast; omega, HREL.out.2.2.1.trans HRQ.out, by have h := HREL.out.2.2.2; rw [HRQ.out] at h; exact h, by have h1 := HL5.out; rw [HSE.out, Int.zero_add] at h1; exact h1.symm, Qw6.out, Bw6.out⟩⟩
                first | exact Q | ((repeat apply Exists.intro); exact ⟨Q, rfl⟩)
              case measure => have := HX.out; simp [intOf]; omega
            · have gr : (r != q) = true := by simpa using hrq
              have HRQ := Lib.hid hrq
              clear hrq
              go_wp2_with fail
              go_roundw
              case rel =>
                have Q : OR lo len len2 Z P w (.int .i64 v) (.int .i64 r) (.int .i64 (0)) (.int .i64 ((j : Int) + 1)) w6 := ⟨⟨j + 1, v, r, 0, K2, U2, HX.out.1, HX.out.2, rfl, rfl, rfl, by go_num, HREL.out.1, by have := HREL.out.2.1; push_cast; omega, HREL.out.2.2.1, HREL.out.2.2.2, (HNE2.out HRQ.out).symm, Qw6.out, Bw6.out⟩⟩
                first | exact Q | ((repeat apply Exists.intro); exact ⟨Q, rfl⟩)
              case measure => have := HX.out; simp [intOf]; omega
          have g10 : decide (v < E) = true := by simpa using hvE
          have g11 : decide (s + c < Z) = false := by have := HO.out; simp; omega
          have g12 : decide (c < Z) = false := by have := HO.out; have := HSE.out; simp; omega
          go_wp2_with fail
          refine (CC.out wr QA.out).mono ?_
          rintro e w4 ⟨rfl, q4, f4⟩
          have Qw4 := Lib.hid q4
          have Bw4 : Hid (Below lo w w4) := HB.out.trans (f4.below (fun b hb => by rw [hb]; exact Nat.le_refl _) (by have := QA.out.lt; omega))
          have cw4 : w4.cell? ⟨b1, off1 + j, none⟩ = some (.int .i64 N) := (Bw4.out.cell HBL1.out).trans HN1.out
          clear q4 f4 CC QA HB z0 z1
          go_wp2_with fail
          refine (next_any lo ⟨Z, P, 0, K2, U2⟩ t w4 Qw4.out).mono ?_
          rw [HN2.out]
          rintro e w5 ⟨rfl, m, hm⟩
          have Qw5 := Lib.hid (Qw4.out.drewN m)
          rw [← hm] at Qw5
          have Bw5 : Hid (Below lo w w5) := Bw4.out.trans (quiet_below hm)
          have cw5 : w5.cell? ⟨b1, off1 + j, none⟩ = some (.int .i64 N) := (Bw5.out.cell HBL1.out).trans HN1.out
          clear hm Qw4 Bw4 cw4
          go_wp2_with fail
          refine (left_any lo ⟨Z, P, 0, K2, U2⟩ t w5 Qw5.out).mono ?_
          rw [HLX.out]
          rintro e w6 ⟨rfl, m, hm⟩
          have Qw6 := Lib.hid (Qw5.out.drewN m)
          rw [← hm] at Qw6
          have Bw6 : Hid (Below lo w w6) := Bw5.out.trans (quiet_below hm)
          have cw6 : w6.cell? ⟨b1, off1 + j, none⟩ = some (.int .i64 N) := (Bw6.out.cell HBL1.out).trans HN1.out
          clear hm Qw5 Bw5 cw5
          by_cases hrq : r = q
          · have gr : (r != q) = false := by simpa using hrq
            have HRQ := Lib.hid hrq
            clear hrq
            go_wp2_with fail
            go_roundw
            case rel =>
              have Q : OR lo len len2 Z P w (.int .i64 v) (.int .i64 q) (.int .i64 (c)) (.int .i64 ((j : Int) + 1)) w6 := ⟨⟨j + 1, v, q, c, K2, U2, HX.out.1, HX.out.2, rfl, rfl, rfl, by go_num, HREL.out.1, by have := HREL.out.2.1; push_cast; omega, HREL.out.2.2.1.trans HRQ.out, by have h := HREL.out.2.2.2; rw [HRQ.out] at h; exact h, by have h1 := HL5.out; rw [HSE.out, Int.zero_add] at h1; exact h1.symm, Qw6.out, Bw6.out⟩⟩
              first | exact Q | ((repeat apply Exists.intro); exact ⟨Q, rfl⟩)
            case measure => have := HX.out; simp [intOf]; omega
          · have gr : (r != q) = true := by simpa using hrq
            have HRQ := Lib.hid hrq
            clear hrq
            go_wp2_with fail
            go_roundw
            case rel =>
              have Q : OR lo len len2 Z P w (.int .i64 v) (.int .i64 r) (.int .i64 (0)) (.int .i64 ((j : Int) + 1)) w6 := ⟨⟨j + 1, v, r, 0, K2, U2, HX.out.1, HX.out.2, rfl, rfl, rfl, by go_num, HREL.out.1, by have := HREL.out.2.1; push_cast; omega, HREL.out.2.2.1, HREL.out.2.2.2, (HNE2.out HRQ.out).symm, Qw6.out, Bw6.out⟩⟩
              first | exact Q | ((repeat apply Exists.intro); exact ⟨Q, rfl⟩)
            case measure => have := HX.out; simp [intOf]; omega
  case rest =>
    obtain ⟨w4, hw4⟩ : ∃ w', w' = wc := ⟨_, rfl⟩
    subst hw4
    have HB := Lib.hid hcut
    clear hcut
    go_wp2_with fail
    refine (known_any w4).mono ?_
    rintro e w5 ⟨rfl, b5⟩
    have B5 : Hid (Below lo w w5) := HB.out.trans (b5.mono (by have := HB.out.size; have := HLO.out; omega))
    clear b5
    go_wp2_with fail
    go_ret
    exact ⟨rfl, B5.out⟩
end Go.Proofs.Ytbocjjjghokodaa.Bg
