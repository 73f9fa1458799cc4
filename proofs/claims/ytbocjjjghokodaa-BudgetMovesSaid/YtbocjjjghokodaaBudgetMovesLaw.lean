/-
  BudgetMoves' walk. Each statement bears its own conditions.
-/
import Derived.Test.YtbocjjjghokodaaBgC
namespace Go.Proofs.Ytbocjjjghokodaa.Bg
open Go.RowKit Go.Proofs.Ytbocjjjghokodaa.F 
set_option linter.unusedVariables false
set_option linter.unusedSimpArgs false
/-- Periods that begin later. -/
theorem shift {Z P F K U t n : Int} (h0 : 0 ≤ t) (hF : 0 ≤ F) (ht : t + F ≤ 1099511627776) :
    leftV ⟨Z, P, F, K, U⟩ (t + F) = leftV ⟨Z, P, 0, K, U⟩ t ∧ nextV ⟨Z, P, F, K, U⟩ (t + F) = nextV ⟨Z, P, 0, K, U⟩ t + F ∧ chN ⟨Z, P, F, K, U⟩ (t + F) n = chN ⟨Z, P, 0, K, U⟩ t n ∧
    ∃ K2 U2, chS ⟨Z, P, 0, K, U⟩ t n = ⟨Z, P, 0, K2, U2⟩ ∧ chS ⟨Z, P, F, K, U⟩ (t + F) n = ⟨Z, P, F, K2, U2⟩ := by
  have hw : whV ⟨Z, P, F, K, U⟩ (t + F) = whV ⟨Z, P, 0, K, U⟩ t := by
    show (t + F - F) / P = (t - 0) / P
    rw [show t + F - F = t - 0 by omega]
  have hh : hasP ⟨Z, P, F, K, U⟩ (t + F) := ⟨by show F ≤ t + F; omega, ht⟩
  have hg : hasP ⟨Z, P, 0, K, U⟩ t := ⟨h0, by omega⟩
  have hn : nextV ⟨Z, P, F, K, U⟩ (t + F) = nextV ⟨Z, P, 0, K, U⟩ t + F := by
    unfold nextV
    rw [if_pos hh, if_pos hg, hw]
    show F + (whV ⟨Z, P, 0, K, U⟩ t + 1) * P = 0 + (whV ⟨Z, P, 0, K, U⟩ t + 1) * P + F
    omega
  have hl : leftV ⟨Z, P, F, K, U⟩ (t + F) = leftV ⟨Z, P, 0, K, U⟩ t := by
    unfold leftV
    rw [if_neg (show ¬ ¬ hasP ⟨Z, P, F, K, U⟩ (t + F) from fun e => e hh), if_neg (show ¬ ¬ hasP ⟨Z, P, 0, K, U⟩ t from fun e => e hg), hw, hn]
    rw [show nextV ⟨Z, P, 0, K, U⟩ t + F - (t + F) = nextV ⟨Z, P, 0, K, U⟩ t - t by omega]
  have hc : chN ⟨Z, P, F, K, U⟩ (t + F) n = chN ⟨Z, P, 0, K, U⟩ t n := by unfold chN; rw [hl]
  refine ⟨hl, hn, hc, ?_⟩
  unfold chS
  rw [hc, hw]
  split
  · unfold useS
    by_cases e : whV ⟨Z, P, 0, K, U⟩ t = K
    · rw [if_pos e, if_pos e]; exact ⟨_, _, rfl, rfl⟩
    · rw [if_neg e, if_neg e]; exact ⟨_, _, rfl, rfl⟩
  · exact ⟨_, _, rfl, rfl⟩
structure MR (lo g2 len len2 : Nat) (Z P F : Int) (w0 : World) (nv iv : Value) (wr : World) : Prop where
  ex : ∃ (j : Nat) (K U t : Int), j ≤ len ∧ nv = .int .i64 t ∧ iv = .int .i64 (j : Int) ∧ 0 ≤ t ∧ t ≤ 1000 * (j : Int) ∧ SV wr lo ⟨Z, P, 0, K, U⟩ ∧ SV wr g2 ⟨Z, P, F, K, U⟩ ∧ Below lo w0 wr
set_option maxRecDepth 100000 in
set_option maxHeartbeats 16000000 in
theorem moves_walk (a0 a1 a2 : Int) (a3 : Option Addr) (len cap : Nat) (zs : List Int) (a4 : Option Addr) (len2 cap2 : Nat) (zs2 : List Int) (w : World) (hw2 : (Lit.int .u32 a2).wf = true) (h3 : IsRow .u16 w a3 len cap zs) (h4 : IsRow .i64 w a4 len2 cap2 zs2) : Calls Try.prog 8 #[.int .i64 a0, .int .i64 a1, .int .u32 a2, .slice a3 len cap, .slice a4 len2 cap2] w fun e w' => e = .returned (.bool true) ∧ Below w.heap.size w w' := by
  have he := he_bg
  have HR := Lib.hid h3
  have HR2 := Lib.hid h4
  obtain ⟨lo, hlo⟩ : ∃ lo, w.heap.size = lo := ⟨_, rfl⟩
  have HLO := Lib.hid hlo
  obtain ⟨x1, hx1⟩ : ∃ x, (IntKind.u64.wrap a1).tmod 1000 = x := ⟨_, rfl⟩
  have b1 := u64_tmod a1 1000 (by decide)
  rw [hx1] at b1
  have v1 : IntKind.i64.wrap x1 = x1 := by rw [IntKind.wrap_i64]; omega
  have v2 : IntKind.i64.wrap (1 + x1) = 1 + x1 := by rw [IntKind.wrap_i64]; omega
  obtain ⟨P, hP⟩ : ∃ P, 1 + x1 = P := ⟨_, rfl⟩
  have HP : Hid (1 ≤ P ∧ P ≤ 1000) := by unfold Hid; omega
  have hP0 : ¬ P = 0 := by have := HP.out; omega
  have v2b : IntKind.i64.wrap P = P := by have := HP.out; rw [IntKind.wrap_i64]; omega
  have v3 : IntKind.u64.wrap P = P := by have := HP.out; rw [IntKind.wrap_u64]; omega
  obtain ⟨x2, hx2⟩ : ∃ x, (IntKind.u64.wrap a0).tmod P = x := ⟨_, rfl⟩
  have b2 := u64_tmod a0 P (by have := HP.out; omega)
  rw [hx2] at b2
  have v4 : IntKind.i64.wrap x2 = x2 := by have := HP.out; rw [IntKind.wrap_i64]; omega
  have v5 : IntKind.i64.wrap (1 + x2) = 1 + x2 := by have := HP.out; rw [IntKind.wrap_i64]; omega
  obtain ⟨Z, hZ⟩ : ∃ Z, 1 + x2 = Z := ⟨_, rfl⟩
  have HZ : Hid (1 ≤ Z ∧ Z ≤ P) := by unfold Hid; omega
  have v5b : IntKind.i64.wrap Z = Z := by have := HP.out; have := HZ.out; rw [IntKind.wrap_i64]; omega
  have hU2 : 0 ≤ a2 ∧ a2 ≤ 4294967295 := U32.of_wf hw2
  obtain ⟨F, hF⟩ : ∃ x, a2.tmod 1073741824 = x := ⟨_, rfl⟩
  have HF : Hid (0 ≤ F ∧ F < 1073741824) := by
    have h1 := Int.tmod_nonneg 1073741824 hU2.1
    have h2 := Int.tmod_lt_of_pos a2 (show (0 : Int) < 1073741824 by omega)
    rw [hF] at h1 h2
    exact ⟨h1, h2⟩
  have v6 : IntKind.i64.wrap F = F := by have := HF.out; rw [IntKind.wrap_i64]; omega
  have NI : Hid (newI Z P) := ⟨by have := HP.out; omega, by have := HZ.out; omega, by have := HZ.out; omega⟩
  have NW := Lib.hid (new_any Z P w NI.out)
  rw [hlo] at NW ⊢
  clear h3 h4 hlo b1 b2 hw2 hU2
  go_enter Try.func8, Try.ntmps8
  go_wp2_with fail
  refine NW.out.mono ?_
  rintro e w1 ⟨rfl, q1, b1⟩
  have Q1 : Hid (SV w1 lo ⟨Z, P, 0, 0, 0⟩) := q1
  have B1 : Hid (Below lo w w1) := b1
  clear q1 b1 NW hx1 v1 v2 hP v3 hx2 v4 v5 hZ
  go_wp2_with fail
  refine (new_any Z P w1 NI.out).mono ?_
  rintro e w2 ⟨rfl, q2, b2⟩
  have QA2 := Lib.hid (Q1.out.below b2)
  have QB2 := Lib.hid q2
  have HG : Hid (lo < w1.heap.size) := Q1.out.lt
  have B2 : Hid (Below lo w w2) := B1.out.trans (b2.mono (by have := Q1.out.lt; omega))
  obtain ⟨g2, hg2⟩ : ∃ x, w1.heap.size = x := ⟨_, rfl⟩
  rw [hg2] at QB2 HG
  rw [hg2]
  clear q2 b2 Q1 B1 hg2
  go_wp2_with fail
  refine (reset_any g2 ⟨Z, P, 0, 0, 0⟩ F w2 QB2.out).mono ?_
  rw [show resetS ⟨Z, P, 0, 0, 0⟩ F = ⟨Z, P, F, 0, 0⟩ from if_pos ⟨HF.out.1, by have := HF.out; omega⟩]
  rintro e w3 ⟨rfl, q3, f3⟩
  have QB3 := Lib.hid q3
  have QA3 := Lib.hid (QA2.out.fo f3 (by have := HG.out; omega))
  have B3 : Hid (Below lo w w3) := B2.out.trans (f3.below (fun b hb => by rw [hb]; have := HG.out; omega) (by have := QA2.out.lt; omega))
  clear q3 f3 QA2 QB2 B2 hF v6
  go_upto_block 0 with fail
  go_cut [16, 17] (fun nx ix wx => ∃ K U, SV wx lo ⟨Z, P, 0, K, U⟩ ∧ SV wx g2 ⟨Z, P, F, K, U⟩ ∧ Below lo w wx)
  case first =>
    go_wp2_with fail
    go_loopw [16, 17] (fun nv iv wr => MR lo g2 len len2 Z P F w nv iv wr) (fun _ i _ => len - (intOf i).toNat)
    case atStart => exact ⟨⟨0, 0, 0, 0, Nat.zero_le _, rfl, rfl, by omega, by omega, QA3.out, QB3.out, B3.out⟩⟩
    case round =>
      clear QA3 QB3 B3
      obtain ⟨⟨j, K, U, t0, hj, rfl, rfl, ht0, ht1, hqa, hqb, hb⟩⟩ := hrel
      have QA := Lib.hid hqa
      have QB := Lib.hid hqb
      have HB := Lib.hid hb
      clear hqa hqb hb
      by_cases hlt : j < len
      rotate_left
      · have hjI : ¬ (j : Int) < (len : Int) := by omega
        have g0 : decide ((j : Int) < (len : Int)) = false := by simp; omega
        clear hlt hj
        go_wp2_with fail
        go_meet
        exact ⟨K, U, QA.out, QB.out, HB.out⟩
      have hjI : (j : Int) < (len : Int) := by omega
      have g0 : decide ((j : Int) < (len : Int)) = true := by simp; omega
      by_cases hlt2 : j < len2
      rotate_left
      · have hjI2 : ¬ (j : Int) < (len2 : Int) := by omega
        have g02 : decide ((j : Int) < (len2 : Int)) = false := by simp; omega
        clear hlt hlt2 hj
        go_wp2_with fail
        go_meet
        exact ⟨K, U, QA.out, QB.out, HB.out⟩
      have hjI2 : (j : Int) < (len2 : Int) := by omega
      have g02 : decide ((j : Int) < (len2 : Int)) = true := by simp; omega
      by_cases h40 : j < 40
      rotate_left
      · have hcI : ¬ (j : Int) < 40 := by omega
        have g3 : decide ((j : Int) < 40) = false := by simp; omega
        clear hlt hlt2 hj h40
        go_wp2_with fail
        go_meet
        exact ⟨K, U, QA.out, QB.out, HB.out⟩
      have g3 : decide ((j : Int) < 40) = true := by simp; omega
      have hcI : (j : Int) < 40 := by omega
      have HX : Hid (j < len ∧ j < 40) := ⟨hlt, h40⟩
      obtain ⟨b0, off0, hA0, hc0⟩ := row_at HR.out (show 0 < len by omega)
      subst hA0
      obtain ⟨z, hz0⟩ : ∃ x, zs.getD j 0 = x := ⟨_, rfl⟩
      have hd0 := (hc0 j (by omega)).1
      have hw0 := (hc0 j (by omega)).2
      rw [hz0] at hd0 hw0
      have hr0 : 0 ≤ z ∧ z ≤ 65535 := by simp only [Lit.wf, Bool.and_eq_true, decide_eq_true_eq] at hw0; exact hw0
      have HBL0 : Hid (b0 < lo) := by unfold Hid; rw [← HLO.out]; exact World.block_lt_of_cell? _ _ hd0
      have z0 : wr.cell? ⟨b0, off0 + j, none⟩ = some (.int .u16 z) := (HB.out.cell HBL0.out).trans hd0
      clear hc0 hz0 hd0 hw0
      obtain ⟨b1, off1, hA1, hc1⟩ := row_at HR2.out (show 0 < len2 by omega)
      subst hA1
      obtain ⟨n, hz1⟩ : ∃ x, zs2.getD j 0 = x := ⟨_, rfl⟩
      have hd1 := (hc1 j (by omega)).1
      have hw1 := (hc1 j (by omega)).2
      rw [hz1] at hd1 hw1
      have hr1 : -9223372036854775808 ≤ n ∧ n ≤ 9223372036854775807 := by simp only [Lit.wf, Bool.and_eq_true, decide_eq_true_eq] at hw1; exact hw1
      have HBL1 : Hid (b1 < lo) := by unfold Hid; rw [← HLO.out]; exact World.block_lt_of_cell? _ _ hd1
      have z1 : wr.cell? ⟨b1, off1 + j, none⟩ = some (.int .i64 n) := (HB.out.cell HBL1.out).trans hd1
      clear hc1 hz1 hd1 hw1
      obtain ⟨d, hd⟩ : ∃ x, z.tmod 1000 = x := ⟨_, rfl⟩
      have hd1 : 0 ≤ d ∧ d < 1000 := by
        have h1 := Int.tmod_nonneg 1000 hr0.1
        have h2 := Int.tmod_lt_of_pos z (show (0 : Int) < 1000 by omega)
        rw [hd] at h1 h2
        exact ⟨h1, h2⟩
      have u1 : IntKind.i64.wrap d = d := by rw [IntKind.wrap_i64]; omega
      have u2 : IntKind.i64.wrap (t0 + d) = t0 + d := by rw [IntKind.wrap_i64]; omega
      obtain ⟨t, ht⟩ : ∃ t, t0 + d = t := ⟨_, rfl⟩
      have u2b : IntKind.i64.wrap t = t := by rw [← ht]; exact u2
      have HT : Hid (0 ≤ t ∧ t ≤ 1000 * ((j : Int) + 1)) := by unfold Hid; omega
      have u3 : IntKind.i64.wrap (t + F) = t + F := by have := HF.out; rw [IntKind.wrap_i64]; omega
      obtain ⟨s1, s2, s3, K2, U2, s4, s5⟩ := shift (Z := Z) (P := P) (K := K) (U := U) (n := n) HT.out.1 HF.out.1 (by have := HF.out; have := HT.out; omega)
      obtain ⟨X, hX⟩ : ∃ x, nextV ⟨Z, P, 0, K, U⟩ t = x := ⟨_, rfl⟩
      have hXb : X ≤ t + P ∧ t < X := by have := next_facts (s := ⟨Z, P, 0, K, U⟩) (t := t) QA.out.ok ⟨HT.out.1, by have := HT.out; omega⟩; rw [hX] at this; exact ⟨this.2.2, this.2.1⟩
      have u4 : IntKind.i64.wrap (X + F) = X + F := by have := HF.out; have := HT.out; have := HP.out; rw [IntKind.wrap_i64]; omega
      have hX2 : nextV ⟨Z, P, F, K, U⟩ (t + F) = X + F := by rw [s2, hX]
      obtain ⟨Lx, hL⟩ : ∃ x, leftV ⟨Z, P, 0, K, U⟩ t = x := ⟨_, rfl⟩
      have hL2 : leftV ⟨Z, P, F, K, U⟩ (t + F) = Lx := by rw [s1, hL]
      obtain ⟨c, hc⟩ : ∃ x, chN ⟨Z, P, 0, K, U⟩ t n = x := ⟨_, rfl⟩
      have hc2 : chN ⟨Z, P, F, K, U⟩ (t + F) n = c := by rw [s3, hc]
      obtain ⟨ov, hov⟩ : ∃ b, decide (c < max n 0) = b := ⟨_, rfl⟩
      have HC : Hid (∀ W, SV W lo ⟨Z, P, 0, K, U⟩ → Calls Try.prog 17 #[.pointer (some ⟨lo, 0, none⟩), .int .i64 t, .int .i64 n] W fun e w' => e = .returned (.tuple #[.int .i64 c, .bool ov]) ∧ SV w' lo ⟨Z, P, 0, K2, U2⟩ ∧ Fo (fun b => b = lo) W w') := fun W hW => by
        have := charge_any lo ⟨Z, P, 0, K, U⟩ t n W hW
        rw [hc, s4, hov] at this
        exact this
      have HD : Hid (∀ W, SV W g2 ⟨Z, P, F, K, U⟩ → Calls Try.prog 17 #[.pointer (some ⟨g2, 0, none⟩), .int .i64 (t + F), .int .i64 n] W fun e w' => e = .returned (.tuple #[.int .i64 c, .bool ov]) ∧ SV w' g2 ⟨Z, P, F, K2, U2⟩ ∧ Fo (fun b => b = g2) W w') := fun W hW => by
        have := charge_any g2 ⟨Z, P, F, K, U⟩ (t + F) n W hW
        rw [hc2, s5, hov] at this
        exact this
      have L2a : Hid (leftV ⟨Z, P, 0, K, U⟩ t = Lx) := hL
      have L2b := Lib.hid hL2
      have X2a := Lib.hid hX
      have X2b := Lib.hid hX2
      have Hn1 : Hid (w.cell? ⟨b1, off1 + j, none⟩ = some (.int .i64 n)) := (HB.out.cell HBL1.out).symm.trans z1
      have QAwr : Hid (SV wr lo ⟨Z, P, 0, K, U⟩) := QA.out
      have QBwr : Hid (SV wr g2 ⟨Z, P, F, K, U⟩) := QB.out
      have Bwr : Hid (Below lo w wr) := HB.out
      clear s1 s2 s3 s4 s5 hX hXb hX2 hL hL2 hc hc2 hov hd1 hr0 hr1 hlt hlt2 hj h40 ht0 ht1 QA QB HB
      go_wp2_with fail
      refine (left_any lo ⟨Z, P, 0, K, U⟩ t wr QAwr.out).mono ?_
      rw [L2a.out]
      rintro e w4 ⟨rfl, m, hm⟩
      have QAw4 := Lib.hid (QAwr.out.drewN m)
      have QBw4 := Lib.hid (QBwr.out.drewN m)
      rw [← hm] at QAw4 QBw4
      have Bw4 : Hid (Below lo w w4) := Bwr.out.trans (quiet_below hm)
      skip
      clear hm QAwr QBwr Bwr
      go_wp2_with fail
      refine (left_any g2 ⟨Z, P, F, K, U⟩ (t + F) w4 QBw4.out).mono ?_
      rw [L2b.out]
      rintro e w5 ⟨rfl, m, hm⟩
      have QAw5 := Lib.hid (QAw4.out.drewN m)
      have QBw5 := Lib.hid (QBw4.out.drewN m)
      rw [← hm] at QAw5 QBw5
      have Bw5 : Hid (Below lo w w5) := Bw4.out.trans (quiet_below hm)
      skip
      clear hm QAw4 QBw4 Bw4
      go_wp2_with fail
      refine (next_any lo ⟨Z, P, 0, K, U⟩ t w5 QAw5.out).mono ?_
      rw [X2a.out]
      rintro e w6 ⟨rfl, m, hm⟩
      have QAw6 := Lib.hid (QAw5.out.drewN m)
      have QBw6 := Lib.hid (QBw5.out.drewN m)
      rw [← hm] at QAw6 QBw6
      have Bw6 : Hid (Below lo w w6) := Bw5.out.trans (quiet_below hm)
      skip
      clear hm QAw5 QBw5 Bw5
      go_wp2_with fail
      refine (next_any g2 ⟨Z, P, F, K, U⟩ (t + F) w6 QBw6.out).mono ?_
      rw [X2b.out]
      rintro e w7 ⟨rfl, m, hm⟩
      have QAw7 := Lib.hid (QAw6.out.drewN m)
      have QBw7 := Lib.hid (QBw6.out.drewN m)
      rw [← hm] at QAw7 QBw7
      have Bw7 : Hid (Below lo w w7) := Bw6.out.trans (quiet_below hm)
      have z7 : w7.cell? ⟨b1, off1 + j, none⟩ = some (.int .i64 n) := (Bw7.out.cell HBL1.out).trans Hn1.out
      clear hm QAw6 QBw6 Bw6
      go_wp2_with fail
      refine (HC.out w7 QAw7.out).mono ?_
      rintro e w8 ⟨rfl, q8, f8⟩
      have QA8 := Lib.hid q8
      have QB8 := Lib.hid (QBw7.out.fo f8 (by have := HG.out; omega))
      have B8 : Hid (Below lo w w8) := Bw7.out.trans (f8.below (fun b hb => by rw [hb]; exact Nat.le_refl _) (by have := QAw7.out.lt; omega))
      have z8 : w8.cell? ⟨b1, off1 + j, none⟩ = some (.int .i64 n) := (B8.out.cell HBL1.out).trans Hn1.out
      clear q8 f8 QAw7 QBw7 Bw7 z7
      go_wp2_with fail
      refine (HD.out w8 QB8.out).mono ?_
      rintro e w9 ⟨rfl, q9, f9⟩
      have QB9 := Lib.hid q9
      have QA9 := Lib.hid (QA8.out.fo f9 (by have := HG.out; omega))
      have B9 : Hid (Below lo w w9) := B8.out.trans (f9.below (fun b hb => by rw [hb]; have := HG.out; omega) (by have := QA8.out.lt; omega))
      clear q9 f9 QA8 QB8 B8 z8
      go_wp2_with fail
      go_roundw
      case rel =>
        have Q : MR lo g2 len len2 Z P F w (.int .i64 t) (.int .i64 ((j : Int) + 1)) w9 := ⟨⟨j + 1, K2, U2, t, HX.out.1, rfl, by go_num, HT.out.1, by have := HT.out; push_cast; omega, QA9.out, QB9.out, B9.out⟩⟩
        first | exact Q | ((repeat apply Exists.intro); exact ⟨Q, rfl⟩)
      case measure => have := HX.out; simp [intOf]; omega
  case rest =>
    obtain ⟨w4, hw4⟩ : ∃ w', w' = wc := ⟨_, rfl⟩
    subst hw4
    obtain ⟨K, U, hqa, hqb, hb⟩ := hcut
    have HB := Lib.hid hb
    have QB := Lib.hid hqb
    have QA := Lib.hid hqa
    clear hb hqa hqb QA3 QB3 B3
    by_cases hF0 : F = 0
    · have g0 : (F == 0) = true := by simpa using hF0
      go_wp2_with fail
      refine (known_any w4).mono ?_
      rintro e w5 ⟨rfl, b5⟩
      have B5 : Hid (Below lo w w5) := HB.out.trans (b5.mono (by have := QA.out.lt; omega))
      clear b5
      go_wp2_with fail
      go_ret
      exact ⟨rfl, B5.out⟩
    · have g0 : (F == 0) = false := by simpa using hF0
      have v7 : IntKind.i64.wrap (F - 1) = F - 1 := by have := HF.out; rw [IntKind.wrap_i64]; omega
      have hnh : ¬ hasP ⟨Z, P, F, K, U⟩ (F - 1) := fun h => by have := h.1; simp only at this; omega
      have LL : Hid (leftV ⟨Z, P, F, K, U⟩ (F - 1) = 0) := if_pos hnh
      have NN : Hid (nextV ⟨Z, P, F, K, U⟩ (F - 1) = 0) := if_neg hnh
      clear hnh
      go_wp2_with fail
      refine (known_any w4).mono ?_
      rintro e w5 ⟨rfl, b5⟩
      have B5 : Hid (Below lo w w5) := HB.out.trans (b5.mono (by have := QA.out.lt; omega))
      have QB5 := Lib.hid (QB.out.below b5)
      clear b5 QB QA HB
      go_wp2_with fail
      refine (left_any g2 ⟨Z, P, F, K, U⟩ (F - 1) w5 QB5.out).mono ?_
      rw [LL.out]
      rintro e w6 ⟨rfl, m, hm⟩
      have QB6 := Lib.hid (QB5.out.drewN m)
      rw [← hm] at QB6
      have B6 : Hid (Below lo w w6) := B5.out.trans (quiet_below hm)
      clear hm QB5 B5
      go_wp2_with fail
      refine (next_any g2 ⟨Z, P, F, K, U⟩ (F - 1) w6 QB6.out).mono ?_
      rw [NN.out]
      rintro e w7 ⟨rfl, m, hm⟩
      have B7 : Hid (Below lo w w7) := B6.out.trans (quiet_below hm)
      clear hm QB6 B6
      go_wp2_with fail
      go_ret
      exact ⟨rfl, B7.out⟩
end Go.Proofs.Ytbocjjjghokodaa.Bg
