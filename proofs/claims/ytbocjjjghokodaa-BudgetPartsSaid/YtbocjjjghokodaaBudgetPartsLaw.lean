/-
  BudgetParts' walk. Each statement bears its own conditions.
-/
import Derived.Test.YtbocjjjghokodaaBgC
namespace Go.Proofs.Ytbocjjjghokodaa.Bg
open Go.RowKit Go.Proofs.Ytbocjjjghokodaa.F 
set_option linter.unusedVariables false
set_option linter.unusedSimpArgs false
/-- A server of which so much is charged in one period. -/
def Ast (Z P q r : Int) : Sv := if 0 < r then ⟨Z, P, 0, q, r⟩ else ⟨Z, P, 0, 0, 0⟩
theorem ast_left {Z P q r t E : Int} (hq : 0 ≤ q) (hr : 0 ≤ r) (ht0 : 0 ≤ t) (ht1 : t ≤ 1099511627776) (hw : t / P = q) (hE : (q + 1) * P = E) : leftV (Ast Z P q r) t = min (Z - r) (E - t) ∧ whV (Ast Z P q r) t = q ∧ nextV (Ast Z P q r) t = E := by
  unfold Ast
  split
  · rename_i h0
    have h1 : whV ⟨Z, P, 0, q, r⟩ t = q := by unfold whV; show (t - 0) / P = q; rw [Int.sub_zero]; exact hw
    have h2 : hasP ⟨Z, P, 0, q, r⟩ t := ⟨ht0, ht1⟩
    have h3 : nextV ⟨Z, P, 0, q, r⟩ t = E := by unfold nextV; rw [if_pos h2, h1]; show 0 + (q + 1) * P = E; omega
    refine ⟨?_, h1, h3⟩
    unfold leftV
    rw [if_neg (fun e => e h2), h1, h3, if_neg (show ¬ q < q by omega), if_pos rfl]
  · rename_i h0
    have hr0 : r = 0 := by omega
    have h1 : whV ⟨Z, P, 0, 0, 0⟩ t = q := by unfold whV; show (t - 0) / P = q; rw [Int.sub_zero]; exact hw
    have h2 : hasP ⟨Z, P, 0, 0, 0⟩ t := ⟨ht0, ht1⟩
    have h3 : nextV ⟨Z, P, 0, 0, 0⟩ t = E := by unfold nextV; rw [if_pos h2, h1]; show 0 + (q + 1) * P = E; omega
    refine ⟨?_, h1, h3⟩
    unfold leftV
    rw [if_neg (fun e => e h2), h1, h3, if_neg (show ¬ q < 0 by omega), hr0]
    show min (if q = 0 then Z - 0 else Z) (E - t) = min (Z - 0) (E - t)
    split <;> simp
theorem ast_use {Z P q r k : Int} (hr : 0 ≤ r) (hk : 0 < k) : useS (Ast Z P q r) q k = Ast Z P q (r + k) := by
  have e : Ast Z P q (r + k) = ⟨Z, P, 0, q, r + k⟩ := if_pos (by omega)
  rw [e]
  unfold Ast
  split
  · exact if_pos rfl
  · have hr0 : r = 0 := by omega
    unfold useS
    by_cases h : q = (⟨Z, P, 0, 0, 0⟩ : Sv).last
    · rw [if_pos h]
      have h' : q = 0 := h
      show (⟨Z, P, 0, 0, 0 + k⟩ : Sv) = _
      rw [h', hr0]
    · rw [if_neg h, hr0, Int.zero_add]
theorem ast_charge {Z P q r t n E : Int} (hZ : r ≤ Z) (hq : 0 ≤ q) (hr : 0 ≤ r) (hn : 0 ≤ n) (ht0 : 0 ≤ t) (ht1 : t ≤ 1099511627776) (hw : t / P = q) (hE : (q + 1) * P = E) (ht : t < E) : chN (Ast Z P q r) t n = min n (min (Z - r) (E - t)) ∧ chS (Ast Z P q r) t n = Ast Z P q (r + min n (min (Z - r) (E - t))) := by
  obtain ⟨h1, h2, _⟩ := ast_left (Z := Z) (r := r) hq hr ht0 ht1 hw hE
  have hc : chN (Ast Z P q r) t n = min n (min (Z - r) (E - t)) := by unfold chN; rw [h1]; omega
  refine ⟨hc, ?_⟩
  unfold chS
  rw [hc, h2]
  split
  · rename_i h0; exact ast_use hr h0
  · rename_i h0
    rw [show min n (min (Z - r) (E - t)) = 0 by omega, Int.add_zero]
theorem div_in {P q E t : Int} (hP : 0 < P) (hE : (q + 1) * P = E) (h0 : q * P ≤ t) (h1 : t < E) : t / P = q := by
  have hx : (q + 1) * P = q * P + P := by rw [Int.add_mul, Int.one_mul]
  have : t = (t - q * P) + q * P := by omega
  rw [this, Int.add_mul_ediv_right _ _ (by omega), Int.ediv_eq_zero_of_lt (by omega) (by omega)]; omega
/-- What holds of the numbers. -/
structure PN (Z P T q E : Int) : Prop where
  P0 : 1 ≤ P ∧ P ≤ 1000
  Z0 : 1 ≤ Z ∧ Z ≤ P
  T0 : 0 ≤ T ∧ T < 100000
  q0 : 0 ≤ q
  E0 : (q + 1) * P = E
  lo : q * P ≤ T
  hi : T < E ∧ E ≤ T + P
structure PR (lo g2 len : Nat) (Z P T q E : Int) (w0 : World) (sv rv av iv : Value) (wr : World) : Prop where
  ex : ∃ (j : Nat) (s r : Int), j ≤ len ∧ j ≤ 20 ∧ sv = .int .i64 s ∧ rv = .int .i64 r ∧ av = .int .i64 (T + r) ∧ iv = .int .i64 (j : Int) ∧ 0 ≤ s ∧ s ≤ 50 * (j : Int) ∧ r = min s Z ∧ T + r < E ∧ SV wr lo (Ast Z P q r) ∧ SV wr g2 ⟨Z, P, 0, 0, 0⟩ ∧ Below lo w0 wr
structure PC (lo g2 : Nat) (Z P T q E : Int) (w0 : World) (sv rv : Value) (wr : World) : Prop where
  ex : ∃ (s r : Int), sv = .int .i64 s ∧ rv = .int .i64 r ∧ 0 ≤ s ∧ s ≤ 1000 ∧ r = min s Z ∧ T + r < E ∧ SV wr lo (Ast Z P q r) ∧ SV wr g2 ⟨Z, P, 0, 0, 0⟩ ∧ Below lo w0 wr
set_option maxRecDepth 100000 in
set_option maxHeartbeats 16000000 in
theorem parts_walk (a0 a1 a2 : Int) (a3 : Option Addr) (len cap : Nat) (zs : List Int) (w : World) (h3 : IsRow .u8 w a3 len cap zs) : Calls Try.prog 7 #[.int .i64 a0, .int .i64 a1, .int .i64 a2, .slice a3 len cap] w fun e w' => e = .returned (.bool true) ∧ Below w.heap.size w w' := by
  have he := he_bg
  have HR := Lib.hid h3
  obtain ⟨lo, hlo⟩ : ∃ lo, w.heap.size = lo := ⟨_, rfl⟩
  have HLO := Lib.hid hlo
  obtain ⟨x1, hx1⟩ : ∃ x, (IntKind.u64.wrap a1).tmod 1000 = x := ⟨_, rfl⟩
  have b1 := u64_tmod a1 1000 (by decide)
  rw [hx1] at b1
  have v1 : IntKind.i64.wrap x1 = x1 := by rw [IntKind.wrap_i64]; omega
  have v2 : IntKind.i64.wrap (1 + x1) = 1 + x1 := by rw [IntKind.wrap_i64]; omega
  obtain ⟨P, hP⟩ : ∃ P, 1 + x1 = P := ⟨_, rfl⟩
  have HP : Hid (1 ≤ P ∧ P ≤ 1000) := by unfold Hid; omega
  have hP0 : ¬ P = 0 := by have := HP.out; omega
  have v2b : IntKind.i64.wrap P = P := by have := HP.out; rw [IntKind.wrap_i64]; omega
  have v3 : IntKind.u64.wrap P = P := by have := HP.out; rw [IntKind.wrap_u64]; omega
  obtain ⟨x2, hx2⟩ : ∃ x, (IntKind.u64.wrap a0).tmod P = x := ⟨_, rfl⟩
  have b2 := u64_tmod a0 P (by have := HP.out; omega)
  rw [hx2] at b2
  have v4 : IntKind.i64.wrap x2 = x2 := by have := HP.out; rw [IntKind.wrap_i64]; omega
  have v5 : IntKind.i64.wrap (1 + x2) = 1 + x2 := by have := HP.out; rw [IntKind.wrap_i64]; omega
  obtain ⟨Z, hZ⟩ : ∃ Z, 1 + x2 = Z := ⟨_, rfl⟩
  have HZ : Hid (1 ≤ Z ∧ Z ≤ P) := by unfold Hid; omega
  have v5b : IntKind.i64.wrap Z = Z := by have := HP.out; have := HZ.out; rw [IntKind.wrap_i64]; omega
  obtain ⟨T, hT⟩ : ∃ x, (IntKind.u64.wrap a2).tmod 100000 = x := ⟨_, rfl⟩
  have b3 := u64_tmod a2 100000 (by decide)
  rw [hT] at b3
  have v6 : IntKind.i64.wrap T = T := by rw [IntKind.wrap_i64]; omega
  have NI : Hid (newI Z P) := ⟨by have := HP.out; omega, by have := HZ.out; omega, by have := HZ.out; omega⟩
  have NW := Lib.hid (new_any Z P w NI.out)
  have HT : Hid (hasP ⟨Z, P, 0, 0, 0⟩ T) := ⟨b3.1, by omega⟩
  obtain ⟨q, hq⟩ : ∃ q, T / P = q := ⟨_, rfl⟩
  obtain ⟨E, hE⟩ : ∃ E, (q + 1) * P = E := ⟨_, rfl⟩
  have HN : Hid (PN Z P T q E ∧ nextV ⟨Z, P, 0, 0, 0⟩ T = E) := by
    have h1 : 0 < P := by have := HP.out; omega
    have h2 := Int.ediv_mul_le T (show P ≠ 0 by omega)
    have h3 := Int.lt_ediv_add_one_mul_self T h1
    have h4 := Int.ediv_nonneg b3.1 (show 0 ≤ P by omega)
    rw [hq] at h2 h3 h4
    have hx : (q + 1) * P = q * P + P := by rw [Int.add_mul, Int.one_mul]
    refine ⟨⟨HP.out, HZ.out, b3, h4, hE, h2, by omega, by omega⟩, ?_⟩
    unfold nextV
    rw [if_pos HT.out]
    show 0 + ((T - 0) / P + 1) * P = E
    rw [Int.sub_zero, hq, hE]; omega
  rw [hlo] at NW ⊢
  clear h3 hlo b1 b2 b3 hq hE HT
  go_enter Try.func7, Try.ntmps7
  go_wp2_with fail
  refine NW.out.mono ?_
  rintro e w1 ⟨rfl, q1, b1⟩
  have Q1 : Hid (SV w1 lo ⟨Z, P, 0, 0, 0⟩) := q1
  have B1 : Hid (Below lo w w1) := b1
  clear q1 b1 NW hx1 v1 v2 hP v3 hx2 v4 v5 hZ hT v6
  go_wp2_with fail
  refine (new_any Z P w1 NI.out).mono ?_
  rintro e w2 ⟨rfl, q2, b2⟩
  have QA2 := Lib.hid (Q1.out.below b2)
  have QB2 := Lib.hid q2
  have HG : Hid (lo < w1.heap.size) := Q1.out.lt
  have B2 : Hid (Below lo w w2) := B1.out.trans (b2.mono (by have := Q1.out.lt; omega))
  obtain ⟨g2, hg2⟩ : ∃ x, w1.heap.size = x := ⟨_, rfl⟩
  rw [hg2] at QB2 HG
  rw [hg2]
  clear q2 b2 Q1 B1 hg2
  go_wp2_with fail
  refine (next_any lo ⟨Z, P, 0, 0, 0⟩ T w2 QA2.out).mono ?_
  rw [HN.out.2]
  rintro e w3 ⟨rfl, m, hm⟩
  have QA3 := Lib.hid (QA2.out.drewN m)
  have QB3 := Lib.hid (QB2.out.drewN m)
  rw [← hm] at QA3 QB3
  have B3 : Hid (Below lo w w3) := B2.out.trans (quiet_below hm)
  clear hm QA2 QB2 B2
  have HP2 : Hid (PN Z P T q E) := HN.out.1
  clear HN
  go_upto_block 0 with fail
  go_cut [15, 16, 17, 18] (fun sx rx ax ix wx => PC lo g2 Z P T q E w sx rx wx)
  case first =>
    go_wp2_with fail
    go_loopw [15, 16, 17, 18] (fun sv rv av iv wr => PR lo g2 len Z P T q E w sv rv av iv wr) (fun _ _ _ i _ => len - (intOf i).toNat)
    case atStart => exact ⟨⟨0, 0, 0, Nat.zero_le _, by omega, rfl, rfl, by simp, rfl, by omega, by omega, by have := HZ.out; omega, by have := HP2.out.hi; omega, QA3.out, QB3.out, B3.out⟩⟩
    case round =>
      clear QA3 QB3 B3
      obtain ⟨⟨j, s, r, hj, hj20, rfl, rfl, rfl, rfl, hs0, hs1, hr, hat, hqa, hqb, hb⟩⟩ := hrel
      have QA := Lib.hid hqa
      have QB := Lib.hid hqb
      have HB := Lib.hid hb
      have HS : Hid (0 ≤ s ∧ s ≤ 50 * (j : Int) ∧ r = min s Z ∧ T + r < E) := ⟨hs0, hs1, hr, hat⟩
      have HJ : Hid (j ≤ 20) := hj20
      clear hqa hqb hb hs0 hs1 hr hat hj20
      have HS' : Hid (0 ≤ s ∧ s ≤ 1000 ∧ r = min s Z ∧ T + r < E) := by have := HS.out; have := HJ.out; exact ⟨HS.out.1, by omega, HS.out.2.2⟩
      by_cases hlt : j < len
      rotate_left
      · have hjI : ¬ (j : Int) < (len : Int) := by omega
        have g0 : decide ((j : Int) < (len : Int)) = false := by simp; omega
        clear hlt hj
        go_wp2_with fail
        go_meet
        exact ⟨⟨s, r, rfl, rfl, HS'.out.1, HS'.out.2.1, HS'.out.2.2.1, HS'.out.2.2.2, QA.out, QB.out, HB.out⟩⟩
      have hjI : (j : Int) < (len : Int) := by omega
      have g0 : decide ((j : Int) < (len : Int)) = true := by simp; omega
      by_cases h20 : j < 20
      rotate_left
      · have hcI : ¬ (j : Int) < 20 := by omega
        have g3 : decide ((j : Int) < 20) = false := by simp; omega
        clear hlt hj h20
        go_wp2_with fail
        go_meet
        exact ⟨⟨s, r, rfl, rfl, HS'.out.1, HS'.out.2.1, HS'.out.2.2.1, HS'.out.2.2.2, QA.out, QB.out, HB.out⟩⟩
      have g3 : decide ((j : Int) < 20) = true := by simp; omega
      have hcI : (j : Int) < 20 := by omega
      have HX : Hid (j < len ∧ j < 20) := ⟨hlt, h20⟩
      obtain ⟨b0, off0, hA0, hc0⟩ := row_at HR.out (show 0 < len by omega)
      subst hA0
      obtain ⟨z, hz0⟩ : ∃ x, zs.getD j 0 = x := ⟨_, rfl⟩
      have hd0 := (hc0 j (by omega)).1
      have hw0 := (hc0 j (by omega)).2
      rw [hz0] at hd0 hw0
      have hr0 : 0 ≤ z ∧ z ≤ 255 := by simp only [Lit.wf, Bool.and_eq_true, decide_eq_true_eq] at hw0; exact hw0
      have HBL0 : Hid (b0 < lo) := by unfold Hid; rw [← HLO.out]; exact World.block_lt_of_cell? _ _ hd0
      have z0 : wr.cell? ⟨b0, off0 + j, none⟩ = some (.int .u8 z) := (HB.out.cell HBL0.out).trans hd0
      clear hc0 hz0 hd0 hw0
      obtain ⟨n, hn⟩ : ∃ x, z.tmod 50 = x := ⟨_, rfl⟩
      have hn1 : 0 ≤ n ∧ n < 50 := by
        have h1 := Int.tmod_nonneg 50 hr0.1
        have h2 := Int.tmod_lt_of_pos z (show (0 : Int) < 50 by omega)
        rw [hn] at h1 h2
        exact ⟨h1, h2⟩
      have HNN := Lib.hid hn1
      have hpn := HP2.out
      have hrZ : 0 ≤ r ∧ r ≤ Z := by have := HS.out; have := hpn.Z0; omega
      have u1 : IntKind.i64.wrap n = n := by rw [IntKind.wrap_i64]; omega
      have u2 : IntKind.i64.wrap (T + r + n) = T + r + n := by have := hpn.T0; have := hpn.P0; have := hpn.Z0; rw [IntKind.wrap_i64]; omega
      by_cases hbr : E ≤ T + r + n
      · have g5 : decide (E ≤ T + r + n) = true := by simpa using hbr
        clear hlt hj h20 hbr hn1 hpn hrZ hr0
        go_wp2_with fail
        go_meet
        exact ⟨⟨s, r, rfl, rfl, HS'.out.1, HS'.out.2.1, HS'.out.2.2.1, HS'.out.2.2.2, QA.out, QB.out, HB.out⟩⟩
      have g5 : decide (E ≤ T + r + n) = false := by simpa using hbr
      have hdv : (T + r) / P = q := div_in (by have := hpn.P0; omega) hpn.E0 (by have := hpn.lo; omega) (by omega)
      obtain ⟨c1, c2⟩ := ast_charge (Z := Z) (r := r) (t := T + r) (n := n) hrZ.2 hpn.q0 hrZ.1 hn1.1 (by have := hpn.T0; omega) (by have := hpn.T0; have := hpn.P0; have := hpn.Z0; omega) hdv hpn.E0 (by omega)
      obtain ⟨k, hk⟩ : ∃ k, min n (min (Z - r) (E - (T + r))) = k := ⟨_, rfl⟩
      rw [hk] at c1 c2
      obtain ⟨ov, hov⟩ : ∃ b, decide (k < max n 0) = b := ⟨_, rfl⟩
      have CC : Hid (Calls Try.prog 17 #[.pointer (some ⟨lo, 0, none⟩), .int .i64 (T + r), .int .i64 n] wr fun e w' => e = .returned (.tuple #[.int .i64 k, .bool ov]) ∧ SV w' lo (Ast Z P q (r + k)) ∧ Fo (fun b => b = lo) wr w') := by
        have := charge_any lo (Ast Z P q r) (T + r) n wr QA.out
        rw [c1, c2, hov] at this
        exact this
      have HK : Hid (0 ≤ k ∧ k ≤ n ∧ r + k = min (s + n) Z) := by have := HS.out; unfold Hid; omega
      have u3 : IntKind.i64.wrap (r + k) = r + k := by have := hpn.P0; have := hpn.Z0; rw [IntKind.wrap_i64]; omega
      have u4 : IntKind.i64.wrap (s + n) = s + n := by have := HS.out; rw [IntKind.wrap_i64]; omega
      have u5 : IntKind.i64.wrap (T + r + k) = T + r + k := by have := hpn.T0; have := hpn.P0; have := hpn.Z0; rw [IntKind.wrap_i64]; omega
      have HBR : Hid (T + r + n < E) := by unfold Hid; omega
      clear c1 c2 hk hov hlt hj h20 hbr hn1 hpn hrZ hr0 hdv
      go_wp2_with fail
      refine CC.out.mono ?_
      rintro e w4 ⟨rfl, q4, f4⟩
      have QA4 := Lib.hid q4
      have QB4 := Lib.hid (QB.out.fo f4 (by have := HG.out; omega))
      have B4 : Hid (Below lo w w4) := HB.out.trans (f4.below (fun b hb => by rw [hb]; exact Nat.le_refl _) (by have := QA.out.lt; omega))
      clear q4 f4 CC
      go_wp2_with fail
      go_roundw
      case rel =>
        have Q : PR lo g2 len Z P T q E w (.int .i64 (s + n)) (.int .i64 (r + k)) (.int .i64 (T + r + k)) (.int .i64 ((j : Int) + 1)) w4 := ⟨⟨j + 1, s + n, r + k, HX.out.1, HX.out.2, rfl, rfl, by rw [Int.add_assoc], by go_num, by have := HS.out; have := HNN.out; omega, by have := HS.out; have := HNN.out; push_cast; omega, HK.out.2.2, by have := HK.out; have := HBR.out; omega, QA4.out, QB4.out, B4.out⟩⟩
        first | exact Q | ((repeat apply Exists.intro); exact ⟨Q, rfl⟩)
      case measure => have := HX.out; simp [intOf]; omega
  case rest =>
    obtain ⟨w4, hw4⟩ : ∃ w', w' = wc := ⟨_, rfl⟩
    subst hw4
    obtain ⟨⟨s, r, rfl, rfl, hs0, hs1, hr, hat, hqa, hqb, hb⟩⟩ := hcut
    have B4 := Lib.hid hb
    have QB4 := Lib.hid hqb
    have QA4 := Lib.hid hqa
    clear hb hqa hqb QA3 QB3 B3
    have hpn := HP2.out
    have hrZ : 0 ≤ r ∧ r ≤ Z := by have := hpn.Z0; omega
    have hdv : T / P = q := div_in (by have := hpn.P0; omega) hpn.E0 hpn.lo hpn.hi.1
    obtain ⟨c1, c2⟩ := ast_charge (Z := Z) (r := 0) (t := T) (n := s) (by have := hpn.Z0; omega) hpn.q0 (by omega) hs0 hpn.T0.1 (by have := hpn.T0; omega) hdv hpn.E0 hpn.hi.1
    have e0 : Ast Z P q 0 = ⟨Z, P, 0, 0, 0⟩ := if_neg (by omega)
    rw [show min s (min (Z - 0) (E - T)) = r by omega] at c1 c2
    rw [e0] at c1 c2
    rw [Int.zero_add] at c2
    obtain ⟨ov, hov⟩ : ∃ b, decide (r < s) = b := ⟨_, rfl⟩
    have CC : Hid (Calls Try.prog 17 #[.pointer (some ⟨g2, 0, none⟩), .int .i64 T, .int .i64 s] w4 fun e w' => e = .returned (.tuple #[.int .i64 r, .bool ov]) ∧ SV w' g2 (Ast Z P q r) ∧ Fo (fun b => b = g2) w4 w') := by
      have := charge_any g2 ⟨Z, P, 0, 0, 0⟩ T s w4 QB4.out
      rw [c1, c2, show max s 0 = s by omega, hov] at this
      exact this
    have hE1 : E ≤ 1000000 ∧ 0 ≤ E - 1 := by have := hpn.hi; have := hpn.T0; have := hpn.P0; omega
    have hd2 : E / P = q + 1 := div_in (q := q + 1) (E := E + P) (by have := hpn.P0; omega) (by have h := hpn.E0; rw [Int.add_mul (q + 1) 1, Int.one_mul, h]) (by rw [hpn.E0]; omega) (by have := hpn.P0; omega)
    have HL2 : Hid (leftV (Ast Z P q r) E = min Z P) := by
      have h1 : ∀ K U : Int, K ≤ q → leftV ⟨Z, P, 0, K, U⟩ E = min Z P := fun K U hK => by
        have hw : whV ⟨Z, P, 0, K, U⟩ E = q + 1 := by show (E - 0) / P = q + 1; rw [Int.sub_zero]; exact hd2
        have hh : hasP ⟨Z, P, 0, K, U⟩ E := ⟨by show 0 ≤ E; omega, by omega⟩
        have hn : nextV ⟨Z, P, 0, K, U⟩ E = E + P := by
          unfold nextV
          rw [if_pos hh, hw]
          have := hpn.E0
          show 0 + (q + 1 + 1) * P = E + P
          rw [Int.add_mul (q + 1) 1, Int.one_mul, this]; omega
        unfold leftV
        rw [if_neg (fun e => e hh), hw, hn, if_neg (show ¬ q + 1 < K by omega), if_neg (show ¬ q + 1 = K by omega)]
        show min Z (E + P - E) = min Z P
        congr 1; omega
      unfold Ast
      split
      · exact h1 _ _ (by omega)
      · exact h1 _ _ hpn.q0
    obtain ⟨Lx, hL⟩ : ∃ x, leftV (Ast Z P q r) (E - 1) = x := ⟨_, rfl⟩
    have HL1 := Lib.hid hL
    have u6 : IntKind.i64.wrap (E - 1) = E - 1 := by rw [IntKind.wrap_i64]; omega
    obtain ⟨mz, hmz⟩ : ∃ x, min Z P = x := ⟨_, rfl⟩
    rw [hmz] at HL2
    clear c1 c2 e0 hL hE1 hd2 hdv hrZ hpn hs0 hs1 hr hat
    go_wp2_with fail
    refine CC.out.mono ?_
    rintro e w5 ⟨rfl, q5, f5⟩
    have QB5 := Lib.hid q5
    have QA5 := Lib.hid (QA4.out.fo f5 (by have := HG.out; omega))
    have B5 : Hid (Below lo w w5) := B4.out.trans (f5.below (fun b hb => by rw [hb]; have := HG.out; omega) (by have := QA4.out.lt; omega))
    clear q5 f5 QA4 QB4 B4 CC
    go_wp2_with fail
    refine (known_any w5).mono ?_
    rintro e w6 ⟨rfl, b6⟩
    have QAw6 := Lib.hid (QA5.out.below b6)
    have QBw6 := Lib.hid (QB5.out.below b6)
    have Bw6 : Hid (Below lo w w6) := B5.out.trans (b6.mono (by have := QA5.out.lt; omega))
    clear b6 QA5 QB5 B5
    go_wp2_with fail
    refine (left_any lo (Ast Z P q r) (E - 1) w6 QAw6.out).mono ?_
    rw [HL1.out]
    rintro e w7 ⟨rfl, m, hm⟩
    have QAw7 := Lib.hid (QAw6.out.drewN m)
    have QBw7 := Lib.hid (QBw6.out.drewN m)
    rw [← hm] at QAw7 QBw7
    have Bw7 : Hid (Below lo w w7) := Bw6.out.trans (quiet_below hm)
    clear hm QAw6 QBw6 Bw6
    go_wp2_with fail
    refine (left_any g2 (Ast Z P q r) (E - 1) w7 QBw7.out).mono ?_
    rw [HL1.out]
    rintro e w8 ⟨rfl, m, hm⟩
    have QAw8 := Lib.hid (QAw7.out.drewN m)
    have QBw8 := Lib.hid (QBw7.out.drewN m)
    rw [← hm] at QAw8 QBw8
    have Bw8 : Hid (Below lo w w8) := Bw7.out.trans (quiet_below hm)
    clear hm QAw7 QBw7 Bw7
    go_wp2_with fail
    refine (left_any lo (Ast Z P q r) E w8 QAw8.out).mono ?_
    rw [HL2.out]
    rintro e w9 ⟨rfl, m, hm⟩
    have QAw9 := Lib.hid (QAw8.out.drewN m)
    have QBw9 := Lib.hid (QBw8.out.drewN m)
    rw [← hm] at QAw9 QBw9
    have Bw9 : Hid (Below lo w w9) := Bw8.out.trans (quiet_below hm)
    clear hm QAw8 QBw8 Bw8
    go_wp2_with fail
    refine (same_any lo g2 (Ast Z P q r) (Ast Z P q r) w9 QAw9.out QBw9.out).mono ?_
    rw [(Sv.eqB_iff _ _).2 rfl]
    rintro e w10 ⟨rfl, m, hm⟩
    have QAw10 := Lib.hid (QAw9.out.drewN m)
    have QBw10 := Lib.hid (QBw9.out.drewN m)
    rw [← hm] at QAw10 QBw10
    have Bw10 : Hid (Below lo w w10) := Bw9.out.trans (quiet_below hm)
    clear hm QAw9 QBw9 Bw9
    go_wp2_with fail
    go_ret
    exact ⟨by simp, Bw10.out⟩
end Go.Proofs.Ytbocjjjghokodaa.Bg
