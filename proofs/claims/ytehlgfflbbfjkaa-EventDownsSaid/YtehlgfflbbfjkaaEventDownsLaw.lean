/-
  EventDowns's walk. Each statement bears its own conditions.
-/
import Derived.Test.YtehlgfflbbfjkaaEvW
namespace Go.Proofs.Ytehlgfflbbfjkaa.E
open Go.RowKit Go.Proofs.Ytehlgfflbbfjkaa.I
set_option linter.unusedVariables false
set_option linter.unusedSimpArgs false
structure DR (lo k n : Nat) (w : World) (ov iv : Value) (wr : World) : Prop where
  ex : ∃ (j rb qb : Nat) (v : Value) (L : List Int), j ≤ n ∧ iv = .int .i64 (j : Int) ∧ ov = v ∧ EV lo wr lo rb (decide (j ≤ k)) L ∧ OW lo wr lo rb v qb L ∧ (j ≤ k → L = []) ∧ L.length ≤ j ∧ Below lo w wr
set_option maxRecDepth 100000 in
set_option maxHeartbeats 8000000 in
theorem downs_walk (a : Option Addr) (len cap : Nat) (zs : List Int) (at_ : Int) (w : World) (h0 : IsRow .i64 w a len cap zs) : Calls Try.prog 7 #[.slice a len cap, .int .i64 at_] w fun e w' => e = .returned (.bool true) ∧ Below w.heap.size w w' := by
  have HR := Lib.hid h0
  obtain ⟨i0, hi, hz0, hz1, hz2⟩ := info_of int_info
  have hlc : (len : Int) ≤ (cap : Int) := by
    rcases h0 with ⟨_, h1, h2, _⟩ | ⟨_, _, h1, _⟩ <;> omega
  obtain ⟨n, hn1, hn2, hmin⟩ : ∃ n : Nat, n ≤ len ∧ n ≤ 60 ∧ min (len : Int) 60 = (n : Int) := by
    by_cases h : len ≤ 60
    · exact ⟨len, Nat.le_refl _, h, by omega⟩
    · exact ⟨60, by omega, Nat.le_refl _, by omega⟩
  have HN : Hid (n ≤ len ∧ n ≤ 60) := ⟨hn1, hn2⟩
  obtain ⟨u, k, hu, hq, hq', hlt, hwk⟩ := lowK ((n : Int) + 1) (by omega) at_
  have hmax : max (n : Int) 0 = (n : Int) := by omega
  have hk63 : wrap64 (k : Int) = (k : Int) := IntWalk.wrap64_in _ (by omega)
  have HK : Hid ((k : Int) < (n : Int) + 1) := hlt
  have hnz : ¬ ((n : Int) + 1 = 0) := by omega
  clear h0 hn1 hn2 hlt hq
  have he : ∀ (x : Nat) (w : World), (binOp .eql 23 (.pointer (some ⟨x, 0, none⟩)) (.pointer none)).run Try.prog w = .ok (.bool false) w := fun _ _ => rfl
  obtain ⟨lo, hlo⟩ : ∃ lo, w.heap.size = lo := ⟨_, rfl⟩
  have NW := Lib.hid (new_any w)
  have HLO : Hid (lo ≤ w.heap.size ∧ w.heap.size ≤ lo) := by unfold Hid; omega
  rw [hlo] at NW ⊢
  clear hlo
  go_enter Try.func7, Try.ntmps7
  go_wp2_with fail
  refine NW.out.mono ?_
  rintro e w1 ⟨rfl, q1, b1⟩
  have Q1 := Lib.hid q1
  have B1 := Lib.hid b1
  clear q1 b1 NW
  go_wp2_with fail
  refine (told_any w1).mono ?_
  rintro e w2 ⟨rfl, b2⟩
  have Q2 : Hid (EV lo w2 lo lo false []) := Q1.out.below b2
  have B2 : Hid (Below lo w w2) := B1.out.trans (b2.mono (by have := Q1.out.lt; omega))
  clear b2 Q1 B1
  go_wp2_with fail
  refine (set_any lo _ _ _ _ _ Q2.out).mono ?_
  rintro e w3 ⟨A3, n3, c3, rx3, rfl, _, _, q3, x3⟩
  have Q3 := Lib.hid q3
  have B3 : Hid (Below lo w w3) := B2.out.trans (x3.below Q2.out)
  clear q3 x3 Q2 B2 hmin hmax hu hq' hwk hk63
  go_wp2_with fail
  go_loopw [7, 8] (fun ov iv wr => DR lo k n w ov iv wr) (fun _ i _ => 60 - (intOf i).toNat)
  case atStart => exact ⟨⟨0, lo, 0, .slice none 0 0, [], Nat.zero_le _, rfl, rfl, by rw [decide_eq_true (Nat.zero_le k)]; exact Q3.out, OW.nil _ _ _ _, fun _ => rfl, Nat.le_refl _, B3.out⟩⟩
  case round =>
    obtain ⟨⟨j, rb, qb, v, L, hj, rfl, rfl, hev, how, hjk, hll, hb⟩⟩ := hrel
    have HB := Lib.hid hb
    have HE := Lib.hid hev
    have HO := Lib.hid how
    have HJK := Lib.hid hjk
    have HJ : Hid (j ≤ n ∧ L.length ≤ j ∧ j ≤ 60) := ⟨hj, hll, by have := HN.out; omega⟩
    obtain ⟨Aq, cq, hv⟩ := slice_form how.1.own
    obtain ⟨nq, hnq⟩ : ∃ nq, L.length = nq := ⟨_, rfl⟩
    rw [hnq] at hv
    subst hv
    have HLN : Hid (L.length = nq) := hnq
    clear hb hev how hll hj hjk hnq
    by_cases hlt : j < n
    · have hjI : (j : Int) < (n : Int) := by omega
      have hjl : (j : Int) < (len : Int) := by have := HN.out; omega
      have hj60 : (j : Int) < 60 := by have := HN.out; omega
      have HX : Hid (j < n) := hlt
      have hlt : j < len := by have := HN.out; omega
      obtain ⟨b, off, hax, hc⟩ := row_at HR.out (show 0 < len by omega)
      subst hax
      obtain ⟨x, hx⟩ : ∃ x, x = zs.getD j 0 := ⟨_, rfl⟩
      have hc0 := (hc j hlt).1
      rw [← hx] at hc0
      have hbl : b < w.heap.size := World.block_lt_of_cell? _ _ hc0
      have e0 : wr.cell? ⟨b, off + j, none⟩ = some (.int .i64 x) := cell_low HB.out (by have := HLO.out; omega) hc0
      have HBL : Hid (b ≠ lo ∧ b ≠ rb) := by have h1 := HE.out.low; have h2 := HLO.out; unfold Hid; omega
      clear hc hc0 hx hbl
      clear hlt
      rcases Nat.lt_trichotomy j k with hjk | hjk | hjk
      · have hk1 : (j : Int) < (k : Int) := by omega
        have hk2 : ((j : Int) == (k : Int)) = false := by rw [beq_eq_false_iff_ne]; omega
        have hk3 : ¬ (k : Int) ≤ (j : Int) := by omega
        have HL0 : Hid (L = []) := HJK.out (by omega)
        rw [decide_eq_true (show j ≤ k by omega), HL0.out] at HE
        have HD : Hid (decide (j + 1 ≤ k) = true) := by unfold Hid; rw [decide_eq_true_iff]; omega
        clear hjk
        go_wp2_with fail
        refine (wait_any lo _ _ _ _ x _ HE.out (by simp)).mono ?_
        rintro e w5 ⟨rfl, rb5, q5, n5⟩
        have E5 : Hid (EV lo w5 lo rb5 true []) := q5
        have O5 := Lib.hid (HO.out.nx n5)
        have B5 : Hid (Below lo w w5) := HB.out.trans (n5.below HE.out)
        clear q5 n5
        go_wp2_with fail
        go_roundw
        case rel =>
          have Q : DR lo k n w (.slice Aq nq cq) (.int .i64 ((j : Int) + 1)) w5 := ⟨⟨j + 1, rb5, qb, _, L, HX.out, by go_num, rfl, by rw [HD.out, HL0.out]; exact E5.out, O5.out, fun _ => HL0.out, by have := HJ.out; omega, B5.out⟩⟩
          first | exact Q | ((repeat apply Exists.intro); exact ⟨Q, rfl⟩)
        case measure => have := HX.out; have := HN.out; simp [intOf]; omega
      · have hk1 : ¬ (j : Int) < (k : Int) := by omega
        have hk2 : ((j : Int) == (k : Int)) = true := by rw [beq_iff_eq]; omega
        have hk2' : decide (j = k) = true := by rw [decide_eq_true_iff]; exact hjk
        have hk3 : (k : Int) ≤ (j : Int) := by omega
        have hk4 : k ≤ j := by omega
        have hk5 : ¬ j < k := by omega
        have HKJ : Hid (k ≤ j) := hk4
        rw [decide_eq_true (show j ≤ k by omega)] at HE
        clear hjk
        go_wp2_with fail
        refine (reset_any lo _ _ _ _ _ HE.out).mono ?_
        rintro e w4 ⟨rfl, q4, n4⟩
        have E4 := Lib.hid q4
        have O4 := Lib.hid (HO.out.nx n4)
        have B4 : Hid (Below lo w w4) := HB.out.trans (n4.below HE.out)
        have e4 : w4.cell? ⟨b, off + j, none⟩ = some (.int .i64 x) := n4.ch.cell (by have := HBL.out; show b ≠ lo; omega) (by have := HBL.out; show b ≠ rb; omega) e0
        clear q4 n4 e0
        go_wp2_with fail
        refine (wait_any lo _ _ _ _ x _ E4.out (by have := HJ.out; omega)).mono ?_
        rintro e w5 ⟨rfl, rb5, q5, n5⟩
        have E5 := Lib.hid q5
        have O5 := Lib.hid (O4.out.nx n5)
        have B5 : Hid (Below lo w w5) := B4.out.trans (n5.below E4.out)
        have e5 : w5.cell? ⟨b, off + j, none⟩ = some (.int .i64 x) := n5.ch.cell (by have := HBL.out; show b ≠ lo; omega) (by have := HBL.out; show b ≠ rb; omega) e4
        have CH := Lib.hid (has_any (.slice Aq nq cq) qb L x w5 O5.out.1 (by have := HJ.out; omega))
        have HD : Hid (decide (j + 1 ≤ k) = false) := by have := HKJ.out; unfold Hid; rw [decide_eq_false_iff_not]; omega
        clear q5 n5 e4
        by_cases hm : x ∈ L
        · have HW : Hid (waitI false L x = L) := by unfold Hid waitI; rw [if_neg (by simp), if_pos hm]
          rw [decide_eq_true hm] at CH
          clear hm
          go_wp2_with fail
          refine CH.out.mono ?_
          rintro e w6 ⟨rfl, hw⟩
          have hw := hw.symm
          subst hw
          go_wp2_with fail
          go_roundw
          case rel =>
            have Q : DR lo k n w (.slice Aq nq cq) (.int .i64 ((j : Int) + 1)) w5 := ⟨⟨j + 1, rb5, qb, _, L, HX.out, by go_num, rfl, by rw [HD.out]; have := E5.out; rw [HW.out] at this; exact this, O5.out, fun h => absurd h (by have := HKJ.out; omega), by have := HJ.out; omega, B5.out⟩⟩
            first | exact Q | ((repeat apply Exists.intro); exact ⟨Q, rfl⟩)
          case measure => have := HX.out; have := HN.out; simp [intOf]; omega
        · have HW : Hid (waitI false L x = L ++ [x]) := by unfold Hid waitI; rw [if_neg (by simp), if_neg hm]
          rw [decide_eq_false hm] at CH
          rw [HW.out] at E5
          clear hm
          have e6 : (w5.alloc (.cells #[.int .i64 x] 3)).cell? ⟨b, off + j, none⟩ = some (.int .i64 x) := cell_al _ e5
          go_wp2_with fail
          refine CH.out.mono ?_
          rintro e w6 ⟨rfl, hw⟩
          have hw := hw.symm
          subst hw
          have HO1 : Hid ((w5.alloc (.cells #[.int .i64 x] 3)).ownsRow 0 3 1 (.slice Aq nq cq) nq (C L)) := by
            have := own_below O5.out.1.own ((Below.refl _ _).alloc (Nat.le_refl _) (.cells #[.int .i64 x] 3))
            rw [HLN.out] at this
            exact this
          have RD := Lib.hid (one_row (w := w5) (.int .i64 x) 3)
          go_wp2_with (at_builtin; refine wpList_append_any _ rfl _ _ 26 rfl 0 3 i0 (.int .i64 0) 1 8 Try.underlying26 hi hz0 hz1 hz2 rfl (by decide) _ _ _ rfl HO1.out (w5.heap.size + 1) (some ⟨w5.heap.size, 0, none⟩) 1 1 [.int .i64 x] rfl RD.out ?c2 ?c3 ?c4 ?c5 ?_)
          case c2 => intro u hu; simp at hu; subst hu; rfl
          case c3 => have := HLN.out; have := HJ.out; unfold maxLen; omega
          case c4 => have := HLN.out; have := HJ.out; omega
          case c5 => exact Nat.zero_le _
          intro v2 w2 hown hgrow hblk
          obtain ⟨A2, c2, rfl⟩ := slice_form hown
          have G := O5.out.grow E5.out (x := x) (by rw [HLN.out]; exact hown) hgrow hblk
          obtain ⟨qb2, g1, g2, g3⟩ := G
          have G1 := Lib.hid g1
          have G2 := Lib.hid g2
          have G3 : Hid (Below lo w w2) := B5.out.trans g3
          clear g1 g2 g3 hown hgrow hblk
          go_wp2_with fail
          go_roundw
          case rel =>
            have Q : DR lo k n w (.slice A2 (nq + 1) c2) (.int .i64 ((j : Int) + 1)) w2 := ⟨⟨j + 1, rb5, qb2, _, L ++ [x], HX.out, by go_num, rfl, by rw [HD.out]; exact G2.out, G1.out, fun h => absurd h (by have := HKJ.out; omega), by have := HJ.out; simp; omega, G3.out⟩⟩
            first | exact Q | ((repeat apply Exists.intro); exact ⟨Q, rfl⟩)
          case measure => have := HX.out; have := HN.out; simp [intOf]; omega
      · have hk1 : ¬ (j : Int) < (k : Int) := by omega
        have hk2 : ((j : Int) == (k : Int)) = false := by rw [beq_eq_false_iff_ne]; omega
        have hk2' : decide (j = k) = false := by rw [decide_eq_false_iff_not]; omega
        have hk3 : (k : Int) ≤ (j : Int) := by omega
        have hk4 : k ≤ j := by omega
        have hk5 : ¬ j < k := by omega
        have HKJ : Hid (k ≤ j) := hk4
        rw [decide_eq_false (show ¬ j ≤ k by omega)] at HE
        have e4 := e0
        clear hjk e0
        go_wp2_with fail
        refine (wait_any lo _ _ _ _ x _ HE.out (by have := HJ.out; omega)).mono ?_
        rintro e w5 ⟨rfl, rb5, q5, n5⟩
        have E5 := Lib.hid q5
        have O5 := Lib.hid (HO.out.nx n5)
        have B5 : Hid (Below lo w w5) := HB.out.trans (n5.below HE.out)
        have e5 : w5.cell? ⟨b, off + j, none⟩ = some (.int .i64 x) := n5.ch.cell (by have := HBL.out; show b ≠ lo; omega) (by have := HBL.out; show b ≠ rb; omega) e4
        have CH := Lib.hid (has_any (.slice Aq nq cq) qb L x w5 O5.out.1 (by have := HJ.out; omega))
        have HD : Hid (decide (j + 1 ≤ k) = false) := by have := HKJ.out; unfold Hid; rw [decide_eq_false_iff_not]; omega
        clear q5 n5 e4
        by_cases hm : x ∈ L
        · have HW : Hid (waitI false L x = L) := by unfold Hid waitI; rw [if_neg (by simp), if_pos hm]
          rw [decide_eq_true hm] at CH
          clear hm
          go_wp2_with fail
          refine CH.out.mono ?_
          rintro e w6 ⟨rfl, hw⟩
          have hw := hw.symm
          subst hw
          go_wp2_with fail
          go_roundw
          case rel =>
            have Q : DR lo k n w (.slice Aq nq cq) (.int .i64 ((j : Int) + 1)) w5 := ⟨⟨j + 1, rb5, qb, _, L, HX.out, by go_num, rfl, by rw [HD.out]; have := E5.out; rw [HW.out] at this; exact this, O5.out, fun h => absurd h (by have := HKJ.out; omega), by have := HJ.out; omega, B5.out⟩⟩
            first | exact Q | ((repeat apply Exists.intro); exact ⟨Q, rfl⟩)
          case measure => have := HX.out; have := HN.out; simp [intOf]; omega
        · have HW : Hid (waitI false L x = L ++ [x]) := by unfold Hid waitI; rw [if_neg (by simp), if_neg hm]
          rw [decide_eq_false hm] at CH
          rw [HW.out] at E5
          clear hm
          have e6 : (w5.alloc (.cells #[.int .i64 x] 3)).cell? ⟨b, off + j, none⟩ = some (.int .i64 x) := cell_al _ e5
          go_wp2_with fail
          refine CH.out.mono ?_
          rintro e w6 ⟨rfl, hw⟩
          have hw := hw.symm
          subst hw
          have HO1 : Hid ((w5.alloc (.cells #[.int .i64 x] 3)).ownsRow 0 3 1 (.slice Aq nq cq) nq (C L)) := by
            have := own_below O5.out.1.own ((Below.refl _ _).alloc (Nat.le_refl _) (.cells #[.int .i64 x] 3))
            rw [HLN.out] at this
            exact this
          have RD := Lib.hid (one_row (w := w5) (.int .i64 x) 3)
          go_wp2_with (at_builtin; refine wpList_append_any _ rfl _ _ 26 rfl 0 3 i0 (.int .i64 0) 1 8 Try.underlying26 hi hz0 hz1 hz2 rfl (by decide) _ _ _ rfl HO1.out (w5.heap.size + 1) (some ⟨w5.heap.size, 0, none⟩) 1 1 [.int .i64 x] rfl RD.out ?c2 ?c3 ?c4 ?c5 ?_)
          case c2 => intro u hu; simp at hu; subst hu; rfl
          case c3 => have := HLN.out; have := HJ.out; unfold maxLen; omega
          case c4 => have := HLN.out; have := HJ.out; omega
          case c5 => exact Nat.zero_le _
          intro v2 w2 hown hgrow hblk
          obtain ⟨A2, c2, rfl⟩ := slice_form hown
          have G := O5.out.grow E5.out (x := x) (by rw [HLN.out]; exact hown) hgrow hblk
          obtain ⟨qb2, g1, g2, g3⟩ := G
          have G1 := Lib.hid g1
          have G2 := Lib.hid g2
          have G3 : Hid (Below lo w w2) := B5.out.trans g3
          clear g1 g2 g3 hown hgrow hblk
          go_wp2_with fail
          go_roundw
          case rel =>
            have Q : DR lo k n w (.slice A2 (nq + 1) c2) (.int .i64 ((j : Int) + 1)) w2 := ⟨⟨j + 1, rb5, qb2, _, L ++ [x], HX.out, by go_num, rfl, by rw [HD.out]; exact G2.out, G1.out, fun h => absurd h (by have := HKJ.out; omega), by have := HJ.out; simp; omega, G3.out⟩⟩
            first | exact Q | ((repeat apply Exists.intro); exact ⟨Q, rfl⟩)
          case measure => have := HX.out; have := HN.out; simp [intOf]; omega
    · have hjI : ¬ (j : Int) < (n : Int) := by omega
      clear hlt
      go_wp2_with fail
      refine (waiting_any lo _ _ _ _ _ HE.out (by have := HJ.out; omega)).mono ?_
      rintro e w4 ⟨A4, n4, c4, r4, rfl, o4, _, b4⟩
      have R4 := Lib.hid o4
      have O4 := Lib.hid (HO.out.below b4)
      have B4 : Hid (Below lo w w4) := HB.out.trans (b4.mono (by have := HE.out.lt; have := HE.out.low; omega))
      clear o4 b4
      go_wp2_with fail
      refine (rsame_any _ _ r4 qb L L w4 R4.out O4.out.1 (by have := HJ.out; omega) (by have := HJ.out; omega)).mono ?_
      rintro e w5 ⟨he5, b5⟩
      rw [decide_eq_true rfl] at he5
      subst he5
      have B5 : Hid (Below lo w w5) := B4.out.trans (b5.mono (by have := B4.out.size; have := HLO.out; omega))
      clear b5
      go_wp2_with fail
      go_ret
      exact ⟨rfl, B5.out⟩
end Go.Proofs.Ytehlgfflbbfjkaa.E
