/-
  BoardLast's walk. Each statement bears its own conditions.
-/
import Derived.Test.YtfmcmhgpgkeplaaBdO
namespace Go.Proofs.Ytfmcmhgpgkeplaa.B
open Go.RowKit Go.Proofs.Ytfmcmhgpgkeplaa.F Go.Proofs.Ytfmcmhgpgkeplaa.I
set_option linter.unusedVariables false
set_option linter.unusedSimpArgs false
structure LR (lo g len : Nat) (N : Int) (w : World) (lv av iv : Value) (wr : World) : Prop where
  ex : ∃ (j : Nat) (q : Nat → Prop) (sh : Bool) (M : List Int) (v : Value), j ≤ len ∧ iv = .int .i64 (j : Int) ∧ lv = v ∧ av = .bool sh ∧ BV lo wr q g N sh M [] ∧ Sq wr (fun b => b < lo) v M.length (CU M) ∧ Below lo w wr
set_option maxRecDepth 100000 in
set_option maxHeartbeats 8000000 in
theorem last_walk (a0 : Int) (a : Option Addr) (len cap : Nat) (m1 : List (List Int)) (w : World) (h0 : (Lit.int .u8 a0).wf = true) (h1 : Row w 1 (RL w) (.slice a len cap) m1) : Calls Try.prog 7 #[.int .u8 a0, .slice a len cap] w fun e w' => e = .returned (.bool true) ∧ Below w.heap.size w w' := by
  have HR := Lib.hid h1
  have HU := Lib.hid (u8_wf h0)
  clear h0 h1
  by_cases h40 : len ≤ 40
  rotate_left
  · have hq : (40 : Int) < (len : Int) := by omega
    have hqb : decide ((40 : Int) < (len : Int)) = true := by simpa using hq
    have SP := Lib.hid (speaks_any w)
    clear h40
    go_enter Try.func7, Try.ntmps7
    go_wp2_with fail
    refine SP.out.mono ?_
    rintro e w1 ⟨rfl, b1⟩
    have B1 := Lib.hid b1
    clear b1
    go_wp2_with fail
    refine (speaks_any w1).mono ?_
    rintro e w2 ⟨rfl, b2⟩
    have B2 : Hid (Below w.heap.size w w2) := B1.out.trans (b2.mono B1.out.size)
    clear b2
    go_wp2_with fail
    go_ret
    exact ⟨rfl, B2.out⟩

  have H40 : Hid (len ≤ 40) := h40
  have hq : ¬ (40 : Int) < (len : Int) := by omega
  have hqb : decide ((40 : Int) < (len : Int)) = false := by simpa using hq
  obtain ⟨k, hk0, hk32⟩ : ∃ k : Nat, a0.tmod 32 = (k : Int) ∧ k < 32 := by
    have hu := HU.out
    refine ⟨(a0.tmod 32).toNat, ?_, ?_⟩
    · have := Int.tmod_nonneg 32 hu.1
      omega
    · have := Int.tmod_lt_of_pos a0 (show (0 : Int) < 32 by omega)
      have := Int.tmod_nonneg 32 hu.1
      omega
  have hkw : (wrap64 a0).tmod 32 = (k : Int) := by rw [IntWalk.wrap64_in _ (by have := HU.out; omega)]; exact hk0
  have hk1 : (k : Int) < 32 := by omega
  have HK : Hid (k < 32) := hk32
  clear h40 hk0 hk32
  have he := he_bd
  obtain ⟨lo, hlo⟩ : ∃ lo, w.heap.size = lo := ⟨_, rfl⟩
  have SP := Lib.hid (speaks_any w)
  have HLO : Hid (lo ≤ w.heap.size ∧ w.heap.size ≤ lo) := by unfold Hid; omega
  rw [hlo] at SP ⊢
  clear hlo
  go_enter Try.func7, Try.ntmps7
  go_wp2_with fail
  refine SP.out.mono ?_
  rintro e w1 ⟨rfl, b1⟩
  have B1 := Lib.hid b1
  clear b1 SP
  go_wp2_with fail
  refine (new_any (1 + (k : Int)) w1 (by omega) (by omega)).mono ?_
  rintro e w2 ⟨rfl, q2, b2⟩
  obtain ⟨g, hg⟩ : ∃ g, w1.heap.size = g := ⟨_, rfl⟩
  have HG : Hid (lo ≤ g) := by unfold Hid; have := B1.out.size; have := HLO.out; omega
  rw [hg] at q2 b2
  have Q2 := Lib.hid (q2.less HG.out)
  have B2 : Hid (Below lo w w2) := B1.out.trans (b2.mono HG.out)
  simp only [hg]
  clear q2 b2 B1 hg
  go_wp2_with fail
  go_loopw [8, 9, 45] (fun lv av iv wr => LR lo g len (1 + (k : Int)) w lv av iv wr) (fun _ _ i _ => 41 - (intOf i).toNat)
  case atStart => exact ⟨⟨0, _, false, [], .slice none 0 0, Nat.zero_le _, rfl, rfl, rfl, Q2.out, Sq.nil _ _, B2.out⟩⟩
  case round =>
    obtain ⟨⟨j, q, sh, M, v, hj, rfl, rfl, rfl, hev, hsq, hb⟩⟩ := hrel
    have HB := Lib.hid hb
    have HE := Lib.hid hev
    have HS := Lib.hid hsq
    obtain ⟨Av, cv, hv⟩ := hsq.form
    subst hv
    clear hb hev hsq
    by_cases hlt : j < len
    · have hjI : (j : Int) < (len : Int) := by omega
      have hj40 : (j : Int) < 40 := by have := H40.out; omega
      have HX : Hid (j < len) := hlt
      obtain ⟨hlen, b, off, K, cs, hax, hbl, _, hRL, _, hc⟩ := HR.out.at_ j hlt
      clear hlen
      subst hax
      obtain ⟨v', rfl, hK⟩ := hRL
      have hc0 := hc 0 v' rfl
      rw [Nat.mul_one, Nat.add_zero] at hc0
      have e0 : wr.cell? ⟨b, off + j, none⟩ = some v' := cell_low HB.out (by have := HLO.out; omega) hc0
      have HKS : Hid (Sq wr (fun b => b < lo) v' K.length (CU K)) := sq_low (hK.imp fun b _ hb => by have := HLO.out; omega) HB.out
      obtain ⟨Ak, ck, rfl⟩ := hK.form
      obtain ⟨nk, hnk⟩ : ∃ nk, K.length = nk := ⟨_, rfl⟩
      have HNK : Hid (K.length = nk) := hnk
      rw [hnk] at e0 HKS
      clear hc hc0 hbl hlt hj hK hnk
      by_cases h60 : nk ≤ 60
      rotate_left
      · have hq6 : (60 : Int) < (nk : Int) := by omega
        have hqb6 : decide ((60 : Int) < (nk : Int)) = true := by simpa using hq6
        clear h60
        go_wp2_with fail
        go_ret
        exact ⟨rfl, HB.out⟩
      have hq6 : ¬ (60 : Int) < (nk : Int) := by omega
      have hqb6 : decide ((60 : Int) < (nk : Int)) = false := by simpa using hq6
      have hKS : Sq wr (fun b => b < lo) (.slice Ak nk ck) K.length (CU K) := by rw [HNK.out]; exact HKS.out
      clear h60
      by_cases hf : (nk : Int) ≤ 1 + (k : Int)
      · have hfb : decide ((nk : Int) ≤ 1 + (k : Int)) = true := by simpa using hf
        have SH := Lib.hid (show_any lo q g (1 + (k : Int)) sh M [] _ _ K wr HE.out hKS (by rw [HNK.out]; exact hf))
        clear hKS
        go_wp2_with fail
        refine SH.out.mono ?_
        rintro e w4 ⟨r, q4, rfl, o4, q4', n4⟩
        obtain ⟨A4, c4, rfl⟩ := o4.sl
        have Q4 : Hid (BV lo w4 q4 g (1 + (k : Int)) true K []) := q4'
        have B4 : Hid (Below lo w w4) := HB.out.trans (HE.out.nx n4)
        have S4 : Hid (Sq w4 (fun b => b < lo) (.slice Ak nk ck) K.length (CU K)) := by rw [HNK.out]; exact sq_low HKS.out (HE.out.nx n4)
        clear o4 q4' n4 SH
        go_wp2_with fail
        refine (shown_any lo q4 g (1 + (k : Int)) true K [] w4 Q4.out).mono ?_
        rintro e w5 ⟨r, rfl, r5, b5⟩
        obtain ⟨A5, c5, rfl⟩ := slice_form r5
        have Q5 := Lib.hid (Q4.out.below b5)
        have S5 := Lib.hid (sq_low S4.out (b5.mono Q4.out.nil))
        have B5 : Hid (Below lo w w5) := B4.out.trans (b5.mono Q4.out.nil)
        have EQ := Lib.hid (uequal_same _ _ _ _ K w5 (Ow.of_own r5).sq.st S5.out.st (by have := Q4.out.nl; omega))
        clear r5 b5
        go_wp2_with fail
        refine EQ.out.mono ?_
        rintro e w6 ⟨rfl, b6⟩
        have Q6 := Lib.hid (Q5.out.below b6)
        have S6 := Lib.hid (sq_low S5.out (b6.mono Q5.out.nil))
        have B6 : Hid (Below lo w w6) := B5.out.trans (b6.mono Q5.out.nil)
        clear b6 EQ Q5 S5 B5
        go_wp2_with fail
        refine (read_any lo q4 g (1 + (k : Int)) true K [] (j : Int) w6 Q6.out (by simp)).mono ?_
        rintro e w7 ⟨r, q7, rfl, o7, q7', n7⟩
        obtain ⟨A7, c7, rfl⟩ := o7.sl
        have Q7 : Hid (BV lo w7 q7 g (1 + (k : Int)) true K []) := q7'
        have O7 := Lib.hid o7
        have B7 : Hid (Below lo w w7) := B6.out.trans (Q6.out.nx n7)
        have S7 := Lib.hid (sq_low S6.out (Q6.out.nx n7))
        have EQ := Lib.hid (uequal_same _ _ _ _ K w7 O7.out.sq.st S7.out.st (by have := Q7.out.nl; omega))
        clear o7 q7' n7 Q6 S6 B6
        go_wp2_with fail
        refine EQ.out.mono ?_
        rintro e w8 ⟨rfl, b8⟩
        have Q8 := Lib.hid (Q7.out.below b8)
        have S8 := Lib.hid (sq_low S7.out (b8.mono Q7.out.nil))
        have B8 : Hid (Below lo w w8) := B7.out.trans (b8.mono Q7.out.nil)
        clear b8 EQ Q7 S7 B7 O7
        go_wp2_with fail
        go_roundw
        case rel =>
          have Q : LR lo g len (1 + (k : Int)) w (.slice Ak nk ck) (.bool true) (.int .i64 ((j : Int) + 1)) w8 := ⟨⟨j + 1, q7, true, K, _, HX.out, by go_num, rfl, rfl, Q8.out, S8.out, B8.out⟩⟩
          first | exact Q | ((repeat apply Exists.intro); exact ⟨Q, rfl⟩)
        case measure => have := HX.out; have := H40.out; simp [intOf]; omega
      · have hfb : decide ((nk : Int) ≤ 1 + (k : Int)) = false := by simpa using hf
        have SH := Lib.hid (show_big lo q g (1 + (k : Int)) sh M [] _ _ K wr HE.out hKS (by rw [HNK.out]; exact hf))
        clear hKS
        go_wp2_with fail
        refine SH.out.mono ?_
        rintro e w4 ⟨rfl, hw⟩
        have hw := hw.symm
        subst hw
        clear SH
        cases sh with
        | true =>
          go_wp2_with fail
          refine (shown_any lo q g (1 + (k : Int)) true M [] wr HE.out).mono ?_
          rintro e w5 ⟨r, rfl, r5, b5⟩
          obtain ⟨A5, c5, rfl⟩ := slice_form r5
          have Q5 := Lib.hid (HE.out.below b5)
          have S5 := Lib.hid (sq_low HS.out (b5.mono HE.out.nil))
          have B5 : Hid (Below lo w w5) := HB.out.trans (b5.mono HE.out.nil)
          have EQ := Lib.hid (uequal_same _ _ _ _ M w5 (Ow.of_own r5).sq.st S5.out.st (by have := HE.out.nl; omega))
          clear r5 b5
          go_wp2_with fail
          refine EQ.out.mono ?_
          rintro e w6 ⟨rfl, b6⟩
          have Q6 := Lib.hid (Q5.out.below b6)
          have S6 := Lib.hid (sq_low S5.out (b6.mono Q5.out.nil))
          have B6 : Hid (Below lo w w6) := B5.out.trans (b6.mono Q5.out.nil)
          clear b6 EQ Q5 S5 B5
          go_wp2_with fail
          refine (read_any lo q g (1 + (k : Int)) true M [] (j : Int) w6 Q6.out (by simp)).mono ?_
          rintro e w7 ⟨r, q7, rfl, o7, q7', n7⟩
          obtain ⟨A7, c7, rfl⟩ := o7.sl
          have Q7 : Hid (BV lo w7 q7 g (1 + (k : Int)) true M []) := q7'
          have O7 := Lib.hid o7
          have B7 : Hid (Below lo w w7) := B6.out.trans (Q6.out.nx n7)
          have S7 := Lib.hid (sq_low S6.out (Q6.out.nx n7))
          have EQ := Lib.hid (uequal_same _ _ _ _ M w7 O7.out.sq.st S7.out.st (by have := Q7.out.nl; omega))
          clear o7 q7' n7 Q6 S6 B6
          go_wp2_with fail
          refine EQ.out.mono ?_
          rintro e w8 ⟨rfl, b8⟩
          have Q8 := Lib.hid (Q7.out.below b8)
          have S8 := Lib.hid (sq_low S7.out (b8.mono Q7.out.nil))
          have B8 : Hid (Below lo w w8) := B7.out.trans (b8.mono Q7.out.nil)
          clear b8 EQ Q7 S7 B7 O7
          go_wp2_with fail
          go_roundw
          case rel =>
            have Q : LR lo g len (1 + (k : Int)) w (.slice Av M.length cv) (.bool true) (.int .i64 ((j : Int) + 1)) w8 := ⟨⟨j + 1, q7, true, M, _, HX.out, by go_num, rfl, rfl, Q8.out, S8.out, B8.out⟩⟩
            first | exact Q | ((repeat apply Exists.intro); exact ⟨Q, rfl⟩)
          case measure => have := HX.out; have := H40.out; simp [intOf]; omega
        | false =>
          go_wp2_with fail
          refine (shown_any lo q g (1 + (k : Int)) false M [] wr HE.out).mono ?_
          rintro e w5 ⟨r, rfl, r5, b5⟩
          obtain ⟨A5, c5, rfl⟩ := slice_form r5
          have Q5 := Lib.hid (HE.out.below b5)
          have S5 := Lib.hid (sq_low HS.out (b5.mono HE.out.nil))
          have B5 : Hid (Below lo w w5) := HB.out.trans (b5.mono HE.out.nil)
          have EQ := Lib.hid (uequal_same _ _ _ _ M w5 (Ow.of_own r5).sq.st S5.out.st (by have := HE.out.nl; omega))
          clear r5 b5
          go_wp2_with fail
          refine EQ.out.mono ?_
          rintro e w6 ⟨rfl, b6⟩
          have Q6 := Lib.hid (Q5.out.below b6)
          have S6 := Lib.hid (sq_low S5.out (b6.mono Q5.out.nil))
          have B6 : Hid (Below lo w w6) := B5.out.trans (b6.mono Q5.out.nil)
          clear b6 EQ Q5 S5 B5
          go_wp2_with fail
          go_roundw
          case rel =>
            have Q : LR lo g len (1 + (k : Int)) w (.slice Av M.length cv) (.bool false) (.int .i64 ((j : Int) + 1)) w6 := ⟨⟨j + 1, q, false, M, _, HX.out, by go_num, rfl, rfl, Q6.out, S6.out, B6.out⟩⟩
            first | exact Q | ((repeat apply Exists.intro); exact ⟨Q, rfl⟩)
          case measure => have := HX.out; have := H40.out; simp [intOf]; omega
    · have hjI : ¬ (j : Int) < (len : Int) := by omega
      clear hlt
      go_wp2_with fail
      refine (clear_any lo q g (1 + (k : Int)) sh M [] wr HE.out).mono ?_
      rintro e w4 ⟨rfl, q4, n4⟩
      have Q4 := Lib.hid q4
      have B4 : Hid (Below lo w w4) := HB.out.trans (HE.out.nx n4)
      clear q4 n4
      go_wp2_with fail
      refine (shown_any lo q g (1 + (k : Int)) false [] [] w4 Q4.out).mono ?_
      rintro e w5 ⟨r, rfl, r5, b5⟩
      obtain ⟨A5, c5, rfl⟩ := slice_form r5
      have Q5 := Lib.hid (Q4.out.below b5)
      have B5 : Hid (Below lo w w5) := B4.out.trans (b5.mono Q4.out.nil)
      clear r5 b5 Q4 B4
      go_wp2_with fail
      refine (waiting_any lo q g (1 + (k : Int)) false [] [] w5 Q5.out (by simp)).mono ?_
      rintro e w6 ⟨r, rfl, r6, b6⟩
      obtain ⟨A6, c6, rfl⟩ := slice_form r6
      have B6 : Hid (Below lo w w6) := B5.out.trans (b6.mono Q5.out.nil)
      clear r6 b6
      go_wp2_with fail
      go_ret
      exact ⟨rfl, B6.out⟩
end Go.Proofs.Ytfmcmhgpgkeplaa.B
