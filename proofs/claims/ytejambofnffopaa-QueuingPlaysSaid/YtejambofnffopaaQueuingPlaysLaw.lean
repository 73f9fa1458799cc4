/-
  QueuingPlays's walk. Each statement bears its own conditions.
-/
import Derived.Test.YtejambofnffopaaQuN
namespace Go.Proofs.Ytejambofnffopaa.Q
open Go.RowKit Go.Proofs.Ytejambofnffopaa.F Go.Proofs.Ytejambofnffopaa.U
set_option linter.unusedVariables false
set_option linter.unusedSimpArgs false
set_option maxRecDepth 100000 in
set_option maxHeartbeats 64000000 in
theorem plays_walk (n k : Int) (a : Option Addr) (len cap : Nat) (m2 : List AC) (w : World) (h0 : Row w 3 (RA w) (.slice a len cap) m2) : Calls Try.prog 3 #[.int .i64 n, .int .i64 k, .slice a len cap] w fun e w' => e = .returned (.bool true) ∧ Below w.heap.size w w' := by
  have HR := Lib.hid h0
  have he := he_qu
  obtain ⟨lo, hlo⟩ : ∃ lo, w.heap.size = lo := ⟨_, rfl⟩
  have HLO := Lib.hid hlo
  by_cases hin : 1 ≤ n ∧ n ≤ 32 ∧ 1 ≤ k ∧ k ≤ 32
  rotate_left
  · have RB := Lib.hid (rnew_bad n k w hin)
    have NB := Lib.hid (new_bad n k w hin)
    rw [hlo] at RB ⊢
    clear h0 hin hlo
    go_enter Try.func3, Try.ntmps3
    go_wp2_with fail
    refine NB.out.mono ?_
    rintro e wz ⟨rfl, hw⟩
    have hw := hw.symm
    subst hw
    go_wp2_with fail
    refine RB.out.mono ?_
    rintro e w2 ⟨rfl, b2⟩
    have B2 := Lib.hid b2
    have S2 : Hid (lo ≤ w2.heap.size) := by have := b2.size; rw [HLO.out] at this; exact this
    clear b2
    obtain ⟨Rb, h_Rb⟩ : ∃ b, w2.heap.size = b := ⟨_, rfl⟩
    obtain ⟨w4z, h_w4z⟩ : ∃ W, w2.alloc (.cells #[.int .i64 0, .int .i64 0, .slice none 0 0, .bool false] 29) = W := ⟨_, rfl⟩
    have H_w4z : Hid (w4z.heap[Rb]? = some (.cells #[.int .i64 0, .int .i64 0, .slice none 0 0, .bool false] 29 (0, 0))) := by rw [← h_w4z, ← h_Rb]; exact heap_alloc_new _ _
    have b_w4z : Below Rb w2 w4z := by rw [← h_w4z, ← h_Rb]; exact (Below.refl _ _).alloc (Nat.le_refl _) _
    obtain ⟨w4, h_w4⟩ : ∃ W, ((((w4z.setCell ⟨Rb, 0, none⟩ (.int .i64 0)).setCell ⟨Rb, 1, none⟩ (.int .i64 0)).setCell ⟨Rb, 2, none⟩ (.slice none 0 0)).setCell ⟨Rb, 3, none⟩ (.bool false)) = W := ⟨_, rfl⟩
    have H_w4 : Hid (w4.heap[Rb]? = some (.cells #[.int .i64 0, .int .i64 0, .slice none 0 0, .bool false] 29 (0, 0))) := by rw [← h_w4]; exact (set_at (set_at (set_at (set_at H_w4z.out 0 _) 1 _) 2 _) 3 _)
    have b_w4 : Below Rb w2 w4 := by rw [← h_w4]; exact ((((b_w4z.setCell (Nat.le_refl _) _).setCell (Nat.le_refl _) _).setCell (Nat.le_refl _) _).setCell (Nat.le_refl _) _)
    have z0 : w4z.cell? ⟨Rb, 0, none⟩ = some (.int .i64 0) := by rw [(row_cell H_w4z.out 0).1]; rfl
    have zf0 : w4z.frozen? ⟨Rb, 0, none⟩ = false := (row_cell H_w4z.out 0).2
    have z1 : w4z.cell? ⟨Rb, 1, none⟩ = some (.int .i64 0) := by rw [(row_cell H_w4z.out 1).1]; rfl
    have zf1 : w4z.frozen? ⟨Rb, 1, none⟩ = false := (row_cell H_w4z.out 1).2
    have z2 : w4z.cell? ⟨Rb, 2, none⟩ = some (.slice none 0 0) := by rw [(row_cell H_w4z.out 2).1]; rfl
    have zf2 : w4z.frozen? ⟨Rb, 2, none⟩ = false := (row_cell H_w4z.out 2).2
    have z3 : w4z.cell? ⟨Rb, 3, none⟩ = some (.bool false) := by rw [(row_cell H_w4z.out 3).1]; rfl
    have zf3 : w4z.frozen? ⟨Rb, 3, none⟩ = false := (row_cell H_w4z.out 3).2
    have B4 : Hid (Below lo w w4) := B2.out.trans (b_w4.mono (by rw [← h_Rb]; exact S2.out))
    clear b_w4z b_w4
    go_wp2_with fail
    refine (known_any w4).mono ?_
    rintro e w5 ⟨rfl, b5⟩
    have B5 : Hid (Below lo w w5) := B4.out.trans (b5.mono (by have := B4.out.size; rw [HLO.out] at this; exact this))
    clear b5
    go_wp2_with fail
    go_ret
    exact ⟨rfl, B5.out⟩
  have NW := Lib.hid (new_any (fun _ => True) n k w hin.1 hin.2.1 hin.2.2.1 hin.2.2.2)
  have HIN := Lib.hid hin
  rw [hlo] at NW ⊢
  clear h0 hin hlo
  go_enter Try.func3, Try.ntmps3
  go_wp2_with fail
  refine NW.out.mono ?_
  rintro e w1 ⟨rfl, q1, b1⟩
  have Q1 := Lib.hid q1
  have B1 := Lib.hid b1
  clear q1 b1 NW
  go_wp2_with fail
  refine (rnew_ok n k w1 HIN.out.1 HIN.out.2.1 HIN.out.2.2.1 HIN.out.2.2.2).mono ?_
  rintro e w2 ⟨rfl, b2⟩
  have Q2 := Lib.hid (Q1.out.below b2)
  have B2 : Hid (Below lo w w2) := B1.out.trans (b2.mono Q1.out.nil)
  clear b2 Q1 B1
  obtain ⟨Rb, h_Rb⟩ : ∃ b, w2.heap.size = b := ⟨_, rfl⟩
  obtain ⟨w4z, h_w4z⟩ : ∃ W, w2.alloc (.cells #[.int .i64 0, .int .i64 0, .slice none 0 0, .bool false] 29) = W := ⟨_, rfl⟩
  have H_w4z : Hid (w4z.heap[Rb]? = some (.cells #[.int .i64 0, .int .i64 0, .slice none 0 0, .bool false] 29 (0, 0))) := by rw [← h_w4z, ← h_Rb]; exact heap_alloc_new _ _
  have b_w4z : Below Rb w2 w4z := by rw [← h_w4z, ← h_Rb]; exact (Below.refl _ _).alloc (Nat.le_refl _) _
  obtain ⟨w4, h_w4⟩ : ∃ W, ((((w4z.setCell ⟨Rb, 0, none⟩ (.int .i64 n)).setCell ⟨Rb, 1, none⟩ (.int .i64 k)).setCell ⟨Rb, 2, none⟩ (.slice none 0 0)).setCell ⟨Rb, 3, none⟩ (.bool false)) = W := ⟨_, rfl⟩
  have H_w4 : Hid (w4.heap[Rb]? = some (.cells #[.int .i64 n, .int .i64 k, .slice none 0 0, .bool false] 29 (0, 0))) := by rw [← h_w4]; exact (set_at (set_at (set_at (set_at H_w4z.out 0 _) 1 _) 2 _) 3 _)
  have b_w4 : Below Rb w2 w4 := by rw [← h_w4]; exact ((((b_w4z.setCell (Nat.le_refl _) _).setCell (Nat.le_refl _) _).setCell (Nat.le_refl _) _).setCell (Nat.le_refl _) _)
  have z0 : w4z.cell? ⟨Rb, 0, none⟩ = some (.int .i64 0) := by rw [(row_cell H_w4z.out 0).1]; rfl
  have zf0 : w4z.frozen? ⟨Rb, 0, none⟩ = false := (row_cell H_w4z.out 0).2
  have z1 : w4z.cell? ⟨Rb, 1, none⟩ = some (.int .i64 0) := by rw [(row_cell H_w4z.out 1).1]; rfl
  have zf1 : w4z.frozen? ⟨Rb, 1, none⟩ = false := (row_cell H_w4z.out 1).2
  have z2 : w4z.cell? ⟨Rb, 2, none⟩ = some (.slice none 0 0) := by rw [(row_cell H_w4z.out 2).1]; rfl
  have zf2 : w4z.frozen? ⟨Rb, 2, none⟩ = false := (row_cell H_w4z.out 2).2
  have z3 : w4z.cell? ⟨Rb, 3, none⟩ = some (.bool false) := by rw [(row_cell H_w4z.out 3).1]; rfl
  have zf3 : w4z.frozen? ⟨Rb, 3, none⟩ = false := (row_cell H_w4z.out 3).2
  have HP0 : Hid (PQ lo Rb w w4 (fun b => b = lo) lo n k [] false [] false none 0 0 []) := by
    have h1 := Q2.out.lt
    exact ⟨Q2.out.below (by rw [h_Rb]; exact b_w4), H_w4.out, Sq.nil _ _, Ms.nil _ _, fun e => by omega, by omega, Nat.le_refl _, B2.out.trans (b_w4.mono (by omega))⟩
  clear b_w4z b_w4 Q2 B2
  go_upto_block 0 with fail
  go_cut [7] (fun gv wx => PlC lo Rb w n k gv wx)
  case first =>
    go_wp2_with fail
    go_loopw [7, 11] (fun gv iv wr => PlR lo Rb len w n k gv iv wr) (fun _ i _ => 50 - (intOf i).toNat)
    case atStart => exact ⟨⟨0, _, _, [], false, none, 0, 0, [], Nat.zero_le _, by omega, rfl, rfl, HP0.out⟩⟩
    case round =>
      clear HP0 H_w4 H_w4z h_w4 h_w4z
      clear z0 zf0 z1 zf1 z2 zf2 z3 zf3
      obtain ⟨⟨i, p, g, LL, lost, Ar, nr, cr, S, hi, hi1, rfl, rfl, hpq⟩⟩ := hrel
      have HP := Lib.hid hpq
      clear hpq
      by_cases hlt : i < len
      rotate_left
      · have hjI : ¬ (i : Int) < (len : Int) := by omega
        have hjb : decide ((i : Int) < (len : Int)) = false := by simpa using hjI
        clear hlt hi hi1
        go_wp2_with fail
        go_meet
        case rel => exact ⟨⟨p, g, LL, lost, Ar, nr, cr, S, rfl, HP.out⟩⟩
      by_cases hcap : i < 50
      rotate_left
      · have hjI : (i : Int) < (len : Int) := by omega
        have hjb : decide ((i : Int) < (len : Int)) = true := by simpa using hjI
        have hcI : ¬ (i : Int) < 50 := by omega
        have hcb : decide ((i : Int) < 50) = false := by simpa using hcI
        clear hlt hi hi1 hcap
        go_wp2_with fail
        go_meet
        case rel => exact ⟨⟨p, g, LL, lost, Ar, nr, cr, S, rfl, HP.out⟩⟩
      have hjI : (i : Int) < (len : Int) := by omega
      have hjb : decide ((i : Int) < (len : Int)) = true := by simpa using hjI
      have hcI : (i : Int) < 50 := by omega
      have hcb : decide ((i : Int) < 50) = true := by simpa using hcI
      have HX : Hid (i < len ∧ i < 50) := ⟨hlt, hcap⟩
      obtain ⟨hlen, b, off, x, cs, hax, hbl, _, hRA, _, hc⟩ := HR.out.at_ i hlt
      clear hlen
      subst hax
      obtain ⟨kd, K, LC⟩ := x
      obtain ⟨v, v3, rfl, hK, hL⟩ := hRA
      dsimp only at hK hL hc
      have HBL : Hid (b < lo) := by rw [← HLO.out]; exact hbl
      have e0 : wr.cell? ⟨b, off + i * 3, none⟩ = some (.int .i64 kd) := by
        have := cell_low HP.out.be HBL.out (hc 0 _ rfl)
        simpa using this
      have e1 : wr.cell? ⟨b, off + i * 3 + 1, none⟩ = some v := cell_low HP.out.be HBL.out (hc 1 _ rfl)
      have e2 : wr.cell? ⟨b, off + i * 3 + 2, none⟩ = some v3 := cell_low HP.out.be HBL.out (hc 2 _ rfl)
      obtain ⟨AL, cl', hvl, _⟩ := hL.form
      obtain ⟨nl, hnl⟩ : ∃ nl, LC.length = nl := ⟨_, rfl⟩
      rw [hnl] at hvl
      subst hvl
      have CT := Lib.hid (cut_any w kd v K AL nl cl' LC wr hK hL (by rw [HLO.out]; exact HP.out.be))
      rw [HLO.out] at CT
      have hCL := cutL_len LC
      obtain ⟨KT, hKT⟩ : ∃ KT, K.take 40 = KT := ⟨_, rfl⟩
      obtain ⟨LT, hLT⟩ : ∃ LT, cutL LC = LT := ⟨_, rfl⟩
      have HKT : Hid (KT.length ≤ 40) := by rw [← hKT, List.length_take]; unfold Hid; omega
      rw [hKT, hLT] at CT
      rw [hLT] at hCL
      have HCL := Lib.hid hCL
      clear hc hbl hlt hi hi1 hcap hK hL hnl hKT hLT hCL
      go_wp2_with fail
      refine CT.out.mono ?_
      rintro e w2 ⟨Am, jm, cm, Av, j, cv, S2, rfl, s2, o2, m2', b2⟩
      have S2H := Lib.hid s2
      have O2H := Lib.hid o2
      have M2H := Lib.hid m2'
      have B2H := Lib.hid b2
      have HCUT : Hid (jm ≤ 1000 ∧ j ≤ 1000 ∧ ∀ L ∈ LT, L.length ≤ 1000) := by
        have h1 := s2.len
        have h2 := o2.sq.len
        rw [m2'.len2] at h2
        simp [CU] at h1
        have h3 := HKT.out
        have h4 := HCL.out
        exact ⟨by omega, by omega, fun L hL => by have := h4.2 L hL; omega⟩
      clear s2 o2 m2' b2 CT e0 e1 e2
      obtain ⟨Y, h_Y⟩ : ∃ b, w2.heap.size = b := ⟨_, rfl⟩
      obtain ⟨w4z, h_w4z⟩ : ∃ W, w2.alloc (.cells #[.int .i64 0, .slice none 0 0, .slice none 0 0] 35) = W := ⟨_, rfl⟩
      have H_w4z : Hid (w4z.heap[Y]? = some (.cells #[.int .i64 0, .slice none 0 0, .slice none 0 0] 35 (0, 0))) := by rw [← h_w4z, ← h_Y]; exact heap_alloc_new _ _
      have b_w4z : Below Y w2 w4z := by rw [← h_w4z, ← h_Y]; exact (Below.refl _ _).alloc (Nat.le_refl _) _
      obtain ⟨w4, h_w4⟩ : ∃ W, (((w4z.setCell ⟨Y, 0, none⟩ (.int .i64 kd)).setCell ⟨Y, 1, none⟩ (.slice Am jm cm)).setCell ⟨Y, 2, none⟩ (.slice Av j cv)) = W := ⟨_, rfl⟩
      have H_w4 : Hid (w4.heap[Y]? = some (.cells #[.int .i64 kd, .slice Am jm cm, .slice Av j cv] 35 (0, 0))) := by rw [← h_w4]; exact (set_at (set_at (set_at H_w4z.out 0 _) 1 _) 2 _)
      have b_w4 : Below Y w2 w4 := by rw [← h_w4]; exact (((b_w4z.setCell (Nat.le_refl _) _).setCell (Nat.le_refl _) _).setCell (Nat.le_refl _) _)
      have z0 : w4z.cell? ⟨Y, 0, none⟩ = some (.int .i64 0) := by rw [(row_cell H_w4z.out 0).1]; rfl
      have zf0 : w4z.frozen? ⟨Y, 0, none⟩ = false := (row_cell H_w4z.out 0).2
      have z1 : w4z.cell? ⟨Y, 1, none⟩ = some (.slice none 0 0) := by rw [(row_cell H_w4z.out 1).1]; rfl
      have zf1 : w4z.frozen? ⟨Y, 1, none⟩ = false := (row_cell H_w4z.out 1).2
      have z2 : w4z.cell? ⟨Y, 2, none⟩ = some (.slice none 0 0) := by rw [(row_cell H_w4z.out 2).1]; rfl
      have zf2 : w4z.frozen? ⟨Y, 2, none⟩ = false := (row_cell H_w4z.out 2).2
      have b4 : Below w2.heap.size w2 w4 := by rw [h_Y]; exact b_w4
      have bb4 : Below wr.heap.size wr w4 := B2H.out.trans (b4.mono B2H.out.size)
      have HP4 := Lib.hid (HP.out.below bb4)
      have hYw : wr.heap.size ≤ Y := by rw [← h_Y]; exact B2H.out.size
      have HA4 : Hid (AX lo Rb w4 p kd Y Am jm cm Av j cv S2 KT LT) := by
        refine ⟨H_w4.out, sq_low S2H.out (b4.mono (by have := B2H.out.size; have := HP.out.qv.nil; omega)), (O2H.out.sq.belowP b4).imp fun b _ hb => ⟨fun hp => ?_, fun e => ?_⟩, M2H.out.low (b4.mono (by have := B2H.out.size; have := HP.out.qv.nil; omega)), fun hp => ?_, fun e => ?_⟩
        · have := (HP.out.qv.low b hp).2; omega
        · have := HP.out.blt; omega
        · have := (HP.out.qv.low _ hp).2; omega
        · have := HP.out.blt; omega
      have LN : Hid (nr = LL.length) := HP4.out.len
      have HBD : Hid (nr ≤ 1000 ∧ (∀ L ∈ LL, L.length ≤ 1000) ∧ (nr : Int) ≤ k) := by
        have h1 := HP4.out.qv.bd
        have h2 := LN.out
        exact ⟨by omega, fun L hL => by have := h1.2.2.2.2.2 L hL; omega, by omega⟩
      clear b4 bb4 hYw b_w4z b_w4 S2H O2H M2H B2H HP
      have yk : w4.cell? ⟨Y, 0, none⟩ = some (.int .i64 kd) := by rw [(row_cell HA4.out.ya 0).1]; rfl
      go_upto_block 2 with fail
      go_cut [7] (fun gv wx => PlC lo Rb w n k gv wx)
      case first =>
        clear yk
        clear z0 zf0 z1 zf1 z2 zf2
        have x0 : w4.cell? ⟨Rb, 0, none⟩ = some (.int .i64 n) := by rw [(row_cell HP4.out.bx 0).1]; rfl
        have xf0 : w4.frozen? ⟨Rb, 0, none⟩ = false := (row_cell HP4.out.bx 0).2
        have x1 : w4.cell? ⟨Rb, 1, none⟩ = some (.int .i64 k) := by rw [(row_cell HP4.out.bx 1).1]; rfl
        have xf1 : w4.frozen? ⟨Rb, 1, none⟩ = false := (row_cell HP4.out.bx 1).2
        have x2 : w4.cell? ⟨Rb, 2, none⟩ = some (.slice Ar nr cr) := by rw [(row_cell HP4.out.bx 2).1]; rfl
        have xf2 : w4.frozen? ⟨Rb, 2, none⟩ = false := (row_cell HP4.out.bx 2).2
        have x3 : w4.cell? ⟨Rb, 3, none⟩ = some (.bool lost) := by rw [(row_cell HP4.out.bx 3).1]; rfl
        have xf3 : w4.frozen? ⟨Rb, 3, none⟩ = false := (row_cell HP4.out.bx 3).2
        have y0 : w4.cell? ⟨Y, 0, none⟩ = some (.int .i64 kd) := by rw [(row_cell HA4.out.ya 0).1]; rfl
        have y1 : w4.cell? ⟨Y, 1, none⟩ = some (.slice Am jm cm) := by rw [(row_cell HA4.out.ya 1).1]; rfl
        have y2 : w4.cell? ⟨Y, 2, none⟩ = some (.slice Av j cv) := by rw [(row_cell HA4.out.ya 2).1]; rfl
        by_cases h0 : kd = 0
        · as_aux_lemma =>
          subst h0
          have RP := Lib.hid (rput_any n k Ar nr cr lost _ S LL _ Am jm cm KT false 8 w4 HP4.out.rl HP4.out.rm HBD.out.1 HBD.out.2.1 HA4.out.mq HCUT.out.1 HBD.out.2.2 HP4.out.cp rfl)
          obtain ⟨ev, hev⟩ : ∃ ev, chkV n (k - (nr : Int)) 8 [KT] = ev := ⟨_, rfl⟩
          obtain ⟨lv, hlv⟩ : ∃ lv, sF n (k - (nr : Int)) 8 lost KT = lv := ⟨_, rfl⟩
          obtain ⟨LX, hLX⟩ : ∃ LX, sL n (k - (nr : Int)) 8 LL KT = LX := ⟨_, rfl⟩
          have HEV := Lib.hid hev
          have HLV := Lib.hid hlv
          have HLX := Lib.hid hLX
          have hee : (ev != ev) = false := by simp
          clear hev hlv hLX
          go_wp2_with fail
          refine RP.out.mono ?_
          rintro e w5 ⟨A', n', c', S', he5, sq5, ms5, hcp5, b5⟩
          rw [HEV.out, HLV.out] at he5
          subst he5
          rw [HLX.out] at ms5
          have HP5 := Lib.hid (HP4.out.below b5)
          have HA5 := Lib.hid (HA4.out.below HP4.out.qv.nil b5)
          have SQ5 : Hid (Sq w5 (fun b => ¬ p b ∧ b ≠ Rb) (.slice A' n' c') n' (CS S')) := sq5.imp fun b _ hb => by
            rcases hb with hb | hb
            · exact hb
            · exact ⟨fun hp => by have := (HP4.out.qv.low b hp).2; omega, fun e => by have := HP4.out.blt; omega⟩
          have MS5 := Lib.hid ms5
          have HCP5 := Lib.hid hcp5
          clear RP sq5 ms5 hcp5 b5
          clear x0 xf0 x1 xf1 x2 xf2 x3 xf3
          clear y0 y1 y2
          obtain ⟨N6, h_N6⟩ : ∃ b, w5.heap.size = b := ⟨_, rfl⟩
          obtain ⟨w6z, h_w6z⟩ : ∃ W, w5.alloc (.cells #[.int .i64 0, .int .i64 0, .slice none 0 0, .bool false] 29) = W := ⟨_, rfl⟩
          have H_w6z : Hid (w6z.heap[N6]? = some (.cells #[.int .i64 0, .int .i64 0, .slice none 0 0, .bool false] 29 (0, 0))) := by rw [← h_w6z, ← h_N6]; exact heap_alloc_new _ _
          have b_w6z : Below N6 w5 w6z := by rw [← h_w6z, ← h_N6]; exact (Below.refl _ _).alloc (Nat.le_refl _) _
          obtain ⟨w6, h_w6⟩ : ∃ W, ((((w6z.setCell ⟨N6, 0, none⟩ (.int .i64 n)).setCell ⟨N6, 1, none⟩ (.int .i64 k)).setCell ⟨N6, 2, none⟩ (.slice A' n' c')).setCell ⟨N6, 3, none⟩ (.bool lv)) = W := ⟨_, rfl⟩
          have H_w6 : Hid (w6.heap[N6]? = some (.cells #[.int .i64 n, .int .i64 k, .slice A' n' c', .bool lv] 29 (0, 0))) := by rw [← h_w6]; exact (set_at (set_at (set_at (set_at H_w6z.out 0 _) 1 _) 2 _) 3 _)
          have b_w6 : Below N6 w5 w6 := by rw [← h_w6]; exact ((((b_w6z.setCell (Nat.le_refl _) _).setCell (Nat.le_refl _) _).setCell (Nat.le_refl _) _).setCell (Nat.le_refl _) _)
          have z0 : w6z.cell? ⟨N6, 0, none⟩ = some (.int .i64 0) := by rw [(row_cell H_w6z.out 0).1]; rfl
          have zf0 : w6z.frozen? ⟨N6, 0, none⟩ = false := (row_cell H_w6z.out 0).2
          have z1 : w6z.cell? ⟨N6, 1, none⟩ = some (.int .i64 0) := by rw [(row_cell H_w6z.out 1).1]; rfl
          have zf1 : w6z.frozen? ⟨N6, 1, none⟩ = false := (row_cell H_w6z.out 1).2
          have z2 : w6z.cell? ⟨N6, 2, none⟩ = some (.slice none 0 0) := by rw [(row_cell H_w6z.out 2).1]; rfl
          have zf2 : w6z.frozen? ⟨N6, 2, none⟩ = false := (row_cell H_w6z.out 2).2
          have z3 : w6z.cell? ⟨N6, 3, none⟩ = some (.bool false) := by rw [(row_cell H_w6z.out 3).1]; rfl
          have zf3 : w6z.frozen? ⟨N6, 3, none⟩ = false := (row_cell H_w6z.out 3).2
          have b6 : Below w5.heap.size w5 w6 := by rw [h_N6]; exact b_w6
          have HP6 := Lib.hid (HP5.out.below b6)
          have HA6 := Lib.hid (HA5.out.below HP5.out.qv.nil b6)
          have SQ6 : Hid (Sq w6 (fun b => ¬ p b ∧ b ≠ Rb) (.slice A' n' c') n' (CS S')) := SQ5.out.belowP b6
          have MS6 := Lib.hid (MS5.out.below b6)
          have NN : Hid (¬ p N6 ∧ N6 ≠ Rb) := ⟨fun hp => by have := (HP5.out.qv.low _ hp).2; omega, fun e => by have := HP5.out.blt; omega⟩
          clear b_w6z b_w6 b6
          have y0 : w6.cell? ⟨Y, 0, none⟩ = some (.int .i64 0) := by rw [(row_cell HA6.out.ya 0).1]; rfl
          have y1 : w6.cell? ⟨Y, 1, none⟩ = some (.slice Am jm cm) := by rw [(row_cell HA6.out.ya 1).1]; rfl
          have y2 : w6.cell? ⟨Y, 2, none⟩ = some (.slice Av j cv) := by rw [(row_cell HA6.out.ya 2).1]; rfl
          go_wp2_with fail
          refine (send_any lo p (fun _ => True) g n k LL lost _ Am jm cm KT w6 HP6.out.qv HA6.out.mq (fun _ _ => trivial)).mono ?_
          rintro e w7 ⟨q, he7, q7, n7⟩
          rw [← LN.out, HLX.out, HLV.out] at q7
          rw [← LN.out, HEV.out] at he7
          subst he7
          have HP7 := Lib.hid (HP6.out.op q7 n7)
          have SQ7 : Hid (Sq w7 (fun b => ¬ q b ∧ b ≠ Rb) (.slice A' n' c') n' (CS S')) := (SQ6.out.fo n7.fo fun b hb => hb.1).imp fun b _ hb => ⟨fun hx => by rcases n7.sub b hx with h1 | h1; exact hb.2.1 h1; omega, hb.2.2⟩
          have MS7 := Lib.hid (MS6.out.keepq HP6.out.qv n7)
          have HN7 : Hid (w7.heap[N6]? = some (.cells #[.int .i64 n, .int .i64 k, .slice A' n' c', .bool lv] 29 (0, 0))) := (n7.fo.block _ (Array.getElem?_eq_some_iff.1 H_w6.out).1 NN.out.1).trans H_w6.out
          clear q7 n7 HP6 HA6 SQ6 MS6 H_w6 H_w6z
          clear y0 y1 y2
          clear z0 zf0 z1 zf1 z2 zf2 z3 zf3
          obtain ⟨w8, h_w8⟩ : ∃ W, ((((w7.setCell ⟨Rb, 0, none⟩ (.int .i64 n)).setCell ⟨Rb, 1, none⟩ (.int .i64 k)).setCell ⟨Rb, 2, none⟩ (.slice A' n' c')).setCell ⟨Rb, 3, none⟩ (.bool lv)) = W := ⟨_, rfl⟩
          have ff_w8 : Hid (Fo (fun b => b = Rb) w7 w8) := by rw [← h_w8]; exact (((((Fo.refl (fun b => b = Rb) w7).setCell (.inl rfl) 0 _).setCell (.inl rfl) 1 _).setCell (.inl rfl) 2 _).setCell (.inl rfl) 3 _)
          have HP8 : Hid (PQ lo Rb w w8 q g n k LX lv LX lv A' n' c' S') := HP7.out.box ff_w8.out (by rw [← h_w8]; exact (set_at (set_at (set_at (set_at HP7.out.bx 0 _) 1 _) 2 _) 3 _)) SQ7.out MS7.out HCP5.out
          clear ff_w8
          have z0 : w7.cell? ⟨N6, 0, none⟩ = some (.int .i64 n) := by rw [(row_cell HN7.out 0).1]; rfl
          have z1 : w7.cell? ⟨N6, 1, none⟩ = some (.int .i64 k) := by rw [(row_cell HN7.out 1).1]; rfl
          have z2 : w7.cell? ⟨N6, 2, none⟩ = some (.slice A' n' c') := by rw [(row_cell HN7.out 2).1]; rfl
          have z3 : w7.cell? ⟨N6, 3, none⟩ = some (.bool lv) := by rw [(row_cell HN7.out 3).1]; rfl
          have x0 : w7.cell? ⟨Rb, 0, none⟩ = some (.int .i64 n) := by rw [(row_cell HP7.out.bx 0).1]; rfl
          have xf0 : w7.frozen? ⟨Rb, 0, none⟩ = false := (row_cell HP7.out.bx 0).2
          have x1 : w7.cell? ⟨Rb, 1, none⟩ = some (.int .i64 k) := by rw [(row_cell HP7.out.bx 1).1]; rfl
          have xf1 : w7.frozen? ⟨Rb, 1, none⟩ = false := (row_cell HP7.out.bx 1).2
          have x2 : w7.cell? ⟨Rb, 2, none⟩ = some (.slice Ar nr cr) := by rw [(row_cell HP7.out.bx 2).1]; rfl
          have xf2 : w7.frozen? ⟨Rb, 2, none⟩ = false := (row_cell HP7.out.bx 2).2
          have x3 : w7.cell? ⟨Rb, 3, none⟩ = some (.bool lost) := by rw [(row_cell HP7.out.bx 3).1]; rfl
          have xf3 : w7.frozen? ⟨Rb, 3, none⟩ = false := (row_cell HP7.out.bx 3).2
          go_wp2_with fail
          go_meet
          case rel => exact ⟨⟨q, g, LX, lv, A', n', c', S', rfl, HP8.out⟩⟩
        have hb0 : (kd == 0) = false := by rw [beq_eq_false_iff_ne]; exact h0
        by_cases h1 : kd = 1
        · as_aux_lemma =>
          subst h1
          clear h0 hb0
          have RP := Lib.hid (rput_any n k Ar nr cr lost _ S LL _ Am jm cm KT true 17 w4 HP4.out.rl HP4.out.rm HBD.out.1 HBD.out.2.1 HA4.out.mq HCUT.out.1 HBD.out.2.2 HP4.out.cp rfl)
          obtain ⟨ev, hev⟩ : ∃ ev, chkV n (k - (nr : Int)) 17 [KT] = ev := ⟨_, rfl⟩
          obtain ⟨lv, hlv⟩ : ∃ lv, sF n (k - (nr : Int)) 17 lost KT = lv := ⟨_, rfl⟩
          obtain ⟨LX, hLX⟩ : ∃ LX, sL n (k - (nr : Int)) 17 LL KT = LX := ⟨_, rfl⟩
          have HEV := Lib.hid hev
          have HLV := Lib.hid hlv
          have HLX := Lib.hid hLX
          have hee : (ev != ev) = false := by simp
          clear hev hlv hLX
          go_wp2_with fail
          refine RP.out.mono ?_
          rintro e w5 ⟨A', n', c', S', he5, sq5, ms5, hcp5, b5⟩
          rw [HEV.out, HLV.out] at he5
          subst he5
          rw [HLX.out] at ms5
          have HP5 := Lib.hid (HP4.out.below b5)
          have HA5 := Lib.hid (HA4.out.below HP4.out.qv.nil b5)
          have SQ5 : Hid (Sq w5 (fun b => ¬ p b ∧ b ≠ Rb) (.slice A' n' c') n' (CS S')) := sq5.imp fun b _ hb => by
            rcases hb with hb | hb
            · exact hb
            · exact ⟨fun hp => by have := (HP4.out.qv.low b hp).2; omega, fun e => by have := HP4.out.blt; omega⟩
          have MS5 := Lib.hid ms5
          have HCP5 := Lib.hid hcp5
          clear RP sq5 ms5 hcp5 b5
          clear x0 xf0 x1 xf1 x2 xf2 x3 xf3
          clear y0 y1 y2
          obtain ⟨N6, h_N6⟩ : ∃ b, w5.heap.size = b := ⟨_, rfl⟩
          obtain ⟨w6z, h_w6z⟩ : ∃ W, w5.alloc (.cells #[.int .i64 0, .int .i64 0, .slice none 0 0, .bool false] 29) = W := ⟨_, rfl⟩
          have H_w6z : Hid (w6z.heap[N6]? = some (.cells #[.int .i64 0, .int .i64 0, .slice none 0 0, .bool false] 29 (0, 0))) := by rw [← h_w6z, ← h_N6]; exact heap_alloc_new _ _
          have b_w6z : Below N6 w5 w6z := by rw [← h_w6z, ← h_N6]; exact (Below.refl _ _).alloc (Nat.le_refl _) _
          obtain ⟨w6, h_w6⟩ : ∃ W, ((((w6z.setCell ⟨N6, 0, none⟩ (.int .i64 n)).setCell ⟨N6, 1, none⟩ (.int .i64 k)).setCell ⟨N6, 2, none⟩ (.slice A' n' c')).setCell ⟨N6, 3, none⟩ (.bool lv)) = W := ⟨_, rfl⟩
          have H_w6 : Hid (w6.heap[N6]? = some (.cells #[.int .i64 n, .int .i64 k, .slice A' n' c', .bool lv] 29 (0, 0))) := by rw [← h_w6]; exact (set_at (set_at (set_at (set_at H_w6z.out 0 _) 1 _) 2 _) 3 _)
          have b_w6 : Below N6 w5 w6 := by rw [← h_w6]; exact ((((b_w6z.setCell (Nat.le_refl _) _).setCell (Nat.le_refl _) _).setCell (Nat.le_refl _) _).setCell (Nat.le_refl _) _)
          have z0 : w6z.cell? ⟨N6, 0, none⟩ = some (.int .i64 0) := by rw [(row_cell H_w6z.out 0).1]; rfl
          have zf0 : w6z.frozen? ⟨N6, 0, none⟩ = false := (row_cell H_w6z.out 0).2
          have z1 : w6z.cell? ⟨N6, 1, none⟩ = some (.int .i64 0) := by rw [(row_cell H_w6z.out 1).1]; rfl
          have zf1 : w6z.frozen? ⟨N6, 1, none⟩ = false := (row_cell H_w6z.out 1).2
          have z2 : w6z.cell? ⟨N6, 2, none⟩ = some (.slice none 0 0) := by rw [(row_cell H_w6z.out 2).1]; rfl
          have zf2 : w6z.frozen? ⟨N6, 2, none⟩ = false := (row_cell H_w6z.out 2).2
          have z3 : w6z.cell? ⟨N6, 3, none⟩ = some (.bool false) := by rw [(row_cell H_w6z.out 3).1]; rfl
          have zf3 : w6z.frozen? ⟨N6, 3, none⟩ = false := (row_cell H_w6z.out 3).2
          have b6 : Below w5.heap.size w5 w6 := by rw [h_N6]; exact b_w6
          have HP6 := Lib.hid (HP5.out.below b6)
          have HA6 := Lib.hid (HA5.out.below HP5.out.qv.nil b6)
          have SQ6 : Hid (Sq w6 (fun b => ¬ p b ∧ b ≠ Rb) (.slice A' n' c') n' (CS S')) := SQ5.out.belowP b6
          have MS6 := Lib.hid (MS5.out.below b6)
          have NN : Hid (¬ p N6 ∧ N6 ≠ Rb) := ⟨fun hp => by have := (HP5.out.qv.low _ hp).2; omega, fun e => by have := HP5.out.blt; omega⟩
          clear b_w6z b_w6 b6
          have y0 : w6.cell? ⟨Y, 0, none⟩ = some (.int .i64 1) := by rw [(row_cell HA6.out.ya 0).1]; rfl
          have y1 : w6.cell? ⟨Y, 1, none⟩ = some (.slice Am jm cm) := by rw [(row_cell HA6.out.ya 1).1]; rfl
          have y2 : w6.cell? ⟨Y, 2, none⟩ = some (.slice Av j cv) := by rw [(row_cell HA6.out.ya 2).1]; rfl
          go_wp2_with fail
          refine (push_any lo p (fun _ => True) g n k LL lost _ Am jm cm KT w6 HP6.out.qv HA6.out.mq (fun _ _ => trivial)).mono ?_
          rintro e w7 ⟨q, he7, q7, n7⟩
          rw [pL_s, pF_s, ← LN.out, HLX.out, HLV.out] at q7
          rw [← LN.out, HEV.out] at he7
          subst he7
          have HP7 := Lib.hid (HP6.out.op q7 n7)
          have SQ7 : Hid (Sq w7 (fun b => ¬ q b ∧ b ≠ Rb) (.slice A' n' c') n' (CS S')) := (SQ6.out.fo n7.fo fun b hb => hb.1).imp fun b _ hb => ⟨fun hx => by rcases n7.sub b hx with h1 | h1; exact hb.2.1 h1; omega, hb.2.2⟩
          have MS7 := Lib.hid (MS6.out.keepq HP6.out.qv n7)
          have HN7 : Hid (w7.heap[N6]? = some (.cells #[.int .i64 n, .int .i64 k, .slice A' n' c', .bool lv] 29 (0, 0))) := (n7.fo.block _ (Array.getElem?_eq_some_iff.1 H_w6.out).1 NN.out.1).trans H_w6.out
          clear q7 n7 HP6 HA6 SQ6 MS6 H_w6 H_w6z
          clear y0 y1 y2
          clear z0 zf0 z1 zf1 z2 zf2 z3 zf3
          obtain ⟨w8, h_w8⟩ : ∃ W, ((((w7.setCell ⟨Rb, 0, none⟩ (.int .i64 n)).setCell ⟨Rb, 1, none⟩ (.int .i64 k)).setCell ⟨Rb, 2, none⟩ (.slice A' n' c')).setCell ⟨Rb, 3, none⟩ (.bool lv)) = W := ⟨_, rfl⟩
          have ff_w8 : Hid (Fo (fun b => b = Rb) w7 w8) := by rw [← h_w8]; exact (((((Fo.refl (fun b => b = Rb) w7).setCell (.inl rfl) 0 _).setCell (.inl rfl) 1 _).setCell (.inl rfl) 2 _).setCell (.inl rfl) 3 _)
          have HP8 : Hid (PQ lo Rb w w8 q g n k LX lv LX lv A' n' c' S') := HP7.out.box ff_w8.out (by rw [← h_w8]; exact (set_at (set_at (set_at (set_at HP7.out.bx 0 _) 1 _) 2 _) 3 _)) SQ7.out MS7.out HCP5.out
          clear ff_w8
          have z0 : w7.cell? ⟨N6, 0, none⟩ = some (.int .i64 n) := by rw [(row_cell HN7.out 0).1]; rfl
          have z1 : w7.cell? ⟨N6, 1, none⟩ = some (.int .i64 k) := by rw [(row_cell HN7.out 1).1]; rfl
          have z2 : w7.cell? ⟨N6, 2, none⟩ = some (.slice A' n' c') := by rw [(row_cell HN7.out 2).1]; rfl
          have z3 : w7.cell? ⟨N6, 3, none⟩ = some (.bool lv) := by rw [(row_cell HN7.out 3).1]; rfl
          have x0 : w7.cell? ⟨Rb, 0, none⟩ = some (.int .i64 n) := by rw [(row_cell HP7.out.bx 0).1]; rfl
          have xf0 : w7.frozen? ⟨Rb, 0, none⟩ = false := (row_cell HP7.out.bx 0).2
          have x1 : w7.cell? ⟨Rb, 1, none⟩ = some (.int .i64 k) := by rw [(row_cell HP7.out.bx 1).1]; rfl
          have xf1 : w7.frozen? ⟨Rb, 1, none⟩ = false := (row_cell HP7.out.bx 1).2
          have x2 : w7.cell? ⟨Rb, 2, none⟩ = some (.slice Ar nr cr) := by rw [(row_cell HP7.out.bx 2).1]; rfl
          have xf2 : w7.frozen? ⟨Rb, 2, none⟩ = false := (row_cell HP7.out.bx 2).2
          have x3 : w7.cell? ⟨Rb, 3, none⟩ = some (.bool lost) := by rw [(row_cell HP7.out.bx 3).1]; rfl
          have xf3 : w7.frozen? ⟨Rb, 3, none⟩ = false := (row_cell HP7.out.bx 3).2
          go_wp2_with fail
          go_meet
          case rel => exact ⟨⟨q, g, LX, lv, A', n', c', S', rfl, HP8.out⟩⟩
        have hb1 : (kd == 1) = false := by rw [beq_eq_false_iff_ne]; exact h1
        by_cases h2 : kd = 2
        · as_aux_lemma =>
          subst h2
          clear h0 hb0 h1 hb1
          cases LL with
          | nil =>
            obtain rfl : nr = 0 := LN.out
            go_wp2_with fail
            refine (receive_none lo p (fun _ => True) g n k [] lost w4 HP4.out.qv rfl).mono ?_
            rintro e w5 ⟨q, rfl, q5, n5⟩
            have HP5 := Lib.hid (HP4.out.op q5 n5)
            have hlb : (lost != lost) = false := by simp
            clear q5 n5
            clear x0 xf0 x1 xf1 x2 xf2 x3 xf3
            clear y0 y1 y2
            have x0 : w5.cell? ⟨Rb, 0, none⟩ = some (.int .i64 n) := by rw [(row_cell HP5.out.bx 0).1]; rfl
            have xf0 : w5.frozen? ⟨Rb, 0, none⟩ = false := (row_cell HP5.out.bx 0).2
            have x1 : w5.cell? ⟨Rb, 1, none⟩ = some (.int .i64 k) := by rw [(row_cell HP5.out.bx 1).1]; rfl
            have xf1 : w5.frozen? ⟨Rb, 1, none⟩ = false := (row_cell HP5.out.bx 1).2
            have x2 : w5.cell? ⟨Rb, 2, none⟩ = some (.slice Ar 0 cr) := by rw [(row_cell HP5.out.bx 2).1]; rfl
            have xf2 : w5.frozen? ⟨Rb, 2, none⟩ = false := (row_cell HP5.out.bx 2).2
            have x3 : w5.cell? ⟨Rb, 3, none⟩ = some (.bool lost) := by rw [(row_cell HP5.out.bx 3).1]; rfl
            have xf3 : w5.frozen? ⟨Rb, 3, none⟩ = false := (row_cell HP5.out.bx 3).2
            obtain ⟨w6, h_w6⟩ : ∃ W, (w5.setCell ⟨Rb, 3, none⟩ (.bool false)) = W := ⟨_, rfl⟩
            have ff_w6 : Hid (Fo (fun b => b = Rb) w5 w6) := by rw [← h_w6]; exact ((Fo.refl (fun b => b = Rb) w5).setCell (.inl rfl) 3 _)
            have HP6 : Hid (PQ lo Rb w w6 q g n k [] false [] false Ar 0 cr S) := HP5.out.box ff_w6.out (by rw [← h_w6]; exact (set_at HP5.out.bx 3 _)) HP5.out.rl HP5.out.rm HP5.out.cp
            clear ff_w6
            go_wp2_with fail
            go_meet
            case rel => exact ⟨⟨q, g, [], false, Ar, 0, cr, S, rfl, HP6.out⟩⟩
          | cons L0 LT0 =>
            have hn1 : 1 ≤ nr := by have := LN.out; simp at this; omega
            have HN1 : Hid (1 ≤ nr ∧ nr ≤ cr) := ⟨hn1, HP4.out.cp⟩
            obtain ⟨l0, hl0⟩ : ∃ l0, L0.length = l0 := ⟨_, rfl⟩
            have HL0 := Lib.hid hl0
            have RC := Lib.hid (receive_some lo p (fun _ => True) g n k (L0 :: LT0) lost L0 LT0 w4 HP4.out.qv rfl)
            rw [hl0] at RC
            have HL5 : Hid (l0 ≤ 5000) := by have := HBD.out.2.1 L0 (List.mem_cons_self ..); unfold Hid; omega
            clear hn1 hl0
            go_wp2_with fail
            refine RC.out.mono ?_
            rintro e w5 ⟨A0, c0, q, rfl, o5, q5, n5⟩
            have HP5 := Lib.hid (HP4.out.op q5 n5)
            have O5 := Lib.hid o5
            have hlb : (lost != lost) = false := by simp
            clear o5 q5 n5 RC
            obtain ⟨As, cs, L, hs, hl, hsq⟩ := HP5.out.rm.mr.get (i := 0) (by simp)
            obtain ⟨b1, off1, hA, hbl, hcc⟩ := sl_at HP5.out.rl (show 0 < nr by have := HN1.out; omega) hs
            injection hl with hl
            subst hl
            rw [HL0.out] at hsq hcc
            have d0 : w5.cell? ⟨b1, off1, none⟩ = some (.slice As l0 cs) := by have h := hcc; rw [Nat.add_zero] at h; exact h
            have HSQ := Lib.hid hsq
            have hnp : (0 : Int) < (nr : Int) := by have := HN1.out; omega
            have hn1I : (1 : Int) ≤ (nr : Int) := by have := HN1.out; omega
            have hncI : (nr : Int) ≤ (cr : Int) := by have := HN1.out; omega
            have hncI1 : (1 : Int) ≤ (cr : Int) := by have := HN1.out; omega
            have HHA : Hid (Ar = some ⟨b1, off1, none⟩) := hA
            clear x0 xf0 x1 xf1 x2 xf2 x3 xf3
            clear y0 y1 y2
            subst hA
            clear hs hsq hbl hcc
            have x0 : w5.cell? ⟨Rb, 0, none⟩ = some (.int .i64 n) := by rw [(row_cell HP5.out.bx 0).1]; rfl
            have xf0 : w5.frozen? ⟨Rb, 0, none⟩ = false := (row_cell HP5.out.bx 0).2
            have x1 : w5.cell? ⟨Rb, 1, none⟩ = some (.int .i64 k) := by rw [(row_cell HP5.out.bx 1).1]; rfl
            have xf1 : w5.frozen? ⟨Rb, 1, none⟩ = false := (row_cell HP5.out.bx 1).2
            have x2 : w5.cell? ⟨Rb, 2, none⟩ = some (.slice (some ⟨b1, off1, none⟩) nr cr) := by rw [(row_cell HP5.out.bx 2).1]; rfl
            have xf2 : w5.frozen? ⟨Rb, 2, none⟩ = false := (row_cell HP5.out.bx 2).2
            have x3 : w5.cell? ⟨Rb, 3, none⟩ = some (.bool lost) := by rw [(row_cell HP5.out.bx 3).1]; rfl
            have xf3 : w5.frozen? ⟨Rb, 3, none⟩ = false := (row_cell HP5.out.bx 3).2
            go_wp2_with fail
            refine (lsame_any _ _ _ _ L0 L0 w5 (by rw [HL0.out]; exact O5.out.sq.st) (by rw [HL0.out]; exact HSQ.out.st) (by rw [HL0.out]; exact HL5.out)).mono ?_
            rintro e w6 ⟨he6, b6⟩
            simp only [decide_true] at he6
            subst he6
            have HP6 := Lib.hid (HP5.out.below b6)
            clear x0 xf0 x1 xf1 x2 xf2 x3 xf3
            clear b6 d0 HSQ O5
            have SD := Sq_drop (j := 1) HP6.out.rl HN1.out.1 HN1.out.2
            rw [CS_drop] at SD
            obtain ⟨A1, hA1⟩ : ∃ A1, (if cr = 1 then (some ⟨b1, off1, none⟩ : Option Addr) else (some ⟨b1, off1, none⟩ : Option Addr).map (fun x => x.add 1)) = A1 := ⟨_, rfl⟩
            rw [hA1] at SD
            have SDH := Lib.hid SD
            have hA2 : (if cr = 1 then (some ⟨b1, off1, none⟩ : Option Addr) else some ⟨b1, off1 + 1, none⟩) = A1 := hA1
            clear SD
            have x0 : w6.cell? ⟨Rb, 0, none⟩ = some (.int .i64 n) := by rw [(row_cell HP6.out.bx 0).1]; rfl
            have xf0 : w6.frozen? ⟨Rb, 0, none⟩ = false := (row_cell HP6.out.bx 0).2
            have x1 : w6.cell? ⟨Rb, 1, none⟩ = some (.int .i64 k) := by rw [(row_cell HP6.out.bx 1).1]; rfl
            have xf1 : w6.frozen? ⟨Rb, 1, none⟩ = false := (row_cell HP6.out.bx 1).2
            have x2 : w6.cell? ⟨Rb, 2, none⟩ = some (.slice (some ⟨b1, off1, none⟩) nr cr) := by rw [(row_cell HP6.out.bx 2).1]; rfl
            have xf2 : w6.frozen? ⟨Rb, 2, none⟩ = false := (row_cell HP6.out.bx 2).2
            have x3 : w6.cell? ⟨Rb, 3, none⟩ = some (.bool lost) := by rw [(row_cell HP6.out.bx 3).1]; rfl
            have xf3 : w6.frozen? ⟨Rb, 3, none⟩ = false := (row_cell HP6.out.bx 3).2
            obtain ⟨w7, h_w7⟩ : ∃ W, ((w6.setCell ⟨Rb, 3, none⟩ (.bool false)).setCell ⟨Rb, 2, none⟩ (.slice A1 (nr - 1) (cr - 1))) = W := ⟨_, rfl⟩
            have ff_w7 : Hid (Fo (fun b => b = Rb) w6 w7) := by rw [← h_w7]; exact (((Fo.refl (fun b => b = Rb) w6).setCell (.inl rfl) 3 _).setCell (.inl rfl) 2 _)
            have HP7 : Hid (PQ lo Rb w w7 q g n k LT0 false LT0 false A1 (nr - 1) (cr - 1) (S.drop 1)) := HP6.out.box ff_w7.out (by rw [← h_w7]; exact (set_at (set_at HP6.out.bx 3 _) 2 _)) SDH.out (HP6.out.rm.drop 1) (by have := HN1.out; omega)
            clear ff_w7
            go_wp2_with fail
            go_meet
            case rel => exact ⟨⟨q, g, LT0, false, A1, nr - 1, cr - 1, S.drop 1, rfl, HP7.out⟩⟩
        have hb2 : (kd == 2) = false := by rw [beq_eq_false_iff_ne]; exact h2
        by_cases h3 : kd = 3
        · as_aux_lemma =>
          subst h3
          clear h0 hb0 h1 hb1 h2 hb2
          go_wp2_with fail
          refine wp_region_held_drew (S := (fun w' => w'.cell? ⟨Rb, 2, none⟩ = some (.slice Ar nr cr))) (by kernel_rfl) ?_ (fun hHeld => ?_)
          · exact x2
          refine takeD (i := 0) (d := some 150) (v := ?_) _ rfl rfl (by kernel_rfl) (by kernel_rfl) (by kernel_rfl) (fun _ _ _ h => h) (by rfl) ?_ (by assumption) ?_
          rotate_left
          · (intro w hSw; (try dsimp only at hSw); go_simp) <;> with_reducible rfl
          try simp only [Act.put, List.setIfInBounds_toArray, List.set_cons_zero, List.set_cons_succ]
          refine takeD (i := 2) (d := some 152) (v := ?_) _ rfl rfl (by kernel_rfl) (by kernel_rfl) (by kernel_rfl) (fun _ _ _ h => h) (by rfl) ?_ (by assumption) ?_
          rotate_left
          · (intro w hSw; (try dsimp only at hSw); go_simp) <;> with_reducible rfl
          try simp only [Act.put, List.setIfInBounds_toArray, List.set_cons_zero, List.set_cons_succ]
          refine takeD (i := 3) (d := some 153) (v := ?_) _ rfl rfl (by kernel_rfl) (by kernel_rfl) (by kernel_rfl) (fun _ _ _ h => h) (by rfl) ?_ (by assumption) ?_
          rotate_left
          · (intro w hSw; (try dsimp only at hSw); go_simp) <;> with_reducible rfl
          try simp only [Act.put, List.setIfInBounds_toArray, List.set_cons_zero, List.set_cons_succ]
          obtain ⟨V, hV⟩ : ∃ V, w4.drew = V := ⟨_, rfl⟩
          have bV : Below w4.heap.size w4 V := by rw [← hV]; exact (Below.refl _ _).drew
          have HPV := Lib.hid (HP4.out.below bV)
          simp only [hV]
          clear hV hHeld bV
          refine wpAnyH_ready (rs := [1]) (by kernel_rfl) (by simp) ?_
          refine AllReadyH.cons rfl (fun K0 hK => ?_) (AllReadyH.nil)
          try go_simp
          go_at_call 19
          refine (drain_any lo p (fun _ => True) g n k LL lost V HPV.out.qv).mono ?_
          rintro e w5 ⟨vx, Sx, q, rfl, ox, mx, q5, n5, e5⟩
          clear e5
          rw [← LN.out] at ox
          obtain ⟨Ax, cx, rfl⟩ := ox.sl
          have HP5 := Lib.hid (HPV.out.op q5 n5)
          have OX := Lib.hid ox
          have MX := Lib.hid mx
          clear ox mx q5 n5
          try go_wp2_with fail
          refine hK.out _ _ (by rw [(row_cell HP5.out.bx 2).1]; rfl) (fun _ => ?_)
          clear hK K0
          try simp only [Act.put, List.getElem_toArray, List.getElem_cons_succ, List.getElem_cons_zero, List.setIfInBounds_toArray, List.set_cons_zero, List.set_cons_succ]
          refine wpAnyH_ready (rs := [4]) (by kernel_rfl) (by simp) ?_
          refine AllReadyH.cons rfl (fun K0 hK => ?_) (AllReadyH.nil)
          try go_simp
          go_at_call 18
          refine (lists_any _ _ _ _ Ax Ar nr nr cx cr Sx S LL LL w5 OX.out.sq MX.out.mr HP5.out.rl HP5.out.rm.mr HBD.out.1 HBD.out.2.1).mono ?_
          rintro e w6 ⟨he6, b6⟩
          simp only [decide_true] at he6
          subst he6
          have HP6 := Lib.hid (HP5.out.below b6)
          clear b6 OX MX
          try go_wp2_with fail
          refine hK.out _ _ (by rw [(row_cell HP6.out.bx 2).1]; rfl) (fun hHeld => ?_)
          clear hK K0
          try simp only [Act.put, List.getElem_toArray, List.getElem_cons_succ, List.getElem_cons_zero, List.setIfInBounds_toArray, List.set_cons_zero, List.set_cons_succ]
          refine takeD (i := 5) (d := some 155) (v := ?_) _ rfl rfl (by kernel_rfl) (by kernel_rfl) (by kernel_rfl) (fun _ _ _ h => h) (by rfl) ?_ (by assumption) ?_
          rotate_left
          · (intro w hSw; (try dsimp only at hSw); go_simp) <;> with_reducible rfl
          try simp only [Act.put, List.setIfInBounds_toArray, List.set_cons_zero, List.set_cons_succ]
          refine wpAnyH_done (by kernel_rfl) ?_ _
          clear hHeld
          clear x0 xf0 x1 xf1 x2 xf2 x3 xf3
          clear y0 y1 y2
          have x0 : w6.cell? ⟨Rb, 0, none⟩ = some (.int .i64 n) := by rw [(row_cell HP6.out.bx 0).1]; rfl
          have xf0 : w6.frozen? ⟨Rb, 0, none⟩ = false := (row_cell HP6.out.bx 0).2
          have x1 : w6.cell? ⟨Rb, 1, none⟩ = some (.int .i64 k) := by rw [(row_cell HP6.out.bx 1).1]; rfl
          have xf1 : w6.frozen? ⟨Rb, 1, none⟩ = false := (row_cell HP6.out.bx 1).2
          have x2 : w6.cell? ⟨Rb, 2, none⟩ = some (.slice Ar nr cr) := by rw [(row_cell HP6.out.bx 2).1]; rfl
          have xf2 : w6.frozen? ⟨Rb, 2, none⟩ = false := (row_cell HP6.out.bx 2).2
          have x3 : w6.cell? ⟨Rb, 3, none⟩ = some (.bool lost) := by rw [(row_cell HP6.out.bx 3).1]; rfl
          have xf3 : w6.frozen? ⟨Rb, 3, none⟩ = false := (row_cell HP6.out.bx 3).2
          obtain ⟨w7, h_w7⟩ : ∃ W, (w6.setCell ⟨Rb, 2, none⟩ (.slice none 0 0)) = W := ⟨_, rfl⟩
          have ff_w7 : Hid (Fo (fun b => b = Rb) w6 w7) := by rw [← h_w7]; exact ((Fo.refl (fun b => b = Rb) w6).setCell (.inl rfl) 2 _)
          have HP7 : Hid (PQ lo Rb w w7 q g n k [] lost [] lost none 0 0 []) := HP6.out.box ff_w7.out (by rw [← h_w7]; exact (set_at HP6.out.bx 2 _)) (Sq.nil _ _) (Ms.nil _ _) (Nat.le_refl _)
          clear ff_w7
          go_wp2_with fail
          go_meet
          case rel => exact ⟨⟨q, g, [], lost, none, 0, 0, [], rfl, HP7.out⟩⟩
        have hb3 : (kd == 3) = false := by rw [beq_eq_false_iff_ne]; exact h3
        by_cases h4 : kd = 4
        · as_aux_lemma =>
          subst h4
          clear h0 hb0 h1 hb1 h2 hb2 h3 hb3
          have RP := Lib.hid (rback_any n k Ar nr cr lost _ S LL _ _ Av j cv S2 LT w4 HP4.out.rl HP4.out.rm HBD.out.1 HBD.out.2.1 HA4.out.lq HA4.out.ml HCUT.out.2.1 HCUT.out.2.2 HP4.out.cp)
          obtain ⟨ev, hev⟩ : ∃ ev, chkV n (k - (nr : Int)) 8 LT = ev := ⟨_, rfl⟩
          obtain ⟨LX, hLX⟩ : ∃ LX, bL n (k - (nr : Int)) LL LT = LX := ⟨_, rfl⟩
          have HEV := Lib.hid hev
          have HLX := Lib.hid hLX
          have hee : (ev != ev) = false := by simp
          clear hev hLX
          go_wp2_with fail
          refine RP.out.mono ?_
          rintro e w5 ⟨A', n', c', S', he5, sq5, ms5, hcp5, b5⟩
          rw [HEV.out] at he5
          subst he5
          rw [HLX.out] at ms5
          have HP5 := Lib.hid (HP4.out.below b5)
          have HA5 := Lib.hid (HA4.out.below HP4.out.qv.nil b5)
          have SQ5 : Hid (Sq w5 (fun b => ¬ p b ∧ b ≠ Rb) (.slice A' n' c') n' (CS S')) := sq5.imp fun b _ hb => by
            rcases hb with hb | hb
            · exact hb
            · exact ⟨fun hp => by have := (HP4.out.qv.low b hp).2; omega, fun e => by have := HP4.out.blt; omega⟩
          have MS5 := Lib.hid ms5
          have HCP5 := Lib.hid hcp5
          clear RP sq5 ms5 hcp5 b5
          clear x0 xf0 x1 xf1 x2 xf2 x3 xf3
          clear y0 y1 y2
          obtain ⟨N6, h_N6⟩ : ∃ b, w5.heap.size = b := ⟨_, rfl⟩
          obtain ⟨w6z, h_w6z⟩ : ∃ W, w5.alloc (.cells #[.int .i64 0, .int .i64 0, .slice none 0 0, .bool false] 29) = W := ⟨_, rfl⟩
          have H_w6z : Hid (w6z.heap[N6]? = some (.cells #[.int .i64 0, .int .i64 0, .slice none 0 0, .bool false] 29 (0, 0))) := by rw [← h_w6z, ← h_N6]; exact heap_alloc_new _ _
          have b_w6z : Below N6 w5 w6z := by rw [← h_w6z, ← h_N6]; exact (Below.refl _ _).alloc (Nat.le_refl _) _
          obtain ⟨w6, h_w6⟩ : ∃ W, ((((w6z.setCell ⟨N6, 0, none⟩ (.int .i64 n)).setCell ⟨N6, 1, none⟩ (.int .i64 k)).setCell ⟨N6, 2, none⟩ (.slice A' n' c')).setCell ⟨N6, 3, none⟩ (.bool lost)) = W := ⟨_, rfl⟩
          have H_w6 : Hid (w6.heap[N6]? = some (.cells #[.int .i64 n, .int .i64 k, .slice A' n' c', .bool lost] 29 (0, 0))) := by rw [← h_w6]; exact (set_at (set_at (set_at (set_at H_w6z.out 0 _) 1 _) 2 _) 3 _)
          have b_w6 : Below N6 w5 w6 := by rw [← h_w6]; exact ((((b_w6z.setCell (Nat.le_refl _) _).setCell (Nat.le_refl _) _).setCell (Nat.le_refl _) _).setCell (Nat.le_refl _) _)
          have z0 : w6z.cell? ⟨N6, 0, none⟩ = some (.int .i64 0) := by rw [(row_cell H_w6z.out 0).1]; rfl
          have zf0 : w6z.frozen? ⟨N6, 0, none⟩ = false := (row_cell H_w6z.out 0).2
          have z1 : w6z.cell? ⟨N6, 1, none⟩ = some (.int .i64 0) := by rw [(row_cell H_w6z.out 1).1]; rfl
          have zf1 : w6z.frozen? ⟨N6, 1, none⟩ = false := (row_cell H_w6z.out 1).2
          have z2 : w6z.cell? ⟨N6, 2, none⟩ = some (.slice none 0 0) := by rw [(row_cell H_w6z.out 2).1]; rfl
          have zf2 : w6z.frozen? ⟨N6, 2, none⟩ = false := (row_cell H_w6z.out 2).2
          have z3 : w6z.cell? ⟨N6, 3, none⟩ = some (.bool false) := by rw [(row_cell H_w6z.out 3).1]; rfl
          have zf3 : w6z.frozen? ⟨N6, 3, none⟩ = false := (row_cell H_w6z.out 3).2
          have b6 : Below w5.heap.size w5 w6 := by rw [h_N6]; exact b_w6
          have HP6 := Lib.hid (HP5.out.below b6)
          have HA6 := Lib.hid (HA5.out.below HP5.out.qv.nil b6)
          have SQ6 : Hid (Sq w6 (fun b => ¬ p b ∧ b ≠ Rb) (.slice A' n' c') n' (CS S')) := SQ5.out.belowP b6
          have MS6 := Lib.hid (MS5.out.below b6)
          obtain ⟨w8, h_w8⟩ : ∃ W, ((((w6.setCell ⟨Rb, 0, none⟩ (.int .i64 n)).setCell ⟨Rb, 1, none⟩ (.int .i64 k)).setCell ⟨Rb, 2, none⟩ (.slice A' n' c')).setCell ⟨Rb, 3, none⟩ (.bool lost)) = W := ⟨_, rfl⟩
          have ff_w8 : Hid (Fo (fun b => b = Rb) w6 w8) := by rw [← h_w8]; exact (((((Fo.refl (fun b => b = Rb) w6).setCell (.inl rfl) 0 _).setCell (.inl rfl) 1 _).setCell (.inl rfl) 2 _).setCell (.inl rfl) 3 _)
          have HP8 : Hid (PQ lo Rb w w8 p g n k LL lost LX lost A' n' c' S') := HP6.out.box ff_w8.out (by rw [← h_w8]; exact (set_at (set_at (set_at (set_at HP6.out.bx 0 _) 1 _) 2 _) 3 _)) SQ6.out MS6.out HCP5.out
          have HA8 := Lib.hid (HA6.out.box HP6.out.ll ff_w8.out HP6.out.qv.nil)
          clear b_w6z b_w6 b6 ff_w8
          have v0 : w6.cell? ⟨N6, 0, none⟩ = some (.int .i64 n) := by rw [(row_cell H_w6.out 0).1]; rfl
          have v1 : w6.cell? ⟨N6, 1, none⟩ = some (.int .i64 k) := by rw [(row_cell H_w6.out 1).1]; rfl
          have v2 : w6.cell? ⟨N6, 2, none⟩ = some (.slice A' n' c') := by rw [(row_cell H_w6.out 2).1]; rfl
          have v3 : w6.cell? ⟨N6, 3, none⟩ = some (.bool lost) := by rw [(row_cell H_w6.out 3).1]; rfl
          have x0 : w6.cell? ⟨Rb, 0, none⟩ = some (.int .i64 n) := by rw [(row_cell HP6.out.bx 0).1]; rfl
          have xf0 : w6.frozen? ⟨Rb, 0, none⟩ = false := (row_cell HP6.out.bx 0).2
          have x1 : w6.cell? ⟨Rb, 1, none⟩ = some (.int .i64 k) := by rw [(row_cell HP6.out.bx 1).1]; rfl
          have xf1 : w6.frozen? ⟨Rb, 1, none⟩ = false := (row_cell HP6.out.bx 1).2
          have x2 : w6.cell? ⟨Rb, 2, none⟩ = some (.slice Ar nr cr) := by rw [(row_cell HP6.out.bx 2).1]; rfl
          have xf2 : w6.frozen? ⟨Rb, 2, none⟩ = false := (row_cell HP6.out.bx 2).2
          have x3 : w6.cell? ⟨Rb, 3, none⟩ = some (.bool lost) := by rw [(row_cell HP6.out.bx 3).1]; rfl
          have xf3 : w6.frozen? ⟨Rb, 3, none⟩ = false := (row_cell HP6.out.bx 3).2
          have y0 : w8.cell? ⟨Y, 0, none⟩ = some (.int .i64 4) := by rw [(row_cell HA8.out.ya 0).1]; rfl
          have y1 : w8.cell? ⟨Y, 1, none⟩ = some (.slice Am jm cm) := by rw [(row_cell HA8.out.ya 1).1]; rfl
          have y2 : w8.cell? ⟨Y, 2, none⟩ = some (.slice Av j cv) := by rw [(row_cell HA8.out.ya 2).1]; rfl
          go_wp2_with fail
          refine (back_any lo p (fun _ => True) g n k LL lost _ _ Av j cv S2 LT w8 HP8.out.qv HA8.out.lq HA8.out.ml HCUT.out.2.1 (fun _ _ => trivial)).mono ?_
          rintro e w9 ⟨q, he9, q9, n9⟩
          rw [← LN.out, HLX.out] at q9
          rw [← LN.out, HEV.out] at he9
          subst he9
          have HP9 := Lib.hid (HP8.out.op q9 n9)
          clear q9 n9 HP8 HA8 HP6 HA6 SQ6 MS6 HP5 HA5 SQ5 MS5
          clear v0 v1 v2 v3
          clear x0 xf0 x1 xf1 x2 xf2 x3 xf3
          clear y0 y1 y2
          clear z0 zf0 z1 zf1 z2 zf2 z3 zf3
          go_wp2_with fail
          go_meet
          case rel => exact ⟨⟨q, g, LX, lost, A', n', c', S', rfl, HP9.out⟩⟩
        have hb4 : (kd == 4) = false := by rw [beq_eq_false_iff_ne]; exact h4
        by_cases h5 : kd = 5
        · as_aux_lemma =>
          subst h5
          clear h0 hb0 h1 hb1 h2 hb2 h3 hb3 h4 hb4
          go_wp2_with fail
          refine (clear_any lo p (fun _ => True) g n k LL lost w4 HP4.out.qv).mono ?_
          rintro e w5 ⟨rfl, q, q5, n5⟩
          have HP5 := Lib.hid (HP4.out.op q5 n5)
          clear q5 n5
          clear x0 xf0 x1 xf1 x2 xf2 x3 xf3
          clear y0 y1 y2
          have x0 : w5.cell? ⟨Rb, 0, none⟩ = some (.int .i64 n) := by rw [(row_cell HP5.out.bx 0).1]; rfl
          have xf0 : w5.frozen? ⟨Rb, 0, none⟩ = false := (row_cell HP5.out.bx 0).2
          have x1 : w5.cell? ⟨Rb, 1, none⟩ = some (.int .i64 k) := by rw [(row_cell HP5.out.bx 1).1]; rfl
          have xf1 : w5.frozen? ⟨Rb, 1, none⟩ = false := (row_cell HP5.out.bx 1).2
          have x2 : w5.cell? ⟨Rb, 2, none⟩ = some (.slice Ar nr cr) := by rw [(row_cell HP5.out.bx 2).1]; rfl
          have xf2 : w5.frozen? ⟨Rb, 2, none⟩ = false := (row_cell HP5.out.bx 2).2
          have x3 : w5.cell? ⟨Rb, 3, none⟩ = some (.bool lost) := by rw [(row_cell HP5.out.bx 3).1]; rfl
          have xf3 : w5.frozen? ⟨Rb, 3, none⟩ = false := (row_cell HP5.out.bx 3).2
          obtain ⟨w6, h_w6⟩ : ∃ W, ((w5.setCell ⟨Rb, 2, none⟩ (.slice none 0 0)).setCell ⟨Rb, 3, none⟩ (.bool false)) = W := ⟨_, rfl⟩
          have ff_w6 : Hid (Fo (fun b => b = Rb) w5 w6) := by rw [← h_w6]; exact (((Fo.refl (fun b => b = Rb) w5).setCell (.inl rfl) 2 _).setCell (.inl rfl) 3 _)
          have HP6 : Hid (PQ lo Rb w w6 q g n k [] false [] false none 0 0 []) := HP5.out.box ff_w6.out (by rw [← h_w6]; exact (set_at (set_at HP5.out.bx 2 _) 3 _)) (Sq.nil _ _) (Ms.nil _ _) (Nat.le_refl _)
          clear ff_w6
          go_wp2_with fail
          go_meet
          case rel => exact ⟨⟨q, g, [], false, none, 0, 0, [], rfl, HP6.out⟩⟩
        have hb5 : (kd == 5) = false := by rw [beq_eq_false_iff_ne]; exact h5
        by_cases h6 : kd = 6
        · as_aux_lemma =>
          subst h6
          clear h0 hb0 h1 hb1 h2 hb2 h3 hb3 h4 hb4 h5 hb5
          have RL4 : Hid (Sq w4 (fun b => ¬ p b ∧ b ≠ Rb ∧ b < w4.heap.size) (.slice Ar nr cr) nr (CS S)) := HP4.out.rl.imp fun b h hb => ⟨hb.1, hb.2, h⟩
          have HW4 : Hid (lo ≤ w4.heap.size ∧ Rb < w4.heap.size ∧ ∀ b, p b → b < w4.heap.size) := ⟨HP4.out.qv.nil, HP4.out.blt, fun b hb => (HP4.out.qv.low b hb).2⟩
          go_wp2_with fail
          refine (clone_any lo p (fun _ => True) g n k LL lost w4 HP4.out.qv (fun _ _ => trivial)).mono ?_
          rintro e w5 ⟨gc, qc, rfl, c5, b5⟩
          have C5 := Lib.hid c5
          have HP5 := Lib.hid (HP4.out.below b5)
          have HA5 := Lib.hid (HA4.out.below HP4.out.qv.nil b5)
          have RL5 := Lib.hid (RL4.out.belowP b5)
          have HQC : Hid (∀ b, qc b → w4.heap.size ≤ b) := fun b hb => (c5.low b hb).1
          clear c5 b5 RL4 HP4 HA4
          clear x0 xf0 x1 xf1 x2 xf2 x3 xf3
          clear y0 y1 y2
          go_wp2_with fail
          refine (same_any w4.heap.size lo qc p (fun _ => True) (fun _ => True) gc g n n k k LL LL lost lost w5 C5.out HP5.out.qv).mono ?_
          rintro e w6 ⟨he_, b_w6⟩
          simp only [and_self, decide_true, Bool.and_self] at he_
          subst he_
          have HP6 := Lib.hid (HP5.out.below b_w6)
          have HA6 := Lib.hid (HA5.out.below HP5.out.qv.nil b_w6)
          have C6 := Lib.hid (C5.out.below b_w6)
          have RL6 := Lib.hid (RL5.out.belowP b_w6)
          clear b_w6 HP5 HA5 C5 RL5
          go_wp2_with fail
          refine (same_any lo w4.heap.size p qc (fun _ => True) (fun _ => True) g gc n n k k LL LL lost lost w6 HP6.out.qv C6.out).mono ?_
          rintro e w7 ⟨he_, b_w7⟩
          simp only [and_self, decide_true, Bool.and_self] at he_
          subst he_
          have HP7 := Lib.hid (HP6.out.below b_w7)
          have HA7 := Lib.hid (HA6.out.below HP6.out.qv.nil b_w7)
          have C7 := Lib.hid (C6.out.below b_w7)
          have RL7 := Lib.hid (RL6.out.belowP b_w7)
          clear b_w7 HP6 HA6 C6 RL6
          have y0 : w7.cell? ⟨Y, 0, none⟩ = some (.int .i64 6) := by rw [(row_cell HA7.out.ya 0).1]; rfl
          have y1 : w7.cell? ⟨Y, 1, none⟩ = some (.slice Am jm cm) := by rw [(row_cell HA7.out.ya 1).1]; rfl
          have y2 : w7.cell? ⟨Y, 2, none⟩ = some (.slice Av j cv) := by rw [(row_cell HA7.out.ya 2).1]; rfl
          go_wp2_with fail
          refine (push_any lo p (fun _ => True) g n k LL lost _ Am jm cm KT w7 HP7.out.qv HA7.out.mq (fun _ _ => trivial)).mono ?_
          rintro e w8 ⟨q, rfl, q8, n8⟩
          have HP8 := Lib.hid (HP7.out.op q8 n8)
          have C8 := Lib.hid (C7.out.fot n8.fo (fun b hb hp => by have h1 := HQC.out b hb; have h2 := HW4.out.2.2 b hp; omega) HP7.out.qv.ty)
          have RL8 : Hid (Sq w8 (fun b => ¬ q b ∧ b ≠ Rb ∧ b < w4.heap.size) (.slice Ar nr cr) nr (CS S)) := (RL7.out.fo n8.fo fun b hb => hb.1).imp fun b _ hb => ⟨fun hx => by rcases n8.sub b hx with h1 | h1; exact hb.2.1 h1; omega, hb.2.2⟩
          have HQ8 : Hid (∀ b, qc b → ¬ q b) := fun b hb hx => by
            rcases n8.sub b hx with h1 | h1
            · have h3 := HQC.out b hb; have h2 := HW4.out.2.2 b h1; omega
            · have := (C7.out.low b hb).2; omega
          clear q8 n8 C7 RL7
          clear y0 y1 y2
          go_wp2_with fail
          refine (clear_any lo q (fun _ => True) g n k _ _ w8 HP8.out.qv).mono ?_
          rintro e w9 ⟨rfl, q', q9, n9⟩
          have HP9 := Lib.hid (HP8.out.op q9 n9)
          have C9 := Lib.hid (C8.out.fot n9.fo (fun b hb hp => HQ8.out b hb hp) HP8.out.qv.ty)
          have RL9 : Hid (Sq w9 (fun b => b ≠ Rb ∧ b < w4.heap.size) (.slice Ar nr cr) nr (CS S)) := (RL8.out.fo n9.fo fun b hb => hb.1).imp fun b _ hb => hb.2.2
          have HPC : Hid (PQ lo Rb w w9 qc gc n k LL lost LL lost Ar nr cr S) := ⟨C9.out.less HW4.out.1, HP9.out.bx, RL9.out.imp fun b _ hb => ⟨fun hx => by have := HQC.out b hx; omega, hb.1⟩, HP9.out.rm, fun hx => by have := HQC.out _ hx; have := HW4.out; omega, HP9.out.ll, HP9.out.cp, HP9.out.be⟩
          clear q9 n9
          go_wp2_with fail
          go_meet
          case rel => exact ⟨⟨qc, gc, LL, lost, Ar, nr, cr, S, rfl, HPC.out⟩⟩
        have hb6 : (kd == 6) = false := by rw [beq_eq_false_iff_ne]; exact h6
        clear h0 h1 h2 h3 h4 h5 h6
        go_wp2_with fail
        go_meet
        case rel => exact ⟨⟨p, g, LL, lost, Ar, nr, cr, S, rfl, HP4.out⟩⟩
      case rest =>
        obtain ⟨w5, hw5⟩ : ∃ w', w' = wc := ⟨_, rfl⟩
        subst hw5
        clear yk HP4 HA4 LN HBD HCUT H_w4 H_w4z h_w4 h_w4z
        clear z0 zf0 z1 zf1 z2 zf2
        obtain ⟨⟨p, g, LL, lost, Ar, nr, cr, S, rfl, hpq⟩⟩ := hcut
        have HP5 := Lib.hid hpq
        clear hpq
        have LN : Hid (nr = LL.length) := HP5.out.len
        have HBD5 : Hid (nr ≤ 1000 ∧ (∀ L ∈ LL, L.length ≤ 1000) ∧ (nr : Int) ≤ k) := by
          have h1 := HP5.out.qv.bd
          have h2 := LN.out
          exact ⟨by omega, fun L hL => by have := h1.2.2.2.2.2 L hL; omega, by omega⟩
        have hnr : (nr : Int) ≤ 1000 := by have := HBD5.out; omega
        have hkr : 1 ≤ k ∧ k ≤ 32 := ⟨HP5.out.qv.bd.2.2.1, HP5.out.qv.bd.2.2.2.1⟩
        have hk1 := hkr.1
        have hk2 := hkr.2
        clear hkr
        have hkw : IntKind.i64.wrap (k - (nr : Int)) = k - (nr : Int) := IntWalk.i64_in _ ⟨by omega, by omega⟩
        have hkk : (k - (nr : Int) != k - (nr : Int)) = false := by simp
        have x0 : w5.cell? ⟨Rb, 0, none⟩ = some (.int .i64 n) := by rw [(row_cell HP5.out.bx 0).1]; rfl
        have xf0 : w5.frozen? ⟨Rb, 0, none⟩ = false := (row_cell HP5.out.bx 0).2
        have x1 : w5.cell? ⟨Rb, 1, none⟩ = some (.int .i64 k) := by rw [(row_cell HP5.out.bx 1).1]; rfl
        have xf1 : w5.frozen? ⟨Rb, 1, none⟩ = false := (row_cell HP5.out.bx 1).2
        have x2 : w5.cell? ⟨Rb, 2, none⟩ = some (.slice Ar nr cr) := by rw [(row_cell HP5.out.bx 2).1]; rfl
        have xf2 : w5.frozen? ⟨Rb, 2, none⟩ = false := (row_cell HP5.out.bx 2).2
        have x3 : w5.cell? ⟨Rb, 3, none⟩ = some (.bool lost) := by rw [(row_cell HP5.out.bx 3).1]; rfl
        have xf3 : w5.frozen? ⟨Rb, 3, none⟩ = false := (row_cell HP5.out.bx 3).2
        go_wp2_with fail
        refine wp_region_held_drew (S := (fun w' => w'.cell? ⟨Rb, 1, none⟩ = some (.int .i64 k) ∧ w'.cell? ⟨Rb, 2, none⟩ = some (.slice Ar nr cr))) (by kernel_rfl) ?_ (fun hHeld => ?_)
        · exact ⟨x1, x2⟩
        refine takeD (i := 0) (d := some 204) (v := ?_) _ rfl rfl (by kernel_rfl) (by kernel_rfl) (by kernel_rfl) (fun _ _ _ h => h) (by rfl) ?_ (by assumption) ?_
        rotate_left
        · (intro w hSw; (try dsimp only at hSw); go_simp) <;> with_reducible rfl
        try simp only [Act.put, List.setIfInBounds_toArray, List.set_cons_zero, List.set_cons_succ]
        refine takeD (i := 1) (d := some 205) (v := ?_) _ rfl rfl (by kernel_rfl) (by kernel_rfl) (by kernel_rfl) (fun _ _ _ h => h) (by rfl) ?_ (by assumption) ?_
        rotate_left
        · (intro w hSw; (try dsimp only at hSw); go_simp) <;> with_reducible rfl
        try simp only [Act.put, List.setIfInBounds_toArray, List.set_cons_zero, List.set_cons_succ]
        refine takeD (i := 2) (d := some 206) (v := ?_) _ rfl rfl (by kernel_rfl) (by kernel_rfl) (by kernel_rfl) (fun _ _ _ h => h) (by rfl) ?_ (by assumption) ?_
        rotate_left
        · (intro w hSw; (try dsimp only at hSw); go_simp) <;> with_reducible rfl
        try simp only [Act.put, List.setIfInBounds_toArray, List.set_cons_zero, List.set_cons_succ]
        refine takeD (i := 3) (d := some 207) (v := ?_) _ rfl rfl (by kernel_rfl) (by kernel_rfl) (by kernel_rfl) (fun _ _ _ h => h) (by rfl) ?_ (by assumption) ?_
        rotate_left
        · (intro w hSw; (try dsimp only at hSw); go_simp) <;> with_reducible rfl
        try simp only [Act.put, List.setIfInBounds_toArray, List.set_cons_zero, List.set_cons_succ]
        refine takeD (i := 5) (d := some 209) (v := ?_) _ rfl rfl (by kernel_rfl) (by kernel_rfl) (by kernel_rfl) (fun _ _ _ h => h) (by rfl) ?_ (by assumption) ?_
        rotate_left
        · (intro w hSw; (try dsimp only at hSw); go_simp) <;> with_reducible rfl
        try simp only [Act.put, List.setIfInBounds_toArray, List.set_cons_zero, List.set_cons_succ]
        refine takeD (i := 6) (d := some 210) (v := ?_) _ rfl rfl (by kernel_rfl) (by kernel_rfl) (by kernel_rfl) (fun _ _ _ h => h) (by rfl) ?_ (by assumption) ?_
        rotate_left
        · (intro w hSw; (try dsimp only at hSw); go_simp) <;> with_reducible rfl
        try simp only [Act.put, List.setIfInBounds_toArray, List.set_cons_zero, List.set_cons_succ]
        obtain ⟨V, hV⟩ : ∃ V, w5.drew = V := ⟨_, rfl⟩
        have bV : Below w5.heap.size w5 V := by rw [← hV]; exact (Below.refl _ _).drew
        have HPV := Lib.hid (HP5.out.below bV)
        simp only [hV]
        clear hV hHeld bV
        refine wpAnyH_ready (rs := [4]) (by kernel_rfl) (by simp) ?_
        refine AllReadyH.cons rfl (fun K0 hK => ?_) (AllReadyH.nil)
        try go_simp
        go_at_call 25
        refine (all_any lo p (fun _ => True) g n k LL lost V HPV.out.qv).mono ?_
        rintro e w6 ⟨vx, Sx, rfl, ox, mx, b6⟩
        rw [← LN.out] at ox
        obtain ⟨Ax, cx, rfl⟩ := ox.sl
        have HP6 := Lib.hid (HPV.out.below b6)
        have OX := Lib.hid ox
        have MX := Lib.hid mx
        clear ox mx b6
        try go_wp2_with fail
        refine hK.out _ _ ⟨by rw [(row_cell HP6.out.bx 1).1]; rfl, by rw [(row_cell HP6.out.bx 2).1]; rfl⟩ (fun _ => ?_)
        clear hK K0
        try simp only [Act.put, List.getElem_toArray, List.getElem_cons_succ, List.getElem_cons_zero, List.setIfInBounds_toArray, List.set_cons_zero, List.set_cons_succ]
        refine wpAnyH_ready (rs := [7]) (by kernel_rfl) (by simp) ?_
        refine AllReadyH.cons rfl (fun K0 hK => ?_) (AllReadyH.nil)
        try go_simp
        go_at_call 18
        refine (lists_any _ _ _ _ Ax Ar nr nr cx cr Sx S LL LL w6 OX.out.sq MX.out.mr HP6.out.rl HP6.out.rm.mr HBD5.out.1 HBD5.out.2.1).mono ?_
        rintro e w7 ⟨he7, b7⟩
        simp only [decide_true] at he7
        subst he7
        have HP7 := Lib.hid (HP6.out.below b7)
        clear b7 OX MX
        try go_wp2_with fail
        refine hK.out _ _ ⟨by rw [(row_cell HP7.out.bx 1).1]; rfl, by rw [(row_cell HP7.out.bx 2).1]; rfl⟩ (fun hHeld => ?_)
        clear hK K0
        try simp only [Act.put, List.getElem_toArray, List.getElem_cons_succ, List.getElem_cons_zero, List.setIfInBounds_toArray, List.set_cons_zero, List.set_cons_succ]
        refine takeD (i := 8) (d := some 212) (v := ?_) _ rfl rfl (by kernel_rfl) (by kernel_rfl) (by kernel_rfl) (fun _ _ _ h => h) (by rfl) ?_ (by assumption) ?_
        rotate_left
        · (intro w hSw; (try dsimp only at hSw); go_simp) <;> with_reducible rfl
        try simp only [Act.put, List.setIfInBounds_toArray, List.set_cons_zero, List.set_cons_succ]
        refine takeD (i := 9) (d := some 213) (v := ?_) _ rfl rfl (by kernel_rfl) (by kernel_rfl) (by kernel_rfl) (fun _ _ _ h => h) (by rfl) ?_ (by assumption) ?_
        rotate_left
        · (intro w hSw; (try dsimp only at hSw); go_simp) <;> with_reducible rfl
        try simp only [Act.put, List.setIfInBounds_toArray, List.set_cons_zero, List.set_cons_succ]
        refine takeD (i := 10) (d := some 214) (v := ?_) _ rfl rfl (by kernel_rfl) (by kernel_rfl) (by kernel_rfl) (fun _ _ _ h => h) (by rfl) ?_ (by assumption) ?_
        rotate_left
        · (intro w hSw; (try dsimp only at hSw); go_simp) <;> with_reducible rfl
        try simp only [Act.put, List.setIfInBounds_toArray, List.set_cons_zero, List.set_cons_succ]
        refine takeD (i := 11) (d := some 215) (v := ?_) _ rfl rfl (by kernel_rfl) (by kernel_rfl) (by kernel_rfl) (fun _ _ _ h => h) (by rfl) ?_ (by assumption) ?_
        rotate_left
        · (intro w hSw; (try dsimp only at hSw); go_simp) <;> with_reducible rfl
        try simp only [Act.put, List.setIfInBounds_toArray, List.set_cons_zero, List.set_cons_succ]
        refine takeD (i := 13) (d := some 217) (v := ?_) _ rfl rfl (by kernel_rfl) (by kernel_rfl) (by kernel_rfl) (fun _ _ _ h => h) (by rfl) ?_ (by assumption) ?_
        rotate_left
        · (intro w hSw; (try dsimp only at hSw); go_simp) <;> with_reducible rfl
        try simp only [Act.put, List.setIfInBounds_toArray, List.set_cons_zero, List.set_cons_succ]
        refine takeD (i := 14) (d := some 218) (v := ?_) _ rfl rfl (by kernel_rfl) (by kernel_rfl) (by kernel_rfl) (fun _ _ _ h => h) (by rfl) ?_ (by assumption) ?_
        rotate_left
        · (intro w hSw; (try dsimp only at hSw); go_simp) <;> with_reducible rfl
        try simp only [Act.put, List.setIfInBounds_toArray, List.set_cons_zero, List.set_cons_succ]
        refine takeD (i := 15) (d := some 219) (v := ?_) _ rfl rfl (by kernel_rfl) (by kernel_rfl) (by kernel_rfl) (fun _ _ _ h => h) (by rfl) ?_ (by assumption) ?_
        rotate_left
        · (intro w hSw; (try dsimp only at hSw); go_simp) <;> with_reducible rfl
        try simp only [Act.put, List.setIfInBounds_toArray, List.set_cons_zero, List.set_cons_succ]
        refine takeD (i := 16) (d := some 220) (v := ?_) _ rfl rfl (by kernel_rfl) (by kernel_rfl) (by kernel_rfl) (fun _ _ _ h => h) (by rfl) ?_ (by assumption) ?_
        rotate_left
        · (intro w hSw; (try dsimp only at hSw); go_simp) <;> with_reducible rfl
        try simp only [Act.put, List.setIfInBounds_toArray, List.set_cons_zero, List.set_cons_succ]
        refine takeD (i := 17) (d := some 221) (v := ?_) _ rfl rfl (by kernel_rfl) (by kernel_rfl) (by kernel_rfl) (fun _ _ _ h => h) (by rfl) ?_ (by assumption) ?_
        rotate_left
        · (intro w hSw; (try dsimp only at hSw); go_simp) <;> with_reducible rfl
        try simp only [Act.put, List.setIfInBounds_toArray, List.set_cons_zero, List.set_cons_succ]
        refine takeD (i := 18) (d := some 222) (v := ?_) _ rfl rfl (by kernel_rfl) (by kernel_rfl) (by kernel_rfl) (fun _ _ _ h => h) (by rfl) ?_ (by assumption) ?_
        rotate_left
        · (intro w hSw; (try dsimp only at hSw); go_simp) <;> with_reducible rfl
        try simp only [Act.put, List.setIfInBounds_toArray, List.set_cons_zero, List.set_cons_succ]
        clear hHeld
        refine wpAnyH_ready (rs := [12]) (by kernel_rfl) (by simp) ?_
        refine AllReadyH.cons rfl (fun K0 hK => ?_) (AllReadyH.nil)
        try go_simp
        go_at_call 26
        refine (free_any lo p (fun _ => True) g n k LL lost w7 HP7.out.qv).mono ?_
        rintro e w8 ⟨he8, b8⟩
        rw [← LN.out] at he8
        subst he8
        have HP8 := Lib.hid (HP7.out.below b8)
        clear b8
        try go_wp2_with fail
        refine hK.out _ _ ⟨by rw [(row_cell HP8.out.bx 1).1]; rfl, by rw [(row_cell HP8.out.bx 2).1]; rfl⟩ (fun hHeld => ?_)
        clear hK K0
        try simp only [Act.put, List.getElem_toArray, List.getElem_cons_succ, List.getElem_cons_zero, List.setIfInBounds_toArray, List.set_cons_zero, List.set_cons_succ]
        refine takeD (i := 19) (d := some 223) (v := ?_) _ rfl rfl (by kernel_rfl) (by kernel_rfl) (by kernel_rfl) (fun _ _ _ h => h) (by rfl) ?_ (by assumption) ?_
        rotate_left
        · (intro w hSw; (try dsimp only at hSw); go_simp) <;> with_reducible rfl
        try simp only [Act.put, List.setIfInBounds_toArray, List.set_cons_zero, List.set_cons_succ]
        refine takeD (i := 20) (d := some 224) (v := ?_) _ rfl rfl (by kernel_rfl) (by kernel_rfl) (by kernel_rfl) (fun _ _ _ h => h) (by rfl) ?_ (by assumption) ?_
        rotate_left
        · (intro w hSw; (try dsimp only at hSw); go_simp) <;> with_reducible rfl
        try simp only [Act.put, List.setIfInBounds_toArray, List.set_cons_zero, List.set_cons_succ]
        refine wpAnyH_done (by kernel_rfl) ?_ _
        clear hHeld
        clear x0 xf0 x1 xf1 x2 xf2 x3 xf3
        go_wp2_with fail
        go_roundw
        case rel =>
          have Q : PlR lo Rb len w n k (.pointer (some ⟨g, 0, none⟩)) (.int .i64 ((i : Int) + 1)) w8 := ⟨⟨i + 1, p, g, LL, lost, Ar, nr, cr, S, by have := HX.out; omega, by have := HX.out; omega, by go_num, rfl, HP8.out⟩⟩
          first | exact Q | ((repeat apply Exists.intro); exact ⟨Q, rfl⟩)
        case measure => have := HX.out; simp [intOf]; omega

  case rest =>
    obtain ⟨w5, hw5⟩ : ∃ w', w' = wc := ⟨_, rfl⟩
    subst hw5
    clear HP0 H_w4 H_w4z h_w4 h_w4z
    clear z0 zf0 z1 zf1 z2 zf2 z3 zf3
    obtain ⟨⟨p, g, LL, lost, Ar, nr, cr, S, rfl, hpq⟩⟩ := hcut
    have HP5 := Lib.hid hpq
    clear hpq
    have x0 : w5.cell? ⟨Rb, 0, none⟩ = some (.int .i64 n) := by rw [(row_cell HP5.out.bx 0).1]; rfl
    have xf0 : w5.frozen? ⟨Rb, 0, none⟩ = false := (row_cell HP5.out.bx 0).2
    have x1 : w5.cell? ⟨Rb, 1, none⟩ = some (.int .i64 k) := by rw [(row_cell HP5.out.bx 1).1]; rfl
    have xf1 : w5.frozen? ⟨Rb, 1, none⟩ = false := (row_cell HP5.out.bx 1).2
    have x2 : w5.cell? ⟨Rb, 2, none⟩ = some (.slice Ar nr cr) := by rw [(row_cell HP5.out.bx 2).1]; rfl
    have xf2 : w5.frozen? ⟨Rb, 2, none⟩ = false := (row_cell HP5.out.bx 2).2
    have x3 : w5.cell? ⟨Rb, 3, none⟩ = some (.bool lost) := by rw [(row_cell HP5.out.bx 3).1]; rfl
    have xf3 : w5.frozen? ⟨Rb, 3, none⟩ = false := (row_cell HP5.out.bx 3).2
    cases LL with
    | nil =>
      go_wp2_with fail
      refine (receive_none lo p (fun _ => True) g n k [] lost w5 HP5.out.qv rfl).mono ?_
      rintro e w6 ⟨q, rfl, q5, n5⟩
      have HP6 := Lib.hid (HP5.out.op q5 n5)
      clear q5 n5
      go_wp2_with fail
      refine (known_any w6).mono ?_
      rintro e w7 ⟨rfl, b7⟩
      have HP7 := Lib.hid (HP6.out.below b7)
      clear b7
      clear x0 xf0 x1 xf1 x2 xf2 x3 xf3
      have x3 : w7.cell? ⟨Rb, 3, none⟩ = some (.bool lost) := by rw [(row_cell HP7.out.bx 3).1]; rfl
      have hlb : (lost == lost) = true := by simp
      go_wp2_with fail
      go_ret
      exact ⟨rfl, HP7.out.be⟩
    | cons L0 LT0 =>
      go_wp2_with fail
      refine (receive_some lo p (fun _ => True) g n k (L0 :: LT0) lost L0 LT0 w5 HP5.out.qv rfl).mono ?_
      rintro e w6 ⟨A0, c0, q, rfl, o5, q5, n5⟩
      clear o5
      have HP6 := Lib.hid (HP5.out.op q5 n5)
      clear q5 n5
      go_wp2_with fail
      refine (known_any w6).mono ?_
      rintro e w7 ⟨rfl, b7⟩
      have HP7 := Lib.hid (HP6.out.below b7)
      clear b7
      clear x0 xf0 x1 xf1 x2 xf2 x3 xf3
      have x3 : w7.cell? ⟨Rb, 3, none⟩ = some (.bool lost) := by rw [(row_cell HP7.out.bx 3).1]; rfl
      have hlb : (lost == lost) = true := by simp
      go_wp2_with fail
      go_ret
      exact ⟨rfl, HP7.out.be⟩
end Go.Proofs.Ytejambofnffopaa.Q
