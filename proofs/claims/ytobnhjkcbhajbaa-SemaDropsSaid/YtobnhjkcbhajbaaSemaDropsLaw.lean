/-
  SemaDrops' walk. Each statement bears its own conditions.
-/
import Derived.Test.YtobnhjkcbhajbaaSmF
namespace Go.Proofs.Ytobnhjkcbhajbaa.S
open Go.RowKit Go.Proofs.Ytobnhjkcbhajbaa.W
set_option linter.unusedVariables false
set_option linter.unusedSimpArgs false
structure DA (lo g n : Nat) (p : Bool) (w : World) (iv : Value) (wr : World) : Prop where
  ex : ∃ (j rb : Nat) (L : List (Int × Int)), j ≤ n ∧ iv = .int .i64 (j : Int) ∧ SV lo wr g rb ⟨0, 9, p⟩ L ∧ Srt L ∧ L.length = j ∧ (∀ x ∈ L, x.1 < (j : Int)) ∧ Below lo w wr
structure DB (lo g n : Nat) (p : Bool) (w : World) (lv iv : Value) (wr : World) : Prop where
  ex : ∃ (j rb lb : Nat) (v : Value) (L : List (Int × Int)), j ≤ n ∧ iv = .int .i64 (j : Int) ∧ lv = v ∧ SV lo wr g rb ⟨0, 9, p⟩ L ∧ LW lo wr g rb v lb (idsP L) ∧ L.length ≤ 40 ∧ Below lo w wr
structure DC (lo g lb : Nat) (v : Value) (L : List (Int × Int)) (p : Bool) (w : World) (iv : Value) (wr : World) : Prop where
  ex : ∃ j rb : Nat, j ≤ L.length ∧ iv = .int .i64 (j : Int) ∧ SV lo wr g rb ⟨0, 9, p⟩ (L.drop j) ∧ LW lo wr g rb v lb (idsP L) ∧ Below lo w wr
set_option maxRecDepth 100000 in
set_option maxHeartbeats 8000000 in
theorem drops_walk (p : Bool) (a : Option Addr) (len cap : Nat) (zs : List Int) (a1 : Option Addr) (len1 cap1 : Nat) (ys : List Int) (w : World) (h0 : IsRow .i8 w a len cap zs) (h1 : IsRow .u8 w a1 len1 cap1 ys) :
    Calls Try.prog 8 #[.bool p, .slice a len cap, .slice a1 len1 cap1] w fun e w' => e = .returned (.bool true) ∧ Below w.heap.size w w' := by
  have he : ∀ (x : Nat) (w : World), (binOp .eql 24 (.pointer (some ⟨x, 0, none⟩)) (.pointer none)).run Try.prog w = .ok (.bool false) w := fun _ _ => rfl
  obtain ⟨lo, hlo⟩ : ∃ lo, w.heap.size = lo := ⟨_, rfl⟩
  have SP := Lib.hid (speaks_any w)
  have HLO : Hid (lo ≤ w.heap.size ∧ w.heap.size ≤ lo) := by unfold Hid; omega
  have HR := Lib.hid h0
  have HR1 := Lib.hid h1
  rw [hlo] at SP ⊢
  clear hlo h0 h1
  by_cases hbig : 40 < len ∨ 40 < len1
  · have hb1 : decide ((40 : Int) < (len : Int)) = true ∨ (decide ((40 : Int) < (len : Int)) = false ∧ decide ((40 : Int) < (len1 : Int)) = true) := by
      by_cases h : 40 < len
      · left; rw [decide_eq_true_iff]; omega
      · right; exact ⟨by rw [decide_eq_false_iff_not]; omega, by rw [decide_eq_true_iff]; omega⟩
    rcases hb1 with hb1 | ⟨hb1, hb2⟩
    · have hI : (40 : Int) < (len : Int) := of_decide_eq_true hb1
      clear hbig hb1
      go_enter Try.func8, Try.ntmps8
      go_wp2_with fail
      refine SP.out.mono ?_
      rintro e w4 ⟨rfl, b4⟩
      have B4 := Lib.hid b4
      clear b4 SP
      go_wp2_with fail
      refine (speaks_any w4).mono ?_
      rintro e w5 ⟨rfl, b5⟩
      have B5 : Hid (Below lo w w5) := B4.out.trans (b5.mono (by have := B4.out.size; have := HLO.out; omega))
      clear b5 B4
      go_wp2_with fail
      go_ret
      exact ⟨rfl, B5.out⟩
    · have hI : ¬ (40 : Int) < (len : Int) := of_decide_eq_false hb1
      have hI2 : (40 : Int) < (len1 : Int) := of_decide_eq_true hb2
      clear hbig hb1 hb2
      go_enter Try.func8, Try.ntmps8
      go_wp2_with fail
      refine SP.out.mono ?_
      rintro e w4 ⟨rfl, b4⟩
      have B4 := Lib.hid b4
      clear b4 SP
      go_wp2_with fail
      refine (speaks_any w4).mono ?_
      rintro e w5 ⟨rfl, b5⟩
      have B5 : Hid (Below lo w w5) := B4.out.trans (b5.mono (by have := B4.out.size; have := HLO.out; omega))
      clear b5 B4
      go_wp2_with fail
      go_ret
      exact ⟨rfl, B5.out⟩
  · have hI : ¬ (40 : Int) < (len : Int) := by omega
    have hI2 : ¬ (40 : Int) < (len1 : Int) := by omega
    have HLN : Hid (len ≤ 40 ∧ len1 ≤ 40) := by unfold Hid; omega
    clear hbig
    go_enter Try.func8, Try.ntmps8
    go_wp2_with fail
    refine SP.out.mono ?_
    rintro e w4 ⟨rfl, b4⟩
    have B4 := Lib.hid b4
    clear b4 SP
    go_wp2_with fail
    obtain ⟨g, hg⟩ : ∃ g, w4.heap.size = g := ⟨_, rfl⟩
    have NW := Lib.hid (new_any 0 9 p w4 (by omega))
    have HG : Hid (lo ≤ g) := by have := B4.out.size; have := HLO.out; unfold Hid; omega
    rw [hg] at NW
    clear hg
    refine NW.out.mono ?_
    rintro e w5 ⟨rfl, q5, b5⟩
    have Q5 : Hid (SV lo w5 g g ⟨0, 9, p⟩ []) := q5.less HG.out
    have B5 : Hid (Below lo w w5) := B4.out.trans (b5.mono HG.out)
    clear q5 b5 NW B4
    go_wp2_with fail
    go_loopw [47] (fun iv wr => DA lo g len p w iv wr) (fun i _ => len - (intOf i).toNat)
    case atStart => exact ⟨⟨0, g, [], Nat.zero_le _, rfl, Q5.out, List.Pairwise.nil, rfl, fun x hx => by simp at hx, B5.out⟩⟩
    case round =>
      clear Q5 B5
      obtain ⟨⟨j, rb, L, hj, rfl, hs, hsr, hll, hlt', hb⟩⟩ := hrel
      have HS := Lib.hid hs
      have HB := Lib.hid hb
      have HSR := Lib.hid hsr
      have HJ : Hid (j ≤ len ∧ len ≤ 40 ∧ L.length = j ∧ ∀ x ∈ L, x.1 < (j : Int)) := ⟨hj, HLN.out.1, hll, hlt'⟩
      clear hs hb hsr hll hlt'
      by_cases hlt : j < len
      · have hjI : (j : Int) < (len : Int) := by omega
        have hj39 : (j : Int) ≤ 39 := by have := HJ.out; omega
        have HX : Hid (j < len) := hlt
        obtain ⟨b, off, hax, hc⟩ := row_at HR.out (show 0 < len by omega)
        subst hax
        obtain ⟨x, hx⟩ : ∃ x, x = zs.getD j 0 := ⟨_, rfl⟩
        obtain ⟨hc0, hwf⟩ := hc j hlt
        rw [← hx] at hc0 hwf
        have hbl : b < w.heap.size := World.block_lt_of_cell? _ _ hc0
        have e0 : wr.cell? ⟨b, off + j, none⟩ = some (.int .i8 x) := cell_low HB.out (by have := HLO.out; omega) hc0
        have hx1 : -128 ≤ x ∧ x ≤ 127 := by
          simp only [Lit.wf, Bool.and_eq_true, decide_eq_true_eq] at hwf
          exact hwf
        have hxa : -128 ≤ x := hx1.1
        have hxb : x ≤ 127 := hx1.2
        clear hc hc0 hx hbl hwf hx1 hj hlt
        go_wp2_with fail
        refine (wait_join lo g rb 0 9 p L (j : Int) x wr HS.out (by have := HJ.out; omega) (fun hm => by
          obtain ⟨y, hy, hy2⟩ := List.mem_map.1 hm
          have := HJ.out.2.2.2 y hy
          omega) (by omega) HSR.out).mono ?_
        rintro e w6 ⟨rfl, rb6, q6, n6⟩
        have Q6 := Lib.hid q6
        have B6 : Hid (Below lo w w6) := HB.out.trans (n6.below HS.out)
        clear q6 n6
        go_wp2_with fail
        go_roundw
        case rel =>
          have Q : DA lo g len p w (.int .i64 ((j : Int) + 1)) w6 := ⟨⟨j + 1, rb6, joinP L (j : Int) (wq p x), HX.out, by go_num, Q6.out, srt_join HSR.out _ _, by rw [joinP_len]; have := HJ.out; omega, fun y hy => by
            rcases mem_join hy with hy | hy
            · have := HJ.out.2.2.2 y hy; omega
            · rw [hy]; show (j : Int) < ((j + 1 : Nat) : Int); omega, B6.out⟩⟩
          first | exact Q | ((repeat apply Exists.intro); exact ⟨Q, rfl⟩)
        case measure => have := HX.out; simp [intOf]; omega
      · have hjI : ¬ (j : Int) < (len : Int) := by omega
        have HL40 : Hid (L.length ≤ 40) := by have := HJ.out; unfold Hid; omega
        clear hlt hj
        go_wp2_with fail
        refine (waiting_any lo g rb _ L wr HS.out (by have := HL40.out; omega)).mono ?_
        rintro e w6 ⟨A6, c6, lb6, rfl, r6, f6, b6⟩
        have S6 := Lib.hid (HS.out.below b6)
        have L6 : Hid (LW lo w6 g rb (.slice A6 L.length c6) lb6 (idsP L)) := ⟨r6, f6.imp id fun h => by have h1 := HS.out.lt; have h2 := HS.out.low; omega⟩
        have B6 : Hid (Below lo w w6) := HB.out.trans (b6.mono (by have := HS.out.lt; have := HS.out.low; omega))
        obtain ⟨n6, hn6⟩ : ∃ n, L.length = n := ⟨_, rfl⟩
        rw [hn6] at L6 ⊢
        clear r6 f6 b6 HS HB hn6
        go_wp2_with fail
        go_loopw [11, 62] (fun lv iv wr => DB lo g len1 p w lv iv wr) (fun _ i _ => len1 - (intOf i).toNat)
        case atStart => exact ⟨⟨0, rb, lb6, _, L, Nat.zero_le _, rfl, rfl, S6.out, L6.out, HL40.out, B6.out⟩⟩
        case round =>
          clear S6 L6 B6
          obtain ⟨⟨i, rb, lb, v, L, hi2, rfl, rfl, hs, hlw, hll, hb⟩⟩ := hrel
          have HS := Lib.hid hs
          have HW := Lib.hid hlw
          have HL := Lib.hid hll
          have HB := Lib.hid hb
          have HI2 : Hid (i ≤ len1 ∧ len1 ≤ 40) := ⟨hi2, HLN.out.2⟩
          obtain ⟨Al, cl, hv⟩ := slice_form hlw.1.own
          obtain ⟨nl, hnl⟩ : ∃ nl, (idsP L).length = nl := ⟨_, rfl⟩
          rw [hnl] at hv
          subst hv
          have HNL : Hid (L.length = nl) := by unfold Hid; rw [← hnl, idsP_len]
          clear hs hlw hll hb hnl
          by_cases hlt : i < len1
          · have hiI : (i : Int) < (len1 : Int) := by omega
            have hi39 : (i : Int) ≤ 39 := by have := HI2.out; omega
            have HX : Hid (i < len1) := hlt
            obtain ⟨b, off, hax, hc⟩ := row_at HR1.out (show 0 < len1 by omega)
            subst hax
            obtain ⟨x, hx⟩ : ∃ x, x = ys.getD i 0 := ⟨_, rfl⟩
            obtain ⟨hc0, hwf⟩ := hc i hlt
            rw [← hx] at hc0 hwf
            have hbl : b < w.heap.size := World.block_lt_of_cell? _ _ hc0
            have e0 : wr.cell? ⟨b, off + i, none⟩ = some (.int .u8 x) := cell_low HB.out (by have := HLO.out; omega) hc0
            have hx1 : 0 ≤ x ∧ x ≤ 255 := by
              simp only [Lit.wf, Bool.and_eq_true, decide_eq_true_eq] at hwf
              exact hwf
            have hxa : 0 ≤ x := hx1.1
            have hxb : x ≤ 255 := hx1.2
            obtain ⟨id, hid⟩ : ∃ id, x.tmod 41 = id := ⟨_, rfl⟩
            clear hc hc0 hx hbl hwf hx1 hi2 hlt
            go_wp2_with fail
            refine (indexi_any (.slice Al nl cl) lb L id wr HW.out.1 (by have := HL.out; omega)).mono ?_
            rintro e w6 ⟨rfl, hw⟩
            have hw := hw.symm
            subst hw
            by_cases hm : id ∈ idsP L
            · obtain ⟨k, hk, hpk, hpi, _⟩ := pos_in hm
              rw [hpi]
              have hk0 : (0 : Int) ≤ (k : Int) := by omega
              have hk40 : (k : Int) ≤ 40 := by have := HL.out; omega
              have HK : Hid (k < L.length) := hk
              have DR := Lib.hid (drop_any lo g rb _ L id wr HS.out (by have := HL.out; omega))
              rw [decide_eq_true hm, if_pos hm, hpk] at DR
              clear hm hk hpk hpi
              go_wp2_with fail
              refine DR.out.mono ?_
              rintro e w7 ⟨rfl, rb7, q7, n7⟩
              have Q7 := Lib.hid q7
              have W7 := Lib.hid (HW.out.nx n7)
              have B7 : Hid (Below lo w w7) := HB.out.trans (n7.below HS.out)
              have DE := Lib.hid (I.delete_any (.slice Al nl cl) lb k (k + 1) (idsP L) w7 W7.out.1 (by omega) (by rw [idsP_len]; exact HK.out) (by rw [idsP_len]; have := HL.out; omega))
              rw [Int.natCast_add, Int.natCast_one] at DE
              clear q7 n7 DR
              go_wp2_with fail
              refine DE.out.mono ?_
              rintro e w8 ⟨v8, rfl, r8, p8⟩
              have hlr : lo ≤ lb ∧ lb < w7.heap.size ∧ lb ≠ g ∧ lb ≠ rb7 := by
                rcases W7.out.2 with h | h
                · injection h with h1 h2 h3
                  have h4 := HK.out
                  have h5 := HNL.out
                  omega
                · exact h
              have hids : (idsP L).take k ++ (idsP L).drop (k + 1) = idsP (L.take k ++ L.drop (k + 1)) := by simp [idsP, List.map_take, List.map_drop]
              rw [hids] at r8
              have Q8 : Hid (SV lo w8 g rb7 ⟨0, 9, p⟩ (L.take k ++ L.drop (k + 1))) := Q7.out.keep p8.size (p8.block g Q7.out.lt.1 (fun e => hlr.2.2.1 e.symm)) (p8.block rb7 Q7.out.lt.2 (fun e => hlr.2.2.2 e.symm))
              have W8 : Hid (LW lo w8 g rb7 v8 lb (idsP (L.take k ++ L.drop (k + 1)))) := ⟨r8, .inr ⟨hlr.1, Nat.lt_of_lt_of_le hlr.2.1 p8.size, hlr.2.2⟩⟩
              have B8 : Hid (Below lo w w8) := B7.out.trans (p8.below hlr.1 (by have := hlr; omega))
              have HL8 : Hid ((L.take k ++ L.drop (k + 1)).length ≤ 40) := by have := HL.out; unfold Hid; simp; omega
              obtain ⟨A8, c8, rfl⟩ := slice_form r8.own
              obtain ⟨n8, hn8⟩ : ∃ n, (idsP (L.take k ++ L.drop (k + 1))).length = n := ⟨_, rfl⟩
              rw [hn8] at W8 ⊢
              clear r8 p8 hlr hids Q7 W7 B7 DE hn8
              go_wp2_with fail
              go_roundw
              case rel =>
                have Q : DB lo g len1 p w (.slice A8 n8 c8) (.int .i64 ((i : Int) + 1)) w8 := ⟨⟨i + 1, rb7, lb, _, L.take k ++ L.drop (k + 1), HX.out, by go_num, rfl, Q8.out, W8.out, HL8.out, B8.out⟩⟩
                first | exact Q | ((repeat apply Exists.intro); exact ⟨Q, rfl⟩)
              case measure => have := HX.out; simp [intOf]; omega
            · rw [pos_out hm]
              have DR := Lib.hid (drop_any lo g rb _ L id wr HS.out (by have := HL.out; omega))
              rw [decide_eq_false hm, if_neg hm] at DR
              clear hm
              go_wp2_with fail
              refine DR.out.mono ?_
              rintro e w7 ⟨rfl, rb7, q7, n7⟩
              have Q7 := Lib.hid q7
              have W7 := Lib.hid (HW.out.nx n7)
              have B7 : Hid (Below lo w w7) := HB.out.trans (n7.below HS.out)
              clear q7 n7 DR
              go_wp2_with fail
              go_roundw
              case rel =>
                have Q : DB lo g len1 p w (.slice Al nl cl) (.int .i64 ((i : Int) + 1)) w7 := ⟨⟨i + 1, rb7, lb, _, L, HX.out, by go_num, rfl, Q7.out, W7.out, HL.out, B7.out⟩⟩
                first | exact Q | ((repeat apply Exists.intro); exact ⟨Q, rfl⟩)
              case measure => have := HX.out; simp [intOf]; omega
          · have hiI : ¬ (i : Int) < (len1 : Int) := by omega
            clear hlt hi2
            go_wp2_with fail
            refine (waiting_any lo g rb _ L wr HS.out (by have := HL.out; omega)).mono ?_
            rintro e w6 ⟨A6, c6, lb6, rfl, r6, f6, b6⟩
            have S6 := Lib.hid (HS.out.below b6)
            have W6 := Lib.hid (HW.out.below b6)
            have R6 := Lib.hid r6
            have B6 : Hid (Below lo w w6) := HB.out.trans (b6.mono (by have := HS.out.lt; have := HS.out.low; omega))
            rw [HNL.out]
            have R6' : Hid (I.RowV w6 (.slice A6 nl c6) lb6 (idsP L)) := by have := R6.out; rw [HNL.out] at this; exact this
            clear r6 f6 b6 HS HW HB R6
            go_wp2_with fail
            refine (I.equal_any _ _ lb6 lb (idsP L) (idsP L) w6 R6'.out W6.out.1 (by rw [idsP_len]; have := HL.out; omega) (by rw [idsP_len]; have := HL.out; omega)).mono ?_
            rintro e w7 ⟨he7, b7⟩
            rw [decide_eq_true rfl] at he7
            subst he7
            have S7 := Lib.hid (S6.out.below b7)
            have W7 := Lib.hid (W6.out.below b7)
            have B7 : Hid (Below lo w w7) := B6.out.trans (b7.mono (by have := S6.out.lt; have := S6.out.low; omega))
            clear b7 S6 W6 B6 R6'
            go_wp2_with fail
            go_loopw [93] (fun iv wr => DC lo g lb (.slice Al nl cl) L p w iv wr) (fun i _ => nl - (intOf i).toNat)
            case atStart => exact ⟨⟨0, rb, Nat.zero_le _, rfl, S7.out, W7.out, B7.out⟩⟩
            case round =>
              clear S7 W7 B7
              obtain ⟨⟨q, rb2, hq, rfl, hs, hlw, hb⟩⟩ := hrel
              have HS := Lib.hid hs
              have HW := Lib.hid hlw
              have HB := Lib.hid hb
              have HQ : Hid (q ≤ L.length) := hq
              clear hs hlw hb
              by_cases hlt : q < nl
              · have hqI : (q : Int) < (nl : Int) := by omega
                have hq39 : (q : Int) ≤ 39 := by have := HL.out; have := HNL.out; omega
                have HX : Hid (q < nl) := hlt
                obtain ⟨⟨c', hv⟩, d0, _⟩ := HW.out.1.cells q (by rw [idsP_len, HNL.out]; exact hlt)
                injection hv with hv hqq hcc
                subst hv hcc
                clear hqq
                rw [ids_getD L q (by rw [HNL.out]; exact hlt)] at d0
                obtain ⟨y, hy⟩ : ∃ y, L.getD q (0, 0) = y := ⟨_, rfl⟩
                rw [hy] at d0
                obtain ⟨y1, y2⟩ := y
                have d0 : wr.cell? ⟨lb, q, none⟩ = some (.int .i64 y1) := d0
                have HS1 : Hid (SV lo wr g rb2 ⟨0, 9, p⟩ ((y1, y2) :: L.drop (q + 1))) := by
                  have h1 := HS.out
                  have h2 : q < L.length := by rw [HNL.out]; exact hlt
                  rw [List.drop_eq_getElem_cons h2] at h1
                  rw [List.getD_eq_getElem?_getD, List.getElem?_eq_getElem h2] at hy
                  simp at hy
                  rw [hy] at h1
                  exact h1
                clear hlt hq hy
                go_wp2_with fail
                refine (signal_wakes lo g rb2 _ _ (L.drop (q + 1)) wr HS1.out (by rw [List.length_drop]; have := HL.out; omega)).mono ?_
                rintro e w8 ⟨rfl, rb8, q8, n8⟩
                have Q8 := Lib.hid q8
                have W8 := Lib.hid (HW.out.nx n8)
                have B8 : Hid (Below lo w w8) := HB.out.trans (n8.below HS1.out)
                clear q8 n8
                go_wp2_with fail
                go_roundw
                case rel =>
                  have Q : DC lo g lb (.slice (some ⟨lb, 0, none⟩) nl cl) L p w (.int .i64 ((q : Int) + 1)) w8 := ⟨⟨q + 1, rb8, by have := HX.out; have := HNL.out; omega, by go_num, Q8.out, W8.out, B8.out⟩⟩
                  first | exact Q | ((repeat apply Exists.intro); exact ⟨Q, rfl⟩)
                case measure => have := HX.out; simp [intOf]; omega
              · have hqI : ¬ (q : Int) < (nl : Int) := by omega
                have HS1 : Hid (SV lo wr g rb2 ⟨0, 9, p⟩ []) := by
                  have h1 := HS.out
                  rw [List.drop_eq_nil_of_le (by rw [HNL.out]; omega)] at h1
                  exact h1
                clear hlt hq
                go_wp2_with fail
                refine (waiting_any lo g rb2 _ [] wr HS1.out (by simp)).mono ?_
                rintro e w8 ⟨A8, c8, lb8, rfl, _, _, b8⟩
                have S8 := Lib.hid (HS1.out.below b8)
                have B8 : Hid (Below lo w w8) := HB.out.trans (b8.mono (by have := HS1.out.lt; have := HS1.out.low; omega))
                clear b8
                go_wp2_with fail
                refine (count_any lo g rb2 _ _ w8 S8.out).mono ?_
                rintro e w9 ⟨rfl, hw⟩
                have hw := hw.symm
                subst hw
                go_wp2_with fail
                go_ret
                exact ⟨rfl, B8.out⟩
end Go.Proofs.Ytobnhjkcbhajbaa.S
