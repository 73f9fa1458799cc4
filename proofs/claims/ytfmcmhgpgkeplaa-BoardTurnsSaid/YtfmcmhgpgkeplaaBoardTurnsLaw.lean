/-
  BoardTurns's walk. Each statement bears its own conditions.
-/
import Derived.Test.YtfmcmhgpgkeplaaBdL
namespace Go.Proofs.Ytfmcmhgpgkeplaa.B
open Go.RowKit Go.Proofs.Ytfmcmhgpgkeplaa.F Go.Proofs.Ytfmcmhgpgkeplaa.I
set_option linter.unusedVariables false
set_option linter.unusedSimpArgs false
structure TR (lo g n : Nat) (w : World) (sv ov iv : Value) (wr : World) : Prop where
  ex : ∃ (j : Nat) (q : Nat → Prop) (sh : Bool) (v : Value) (M L : List Int), j ≤ n ∧ iv = .int .i64 (j : Int) ∧ sv = .bool sh ∧ ov = v ∧ BV lo wr q g 1 sh M L ∧ Ow 3 wr (fun b => lo ≤ b ∧ ¬ q b) v L.length (C L) ∧ (sh = true → L = []) ∧ (∀ x ∈ L, x < (j : Int)) ∧ L.length ≤ j ∧ Below lo w wr
set_option maxRecDepth 100000 in
set_option maxHeartbeats 8000000 in
theorem turns_walk (a : Option Addr) (len cap : Nat) (zs : List Int) (w : World) (h0 : IsRow .u8 w a len cap zs) : Calls Try.prog 8 #[.slice a len cap] w fun e w' => e = .returned (.bool true) ∧ Below w.heap.size w w' := by
  have HR := Lib.hid h0
  clear h0
  by_cases h40 : len ≤ 40
  rotate_left
  · have hq : (40 : Int) < (len : Int) := by omega
    have hqb : decide ((40 : Int) < (len : Int)) = true := by simpa using hq
    have SP := Lib.hid (speaks_any w)
    go_enter Try.func8, Try.ntmps8
    go_wp2_with fail
    refine SP.out.mono ?_
    rintro e w1 ⟨rfl, b1⟩
    have B1 := Lib.hid b1
    clear b1
    go_wp2_with fail
    refine (speaks_any w1).mono ?_
    rintro e w2 ⟨rfl, b2⟩
    have B2 : Hid (Below w.heap.size w w2) := B1.out.trans (b2.mono B1.out.size)
    clear b2
    go_wp2_with fail
    go_ret
    exact ⟨rfl, B2.out⟩

  have H40 : Hid (len ≤ 40) := h40
  have hq : ¬ (40 : Int) < (len : Int) := by omega
  have hqb : decide ((40 : Int) < (len : Int)) = false := by simpa using hq
  obtain ⟨i0, hi, hz0, hz1, hz2⟩ := info_of int_info
  clear h40
  have he := he_bd
  obtain ⟨lo, hlo⟩ : ∃ lo, w.heap.size = lo := ⟨_, rfl⟩
  have SP := Lib.hid (speaks_any w)
  have HLO : Hid (lo ≤ w.heap.size ∧ w.heap.size ≤ lo) := by unfold Hid; omega
  rw [hlo] at SP ⊢
  clear hlo
  go_enter Try.func8, Try.ntmps8
  go_wp2_with fail
  refine SP.out.mono ?_
  rintro e w1 ⟨rfl, b1⟩
  have B1 := Lib.hid b1
  clear b1 SP
  go_wp2_with fail
  refine (new_any 1 w1 (by omega) (by omega)).mono ?_
  rintro e w2 ⟨rfl, q2, b2⟩
  obtain ⟨g, hg⟩ : ∃ g, w1.heap.size = g := ⟨_, rfl⟩
  have HG : Hid (lo ≤ g) := by unfold Hid; have := B1.out.size; have := HLO.out; omega
  rw [hg] at q2 b2
  have Q2 := Lib.hid (q2.less HG.out)
  have B2 : Hid (Below lo w w2) := B1.out.trans (b2.mono HG.out)
  simp only [hg]
  clear q2 b2 B1 hg
  go_wp2_with fail
  go_loopw [5, 6, 33] (fun sv ov iv wr => TR lo g len w sv ov iv wr) (fun _ _ i _ => 40 - (intOf i).toNat)
  case atStart => exact ⟨⟨0, _, false, .slice none 0 0, [], [], Nat.zero_le _, rfl, rfl, rfl, Q2.out, Ow.nil _ _ _, (fun h => by cases h), (fun x hx => by cases hx), Nat.le_refl _, B2.out⟩⟩
  case round =>
    obtain ⟨⟨j, q, sh, v, M, L, hj, rfl, rfl, rfl, hev, how, hnu, hlt, hll, hb⟩⟩ := hrel
    have HB := Lib.hid hb
    have HE := Lib.hid hev
    have HO := Lib.hid how
    have HNU := Lib.hid hnu
    have HLT := Lib.hid hlt
    have HJ : Hid (j ≤ len ∧ L.length ≤ j ∧ j ≤ 40) := ⟨hj, hll, by have := H40.out; omega⟩
    obtain ⟨Av, cv, hv⟩ := how.sl
    subst hv
    clear hb hev how hnu hlt hll hj
    by_cases hlt : j < len
    · have hjI : (j : Int) < (len : Int) := by omega
      have hj40 : (j : Int) < 40 := by have := H40.out; omega
      have HX : Hid (j < len) := hlt
      obtain ⟨b, off, hax, hbl, hc⟩ := row_at HR.out (show 0 < len by omega)
      subst hax
      obtain ⟨x, hx⟩ : ∃ x, x = zs.getD j 0 := ⟨_, rfl⟩
      have hc0 := (hc j hlt).1
      rw [← hx] at hc0
      have e0 : wr.cell? ⟨b, off + j, none⟩ = some (.int .u8 x) := cell_low HB.out (by have := HLO.out; omega) hc0
      clear hc hc0 hx hbl
      have hw32 : IntKind.u32.wrap (j : Int) = (j : Int) := IntWalk.u32_in _ ⟨by omega, by omega⟩
      have HNJ : Hid ((j : Int) ∉ L) := fun h => by have := HLT.out _ h; omega
      have HLJ : Hid (L.length ≤ 40) := by have := HJ.out; unfold Hid; omega
      clear hlt
      by_cases h0 : x.tmod 4 = 0
      · have hb0 : (x.tmod 4 == 0) = true := by rw [beq_iff_eq]; exact h0
        go_wp2_with fail
        refine (clear_any lo q g 1 sh M L wr HE.out).mono ?_
        rintro e w4 ⟨rfl, q4, n4⟩
        have Q4 := Lib.hid q4
        have O4 := Lib.hid (HO.out.nx n4)
        have B4 : Hid (Below lo w w4) := HB.out.trans (HE.out.nx n4)
        clear q4 n4
        go_wp2_with fail
        refine (waiting_any lo q g 1 false [] L _ Q4.out (by have := HLJ.out; omega)).mono ?_
        rintro e wq ⟨rq, rfl, oq, bq⟩
        obtain ⟨Aq, cq, rfl⟩ := slice_form oq
        have EQ := Lib.hid (iequal_same _ _ _ _ L wq (Ow.of_own oq).sq.st (O4.out.below bq).sq.st (by have := HLJ.out; omega))
        have Q4' := Lib.hid (Q4.out.below bq)
        have O4' := Lib.hid (O4.out.below bq)
        have B4' : Hid (Below lo w wq) := B4.out.trans (bq.mono Q4.out.nil)
        clear oq bq
        go_wp2_with fail
        refine EQ.out.mono ?_
        rintro e we ⟨rfl, be⟩
        have Q4' := Lib.hid (Q4'.out.below be)
        have O4' := Lib.hid (O4'.out.below be)
        have B4' : Hid (Below lo w we) := B4'.out.trans (be.mono (by have := Q4.out.nil; have := B4'.out.size; have := HLO.out; omega))
        clear be EQ
        go_wp2_with fail
        go_roundw
        case rel =>
          have Q : TR lo g len w (.bool false) _ (.int .i64 ((j : Int) + 1)) we := ⟨⟨j + 1, q, false, _, [], L, HX.out, by go_num, rfl, rfl, Q4'.out, O4'.out, (fun h => by cases h), (fun x hx => by have := HLT.out x hx; omega), by have := HJ.out; omega, B4'.out⟩⟩
          first | exact Q | ((repeat apply Exists.intro); exact ⟨Q, rfl⟩)
        case measure => have := HX.out; have := H40.out; simp [intOf]; omega
      · have hb0 : (x.tmod 4 == 0) = false := by rw [beq_eq_false_iff_ne]; exact h0
        by_cases h1 : x.tmod 4 = 1
        · have hb1 : (x.tmod 4 == 1) = true := by rw [beq_iff_eq]; exact h1
          have S3 := Lib.hid (Sq.lit wr #[.int .u32 (j : Int)] 40 1 1 rfl)
          have hx : Below wr.heap.size wr (wr.alloc (.cells #[.int .u32 (j : Int)] 40)) := (Below.refl _ _).alloc (Nat.le_refl _) _
          have E3 := Lib.hid (HE.out.below hx)
          have O3 := Lib.hid (HO.out.below hx)
          have B3 : Hid (Below lo w (wr.alloc (.cells #[.int .u32 (j : Int)] 40))) := HB.out.trans (hx.mono HE.out.nil)
          clear hx h0
          go_wp2_with fail
          refine (show_any lo q g 1 sh M L _ _ [(j : Int)] _ E3.out S3.out (by simp)).mono ?_
          rintro e w4 ⟨r, q', rfl, o4, q4, n4⟩
          obtain ⟨A4, c4, rfl⟩ := o4.sl
          have Q4 := Lib.hid q4
          have O4 := Lib.hid (O3.out.nx n4)
          have B4 : Hid (Below lo w w4) := B3.out.trans (E3.out.nx n4)
          have EQ := Lib.hid (iequal_same _ _ _ _ L w4 o4.sq.st O4.out.sq.st (by have := HLJ.out; omega))
          clear q4 n4 o4 S3 E3 O3 B3
          go_wp2_with fail
          refine EQ.out.mono ?_
          rintro e w5 ⟨rfl, b5⟩
          have Q5 := Lib.hid (Q4.out.below b5)
          have B5 : Hid (Below lo w w5) := B4.out.trans (b5.mono Q4.out.nil)
          have O5 : Hid (Ow 3 w5 (fun b => lo ≤ b ∧ ¬ q' b) (.slice none 0 0) ([] : List Int).length (C [])) := Ow.nil _ _ _
          clear b5 EQ Q4 O4 B4
          go_wp2_with fail
          refine (waiting_any lo q' g 1 true [(j : Int)] [] _ Q5.out (by simp)).mono ?_
          rintro e wq ⟨rq, rfl, oq, bq⟩
          obtain ⟨Aq, cq, rfl⟩ := slice_form oq
          have EQ := Lib.hid (iequal_same _ _ _ _ [] wq (Ow.of_own oq).sq.st (O5.out.below bq).sq.st (by simp))
          have Q5' := Lib.hid (Q5.out.below bq)
          have O5' := Lib.hid (O5.out.below bq)
          have B5' : Hid (Below lo w wq) := B5.out.trans (bq.mono Q5.out.nil)
          clear oq bq
          go_wp2_with fail
          refine EQ.out.mono ?_
          rintro e we ⟨rfl, be⟩
          have Q5' := Lib.hid (Q5'.out.below be)
          have O5' := Lib.hid (O5'.out.below be)
          have B5' : Hid (Below lo w we) := B5'.out.trans (be.mono (by have := Q5.out.nil; have := B5'.out.size; have := HLO.out; omega))
          clear be EQ
          go_wp2_with fail
          go_roundw
          case rel =>
            have Q : TR lo g len w (.bool true) _ (.int .i64 ((j : Int) + 1)) we := ⟨⟨j + 1, q', true, _, [(j : Int)], [], HX.out, by go_num, rfl, rfl, Q5'.out, O5'.out, fun _ => rfl, (fun x hx => by cases hx), Nat.zero_le _, B5'.out⟩⟩
            first | exact Q | ((repeat apply Exists.intro); exact ⟨Q, rfl⟩)
          case measure => have := HX.out; have := H40.out; simp [intOf]; omega
        · have hb1 : (x.tmod 4 == 1) = false := by rw [beq_eq_false_iff_ne]; exact h1
          clear h0 h1
          have CR := Lib.hid (read_any lo q g 1 sh M L (j : Int) wr HE.out (by have := HLJ.out; omega))
          cases sh with
          | true =>
            have HL0 : Hid (L = []) := HNU.out rfl
            go_wp2_with fail
            refine CR.out.mono ?_
            rintro e w4 ⟨r, q', rfl, o4, q4, n4⟩
            obtain ⟨A4, c4, rfl⟩ := o4.sl
            have Q4 : Hid (BV lo w4 q' g 1 true M L) := by have := q4; unfold readL at this; rw [if_pos rfl] at this; exact this
            have O4 := Lib.hid (HO.out.nx n4)
            have B4 : Hid (Below lo w w4) := HB.out.trans (HE.out.nx n4)
            clear q4 n4 o4 CR
            go_wp2_with fail
            refine (waiting_any lo q' g 1 true M L _ Q4.out (by have := HLJ.out; omega)).mono ?_
            rintro e wq ⟨rq, rfl, oq, bq⟩
            obtain ⟨Aq, cq, rfl⟩ := slice_form oq
            have EQ := Lib.hid (iequal_same _ _ _ _ L wq (Ow.of_own oq).sq.st (O4.out.below bq).sq.st (by have := HLJ.out; omega))
            have Q4' := Lib.hid (Q4.out.below bq)
            have O4' := Lib.hid (O4.out.below bq)
            have B4' : Hid (Below lo w wq) := B4.out.trans (bq.mono Q4.out.nil)
            clear oq bq
            go_wp2_with fail
            refine EQ.out.mono ?_
            rintro e we ⟨rfl, be⟩
            have Q4' := Lib.hid (Q4'.out.below be)
            have O4' := Lib.hid (O4'.out.below be)
            have B4' : Hid (Below lo w we) := B4'.out.trans (be.mono (by have := Q4.out.nil; have := B4'.out.size; have := HLO.out; omega))
            clear be EQ
            go_wp2_with fail
            go_roundw
            case rel =>
              have Q : TR lo g len w (.bool true) _ (.int .i64 ((j : Int) + 1)) we := ⟨⟨j + 1, q', true, _, M, L, HX.out, by go_num, rfl, rfl, Q4'.out, O4'.out, fun _ => HL0.out, (fun x hx => by have := HLT.out x hx; omega), by have := HJ.out; omega, B4'.out⟩⟩
              first | exact Q | ((repeat apply Exists.intro); exact ⟨Q, rfl⟩)
            case measure => have := HX.out; have := H40.out; simp [intOf]; omega
          | false =>
            go_wp2_with fail
            refine CR.out.mono ?_
            rintro e w4 ⟨r, q', rfl, o4, q4, n4⟩
            obtain ⟨A4, c4, rfl⟩ := o4.sl
            have Q4 : Hid (BV lo w4 q' g 1 false M (L ++ [(j : Int)])) := by have := q4; unfold readL at this; rw [if_neg (by simp), if_neg HNJ.out] at this; exact this
            have O4 := Lib.hid (HO.out.nx n4)
            have B4 : Hid (Below lo w w4) := HB.out.trans (HE.out.nx n4)
            have HO1 : Hid ((w4.alloc (.cells #[.int .i64 (j : Int)] 3)).ownsRow 0 3 1 (.slice Av L.length cv) L.length (C L)) := own_below O4.out.own ((Below.refl _ _).alloc (Nat.le_refl _) _)
            have RD := Lib.hid (one_row (w := w4) (.int .i64 (j : Int)) 3)
            clear q4 n4 o4 CR
            go_wp2_with (at_builtin; refine wpList_append_any _ rfl _ _ 29 rfl 0 3 i0 (.int .i64 0) 1 8 Try.underlying29 hi hz0 hz1 hz2 rfl (by decide) _ _ _ rfl HO1.out (w4.heap.size + 1) (some ⟨w4.heap.size, 0, none⟩) 1 1 [.int .i64 (j : Int)] rfl RD.out ?c2 ?c3 ?c4 ?c5 ?_)
            case c2 => intro u hu; simp at hu; subst hu; rfl
            case c3 => have := HLJ.out; unfold maxLen; omega
            case c4 => have := HLJ.out; omega
            case c5 => omega
            intro v2 w5 hown hgrow hblk
            obtain ⟨A2, c2, rfl⟩ := slice_form hown
            have G := grow_own Q4.out O4.out hown hgrow hblk
            have Q5 := Lib.hid G.2.1
            have O5 : Hid (Ow 3 w5 (fun b => lo ≤ b ∧ ¬ q' b) (.slice A2 (L.length + 1) c2) (L ++ [(j : Int)]).length (C (L ++ [(j : Int)]))) := by
              have := G.1
              unfold Hid
              rw [C_app, List.length_append]; exact this
            have B5 : Hid (Below lo w w5) := B4.out.trans G.2.2
            clear hown hgrow hblk G Q4 O4 B4 HO1 RD
            obtain ⟨K, hK⟩ : ∃ K, L ++ [(j : Int)] = K := ⟨_, rfl⟩
            have HKL : Hid (K.length = L.length + 1 ∧ ∀ x ∈ K, x < ((j + 1 : Nat) : Int)) := by
              rw [← hK]
              refine ⟨by simp, fun x hx => ?_⟩
              rcases List.mem_append.1 hx with hx | hx
              · have := HLT.out x hx; omega
              · simp at hx; omega
            rw [hK] at Q5 O5
            clear hK
            go_wp2_with fail
            refine (waiting_any lo q' g 1 false M K _ Q5.out (by have := HLJ.out; have := HKL.out.1; omega)).mono ?_
            rintro e wq ⟨rq, rfl, oq, bq⟩
            obtain ⟨Aq, cq, rfl⟩ := slice_form oq
            have EQ := Lib.hid (iequal_same _ _ _ _ K wq (Ow.of_own oq).sq.st (O5.out.below bq).sq.st (by have := HLJ.out; have := HKL.out.1; omega))
            have Q5' := Lib.hid (Q5.out.below bq)
            have O5' := Lib.hid (O5.out.below bq)
            have B5' : Hid (Below lo w wq) := B5.out.trans (bq.mono Q5.out.nil)
            clear oq bq
            go_wp2_with fail
            refine EQ.out.mono ?_
            rintro e we ⟨rfl, be⟩
            have Q5' := Lib.hid (Q5'.out.below be)
            have O5' := Lib.hid (O5'.out.below be)
            have B5' : Hid (Below lo w we) := B5'.out.trans (be.mono (by have := Q5.out.nil; have := B5'.out.size; have := HLO.out; omega))
            clear be EQ
            go_wp2_with fail
            go_roundw
            case rel =>
              have Q : TR lo g len w (.bool false) _ (.int .i64 ((j : Int) + 1)) we := ⟨⟨j + 1, q', false, _, M, K, HX.out, by go_num, rfl, rfl, Q5'.out, O5'.out, (fun h => by cases h), HKL.out.2, by have := HJ.out; have := HKL.out.1; omega, B5'.out⟩⟩
              first | exact Q | ((repeat apply Exists.intro); exact ⟨Q, rfl⟩)
            case measure => have := HX.out; have := H40.out; simp [intOf]; omega
    · have hjI : ¬ (j : Int) < (len : Int) := by omega
      clear hlt
      go_wp2_with fail
      go_ret
      exact ⟨rfl, HB.out⟩
end Go.Proofs.Ytfmcmhgpgkeplaa.B
