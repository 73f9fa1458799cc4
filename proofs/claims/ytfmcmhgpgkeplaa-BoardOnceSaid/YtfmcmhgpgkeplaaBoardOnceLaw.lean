/-
  BoardOnce's walk. Each statement bears its own conditions.
-/
import Derived.Test.YtfmcmhgpgkeplaaBdL
namespace Go.Proofs.Ytfmcmhgpgkeplaa.B
open Go.RowKit Go.Proofs.Ytfmcmhgpgkeplaa.F Go.Proofs.Ytfmcmhgpgkeplaa.I
set_option linter.unusedVariables false
set_option linter.unusedSimpArgs false
structure OR1 (lo g n : Nat) (w : World) (ov iv : Value) (wr : World) : Prop where
  ex : ∃ (j : Nat) (q : Nat → Prop) (v : Value) (L : List Int), j ≤ n ∧ iv = .int .i64 (j : Int) ∧ ov = v ∧ BV lo wr q g 32 false [] L ∧ Ow 3 wr (fun b => lo ≤ b ∧ ¬ q b) v L.length (C L) ∧ L.Nodup ∧ L.length ≤ j ∧ Below lo w wr
structure OR2 (lo g n : Nat) (M : List Int) (w : World) (iv : Value) (wr : World) : Prop where
  ex : ∃ (j : Nat) (q : Nat → Prop), j ≤ n ∧ iv = .int .i64 (j : Int) ∧ BV lo wr q g 32 true M [] ∧ Below lo w wr
set_option maxRecDepth 100000 in
set_option maxHeartbeats 8000000 in
theorem once_walk (a0 : Option Addr) (len0 cap0 : Nat) (zs : List Int) (a1 : Int) (a2 : Option Addr) (len2 cap2 : Nat) (z2 : List Int) (w : World) (h0 : IsRow .i64 w a0 len0 cap0 zs) (h1 : (Lit.int .u8 a1).wf = true) (h2 : IsRow .u32 w a2 len2 cap2 z2) : Calls Try.prog 4 #[.slice a0 len0 cap0, .int .u8 a1, .slice a2 len2 cap2] w fun e w' => e = .returned (.bool true) ∧ Below w.heap.size w w' := by
  have hsq := h2.sq
  have HR := Lib.hid h0
  have HU : Hid (0 ≤ a1 ∧ a1 < 256) := by
    have := h1
    simp only [Lit.wf, Bool.and_eq_true, decide_eq_true_eq] at this
    have h5 : (IntKind.u8.min : Int) = 0 := rfl
    have h6 : (IntKind.u8.max : Int) = 255 := rfl
    unfold Hid; omega
  obtain ⟨M, hM⟩ : ∃ M, z2.take len2 = M := ⟨_, rfl⟩
  have hML : M.length = len2 := by rw [← hM, List.length_take]; have := h2.le; omega
  rw [hM] at hsq
  have HSQ : Hid (Sq w (fun b => b < w.heap.size) (.slice a2 len2 cap2) len2 (CU M)) := hsq
  clear h0 h1 h2 hM hsq
  by_cases h40 : len0 ≤ 40
  rotate_left
  · have hq : (40 : Int) < (len0 : Int) := by omega
    have hqb : decide ((40 : Int) < (len0 : Int)) = true := by simpa using hq
    have SP := Lib.hid (speaks_any w)
    clear HSQ hML h40
    go_enter Try.func4, Try.ntmps4
    go_wp2_with fail
    refine SP.out.mono ?_
    rintro e w1 ⟨rfl, b1⟩
    have B1 := Lib.hid b1
    clear b1
    go_wp2_with fail
    refine (speaks_any w1).mono ?_
    rintro e w2 ⟨rfl, b2⟩
    have B2 : Hid (Below w.heap.size w w2) := B1.out.trans (b2.mono B1.out.size)
    clear b2
    go_wp2_with fail
    go_ret
    exact ⟨rfl, B2.out⟩

  have H40 : Hid (len0 ≤ 40) := h40
  have hq : ¬ (40 : Int) < (len0 : Int) := by omega
  have hqb : decide ((40 : Int) < (len0 : Int)) = false := by simpa using hq
  clear h40
  by_cases h32 : len2 ≤ 32
  rotate_left
  · have hq : (32 : Int) < (len2 : Int) := by omega
    have hqb : decide ((32 : Int) < (len2 : Int)) = true := by simpa using hq
    have SP := Lib.hid (speaks_any w)
    clear HSQ hML h32
    go_enter Try.func4, Try.ntmps4
    go_wp2_with fail
    refine SP.out.mono ?_
    rintro e w1 ⟨rfl, b1⟩
    have B1 := Lib.hid b1
    clear b1
    go_wp2_with fail
    refine (speaks_any w1).mono ?_
    rintro e w2 ⟨rfl, b2⟩
    have B2 : Hid (Below w.heap.size w w2) := B1.out.trans (b2.mono B1.out.size)
    clear b2
    go_wp2_with fail
    go_ret
    exact ⟨rfl, B2.out⟩

  have H32 : Hid (len2 ≤ 32) := h32
  have hq2 : ¬ (32 : Int) < (len2 : Int) := by omega
  have hqb2 : decide ((32 : Int) < (len2 : Int)) = false := by simpa using hq2
  have HML := Lib.hid hML
  obtain ⟨i0, hi, hz0, hz1, hz2⟩ := info_of int_info
  clear hML h32
  have he := he_bd
  obtain ⟨lo, hlo⟩ : ∃ lo, w.heap.size = lo := ⟨_, rfl⟩
  have SP := Lib.hid (speaks_any w)
  have HLO : Hid (lo ≤ w.heap.size ∧ w.heap.size ≤ lo) := by unfold Hid; omega
  rw [hlo] at SP HSQ ⊢
  clear hlo
  go_enter Try.func4, Try.ntmps4
  go_wp2_with fail
  refine SP.out.mono ?_
  rintro e w1 ⟨rfl, b1⟩
  have B1 := Lib.hid b1
  clear b1 SP
  go_wp2_with fail
  refine (new_any 32 w1 (by omega) (by omega)).mono ?_
  rintro e w2 ⟨rfl, q2, b2⟩
  obtain ⟨g, hg⟩ : ∃ g, w1.heap.size = g := ⟨_, rfl⟩
  have HG : Hid (lo ≤ g) := by unfold Hid; have := B1.out.size; have := HLO.out; omega
  rw [hg] at q2 b2
  have Q2 := Lib.hid (q2.less HG.out)
  have B2 : Hid (Below lo w w2) := B1.out.trans (b2.mono HG.out)
  simp only [hg]
  clear q2 b2 B1 hg
  go_wp2_with fail
  go_loopw [9, 48] (fun ov iv wr => OR1 lo g len0 w ov iv wr) (fun _ i _ => 41 - (intOf i).toNat)
  case atStart => exact ⟨⟨0, _, .slice none 0 0, [], Nat.zero_le _, rfl, rfl, Q2.out, Ow.nil _ _ _, List.nodup_nil, Nat.le_refl _, B2.out⟩⟩
  case round =>
    obtain ⟨⟨j, q, v, L, hj, rfl, rfl, hev, how, hnd, hll, hb⟩⟩ := hrel
    have HB := Lib.hid hb
    have HE := Lib.hid hev
    have HO := Lib.hid how
    have HND := Lib.hid hnd
    have HJ : Hid (j ≤ len0 ∧ L.length ≤ j ∧ L.length ≤ 40) := ⟨hj, hll, by have := H40.out; omega⟩
    obtain ⟨Av, cv, hv⟩ := how.sl
    subst hv
    clear hb hev how hnd hll hj
    by_cases hlt : j < len0
    · have hjI : (j : Int) < (len0 : Int) := by omega
      have hj40 : (j : Int) < 40 := by have := H40.out; omega
      have HX : Hid (j < len0) := hlt
      obtain ⟨b, off, hax, hbl, hc⟩ := row_at HR.out (show 0 < len0 by omega)
      subst hax
      obtain ⟨x, hx⟩ : ∃ x, x = zs.getD j 0 := ⟨_, rfl⟩
      have hc0 := (hc j hlt).1
      rw [← hx] at hc0
      have e0 : wr.cell? ⟨b, off + j, none⟩ = some (.int .i64 x) := cell_low HB.out (by have := HLO.out; omega) hc0
      clear hc hc0 hx hbl hlt
      go_wp2_with fail
      refine (read_any lo q g 32 false [] L x wr HE.out (by have := HJ.out; omega)).mono ?_
      rintro e w4 ⟨r, q', rfl, o4, q4, n4⟩
      obtain ⟨A4, c4, rfl⟩ := o4.sl
      have Q4 := Lib.hid q4
      have O4 := Lib.hid (HO.out.nx n4)
      have B4 : Hid (Below lo w w4) := HB.out.trans (HE.out.nx n4)
      have CN := Lib.hid (contains_any _ _ L x w4 O4.out.sq (by have := HJ.out; omega))
      clear o4 q4 n4
      by_cases hm : x ∈ L
      · have Q5 : Hid (BV lo w4 q' g 32 false [] L) := by have := Q4.out; unfold readL at this; rw [if_neg (by simp), if_pos hm] at this; exact this
        rw [decide_eq_true hm] at CN
        clear hm Q4
        go_wp2_with fail
        refine CN.out.mono ?_
        rintro e w5 ⟨rfl, hw⟩
        have hw := hw.symm
        subst hw
        go_wp2_with fail
        go_roundw
        case rel =>
          have Q : OR1 lo g len0 w (.slice Av L.length cv) (.int .i64 ((j : Int) + 1)) w4 := ⟨⟨j + 1, q', _, L, HX.out, by go_num, rfl, Q5.out, O4.out, HND.out, by have := HJ.out; omega, B4.out⟩⟩
          first | exact Q | ((repeat apply Exists.intro); exact ⟨Q, rfl⟩)
        case measure => have := HX.out; have := H40.out; simp [intOf]; omega
      · have Q5 : Hid (BV lo w4 q' g 32 false [] (L ++ [x])) := by have := Q4.out; unfold readL at this; rw [if_neg (by simp), if_neg hm] at this; exact this
        have HND2 : Hid ((L ++ [x]).Nodup) := by
          unfold Hid
          rw [List.nodup_append]
          exact ⟨HND.out, by simp, fun a ha b hb => by simp at hb; subst hb; rintro rfl; exact hm ha⟩
        rw [decide_eq_false hm] at CN
        have HO1 : Hid ((w4.alloc (.cells #[.int .i64 x] 3)).ownsRow 0 3 1 (.slice Av L.length cv) L.length (C L)) := own_below O4.out.own ((Below.refl _ _).alloc (Nat.le_refl _) _)
        have RD := Lib.hid (one_row (w := w4) (.int .i64 x) 3)
        clear hm Q4
        go_wp2_with fail
        refine CN.out.mono ?_
        rintro e w5 ⟨rfl, hw⟩
        have hw := hw.symm
        subst hw
        go_wp2_with (at_builtin; refine wpList_append_any _ rfl _ _ 29 rfl 0 3 i0 (.int .i64 0) 1 8 Try.underlying29 hi hz0 hz1 hz2 rfl (by decide) _ _ _ rfl HO1.out (w4.heap.size + 1) (some ⟨w4.heap.size, 0, none⟩) 1 1 [.int .i64 x] rfl RD.out ?c2 ?c3 ?c4 ?c5 ?_)
        case c2 => intro u hu; simp at hu; subst hu; rfl
        case c3 => have := HJ.out; unfold maxLen; omega
        case c4 => have := HJ.out; omega
        case c5 => omega
        intro v2 w5 hown hgrow hblk
        obtain ⟨A2, c2, rfl⟩ := slice_form hown
        have G := grow_own Q5.out O4.out hown hgrow hblk
        have Q6 := Lib.hid G.2.1
        have O6 : Hid (Ow 3 w5 (fun b => lo ≤ b ∧ ¬ q' b) (.slice A2 (L.length + 1) c2) (L ++ [x]).length (C (L ++ [x]))) := by
          have := G.1
          unfold Hid
          rw [C_app, List.length_append]; exact this
        have B6 : Hid (Below lo w w5) := B4.out.trans G.2.2
        clear hown hgrow hblk G O4 B4 HO1 RD Q5
        go_wp2_with fail
        go_roundw
        case rel =>
          have Q : OR1 lo g len0 w (.slice A2 (L.length + 1) c2) (.int .i64 ((j : Int) + 1)) w5 := ⟨⟨j + 1, q', _, L ++ [x], HX.out, by go_num, rfl, Q6.out, O6.out, HND2.out, by have := HJ.out; simp; omega, B6.out⟩⟩
          first | exact Q | ((repeat apply Exists.intro); exact ⟨Q, rfl⟩)
        case measure => have := HX.out; have := H40.out; simp [intOf]; omega
    · have hjI : ¬ (j : Int) < (len0 : Int) := by omega
      clear hlt
      by_cases hL0 : L = []
      · subst hL0
        have HKL : Hid (([] : List Int).length ≤ 40) := by simp [Hid]
        obtain ⟨wq, hwq⟩ : ∃ wq, wr = wq := ⟨_, rfl⟩
        subst hwq
        have QQ := HE
        have OO := HO
        have BB := HB
        go_wp2_with fail
        have S3 := Lib.hid (sq_low HSQ.out BB.out)
        have hm3 : Sq wr (fun b => b < lo) (.slice a2 len2 cap2) M.length (CU M) := by rw [HML.out]; exact S3.out
        refine (show_any lo q g 32 false [] [] _ _ M wr QQ.out hm3 (by have := H32.out; have := HML.out; omega)).mono ?_
        rintro e w4 ⟨r, q4, rfl, o4, q4', n4⟩
        obtain ⟨A4, c4, rfl⟩ := o4.sl
        have Q4 : Hid (BV lo w4 q4 g 32 true M []) := q4'
        have O4 := Lib.hid (OO.out.nx n4)
        have P4 : Hid (Ow 3 w4 (fun b => q b ∧ ¬ q4 b) (.slice A4 ([] : List Int).length c4) ([] : List Int).length (C [])) := o4
        have B4 : Hid (Below lo w w4) := BB.out.trans (QQ.out.nx n4)
        have hm4 : Sq w4 (fun b => b < lo) (.slice a2 len2 cap2) M.length (CU M) := by rw [HML.out]; exact sq_low HSQ.out B4.out
        clear o4 q4' n4 hm3 S3 QQ OO BB
        go_wp2_with fail
        refine (show_any lo q4 g 32 true M [] _ _ M w4 Q4.out hm4 (by have := H32.out; have := HML.out; omega)).mono ?_
        rintro e w5 ⟨r, q5, rfl, o5, q5', n5⟩
        obtain ⟨A5, c5, rfl⟩ := o5.sl
        have Q5 : Hid (BV lo w5 q5 g 32 true M []) := q5'
        have O5 := Lib.hid (O4.out.nx n5)
        have P5 := Lib.hid (P4.out.nx n5)
        have B5 : Hid (Below lo w w5) := B4.out.trans (Q4.out.nx n5)
        have EQ := Lib.hid (iequal_same _ _ _ _ [] w5 P5.out.sq.st O5.out.sq.st (by have := HKL.out; omega))
        clear o5 q5' n5 hm4 Q4 O4 P4 B4
        go_wp2_with fail
        refine EQ.out.mono ?_
        rintro e w6 ⟨rfl, b6⟩
        have Q6 := Lib.hid (Q5.out.below b6)
        have B6 : Hid (Below lo w w6) := B5.out.trans (b6.mono Q5.out.nil)
        clear b6 EQ Q5 O5 P5 B5
        go_wp2_with fail
        go_loopw [127] (fun iv wr => OR2 lo g len0 M w iv wr) (fun i _ => 41 - (intOf i).toNat)
        case atStart => exact ⟨⟨0, _, Nat.zero_le _, rfl, Q6.out, B6.out⟩⟩
        case round =>
          obtain ⟨⟨j, q7, hj, rfl, hev, hb⟩⟩ := hrel
          have HB := Lib.hid hb
          have HE := Lib.hid hev
          clear hb hev
          by_cases hlt : j < len0
          · have hjI : (j : Int) < (len0 : Int) := by omega
            have hj40 : (j : Int) < 40 := by have := H40.out; omega
            have HX : Hid (j < len0) := hlt
            obtain ⟨b, off, hax, hbl, hc⟩ := row_at HR.out (show 0 < len0 by omega)
            subst hax
            obtain ⟨x, hx⟩ : ∃ x, x = zs.getD j 0 := ⟨_, rfl⟩
            have hc0 := (hc j hlt).1
            rw [← hx] at hc0
            have e0 : wr.cell? ⟨b, off + j, none⟩ = some (.int .i64 x) := cell_low HB.out (by have := HLO.out; omega) hc0
            clear hc hc0 hx hbl hlt hj
            go_wp2_with fail
            refine (read_any lo q7 g 32 true M [] x wr HE.out (by simp)).mono ?_
            rintro e w8 ⟨r, q8, rfl, o8, q8', n8⟩
            obtain ⟨A8, c8, rfl⟩ := o8.sl
            have Q8 : Hid (BV lo w8 q8 g 32 true M []) := q8'
            have P8 := Lib.hid o8
            have B8 : Hid (Below lo w w8) := HB.out.trans (HE.out.nx n8)
            have hm8 : Sq w8 (fun b => b < lo) (.slice a2 len2 cap2) M.length (CU M) := by rw [HML.out]; exact sq_low HSQ.out B8.out
            have EQ := Lib.hid (uequal_same _ _ _ _ M w8 P8.out.sq.st hm8.st (by have := HML.out; have := H32.out; omega))
            clear o8 q8' n8 hm8
            go_wp2_with fail
            refine EQ.out.mono ?_
            rintro e w9 ⟨rfl, b9⟩
            have Q9 := Lib.hid (Q8.out.below b9)
            have B9 : Hid (Below lo w w9) := B8.out.trans (b9.mono Q8.out.nil)
            clear b9 EQ Q8 P8 B8
            go_wp2_with fail
            refine (waiting_any lo q8 g 32 true M [] _ Q9.out (by simp)).mono ?_
            rintro e w10 ⟨r, rfl, o10, b10⟩
            obtain ⟨A10, c10, rfl⟩ := slice_form o10
            have Q10 := Lib.hid (Q9.out.below b10)
            have B10 : Hid (Below lo w w10) := B9.out.trans (b10.mono Q9.out.nil)
            clear b10 o10 Q9 B9
            go_wp2_with fail
            go_roundw
            case rel =>
              have Q : OR2 lo g len0 M w (.int .i64 ((j : Int) + 1)) w10 := ⟨⟨j + 1, q8, HX.out, by go_num, Q10.out, B10.out⟩⟩
              first | exact Q | ((repeat apply Exists.intro); exact ⟨Q, rfl⟩)
            case measure => have := HX.out; have := H40.out; simp [intOf]; omega
          · have hjI : ¬ (j : Int) < (len0 : Int) := by omega
            clear hlt hj
            go_wp2_with fail
            go_ret
            exact ⟨rfl, HB.out⟩
      · have hLp : 0 < L.length := by rcases L with _ | ⟨y, L⟩; exact absurd rfl hL0; simp
        have hLI : (0 : Int) < (L.length : Int) := by omega
        have hLz : ¬ (L.length : Int) = 0 := by omega
        have hLz2 : ¬ L.length = 0 := by omega
        obtain ⟨k, hkm, hkl⟩ : ∃ k : Nat, a1.tmod (L.length : Int) = (k : Int) ∧ k < L.length := by
          have hu := HU.out
          refine ⟨(a1.tmod (L.length : Int)).toNat, ?_, ?_⟩
          · have := Int.tmod_nonneg (L.length : Int) hu.1
            omega
          · have := Int.tmod_lt_of_pos a1 hLI
            have := Int.tmod_nonneg (L.length : Int) hu.1
            omega
        have hkw : (wrap64 a1).tmod (L.length : Int) = (k : Int) := by rw [IntWalk.wrap64_in _ (by have := HU.out; omega)]; exact hkm
        clear hkm
        have HKl : Hid (k < L.length) := hkl
        have hkI : (k : Int) < (L.length : Int) := by omega
        have hk40 : (k : Int) < 40 := by have := HJ.out; omega
        obtain ⟨x, hx⟩ : ∃ x, L[k]? = some x := ⟨_, List.getElem?_eq_getElem hkl⟩
        have HXM : Hid (x ∈ L) := List.mem_of_getElem? hx
        have HXE : Hid (x ∉ L.erase x) := by
          unfold Hid
          rw [List.Nodup.mem_erase_iff HND.out]
          exact fun h => h.1 rfl
        have HNT : Hid (x ∉ L.take k) := by
          unfold Hid
          intro hm
          obtain ⟨i, hi1⟩ := List.mem_iff_getElem?.1 hm
          have hik : i < k := by
            have := (List.getElem?_eq_some_iff.1 hi1).1
            rw [List.length_take] at this; omega
          rw [List.getElem?_take_of_lt hik] at hi1
          have := (List.getElem?_inj (by omega) HND.out).1 (hi1.trans hx.symm)
          omega
        have HCE := Lib.hid (cut_erase hx HNT.out)
        have hcx : (C L)[k]? = some (.int .i64 x) := by simp [C, hx]
        have HCX := Lib.hid hcx
        obtain ⟨_, b, off, hAv, _, _, hcell⟩ := HO.out.sq.at_ hLp
        subst hAv
        have e0 := hcell k _ hcx
        have DY := Lib.hid (drop_yes lo q g 32 false [] L x wr HE.out (by have := HJ.out; omega) HXM.out)
        clear hcell hx hcx hkl
        go_wp2_with fail
        refine DY.out.mono ?_
        rintro e w4 ⟨rfl, q4, n4⟩
        have Q4 := Lib.hid q4
        have O4 := Lib.hid (HO.out.nx n4)
        have B4 : Hid (Below lo w w4) := HB.out.trans (HE.out.nx n4)
        have e4 : w4.cell? ⟨b, off + k, none⟩ = some (.int .i64 x) := by
          obtain ⟨_, b', off', hAv, _, _, hcell⟩ := O4.out.sq.at_ hLp
          injection hAv with hAv
          injection hAv with h1 h2 h3
          subst h1 h2
          exact hcell k _ HCX.out
        have DN := Lib.hid (drop_no lo q g 32 false [] (L.erase x) x w4 Q4.out (by have := HJ.out; have := List.length_erase_le (a := x) (l := L); omega) HXE.out)
        clear q4 n4 e0 DY
        go_wp2_with fail
        refine DN.out.mono ?_
        rintro e w5 ⟨rfl, hw⟩
        have hw := hw.symm
        subst hw
        have DD := Lib.hid (own_delete O4.out k (by have := HKl.out; omega) (by have := HJ.out; omega))
        rw [HCE.out] at DD
        go_wp2_with fail
        refine DD.out.mono ?_
        rintro e w6 ⟨v', rfl, o6, f6⟩
        obtain ⟨A6, c6, rfl⟩ := o6.sl
        obtain ⟨K, hK⟩ : ∃ K, L.erase x = K := ⟨_, rfl⟩
        have HKL : Hid (K.length ≤ 40) := by
          rw [← hK]
          have := HJ.out; have := List.length_erase_le (a := x) (l := L); unfold Hid; omega
        rw [hK] at Q4 o6
        rw [hK]
        obtain ⟨wq, hwq⟩ : ∃ wq, w6 = wq := ⟨_, rfl⟩
        subst hwq
        have QQ : Hid (BV lo w6 q g 32 false [] K) := Q4.out.fo f6 (fun b hb h => h.2 hb)
        have OO := Lib.hid o6
        have BB : Hid (Below lo w w6) := B4.out.trans (f6.below (fun b hb => hb.1) Q4.out.nil)
        clear DD DN Q4 O4 B4 o6 f6 hK
        go_wp2_with fail
        have S3 := Lib.hid (sq_low HSQ.out BB.out)
        have hm3 : Sq w6 (fun b => b < lo) (.slice a2 len2 cap2) M.length (CU M) := by rw [HML.out]; exact S3.out
        refine (show_any lo q g 32 false [] K _ _ M w6 QQ.out hm3 (by have := H32.out; have := HML.out; omega)).mono ?_
        rintro e w4 ⟨r, q4, rfl, o4, q4', n4⟩
        obtain ⟨A4, c4, rfl⟩ := o4.sl
        have Q4 : Hid (BV lo w4 q4 g 32 true M []) := q4'
        have O4 := Lib.hid (OO.out.nx n4)
        have P4 : Hid (Ow 3 w4 (fun b => q b ∧ ¬ q4 b) (.slice A4 K.length c4) K.length (C K)) := o4
        have B4 : Hid (Below lo w w4) := BB.out.trans (QQ.out.nx n4)
        have hm4 : Sq w4 (fun b => b < lo) (.slice a2 len2 cap2) M.length (CU M) := by rw [HML.out]; exact sq_low HSQ.out B4.out
        clear o4 q4' n4 hm3 S3 QQ OO BB
        go_wp2_with fail
        refine (show_any lo q4 g 32 true M [] _ _ M w4 Q4.out hm4 (by have := H32.out; have := HML.out; omega)).mono ?_
        rintro e w5 ⟨r, q5, rfl, o5, q5', n5⟩
        obtain ⟨A5, c5, rfl⟩ := o5.sl
        have Q5 : Hid (BV lo w5 q5 g 32 true M []) := q5'
        have O5 := Lib.hid (O4.out.nx n5)
        have P5 := Lib.hid (P4.out.nx n5)
        have B5 : Hid (Below lo w w5) := B4.out.trans (Q4.out.nx n5)
        have EQ := Lib.hid (iequal_same _ _ _ _ K w5 P5.out.sq.st O5.out.sq.st (by have := HKL.out; omega))
        clear o5 q5' n5 hm4 Q4 O4 P4 B4
        go_wp2_with fail
        refine EQ.out.mono ?_
        rintro e w6 ⟨rfl, b6⟩
        have Q6 := Lib.hid (Q5.out.below b6)
        have B6 : Hid (Below lo w w6) := B5.out.trans (b6.mono Q5.out.nil)
        clear b6 EQ Q5 O5 P5 B5
        go_wp2_with fail
        go_loopw [127] (fun iv wr => OR2 lo g len0 M w iv wr) (fun i _ => 41 - (intOf i).toNat)
        case atStart => exact ⟨⟨0, _, Nat.zero_le _, rfl, Q6.out, B6.out⟩⟩
        case round =>
          obtain ⟨⟨j, q7, hj, rfl, hev, hb⟩⟩ := hrel
          have HB := Lib.hid hb
          have HE := Lib.hid hev
          clear hb hev
          by_cases hlt : j < len0
          · have hjI : (j : Int) < (len0 : Int) := by omega
            have hj40 : (j : Int) < 40 := by have := H40.out; omega
            have HX : Hid (j < len0) := hlt
            obtain ⟨b, off, hax, hbl, hc⟩ := row_at HR.out (show 0 < len0 by omega)
            subst hax
            obtain ⟨x, hx⟩ : ∃ x, x = zs.getD j 0 := ⟨_, rfl⟩
            have hc0 := (hc j hlt).1
            rw [← hx] at hc0
            have e0 : wr.cell? ⟨b, off + j, none⟩ = some (.int .i64 x) := cell_low HB.out (by have := HLO.out; omega) hc0
            clear hc hc0 hx hbl hlt hj
            go_wp2_with fail
            refine (read_any lo q7 g 32 true M [] x wr HE.out (by simp)).mono ?_
            rintro e w8 ⟨r, q8, rfl, o8, q8', n8⟩
            obtain ⟨A8, c8, rfl⟩ := o8.sl
            have Q8 : Hid (BV lo w8 q8 g 32 true M []) := q8'
            have P8 := Lib.hid o8
            have B8 : Hid (Below lo w w8) := HB.out.trans (HE.out.nx n8)
            have hm8 : Sq w8 (fun b => b < lo) (.slice a2 len2 cap2) M.length (CU M) := by rw [HML.out]; exact sq_low HSQ.out B8.out
            have EQ := Lib.hid (uequal_same _ _ _ _ M w8 P8.out.sq.st hm8.st (by have := HML.out; have := H32.out; omega))
            clear o8 q8' n8 hm8
            go_wp2_with fail
            refine EQ.out.mono ?_
            rintro e w9 ⟨rfl, b9⟩
            have Q9 := Lib.hid (Q8.out.below b9)
            have B9 : Hid (Below lo w w9) := B8.out.trans (b9.mono Q8.out.nil)
            clear b9 EQ Q8 P8 B8
            go_wp2_with fail
            refine (waiting_any lo q8 g 32 true M [] _ Q9.out (by simp)).mono ?_
            rintro e w10 ⟨r, rfl, o10, b10⟩
            obtain ⟨A10, c10, rfl⟩ := slice_form o10
            have Q10 := Lib.hid (Q9.out.below b10)
            have B10 : Hid (Below lo w w10) := B9.out.trans (b10.mono Q9.out.nil)
            clear b10 o10 Q9 B9
            go_wp2_with fail
            go_roundw
            case rel =>
              have Q : OR2 lo g len0 M w (.int .i64 ((j : Int) + 1)) w10 := ⟨⟨j + 1, q8, HX.out, by go_num, Q10.out, B10.out⟩⟩
              first | exact Q | ((repeat apply Exists.intro); exact ⟨Q, rfl⟩)
            case measure => have := HX.out; have := H40.out; simp [intOf]; omega
          · have hjI : ¬ (j : Int) < (len0 : Int) := by omega
            clear hlt hj
            go_wp2_with fail
            go_ret
            exact ⟨rfl, HB.out⟩
end Go.Proofs.Ytfmcmhgpgkeplaa.B
