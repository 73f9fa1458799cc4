/-
  EventWakes's walk. Each statement bears its own conditions.
-/
import Derived.Test.YtehlgfflbbfjkaaEvW
namespace Go.Proofs.Ytehlgfflbbfjkaa.E
open Go.RowKit Go.Proofs.Ytehlgfflbbfjkaa.I
set_option linter.unusedVariables false
set_option linter.unusedSimpArgs false
/-- Behind the first i ids. -/
structure WA (lo n : Nat) (w : World) (ov iv : Value) (wr : World) : Prop where
  ex : ∃ (j rb qb : Nat) (v : Value) (L : List Int), j ≤ n ∧ j ≤ 60 ∧ iv = .int .i64 (j : Int) ∧ ov = v ∧ EV lo wr lo rb false L ∧ OW lo wr lo rb v qb L ∧ L.length ≤ j ∧ Below lo w wr
structure WE (lo : Nat) (w : World) (ov : Value) (wx : World) : Prop where
  ex : ∃ (rb qb : Nat) (v : Value) (L : List Int), ov = v ∧ EV lo wx lo rb false L ∧ OW lo wx lo rb v qb L ∧ L.length ≤ 60 ∧ Below lo w wx
structure WB (lo n : Nat) (w : World) (ov iv : Value) (wr : World) : Prop where
  ex : ∃ (j rb qb : Nat) (v : Value) (L : List Int), j ≤ n ∧ j ≤ 60 ∧ iv = .int .i64 (j : Int) ∧ ov = v ∧ EV lo wr lo rb false L ∧ OW lo wr lo rb v qb L ∧ L.length ≤ 60 ∧ Below lo w wr
set_option maxRecDepth 100000 in
set_option maxHeartbeats 8000000 in
theorem wakes_walk (a : Option Addr) (len cap : Nat) (zs : List Int) (a1 : Option Addr) (len1 cap1 : Nat) (ys : List Int) (w : World) (h0 : IsRow .i64 w a len cap zs) (h1 : IsRow .i64 w a1 len1 cap1 ys) : Calls Try.prog 4 #[.slice a len cap, .slice a1 len1 cap1] w fun e w' => e = .returned (.bool true) ∧ Below w.heap.size w w' := by
  have HR := Lib.hid h0
  have HR1 := Lib.hid h1
  obtain ⟨i0, hi, hz0, hz1, hz2⟩ := info_of int_info
  clear h0 h1
  have he : ∀ (x : Nat) (w : World), (binOp .eql 23 (.pointer (some ⟨x, 0, none⟩)) (.pointer none)).run Try.prog w = .ok (.bool false) w := fun _ _ => rfl
  obtain ⟨lo, hlo⟩ : ∃ lo, w.heap.size = lo := ⟨_, rfl⟩
  have NW := Lib.hid (new_any w)
  have HLO : Hid (lo ≤ w.heap.size ∧ w.heap.size ≤ lo) := by unfold Hid; omega
  rw [hlo] at NW ⊢
  clear hlo
  go_enter Try.func4, Try.ntmps4
  go_wp2_with fail
  refine NW.out.mono ?_
  rintro e w1 ⟨rfl, q1, b1⟩
  have Q1 := Lib.hid q1
  have B1 := Lib.hid b1
  clear q1 b1 NW
  go_wp2_with fail
  refine (told_any w1).mono ?_
  rintro e w2 ⟨rfl, b2⟩
  have Q2 : Hid (EV lo w2 lo lo false []) := Q1.out.below b2
  have B2 : Hid (Below lo w w2) := B1.out.trans (b2.mono (by have := Q1.out.lt; omega))
  clear b2 Q1 B1
  go_upto_block 0 with fail
  go_cut [6, 7] (fun ov iv wx => WE lo w ov wx)
  case first =>
    go_wp2_with fail
    go_loopw [6, 7] (fun ov iv wr => WA lo len w ov iv wr) (fun _ i _ => 60 - (intOf i).toNat)
    case atStart => exact ⟨⟨0, lo, 0, .slice none 0 0, [], Nat.zero_le _, Nat.zero_le _, rfl, rfl, Q2.out, OW.nil _ _ _ _, Nat.le_refl _, B2.out⟩⟩
    case round =>
      obtain ⟨⟨j, rb, qb, v, L, hj, hjt, rfl, rfl, hev, how, hll, hb⟩⟩ := hrel
      have HB := Lib.hid hb
      have HE := Lib.hid hev
      have HO := Lib.hid how
      have HJ : Hid (j ≤ len ∧ j ≤ 60 ∧ L.length ≤ 60) := ⟨hj, hjt, by omega⟩
      have HLJ := Lib.hid hll
      obtain ⟨Aq, cq, hv⟩ := slice_form how.1.own
      obtain ⟨nq, hnq⟩ : ∃ nq, L.length = nq := ⟨_, rfl⟩
      rw [hnq] at hv
      subst hv
      have HLN : Hid (L.length = nq) := hnq
      clear hb hev how hll hj hjt hnq
      by_cases hlt : j < len
      · by_cases h60 : j < 60
        · have hjI : (j : Int) < (len : Int) := by omega
          have hj60 : (j : Int) < 60 := by omega
          have HX : Hid (j < len ∧ j < 60) := ⟨hlt, h60⟩
          obtain ⟨b, off, hax, hc⟩ := row_at HR.out (show 0 < len by omega)
          subst hax
          obtain ⟨x, hx⟩ : ∃ x, x = zs.getD j 0 := ⟨_, rfl⟩
          have hc0 := (hc j hlt).1
          rw [← hx] at hc0
          have hbl : b < w.heap.size := World.block_lt_of_cell? _ _ hc0
          have e0 : wr.cell? ⟨b, off + j, none⟩ = some (.int .i64 x) := cell_low HB.out (by have := HLO.out; omega) hc0
          have HBL : Hid (b ≠ lo ∧ b ≠ rb) := by have h1 := HE.out.low; have h2 := HLO.out; unfold Hid; omega
          clear hc hc0 hx hbl
          clear hlt h60
          go_wp2_with fail
          refine (wait_any lo _ _ _ _ x _ HE.out (by have := HJ.out; omega)).mono ?_
          rintro e w3 ⟨rfl, rb3, q3, n3⟩
          have E3 := Lib.hid q3
          have O3 := Lib.hid (HO.out.nx n3)
          have B3 : Hid (Below lo w w3) := HB.out.trans (n3.below HE.out)
          have e1 : w3.cell? ⟨b, off + j, none⟩ = some (.int .i64 x) := n3.ch.cell (by have := HBL.out; show b ≠ lo; omega) (by have := HBL.out; show b ≠ rb; omega) e0
          have CH := Lib.hid (has_any (.slice Aq nq cq) qb L x w3 O3.out.1 (by have := HJ.out; omega))
          clear q3 n3 e0
          by_cases hm : x ∈ L
          · have HW : Hid (waitI false L x = L) := by unfold Hid waitI; rw [if_neg (by simp), if_pos hm]
            rw [decide_eq_true hm] at CH
            clear hm
            go_wp2_with fail
            refine CH.out.mono ?_
            rintro e w4 ⟨rfl, hw⟩
            have hw := hw.symm
            subst hw
            go_wp2_with fail
            go_roundw
            case rel =>
              have Q : WA lo len w (.slice Aq nq cq) (.int .i64 ((j : Int) + 1)) w3 := ⟨⟨j + 1, rb3, qb, _, L, HX.out.1, HX.out.2, by go_num, rfl, by have := E3.out; rw [HW.out] at this; exact this, O3.out, by have := HLJ.out; omega, B3.out⟩⟩
              first | exact Q | ((repeat apply Exists.intro); exact ⟨Q, rfl⟩)
            case measure => have := HX.out; simp [intOf]; omega
          · have HW : Hid (waitI false L x = L ++ [x]) := by unfold Hid waitI; rw [if_neg (by simp), if_neg hm]
            rw [decide_eq_false hm] at CH
            rw [HW.out] at E3
            clear hm
            have e2 : (w3.alloc (.cells #[.int .i64 x] 3)).cell? ⟨b, off + j, none⟩ = some (.int .i64 x) := cell_al _ e1
            go_wp2_with fail
            refine CH.out.mono ?_
            rintro e w4 ⟨rfl, hw⟩
            have hw := hw.symm
            subst hw
            have HO1 : Hid ((w3.alloc (.cells #[.int .i64 x] 3)).ownsRow 0 3 1 (.slice Aq nq cq) nq (C L)) := by
              have := own_below O3.out.1.own ((Below.refl _ _).alloc (Nat.le_refl _) (.cells #[.int .i64 x] 3))
              rw [HLN.out] at this
              exact this
            have RD := Lib.hid (one_row (w := w3) (.int .i64 x) 3)
            go_wp2_with (at_builtin; refine wpList_append_any _ rfl _ _ 26 rfl 0 3 i0 (.int .i64 0) 1 8 Try.underlying26 hi hz0 hz1 hz2 rfl (by decide) _ _ _ rfl HO1.out (w3.heap.size + 1) (some ⟨w3.heap.size, 0, none⟩) 1 1 [.int .i64 x] rfl RD.out ?c2 ?c3 ?c4 ?c5 ?_)
            case c2 => intro u hu; simp at hu; subst hu; rfl
            case c3 => have := HLN.out; have := HJ.out; unfold maxLen; omega
            case c4 => have := HLN.out; have := HJ.out; omega
            case c5 => exact Nat.zero_le _
            intro v2 w2 hown hgrow hblk
            obtain ⟨A2, c2, rfl⟩ := slice_form hown
            have G := O3.out.grow E3.out (x := x) (by rw [HLN.out]; exact hown) hgrow hblk
            obtain ⟨qb2, g1, g2, g3⟩ := G
            have G1 := Lib.hid g1
            have G2 := Lib.hid g2
            have G3 : Hid (Below lo w w2) := B3.out.trans g3
            clear g1 g2 g3 hown hgrow hblk
            go_wp2_with fail
            go_roundw
            case rel =>
              have Q : WA lo len w (.slice A2 (nq + 1) c2) (.int .i64 ((j : Int) + 1)) w2 := ⟨⟨j + 1, rb3, qb2, _, L ++ [x], HX.out.1, HX.out.2, by go_num, rfl, G2.out, G1.out, by have := HLJ.out; simp; omega, G3.out⟩⟩
              first | exact Q | ((repeat apply Exists.intro); exact ⟨Q, rfl⟩)
            case measure => have := HX.out; simp [intOf]; omega
        · have hjI : (j : Int) < (len : Int) := by omega
          have hj60 : ¬ (j : Int) < 60 := by omega
          clear hlt h60
          go_wp2_with fail
          go_meet
          exact ⟨⟨rb, qb, _, L, rfl, HE.out, HO.out, HJ.out.2.2, HB.out⟩⟩
      · have hjI : ¬ (j : Int) < (len : Int) := by omega
        clear hlt
        go_wp2_with fail
        go_meet
        exact ⟨⟨rb, qb, _, L, rfl, HE.out, HO.out, HJ.out.2.2, HB.out⟩⟩
  case rest =>
    obtain ⟨w3, hw3⟩ : ∃ w', w' = wc := ⟨_, rfl⟩
    subst hw3
    obtain ⟨⟨rb, qb, v, L, rfl, hev, how, hll, hb⟩⟩ := hcut
    have E3 := Lib.hid hev
    have O3 := Lib.hid how
    have HL3 := Lib.hid hll
    have B3 := Lib.hid hb
    clear hev how hll hb Q2 B2
    go_wp2_with fail
    go_loopw [6, 8] (fun ov iv wr => WB lo len1 w ov iv wr) (fun _ i _ => 60 - (intOf i).toNat)
    case atStart => exact ⟨⟨0, rb, qb, _, L, Nat.zero_le _, Nat.zero_le _, rfl, rfl, E3.out, O3.out, HL3.out, B3.out⟩⟩
    case round =>
      clear E3 O3 HL3 B3
      obtain ⟨⟨j, rb, qb, v, L, hj, hjt, rfl, rfl, hev, how, hll, hb⟩⟩ := hrel
      have HB := Lib.hid hb
      have HE := Lib.hid hev
      have HO := Lib.hid how
      have HJ : Hid (j ≤ len1 ∧ j ≤ 60 ∧ L.length ≤ 60) := ⟨hj, hjt, by omega⟩
      have HLJ := Lib.hid hll
      obtain ⟨Aq, cq, hv⟩ := slice_form how.1.own
      obtain ⟨nq, hnq⟩ : ∃ nq, L.length = nq := ⟨_, rfl⟩
      rw [hnq] at hv
      subst hv
      have HLN : Hid (L.length = nq) := hnq
      clear hb hev how hll hj hjt hnq
      by_cases hlt : j < len1
      · by_cases h60 : j < 60
        · have hjI : (j : Int) < (len1 : Int) := by omega
          have hj60 : (j : Int) < 60 := by omega
          have HX : Hid (j < len1 ∧ j < 60) := ⟨hlt, h60⟩
          obtain ⟨b, off, hax, hc⟩ := row_at HR1.out (show 0 < len1 by omega)
          subst hax
          obtain ⟨x, hx⟩ : ∃ x, x = ys.getD j 0 := ⟨_, rfl⟩
          have hc0 := (hc j hlt).1
          rw [← hx] at hc0
          have hbl : b < w.heap.size := World.block_lt_of_cell? _ _ hc0
          have e0 : wr.cell? ⟨b, off + j, none⟩ = some (.int .i64 x) := cell_low HB.out (by have := HLO.out; omega) hc0
          have HBL : Hid (b ≠ lo ∧ b ≠ rb) := by have h1 := HE.out.low; have h2 := HLO.out; unfold Hid; omega
          clear hc hc0 hx hbl
          clear hlt h60
          go_wp2_with fail
          obtain ⟨t, ht⟩ : ∃ t, decide (x ∈ L) = t := ⟨_, rfl⟩
          have HT := Lib.hid ht
          clear ht
          refine wp_region_held_drew (S := (fun w' => w'.cell? ⟨b, off + j, none⟩ = some (.int .i64 x))) (by kernel_rfl) ?_ (fun hHeld => ?_)
          · exact e0
          refine takeD (i := 0) (d := some 56) (v := ?_) _ rfl rfl (by kernel_rfl) (by kernel_rfl) (by kernel_rfl) (fun _ _ _ h => h) (by rfl) ?_ (by assumption) ?_
          rotate_left
          · (intro w hSw; (try dsimp only at hSw); go_simp) <;> with_reducible rfl
          try simp only [Act.put, List.setIfInBounds_toArray, List.set_cons_zero, List.set_cons_succ]
          refine takeD (i := 1) (d := some 57) (v := ?_) _ rfl rfl (by kernel_rfl) (by kernel_rfl) (by kernel_rfl) (fun _ _ _ h => h) (by rfl) ?_ (by assumption) ?_
          rotate_left
          · (intro w hSw; (try dsimp only at hSw); go_simp) <;> with_reducible rfl
          try simp only [Act.put, List.setIfInBounds_toArray, List.set_cons_zero, List.set_cons_succ]
          refine takeD (i := 2) (d := some 58) (v := ?_) _ rfl rfl (by kernel_rfl) (by kernel_rfl) (by kernel_rfl) (fun _ _ _ h => h) (by rfl) ?_ (by assumption) ?_
          rotate_left
          · (intro w hSw; (try dsimp only at hSw); go_simp) <;> with_reducible rfl
          try simp only [Act.put, List.setIfInBounds_toArray, List.set_cons_zero, List.set_cons_succ]
          refine takeD (i := 3) (d := some 59) (v := ?_) _ rfl rfl (by kernel_rfl) (by kernel_rfl) (by kernel_rfl) (fun _ _ _ h => h) (by rfl) ?_ (by assumption) ?_
          rotate_left
          · (intro w hSw; (try dsimp only at hSw); go_simp) <;> with_reducible rfl
          try simp only [Act.put, List.setIfInBounds_toArray, List.set_cons_zero, List.set_cons_succ]
          refine takeD (i := 4) (d := some 60) (v := ?_) _ rfl rfl (by kernel_rfl) (by kernel_rfl) (by kernel_rfl) (fun _ _ _ h => h) (by rfl) ?_ (by assumption) ?_
          rotate_left
          · (intro w hSw; (try dsimp only at hSw); go_simp) <;> with_reducible rfl
          try simp only [Act.put, List.setIfInBounds_toArray, List.set_cons_zero, List.set_cons_succ]
          refine takeD (i := 6) (d := some 62) (v := ?_) _ rfl rfl (by kernel_rfl) (by kernel_rfl) (by kernel_rfl) (fun _ _ _ h => h) (by rfl) ?_ (by assumption) ?_
          rotate_left
          · (intro w hSw; (try dsimp only at hSw); go_simp) <;> with_reducible rfl
          try simp only [Act.put, List.setIfInBounds_toArray, List.set_cons_zero, List.set_cons_succ]
          refine takeD (i := 7) (d := some 63) (v := ?_) _ rfl rfl (by kernel_rfl) (by kernel_rfl) (by kernel_rfl) (fun _ _ _ h => h) (by rfl) ?_ (by assumption) ?_
          rotate_left
          · (intro w hSw; (try dsimp only at hSw); go_simp) <;> with_reducible rfl
          try simp only [Act.put, List.setIfInBounds_toArray, List.set_cons_zero, List.set_cons_succ]
          refine takeD (i := 8) (d := some 64) (v := ?_) _ rfl rfl (by kernel_rfl) (by kernel_rfl) (by kernel_rfl) (fun _ _ _ h => h) (by rfl) ?_ (by assumption) ?_
          rotate_left
          · (intro w hSw; (try dsimp only at hSw); go_simp) <;> with_reducible rfl
          try simp only [Act.put, List.setIfInBounds_toArray, List.set_cons_zero, List.set_cons_succ]
          refine takeD (i := 9) (d := some 65) (v := ?_) _ rfl rfl (by kernel_rfl) (by kernel_rfl) (by kernel_rfl) (fun _ _ _ h => h) (by rfl) ?_ (by assumption) ?_
          rotate_left
          · (intro w hSw; (try dsimp only at hSw); go_simp) <;> with_reducible rfl
          try simp only [Act.put, List.setIfInBounds_toArray, List.set_cons_zero, List.set_cons_succ]
          refine takeD (i := 10) (d := some 66) (v := ?_) _ rfl rfl (by kernel_rfl) (by kernel_rfl) (by kernel_rfl) (fun _ _ _ h => h) (by rfl) ?_ (by assumption) ?_
          rotate_left
          · (intro w hSw; (try dsimp only at hSw); go_simp) <;> with_reducible rfl
          try simp only [Act.put, List.setIfInBounds_toArray, List.set_cons_zero, List.set_cons_succ]
          refine wpAnyH_ready (rs := [5]) (by kernel_rfl) (by simp) ?_
          refine AllReadyH.cons rfl (fun K hK => ?_) AllReadyH.nil
          try go_simp
          go_at_call 17
          refine (drop_any lo _ _ _ _ x _ (HE.out.below (Below.refl _ _).drew) (by have := HJ.out; omega)).mono ?_
          rintro e w3 ⟨rfl, q3, n3⟩
          rw [HT.out]
          have E3 := Lib.hid q3
          have O3 := Lib.hid ((HO.out.below (Below.refl _ _).drew).nx n3)
          have B3 : Hid (Below lo w w3) := HB.out.drew.trans (n3.below (HE.out.below (Below.refl _ _).drew))
          have e1 : w3.cell? ⟨b, off + j, none⟩ = some (.int .i64 x) := n3.ch.cell (by have := HBL.out; show b ≠ lo; omega) (by have := HBL.out; show b ≠ rb; omega) e0
          clear q3 n3
          try go_wp2_with fail
          refine hK.out _ _ ?_ (fun hHeld => ?_)
          · exact e1
          clear hK K
          try simp only [Act.put, List.setIfInBounds_toArray, List.set_cons_zero, List.set_cons_succ]
          refine wpAnyH_ready (rs := [11]) (by kernel_rfl) (by simp) ?_
          refine AllReadyH.cons rfl (fun K hK => ?_) AllReadyH.nil
          try go_simp
          go_at_call 16
          refine (has_any (.slice Aq nq cq) qb L x w3 O3.out.1 (by have := HJ.out; omega)).mono ?_
          rintro e w4 ⟨rfl, hw⟩
          have hw := hw.symm
          subst hw
          rw [HT.out]
          try go_wp2_with fail
          refine hK.out _ _ ?_ (fun hHeld => ?_)
          · exact e1
          clear hK K
          try simp only [Act.put, List.setIfInBounds_toArray, List.set_cons_zero, List.set_cons_succ]
          refine takeD (i := 12) (d := some 68) (v := ?_) _ rfl rfl (by kernel_rfl) (by kernel_rfl) (by kernel_rfl) (fun _ _ _ h => h) (by rfl) ?_ (by assumption) ?_
          rotate_left
          · (intro w hSw; (try dsimp only at hSw); go_simp) <;> with_reducible rfl
          try simp only [Act.put, List.setIfInBounds_toArray, List.set_cons_zero, List.set_cons_succ]
          refine wpAnyH_done (by kernel_rfl) ?_ _
          clear hHeld
          go_wp2_with fail
          refine (without_any (.slice Aq nq cq) qb L x w3 O3.out.1 (by have := HJ.out; omega)).mono ?_
          rintro e w5 ⟨A5, c5, rfl, o5, b5⟩
          have E5 := Lib.hid (E3.out.below b5)
          have B5 : Hid (Below lo w w5) := B3.out.trans (b5.mono (by have := E3.out.lt; omega))
          have HL5 : Hid ((outI L x).length ≤ 60) := by have := outI_len L x; have := HJ.out; unfold Hid; omega
          obtain ⟨qb5, o6⟩ := OW.of_own (lo := lo) (g := lo) (rb := rb) o5 (by have := E3.out.lt; omega) E3.out.lt.1 E3.out.lt.2
          have O5 := Lib.hid o6
          clear o5 b5 o6 e0 e1
          generalize (outI L x).length = m5 at O5 ⊢
          go_wp2_with fail
          go_roundw
          case rel =>
            have Q : WB lo len1 w (.slice A5 m5 c5) (.int .i64 ((j : Int) + 1)) w5 := ⟨⟨j + 1, rb, qb5, _, outI L x, HX.out.1, HX.out.2, by go_num, rfl, E5.out, O5.out, HL5.out, B5.out⟩⟩
            first | exact Q | ((repeat apply Exists.intro); exact ⟨Q, rfl⟩)
          case measure => have := HX.out; simp [intOf]; omega
        · have hjI : (j : Int) < (len1 : Int) := by omega
          have hj60 : ¬ (j : Int) < 60 := by omega
          clear hlt h60
          go_wp2_with fail
          refine (set_any lo _ _ _ _ _ HE.out).mono ?_
          rintro e w3 ⟨A3, n3, c3, rx, rfl, r3, f3, e3, x3⟩
          have R3 := Lib.hid r3
          have E3 := Lib.hid e3
          have O3 : Hid (RowV w3 (.slice Aq nq cq) qb L) := (HO.out.nx x3).1
          have B3 : Hid (Below lo w w3) := HB.out.trans (x3.below HE.out)
          clear r3 f3 e3 x3
          go_wp2_with fail
          refine (rsame_any _ _ rx qb L L w3 R3.out O3.out (by have := HJ.out; omega) (by have := HJ.out; omega)).mono ?_
          rintro e w4 ⟨he4, b4⟩
          rw [decide_eq_true rfl] at he4
          subst he4
          have E4 := Lib.hid (E3.out.below b4)
          have B4 : Hid (Below lo w w4) := B3.out.trans (b4.mono (by have := E3.out.lt; omega))
          clear b4 E3 R3 O3 B3
          go_wp2_with fail
          refine (set_any lo _ _ _ _ _ E4.out).mono ?_
          rintro e w5 ⟨A5, n5, c5, rx5, rfl, r5, _, e5, x5⟩
          obtain ⟨A6, c6, hv⟩ := slice_form r5.own
          injection hv with h1 h2 h3
          simp at h2
          subst h2
          have E5 := Lib.hid e5
          have B5 : Hid (Below lo w w5) := B4.out.trans (x5.below E4.out)
          clear r5 e5 x5 h1 h3 E4 B4
          go_wp2_with fail
          refine (up_any lo _ _ _ _ _ E5.out).mono ?_
          rintro e w6 ⟨rfl, hw⟩
          have hw := hw.symm
          subst hw
          go_wp2_with fail
          go_ret
          exact ⟨rfl, B5.out⟩
      · have hjI : ¬ (j : Int) < (len1 : Int) := by omega
        clear hlt
        go_wp2_with fail
        refine (set_any lo _ _ _ _ _ HE.out).mono ?_
        rintro e w3 ⟨A3, n3, c3, rx, rfl, r3, f3, e3, x3⟩
        have R3 := Lib.hid r3
        have E3 := Lib.hid e3
        have O3 : Hid (RowV w3 (.slice Aq nq cq) qb L) := (HO.out.nx x3).1
        have B3 : Hid (Below lo w w3) := HB.out.trans (x3.below HE.out)
        clear r3 f3 e3 x3
        go_wp2_with fail
        refine (rsame_any _ _ rx qb L L w3 R3.out O3.out (by have := HJ.out; omega) (by have := HJ.out; omega)).mono ?_
        rintro e w4 ⟨he4, b4⟩
        rw [decide_eq_true rfl] at he4
        subst he4
        have E4 := Lib.hid (E3.out.below b4)
        have B4 : Hid (Below lo w w4) := B3.out.trans (b4.mono (by have := E3.out.lt; omega))
        clear b4 E3 R3 O3 B3
        go_wp2_with fail
        refine (set_any lo _ _ _ _ _ E4.out).mono ?_
        rintro e w5 ⟨A5, n5, c5, rx5, rfl, r5, _, e5, x5⟩
        obtain ⟨A6, c6, hv⟩ := slice_form r5.own
        injection hv with h1 h2 h3
        simp at h2
        subst h2
        have E5 := Lib.hid e5
        have B5 : Hid (Below lo w w5) := B4.out.trans (x5.below E4.out)
        clear r5 e5 x5 h1 h3 E4 B4
        go_wp2_with fail
        refine (up_any lo _ _ _ _ _ E5.out).mono ?_
        rintro e w6 ⟨rfl, hw⟩
        have hw := hw.symm
        subst hw
        go_wp2_with fail
        go_ret
        exact ⟨rfl, B5.out⟩
end Go.Proofs.Ytehlgfflbbfjkaa.E
