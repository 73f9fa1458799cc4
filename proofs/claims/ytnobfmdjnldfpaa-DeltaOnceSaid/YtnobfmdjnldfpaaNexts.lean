/-
  The walk of DeltaNexts. Each statement bears its own conditions.
-/
import Derived.Test.YtnobfmdjnldfpaaDeeds
namespace Go.Proofs.Ytnobfmdjnldfpaa
open Go.RowKit
set_option linter.unusedVariables false
set_option linter.unusedSimpArgs false
structure NxRel (L : List (Int × Int)) (g rb g' rb' : Nat) (w w2 : World) (v kv : Value) (wr : World) : Prop where
  ex : ∃ (i d : Nat) (A : Option Addr) (c : Nat), i + d = L.length ∧ kv = .int .i64 (d : Int) ∧ v = .slice A i c ∧ wr.ownsRow w2.heap.size 3 1 (.slice A i c) i (I ((L.take i).map Prod.fst)) ∧ TF wr g rb (L.drop i) ∧ TF wr g' rb' L ∧ Below w.heap.size w wr ∧ w2.heap.size ≤ wr.heap.size
set_option maxRecDepth 100000 in
set_option maxHeartbeats 2000000 in
theorem nexts_walk (a : Option Addr) (len cap : Nat) (w : World) (h0 : DeedRow w a len) (hlen : len ≤ maxLen) :
    Calls Try.prog 7 #[.slice a len cap] w fun e w' => e = .returned (.bool true) ∧ Below w.heap.size w w' := by
  have SP := Lib.hid (speaks_any w)
  obtain ⟨i0, hi, hz0, hz1, hz2⟩ := info_of int_info
  have H0 := Lib.hid h0
  by_cases h40 : len ≤ 40
  · have h4I : ¬ (40 : Int) < (len : Int) := by omega
    have HN : Hid (len ≤ 40) := h40
    clear h0 hlen h40
    go_enter Try.func7, Try.ntmps7
    go_wp2_with fail
    refine SP.out.mono ?_
    rintro e w1 ⟨rfl, b1⟩
    have B1 := Lib.hid b1
    clear b1 SP
    go_wp2_with fail
    obtain ⟨g, hG⟩ : ∃ g, w1.heap.size = g := ⟨_, rfl⟩
    have he : ∀ (x : Nat) (w : World), (binOp .eql 24 (.pointer (some ⟨x, 0, none⟩)) (.pointer none)).run Try.prog w = .ok (.bool false) w := fun _ _ => rfl
    have NE := Lib.hid (new_any w1)
    have HG : Hid (w.heap.size ≤ g) := by unfold Hid; have := B1.out.size; omega
    rw [hG] at NE
    refine NE.out.mono ?_
    rintro e w0 ⟨rfl, h0, b0⟩
    rw [← hG] at b0
    have Z0 := Lib.hid h0
    have B0 := Lib.hid (B1.out.trans (b0.mono B1.out.size))
    clear h0 b0 NE hG
    go_wp2_with fail
    go_loopw [25] (fun i wr => FlRel len g w i wr) (fun i _ => 1001 - (intOf i).toNat)
    case atStart => exact ⟨⟨0, g, [], Nat.zero_le _, rfl, Z0.out, List.Pairwise.nil, List.nodup_nil, by intro x hx; simp at hx, Nat.le_refl _, B0.out, HG.out⟩⟩
    case round =>
      obtain ⟨⟨j, rb, L, hj, rfl, ht, hs, hd, hbn, hl, hb, hrb⟩⟩ := hrel
      have HT := Lib.hid ht
      have HS := Lib.hid hs
      have HD := Lib.hid hd
      have HBN := Lib.hid hbn
      have HLn := Lib.hid hl
      have HB := Lib.hid hb
      have HRB := Lib.hid hrb
      have HJ := Lib.hid hj
      have HL1 : Hid (L.length ≤ 1000) := by unfold Hid; have := HN.out; omega
      clear ht hs hd hbn hl hb hrb hj Z0 B0
      by_cases hlt : j < len
      · obtain ⟨b, off, Kf, Mf, Tf, rfl, hc⟩ := H0.out (by omega)
        obtain ⟨c0, c1, c2, _, htm⟩ := hc j hlt
        obtain ⟨kj, hkj⟩ : ∃ x, Kf j = x := ⟨_, rfl⟩
        obtain ⟨mj, hmj⟩ : ∃ x, Mf j = x := ⟨_, rfl⟩
        obtain ⟨tj, htj⟩ : ∃ x, Tf j = x := ⟨_, rfl⟩
        rw [hkj] at c0
        rw [hmj] at c1
        rw [htj] at c2 htm
        have HTM := Lib.hid htm
        have d0 := cell_later HB.out c0
        have d1 := cell_later HB.out c1
        have d2 := cell_later HB.out c2
        have hjI : (j : Int) < (len : Int) := by omega
        have hj2 : (j : Int) < 1000 := by have := HN.out; omega
        have HX : Hid (j < len) := hlt
        clear hc hkj hmj htj c0 c1 c2 hlt htm
        go_wp2_with fail
        have BA : Below wr.heap.size wr (wr.alloc (.cells #[.int .u8 kj, .int .i64 mj, .int .i64 tj] 28)) := (Below.refl _ _).alloc (Nat.le_refl _) _
        refine (set_any g rb mj tj L _ (HT.out.below BA) (del_srt HS.out mj) HL1.out).mono ?_
        rintro e w3 ⟨rb3, rfl, t3, r3, c3⟩
        have T3 := Lib.hid t3
        have R3 : Hid (w.heap.size ≤ rb3) := by
          unfold Hid; have := HRB.out; have := HB.out.size; simp at r3; omega
        have B3 := Lib.hid ((HB.out.trans (BA.mono HB.out.size)).trans (c3.below HG.out HRB.out (by have := HB.out.size; simp; omega)))
        clear t3 r3 c3 BA
        go_wp2_with fail
        go_roundw
        case rel =>
          have Q : FlRel len g w (.int .i64 ((j : Int) + 1)) w3 := ⟨⟨j + 1, rb3, setL L mj tj, HX.out, by go_num, T3.out, setL_srt HS.out _ _, setL_dst HD.out _ _, setL_bnd HBN.out HTM.out, by have := setL_len L mj tj; have := HLn.out; omega, B3.out, R3.out⟩⟩
          first | exact Q | ((repeat apply Exists.intro); exact ⟨Q, rfl⟩)
        case measure => have := HX.out; have := HN.out; simp [intOf]; omega
      · have hjI : ¬ (j : Int) < (len : Int) := by omega
        have HL4 : Hid (L.length ≤ 40) := by unfold Hid; have := HN.out; have := HLn.out; have := HJ.out; omega
        clear hlt
        go_wp2_with fail
        refine (tclone_any g rb L wr HT.out HL1.out).mono ?_
        rintro e w2 ⟨g', rb', rfl, hc2, hg', hrb', b2⟩
        have T2 := Lib.hid (HT.out.below b2)
        have C2 := Lib.hid hc2
        have N2 : Hid (g < wr.heap.size ∧ rb < wr.heap.size ∧ wr.heap.size ≤ g' ∧ wr.heap.size ≤ rb' ∧ g' < w2.heap.size ∧ rb' < w2.heap.size ∧ wr.heap.size ≤ w2.heap.size ∧ w.heap.size ≤ wr.heap.size) := ⟨HT.out.lt, HT.out.rlt, hg', hrb', hc2.lt, hc2.rlt, b2.size, HB.out.size⟩
        have B2 := Lib.hid (HB.out.trans (b2.mono HB.out.size))
        have RBQ := Lib.hid HRB.out
        clear hc2 hg' hrb' b2 HB HT HLn HJ
        go_wp2_with fail
        refine (len_any g rb L w2 T2.out).mono ?_
        rintro e w3 ⟨rfl, h3⟩
        have h3 := h3.symm
        subst h3
        obtain ⟨n, hn⟩ : ∃ n, L.length = n := ⟨_, rfl⟩
        have HNL := Lib.hid hn
        rw [hn]
        clear hn HL1 HRB
        have HRB : Hid (w.heap.size ≤ rb) := RBQ.out
        go_wp2_with fail
        go_loopw [7, 8] (fun v kv wr => NxRel L g rb g' rb' w w2 v kv wr) (fun _ k => fun _ => (intOf k).toNat)
        case atStart => exact ⟨⟨0, n, none, 0, by have := HNL.out; omega, rfl, rfl, World.ownsRow_nil _ _ _ _, T2.out, C2.out, B2.out, Nat.le_refl _⟩⟩
        case round =>
          obtain ⟨⟨i, d, A, c, hid, rfl, rfl, ho, ht, hc, hb, hsz⟩⟩ := hrel
          have HI := Lib.hid hid
          have HO := Lib.hid ho
          have HT := Lib.hid ht
          have HC := Lib.hid hc
          have HB := Lib.hid hb
          have HSZ := Lib.hid hsz
          clear hid ho ht hc hb hsz T2 C2 B2
          by_cases hd : 0 < d
          · have hdI : (0 : Int) < (d : Int) := by omega
            obtain ⟨D, hD⟩ : ∃ D, L.drop i = D := ⟨_, rfl⟩
            have HDD := Lib.hid hD
            have HDL : Hid (D.length = d) := by unfold Hid; have := HI.out; rw [← hD, List.length_drop]; omega
            have HDS : Hid (Srt D) := hD ▸ HS.out.sublist (List.drop_sublist _ _)
            rw [hD] at HT
            have HD0 : Hid (0 < d) := hd
            clear hD hd
            go_wp2_with fail
            refine (next_any g rb D wr HT.out).mono ?_
            rintro e w4 ⟨rfl, h4⟩
            have h4 := h4.symm
            subst h4
            rw [decide_eq_true (show 0 < D.length by have := HDL.out; have := HD0.out; omega)]
            have HC1 : Hid (1 ≤ cnt D (D.headD (0, 0)).2) := cnt_pos (by have := HDL.out; have := HD0.out; omega)
            obtain ⟨at_, ha⟩ : ∃ at_, (D.headD (0, 0)).2 = at_ := ⟨_, rfl⟩
            rw [ha] at HC1 ⊢
            clear ha
            have HL1 : Hid (D.length ≤ 1000) := by unfold Hid; have := HDL.out; have := HI.out; have := HL4.out; omega
            go_wp2_with fail
            refine (due_any g rb at_ D wr HT.out HDS.out HL1.out).mono ?_
            rintro e w5 ⟨A5, c5, rfl, o5, t5, h5⟩
            have LT : Hid (cnt D at_ < D.length → at_ < ((D.drop (cnt D at_)).headD (0, 0)).2) := head_late HDS.out at_
            have QL : Hid (cnt D at_ ≤ d) := by unfold Hid; rw [← HDL.out]; exact cnt_le D at_
            obtain ⟨q, hq⟩ : ∃ q, cnt D at_ = q := ⟨_, rfl⟩
            rw [hq] at o5 t5 LT QL HC1 ⊢
            clear hq
            have C5 : Hid (TF w5 g' rb' L) := HC.out.ch h5 (by have := N2.out; omega) (by have := N2.out; omega) (by have := N2.out; omega) (by have := N2.out; omega)
            have O5 : Hid (w5.ownsRow w2.heap.size 3 1 (.slice A i c) i (I ((L.take i).map Prod.fst))) :=
              own_keepI HO.out (Nat.le_refl _) fun b b1 b2 => h5.block b b2 (by have := N2.out; omega) (by have := N2.out; omega)
            have T5 := Lib.hid t5
            have R5 := Lib.hid (Reads.of_own o5)
            have S5 : Hid (w2.heap.size ≤ w5.heap.size) := Nat.le_trans HSZ.out h5.size
            have B5 := Lib.hid (HB.out.trans (h5.below HG.out HRB.out HB.out.size))
            obtain ⟨m, hm⟩ : ∃ m, d = q + m := ⟨d - q, by have := QL.out; omega⟩
            have ML : Hid ((D.drop q).length = m) := by unfold Hid; rw [List.length_drop, HDL.out]; omega
            have HM := Lib.hid hm
            clear o5 t5 h5 HO HT HC HB
            go_wp2_with fail
            refine (next_any g rb (D.drop q) w5 T5.out).mono ?_
            rintro e w6 ⟨rfl, h6⟩
            have h6 := h6.symm
            subst h6
            obtain ⟨nx, hnx⟩ : ∃ x, ((D.drop q).headD (0, 0)).2 = x := ⟨_, rfl⟩
            rw [hnx] at LT ⊢
            rw [ML.out]
            have hqm : (q : Int) + (m : Int) ≤ 1000 := by have := HI.out; have := HL4.out; have := HM.out; omega
            have q0 : ((q : Int) == 0) = false := by rw [beq_eq_false_iff_ne]; have := HC1.out; omega
            clear hnx hm
            by_cases hm0 : 0 < m
            · have hmI : (0 : Int) < (m : Int) := by omega
              have hnl : decide (nx ≤ at_) = false := by rw [decide_eq_false_iff_not]; have := LT.out (by have := HDL.out; have := HM.out; omega); omega
              rw [decide_eq_true hm0]
              go_wp2_with fail
              refine (len_any g rb (D.drop q) w5 T5.out).mono ?_
              rintro e w7 ⟨rfl, h7⟩
              have h7 := h7.symm
              subst h7
              rw [ML.out]
              go_wp2_with fail
              refine (len_any g rb (D.drop q) w5 T5.out).mono ?_
              rintro e w8 ⟨rfl, h8⟩
              have h8 := h8.symm
              subst h8
              rw [ML.out]
              go_wp2_with (at_builtin; refine wpList_append_any _ rfl (.tmp 90) (.tmp 91) _ rfl w2.heap.size 3 i0 _ 1 8 Try.underlying31 hi hz0 hz1 hz2 rfl (by omega) (.slice A i c) i (I ((L.take i).map Prod.fst)) rfl O5.out w5.heap.size A5 q c5 (I ((D.take q).map Prod.fst)) rfl R5.out (I_one _) ?c2 ?c3 ?c4 ?_)
              case c2 => have := HI.out; have := HL4.out; unfold maxLen; omega
              case c3 => have := HI.out; have := HL4.out; omega
              case c4 => exact S5.out
              intro v1 w9 hown1 hg1 _
              have hown1' : w9.ownsRow w2.heap.size 3 1 v1 (i + q) (I ((L.take (i + q)).map Prod.fst)) := by
                rw [List.take_add, List.map_append, HDD.out]
                simpa [I] using hown1
              obtain ⟨A1, c1, hv, ho1, hb1⟩ := own_ofI O5.out (Below.refl _ _) (S5.out) hown1' hg1
              rw [hv]
              have HO1 := Lib.hid ho1
              have T9 : Hid (TF w9 g rb (L.drop (i + q))) := by
                unfold Hid
                rw [← List.drop_drop, HDD.out]
                exact T5.out.keep hb1.size (hb1.block g (by have := N2.out; omega)) (hb1.block rb (by have := N2.out; omega))
              have C9 : Hid (TF w9 g' rb' L) := C5.out.keep hb1.size (hb1.block g' (by have := N2.out; omega)) (hb1.block rb' (by have := N2.out; omega))
              have B9 : Hid (Below w.heap.size w w9) := B5.out.trans (hb1.mono (by have := N2.out; omega))
              have S9 : Hid (w2.heap.size ≤ w9.heap.size) := Nat.le_trans S5.out hb1.size
              clear hv hown1 hown1' hg1 ho1 hb1
              go_wp2_with fail
              refine (len_any g rb (L.drop (i + q)) w9 T9.out).mono ?_
              rintro e w10 ⟨rfl, h10⟩
              have h10 := h10.symm
              subst h10
              rw [show (L.drop (i + q)).length = m by rw [List.length_drop]; have := HI.out; have := HM.out; omega]
              go_wp2_with fail
              go_roundw
              case rel =>
                have Q : NxRel L g rb g' rb' w w2 (.slice A1 (i + q) c1) (.int .i64 (m : Int)) w9 := ⟨⟨i + q, m, A1, c1, by have := HI.out; have := HM.out; omega, rfl, rfl, HO1.out, T9.out, C9.out, B9.out, S9.out⟩⟩
                first | exact Q | ((repeat apply Exists.intro); exact ⟨Q, rfl⟩)
              case measure => have := HC1.out; have := HM.out; simp [intOf]; omega
            · have hmI : ¬ (0 : Int) < (m : Int) := by omega
              rw [decide_eq_false hm0]
              go_wp2_with fail
              refine (len_any g rb (D.drop q) w5 T5.out).mono ?_
              rintro e w7 ⟨rfl, h7⟩
              have h7 := h7.symm
              subst h7
              rw [ML.out]
              go_wp2_with fail
              refine (len_any g rb (D.drop q) w5 T5.out).mono ?_
              rintro e w8 ⟨rfl, h8⟩
              have h8 := h8.symm
              subst h8
              rw [ML.out]
              go_wp2_with (at_builtin; refine wpList_append_any _ rfl (.tmp 90) (.tmp 91) _ rfl w2.heap.size 3 i0 _ 1 8 Try.underlying31 hi hz0 hz1 hz2 rfl (by omega) (.slice A i c) i (I ((L.take i).map Prod.fst)) rfl O5.out w5.heap.size A5 q c5 (I ((D.take q).map Prod.fst)) rfl R5.out (I_one _) ?c2 ?c3 ?c4 ?_)
              case c2 => have := HI.out; have := HL4.out; unfold maxLen; omega
              case c3 => have := HI.out; have := HL4.out; omega
              case c4 => exact S5.out
              intro v1 w9 hown1 hg1 _
              have hown1' : w9.ownsRow w2.heap.size 3 1 v1 (i + q) (I ((L.take (i + q)).map Prod.fst)) := by
                rw [List.take_add, List.map_append, HDD.out]
                simpa [I] using hown1
              obtain ⟨A1, c1, hv, ho1, hb1⟩ := own_ofI O5.out (Below.refl _ _) (S5.out) hown1' hg1
              rw [hv]
              have HO1 := Lib.hid ho1
              have T9 : Hid (TF w9 g rb (L.drop (i + q))) := by
                unfold Hid
                rw [← List.drop_drop, HDD.out]
                exact T5.out.keep hb1.size (hb1.block g (by have := N2.out; omega)) (hb1.block rb (by have := N2.out; omega))
              have C9 : Hid (TF w9 g' rb' L) := C5.out.keep hb1.size (hb1.block g' (by have := N2.out; omega)) (hb1.block rb' (by have := N2.out; omega))
              have B9 : Hid (Below w.heap.size w w9) := B5.out.trans (hb1.mono (by have := N2.out; omega))
              have S9 : Hid (w2.heap.size ≤ w9.heap.size) := Nat.le_trans S5.out hb1.size
              clear hv hown1 hown1' hg1 ho1 hb1
              go_wp2_with fail
              refine (len_any g rb (L.drop (i + q)) w9 T9.out).mono ?_
              rintro e w10 ⟨rfl, h10⟩
              have h10 := h10.symm
              subst h10
              rw [show (L.drop (i + q)).length = m by rw [List.length_drop]; have := HI.out; have := HM.out; omega]
              go_wp2_with fail
              go_roundw
              case rel =>
                have Q : NxRel L g rb g' rb' w w2 (.slice A1 (i + q) c1) (.int .i64 (m : Int)) w9 := ⟨⟨i + q, m, A1, c1, by have := HI.out; have := HM.out; omega, rfl, rfl, HO1.out, T9.out, C9.out, B9.out, S9.out⟩⟩
                first | exact Q | ((repeat apply Exists.intro); exact ⟨Q, rfl⟩)
              case measure => have := HC1.out; have := HM.out; simp [intOf]; omega
          · have hdI : ¬ (0 : Int) < (d : Int) := by omega
            go_wp2_with fail
            have HX : Hid (d = 0) := by unfold Hid; omega
            go_wp2_with fail
            refine (due_any g' rb' 9223372036854775807 L wr HC.out HS.out (by have := HL4.out; omega)).mono ?_
            rintro e w5 ⟨A5, c5, rfl, o5, t5, h5⟩
            rw [cnt_all HBN.out, HNL.out] at o5 t5 ⊢
            have hin : i = n := by have := HI.out; have := HNL.out; have := HX.out; omega
            rw [hin] at HO ⊢
            have O5 : Hid (w5.ownsRow w2.heap.size 3 1 (.slice A n c) n (I ((L.take n).map Prod.fst))) :=
              own_keepI HO.out (Nat.le_refl _) fun b b1 b2 => h5.block b b2 (by have := N2.out; omega) (by have := N2.out; omega)
            have R5 := Lib.hid (Reads.of_own o5)
            have T5 : Hid (TF w5 g' rb' []) := by
              unfold Hid
              have h0 : L.drop n = [] := by rw [← HNL.out, List.drop_length]
              rw [h0] at t5; exact t5
            have B5 := Lib.hid (HB.out.trans (h5.below (by have := N2.out; omega) (by have := N2.out; omega) HB.out.size))
            have NB : Hid (n ≤ 1000) := by unfold Hid; have := HNL.out; have := HL4.out; omega
            clear o5 t5 h5 HO HT HC HB hin
            go_wp2_with fail
            refine (isame_true A A5 n c c5 ((L.take n).map Prod.fst) w5 w5.heap.size w5.heap.size (Reads.of_own O5.out) R5.out NB.out (Nat.le_refl _) (Nat.le_refl _)).mono ?_
            rintro e w6 ⟨rfl, b6⟩
            have T6 := Lib.hid (T5.out.below b6)
            have B6 := Lib.hid (B5.out.trans (b6.mono B5.out.size))
            clear b6 T5 B5 O5 R5
            go_wp2_with fail
            refine (len_any g' rb' [] w6 T6.out).mono ?_
            rintro e w7 ⟨rfl, h7⟩
            have h7 := h7.symm
            subst h7
            go_wp2_with fail
            go_ret
            exact ⟨rfl, B6.out⟩

  · have h4I : (40 : Int) < (len : Int) := by omega
    clear h0 hlen h40
    go_enter Try.func7, Try.ntmps7
    go_wp2_with fail
    refine SP.out.mono ?_
    rintro e w1 ⟨rfl, b1⟩
    have SP2 := Lib.hid (speaks_any w1)
    have B1 := Lib.hid b1
    clear b1 SP
    go_wp2_with fail
    refine SP2.out.mono ?_
    rintro e w2 ⟨rfl, b2⟩
    have B2 := Lib.hid (B1.out.trans (b2.mono B1.out.size))
    clear b2 SP2
    go_wp2_with fail
    go_ret
    exact ⟨rfl, B2.out⟩
end Go.Proofs.Ytnobfmdjnldfpaa
