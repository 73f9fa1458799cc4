/-
  The walk of DeltaOnce. Each statement bears its own conditions.
-/
import Derived.Test.YtnobfmdjnldfpaaOnceList
import Derived.Test.YtnobfmdjnldfpaaRDue
namespace Go.Proofs.Ytnobfmdjnldfpaa
open Go.RowKit Go.Maps
set_option linter.unusedVariables false
set_option linter.unusedSimpArgs false
def WfL (L : List (Int × Int)) : Prop := ∀ x ∈ L, (Lit.int .i64 x.1).wf = true
theorem setL_wfl {L : List (Int × Int)} (h : WfL L) {id a : Int} (h0 : (Lit.int .i64 id).wf = true) : WfL (setL L id a) := by
  intro x hx
  rcases List.mem_cons.1 ((setL_perm L id a).mem_iff.1 hx) with rfl | hx
  · exact h0
  · exact h x ((del_sub L id).subset hx)
def IdsAt (w : World) (a : Option Addr) (len : Nat) (z : List Int) : Prop := 0 < len → ∃ b off, a = some ⟨b, off, none⟩ ∧ ∀ i, i < len → w.cell? ⟨b, off + i, none⟩ = some (.int .i64 (z.getD i 0)) ∧ (Lit.int .i64 (z.getD i 0)).wf = true
def BytesAt (w : World) (a : Option Addr) (len : Nat) (z : List Int) : Prop := 0 < len → ∃ b off, a = some ⟨b, off, none⟩ ∧ ∀ i, i < len → w.cell? ⟨b, off + i, none⟩ = some (.int .u8 (z.getD i 0)) ∧ 0 ≤ z.getD i 0 ∧ z.getD i 0 ≤ 255
structure On1 (n g mb : Nat) (w : World) (iv : Value) (wr : World) : Prop where
  ex : ∃ (j rb : Nat) (L : List (Int × Int)) (D : DT), j ≤ n ∧ iv = .int .i64 (j : Int) ∧ TF wr g rb L ∧ Srt L ∧ Dst L ∧ B255 L ∧ WfL L ∧ L.length ≤ j ∧ wr.ownsMap Try.prog 3 (plainElem Try.prog 3) mb j D ∧ MM D L ∧ Below w.heap.size w wr ∧ w.heap.size ≤ rb ∧ rb ≠ mb
theorem w64 (n : Int) (h : -9223372036854775808 ≤ n ∧ n ≤ 9223372036854775807) : wrap64 n = n := by unfold wrap64; omega
structure On2 (g rb mb g' rb' B n : Nat) (L : List (Int × Int)) (w : World) (v13 v14 v15 : Value) (wr : World) : Prop where
  ex : ∃ (p : Nat) (D : DT) (A : Option Addr) (c : Nat) (was now : Int), p ≤ L.length ∧ v13 = .slice A p c ∧ v14 = .int .i64 was ∧ v15 = .int .i64 now ∧ TF wr g rb (L.drop p) ∧ wr.ownsMap Try.prog 3 (plainElem Try.prog 3) mb n D ∧ MM D (L.drop p) ∧ wr.ownsRow B 3 1 (.slice A p c) p (I ((L.take p).map Prod.fst)) ∧ (∀ x ∈ L.drop p, was < x.2) ∧ -1 ≤ was ∧ was < now ∧ now ≤ was + 100 ∧ now ≤ 455 ∧ TF wr g' rb' L ∧ Below w.heap.size w wr ∧ B ≤ wr.heap.size
structure On3 (B mb p q n : Nat) (A5 : Option Addr) (L : List (Int × Int)) (w5 : World) (v13 iv : Value) (wr : World) : Prop where
  ex : ∃ (i : Nat) (A : Option Addr) (c : Nat) (D : DT), i ≤ q ∧ v13 = .slice A (p + i) c ∧ iv = .int .i64 (i : Int) ∧ wr.ownsMap Try.prog 3 (plainElem Try.prog 3) mb n D ∧ MM D (L.drop (p + i)) ∧ wr.ownsRow B 3 1 (.slice A (p + i) c) (p + i) (I ((L.take (p + i)).map Prod.fst)) ∧ (∀ a d, A = some ⟨a, 0, none⟩ → A5 = some ⟨d, 0, none⟩ → a ≠ d) ∧ (∀ d, A5 = some ⟨d, 0, none⟩ → wr.heap[d]? = w5.heap[d]?) ∧ Ko B mb w5 wr
set_option maxRecDepth 100000 in
set_option maxHeartbeats 8000000 in
theorem once_core (a : Option Addr) (len cap : Nat) (z0 : List Int) (a1 : Option Addr) (len1 cap1 : Nat) (z1 : List Int) (st : Int) (w : World) (h0 : IdsAt w a len z0) (h1 : BytesAt w a1 len1 z1) (hs0 : 0 ≤ st) (hs1 : st ≤ 255) :
    Calls Try.prog 4 #[.slice a len cap, .slice a1 len1 cap1, .int .u8 st] w fun e w' => e = .returned (.bool true) ∧ Below w.heap.size w w' := by
  have SP := Lib.hid (speaks_any w)
  obtain ⟨i0, hi, hz0, hz1, hz2⟩ := info_of int_info
  have hmk := @run_makeMap Try.prog
  have H0 := Lib.hid h0
  have H1 := Lib.hid h1
  have HS0 := Lib.hid hs0
  have HS1 := Lib.hid hs1
  by_cases h40 : len ≤ 60
  · have h4I : ¬ (60 : Int) < (len : Int) := by omega
    have HN : Hid (len ≤ 60) := h40
    clear h0 h1 hs0 hs1 h40
    go_enter Try.func4, Try.ntmps4
    go_wp2_with fail
    refine SP.out.mono ?_
    rintro e w1 ⟨rfl, b1⟩
    have B1 := Lib.hid b1
    clear b1 SP
    go_wp2_with fail
    obtain ⟨g, hG⟩ : ∃ g, w1.heap.size = g := ⟨_, rfl⟩
    have he : ∀ (x : Nat) (w : World), (binOp .eql 24 (.pointer (some ⟨x, 0, none⟩)) (.pointer none)).run Try.prog w = .ok (.bool false) w := fun _ _ => rfl
    have NE := Lib.hid (new_any w1)
    have HG : Hid (w.heap.size ≤ g) := by unfold Hid; have := B1.out.size; omega
    rw [hG] at NE
    refine NE.out.mono ?_
    rintro e w2 ⟨rfl, h0, b0⟩
    rw [← hG] at b0
    obtain ⟨mb, hMB⟩ : ∃ mb, w2.heap.size = mb := ⟨_, rfl⟩
    have HGM : Hid (w.heap.size ≤ g ∧ g ≠ mb ∧ w.heap.size ≤ mb) := by unfold Hid; have := h0.lt; have := HG.out; omega
    have BM : Below w2.heap.size w2 (w2.alloc (.map #[] 0)) := (Below.refl _ _).alloc (Nat.le_refl _) _
    have B0 := Lib.hid ((B1.out.trans (b0.mono B1.out.size)).trans (BM.mono (B1.out.trans (b0.mono B1.out.size)).size))
    have Z0 := Lib.hid (h0.below BM)
    have OM0 : Hid ((w2.alloc (.map #[] 0)).ownsMap Try.prog 3 (plainElem Try.prog 3) mb 0 (.map [] : DT)) := by unfold Hid; rw [← hMB]; exact World.ownsMap_made _ _ _ _
    clear h0 b0 NE hG BM
    go_wp2_with fail
    obtain ⟨wm, hwm⟩ : ∃ wm, w2.alloc (.map #[] 0) = wm := ⟨_, rfl⟩
    rw [hwm] at Z0 OM0 B0 ⊢
    clear hwm hMB
    go_loopw [32] (fun i wr => On1 len g mb w i wr) (fun i _ => 1001 - (intOf i).toNat)
    case atStart => exact ⟨⟨0, g, [], .map [], Nat.zero_le _, rfl, Z0.out, List.Pairwise.nil, List.nodup_nil, by intro x hx; simp at hx, by intro x hx; simp at hx, Nat.le_refl _, OM0.out, MM.nil, B0.out, HGM.out.1, HGM.out.2.1⟩⟩
    case round =>
      obtain ⟨⟨j, rb, L, D, hj, rfl, ht, hs, hd, hbd, hwl, hl, hom, hmm, hb, hrb, hrm⟩⟩ := hrel
      have HT := Lib.hid ht
      have HS := Lib.hid hs
      have HD := Lib.hid hd
      have HBD := Lib.hid hbd
      have HWL := Lib.hid hwl
      have HLn := Lib.hid hl
      have HOM := Lib.hid hom
      have HMM := Lib.hid hmm
      have HB := Lib.hid hb
      have HRB : Hid (w.heap.size ≤ rb ∧ rb ≠ mb) := ⟨hrb, hrm⟩
      have HJ := Lib.hid hj
      have HL1 : Hid (L.length ≤ 1000) := by unfold Hid; have := HN.out; omega
      clear ht hs hd hbd hwl hl hom hmm hb hrb hrm hj Z0 B0 OM0
      by_cases hlt : j < len
      · obtain ⟨b, off, rfl, hc⟩ := H0.out (by omega)
        obtain ⟨c0, cw⟩ := hc j hlt
        obtain ⟨x, hx⟩ : ∃ x, z0.getD j 0 = x := ⟨_, rfl⟩
        rw [hx] at c0 cw
        have HWX := Lib.hid cw
        have d0 := cell_later HB.out c0
        have hjI : (j : Int) < (len : Int) := by omega
        have hj2 : (j : Int) < 1000 := by have := HN.out; omega
        have HX : Hid (j < len) := hlt
        clear hc hx c0 hlt cw
        by_cases hlt1 : j < len1
        · obtain ⟨b1, off1, rfl, hc1⟩ := H1.out (by omega)
          obtain ⟨c1, cw0, cw1⟩ := hc1 j hlt1
          obtain ⟨y, hy⟩ : ∃ y, z1.getD j 0 = y := ⟨_, rfl⟩
          rw [hy] at c1 cw0 cw1
          have d1 := cell_later HB.out c1
          have Y0 := Lib.hid cw0
          have Y1 := Lib.hid cw1
          have hj1I : (j : Int) < (len1 : Int) := by omega
          have hyw : IntKind.i64.wrap y = y := by rw [IntKind.wrap_i64]; omega
          clear hc1 hy c1 hlt1 cw0 cw1
          go_wp2_with fail
          refine (set_any g rb x y L wr HT.out (del_srt HS.out x) HL1.out).mono ?_
          rintro e w3 ⟨rb3, rfl, t3, r3, c3⟩
          have NB : Hid (mb < wr.heap.size ∧ rb < wr.heap.size ∧ w.heap.size ≤ wr.heap.size) := ⟨HOM.out.lt, HT.out.rlt, HB.out.size⟩
          have R3 : Hid (w.heap.size ≤ rb3 ∧ rb3 ≠ mb) := by
            unfold Hid; have := HRB.out; have := NB.out; omega
          have OM3 := Lib.hid (om_keep HOM.out (c3.block mb NB.out.1 HGM.out.2.1.symm HRB.out.2.symm))
          have B3 := Lib.hid (HB.out.trans (c3.below (B := w.heap.size) HGM.out.1 HRB.out.1 NB.out.2.2))
          have T3 := Lib.hid t3
          have TD := Lib.hid (HOM.out.tidy law3)
          clear t3 r3 c3 HOM HT HB HRB
          have hkey : keyOf Try.prog 3 (.int .i64 x) = some (.int .i64 x) := keyOf_int_mk Try.underlying3 HWX.out
          go_wp2_with (first | (at_mapUpdate; refine wpList_mapUpdate_own _ rfl _ _ _ 44 rfl 3 3 law3 Try.underlying44 _ mb j D rfl OM3.out (by have := HX.out; have := HN.out; unfold maxLen; omega) _ _ _ rfl rfl hkey _ [] (plainElem_int Try.underlying3 ?wf) ?_) | fail)
          case wf => have := Y0.out; have := Y1.out; exact WalkArith.wf_i64 (by omega)
          intro w5 hown5 hg5
          have T5 : Hid (TF w5 g rb3 (setL L x y)) := T3.out.keep hg5.size (hg5.block g T3.out.lt (by have := HGM.out; simp; omega)) (hg5.block rb3 T3.out.rlt (by have := R3.out; simp; omega))
          have B5 : Hid (Below w.heap.size w w5) := B3.out.trans ⟨hg5.os, hg5.tape, hg5.output, hg5.size, fun k hk => hg5.block k (by have := B3.out.size; omega) (by have := HGM.out; simp; omega)⟩
          have OM5 := Lib.hid hown5
          have MM5 : Hid (MM (D.put (K x) (V y)) (setL L x y)) := HMM.out.set TD.out HD.out x y
          clear hown5 hg5 T3 B3 OM3 hkey
          go_wp2_with fail
          go_roundw
          case rel =>
            have Q : On1 len g mb w (.int .i64 ((j : Int) + 1)) w5 := ⟨⟨j + 1, rb3, setL L x y, D.put (K x) (V y), HX.out, by go_num, T5.out, setL_srt HS.out _ _, setL_dst HD.out _ _, setL_b255 HBD.out Y0.out Y1.out, setL_wfl HWL.out HWX.out, by have := setL_len L x y; have := HLn.out; omega, OM5.out, MM5.out, B5.out, R3.out.1, R3.out.2⟩⟩
            first | exact Q | ((repeat apply Exists.intro); exact ⟨Q, rfl⟩)
          case measure => have := HX.out; have := HN.out; simp [intOf]; omega
        · have hj1I : ¬ (j : Int) < (len1 : Int) := by omega
          clear hlt1
          go_wp2_with fail
          refine (set_any g rb x 0 L wr HT.out (del_srt HS.out x) HL1.out).mono ?_
          rintro e w3 ⟨rb3, rfl, t3, r3, c3⟩
          have NB : Hid (mb < wr.heap.size ∧ rb < wr.heap.size ∧ w.heap.size ≤ wr.heap.size) := ⟨HOM.out.lt, HT.out.rlt, HB.out.size⟩
          have R3 : Hid (w.heap.size ≤ rb3 ∧ rb3 ≠ mb) := by
            unfold Hid; have := HRB.out; have := NB.out; omega
          have OM3 := Lib.hid (om_keep HOM.out (c3.block mb NB.out.1 HGM.out.2.1.symm HRB.out.2.symm))
          have B3 := Lib.hid (HB.out.trans (c3.below (B := w.heap.size) HGM.out.1 HRB.out.1 NB.out.2.2))
          have T3 := Lib.hid t3
          have TD := Lib.hid (HOM.out.tidy law3)
          clear t3 r3 c3 HOM HT HB HRB
          have hkey : keyOf Try.prog 3 (.int .i64 x) = some (.int .i64 x) := keyOf_int_mk Try.underlying3 HWX.out
          go_wp2_with (first | (at_mapUpdate; refine wpList_mapUpdate_own _ rfl _ _ _ 44 rfl 3 3 law3 Try.underlying44 _ mb j D rfl OM3.out (by have := HX.out; have := HN.out; unfold maxLen; omega) _ _ _ rfl rfl hkey _ [] (plainElem_int Try.underlying3 ?wf) ?_) | fail)
          case wf => have := (show (0:Int) ≤ 0 by omega); have := (show (0:Int) ≤ 255 by omega); exact WalkArith.wf_i64 (by omega)
          intro w5 hown5 hg5
          have T5 : Hid (TF w5 g rb3 (setL L x 0)) := T3.out.keep hg5.size (hg5.block g T3.out.lt (by have := HGM.out; simp; omega)) (hg5.block rb3 T3.out.rlt (by have := R3.out; simp; omega))
          have B5 : Hid (Below w.heap.size w w5) := B3.out.trans ⟨hg5.os, hg5.tape, hg5.output, hg5.size, fun k hk => hg5.block k (by have := B3.out.size; omega) (by have := HGM.out; simp; omega)⟩
          have OM5 := Lib.hid hown5
          have MM5 : Hid (MM (D.put (K x) (V 0)) (setL L x 0)) := HMM.out.set TD.out HD.out x 0
          clear hown5 hg5 T3 B3 OM3 hkey
          go_wp2_with fail
          go_roundw
          case rel =>
            have Q : On1 len g mb w (.int .i64 ((j : Int) + 1)) w5 := ⟨⟨j + 1, rb3, setL L x 0, D.put (K x) (V 0), HX.out, by go_num, T5.out, setL_srt HS.out _ _, setL_dst HD.out _ _, setL_b255 HBD.out (show (0:Int) ≤ 0 by omega) (show (0:Int) ≤ 255 by omega), setL_wfl HWL.out HWX.out, by have := setL_len L x 0; have := HLn.out; omega, OM5.out, MM5.out, B5.out, R3.out.1, R3.out.2⟩⟩
            first | exact Q | ((repeat apply Exists.intro); exact ⟨Q, rfl⟩)
          case measure => have := HX.out; have := HN.out; simp [intOf]; omega
      · have hjI : ¬ (j : Int) < (len : Int) := by omega
        have HL4 : Hid (L.length ≤ 60) := by unfold Hid; have := HN.out; have := HLn.out; have := HJ.out; omega
        clear hlt
        have HTD := Lib.hid (HOM.out.tidy law3)
        have HMl : Hid (Maps.size D = L.length) := HMM.out.size
        go_wp2_with fail
        refine (tclone_any g rb L wr HT.out HL1.out).mono ?_
        rintro e w2 ⟨g', rb', rfl, hc2, hg', hrb', b2⟩
        have T2 := Lib.hid (HT.out.below b2)
        have C2 := Lib.hid hc2
        have OM2 := Lib.hid (om_keep HOM.out (b2.block mb HOM.out.lt))
        have N2 : Hid (g < wr.heap.size ∧ rb < wr.heap.size ∧ mb < wr.heap.size ∧ wr.heap.size ≤ g' ∧ wr.heap.size ≤ rb' ∧ g' < w2.heap.size ∧ rb' < w2.heap.size ∧ wr.heap.size ≤ w2.heap.size ∧ w.heap.size ≤ wr.heap.size) := ⟨HT.out.lt, HT.out.rlt, HOM.out.lt, hg', hrb', hc2.lt, hc2.rlt, b2.size, HB.out.size⟩
        have B2 := Lib.hid (HB.out.trans (b2.mono HB.out.size))
        clear hc2 hg' hrb' b2 HB HT HOM
        obtain ⟨nL, hnL⟩ : ∃ nL, L.length = nL := ⟨_, rfl⟩
        have HNL := Lib.hid hnL
        go_wp2_with fail
        refine (len_any g rb L w2 T2.out).mono ?_
        rintro e w3 ⟨rfl, rfl⟩
        rw [hnL]
        have hml : Maps.size D = nL := HMl.out.trans hnL
        clear hnL
        have hlen : ∀ ty, (Builtin.len_ #[44] ty #[.map (some mb)]).run Try.prog w3 = .ok (.int .i64 (nL : Int)) w3 := fun ty => by rw [OM2.out.len Try.underlying44 ty, hml]
        go_wp2_with fail
        obtain ⟨B, hBs⟩ : ∃ B, w3.heap.size = B := ⟨_, rfl⟩
        have HBs := Lib.hid hBs
        clear hml hBs hlen
        go_loopw [13, 14, 15] (fun v13 v14 v15 wr => On2 g rb mb g' rb' B len L w v13 v14 v15 wr) (fun _ _ v => fun _ => 1001 - (intOf v).toNat)
        case atStart => exact ⟨⟨0, D, none, 0, -1, 0, Nat.zero_le _, rfl, rfl, rfl, by simpa using T2.out, OM2.out.mono HJ.out, by simpa using HMM.out, World.ownsRow_nil _ _ _ _, fun x hx => by have := HBD.out x (by simpa using hx); omega, by omega, by omega, by omega, by omega, C2.out, B2.out, by have := HBs.out; omega⟩⟩
        case round =>
          clear T2 C2 B2 OM2 HMM HTD HMl
          obtain ⟨⟨p, D, A, c, was, now, hp, rfl, rfl, rfl, ht, hom, hmm, how, hlt, hw1, hw2, hw3, hw4, htc, hb, hbs⟩⟩ := hrel
          obtain ⟨wo, hwo⟩ : ∃ wo, wo = wr := ⟨_, rfl⟩
          subst hwo
          have HT := Lib.hid ht
          have HOM := Lib.hid hom
          have HMM := Lib.hid hmm
          have HOW := Lib.hid how
          have HLT := Lib.hid hlt
          have HWN : Hid (-1 ≤ was ∧ was < now ∧ now ≤ was + 100 ∧ now ≤ 455) := ⟨hw1, hw2, hw3, hw4⟩
          have HTC := Lib.hid htc
          have HB := Lib.hid hb
          have NBx : Hid (B ≤ wo.heap.size) := hbs
          have HP := Lib.hid hp
          have NG : Hid (g < B ∧ rb < B ∧ mb < B ∧ g' < B ∧ rb' < B ∧ g ≠ g' ∧ g ≠ rb' ∧ rb ≠ g' ∧ rb ≠ rb' ∧ mb ≠ g' ∧ mb ≠ rb' ∧ w.heap.size ≤ B) := by
            unfold Hid; have := N2.out; have := HBs.out; omega
          clear ht hom hmm how hlt hw1 hw2 hw3 hw4 htc hb hbs hp
          by_cases hnow : now ≤ 355
          · have HNW : Hid (0 ≤ now ∧ now ≤ 355) := by unfold Hid; have := HWN.out; omega
            have HML : Hid ((L.drop p).length ≤ 1000) := by unfold Hid; rw [List.length_drop]; have := HL1.out; omega
            have HSM : Hid (Srt (L.drop p)) := HS.out.sublist (List.drop_sublist _ _)
            have hwn : ¬ now ≤ was := by have := HWN.out; omega
            go_wp2_with fail
            refine (due_any g rb now (L.drop p) wo HT.out HSM.out HML.out).mono ?_
            rintro e w5 ⟨A5, c5, rfl, o5, t5, h5⟩
            obtain ⟨q, hq⟩ : ∃ q, cnt (L.drop p) now = q := ⟨_, rfl⟩
            obtain ⟨cc1, cc2⟩ := cnt_cut HSM.out now
            have hql := cnt_le (L.drop p) now
            rw [hq] at o5 t5 cc1 cc2 hql ⊢
            have HCC1 := Lib.hid cc1
            rw [List.drop_drop] at t5 cc2
            have HLT6 := Lib.hid cc2
            have NQ : Hid (p + q ≤ L.length) := by unfold Hid; rw [List.length_drop] at hql; have := HP.out; omega
            have T5 := Lib.hid t5
            have O5 := Lib.hid o5
            have HOM5 := Lib.hid (om_keep HOM.out (h5.block mb HOM.out.lt (by have := HGM.out; omega) (by have := HRB.out; omega)))
            have HOW5 : Hid (w5.ownsRow B 3 1 (.slice A p c) p (I ((L.take p).map Prod.fst))) := own_keepI HOW.out (Nat.le_refl _) fun b b1 b2 => h5.block b b2 (by have := NG.out; omega) (by have := NG.out; omega)
            have TC5 : Hid (TF w5 g' rb' L) := HTC.out.ch h5 (by have := NG.out; omega) (by have := NG.out; omega) (by have := NG.out; omega) (by have := NG.out; omega)
            have B5 : Hid (Below w.heap.size w w5) := HB.out.trans (h5.below HGM.out.1 HRB.out.1 HB.out.size)
            have N5 : Hid (B ≤ w5.heap.size ∧ wo.heap.size ≤ w5.heap.size ∧ (∀ d, A5 = some ⟨d, 0, none⟩ → wo.heap.size ≤ d ∧ d < w5.heap.size)) := ⟨Nat.le_trans NBx.out h5.size, h5.size, fun d hd => by subst hd; exact o5.lt d rfl⟩
            have HAW5 : Hid (∀ a d, A = some ⟨a, 0, none⟩ → A5 = some ⟨d, 0, none⟩ → a ≠ d) := by
              intro a d ha hd
              subst ha
              have := (HOW.out.lt a rfl).2
              have := (N5.out.2.2 d hd).1
              omega
            have NQ60 : Hid (p + q ≤ 60) := by unfold Hid; have := NQ.out; have := HL4.out; omega
            clear o5 t5 h5 hq cc1 cc2 hql HT HOM HOW HTC HB HWN
            go_wp2_with fail
            go_loopw [13, 77] (fun v13 iv wx => On3 B mb p q len A5 L w5 v13 iv wx) (fun _ i => fun _ => 1001 - (intOf i).toNat)
            case atStart => exact ⟨⟨0, A, c, D, Nat.zero_le _, rfl, rfl, HOM5.out, HMM.out, HOW5.out, HAW5.out, fun _ _ => rfl, Ko.refl _ _ _⟩⟩
            case round =>
              clear HOM5 HOW5 HAW5 HMM
              obtain ⟨⟨i, A, c, D, hi1, hv13, rfl, hom, hmm, how, haw, hd5, hko⟩⟩ := hrel
              obtain ⟨v13, e13⟩ : ∃ v13 : Value, v13 = .slice A (p + i) c := ⟨_, rfl⟩
              rw [← e13] at hv13 how
              have hv13 := hv13.symm
              subst hv13
              have HV := Lib.hid e13
              clear e13
              have HOM := Lib.hid hom
              have HMM := Lib.hid hmm
              have HOW := Lib.hid how
              have HAW := Lib.hid haw
              have HD5 := Lib.hid hd5
              have HKO := Lib.hid hko
              have HI1 := Lib.hid hi1
              clear hom hmm how haw hd5 hko hi1
              by_cases hiq : i < q
              · obtain ⟨d, rfl⟩ := some_of O5.out (by omega)
                have hcell := (place_i (Reads.of_own (own_at O5.out (HD5.out d rfl))) (by omega))
                obtain ⟨db, doff, hda, _, hdl, hdc⟩ := hcell
                injection hda with hda
                injection hda with hda1 hda2
                subst hda1 hda2
                have e0 := hdc i hiq
                have hil : p + i < L.length := by have := NQ.out; omega
                have hget : (((L.drop p).take q).map Prod.fst).getD i 0 = (L.getD (p + i) (0, 0)).1 := by
                  simp only [List.getD_eq_getElem?_getD, List.getElem?_map, List.getElem?_take, if_pos hiq, List.getElem?_drop]
                  cases L[p + i]? <;> rfl
                have hmem : L.getD (p + i) (0, 0) ∈ L := by rw [List.getD_eq_getElem?_getD, List.getElem?_eq_getElem hil]; exact List.getElem_mem hil
                have hmem2 : L.getD (p + i) (0, 0) ∈ (L.drop p).take q := by
                  rw [List.getD_eq_getElem?_getD, List.getElem?_eq_getElem hil]
                  refine List.mem_iff_getElem?.2 ⟨i, ?_⟩
                  rw [List.getElem?_take, if_pos hiq, List.getElem?_drop, List.getElem?_eq_getElem hil]; rfl
                have hx2 : (L.getD (p + i) (0, 0)).2 ≤ now := HCC1.out _ hmem2
                have hx1 : was < (L.getD (p + i) (0, 0)).2 := HLT.out _ (List.mem_of_mem_take hmem2)
                have HWX0 := HWL.out _ hmem
                rw [hget, Nat.zero_add] at e0
                have HDR := drop_cons hil
                have HTK := take_map hil
                obtain ⟨x, y, hxy⟩ : ∃ x y, L.getD (p + i) (0, 0) = (x, y) := ⟨_, _, rfl⟩
                rw [hxy] at e0 hx2 hx1 HWX0 HDR HTK
                have HMX := HMM.out
                rw [HDR] at HMX
                obtain ⟨hh, hat0⟩ := HMX.at_ (x, y) List.mem_cons_self
                have HDD : Dst ((x, y) :: L.drop (p + i + 1)) := by rw [← HDR]; exact List.Nodup.sublist ((List.drop_sublist _ _).map _) HD.out
                have HMX2 := Lib.hid (HMX.pop (HOM.out.tidy law3) HDD)
                have HTK2 := Lib.hid HTK
                have HHH := Lib.hid hh
                have HAT := Lib.hid hat0
                have hkey : keyOf Try.prog 3 (.int .i64 x) = some (.int .i64 x) := keyOf_int_mk Try.underlying3 HWX0
                have hx2B : decide (now < y) = false := by rw [decide_eq_false_iff_not]; simp at hx2; omega
                have hx1B : decide (y ≤ was) = false := by rw [decide_eq_false_iff_not]; simp at hx1; omega
                have hiI : (i : Int) < (q : Int) := by omega
                have hi2 : (i : Int) < 1000 := by have := NQ60.out; omega
                have HIQ : Hid (i < q) := hiq
                have DN : Hid (wo.heap.size ≤ d ∧ d < w5.heap.size) := N5.out.2.2 d rfl
                clear hdc hdl hget hmem hmem2 hx2 hx1 HWX0 HDR HTK hxy HMX hh hat0 HDD hiq hil
                go_wp2_with (first
                  | (at_lookup; refine wpList_lookup_own_ok_int _ rfl _ _ 44 rfl 3 3 .i64 law3 Try.underlying44 Try.underlying3 (zero3 _) mb len D rfl HOM.out _ _ rfl hkey ?_; intro c9 hat hwc; obtain rfl : y = c9 := V_inj (HAT.out.symm.trans hat); rw [show Maps.has D (Lit.int .i64 x) = true from HHH.out])
                  | (at_delete; refine wpList_delete_own _ rfl _ _ 44 3 rfl 3 law3 Try.underlying44 _ mb len D rfl HOM.out _ _ rfl hkey ?_; intro w6 hown6 hturn6; have hg6 := hturn6.grown; have HOM6 := Lib.hid hown6; have K6 : Hid (Ko B mb w5 w6) := HKO.out.trans (Ko.grown hg6 (by have := HKO.out.size; have := N5.out; omega) (fun q e => by injection e with e; exact .inl e.symm)); have HOW6 : Hid (w6.ownsRow B 3 1 v13 (p + i) (I ((L.take (p + i)).map Prod.fst))) := own_keepI HOW.out (Nat.le_refl _) (fun b b1 b2 => hg6.block b b2 (by have := NG.out; simp; omega)); have HD6 : Hid (w6.heap[d]? = w5.heap[d]?) := (hg6.block d (by have := HKO.out.size; have := DN.out; omega) (by have := NG.out; have := NBx.out; have := DN.out; simp; omega)).trans (HD5.out d rfl); clear hg6 hown6 hturn6 HOM HKO HOW hkey)
                  | (at_builtin; refine wpList_append_any _ rfl (.tmp 101) (.tmp 103) _ rfl B 3 i0 _ 1 8 Try.underlying31 hi hz0 hz1 hz2 rfl (by omega) v13 (p + i) (I ((L.take (p + i)).map Prod.fst)) rfl (own_below HOW6.out ((Below.refl _ _).alloc (Nat.le_refl _) _)) (w6.heap.size + 1) (some ⟨w6.heap.size, 0, none⟩) 1 1 (I [x]) rfl (by simpa [I] using reads_newI w6 (I [x]) 3) (I_one _) ?c2 ?c3 ?c4 ?_)
                  | fail)
                case c2 => have := NQ60.out; have := HIQ.out; unfold maxLen; omega
                case c3 => have := NQ60.out; have := HIQ.out; omega
                try (case c4 => have := K6.out.size; have := N5.out; simp; omega)
                intro v1 w9 hown1 hg1 hor
                have hown1' : w9.ownsRow B 3 1 v1 (p + i + 1) (I ((L.take (p + i + 1)).map Prod.fst)) := by
                  rw [HTK2.out]; simpa [I] using hown1
                obtain ⟨A1, c1, hv⟩ := slice_form hown1'
                subst hv
                have S6 : Hid (B ≤ w6.heap.size ∧ w5.heap.size ≤ w6.heap.size) := by unfold Hid; have := K6.out.size; have := N5.out; omega
                have hob : ∀ a, v13.ownBlock = some a → B ≤ a ∧ a ≠ d := by
                  intro a ha
                  refine ⟨(HOW6.out.lt a ha).1, ?_⟩
                  rcases HOW6.out.2 with ⟨h1, _⟩ | ⟨a', _, _, h1, _⟩
                  · rw [h1] at ha; cases ha
                  · rw [h1] at ha
                    rw [HV.out] at h1
                    injection h1 with h1 _ _
                    have : a' = a := by injection ha
                    subst this
                    exact HAW.out a' d h1 rfl
                have HOM9 : Hid (w9.ownsMap Try.prog 3 (plainElem Try.prog 3) mb len (D.del (K x))) := (HOM6.out.alloc _).kept hg1 (fun e => by have := (hob mb e.symm).1; have := NG.out; omega)
                have K9 : Hid (Ko B mb w5 w9) := K6.out.trans ((Ko.of_below ((Below.refl _ _).alloc (Nat.le_refl _) _) S6.out.1).trans (Ko.grown hg1 (by have := S6.out; simp; omega) (fun q e => .inr (hob q e).1)))
                have HD9 : Hid (w9.heap[d]? = w5.heap[d]?) := by
                  unfold Hid
                  rw [← HD6.out]
                  have hd6 : d < w6.heap.size := by have := S6.out; have := DN.out; omega
                  exact (hg1.block d (by simp; omega) (fun e => (hob d e.symm).2 rfl)).trans (((Below.refl w6.heap.size w6).alloc (Nat.le_refl _) _).block d hd6)
                have HAW9 : Hid (∀ a d', A1 = some ⟨a, 0, none⟩ → some (⟨d, 0, none⟩ : Addr) = some ⟨d', 0, none⟩ → a ≠ d') := by
                  intro a d' ha hd'
                  injection hd' with hd'
                  injection hd' with hd'
                  subst hd'
                  subst ha
                  rcases hor with h | h
                  · exact (hob a h.symm).2
                  · have h1 : a = w6.heap.size + 1 := Option.some.inj h
                    have := S6.out; have := DN.out; omega
                have HO9 := Lib.hid hown1'
                clear hown1 hown1' hg1 hor hob HOM6 K6 HOW6 HD6
                go_wp2_with fail
                go_roundw
                case rel =>
                  have Q : On3 B mb p q len (some ⟨d, 0, none⟩) L w5 (.slice A1 (p + i + 1) c1) (.int .i64 ((i : Int) + 1)) w9 := ⟨⟨i + 1, A1, c1, D.del (K x), HIQ.out, rfl, by go_num, HOM9.out, HMX2.out, HO9.out, HAW9.out, fun d' h => by injection h with h; injection h with h; subst h; exact HD9.out, K9.out⟩⟩
                  first | exact Q | ((repeat apply Exists.intro); exact ⟨Q, rfl⟩)
                case measure => have := HIQ.out; have := NQ60.out; simp [intOf]; omega
              · have hiI : ¬ (i : Int) < (q : Int) := by omega
                have hiq2 : i = q := by have := HI1.out; omega
                subst hiq2
                have T6 : Hid (TF wr g rb (L.drop (p + i))) := HKO.out.tf T5.out NG.out.1 HGM.out.2.1 NG.out.2.1 HRB.out.2
                have TC6 : Hid (TF wr g' rb' L) := HKO.out.tf TC5.out NG.out.2.2.2.1 (by have := NG.out; omega) NG.out.2.2.2.2.1 (by have := NG.out; omega)
                have B6 : Hid (Below w.heap.size w wr) := B5.out.trans (HKO.out.below (by have := HGM.out; omega) (by have := NG.out; omega) B5.out.size)
                have NB6 : Hid (B ≤ wr.heap.size) := by unfold Hid; have := HKO.out.size; have := N5.out; omega
                have hsw : IntKind.i64.wrap st = st := by have := HS0.out; have := HS1.out; rw [IntKind.wrap_i64]; omega
                have HWW : Hid (wrap64 (now + wrap64 (1 + st.tmod 100)) = now + (1 + st % 100)) := by
                  have h0 := HS0.out; have h1 := HNW.out
                  unfold Hid
                  rw [Int.tmod_eq_emod_of_nonneg h0, w64 (1 + st % 100) (by omega), w64 _ (by omega)]
                clear hiq TC5 B5 T5
                go_wp2_with fail
                go_roundw
                case rel =>
                  have Q : On2 g rb mb g' rb' B len L w v13 (.int .i64 now) (.int .i64 (wrap64 (now + wrap64 (1 + st.tmod 100)))) wr := by
                    rw [HWW.out]
                    exact ⟨⟨p + i, D, A, c, now, now + (1 + st % 100), NQ.out, HV.out, rfl, rfl, T6.out, HOM.out, HMM.out, by rw [← HV.out]; exact HOW.out, HLT6.out, by have := HNW.out; omega, by have := HS0.out; omega, by have := HS0.out; omega, by have := HS0.out; have := HNW.out; omega, TC6.out, B6.out, NB6.out⟩⟩
                  first | exact Q | ((repeat apply Exists.intro); exact ⟨Q, rfl⟩)
                case measure => have := HNW.out; have := HS0.out; have := HWW.out; simp [intOf]; omega
          · have HNW : Hid (355 < now ∧ 256 ≤ was) := by unfold Hid; have := HWN.out; omega
            have hnil : L.drop p = [] := by
              cases hdp : L.drop p with
              | nil => rfl
              | cons x M =>
                have h1 := HLT.out x (by rw [hdp]; exact List.mem_cons_self)
                have h2 := HBD.out x (List.mem_of_mem_drop (by rw [hdp]; exact List.mem_cons_self))
                have := HNW.out; omega
            have hpl : p = L.length := by
              have := congrArg List.length hnil
              rw [List.length_drop] at this
              have := HP.out; simp at *; omega
            subst hpl
            rw [List.drop_length] at HT HMM
            rw [List.take_length] at HOW
            have hlen : ∀ ty, (Builtin.len_ #[44] ty #[.map (some mb)]).run Try.prog wo = .ok (.int .i64 0) wo := fun ty => by rw [HOM.out.len Try.underlying44 ty, HMM.out.size]; rfl
            have hcn : cnt L 1000 = L.length := by
              unfold cnt
              rw [List.countP_eq_length]
              intro x hx
              have := HBD.out x hx
              simp; omega
            have HCN := Lib.hid hcn
            clear hnil hcn
            go_wp2_with fail
            refine (len_any g rb [] wo HT.out).mono ?_
            rintro e w6 ⟨rfl, rfl⟩
            clear hlen
            go_wp2_with fail
            refine (due_any g' rb' 1000 L w6 HTC.out HS.out HL1.out).mono ?_
            rintro e w7 ⟨A7, c7, rfl, o7, t7, h7⟩
            rw [HCN.out] at o7 ⊢
            rw [List.take_length] at o7
            have O7 := Lib.hid o7
            have OW7 : Hid (w7.ownsRow B 3 1 (.slice A L.length c) L.length (I (L.map Prod.fst))) := own_keepI HOW.out (Nat.le_refl _) fun b b1 b2 => h7.block b b2 (by have := NG.out; omega) (by have := NG.out; omega)
            have B7 : Hid (Below w.heap.size w w7) := HB.out.trans (h7.below (B := w.heap.size) (by have := N2.out; omega) (by have := N2.out; omega) HB.out.size)
            clear o7 t7 h7 HT HTC HB
            obtain ⟨nn, hnn⟩ : ∃ nn, L.length = nn := ⟨_, rfl⟩
            rw [hnn] at O7 OW7 HL1 ⊢
            clear hnn
            go_wp2_with fail
            refine (isame_true A7 A nn c7 c (L.map Prod.fst) w7 w7.heap.size w7.heap.size (Reads.of_own O7.out) (Reads.of_own OW7.out) HL1.out (Nat.le_refl _) (Nat.le_refl _)).mono ?_
            rintro e w8 ⟨rfl, b8⟩
            have B8 := Lib.hid (B7.out.trans (b8.mono B7.out.size))
            clear b8
            go_wp2_with fail
            go_ret
            exact ⟨rfl, B8.out⟩
  · have h4I : (60 : Int) < (len : Int) := by omega
    clear h0 h1 hs0 hs1 h40
    go_enter Try.func4, Try.ntmps4
    go_wp2_with fail
    refine SP.out.mono ?_
    rintro e w1 ⟨rfl, b1⟩
    have SP2 := Lib.hid (speaks_any w1)
    have B1 := Lib.hid b1
    clear b1 SP
    go_wp2_with fail
    refine SP2.out.mono ?_
    rintro e w2 ⟨rfl, b2⟩
    have B2 := Lib.hid (B1.out.trans (b2.mono B1.out.size))
    clear b2 SP2
    go_wp2_with fail
    go_ret
    exact ⟨rfl, B2.out⟩
theorem row_at {k : IntKind} {w : World} {a : Option Addr} {len cap : Nat} {zs : List Int} (h : IsRow k w a len cap zs) (hn : 0 < len) : ∃ b off, a = some ⟨b, off, none⟩ ∧ ∀ i, i < len → w.cell? ⟨b, off + i, none⟩ = some (.int k (zs.getD i 0)) ∧ (Lit.int k (zs.getD i 0)).wf = true := by
  rcases h with ⟨rfl, rfl, rfl, rfl⟩ | ⟨⟨b, off, spot⟩, rfl, h1, h2, h3, h4, h5⟩
  · omega
  · have e0 := h4 0 (by omega)
    have hs : spot = none := by simpa [Addr.add] using World.cell?_spot e0
    subst hs
    refine ⟨b, off, rfl, fun i hi => ⟨?_, ?_⟩⟩
    · have := h4 i (by omega)
      rwa [Addr.add_lit] at this
    · refine h5 _ ?_
      rw [List.getD_eq_getElem?_getD, List.getElem?_eq_getElem (show i < zs.length by omega)]
      exact List.getElem_mem _
theorem once_walk (a : Option Addr) (len cap : Nat) (z0 : List Int) (a1 : Option Addr) (len1 cap1 : Nat) (z1 : List Int) (st : Int) (w : World) (h0 : IsRow .i64 w a len cap z0) (h1 : IsRow .u8 w a1 len1 cap1 z1) (h2 : (Lit.int .u8 st).wf = true) :
    Calls Try.prog 4 #[.slice a len cap, .slice a1 len1 cap1, .int .u8 st] w fun e w' => e = .returned (.bool true) ∧ Below w.heap.size w w' := by
  have e1 : IntKind.u8.min = 0 := rfl
  have e2 : IntKind.u8.max = 255 := rfl
  simp [Lit.wf] at h2
  refine once_core a len cap z0 a1 len1 cap1 z1 st w (row_at h0) (fun hn => ?_) (by omega) (by omega)
  obtain ⟨b, off, ha, hc⟩ := row_at h1 hn
  refine ⟨b, off, ha, fun i hi => ⟨(hc i hi).1, ?_⟩⟩
  have := (hc i hi).2
  obtain ⟨y, hy⟩ : ∃ y, z1.getD i 0 = y := ⟨_, rfl⟩
  rw [hy] at this ⊢
  simp [Lit.wf] at this
  omega
end Go.Proofs.Ytnobfmdjnldfpaa
