/-
  QueuingApart's walk. Each statement bears its own conditions.
-/
import Derived.Test.YtejambofnffopaaQuH
namespace Go.Proofs.Ytejambofnffopaa.Q
open Go.RowKit Go.Proofs.Ytejambofnffopaa.F Go.Proofs.Ytejambofnffopaa.U
set_option linter.unusedVariables false
set_option linter.unusedSimpArgs false
structure A1R (lo g j : Nat) (p r : Nat → Prop) (K : List Int) (z B : Nat) (c1 : Nat) (A2 : Option Addr) (c2 : Nat) (w : World) (iv : Value) (wr : World) : Prop where
  ex : ∃ (i : Nat) (X : List Int), i ≤ j ∧ iv = .int .i64 (i : Int) ∧ X.length = j ∧ Ow 52 wr (fun b => b = z) (.slice (some ⟨z, 0, none⟩) j c1) j (CU X) ∧ QV lo wr p r g 32 4 [K, K, K] false ∧ Ow 52 wr (fun b => B ≤ b ∧ b < g) (.slice A2 j c2) j (CU K) ∧ Below lo w wr
structure A2R (B1 j : Nat) (S6 : List Sl) (A6 : Option Addr) (c6 : Nat) (W5 wr : World) : Prop where
  ex : ∃ LL : List (List Int), LL.length = 3 ∧ (∀ L ∈ LL, L.length = j) ∧ Ow 33 wr (fun b => B1 ≤ b) (.slice A6 3 c6) 3 (CS S6) ∧ Ms wr (fun b => B1 ≤ b) S6 LL ∧ Below B1 W5 wr
structure A3R (B1 j : Nat) (S6 : List Sl) (A6 : Option Addr) (c6 : Nat) (W5 : World) (iv : Value) (wr : World) : Prop where
  ex : ∃ i : Nat, i ≤ 3 ∧ iv = .int .i64 (i : Int) ∧ A2R B1 j S6 A6 c6 W5 wr
structure A4R (B1 j : Nat) (S6 : List Sl) (A6 : Option Addr) (c6 : Nat) (W5 : World) (iv : Value) (wr : World) : Prop where
  ex : ∃ i : Nat, i ≤ j ∧ iv = .int .i64 (i : Int) ∧ A2R B1 j S6 A6 c6 W5 wr
structure A5R (lo g j : Nat) (p r : Nat → Prop) (K : List Int) (B : Nat) (A2 : Option Addr) (c2 : Nat) (w : World) (wr : World) : Prop where
  ex : QV lo wr p r g 32 4 [K, K, K] false ∧ Ow 52 wr (fun b => B ≤ b ∧ b < g) (.slice A2 j c2) j (CU K) ∧ Below lo w wr
set_option maxRecDepth 100000 in
set_option maxHeartbeats 16000000 in
theorem apart_walk (a : Option Addr) (len cap : Nat) (zs : List Int) (k1 : Int) (w : World) (h0 : IsRow .u32 w a len cap zs) : Calls Try.prog 5 #[.slice a len cap, .int .u32 k1] w fun e w' => e = .returned (.bool true) ∧ Below w.heap.size w w' := by
  have hcp := h0.le.1
  have he := he_qu
  obtain ⟨i0, hi, hz0, hz1, hz2⟩ := info_of u32_info
  obtain ⟨lo, hlo⟩ : ∃ lo, w.heap.size = lo := ⟨_, rfl⟩
  obtain ⟨j, hj⟩ : ∃ j, min len 32 = j := ⟨_, rfl⟩
  have hm : min (len : Int) 32 = (j : Int) := by omega
  have h1 : (j : Int) ≤ (cap : Int) := by omega
  have h2 : (0 : Int) ≤ (j : Int) := by omega
  have h3 : j ≤ cap := by omega
  have hj32 : (j : Int) ≤ 32 := by omega
  have hsq := Sq_take (j := j) h0.sq (by omega)
  obtain ⟨K, hK⟩ : ∃ K, (zs.take len).take j = K := ⟨_, rfl⟩
  rw [← List.map_take, hK] at hsq
  have HSQ : Hid (Sq w (fun b => b < lo) (.slice a j cap) j (CU K)) := by rw [← hlo]; exact hsq
  have HJ : Hid (j ≤ 32 ∧ K.length = j) := by
    refine ⟨by omega, ?_⟩
    have := hsq.len
    simpa using this
  have HLO : Hid (lo ≤ w.heap.size ∧ w.heap.size ≤ lo) := by unfold Hid; omega
  have RD : Hid (Reads w w.heap.size 1 a j (CU K)) := (HSQ.out.st.reads).2
  have hone := rowU_new w
  rw [hlo] at hone
  have HONE := Lib.hid hone
  clear h0 hj hK hsq hcp hone
  rw [hlo]
  go_enter Try.func5, Try.ntmps5
  go_wp2_with (at_builtin; refine wpList_append_any _ rfl (.tmp 16) (.tmp 21) _ rfl lo 52 i0 _ 1 4 Try.underlying33 hi hz0 hz1 hz2 rfl (by omega) (.slice (some ⟨lo, 0, none⟩) 0 0) 0 [] rfl HONE.out w.heap.size a j cap (CU K) rfl (RD.out.alloc (Nat.le_refl _) _) (CU_one _) ?c2 ?c3 ?c4 ?_)
  case c2 => have := HJ.out; unfold maxLen; omega
  case c3 => have := HJ.out; omega
  case c4 => have := HLO.out; simp; omega
  intro v1 w1 ho1 hg1 hb1
  have h5 : w1.ownsRow lo 52 1 v1 j (CU K) := by simpa using ho1
  have B1 : Hid (Below lo w w1) := ((Below.refl _ _).alloc (by have := HLO.out; omega) _).grown hg1 (by have := HLO.out; simp; omega) (fun q hq => by have h' : some lo = some q := hq; injection h' with h'; omega)
  have hzx : ∃ z c1, v1 = .slice (some ⟨z, 0, none⟩) j c1 ∧ v1.ownBlock = some z := by
    rcases (Ow.of_own h5).form with ⟨h6, _⟩ | ⟨b, cap, cur, hv, _⟩
    · exfalso
      rw [h6] at hb1
      rcases hb1 with h | h <;> cases h
    · exact ⟨b, cap, hv, by rw [hv]; rfl⟩
  obtain ⟨z, c1, rfl, hzo⟩ := hzx
  have O1 : Hid (Ow 52 w1 (fun b => b = z) (.slice (some ⟨z, 0, none⟩) j c1) j (CU K)) := ⟨(Ow.of_own h5).own, fun b hb => ⟨by rw [hzo] at hb; injection hb with hb; exact hb.symm, ((Ow.of_own h5).at_ b hb).2⟩⟩
  have HZ : Hid (lo ≤ z ∧ z < w1.heap.size) := by
    have := (Ow.of_own h5).at_ z hzo
    exact this
  have RD1 : Hid (Reads w1 w1.heap.size 1 (some ⟨z, 0, none⟩) j (CU K)) := (O1.out.sq.st.reads).2
  have HZ1 := Lib.hid (rowU_new w1)
  clear ho1 hg1 hb1 HONE RD h5 hzo
  go_wp2_with (at_builtin; refine wpList_append_any _ rfl (.tmp 23) (.tmp 24) _ rfl w1.heap.size 52 i0 _ 1 4 Try.underlying33 hi hz0 hz1 hz2 rfl (by omega) (.slice (some ⟨w1.heap.size, 0, none⟩) 0 0) 0 [] rfl HZ1.out w1.heap.size (some ⟨z, 0, none⟩) j c1 (CU K) rfl (RD1.out.alloc (Nat.le_refl _) _) (CU_one _) ?d2 ?d3 ?d4 ?_)
  case d2 => have := HJ.out; unfold maxLen; omega
  case d3 => have := HJ.out; omega
  case d4 => simp
  intro v2 w2 ho2 hg2 hb2
  have h5 : w2.ownsRow w1.heap.size 52 1 v2 j (CU K) := by simpa using ho2
  have b2 : Below w1.heap.size w1 w2 := ((Below.refl _ _).alloc (Nat.le_refl _) _).grown hg2 (by simp) (fun q hq => by have h' : some w1.heap.size = some q := hq; injection h' with h'; omega)
  obtain ⟨B, hB⟩ : ∃ B, w1.heap.size = B := ⟨_, rfl⟩
  have HS1 : Hid (lo ≤ B ∧ z < B) := by have := HZ.out; unfold Hid; omega
  have W2 : Hid (Ow 52 w2 (fun b => B ≤ b) v2 j (CU K)) := by rw [← hB]; exact Ow.of_own h5
  obtain ⟨A2, c2, rfl⟩ := W2.out.sl
  have O2 := Lib.hid (O1.out.below b2)
  have B2 : Hid (Below lo w w2) := B1.out.trans (b2.mono (by have := HS1.out; omega))
  have HGB : Hid (B ≤ w2.heap.size) := by have := b2.size; unfold Hid; omega
  clear ho2 hg2 hb2 h5 b2 O1 B1 RD1 HZ1 hB
  go_wp2_with fail
  refine (new_any (fun b => ¬ b = z) 32 4 w2 (by omega) (by omega) (by omega) (by omega)).mono ?_
  rintro e w3 ⟨rfl, q3, b3⟩
  obtain ⟨g, hg⟩ : ∃ g, w2.heap.size = g := ⟨_, rfl⟩
  have HG : Hid (B ≤ g ∧ lo ≤ g ∧ z < g) := by have := HGB.out; have := HS1.out; unfold Hid; omega
  rw [hg] at q3 b3
  have O3 := Lib.hid (O2.out.below (by rw [hg]; exact b3))
  have W3 : Hid (Ow 52 w3 (fun b => B ≤ b ∧ b < g) (.slice A2 j c2) j (CU K)) := ⟨(W2.out.below (by rw [hg]; exact b3)).own, fun b hb => ⟨⟨(W2.out.at_ b hb).1, by have := (W2.out.at_ b hb).2; omega⟩, ((W2.out.below (by rw [hg]; exact b3)).at_ b hb).2⟩⟩
  have Q3 := Lib.hid (q3.less HG.out.2.1)
  have B3 : Hid (Below lo w w3) := B2.out.trans (b3.mono HG.out.2.1)
  simp only [hg]
  clear q3 b3 hg O2 W2 B2
  have hr : ∀ W : World, g ≤ W.heap.size → ∀ b, W.heap.size ≤ b → ¬ b = z := fun W h b hb => by have := HG.out; omega
  have HR := Lib.hid hr
  clear hr
  go_wp2_with fail
  refine (send_ok lo _ (fun b => ¬ b = z) g 32 4 [] false _ _ j c1 K w3 Q3.out O3.out.sq (by rw [chk_one, if_neg (by have := HJ.out; omega), if_neg (by simp)]) (HR.out w3 (by have := Q3.out.lt; omega))).mono ?_
  rintro e w4 ⟨qw4, rfl, q_, n_⟩
  have Q4 : Hid (QV lo w4 qw4 (fun b => ¬ b = z) g 32 4 [K] false) := q_
  have O4 := Lib.hid (O3.out.keepq Q3.out n_)
  have W4 := Lib.hid (W3.out.keepq Q3.out n_)
  have B4 : Hid (Below lo w w4) := B3.out.trans (Q3.out.nx n_)
  clear q_ n_ O3 W3 B3 Q3
  go_wp2_with fail
  refine (push_ok lo _ (fun b => ¬ b = z) g 32 4 [K] false _ _ j c1 K w4 Q4.out O4.out.sq (by rw [chk_one, if_neg (by have := HJ.out; omega), if_neg (by simp)]) (HR.out w4 (by have := Q4.out.lt; omega))).mono ?_
  rintro e w5 ⟨qw5, rfl, q_, n_⟩
  have Q5 : Hid (QV lo w5 qw5 (fun b => ¬ b = z) g 32 4 [K, K] false) := q_
  have O5 := Lib.hid (O4.out.keepq Q4.out n_)
  have W5 := Lib.hid (W4.out.keepq Q4.out n_)
  have B5 : Hid (Below lo w w5) := B4.out.trans (Q4.out.nx n_)
  clear q_ n_ O4 W4 B4 Q4
  have hx : Below w5.heap.size w5 (w5.alloc (.cells #[.slice (some ⟨z, 0, none⟩) j c1] 33)) := (Below.refl _ _).alloc (Nat.le_refl _) _
  have L6 : Hid (Sq (w5.alloc (.cells #[.slice (some ⟨z, 0, none⟩) j c1] 33)) (fun b => b = w5.heap.size) (.slice (some ⟨w5.heap.size, 0, none⟩) 1 1) 1 (CS [(some ⟨z, 0, none⟩, j, c1)])) := Sq.lit w5 #[.slice (some ⟨z, 0, none⟩) j c1] 33 1 1 rfl
  have Q6 := Lib.hid (Q5.out.below hx)
  have O6 := Lib.hid (O5.out.below hx)
  have W6 := Lib.hid (W5.out.below hx)
  have B6 : Hid (Below lo w (w5.alloc (.cells #[.slice (some ⟨z, 0, none⟩) j c1] 33))) := B5.out.trans (hx.mono Q5.out.nil)
  have M6 : Hid (Mr (w5.alloc (.cells #[.slice (some ⟨z, 0, none⟩) j c1] 33)) (fun b => b = z) [(some ⟨z, 0, none⟩, j, c1)] [K]) := one_mr (by rw [HJ.out.2]; exact O6.out.sq)
  clear hx Q5 O5 W5 B5
  go_wp2_with fail
  refine (back_ok lo _ (fun b => ¬ b = z) g 32 4 [K, K] false _ _ _ 1 1 _ [K] _ Q6.out L6.out M6.out (by omega) (by rw [chk_one, if_neg (by have := HJ.out; omega), if_neg (by simp)]) (HR.out _ (by have := Q6.out.lt; omega))).mono ?_
  rintro e w7 ⟨qw7, rfl, q_, n_⟩
  have Q7 : Hid (QV lo w7 qw7 (fun b => ¬ b = z) g 32 4 [K, K, K] false) := q_
  have O7 := Lib.hid (O6.out.keepq Q6.out n_)
  have W7 := Lib.hid (W6.out.keepq Q6.out n_)
  have B7 : Hid (Below lo w w7) := B6.out.trans (Q6.out.nx n_)
  clear q_ n_ L6 M6 O6 W6 B6 Q6
  go_upto_block 0 with fail
  go_cut [8] (fun iv wx => A5R lo g j qw7 (fun b => ¬ b = z) K B A2 c2 w wx)
  case first =>
    go_wp2_with fail
    go_loopw [8] (fun iv wr => A1R lo g j qw7 (fun b => ¬ b = z) K z B c1 A2 c2 w iv wr) (fun i _ => j - (intOf i).toNat)
    case atStart => exact ⟨⟨0, K, Nat.zero_le _, rfl, HJ.out.2, O7.out, Q7.out, W7.out, B7.out⟩⟩
    case round =>
      obtain ⟨⟨i, X, hi, rfl, hX, ho, hq, hw_, hb⟩⟩ := hrel
      have HX := Lib.hid hX
      have HO := Lib.hid ho
      have HQ := Lib.hid hq
      have HW := Lib.hid hw_
      have HB := Lib.hid hb
      clear hX ho hq hw_ hb
      by_cases hlt : i < j
      rotate_left
      · have hiI : ¬ (i : Int) < (j : Int) := by omega
        clear hlt hi
        go_wp2_with fail
        go_meet
        case rel => exact ⟨⟨HQ.out, HW.out, HB.out⟩⟩
      have hiI : (i : Int) < (j : Int) := by omega
      have HI : Hid (i < j) := hlt
      obtain ⟨b, x, hbz, hbz2, hbl, d0, f0, hty⟩ := own_word HO.out hlt
      injection hbz with hbz
      injection hbz with hbz
      subst hbz
      have hff : Fo (fun b => b = z) wr (wr.setCell ⟨z, i, none⟩ (.int .u32 k1)) := (Fo.refl (fun b => b = z) wr).setCell (.inl rfl) i _
      obtain ⟨X', hX', HO'⟩ := wpoke HX.out HO.out z i k1
      have HO2 := Lib.hid HO'
      have HX2 := Lib.hid hX'
      have HQ2 : Hid (QV lo (wr.setCell ⟨z, i, none⟩ (.int .u32 k1)) qw7 (fun b => ¬ b = z) g 32 4 [K, K, K] false) := HQ.out.fo hff (fun b hb e => by
        subst e
        obtain ⟨cc, tt, ff, h1, h2⟩ := HQ.out.ty b hb hbl
        obtain ⟨cu, fr, h3⟩ := hty
        rw [h3] at h1
        injection h1 with h1
        injection h1 with _ h4
        exact h2 h4.symm) (fun b hb e => hb e)
      have HW2 : Hid (Ow 52 (wr.setCell ⟨z, i, none⟩ (.int .u32 k1)) (fun b => B ≤ b ∧ b < g) (.slice A2 j c2) j (CU K)) := HW.out.fo hff (fun b hb e => by have := HS1.out; omega)
      have HB2 : Hid (Below lo w (wr.setCell ⟨z, i, none⟩ (.int .u32 k1))) := HB.out.setCell HZ.out.1 _
      clear hlt hi hbz2 hbl hty hff HO' hX'
      go_wp2_with fail
      go_roundw
      case rel =>
        have Q : A1R lo g j qw7 (fun b => ¬ b = z) K z B c1 A2 c2 w (.int .i64 ((i : Int) + 1)) (wr.setCell ⟨z, i, none⟩ (.int .u32 k1)) := ⟨⟨i + 1, X', HI.out, by go_num, HX2.out, HO2.out, HQ2.out, HW2.out, HB2.out⟩⟩
        first | exact Q | ((repeat apply Exists.intro); exact ⟨Q, rfl⟩)
      case measure => have := HI.out; simp [intOf]; omega
  case rest =>
    obtain ⟨w5', hw5⟩ : ∃ w', w' = wc := ⟨_, rfl⟩
    subst hw5
    obtain ⟨⟨hq, hw_, hb⟩⟩ := hcut
    have Q5 := Lib.hid hq
    have W5 := Lib.hid hw_
    have B5 := Lib.hid hb
    clear hq hw_ hb O7 Q7 W7 B7
    go_wp2_with fail
    refine (all_any lo qw7 (fun b => ¬ b = z) g 32 4 [K, K, K] false w5' Q5.out).mono ?_
    rintro e w6 ⟨v6, S6, rfl, o6, m6, b6⟩
    obtain ⟨A6, c6, rfl⟩ := o6.sl
    obtain ⟨B1, hB1⟩ : ∃ B1, w5'.heap.size = B1 := ⟨_, rfl⟩
    rw [hB1] at o6 m6 b6
    have R6 : Hid (A2R B1 j S6 A6 c6 w5' w6) := ⟨⟨[K, K, K], rfl, fun L hL => by simp at hL; rw [hL]; exact HJ.out.2, o6, m6, b6⟩⟩
    have HB1 : Hid (w5'.heap.size = B1) := hB1
    clear o6 m6 b6 hB1
    go_upto_block 2 with fail
    go_cut [10] (fun iv wx => A2R B1 j S6 A6 c6 w5' wx)
    case first =>
      go_wp2_with fail
      go_loopw [10] (fun iv wr => A3R B1 j S6 A6 c6 w5' iv wr) (fun i _ => 3 - (intOf i).toNat)
      case atStart => exact ⟨⟨0, by omega, rfl, R6.out⟩⟩
      case round =>
        obtain ⟨⟨i, hi, rfl, hr2⟩⟩ := hrel
        have HR2 := Lib.hid hr2
        obtain ⟨wo, hwo⟩ : ∃ wo, wo = wr := ⟨_, rfl⟩
        subst hwo
        clear hr2
        by_cases hlt : i < 3
        rotate_left
        · have hiI : ¬ (i : Int) < 3 := by omega
          clear hlt hi
          go_wp2_with fail
          go_meet
          case rel => exact HR2.out
        have hiI : (i : Int) < 3 := by omega
        have HI : Hid (i < 3) := hlt
        clear hlt hi
        go_wp2_with fail
        go_loopw [11] (fun iv wr => A4R B1 j S6 A6 c6 w5' iv wr) (fun x _ => j - (intOf x).toNat)
        case atStart => exact ⟨⟨0, Nat.zero_le _, rfl, HR2.out⟩⟩
        case round =>
          obtain ⟨⟨x, hx, rfl, hr3⟩⟩ := hrel
          have HR3 := Lib.hid hr3
          obtain ⟨LL, hl3, hlj, hout, hms, hbe⟩ := hr3.ex
          have hS3 : S6.length = 3 := by rw [hms.len, hl3]
          obtain ⟨As, cs, L, hs, hL, hsq⟩ := hms.mr.get (i := i) (by have := HI.out; omega)
          have hLj : L.length = j := hlj L (List.mem_of_getElem? hL)
          rw [hLj] at hs hsq
          obtain ⟨b, off, hA, hbl, hc⟩ := sl_at hout.sq HI.out hs
          subst hA
          have e0 : wr.cell? ⟨b, off + i, none⟩ = some (.slice As j cs) := hc
          by_cases hlt : x < j
          rotate_left
          · have hxI : ¬ (x : Int) < (j : Int) := by omega
            clear hr3 hl3 hlj hout hms hbe hS3 hs hL hsq hLj hbl hc hlt hx
            go_wp2_with fail
            go_roundw
            case rel =>
              have Q : A3R B1 j S6 (some ⟨b, off, none⟩) c6 w5' (.int .i64 ((i : Int) + 1)) wr := ⟨⟨i + 1, HI.out, by go_num, HR3.out⟩⟩
              first | exact Q | ((repeat apply Exists.intro); exact ⟨Q, rfl⟩)
            case measure => have := HI.out; simp [intOf]; omega
          have hxI : (x : Int) < (j : Int) := by omega
          have HX : Hid (x < j) := hlt
          have hom := hms.at_ i _ _ hs hL
          rw [hLj] at hom
          obtain ⟨bm, xx, hbm, hbm2, hbml, d0, f0, cur, fr, hty⟩ := own_word (A := As) (c := cs) hom hlt
          subst hbm
          have hff : Fo (fun b => b = bm) wr (wr.setCell ⟨bm, x, none⟩ (.int .u32 (IntKind.u32.wrap (xx + 1)))) := (Fo.refl (fun b => b = bm) wr).setCell (.inl rfl) x _
          obtain ⟨LL', hm', hl', ha'⟩ := hms.poke (b := bm) (j := x) (z := IntKind.u32.wrap (xx + 1)) hlj
          have HN : Hid (A2R B1 j S6 (some ⟨b, off, none⟩) c6 w5' (wr.setCell ⟨bm, x, none⟩ (.int .u32 (IntKind.u32.wrap (xx + 1))))) := ⟨⟨LL', by rw [hl']; exact hl3, ha', ((hout.not hty sl_ne).fo hff fun b hb => hb.2).imp fun b _ hb => hb.1, hm', hbe.setCell hbm2 _⟩⟩
          clear hr3 hl3 hlj hout hms hbe hS3 hs hL hsq hLj hbl hc hlt hx hom hbm2 hbml hty hff hm' hl' ha'
          go_wp2_with fail
          go_roundw
          case rel =>
            have Q : A4R B1 j S6 (some ⟨b, off, none⟩) c6 w5' (.int .i64 ((x : Int) + 1)) _ := ⟨⟨x + 1, HX.out, by go_num, HN.out⟩⟩
            first | exact Q | ((repeat apply Exists.intro); exact ⟨Q, rfl⟩)
          case measure => have := HX.out; simp [intOf]; omega
    case rest =>
      obtain ⟨w7', hw7⟩ : ∃ w', w' = wc := ⟨_, rfl⟩
      subst hw7
      obtain ⟨LL, hl3, hlj, hout, hms, hbe⟩ := hcut.ex
      rw [← HB1.out] at hbe
      have Q7 := Lib.hid (Q5.out.below hbe)
      have W7 := Lib.hid (W5.out.below hbe)
      have B7 : Hid (Below lo w w7') := B5.out.trans (hbe.mono Q5.out.nil)
      clear hl3 hlj hout hms hbe hcut Q5 W5 B5 R6
      go_wp2_with fail
      refine (clone_any lo qw7 (fun b => ¬ b = z) g 32 4 [K, K, K] false w7' Q7.out (HR.out _ (by have := Q7.out.lt; omega))).mono ?_
      rintro e w8 ⟨gc, qc, rfl, c8, b8⟩
      have C8 := Lib.hid (c8.less Q7.out.nil)
      have HQC : Hid (∀ b, qc b → w7'.heap.size ≤ b) := fun b hb => (c8.low b hb).1
      have HQP : Hid (∀ b, qw7 b → b < w7'.heap.size) := fun b hb => (Q7.out.low b hb).2
      have Q8 := Lib.hid (Q7.out.below b8)
      have W8 := Lib.hid (W7.out.below b8)
      have B8 : Hid (Below lo w w8) := B7.out.trans (b8.mono Q7.out.nil)
      have HS78 : Hid (w7'.heap.size ≤ w8.heap.size) := b8.size
      have HC8 : Hid (∀ b, qc b → b < w8.heap.size) := fun b hb => (c8.low b hb).2
      clear c8 b8 Q7 W7 B7
      go_wp2_with fail
      refine (receive_some lo qw7 (fun b => ¬ b = z) g 32 4 [K, K, K] false K [K, K] w8 Q8.out rfl).mono ?_
      rintro e w9 ⟨A9, c9, q9, rfl, o9, q9', n9⟩
      rw [HJ.out.2] at o9
      have Q9 := Lib.hid q9'
      have X9 := Lib.hid o9
      have W9 := Lib.hid (W8.out.keepq Q8.out n9)
      have C9 := Lib.hid (C8.out.fot n9.fo (fun b hb hp => by have := HQC.out b hb; have := HQP.out b hp; omega) Q8.out.ty)
      have B9 : Hid (Below lo w w9) := B8.out.trans (Q8.out.nx n9)
      have HQ9 : Hid (∀ b, q9 b → ¬ qc b) := fun b hb hc => by
        rcases n9.sub b hb with h | h
        · have := HQC.out b hc; have := HQP.out b h; omega
        · have := HC8.out b hc; omega
      clear o9 q9' n9 Q8 W8 C8 B8
      simp only [HJ.out.2]
      go_wp2_with fail
      refine (lsame_any _ _ (.slice A9 j c9) (.slice A2 j c2) K K w9 (by rw [HJ.out.2]; exact X9.out.sq.st) (by rw [HJ.out.2]; exact W9.out.sq.st) (by have := HJ.out; omega)).mono ?_
      rintro e w10 ⟨he_, b10⟩
      simp only [decide_true] at he_
      subst he_
      have Q10 := Lib.hid (Q9.out.below b10)
      have W10 := Lib.hid (W9.out.below b10)
      have C10 := Lib.hid (C9.out.below b10)
      have B10 : Hid (Below lo w w10) := B9.out.trans (b10.mono Q9.out.nil)
      clear b10 Q9 W9 C9 B9 X9
      go_wp2_with fail
      refine (drain_any lo q9 (fun b => ¬ b = z) g 32 4 [K, K] false w10 Q10.out).mono ?_
      rintro e w11 ⟨v11, S11, q11, rfl, o11, m11, q11', n11, e11⟩
      obtain ⟨A11, c11, rfl⟩ := o11.sl
      have Q11 := Lib.hid q11'
      have O11 := Lib.hid o11
      have M11 := Lib.hid m11
      have W11 := Lib.hid (W10.out.keepq Q10.out n11)
      have C11 := Lib.hid (C10.out.fot n11.fo (fun b hb hp => HQ9.out b hp hb) Q10.out.ty)
      have B11 : Hid (Below lo w w11) := B10.out.trans (Q10.out.nx n11)
      clear o11 m11 q11' n11 e11 Q10 W10 C10 B10
      have hx : Below w11.heap.size w11 (w11.alloc (.cells #[.slice A2 j c2, .slice A2 j c2] 33)) := (Below.refl _ _).alloc (Nat.le_refl _) _
      have L12 : Hid (Sq (w11.alloc (.cells #[.slice A2 j c2, .slice A2 j c2] 33)) (fun b => b = w11.heap.size) (.slice (some ⟨w11.heap.size, 0, none⟩) 2 2) 2 (CS (List.replicate 2 (A2, j, c2)))) := Sq.lit w11 #[.slice A2 j c2, .slice A2 j c2] 33 2 2 rfl
      have Q12 := Lib.hid (Q11.out.below hx)
      have O12 := Lib.hid (O11.out.below hx)
      have M12 := Lib.hid (M11.out.below hx)
      have W12 := Lib.hid (W11.out.below hx)
      have C12 := Lib.hid (C11.out.below hx)
      have B12 : Hid (Below lo w (w11.alloc (.cells #[.slice A2 j c2, .slice A2 j c2] 33))) := B11.out.trans (hx.mono Q11.out.nil)
      have N12 := Lib.hid (mr_rep (by rw [HJ.out.2]; exact W12.out.sq) 2)
      clear hx Q11 O11 M11 W11 C11 B11
      go_wp2_with fail
      refine (lists_any _ _ _ _ A11 _ 2 2 c11 2 S11 _ [K, K] (List.replicate 2 K) _ O12.out.sq M12.out.mr L12.out N12.out (by omega) (fun L hL => by simp at hL; rw [hL]; have := HJ.out; omega)).mono ?_
      rintro e w13 ⟨he_, b13⟩
      rw [show List.replicate 2 K = [K, K] from rfl] at he_
      simp only [decide_true] at he_
      subst he_
      have Q13 := Lib.hid (Q12.out.below b13)
      have W13 := Lib.hid (W12.out.below b13)
      have C13 := Lib.hid (C12.out.below b13)
      have B13 : Hid (Below lo w w13) := B12.out.trans (b13.mono Q12.out.nil)
      clear b13 Q12 W12 C12 B12 O12 M12 L12 N12
      go_wp2_with fail
      refine (known_any w13).mono ?_
      rintro e w14 ⟨rfl, b14⟩
      have Q14 := Lib.hid (Q13.out.below b14)
      have W14 := Lib.hid (W13.out.below b14)
      have C14 := Lib.hid (C13.out.below b14)
      have B14 : Hid (Below lo w w14) := B13.out.trans (b14.mono Q13.out.nil)
      clear b14 Q13 W13 C13 B13
      go_wp2_with fail
      refine (all_any lo qc (fun b => ¬ b = z) gc 32 4 [K, K, K] false w14 C14.out).mono ?_
      rintro e w15 ⟨v15, S15, rfl, o15, m15, b15⟩
      obtain ⟨A15, c15, rfl⟩ := o15.sl
      have O15 := Lib.hid o15
      have M15 := Lib.hid m15
      have Q15 := Lib.hid (Q14.out.below b15)
      have W15 := Lib.hid (W14.out.below b15)
      have C15 := Lib.hid (C14.out.below b15)
      have B15 : Hid (Below lo w w15) := B14.out.trans (b15.mono Q14.out.nil)
      clear o15 m15 b15 Q14 W14 C14 B14
      have hx : Below w15.heap.size w15 (w15.alloc (.cells #[.slice A2 j c2, .slice A2 j c2, .slice A2 j c2] 33)) := (Below.refl _ _).alloc (Nat.le_refl _) _
      have L16 : Hid (Sq (w15.alloc (.cells #[.slice A2 j c2, .slice A2 j c2, .slice A2 j c2] 33)) (fun b => b = w15.heap.size) (.slice (some ⟨w15.heap.size, 0, none⟩) 3 3) 3 (CS (List.replicate 3 (A2, j, c2)))) := Sq.lit w15 #[.slice A2 j c2, .slice A2 j c2, .slice A2 j c2] 33 3 3 rfl
      have Q16 := Lib.hid (Q15.out.below hx)
      have O16 := Lib.hid (O15.out.below hx)
      have M16 := Lib.hid (M15.out.below hx)
      have W16 := Lib.hid (W15.out.below hx)
      have C16 := Lib.hid (C15.out.below hx)
      have B16 : Hid (Below lo w (w15.alloc (.cells #[.slice A2 j c2, .slice A2 j c2, .slice A2 j c2] 33))) := B15.out.trans (hx.mono Q15.out.nil)
      have N16 := Lib.hid (mr_rep (by rw [HJ.out.2]; exact W16.out.sq) 3)
      clear hx Q15 O15 M15 W15 C15 B15
      go_wp2_with fail
      refine (lists_any _ _ _ _ A15 _ 3 3 c15 3 S15 _ [K, K, K] (List.replicate 3 K) _ O16.out.sq M16.out.mr L16.out N16.out (by omega) (fun L hL => by simp at hL; rw [hL]; have := HJ.out; omega)).mono ?_
      rintro e w17 ⟨he_, b17⟩
      rw [show List.replicate 3 K = [K, K, K] from rfl] at he_
      simp only [decide_true] at he_
      subst he_
      have Q17 := Lib.hid (Q16.out.below b17)
      have C17 := Lib.hid (C16.out.below b17)
      have B17 : Hid (Below lo w w17) := B16.out.trans (b17.mono Q16.out.nil)
      clear b17 Q16 W16 C16 B16 O16 M16 L16 N16
      go_wp2_with fail
      refine (same_any lo lo qc q11 (fun b => ¬ b = z) (fun b => ¬ b = z) gc g 32 32 4 4 [K, K, K] [] false false w17 C17.out Q17.out).mono ?_
      rintro e w18 ⟨he_, b18⟩
      rw [show (decide ((32 : Int) = 32 ∧ (4 : Int) = 4) && decide (false = false) && decide ([K, K, K] = ([] : List (List Int)))) = false by simp] at he_
      subst he_
      have B18 : Hid (Below lo w w18) := B17.out.trans (b18.mono Q17.out.nil)
      clear b18
      go_wp2_with fail
      go_ret
      exact ⟨rfl, B18.out⟩
end Go.Proofs.Ytejambofnffopaa.Q
