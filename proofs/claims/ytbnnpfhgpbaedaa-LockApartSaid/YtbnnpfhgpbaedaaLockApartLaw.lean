/-
  LockApart's walk. Each statement bears its own conditions.
-/
import Derived.Test.YtbnnpfhgpbaedaaLkU
namespace Go.Proofs.Ytbnnpfhgpbaedaa.K
open Go.RowKit
set_option linter.unusedVariables false
set_option linter.unusedSimpArgs false
structure A1 (lo out len : Nat) (cs : List Int) (ga bca bwa bma gb bcb bwb bmb : Nat) (w : World) (iv : Value) (wr : World) : Prop where
  ex : ∃ j : Nat, j ≤ len ∧ j ≤ 40 ∧ iv = .int .i64 (j : Int) ∧ Two lo out j cs ga bca bwa bma gb bcb bwb bmb wr ∧ Below lo w wr
structure A2 (lo out : Nat) (cs : List Int) (ga bca bwa bma gb bcb bwb bmb : Nat) (w : World) (iv : Value) (wr : World) : Prop where
  ex : ∃ i : Nat, i ≤ cs.length ∧ iv = .int .i64 (i : Int) ∧ Two lo out 40 cs ga bca bwa bma gb bcb bwb bmb wr ∧ Below lo w wr
theorem id_lt {q1 q2 n pq : Nat} (h1 : q1 < n) (h2 : q2 < 8) (hn : n ≤ 16) (hp : q2 * n = pq) : pq + q1 < 200 ∧ (pq + q1) % n = q1 := by
  have h3 : q2 * n ≤ 7 * 16 := Nat.mul_le_mul (by omega) hn
  refine ⟨by omega, ?_⟩
  rw [← hp, Nat.mul_comm, Nat.mul_add_mod]
  exact Nat.mod_eq_of_lt h1
theorem w64 (q : Nat) (h : q < 1000) : wrap64 (q : Int) = (q : Int) := IntWalk.wrap64_in _ (by omega)
theorem lt_k {q n : Nat} (h : (q : Int) < (n : Int)) (hn : n ≤ 16) : q < 1000 := by omega
set_option maxRecDepth 100000 in
set_option maxHeartbeats 16000000 in
theorem apart_walk (a : Option Addr) (len cap : Nat) (zs : List Int) (a' : Option Addr) (len' cap' : Nat) (m1 : List AC) (out : Int) (w : World) (h0 : IsRow .i64 w a len cap zs) (h1 : Row w 4 RK (.slice a' len' cap') m1) : Calls Try.prog 8 #[.slice a len cap, .slice a' len' cap', .int .i64 out] w fun e w' => e = .returned (.bool true) ∧ Below w.heap.size w w' := by
  have HM := Lib.hid h1
  have hle := h0.le
  obtain ⟨n, hn1, hn2, hmin⟩ : ∃ n : Nat, n ≤ len ∧ n ≤ 16 ∧ min (len : Int) 16 = (n : Int) := by
    by_cases h : len ≤ 16
    · exact ⟨len, Nat.le_refl _, h, by omega⟩
    · exact ⟨16, by omega, Nat.le_refl _, by omega⟩
  obtain ⟨hlen, hsq⟩ := h0.front n hn1
  obtain ⟨cs, hcs⟩ : ∃ cs, zs.take n = cs := ⟨_, rfl⟩
  rw [hcs] at hlen hsq
  have HLEN := Lib.hid hlen
  have HSQ : Hid (F.Sq w (fun b => b < w.heap.size) (.slice a n cap) cs.length (C cs)) := by rw [hlen]; exact hsq
  have hnc : (n : Int) ≤ (cap : Int) := by omega
  have hnc' : ¬ (cap : Int) < (n : Int) := by omega
  have hn0 : ¬ (n : Int) < 0 := by omega
  have H16 : Hid (cs.length ≤ 16) := by unfold Hid; omega
  obtain ⟨lo, hlo⟩ : ∃ lo, w.heap.size = lo := ⟨_, rfl⟩
  have HLO : Hid (lo ≤ w.heap.size ∧ w.heap.size ≤ lo) := by unfold Hid; omega
  clear hle hcs hlen hsq h0 h1 hn1 hn2
  by_cases hbad : ∃ k, k < cs.length ∧ ¬ (1 ≤ cs.getD k 0 ∧ cs.getD k 0 ≤ 63)
  · obtain ⟨k, hk, hkp⟩ := hbad
    have NB : Hid (Calls Try.prog 9 #[.slice a n cap] w fun e w' => e = .returned (.tuple #[.pointer none, .int .i64 2]) ∧ w' = w) := new_bad _ _ cs w HSQ.out H16.out k hk hkp
    have KN := Lib.hid (known_any w)
    rw [hlo] at KN ⊢
    clear hk hkp
    go_enter Try.func8, Try.ntmps8
    go_wp2_with fail
    refine NB.out.mono ?_
    rintro e w1 ⟨rfl, hw⟩
    rw [hw]
    clear hw w1
    go_wp2_with fail
    refine NB.out.mono ?_
    rintro e w1 ⟨rfl, hw⟩
    rw [hw]
    clear hw w1
    go_wp2_with fail
    refine KN.out.mono ?_
    rintro e w1 ⟨rfl, b1⟩
    have B1 := Lib.hid b1
    clear b1 KN NB
    go_wp2_with fail
    go_ret
    exact ⟨rfl, B1.out⟩
  have hall : ∀ i, i < cs.length → 1 ≤ cs.getD i 0 ∧ cs.getD i 0 ≤ 63 := fun i hi => Classical.byContradiction fun hc => hbad ⟨i, hi, hc⟩
  have HALL := Lib.hid hall
  clear hbad hall
  have NE := Lib.hid (new_arg _ (.slice a n cap) cs w HSQ.out H16.out HALL.out)
  have HSQ1 : Hid (∀ w1, Below w.heap.size w w1 → Calls Try.prog 9 #[.slice a n cap] w1 fun e w' => ∃ g bc bw bm, e = .returned (.tuple #[.pointer (some ⟨g, 0, none⟩), .int .i64 0]) ∧ LV w1.heap.size w' g bc bw bm 0 (fun _ => bw) cs (fun _ => []) (fun _ => none) ∧ (cs ≠ [] → w1.heap.size ≤ bc) ∧ Below w1.heap.size w1 w') := fun w1 hb => new_arg _ (.slice a n cap) cs w1 (HSQ.out.belowP hb) H16.out HALL.out
  have hz : ∀ (x : Nat) (w : World), (binOp .eql 24 (.pointer (some ⟨x, 0, none⟩)) (.pointer none)).run Try.prog w = .ok (.bool false) w := fun _ _ => rfl
  rw [hlo] at NE HSQ1 ⊢
  go_enter Try.func8, Try.ntmps8
  go_wp2_with fail
  refine NE.out.mono ?_
  rintro e w1 ⟨ga, bca, bwa, bma, rfl, lva, hca, b1⟩
  have LA := Lib.hid lva
  have HCA := Lib.hid hca
  have B1 := Lib.hid b1
  clear lva hca b1 NE
  go_wp2_with fail
  refine (HSQ1.out w1 B1.out).mono ?_
  rintro e w2 ⟨gb, bcb, bwb, bmb, rfl, lvb, hcb, b2⟩
  have LB := Lib.hid lvb
  have HCB := Lib.hid hcb
  have HB2 := Lib.hid b2
  have B2 : Hid (Below lo w w2) := B1.out.trans (b2.mono (by have := B1.out.size; have := HLO.out; omega))
  clear lvb hcb b2 HSQ1
  by_cases hnz : n = 0
  · have hnz1 : ((n : Int) == 0) = true := by rw [beq_iff_eq]; omega
    have KN := Lib.hid (known_any w2)
    clear hmin hnc hnc' hn0
    go_wp2_with fail
    refine KN.out.mono ?_
    rintro e w3 ⟨rfl, b3⟩
    have B3 : Hid (Below lo w w3) := B2.out.trans (b3.mono (by have := B2.out.size; have := HLO.out; omega))
    clear b3 KN
    go_wp2_with fail
    go_ret
    exact ⟨rfl, B3.out⟩
  have hnz1 : ((n : Int) == 0) = false := by rw [beq_eq_false_iff_ne]; omega
  have hnz2 : ¬ (n : Int) = 0 := by omega
  have HNN : Hid (1 ≤ n ∧ n ≤ 16) := by have := HLEN.out; have := H16.out; unfold Hid; omega
  have hne : cs ≠ [] := fun e => by have := HLEN.out; rw [e] at this; simp at this; omega
  have hun : IntKind.u64.wrap (n : Int) = (n : Int) := by rw [IntKind.wrap_u64]; have := HNN.out; omega
  obtain ⟨uo, o, ho1, ho2, ho3, ho4, ho5⟩ := lowK (n : Int) (by have := HNN.out; omega) out
  have HO : Hid (o < n) := by unfold Hid; omega
  have T0 : Hid (Two lo o 0 cs ga bca bwa bma gb bcb bwb bmb w2) := by
    have ha := LA.out
    have hb := LB.out
    have hbca : lo ≤ bca ∧ bca < w1.heap.size := by
      obtain ⟨vc, cw, a1, a2, a3⟩ := ha.hd
      refine ⟨HCA.out hne, ?_⟩
      rcases a3 with a3 | a3
      · rcases a2.form with ⟨_, h3⟩ | ⟨_, _, h3, _⟩
        · exact absurd h3 hne
        · rw [a3] at h3; cases h3
      · exact a3.1
    have hbcb : w1.heap.size ≤ bcb ∧ bcb < w2.heap.size := by
      obtain ⟨vc, cw, a1, a2, a3⟩ := hb.hd
      refine ⟨HCB.out hne, ?_⟩
      rcases a3 with a3 | a3
      · rcases a2.form with ⟨_, h3⟩ | ⟨_, _, h3, _⟩
        · exact absurd h3 hne
        · rw [a3] at h3; cases h3
      · exact a3.1
    have hg : ∀ i, i < cs.length → Gd cs.length i 0 ([] : List (Int × Int)) := fun i _ => ⟨Nat.le_refl _, fun x hx => by cases hx⟩
    have OA : One lo 0 ga bca bwa bma 0 (fun _ => bwa) cs (fun _ => []) (fun _ => none) w1 := ⟨ha, hbca.2, Nat.le_refl _, hg⟩
    refine ⟨0, _, _, _, 0, _, _, _, OA.below HB2.out, ⟨hb.less (by have := B1.out.size; have := HLO.out; omega), hbcb.2, Nat.le_refl _, hg⟩, fun b h2 h3 => ?_, fun _ _ _ => ⟨rfl, rfl⟩, rfl, rfl⟩
    have h4 := OA.blk b h2
    rcases h3 with h3 | h3 | h3 | h3 | ⟨i, hi, h3⟩
    · have := hb.low.1; omega
    · have := hbcb.1; omega
    · have := hb.low.2.1; omega
    · have := hb.low.2.2.1; omega
    · have h5 : w1.heap.size ≤ bwb := hb.low.2.2.2 i hi
      have h3 : b = bwb := h3
      omega
  have ho6 : wrap64 (o : Int) = (o : Int) := w64 _ (lt_k ho4 HNN.out.2)
  clear hne LA LB HCA HCB HB2 B1 hmin hnc hnc' hn0 hnz ho4
  go_wp2_with fail
  clear ho1 ho2 ho3 ho5 ho6
  go_loopw [11] (fun iv wr => A1 lo o len' cs ga bca bwa bma gb bcb bwb bmb w iv wr) (fun i _ => 41 - (intOf i).toNat)
  case atStart => exact ⟨⟨0, Nat.zero_le _, Nat.zero_le _, rfl, T0.out, B2.out⟩⟩
  case round =>
    obtain ⟨⟨j, hj, hj40, rfl, htw, hb⟩⟩ := hrel
    have HT := Lib.hid htw
    have HB := Lib.hid hb
    have HJ : Hid (j ≤ 40) := hj40
    clear htw hb
    by_cases hlt : j < len' ∧ j < 40
    · have hjI : (j : Int) < (len' : Int) := by omega
      have hj40I : (j : Int) < 40 := by omega
      have HX : Hid (j < len' ∧ j < 40) := hlt
      obtain ⟨hml, b, off, x, xs, hax, hbl, _, hRA, _, hc⟩ := HM.out.at_ j hlt.1
      clear hml
      subst hax
      have hRA : xs = [.int .i64 x.d, .int .i64 x.id, .int .i64 x.b, .int .i64 x.l] := hRA
      subst hRA
      have e0 : wr.cell? ⟨b, off + j * 4, none⟩ = some (.int .i64 x.d) := cell_low HB.out (by have := HLO.out; omega) (hc 0 _ rfl)
      have e1 : wr.cell? ⟨b, off + j * 4 + 1, none⟩ = some (.int .i64 x.id) := cell_low HB.out (by have := HLO.out; omega) (hc 1 _ rfl)
      have e2 : wr.cell? ⟨b, off + j * 4 + 2, none⟩ = some (.int .i64 x.b) := cell_low HB.out (by have := HLO.out; omega) (hc 2 _ rfl)
      have e3 : wr.cell? ⟨b, off + j * 4 + 3, none⟩ = some (.int .i64 x.l) := cell_low HB.out (by have := HLO.out; omega) (hc 3 _ rfl)
      obtain ⟨u1, q1, f1, f2, f3, f4, f5⟩ := lowK (n : Int) (by have := HNN.out; omega) x.l
      obtain ⟨u2, q2, p1, p2, p3, p4, p5⟩ := lowK 8 (by omega) x.id
      obtain ⟨pq, hpq⟩ : ∃ pq, q2 * n = pq := ⟨_, rfl⟩
      have hid := id_lt (q1 := q1) (q2 := q2) (n := n) (pq := pq) (by omega) (by omega) HNN.out.2 hpq
      have hpqI : (q2 : Int) * (n : Int) = (pq : Int) := by rw [← hpq]; simp
      have hpw : IntKind.i64.wrap (pq : Int) = (pq : Int) := wrap_ok (by omega) (by omega)
      obtain ⟨q, hq⟩ : ∃ q, pq + q1 = q := ⟨_, rfl⟩
      have hqI : (pq : Int) + (q1 : Int) = (q : Int) := by omega
      rw [hq] at hid
      have hqw : IntKind.i64.wrap (q : Int) = (q : Int) := wrap_ok (by omega) (by omega)
      have HW64 : Hid (wrap64 (q1 : Int) = (q1 : Int)) := w64 _ (lt_k f4 HNN.out.2)
      have HW65 : Hid (wrap64 (q : Int) = (q : Int)) := w64 _ (Nat.lt_trans hid.1 (by decide))
      have HW66 : Hid (wrap64 (pq : Int) = (pq : Int)) := w64 _ (Nat.lt_of_le_of_lt (by rw [← hq]; exact Nat.le_add_right _ _) (Nat.lt_trans hid.1 (show 200 < 1000 by decide)))
      have HQ : Hid (q < 200 ∧ q % cs.length = q1) := by rw [HLEN.out]; exact hid
      have HQ1 : Hid (q1 < cs.length) := by rw [HLEN.out]; unfold Hid; omega
      obtain ⟨a9, ha9⟩ : ∃ a9, wr.heap.size = a9 := ⟨_, rfl⟩
      have hx9 : Below wr.heap.size wr (wr.alloc (.cells #[.int .i64 x.d, .int .i64 x.id, .int .i64 x.b, .int .i64 x.l] 36)) := (Below.refl _ _).alloc (Nat.le_refl _) _
      have X9 : Hid ((wr.alloc (.cells #[.int .i64 x.d, .int .i64 x.id, .int .i64 x.b, .int .i64 x.l] 36)).heap[a9]? = some (.cells #[.int .i64 x.d, .int .i64 x.id, .int .i64 x.b, .int .i64 x.l] 36 (0, 0))) := by rw [← ha9]; exact heap_alloc_new wr _
      have B9 : Hid (Below lo w (wr.alloc (.cells #[.int .i64 x.d, .int .i64 x.id, .int .i64 x.b, .int .i64 x.l] 36))) := HB.out.trans (hx9.mono (by have := HB.out.size; have := HLO.out; omega))
      obtain ⟨⟨Na, rba, wsa, osa, Nb, rbb, wsb, osb, oa, ob, ap, hsame, hout1, hout2⟩⟩ := HT.out
      have HNA : Hid (∀ b, Blk ga bca bwa bma cs.length rba b → b ≠ a9) := fun b hb => by have := oa.blk b hb; omega
      have HNB : Hid (∀ b, Blk gb bcb bwb bmb cs.length rbb b → b ≠ a9) := fun b hb => by have := ob.blk b hb; omega
      have OA := Lib.hid (oa.below hx9)
      have OB := Lib.hid (ob.below hx9)
      have AP := Lib.hid ap
      have HSAME := Lib.hid hsame
      have HO1 : Hid (wsb o = [] ∧ osb (o : Int) = none) := ⟨hout1, hout2⟩
      clear hc hbl hlt hj hj40 hid hpq hq f4 p4 hx9 HT HB oa ob ap hsame hout1 hout2
      obtain ⟨xd, xid, xb, xl⟩ := x
      dsimp only at e0 e1 e2 e3 f1 p1 X9 B9 OA OB ⊢
      by_cases hkd : xd = 1
      · have hkd1 : (xd == 1) = true := by rw [beq_iff_eq]; exact hkd
        clear hkd
        by_cases hqo0 : q1 = o
        · have hqo1 : ((q1 : Int) == (o : Int)) = true := by rw [beq_iff_eq]; omega
          have HQO := Lib.hid hqo0
          clear hqo0
          have DO := Lib.hid (OA.out.give H16.out HJ.out q1 q HQ1.out HQ.out)
          have hw64 := HW64.out
          have hw65 := HW65.out
          have hw66 := HW66.out
          go_wp2_with fail
          refine DO.out.mono ?_
          rintro e w4 ⟨r4, rba', Na', rfl, oa4, la4⟩
          have OA4 := Lib.hid oa4
          have OB4 := Lib.hid (OB.out.other la4 AP.out)
          have AP4 := Lib.hid (AP.out.lx la4 OB.out.blk)
          have B4 : Hid (Below lo w w4) := B9.out.trans (la4.below OA.out.lv)
          have X4 : Hid (w4.heap[a9]? = some (.cells #[.int .i64 xd, .int .i64 xid, .int .i64 xb, .int .i64 xl] 36 (0, 0))) := by
            refine (la4.block a9 (Array.getElem?_eq_some_iff.1 X9.out).1 ?_ ?_ ?_).trans X9.out
            · exact fun e => HNA.out _ (.inr (.inr (.inl rfl))) e.symm
            · exact fun e => HNA.out _ (.inr (.inr (.inr (.inl rfl)))) e.symm
            · exact fun i hi e => HNA.out _ (.inr (.inr (.inr (.inr ⟨i, hi, rfl⟩)))) e.symm
          have x0 : w4.cell? ⟨a9, 0, none⟩ = some (.int .i64 xd) := by rw [(row_cell X4.out 0).1]; rfl
          have x2 : w4.cell? ⟨a9, 2, none⟩ = some (.int .i64 xb) := by rw [(row_cell X4.out 2).1]; rfl
          clear oa4 la4 DO OA OB AP B9 X9 hw64 hw65 hw66 hun hpqI f1 f2 f3 f5 p1 p2 p3 p5
          have HW : Hid (Two lo o (j + 1) cs ga bca bwa bma gb bcb bwb bmb w4) := by
            have hqo := HQO.out
            subst hqo
            exact ⟨_, _, _, _, _, _, _, _, OA4.out, OB4.out.mono (Nat.le_succ j), AP4.out, alone_step HSAME.out _ _, HO1.out.1, HO1.out.2⟩
          have HBW := Lib.hid B4.out
          go_wp2_with fail
          go_roundw
          case rel =>
            have Q : A1 lo o len' cs ga bca bwa bma gb bcb bwb bmb w (.int .i64 ((j : Int) + 1)) w4 := ⟨⟨j + 1, HX.out.1, HX.out.2, by go_num, HW.out, HBW.out⟩⟩
            first | exact Q | ((repeat apply Exists.intro); exact ⟨Q, rfl⟩)
          case measure => have := HX.out; simp [intOf]; omega
        · have hqo1 : ((q1 : Int) == (o : Int)) = false := by rw [beq_eq_false_iff_ne]; omega
          have HQO := Lib.hid hqo0
          clear hqo0
          have DO := Lib.hid (OA.out.give H16.out HJ.out q1 q HQ1.out HQ.out)
          have hw64 := HW64.out
          have hw65 := HW65.out
          have hw66 := HW66.out
          go_wp2_with fail
          refine DO.out.mono ?_
          rintro e w4 ⟨r4, rba', Na', rfl, oa4, la4⟩
          have OA4 := Lib.hid oa4
          have OB4 := Lib.hid (OB.out.other la4 AP.out)
          have AP4 := Lib.hid (AP.out.lx la4 OB.out.blk)
          have B4 : Hid (Below lo w w4) := B9.out.trans (la4.below OA.out.lv)
          have X4 : Hid (w4.heap[a9]? = some (.cells #[.int .i64 xd, .int .i64 xid, .int .i64 xb, .int .i64 xl] 36 (0, 0))) := by
            refine (la4.block a9 (Array.getElem?_eq_some_iff.1 X9.out).1 ?_ ?_ ?_).trans X9.out
            · exact fun e => HNA.out _ (.inr (.inr (.inl rfl))) e.symm
            · exact fun e => HNA.out _ (.inr (.inr (.inr (.inl rfl)))) e.symm
            · exact fun i hi e => HNA.out _ (.inr (.inr (.inr (.inr ⟨i, hi, rfl⟩)))) e.symm
          have x0 : w4.cell? ⟨a9, 0, none⟩ = some (.int .i64 xd) := by rw [(row_cell X4.out 0).1]; rfl
          have x2 : w4.cell? ⟨a9, 2, none⟩ = some (.int .i64 xb) := by rw [(row_cell X4.out 2).1]; rfl
          clear oa4 la4 DO OA OB AP B9 X9 hw64 hw65 hw66 hun hpqI f1 f2 f3 f5 p1 p2 p3 p5
          have DB := Lib.hid (OB4.out.give H16.out HJ.out q1 q HQ1.out HQ.out)
          go_wp2_with fail
          refine DB.out.mono ?_
          rintro e w5 ⟨r5, rbb', Nb', rfl, ob5, lb5⟩
          have HBW : Hid (Below lo w w5) := B4.out.trans (lb5.below OB4.out.lv)
          have HW : Hid (Two lo o (j + 1) cs ga bca bwa bma gb bcb bwb bmb w5) := by
            have hk := out_step HQO.out (wsb := wsb) (osb := osb)
            exact ⟨_, _, _, _, _, _, _, _, OA4.out.other lb5 AP4.out.symm, ob5, (AP4.out.symm.lx lb5 OA4.out.blk).symm, same_step HSAME.out (fun L o => gvW L o (q : Int)) (fun L o => gvO L o (q : Int)), (hk _ none HO1.out.1 HO1.out.2).1, (hk [] _ HO1.out.1 HO1.out.2).2⟩
          clear ob5 lb5 DB OA4 OB4 AP4 B4 X4 x0 x2
          go_wp2_with fail
          go_roundw
          case rel =>
            have Q : A1 lo o len' cs ga bca bwa bma gb bcb bwb bmb w (.int .i64 ((j : Int) + 1)) w5 := ⟨⟨j + 1, HX.out.1, HX.out.2, by go_num, HW.out, HBW.out⟩⟩
            first | exact Q | ((repeat apply Exists.intro); exact ⟨Q, rfl⟩)
          case measure => have := HX.out; simp [intOf]; omega
      · have hkd1 : (xd == 1) = false := by rw [beq_eq_false_iff_ne]; exact hkd
        clear hkd
        by_cases hqo0 : q1 = o
        · have hqo1 : ((q1 : Int) == (o : Int)) = true := by rw [beq_iff_eq]; omega
          have HQO := Lib.hid hqo0
          clear hqo0
          have DO := Lib.hid (OA.out.take H16.out HJ.out q1 q xb HQ1.out HQ.out)
          have hw64 := HW64.out
          have hw65 := HW65.out
          have hw66 := HW66.out
          go_wp2_with fail
          refine DO.out.mono ?_
          rintro e w4 ⟨r4, rba', Na', rfl, oa4, la4⟩
          have OA4 := Lib.hid oa4
          have OB4 := Lib.hid (OB.out.other la4 AP.out)
          have AP4 := Lib.hid (AP.out.lx la4 OB.out.blk)
          have B4 : Hid (Below lo w w4) := B9.out.trans (la4.below OA.out.lv)
          have X4 : Hid (w4.heap[a9]? = some (.cells #[.int .i64 xd, .int .i64 xid, .int .i64 xb, .int .i64 xl] 36 (0, 0))) := by
            refine (la4.block a9 (Array.getElem?_eq_some_iff.1 X9.out).1 ?_ ?_ ?_).trans X9.out
            · exact fun e => HNA.out _ (.inr (.inr (.inl rfl))) e.symm
            · exact fun e => HNA.out _ (.inr (.inr (.inr (.inl rfl)))) e.symm
            · exact fun i hi e => HNA.out _ (.inr (.inr (.inr (.inr ⟨i, hi, rfl⟩)))) e.symm
          have x0 : w4.cell? ⟨a9, 0, none⟩ = some (.int .i64 xd) := by rw [(row_cell X4.out 0).1]; rfl
          have x2 : w4.cell? ⟨a9, 2, none⟩ = some (.int .i64 xb) := by rw [(row_cell X4.out 2).1]; rfl
          clear oa4 la4 DO OA OB AP B9 X9 hw64 hw65 hw66 hun hpqI f1 f2 f3 f5 p1 p2 p3 p5
          have HW : Hid (Two lo o (j + 1) cs ga bca bwa bma gb bcb bwb bmb w4) := by
            have hqo := HQO.out
            subst hqo
            exact ⟨_, _, _, _, _, _, _, _, OA4.out, OB4.out.mono (Nat.le_succ j), AP4.out, alone_step HSAME.out _ _, HO1.out.1, HO1.out.2⟩
          have HBW := Lib.hid B4.out
          go_wp2_with fail
          go_roundw
          case rel =>
            have Q : A1 lo o len' cs ga bca bwa bma gb bcb bwb bmb w (.int .i64 ((j : Int) + 1)) w4 := ⟨⟨j + 1, HX.out.1, HX.out.2, by go_num, HW.out, HBW.out⟩⟩
            first | exact Q | ((repeat apply Exists.intro); exact ⟨Q, rfl⟩)
          case measure => have := HX.out; simp [intOf]; omega
        · have hqo1 : ((q1 : Int) == (o : Int)) = false := by rw [beq_eq_false_iff_ne]; omega
          have HQO := Lib.hid hqo0
          clear hqo0
          have DO := Lib.hid (OA.out.take H16.out HJ.out q1 q xb HQ1.out HQ.out)
          have hw64 := HW64.out
          have hw65 := HW65.out
          have hw66 := HW66.out
          go_wp2_with fail
          refine DO.out.mono ?_
          rintro e w4 ⟨r4, rba', Na', rfl, oa4, la4⟩
          have OA4 := Lib.hid oa4
          have OB4 := Lib.hid (OB.out.other la4 AP.out)
          have AP4 := Lib.hid (AP.out.lx la4 OB.out.blk)
          have B4 : Hid (Below lo w w4) := B9.out.trans (la4.below OA.out.lv)
          have X4 : Hid (w4.heap[a9]? = some (.cells #[.int .i64 xd, .int .i64 xid, .int .i64 xb, .int .i64 xl] 36 (0, 0))) := by
            refine (la4.block a9 (Array.getElem?_eq_some_iff.1 X9.out).1 ?_ ?_ ?_).trans X9.out
            · exact fun e => HNA.out _ (.inr (.inr (.inl rfl))) e.symm
            · exact fun e => HNA.out _ (.inr (.inr (.inr (.inl rfl)))) e.symm
            · exact fun i hi e => HNA.out _ (.inr (.inr (.inr (.inr ⟨i, hi, rfl⟩)))) e.symm
          have x0 : w4.cell? ⟨a9, 0, none⟩ = some (.int .i64 xd) := by rw [(row_cell X4.out 0).1]; rfl
          have x2 : w4.cell? ⟨a9, 2, none⟩ = some (.int .i64 xb) := by rw [(row_cell X4.out 2).1]; rfl
          clear oa4 la4 DO OA OB AP B9 X9 hw64 hw65 hw66 hun hpqI f1 f2 f3 f5 p1 p2 p3 p5
          have DB := Lib.hid (OB4.out.take H16.out HJ.out q1 q xb HQ1.out HQ.out)
          go_wp2_with fail
          refine DB.out.mono ?_
          rintro e w5 ⟨r5, rbb', Nb', rfl, ob5, lb5⟩
          have HBW : Hid (Below lo w w5) := B4.out.trans (lb5.below OB4.out.lv)
          have HW : Hid (Two lo o (j + 1) cs ga bca bwa bma gb bcb bwb bmb w5) := by
            have hk := out_step HQO.out (wsb := wsb) (osb := osb)
            exact ⟨_, _, _, _, _, _, _, _, OA4.out.other lb5 AP4.out.symm, ob5, (AP4.out.symm.lx lb5 OA4.out.blk).symm, same_step HSAME.out (fun L o => tkW (cs.getD q1 0) L o (q : Int) xb) (fun L o => tkO (cs.getD q1 0) L o (q : Int) xb), (hk _ none HO1.out.1 HO1.out.2).1, (hk [] _ HO1.out.1 HO1.out.2).2⟩
          clear ob5 lb5 DB OA4 OB4 AP4 B4 X4 x0 x2
          go_wp2_with fail
          go_roundw
          case rel =>
            have Q : A1 lo o len' cs ga bca bwa bma gb bcb bwb bmb w (.int .i64 ((j : Int) + 1)) w5 := ⟨⟨j + 1, HX.out.1, HX.out.2, by go_num, HW.out, HBW.out⟩⟩
            first | exact Q | ((repeat apply Exists.intro); exact ⟨Q, rfl⟩)
          case measure => have := HX.out; simp [intOf]; omega
    · have TW : Hid (Two lo o 40 cs ga bca bwa bma gb bcb bwb bmb wr) := by
        obtain ⟨⟨Na, rba, wsa, osa, Nb, rbb, wsb, osb, oa, ob, ap, hsame, hout1, hout2⟩⟩ := HT.out
        exact ⟨_, _, _, _, _, _, _, _, oa.mono HJ.out, ob.mono HJ.out, ap, hsame, hout1, hout2⟩
      have hgo : (((decide ((j : Int) < (len' : Int))) && decide ((j : Int) < 40)) = false) := by
        simp only [Bool.and_eq_false_iff, decide_eq_false_iff_not]; omega
      obtain ⟨t1, ht1⟩ : ∃ t, decide ((j : Int) < (len' : Int)) = t := ⟨_, rfl⟩
      have hways : t1 = false ∨ (t1 = true ∧ ¬ (j : Int) < 40) := by
        cases t1 with
        | false => exact .inl rfl
        | true => exact .inr ⟨rfl, by rw [ht1] at hgo; simpa using hgo⟩
      clear hj hj40 HT T0 B2 hgo hlt
      rcases hways with ht | ⟨ht, hj4⟩
      · subst ht
        have hjI : ¬ (j : Int) < (len' : Int) := by simpa using ht1
        clear ht1
        go_wp2_with fail
        go_loopw [15] (fun iv wr => A2 lo o cs ga bca bwa bma gb bcb bwb bmb w iv wr) (fun i _ => 41 - (intOf i).toNat)
        case atStart => exact ⟨⟨0, Nat.zero_le _, rfl, TW.out, HB.out⟩⟩
        case round =>
          obtain ⟨⟨i, hi, rfl, htw, hb⟩⟩ := hrel
          have KT := Lib.hid htw
          have KB := Lib.hid hb
          have KI : Hid (i ≤ n) := by rw [← HLEN.out]; exact hi
          obtain ⟨⟨Na, rba, wsa, osa, Nb, rbb, wsb, osb, oa, ob, ap, hsame, hout1, hout2⟩⟩ := htw
          have OA := Lib.hid oa
          have OB := Lib.hid ob
          have HSAME := Lib.hid hsame
          have HO1 : Hid (wsb o = [] ∧ osb (o : Int) = none) := ⟨hout1, hout2⟩
          clear hb oa ob ap hsame hout1 hout2 hi
          by_cases hlt2 : i < n
          · have hiI : (i : Int) < (n : Int) := by omega
            have hi16 : (i : Int) < 16 := by have := HNN.out; omega
            have HX : Hid (i < cs.length) := by rw [HLEN.out]; exact hlt2
            have KI2 : Hid (i + 1 ≤ cs.length ∧ i ≤ 16) := by have := H16.out; have := HLEN.out; unfold Hid; omega
            clear hlt2
            by_cases hio : i = o
            · have hio1 : ((i : Int) == (o : Int)) = true := by rw [beq_iff_eq]; omega
              clear hio
              go_wp2_with fail
              go_roundw
              case rel =>
                have Q : A2 lo o cs ga bca bwa bma gb bcb bwb bmb w (.int .i64 ((i : Int) + 1)) wr := ⟨⟨i + 1, KI2.out.1, by go_num, KT.out, KB.out⟩⟩
                first | exact Q | ((repeat apply Exists.intro); exact ⟨Q, rfl⟩)
              case measure => have := KI2.out; simp [intOf]; omega
            · have hio1 : ((i : Int) == (o : Int)) = false := by rw [beq_eq_false_iff_ne]; omega
              have hs := HSAME.out i HX.out hio
              have HS := Lib.hid hs
              have hga := OA.out.gd i HX.out
              have HGL : Hid ((wsa i).length ≤ 40) := hga.len
              have hwf : (Lit.int .i64 (i : Int)).wf = true := by
                simp only [Lit.wf, Bool.and_eq_true, decide_eq_true_eq]
                have h5 : (IntKind.i64.min : Int) = -9223372036854775808 := rfl
                have h6 : (IntKind.i64.max : Int) = 9223372036854775807 := rfl
                have := KI2.out
                omega
              obtain ⟨vca, cwa, hda, _⟩ := OA.out.lv.hd
              obtain ⟨vcb, cwb, hdb, _⟩ := OB.out.lv.hd
              have WA := Lib.hid (owner_any ga bma Na vca _ osa (i : Int) wr hwf hda OA.out.lv.mp)
              have WB : Hid (Calls Try.prog 24 #[.pointer (some ⟨gb, 0, none⟩), .int .i64 (i : Int)] wr fun e w' => e = .returned (.tuple #[.int .i64 ((osa (i : Int)).getD 0), .bool (osa (i : Int)).isSome]) ∧ w' = wr) := by
                have h := owner_any gb bmb Nb vcb _ osb (i : Int) wr hwf hdb OB.out.lv.mp
                rw [← hs.2] at h
                exact h
              obtain ⟨ow, how⟩ : ∃ ow, (osa (i : Int)).getD 0 = ow := ⟨_, rfl⟩
              obtain ⟨ob, hob⟩ : ∃ ob, (osa (i : Int)).isSome = ob := ⟨_, rfl⟩
              rw [how, hob] at WA WB
              have XA := Lib.hid (waiting_any lo ga bca bwa bma Na rba cs wsa osa i (wsa i) wr OA.out.lv HX.out rfl (by have := HGL.out; omega))
              have XB : Hid (∀ w5, Below wr.heap.size wr w5 → _) := fun w5 h5 => waiting_any lo gb bcb bwb bmb Nb rbb cs wsb osb i (wsa i) w5 (OB.out.lv.below h5) HX.out HS.out.1.symm (by have := HGL.out; omega)
              have hbb : ∀ ob : Bool, (ob != ob) = false := fun ob => by simp
              have hbe : ∀ ob : Bool, (ob == ob) = true := fun ob => by simp
              clear hio hs hga hwf hda hdb how hob
              go_wp2_with fail
              refine WA.out.mono ?_
              rintro e w5 ⟨rfl, hw⟩
              rw [hw]
              clear hw w5 WA
              go_wp2_with fail
              refine WB.out.mono ?_
              rintro e w5 ⟨rfl, hw⟩
              rw [hw]
              clear hw w5 WB
              go_wp2_with fail
              refine XA.out.mono ?_
              rintro e w5 ⟨A5, c5, r5, rfl, r51, r52, b5⟩
              have R5 := Lib.hid r51
              have S5 := Lib.hid r52
              have B5 := Lib.hid b5
              clear r51 r52 b5 XA
              go_wp2_with fail
              refine (XB.out w5 B5.out).mono ?_
              rintro e w6 ⟨A6, c6, r6, rfl, r61, r62, b6⟩
              have R6 := Lib.hid r61
              have R56 : Hid (I.RowV w6 (.slice A5 (wsa i).length c5) r5 (idsP (wsa i))) := R5.out.keep (S5.out.imp (fun h => h) fun h => b6.block r5 h.2)
              have B6 : Hid (Below wr.heap.size wr w6) := B5.out.trans (b6.mono B5.out.size)
              clear r61 r62 b6 XB R5 S5 B5
              go_wp2_with fail
              refine (Go.Proofs.Ytbnnpfhgpbaedaa.K.ints_any _ _ _ _ _ _ w6 R56.out R6.out (by unfold idsP; rw [List.length_map]; have := HGL.out; omega) (by unfold idsP; rw [List.length_map]; have := HGL.out; omega)).mono ?_
              rintro e w7 ⟨he7, b7⟩
              have he7 : e = .returned (.bool true) := by rw [he7]; simp
              subst he7
              have B7 : Hid (Below wr.heap.size wr w7) := B6.out.trans (b7.mono B6.out.size)
              have T7 : Hid (Two lo o 40 cs ga bca bwa bma gb bcb bwb bmb w7) := by
                obtain ⟨⟨Na, rba, wsa, osa, Nb, rbb, wsb, osb, oa, ob, ap, hsame, hout1, hout2⟩⟩ := KT.out
                exact ⟨_, _, _, _, _, _, _, _, oa.below B7.out, ob.below B7.out, ap, hsame, hout1, hout2⟩
              have BW7 : Hid (Below lo w w7) := KB.out.trans (B7.out.mono (by have := KB.out.size; have := HLO.out; omega))
              clear b7 R56 R6 B6
              go_wp2_with fail
              go_roundw
              case rel =>
                have Q : A2 lo o cs ga bca bwa bma gb bcb bwb bmb w (.int .i64 ((i : Int) + 1)) w7 := ⟨⟨i + 1, KI2.out.1, by go_num, T7.out, BW7.out⟩⟩
                first | exact Q | ((repeat apply Exists.intro); exact ⟨Q, rfl⟩)
              case measure => have := KI2.out; simp [intOf]; omega
          · have hiI : ¬ (i : Int) < (n : Int) := by omega
            have HOC : Hid (o < cs.length) := by rw [HLEN.out]; exact HO.out
            have hwf : (Lit.int .i64 (o : Int)).wf = true := by
              simp only [Lit.wf, Bool.and_eq_true, decide_eq_true_eq]
              have h5 : (IntKind.i64.min : Int) = -9223372036854775808 := rfl
              have h6 : (IntKind.i64.max : Int) = 9223372036854775807 := rfl
              have := HO.out
              have := HNN.out
              omega
            obtain ⟨vcb, cwb, hdb, _⟩ := OB.out.lv.hd
            have WB : Hid (Calls Try.prog 24 #[.pointer (some ⟨gb, 0, none⟩), .int .i64 (o : Int)] wr fun e w' => e = .returned (.tuple #[.int .i64 0, .bool false]) ∧ w' = wr) := by
              have h := owner_any gb bmb Nb vcb _ osb (o : Int) wr hwf hdb OB.out.lv.mp
              rw [HO1.out.2] at h
              exact h
            have KN := Lib.hid (known_any wr)
            clear hlt2 hwf hdb
            go_wp2_with fail
            refine WB.out.mono ?_
            rintro e w5 ⟨rfl, hw⟩
            rw [hw]
            clear hw w5 WB
            go_wp2_with fail
            refine KN.out.mono ?_
            rintro e w5 ⟨rfl, b5⟩
            have XB := Lib.hid (waiting_any lo gb bcb bwb bmb Nb rbb cs wsb osb o [] w5 (OB.out.lv.below b5) HOC.out HO1.out.1 (by simp))
            have B5 : Hid (Below lo w w5) := KB.out.trans (b5.mono (by have := KB.out.size; have := HLO.out; omega))
            clear b5 KN
            go_wp2_with fail
            refine XB.out.mono ?_
            rintro e w6 ⟨A6, c6, r6, rfl, r61, r62, b6⟩
            have B6 : Hid (Below lo w w6) := B5.out.trans (b6.mono (by have := B5.out.size; have := HLO.out; omega))
            clear r61 r62 b6 XB
            go_wp2_with fail
            go_ret
            exact ⟨rfl, B6.out⟩
      · subst ht
        have hjI : (j : Int) < (len' : Int) := by simpa using ht1
        clear ht1
        go_wp2_with fail
        go_loopw [15] (fun iv wr => A2 lo o cs ga bca bwa bma gb bcb bwb bmb w iv wr) (fun i _ => 41 - (intOf i).toNat)
        case atStart => exact ⟨⟨0, Nat.zero_le _, rfl, TW.out, HB.out⟩⟩
        case round =>
          obtain ⟨⟨i, hi, rfl, htw, hb⟩⟩ := hrel
          have KT := Lib.hid htw
          have KB := Lib.hid hb
          have KI : Hid (i ≤ n) := by rw [← HLEN.out]; exact hi
          obtain ⟨⟨Na, rba, wsa, osa, Nb, rbb, wsb, osb, oa, ob, ap, hsame, hout1, hout2⟩⟩ := htw
          have OA := Lib.hid oa
          have OB := Lib.hid ob
          have HSAME := Lib.hid hsame
          have HO1 : Hid (wsb o = [] ∧ osb (o : Int) = none) := ⟨hout1, hout2⟩
          clear hb oa ob ap hsame hout1 hout2 hi
          by_cases hlt2 : i < n
          · have hiI : (i : Int) < (n : Int) := by omega
            have hi16 : (i : Int) < 16 := by have := HNN.out; omega
            have HX : Hid (i < cs.length) := by rw [HLEN.out]; exact hlt2
            have KI2 : Hid (i + 1 ≤ cs.length ∧ i ≤ 16) := by have := H16.out; have := HLEN.out; unfold Hid; omega
            clear hlt2
            by_cases hio : i = o
            · have hio1 : ((i : Int) == (o : Int)) = true := by rw [beq_iff_eq]; omega
              clear hio
              go_wp2_with fail
              go_roundw
              case rel =>
                have Q : A2 lo o cs ga bca bwa bma gb bcb bwb bmb w (.int .i64 ((i : Int) + 1)) wr := ⟨⟨i + 1, KI2.out.1, by go_num, KT.out, KB.out⟩⟩
                first | exact Q | ((repeat apply Exists.intro); exact ⟨Q, rfl⟩)
              case measure => have := KI2.out; simp [intOf]; omega
            · have hio1 : ((i : Int) == (o : Int)) = false := by rw [beq_eq_false_iff_ne]; omega
              have hs := HSAME.out i HX.out hio
              have HS := Lib.hid hs
              have hga := OA.out.gd i HX.out
              have HGL : Hid ((wsa i).length ≤ 40) := hga.len
              have hwf : (Lit.int .i64 (i : Int)).wf = true := by
                simp only [Lit.wf, Bool.and_eq_true, decide_eq_true_eq]
                have h5 : (IntKind.i64.min : Int) = -9223372036854775808 := rfl
                have h6 : (IntKind.i64.max : Int) = 9223372036854775807 := rfl
                have := KI2.out
                omega
              obtain ⟨vca, cwa, hda, _⟩ := OA.out.lv.hd
              obtain ⟨vcb, cwb, hdb, _⟩ := OB.out.lv.hd
              have WA := Lib.hid (owner_any ga bma Na vca _ osa (i : Int) wr hwf hda OA.out.lv.mp)
              have WB : Hid (Calls Try.prog 24 #[.pointer (some ⟨gb, 0, none⟩), .int .i64 (i : Int)] wr fun e w' => e = .returned (.tuple #[.int .i64 ((osa (i : Int)).getD 0), .bool (osa (i : Int)).isSome]) ∧ w' = wr) := by
                have h := owner_any gb bmb Nb vcb _ osb (i : Int) wr hwf hdb OB.out.lv.mp
                rw [← hs.2] at h
                exact h
              obtain ⟨ow, how⟩ : ∃ ow, (osa (i : Int)).getD 0 = ow := ⟨_, rfl⟩
              obtain ⟨ob, hob⟩ : ∃ ob, (osa (i : Int)).isSome = ob := ⟨_, rfl⟩
              rw [how, hob] at WA WB
              have XA := Lib.hid (waiting_any lo ga bca bwa bma Na rba cs wsa osa i (wsa i) wr OA.out.lv HX.out rfl (by have := HGL.out; omega))
              have XB : Hid (∀ w5, Below wr.heap.size wr w5 → _) := fun w5 h5 => waiting_any lo gb bcb bwb bmb Nb rbb cs wsb osb i (wsa i) w5 (OB.out.lv.below h5) HX.out HS.out.1.symm (by have := HGL.out; omega)
              have hbb : ∀ ob : Bool, (ob != ob) = false := fun ob => by simp
              have hbe : ∀ ob : Bool, (ob == ob) = true := fun ob => by simp
              clear hio hs hga hwf hda hdb how hob
              go_wp2_with fail
              refine WA.out.mono ?_
              rintro e w5 ⟨rfl, hw⟩
              rw [hw]
              clear hw w5 WA
              go_wp2_with fail
              refine WB.out.mono ?_
              rintro e w5 ⟨rfl, hw⟩
              rw [hw]
              clear hw w5 WB
              go_wp2_with fail
              refine XA.out.mono ?_
              rintro e w5 ⟨A5, c5, r5, rfl, r51, r52, b5⟩
              have R5 := Lib.hid r51
              have S5 := Lib.hid r52
              have B5 := Lib.hid b5
              clear r51 r52 b5 XA
              go_wp2_with fail
              refine (XB.out w5 B5.out).mono ?_
              rintro e w6 ⟨A6, c6, r6, rfl, r61, r62, b6⟩
              have R6 := Lib.hid r61
              have R56 : Hid (I.RowV w6 (.slice A5 (wsa i).length c5) r5 (idsP (wsa i))) := R5.out.keep (S5.out.imp (fun h => h) fun h => b6.block r5 h.2)
              have B6 : Hid (Below wr.heap.size wr w6) := B5.out.trans (b6.mono B5.out.size)
              clear r61 r62 b6 XB R5 S5 B5
              go_wp2_with fail
              refine (Go.Proofs.Ytbnnpfhgpbaedaa.K.ints_any _ _ _ _ _ _ w6 R56.out R6.out (by unfold idsP; rw [List.length_map]; have := HGL.out; omega) (by unfold idsP; rw [List.length_map]; have := HGL.out; omega)).mono ?_
              rintro e w7 ⟨he7, b7⟩
              have he7 : e = .returned (.bool true) := by rw [he7]; simp
              subst he7
              have B7 : Hid (Below wr.heap.size wr w7) := B6.out.trans (b7.mono B6.out.size)
              have T7 : Hid (Two lo o 40 cs ga bca bwa bma gb bcb bwb bmb w7) := by
                obtain ⟨⟨Na, rba, wsa, osa, Nb, rbb, wsb, osb, oa, ob, ap, hsame, hout1, hout2⟩⟩ := KT.out
                exact ⟨_, _, _, _, _, _, _, _, oa.below B7.out, ob.below B7.out, ap, hsame, hout1, hout2⟩
              have BW7 : Hid (Below lo w w7) := KB.out.trans (B7.out.mono (by have := KB.out.size; have := HLO.out; omega))
              clear b7 R56 R6 B6
              go_wp2_with fail
              go_roundw
              case rel =>
                have Q : A2 lo o cs ga bca bwa bma gb bcb bwb bmb w (.int .i64 ((i : Int) + 1)) w7 := ⟨⟨i + 1, KI2.out.1, by go_num, T7.out, BW7.out⟩⟩
                first | exact Q | ((repeat apply Exists.intro); exact ⟨Q, rfl⟩)
              case measure => have := KI2.out; simp [intOf]; omega
          · have hiI : ¬ (i : Int) < (n : Int) := by omega
            have HOC : Hid (o < cs.length) := by rw [HLEN.out]; exact HO.out
            have hwf : (Lit.int .i64 (o : Int)).wf = true := by
              simp only [Lit.wf, Bool.and_eq_true, decide_eq_true_eq]
              have h5 : (IntKind.i64.min : Int) = -9223372036854775808 := rfl
              have h6 : (IntKind.i64.max : Int) = 9223372036854775807 := rfl
              have := HO.out
              have := HNN.out
              omega
            obtain ⟨vcb, cwb, hdb, _⟩ := OB.out.lv.hd
            have WB : Hid (Calls Try.prog 24 #[.pointer (some ⟨gb, 0, none⟩), .int .i64 (o : Int)] wr fun e w' => e = .returned (.tuple #[.int .i64 0, .bool false]) ∧ w' = wr) := by
              have h := owner_any gb bmb Nb vcb _ osb (o : Int) wr hwf hdb OB.out.lv.mp
              rw [HO1.out.2] at h
              exact h
            have KN := Lib.hid (known_any wr)
            clear hlt2 hwf hdb
            go_wp2_with fail
            refine WB.out.mono ?_
            rintro e w5 ⟨rfl, hw⟩
            rw [hw]
            clear hw w5 WB
            go_wp2_with fail
            refine KN.out.mono ?_
            rintro e w5 ⟨rfl, b5⟩
            have XB := Lib.hid (waiting_any lo gb bcb bwb bmb Nb rbb cs wsb osb o [] w5 (OB.out.lv.below b5) HOC.out HO1.out.1 (by simp))
            have B5 : Hid (Below lo w w5) := KB.out.trans (b5.mono (by have := KB.out.size; have := HLO.out; omega))
            clear b5 KN
            go_wp2_with fail
            refine XB.out.mono ?_
            rintro e w6 ⟨A6, c6, r6, rfl, r61, r62, b6⟩
            have B6 : Hid (Below lo w w6) := B5.out.trans (b6.mono (by have := B5.out.size; have := HLO.out; omega))
            clear r61 r62 b6 XB
            go_wp2_with fail
            go_ret
            exact ⟨rfl, B6.out⟩
end Go.Proofs.Ytbnnpfhgpbaedaa.K
