/-
  Drop of locks: the loop. Each statement bears its own conditions.
-/
import Derived.Test.YtbnnpfhgpbaedaaLkW
namespace Go.Proofs.Ytbnnpfhgpbaedaa.K
open Go.RowKit
set_option linter.unusedVariables false
set_option linter.unusedSimpArgs false
theorem LV.bc_lt {lo g bc bw bm N : Nat} {rb : Nat → Nat} {cs : List Int} {ws : Nat → List (Int × Int)} {os : Int → Option Int} {w : World} (h : LV lo w g bc bw bm N rb cs ws os) (hne : cs ≠ []) : bc < w.heap.size := by
  obtain ⟨vc, cw, a1, a2, a3⟩ := h.hd
  rcases a3 with a3 | a3
  · rcases a2.form with ⟨_, h3⟩ | ⟨_, _, h3, _⟩
    · exact absurd h3 hne
    · rw [a3] at h3; cases h3
  · exact a3.1
structure DrR (lo B1 g bc bw bm N : Nat) (rb : Nat → Nat) (cs : List Int) (ws : Nat → List (Int × Int)) (os : Int → Option Int) (L : List Int) (hv : Value) (hr : Nat) (w : World) (nv iv : Value) (wr : World) : Prop where
  ex : ∃ (r N' : Nat) (A : Option Addr) (c : Nat), r ≤ L.length ∧ iv = .int .i64 (r : Int) ∧ nv = .slice A (wk ws (L.take r)).length c ∧ F.Ow 3 wr (fun b => B1 ≤ b) (.slice A (wk ws (L.take r)).length c) (wk ws (L.take r)).length (C (wk ws (L.take r))) ∧ N' ≤ N + r ∧ LV lo wr g bc bw bm N' rb cs (wsD ws (L.take r)) (osD ws os (L.take r)) ∧ I.RowV wr hv hr L ∧ B1 ≤ wr.heap.size ∧ Lx bw bm cs.length rb rb w wr
set_option maxRecDepth 100000 in
set_option maxHeartbeats 4000000 in
theorem drop_any (lo g bc bw bm N : Nat) (rb : Nat → Nat) (cs : List Int) (ws : Nat → List (Int × Int)) (os : Int → Option Int) (id : Int) (w : World) (h : LV lo w g bc bw bm N rb cs ws os) (hc : cs.length ≤ 16) (hl : ∀ i, i < cs.length → (ws i).length ≤ 900) (hx : ∀ i, i < cs.length → ∀ x ∈ ws i, (Lit.int .i64 x.1).wf = true) (hN : N < 1000) :
    Calls Try.prog 21 #[.pointer (some ⟨g, 0, none⟩), .int .i64 id] w fun e w' => ∃ ws1 A c rv N', LvR ws cs.length id ws1 ∧ e = .returned (.slice A (wk ws1 (heldP os id cs.length)).length c) ∧ I.RowV w' (.slice A (wk ws1 (heldP os id cs.length)).length c) rv (wk ws1 (heldP os id cs.length)) ∧ (Value.slice A (wk ws1 (heldP os id cs.length)).length c = .slice none 0 0 ∨ (w.heap.size ≤ rv ∧ rv < w'.heap.size)) ∧ N' ≤ N + 16 ∧ LV lo w' g bc bw bm N' rb cs (wsD ws1 (heldP os id cs.length)) (osD ws1 os (heldP os id cs.length)) ∧ Lx bw bm cs.length rb rb w w' := by
  obtain ⟨i0, hi, hz0, hz1, hz2⟩ := I.info_of I.int_info
  have HC := Lib.hid hc
  have HN := Lib.hid hN
  have HX := Lib.hid hx
  have HL := Lib.hid hl
  have LE := Lib.hid (leave_any lo g bc bw bm N rb cs ws os id w h hc hl)
  have HBC : Hid (cs ≠ [] → bc < w.heap.size) := h.bc_lt
  obtain ⟨L, hL⟩ : ∃ L, heldP os id cs.length = L := ⟨_, rfl⟩
  have HLK : Hid (∀ x ∈ L, ∃ k : Nat, k < cs.length ∧ x = (k : Int)) := by rw [← hL]; exact heldP_lt os id cs.length
  have HND : Hid L.Nodup := by rw [← hL]; exact heldP_nd os id cs.length
  have HLL : Hid (L.length ≤ 16) := by unfold Hid; have := heldP_len os id cs.length; rw [hL] at this; omega
  have HLQ := Lib.hid hL
  rw [hL]
  clear h hc hl hx hN hL
  go_enter Try.func21, Try.ntmps21
  go_wp2_with fail
  refine LE.out.mono ?_
  rintro e w1 ⟨r1, ws1, rfl, lr, lv1, x1⟩
  have LR := Lib.hid lr
  have LV1 := Lib.hid lv1
  have X1 := Lib.hid x1
  have HE := Lib.hid (held_any lo g bc bw bm N rb cs ws1 os id w1 lv1 HC.out)
  clear lr lv1 x1 LE
  go_wp2_with fail
  refine HE.out.mono ?_
  rintro e w2 ⟨A2, m2, c2, r2, rfl, hm2, row2, fr2, b2⟩
  rw [HLQ.out] at hm2 row2
  have HM2 := Lib.hid hm2
  have LV2 := Lib.hid (LV1.out.below b2)
  have X2 : Hid (Lx bw bm cs.length rb rb w w2) := X1.out.trans (Lx.of_below b2)
  have BLT : Hid (∀ b, (b = bw ∨ b = bm ∨ ∃ i, i < cs.length ∧ b = rb i) → b < w1.heap.size) := fun b hb => by
    rcases hb with hb | hb | ⟨i, hi, hb⟩
    · rw [hb]; exact LV1.out.lt.2.1
    · rw [hb]; exact LV1.out.lt.2.2.1
    · rw [hb]; exact LV1.out.lt.2.2.2 i hi
  have S0 : Hid (w.heap.size ≤ w1.heap.size ∧ w1.heap.size ≤ w2.heap.size) := ⟨X1.out.size, b2.size⟩
  have FR2 := Lib.hid fr2
  obtain ⟨B1, hB1⟩ : ∃ B1, w2.heap.size = B1 := ⟨_, rfl⟩
  have HB1 := Lib.hid hB1
  have ROW2 := Lib.hid row2
  have hmi : (m2 : Int) ≤ 16 := by have := HLL.out; omega
  clear hm2 row2 fr2 b2 hB1 HE LV1 X1
  go_wp2_with fail
  go_loopw [5, 15] (fun nv iv wr => DrR lo B1 g bc bw bm N rb cs ws1 os L (.slice A2 m2 c2) r2 w nv iv wr) (fun _ i _ => 17 - (intOf i).toNat)
  case atStart =>
    refine ⟨⟨0, N, none, 0, Nat.zero_le _, rfl, rfl, F.Ow.nil _ _ _, Nat.le_refl _, ?_, ROW2.out, Nat.le_of_eq HB1.out.symm, X2.out⟩⟩
    rw [List.take_zero, wsD_nil, osD_nil]
    exact LV2.out
  case round =>
    obtain ⟨⟨r, N', A, c, hr, rfl, rfl, how, hN', hlv, hrow, hsz, hlx⟩⟩ := hrel
    have HR := Lib.hid hr
    have OW := Lib.hid how
    have HN' := Lib.hid hN'
    have LVR := Lib.hid hlv
    have ROWR := Lib.hid hrow
    have HSZ := Lib.hid hsz
    have LXR := Lib.hid hlx
    clear hr how hN' hlv hrow hsz hlx
    by_cases hlt : r < m2
    · have hrI : (r : Int) < (m2 : Int) := by omega
      have hr16 : (r : Int) < 16 := by omega
      have HRL : Hid (r < L.length) := by rw [← HM2.out]; exact hlt
      obtain ⟨k, hk1, hk2⟩ := HLK.out (L.getD r 0) (I.getD_in' HRL.out)
      have HK := Lib.hid hk1
      obtain ⟨⟨c', hv⟩, d, hrlt⟩ := ROWR.out.cells r HRL.out
      rw [hk2] at d
      injection hv with hv1 hv2 hv3
      subst hv1
      have HTK : Hid (L.take (r + 1) = L.take r ++ [(k : Int)]) := by
        unfold Hid
        rw [List.take_succ_eq_append_getElem HRL.out, ← hk2, List.getD_eq_getElem?_getD, List.getElem?_eq_getElem HRL.out]; rfl
      have HNI : Hid ((k : Int) ∉ L.take r) := by
        have hn := HND.out
        rw [← List.take_append_drop (r + 1) L, HTK.out] at hn
        have h2 := (List.nodup_append.1 hn).1
        have h3 := (List.nodup_append.1 h2).2.2
        exact fun hm => h3 _ hm _ (List.mem_singleton.2 rfl) rfl
      have hwk : wsD ws1 (L.take r) k = ws1 k := by unfold wsD; rw [if_neg HNI.out]
      have PE := Lib.hid (pass_eff lo g bc bw bm N' rb cs (wsD ws1 (L.take r)) (osD ws1 os (L.take r)) k wr LVR.out HK.out HC.out (by rw [hwk]; have := (LR.out.sub k).1; have := HL.out k HK.out; omega) (by rw [hwk]; exact fun x hx => HX.out k HK.out x ((LR.out.sub k).2 x hx)) (by have := HN'.out; have := HN.out; have := HRL.out; have := HLL.out; unfold maxLen; omega))
      rw [hwk, wsD_snoc' hwk HNI.out, ← HTK.out, osD_snoc' hwk HNI.out, ← HTK.out] at PE
      clear hk1 hk2 hv2 hv3 hlt hwk hrlt
      go_wp2_with fail
      refine PE.out.mono ?_
      rintro e w4 ⟨A4, c4, r4, N4, rfl, row4, hN4, lv4, x4⟩
      have ROW4 := Lib.hid row4
      have LV4 := Lib.hid lv4
      have X4 := Lib.hid x4
      have HN4 := Lib.hid hN4
      have OW4 : Hid (F.Ow 3 w4 (fun b => B1 ≤ b) (.slice A (wk ws1 (L.take r)).length c) (wk ws1 (L.take r)).length (C (wk ws1 (L.take r)))) := OW.out.fo x4.fo fun b hb hq => by have := BLT.out b hq; have := S0.out; have := HB1.out; omega
      have HH4 : Hid (I.RowV w4 (.slice (some ⟨r2, 0, none⟩) m2 c2) r2 L) := ROWR.out.keep (FR2.out.imp (fun h => h) fun h => x4.block r2 (by have := HSZ.out; have := HB1.out; omega) (fun e => by have := BLT.out r2 (.inl e); omega) (fun e => by have := BLT.out r2 (.inr (.inl e)); omega) (fun i hi e => by have := BLT.out r2 (.inr (.inr ⟨i, hi, e⟩)); omega))
      clear row4 lv4 x4 hN4 PE d
      have HWL : Hid ((wk ws1 (L.take r)).length ≤ 16) := by unfold Hid; have := wk_len ws1 (L.take r); rw [List.length_take] at this; have := HLL.out; omega
      have HD1 := Lib.hid (hd1_len (ws1 k))
      go_wp2_with (at_builtin; refine wpList_append_any _ rfl _ _ 22 rfl 0 3 i0 (.int .i64 0) 1 8 Try.underlying22 hi hz0 hz1 hz2 rfl (by decide) _ _ _ rfl OW4.out.own w4.heap.size A4 (hd1 (ws1 k)).length c4 (C (hd1 (ws1 k))) rfl ROW4.out.reads ?c2 ?c3 ?c4 ?c5 ?_)
      case c2 => exact C_one _
      case c3 => have := HWL.out; have := HD1.out; unfold maxLen; omega
      case c4 => have := HWL.out; have := HD1.out; omega
      case c5 => exact Nat.zero_le _
      intro v' w5 hown hgrow hblk
      have HWS : Hid (wk ws1 (L.take (r + 1)) = wk ws1 (L.take r) ++ hd1 (ws1 k)) := by rw [HTK.out]; exact wk_snoc ws1
      have hlen5 : (wk ws1 (L.take r)).length + (hd1 (ws1 k)).length = (wk ws1 (L.take (r + 1))).length := by rw [HWS.out, List.length_append]
      rw [← Go.Proofs.Ytbnnpfhgpbaedaa.C_app, ← HWS.out, hlen5] at hown
      obtain ⟨A5, c5, rfl⟩ := slice_form hown
      have G5 := OW4.out.grow hown hgrow hblk
      have OW5 : Hid (F.Ow 3 w5 (fun b => B1 ≤ b) (.slice A5 (wk ws1 (L.take (r + 1))).length c5) (wk ws1 (L.take (r + 1))).length (C (wk ws1 (L.take (r + 1))))) := G5.1.imp fun b _ hb => by
        rcases hb with hb | hb
        · exact hb
        · have := X4.out.size; have := HSZ.out; omega
      have LV5 : Hid (LV lo w5 g bc bw bm N4 rb cs (wsD ws1 (L.take (r + 1))) (osD ws1 os (L.take (r + 1)))) := by
        refine LV4.out.keep2 G5.2.size fun b hb hq => G5.2.block b hb (fun hB => ?_)
        have hB : B1 ≤ b := hB
        have hS := S0.out
        have hB1 := HB1.out
        have hne : cs ≠ [] := fun e => by have := HK.out; rw [e] at this; simp at this
        rcases hq with hq | hq | hq | hq | ⟨i, hi, hq⟩
        · have := LV2.out.lt.1; omega
        · have := HBC.out hne; omega
        · have := BLT.out b (.inl hq); omega
        · have := BLT.out b (.inr (.inl hq)); omega
        · have := BLT.out b (.inr (.inr ⟨i, hi, hq⟩)); omega
      have X5 : Hid (Lx bw bm cs.length rb rb w w5) := by
        refine ⟨G5.2.os.trans (LXR.out.trans X4.out).os, G5.2.tape.trans (LXR.out.trans X4.out).tape, G5.2.output.trans (LXR.out.trans X4.out).output, Nat.le_trans (LXR.out.trans X4.out).size G5.2.size, fun k hk h1 h2 h3 => ?_, fun _ _ => .inl rfl⟩
        refine (G5.2.block k (Nat.lt_of_lt_of_le hk (LXR.out.trans X4.out).size) (fun hB => ?_)).trans ((LXR.out.trans X4.out).block k hk h1 h2 h3)
        have hB : B1 ≤ k := hB
        have := S0.out; have := HB1.out; omega
      have HH5 : Hid (I.RowV w5 (.slice (some ⟨r2, 0, none⟩) m2 c2) r2 L) := HH4.out.keep (FR2.out.imp (fun h => h) fun h => G5.2.block r2 (by have := X4.out.size; have := HSZ.out; have := HB1.out; omega) (fun hB => by have hB : B1 ≤ r2 := hB; have := HB1.out; omega))
      have HSZ5 : Hid (B1 ≤ w5.heap.size) := by have := HSZ.out; have := X4.out.size; have := G5.2.size; unfold Hid; omega
      clear hown hgrow hblk hlen5 G5
      go_wp2_with fail
      go_roundw
      case rel =>
        have Q : DrR lo B1 g bc bw bm N rb cs ws1 os L (.slice (some ⟨r2, 0, none⟩) m2 c2) r2 w (.slice A5 (wk ws1 (L.take (r + 1))).length c5) (.int .i64 ((r : Int) + 1)) w5 := ⟨⟨r + 1, N4, A5, c5, HRL.out, by go_num, rfl, OW5.out, by have := HN4.out; have := HN'.out; omega, LV5.out, HH5.out, HSZ5.out, X5.out⟩⟩
        first | exact Q | ((repeat apply Exists.intro); exact ⟨Q, rfl⟩)
      case measure => have := HRL.out; have := HLL.out; simp [intOf]; omega
    · have hrI : ¬ (r : Int) < (m2 : Int) := by omega
      have hrm : r = L.length := by have := HM2.out; have := HR.out; omega
      have HTE : Hid (L.take r = L) := by rw [hrm]; exact List.take_length
      have HRM : Hid (r ≤ 16) := by unfold Hid; have := HLL.out; omega
      clear hlt hrm
      rw [HTE.out] at OW LVR ⊢
      go_wp2_with fail
      go_ret
      have hw5 := OW.out
      rcases hw5.form with ⟨hv, h0, _⟩ | ⟨b, cap, cur, hv, hpb, hbl, hg, g1, g2, g3, g4⟩
      · have hr0 := hw5.own
        have hv' := hv
        injection hv with hv1 hv2 hv3
        exact ⟨ws1, LR.out, A, c, rfl, 0, ⟨hr0, fun b hb => by rw [hv'] at hb; cases hb⟩, .inl ⟨hv1, List.eq_nil_of_length_eq_zero hv2, hv3⟩, N', by have := HN'.out; have := HRM.out; omega, LVR.out, LXR.out⟩
      · exact ⟨ws1, LR.out, A, c, rfl, b, ⟨hw5.own, fun b' hb => by rw [hv] at hb; injection hb with hb; exact hb.symm⟩, .inr ⟨by have hpb : B1 ≤ b := hpb; have := S0.out; have := HB1.out; omega, hbl⟩, N', by have := HN'.out; have := HRM.out; omega, LVR.out, LXR.out⟩
end Go.Proofs.Ytbnnpfhgpbaedaa.K
