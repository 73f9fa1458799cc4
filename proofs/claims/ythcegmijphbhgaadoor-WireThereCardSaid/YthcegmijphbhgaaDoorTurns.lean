/-
  WireTurns' walk: sealed bytes with bits turned within 32 in a row are not opened.
-/
import Derived.Test.YthcegmijphbhgaaDoorFlip
import Derived.Test.YthcegmijphbhgaaDoorApart
namespace Go.Proofs.YthcegmijphbhgaaDoor
open Go.RowKit
set_option linter.unusedSimpArgs false
set_option linter.unusedVariables false

theorem turn_arith (F i M N : Nat) (h1 : F < M) (h2 : 8 * (N : Int) - 31 = (M : Int)) (h3 : i < 32) (hN : N ≤ 204) : ∃ kk q r : Nat, F + i = kk ∧ kk < 8 * N ∧ kk / 8 = q ∧ kk % 8 = r ∧ (F : Int) + (i : Int) = (kk : Int) ∧ wrap64 (kk : Int) = (kk : Int) ∧ (kk : Int) / 8 = (q : Int) ∧ (kk : Int) % 8 = (r : Int) ∧ (kk : Int).tdiv 8 = (q : Int) ∧ (kk : Int).tmod 8 = (r : Int) ∧ wrap64 (q : Int) = (q : Int) ∧ q < N ∧ (q : Int) < (N : Int) ∧ r < 8 ∧ wrap64 (r : Int) = (r : Int) ∧ IntKind.i64.wrap (q : Int) = (q : Int) ∧ IntKind.i64.wrap (r : Int) = (r : Int) := by
  refine ⟨F + i, (F + i) / 8, (F + i) % 8, rfl, by omega, rfl, rfl, by omega, by unfold wrap64; omega, by omega, by omega, ?_, ?_, by unfold wrap64; omega, by omega, by omega, by omega, by unfold wrap64; omega, IntWalk.i64_in _ (by omega), IntWalk.i64_in _ (by omega)⟩
  · rw [Int.tdiv_eq_ediv_of_nonneg (by omega)]; omega
  · rw [Int.tmod_eq_emod_of_nonneg (by omega)]; omega
theorem cell_of {wr : World} {B g N c : Nat} {m : List Int} (ho : wr.ownsRow B 5 1 (.slice (some ⟨g, 0, none⟩) N c) N (U m)) (q : Nat) (hq : q < N) {v : Int} (hv : m.getD q 0 = v) : wr.cell? ⟨g, q, none⟩ = some (.int .u8 v) := by
  have ml : m.length = N := by have := ho.1; simpa using this
  rw [ho.cellAt q (by omega), ← hv]; simp [List.getD_eq_getElem?_getD, List.getElem?_eq_getElem (show q < m.length by omega)]
structure TurnRel (S0 : List Int) (A1 : Option Addr) (N c1 F Tn : Nat) (w : World) (t iv : Value) (wr : World) : Prop where
  ex :
  ∃ (i T : Nat) (m : List Int), i ≤ 32 ∧ iv = .int .i64 i ∧ t = .int .u32 T ∧ Hid (T ≤ 4294967295) ∧ Hid (T = Tn / 2 ^ i) ∧ wr.ownsRow w.heap.size 5 1 (.slice A1 N c1) N (U m) ∧ Below w.heap.size w wr ∧ Flip S0 m F i Tn

theorem split8 {s k q r : Nat} (h1 : s = k) (h2 : k / 8 = q) (h3 : k % 8 = r) : s = 8 * q + r := by omega
theorem own_cap {w : World} {B g n c : Nat} {xs : List Value} (h : w.ownsRow B 5 1 (.slice (some ⟨g, 0, none⟩) n c) n xs) : n ≤ c := by
  rcases h.2 with ⟨h1, _⟩ | ⟨g', cap, cur, hv, _, _, hnc, _⟩
  · cases h1
  · injection hv with _ _ h3; omega
theorem far_in {F M N k len : Nat} (h1 : F < M) (h2 : 8 * (N : Int) - 31 = (M : Int)) (h3 : N = k + 4) (h4 : len = k) : F + 32 ≤ 8 * (len + 4) := by omega
theorem half_le {T : Nat} (h : T ≤ 4294967295) : Hid (T / 2 ≤ 4294967295) := by unfold Hid; omega
theorem meas {i : Nat} (h : i < 32) : 32 - (i + 1) < 32 - i := by omega
theorem ho_len {w : World} {B : Nat} {e : TypeId} {v : Value} {n : Nat} {m : List Int} (h : w.ownsRow B e 1 v n (U m)) : m.length = n := by have := h.1; simpa using this
theorem shr_step (r : Nat) (hr : r < 8) (ev : Operand → Value) (W : World) (o : Oper) (t : Operand) (ho : o.op = .binOp .shr 5 (.const (.int .u8 128)) t 3) (hc : ev (.const (.int .u8 128)) = .int .u8 128) (ht : ev t = .int .i64 (r : Int)) :
    (execOp ev o).run Tryd.prog W = .ok (.value (.int .u8 (oneB r))) W := by
  unfold execOp
  rw [ho]
  simp only [hc, ht]
  clear hc ht ho
  match r, hr with
  | 0, _ => go_simp; rfl
  | 1, _ => go_simp; rfl
  | 2, _ => go_simp; rfl
  | 3, _ => go_simp; rfl
  | 4, _ => go_simp; rfl
  | 5, _ => go_simp; rfl
  | 6, _ => go_simp; rfl
  | 7, _ => go_simp; rfl
theorem turns_walk (a : Option Addr) (len cap : Nat) (zs : List Int) (at_ turn : Int) (w : World) (h0 : IsRow .u8 w a len cap zs) (hat : (Lit.int .i64 at_).wf = true) (ht : (Lit.int .u32 turn).wf = true) (hl : Laid w) :
    Calls Tryd.prog 8 #[.slice a len cap, .int .i64 at_, .int .u32 turn] w fun e w' => e = .returned (.bool true) ∧ Below w.heap.size w w' := by
  obtain ⟨t0, t1⟩ := bounds_u32 ht
  obtain ⟨k, hk, hk1, hk2⟩ : ∃ k : Nat, min (len : Int) 200 = (k : Int) ∧ k ≤ len ∧ k ≤ 200 := ⟨min len 200, by omega, by omega, by omega⟩
  obtain ⟨hr, hy, hlen, hc1, hc2⟩ := reads_row h0 k hk1
  have kc : (k : Int) ≤ (cap : Int) := by omega
  have k0 : (0 : Int) ≤ (k : Int) := by omega
  obtain ⟨bl, hbl⟩ : ∃ bl, zs.take k = bl := ⟨_, rfl⟩
  rw [hbl] at hr hy hlen
  obtain ⟨N, hN⟩ : ∃ N, N = k + 4 := ⟨_, rfl⟩
  obtain ⟨S0, hS0⟩ : ∃ S0, S0 = bl ++ wordB (sumV bl) := ⟨_, rfl⟩
  have HS := Lib.hid (seal_any a k cap bl w hr hl hy (by omega))
  rw [← hN, ← hS0] at HS
  have N4 : (4 : Int) ≤ (N : Int) := by omega
  have N4' : ¬ (N : Int) < 4 := by omega
  obtain ⟨u, hu⟩ : ∃ u : Nat, IntKind.u64.wrap at_ = (u : Int) := ⟨(IntKind.u64.wrap at_).toNat, by rw [IntKind.wrap_u64]; omega⟩
  obtain ⟨M, hM⟩ : ∃ M : Nat, 8 * (N : Int) - 31 = (M : Int) := ⟨8 * N - 31, by omega⟩
  have m8 : wrap64 (8 * (N : Int)) = 8 * (N : Int) := by unfold wrap64; omega
  have m31 : wrap64 (M : Int) = (M : Int) := by unfold wrap64; omega
  have mu : IntKind.u64.wrap (M : Int) = (M : Int) := by rw [IntKind.wrap_u64]; omega
  have M0 : ¬ M = 0 := by omega
  obtain ⟨F, hF⟩ : ∃ F : Nat, (u : Int) % (M : Int) = (F : Int) := ⟨u % M, by omega⟩
  have FM : F < M := by
    have := Nat.mod_lt u (show 0 < M by omega)
    have e : (F : Int) = ((u % M : Nat) : Int) := by rw [← hF]; omega
    omega
  have Fw : wrap64 (F : Int) = (F : Int) := by unfold wrap64; omega
  have HN2 : Hid (N ≤ 204) := by unfold Hid; omega
  have Nk := Lib.hid hN
  have HM := Lib.hid hM
  have HFM := Lib.hid FM
  have HR := Lib.hid (And.intro hk1 hk2)
  clear hN hk1 hk2 hc1 hc2 FM h0 hr hbl
  have HL := Lib.hid hl
  have HY := Lib.hid hy
  clear hl hy
  go_enter Tryd.func8, Tryd.ntmps8
  go_wp2_with fail
  refine HS.out.mono ?_
  rintro e w1 ⟨A1, c1, rfl, ho1, hb1⟩
  by_cases hz : turn = 0
  · subst hz
    go_wp2_with fail
    refine (known_any w1 (HL.out.later hb1)).mono ?_
    rintro e w2 ⟨rfl, hb⟩
    go_wp2_with fail
    go_ret
    exact ⟨rfl, hb1.trans (hb.mono hb1.size)⟩
  have hz' : (turn == 0) = false := by simp [hz]
  obtain ⟨g, cy, hg, rfl⟩ : ∃ g cy, w.heap.size ≤ g ∧ A1 = some ⟨g, 0, none⟩ := by
    rcases ho1.2 with ⟨_, hn⟩ | ⟨g, cap, cur, hv, hgb, _⟩
    · omega
    · injection hv with hv
      exact ⟨g, cap, hgb, hv⟩
  obtain ⟨Tn, hTn⟩ : ∃ Tn : Nat, turn = (Tn : Int) := ⟨turn.toNat, by omega⟩
  subst hTn
  have HTn : Hid (Tn ≠ 0 ∧ Tn ≤ 4294967295) := ⟨fun h => hz (by rw [h]; rfl), by omega⟩
  go_wp2_with fail
  simp only [Fw, m8, m31, mu, hF]
  clear m8 m31 mu Fw hF
  go_loopw [2, 9] (fun t iv wr => TurnRel S0 (some ⟨g, 0, none⟩) N c1 F Tn w t iv wr) (fun _ iv _ => 32 - (intOf iv).toNat)
  case atStart => exact ⟨⟨0, Tn, S0, by omega, rfl, rfl, HTn.out.2, by simp [Hid], ho1, hb1, Flip.zero (hS0 ▸ seal_oct HY.out) F Tn⟩⟩
  case round =>
    obtain ⟨⟨i, T, m, hi, rfl, rfl, hT1, hT, ho, hb, hfl⟩⟩ := hrel
    clear hz hat ht ho1 hb1 HS t0 t1
    by_cases hlt : i < 32
    · have Tb : (T : Int) ≤ 4294967295 := by have := hT1.out; omega
      have T2 : ((T / 2 : Nat) : Int) = (T : Int) / 2 := by omega
      by_cases hodd : T % 2 = 1
      · have hod : (T : Int) % 2 = 1 := by omega
        obtain ⟨kk, q, r, ekk, kkN, eq8, er8, hkk, wkk, hq, hr8, tq, tr, wq, qN, qN', r8, wr8, iq, ir⟩ := turn_arith F i M N HFM.out HM.out hlt HN2.out
        obtain ⟨v, hv⟩ : ∃ v, Hid (m.getD q 0 = v) := ⟨_, rfl⟩
        have hcell : wr.cell? ⟨g, q, none⟩ = some (.int .u8 v) := by
          exact cell_of ho q qN hv.out
        have hfr := ho.frozenAt q
        have wFi : wrap64 ((F : Int) + (i : Int)) = (kk : Int) := by rw [hkk, wkk]
        have q0 : (0 : Int) ≤ (q : Int) := Int.natCast_nonneg q
        have H1 := Lib.hid ekk
        have H2 := Lib.hid kkN
        have H3 := Lib.hid eq8
        have H4 := Lib.hid er8
        have H5 := Lib.hid hfl
        have H6 := Lib.hid r8
        clear ekk kkN eq8 er8 hfl hkk wkk r8
        go_wp2_with fail
        refine wp_region_held_drew (S := (fun w' => Below w.heap.size w w')) (by kernel_rfl) ?_ (fun hHeld => ?_)
        · exact hb.drew
        refine takeD (i := 0) (d := some 44) (v := ?_) _ rfl rfl (by kernel_rfl) (by kernel_rfl) (by kernel_rfl) (fun _ _ _ h => h) (by rfl) ?_ (by assumption) ?_
        rotate_left
        · (intro w hSw; (try dsimp only at hSw); go_simp) <;> with_reducible rfl
        try simp only [Act.put, List.setIfInBounds_toArray, List.set_cons_zero, List.set_cons_succ]
        refine takeD (i := 1) (d := some 45) (v := ?_) _ rfl rfl (by kernel_rfl) (by kernel_rfl) (by kernel_rfl) (fun _ _ _ h => h) (by rfl) ?_ (by assumption) ?_
        rotate_left
        · (intro w hSw; (try dsimp only at hSw); go_simp) <;> with_reducible rfl
        try simp only [Act.put, List.setIfInBounds_toArray, List.set_cons_zero, List.set_cons_succ]
        refine takeD (i := 2) (d := some 46) (v := ?_) _ rfl rfl (by kernel_rfl) (by kernel_rfl) (by kernel_rfl) (fun _ _ _ h => h) (by rfl) ?_ (by assumption) ?_
        rotate_left
        · (intro w hSw; (try dsimp only at hSw); go_simp) <;> with_reducible rfl
        try simp only [Act.put, List.setIfInBounds_toArray, List.set_cons_zero, List.set_cons_succ]
        refine takeD (i := 3) (d := some 47) (v := ?_) _ rfl rfl (by kernel_rfl) (by kernel_rfl) (by kernel_rfl) (fun _ _ _ h => h) (by rfl) ?_ (by assumption) ?_
        rotate_left
        · (intro w hSw; (try dsimp only at hSw); go_simp) <;> with_reducible rfl
        try simp only [Act.put, List.setIfInBounds_toArray, List.set_cons_zero, List.set_cons_succ]
        refine takeD (i := 4) (d := some 48) (v := ?_) _ rfl rfl (by kernel_rfl) (by kernel_rfl) (by kernel_rfl) (fun _ _ _ h => h) (by rfl) ?_ (by assumption) ?_
        rotate_left
        · (intro w hSw; (try dsimp only at hSw); go_simp) <;> with_reducible rfl
        try simp only [Act.put, List.setIfInBounds_toArray, List.set_cons_zero, List.set_cons_succ]
        refine takeD (i := 5) (d := some 49) (v := ?_) _ rfl rfl (by kernel_rfl) (by kernel_rfl) (by kernel_rfl) (fun _ _ _ h => h) (by rfl) ?_ (by assumption) ?_
        rotate_left
        · (intro w hSw; (try dsimp only at hSw); go_simp) <;> with_reducible rfl
        try simp only [Act.put, List.setIfInBounds_toArray, List.set_cons_zero, List.set_cons_succ]
        refine takeD (i := 6) (d := some 50) (v := ?_) _ rfl rfl (by kernel_rfl) (by kernel_rfl) (by kernel_rfl) (fun _ _ _ h => h) (by rfl) ?_ (by assumption) ?_
        rotate_left
        · (intro w hSw; (try dsimp only at hSw); go_simp) <;> with_reducible rfl
        try simp only [Act.put, List.setIfInBounds_toArray, List.set_cons_zero, List.set_cons_succ]
        refine takeD (i := 8) (d := some 52) (v := ?_) _ rfl rfl (by kernel_rfl) (by kernel_rfl) (by kernel_rfl) (fun _ _ _ h => h) (by rfl) ?_ (by assumption) ?_
        rotate_left
        · (intro w hSw; (try dsimp only at hSw); go_simp) <;> with_reducible rfl
        try simp only [Act.put, List.setIfInBounds_toArray, List.set_cons_zero, List.set_cons_succ]
        refine takeD (i := 9) (d := some 53) (v := ?_) _ rfl rfl (by kernel_rfl) (by kernel_rfl) (by kernel_rfl) (fun _ _ _ h => h) (by rfl) ?_ (by assumption) ?_
        rotate_left
        · (intro w hSw; (try dsimp only at hSw); go_simp) <;> with_reducible rfl
        try simp only [Act.put, List.setIfInBounds_toArray, List.set_cons_zero, List.set_cons_succ]
        refine takeD (i := 10) (d := some 54) (v := .int .u8 (oneB r)) _ rfl rfl (by kernel_rfl) (by kernel_rfl) (by kernel_rfl) (fun _ _ _ h => h) (by rfl) ?_ (by assumption) ?_
        · intro W' hSw
          exact shr_step r H6.out _ _ _ (.tmp 53) rfl rfl (by first | rfl | (show Value.int _ (wrap64 (r : Int)) = _; rw [wr8]) | (show Value.int _ (IntKind.i64.wrap (r : Int)) = _; rw [ir]))
        try simp only [Act.put, List.setIfInBounds_toArray, List.set_cons_zero, List.set_cons_succ]
        refine wpAnyH_ready (rs := [7]) (by kernel_rfl) (by simp) ?_
        refine AllReadyH.cons rfl (fun K hK => ?_) AllReadyH.nil
        go_simp
        refine hK.out _ _ (by assumption) (fun hHeld => ?_)
        clear hK K
        try simp only [Act.put, List.setIfInBounds_toArray, List.set_cons_zero, List.set_cons_succ]
        refine takeD (i := 11) (d := some 55) (v := ?_) _ rfl rfl (by kernel_rfl) (by kernel_rfl) (by kernel_rfl) (fun _ _ _ h => h) (by rfl) ?_ (by assumption) ?_
        rotate_left
        · (intro w hSw; (try dsimp only at hSw); go_simp) <;> with_reducible rfl
        try simp only [Act.put, List.setIfInBounds_toArray, List.set_cons_zero, List.set_cons_succ]
        refine takeD (i := 12) (d := some 56) (v := ?_) _ rfl rfl (by kernel_rfl) (by kernel_rfl) (by kernel_rfl) (fun _ _ _ h => h) (by rfl) ?_ (by assumption) ?_
        rotate_left
        · (intro w hSw; (try dsimp only at hSw); go_simp) <;> with_reducible rfl
        try simp only [Act.put, List.setIfInBounds_toArray, List.set_cons_zero, List.set_cons_succ]
        refine wpAnyH_ready (rs := [13]) (by kernel_rfl) (by simp) ?_
        refine AllReadyH.cons rfl (fun K hK => ?_) AllReadyH.nil
        go_simp
        refine hK.out _ _ ?_ (fun hHeld => ?_)
        · exact (hb.setCell hg _).drew
        clear hK K
        try simp only [Act.put, List.setIfInBounds_toArray, List.set_cons_zero, List.set_cons_succ]
        refine wpAnyH_done (by kernel_rfl) ?_ _
        have ho2 := stored_u ho q (bits BinOp.xor IntKind.u8 v (oneB r))
        have hfl2 := H5.out.odd (test_odd hT.out hodd) q r (by rw [← H5.out.len, ho_len ho]; exact qN) H6.out (split8 H1.out H3.out H4.out)
        rw [hv.out] at hfl2
        have hT2 := Lib.hid (next_half hT.out)
        have hT3 : Hid (T / 2 ≤ 4294967295) := half_le hT1.out
        obtain ⟨x, hx⟩ : ∃ x, Hid (bits BinOp.xor IntKind.u8 v (oneB r) = x) := ⟨_, rfl⟩
        rw [hx.out] at ho2 hfl2 ⊢
        have HF2 := Lib.hid hfl2
        have HO2 := Lib.hid ho2
        clear ho2 hfl2 hodd hod
        go_wp2_with fail
        go_roundw
        case rel => first | exact ⟨⟨i + 1, T / 2, _, hlt, by go_num, by rw [T2], hT3, hT2, HO2.out, (hb.setCell hg _).drew, HF2.out⟩⟩ | ((repeat apply Exists.intro); exact ⟨⟨⟨i + 1, T / 2, _, hlt, by go_num, by rw [T2], hT3, hT2, HO2.out, (hb.setCell hg _).drew, HF2.out⟩⟩, rfl⟩)
        case measure => simp [intOf]; omega
      · have hev : T % 2 = 0 := by omega
        have hod : ((T : Int) % 2 == 1) = false := by simp; omega
        have hfl2 := Lib.hid (hfl.even (test_even hT.out hev))
        have hT2 := Lib.hid (next_half hT.out)
        have hT3 : Hid (T / 2 ≤ 4294967295) := half_le hT1.out
        clear hfl hodd hev
        go_wp2_with fail
        go_roundw
        case rel => first | exact ⟨⟨i + 1, T / 2, _, hlt, by go_num, by rw [T2], hT3, hT2, ho, hb, hfl2.out⟩⟩ | ((repeat apply Exists.intro); exact ⟨⟨⟨i + 1, T / 2, _, hlt, by go_num, by rw [T2], hT3, hT2, ho, hb, hfl2.out⟩⟩, rfl⟩)
        case measure => simp [intOf]; omega
    · obtain rfl : i = 32 := by omega
      have hrr := Reads.of_own ho
      have hcap := Lib.hid (own_cap ho)
      obtain ⟨e5, el, by5⟩ := flip_shut HY.out (hS0 ▸ hfl) (far_in HFM.out HM.out Nk.out hlen) HTn.out.1 HTn.out.2
      have OP := open_any (some ⟨g, 0, none⟩) N c1 m wr hrr (HL.out.later hb) by5 (Nat.le_trans HN2.out (by decide)) hcap.out
      rw [e5, el] at OP
      have HO := Lib.hid OP
      have hlr := Lib.hid (HL.out.later hb)
      clear OP e5 el by5 hfl hrr ho hT hT1
      go_wp2_with fail
      refine HO.out.mono ?_
      rintro e w2 ⟨A', c', rfl, _, hb2⟩
      go_wp2_with fail
      refine (known_any w2 (hlr.out.later hb2)).mono ?_
      rintro e w3 ⟨rfl, hb3⟩
      go_wp2_with fail
      go_ret
      exact ⟨rfl, hb.trans ((hb2.trans (hb3.mono hb2.size)).mono hb.size)⟩
end Go.Proofs.YthcegmijphbhgaaDoor
