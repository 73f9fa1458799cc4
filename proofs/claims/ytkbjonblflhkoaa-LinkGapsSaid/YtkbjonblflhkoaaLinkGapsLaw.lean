/-
  LinkGaps' walk. Each statement bears its own conditions.
-/
import Derived.Test.YtkbjonblflhkoaaLnP
namespace Go.Proofs.Ytkbjonblflhkoaa.Ln
open Go.RowKit Go.Proofs.Ytkbjonblflhkoaa.F Go.Proofs.Ytkbjonblflhkoaa.U Go.Proofs.Ytkbjonblflhkoaa.Q
set_option linter.unusedVariables false
set_option linter.unusedSimpArgs false
/-- Messages of one word each. -/
def ms (zs : List Int) (k : Nat) : List (List Int) := (zs.take k).map fun x => [x]
theorem ms_len {zs : List Int} {k : Nat} (h : k ≤ zs.length) : (ms zs k).length = k := by unfold ms; rw [List.length_map, List.length_take]; omega
theorem ms_succ {zs : List Int} {k : Nat} (h : k < zs.length) : ms zs (k + 1) = ms zs k ++ [[zs.getD k 0]] := by
  unfold ms
  rw [List.take_add_one, List.getElem?_eq_getElem h, List.getD_eq_getElem?_getD, List.getElem?_eq_getElem h]
  rw [List.map_append]; rfl
theorem ms_drop {zs : List Int} {n j : Nat} (hn : n ≤ zs.length) (h : j < n) : (ms zs n).drop j = [zs.getD j 0] :: (ms zs n).drop (j + 1) := by
  have hl : j < (ms zs n).length := by rw [ms_len hn]; exact h
  rw [List.drop_eq_getElem_cons hl]
  congr 1
  unfold ms
  simp [List.getD_eq_getElem?_getD, List.getElem?_eq_getElem (show j < zs.length by omega)]
theorem one_sq {w : World} {b off i : Nat} {x : Int} {c : Nat} {p : Nat → Prop} (hb : b < w.heap.size) (hp : p b) (hc : w.cell? ⟨b, off + i, none⟩ = some (.int .u32 x)) : Sq w p (.slice (some ⟨b, off + i, none⟩) 1 c) 1 (CU [x]) :=
  ⟨_, _, rfl, rfl, fun _ => ⟨b, off + i, rfl, hb, hp, fun j u hu => by
    match j, hu with
    | 0, hu => simp [CU] at hu; subst hu; exact hc
    | j + 1, hu => simp [CU] at hu⟩⟩
/-- A sender of which so many messages are gone. -/
def SG (gq : Int) (sent : Nat) (last : Int) : SS := ⟨gq, 1, 32, (sent : Int), decide (0 < sent), if 0 < sent then last else 0⟩
structure L2R (lo len2 n : Nat) (gq : Int) (zs : List Int) (w0 : World) (nowv lastv sentv iv : Value) (wr : World) : Prop where
  ex : ∃ (j sent : Nat) (now last : Int) (p : Nat → Prop), j ≤ len2 ∧ j ≤ 200 ∧ sent ≤ n ∧ nowv = .int .i64 now ∧ lastv = .int .i64 last ∧ sentv = .int .i64 (sent : Int) ∧ iv = .int .i64 (j : Int) ∧ 0 ≤ now ∧ now ≤ 3 * (j : Int) ∧ (sent = 0 → last = -1) ∧ (0 < sent → 0 ≤ last ∧ last ≤ now) ∧ SV lo wr p (fun _ => True) lo (SG gq sent last) ((ms zs n).drop sent) ∧ Below lo w0 wr
structure L1R (lo len : Nat) (gq : Int) (zs : List Int) (w0 : World) (nv iv : Value) (wr : World) : Prop where
  ex : ∃ (i : Nat) (p : Nat → Prop), i ≤ len ∧ i ≤ 32 ∧ nv = .int .i64 (i : Int) ∧ iv = .int .i64 (i : Int) ∧ SV lo wr p (fun _ => True) lo ⟨gq, 1, 32, 0, false, 0⟩ (ms zs i) ∧ Below lo w0 wr
structure L1C (lo len : Nat) (gq : Int) (zs : List Int) (w0 : World) (nv : Value) (wr : World) : Prop where
  ex : ∃ (n : Nat) (p : Nat → Prop), n ≤ len ∧ n ≤ 32 ∧ nv = .int .i64 (n : Int) ∧ SV lo wr p (fun _ => True) lo ⟨gq, 1, 32, 0, false, 0⟩ (ms zs n) ∧ Below lo w0 wr
set_option maxRecDepth 100000 in
set_option maxHeartbeats 32000000 in
theorem gaps_walk (gap : Int) (a : Option Addr) (len cap : Nat) (zs : List Int) (a2 : Option Addr) (len2 cap2 : Nat) (zs2 : List Int) (w : World) (h1 : IsRow .u32 w a len cap zs) (h2 : IsRow .i64 w a2 len2 cap2 zs2) : Calls Try.prog 4 #[.int .i64 gap, .slice a len cap, .slice a2 len2 cap2] w fun e w' => e = .returned (.bool true) ∧ Below w.heap.size w w' := by
  have he1 := he_se
  obtain ⟨lo, hlo⟩ : ∃ lo, w.heap.size = lo := ⟨_, rfl⟩
  have HLO := Lib.hid hlo
  have H1 := Lib.hid h1
  have H2 := Lib.hid h2
  have HZ : Hid (len ≤ cap ∧ len ≤ zs.length) := h1.le
  obtain ⟨gq, hgq⟩ : ∃ x, (IntKind.u64.wrap gap).tmod 12 = x := ⟨_, rfl⟩
  have b1 := u64_tmod gap 12 (by decide)
  rw [hgq] at b1
  have HG : Hid (0 ≤ gq ∧ gq < 12) := b1
  have v1 : IntKind.i64.wrap gq = gq := IntWalk.i64_in _ ⟨by omega, by omega⟩
  have NW := Lib.hid (new_any (fun _ => True) gq 1 32 w (by omega) (by omega) (by omega))
  rw [hlo] at NW ⊢
  clear h1 h2 hlo b1
  go_enter Try.func4, Try.ntmps4
  go_wp2_with fail
  refine NW.out.mono ?_
  rintro e w1 ⟨rfl, q1, b1⟩
  have Q1 : Hid (SV lo w1 (fun b => b = lo) (fun _ => True) lo ⟨gq, 1, 32, 0, false, 0⟩ []) := q1
  have B1 : Hid (Below lo w w1) := b1
  clear q1 b1 NW hgq v1
  go_wp2_with fail
  refine (told_any w1).mono ?_
  rintro e w2 ⟨rfl, b2⟩
  have Q2 := Lib.hid (Q1.out.below b2)
  have B2 : Hid (Below lo w w2) := B1.out.trans (b2.mono Q1.out.nil)
  clear b2 Q1 B1
  go_upto_block 0 with fail
  go_cut [10] (fun nv wx => L1C lo len gq zs w nv wx)
  case first =>
    go_wp2_with fail
    go_loopw [10, 11] (fun nv iv wr => L1R lo len gq zs w nv iv wr) (fun _ i _ => len - (intOf i).toNat)
    case atStart => exact ⟨⟨0, _, Nat.zero_le _, Nat.zero_le _, rfl, rfl, Q2.out, B2.out⟩⟩
    case round =>
      obtain ⟨⟨i, p, hi, hi2, rfl, rfl, hq, hb⟩⟩ := hrel
      have HQ := Lib.hid hq
      have HB := Lib.hid hb
      clear hq hb Q2 B2
      by_cases hlt : i < len ∧ i < 32
      rotate_left
      · have HX : Hid (i ≤ len ∧ i ≤ 32) := ⟨hi, hi2⟩
        by_cases h1 : i < len
        · have g3 : (i : Int) < (len : Int) := by omega
          have g5 : (32 : Int) ≤ (i : Int) := by omega
          clear hlt hi hi2
          go_wp2_with fail
          go_meet
          case rel => exact ⟨⟨i, p, HX.out.1, HX.out.2, rfl, HQ.out, HB.out⟩⟩
        · have g3 : ¬ (i : Int) < (len : Int) := by omega
          clear hlt hi hi2
          go_wp2_with fail
          go_meet
          case rel => exact ⟨⟨i, p, HX.out.1, HX.out.2, rfl, HQ.out, HB.out⟩⟩
      have hiI : (i : Int) < (len : Int) := by omega
      have hiN : i < len := hlt.1
      have hi32 : (i : Int) < 32 := by omega
      have hicap : (i : Int) + 1 ≤ (cap : Int) := by have := HZ.out; omega
      obtain ⟨b, off, hA, hbl, hc⟩ := row_at H1.out (show 0 < len by omega)
      subst hA
      have SQ : Hid (Sq wr (fun x => x < lo) (.slice (some ⟨b, off + i, none⟩) 1 (cap - i)) 1 (CU [zs.getD i 0])) := one_sq (by have := HB.out.size; have := HLO.out; omega) (by have := HLO.out; omega) ((HB.out.cell (by show b < lo; have := HLO.out; omega)).trans (hc i hlt.1).1)
      have HX : Hid (i < len ∧ i < 32) := hlt
      have hsc := ms_succ (zs := zs) (k := i) (by have := HZ.out; omega)
      have HSC := Lib.hid hsc
      have HLN : Hid (((ms zs i).length : Int) < 32) := by unfold Hid; rw [ms_len (by have := HZ.out; omega)]; omega
      clear hc hbl hlt hi hi2 hsc
      go_wp2_with fail
      refine (offer_ok lo p (fun _ => True) lo ⟨gq, 1, 32, 0, false, 0⟩ (ms zs i) _ _ 1 (cap - i) [zs.getD i 0] wr HQ.out SQ.out (by simp) HLN.out (fun _ _ => trivial)).mono ?_
      rintro e w4 ⟨q4, rfl, s4, n4⟩
      have Q4 : Hid (SV lo w4 q4 (fun _ => True) lo ⟨gq, 1, 32, 0, false, 0⟩ (ms zs (i + 1))) := by rw [HSC.out]; exact s4
      have B4 : Hid (Below lo w w4) := HB.out.trans (HQ.out.nx n4)
      clear s4 n4 SQ
      go_wp2_with fail
      go_roundw
      case rel =>
        have Q : L1R lo len gq zs w (.int .i64 ((i : Int) + 1)) (.int .i64 ((i : Int) + 1)) w4 := ⟨⟨i + 1, q4, by have := HX.out; omega, by have := HX.out; omega, by go_num, by go_num, Q4.out, B4.out⟩⟩
        first | exact Q | ((repeat apply Exists.intro); exact ⟨Q, rfl⟩)
      case measure => have := HX.out; simp [intOf]; omega
  case rest =>
    obtain ⟨⟨n, p, hn1, hn2, rfl, hq, hb⟩⟩ := hcut
    obtain ⟨wq, hwq⟩ : ∃ x, wc = x := ⟨_, rfl⟩
    rw [hwq] at hq hb
    rw [hwq]
    have HI : Hid (n ≤ len ∧ n ≤ 32) := ⟨hn1, hn2⟩
    have HQ := Lib.hid hq
    have HB := Lib.hid hb
    have QS : Hid (SV lo wq p (fun _ => True) lo (SG gq 0 (-1)) ((ms zs n).drop 0)) := HQ.out
    clear hq hb hwq Q2 B2 hn1 hn2
    go_wp2_with fail
    go_loopw [12, 13, 14, 15] (fun a b c d wr => L2R lo len2 n gq zs w a b c d wr) (fun _ _ _ i _ => len2 - (intOf i).toNat)
    case atStart => exact ⟨⟨0, 0, 0, -1, p, Nat.zero_le _, Nat.zero_le _, Nat.zero_le _, rfl, rfl, rfl, rfl, by omega, by omega, fun _ => rfl, fun h => by omega, QS.out, HB.out⟩⟩
    case round =>
      clear QS HQ HB
      obtain ⟨⟨j, sent, now, last, p, hj, hj2, hs, rfl, rfl, rfl, rfl, hnw, hnw2, hl0, hl1, hq, hb⟩⟩ := hrel
      have HQ := Lib.hid hq
      have HB := Lib.hid hb
      have HN : Hid (n ≤ 32 ∧ n ≤ len ∧ n ≤ zs.length) := by have := HI.out; have := HZ.out; unfold Hid; omega
      have HS : Hid (sent ≤ n) := hs
      have HL : Hid ((sent = 0 → last = -1) ∧ (0 < sent → 0 ≤ last ∧ last ≤ now)) := ⟨hl0, hl1⟩
      clear hq hb
      by_cases hlt : j < len2 ∧ j < 200
      rotate_left
      · have hll : (((ms zs n).drop sent).length : Int) = (n : Int) - (sent : Int) := by rw [List.length_drop, ms_len HN.out.2.2]; omega
        have HLL := Lib.hid hll
        have hW : IntKind.i64.wrap ((n : Int) - (sent : Int)) = (n : Int) - (sent : Int) := by have := HN.out; rw [IntKind.wrap_i64]; omega
        by_cases h1 : j < len2
        · have g3 : (j : Int) < (len2 : Int) := by omega
          have g5 : (200 : Int) ≤ (j : Int) := by omega
          clear hlt hj hj2 hll
          go_wp2_with fail
          refine (waiting_any lo p (fun _ => True) lo _ _ wr HQ.out).mono ?_
          rintro e w4 ⟨rfl, hw4⟩
          rw [HLL.out, hw4]
          clear hw4
          go_wp2_with fail
          go_ret
          exact ⟨by simp, HB.out⟩
        · have g3 : ¬ (j : Int) < (len2 : Int) := by omega
          clear hlt hj hj2 hll
          go_wp2_with fail
          refine (waiting_any lo p (fun _ => True) lo _ _ wr HQ.out).mono ?_
          rintro e w4 ⟨rfl, hw4⟩
          rw [HLL.out, hw4]
          clear hw4
          go_wp2_with fail
          go_ret
          exact ⟨by simp, HB.out⟩
      have HX : Hid (j < len2 ∧ j < 200) := hlt
      have hjI : (j : Int) < (len2 : Int) := by omega
      have hjN : j < len2 := hlt.1
      have hj200 : (j : Int) < 200 := by omega
      obtain ⟨b2, off2, hA2, hbl2, hc2⟩ := row_at H2.out (show 0 < len2 by omega)
      subst hA2
      obtain ⟨zv, hzv⟩ : ∃ x, zs2.getD j 0 = x := ⟨_, rfl⟩
      have z0 : wr.cell? ⟨b2, off2 + j, none⟩ = some (.int .i64 zv) := by rw [← hzv]; exact (HB.out.cell (by show b2 < lo; have := HLO.out; omega)).trans (hc2 j hlt.1).1
      obtain ⟨dq, hdq⟩ : ∃ x, (IntKind.u64.wrap zv).tmod 4 = x := ⟨_, rfl⟩
      have bd := u64_tmod zv 4 (by decide)
      rw [hdq] at bd
      have v1 : IntKind.i64.wrap dq = dq := IntWalk.i64_in _ ⟨by omega, by omega⟩
      obtain ⟨now2, hn2⟩ : ∃ x, now + dq = x := ⟨_, rfl⟩
      have v2 : IntKind.i64.wrap (now + dq) = now2 := by rw [← hn2]; exact IntWalk.i64_in _ ⟨by omega, by omega⟩
      have HN2 : Hid (0 ≤ now2 ∧ now2 ≤ 3 * ((j + 1 : Nat) : Int) ∧ now2 ≤ 600 ∧ now ≤ now2) := by unfold Hid; omega
      obtain ⟨m, hm⟩ : ∃ m, max gq 1 = m := ⟨_, rfl⟩
      have HM : Hid (max gq 1 = m ∧ 1 ≤ m ∧ m ≤ 12) := by have := HG.out; unfold Hid; omega
      clear hzv hc2 hbl2 bd hlt hj hj2 hs hnw hnw2 hl0 hl1 hn2
      by_cases hsn : sent < n
      rotate_left
      · have hnl : (ms zs n).drop sent = [] := List.drop_eq_nil_of_le (by rw [ms_len HN.out.2.2]; omega)
        have HNL := Lib.hid hnl
        have e0 : ¬ (sent : Int) < (n : Int) := by omega
        clear hnl hm
        go_wp2_with fail
        refine (step_no lo p (fun _ => True) lo (SG gq sent last) _ now2 wr HQ.out (.inl HNL.out)).mono ?_
        rintro e w4 ⟨rfl, b4⟩
        have Q4 := Lib.hid (HQ.out.below b4)
        have B4 : Hid (Below lo w w4) := HB.out.trans (b4.mono HQ.out.nil)
        clear b4
        have hx : Below w4.heap.size w4 (w4.alloc (.cells #[.int .i64 0, .slice none 0 0] 44)) := (Below.refl _ _).alloc (Nat.le_refl _) _
        have Q5 := Lib.hid (Q4.out.below hx)
        have B5 : Hid (Below lo w (w4.alloc (.cells #[.int .i64 0, .slice none 0 0] 44))) := B4.out.trans (hx.mono Q4.out.nil)
        clear hx Q4 B4
        go_wp2_with fail
        go_roundw
        case rel =>
          have Q : L2R lo len2 n gq zs w (.int .i64 now2) (.int .i64 last) (.int .i64 (sent : Int)) (.int .i64 ((j : Int) + 1)) _ := ⟨⟨j + 1, sent, now2, last, p, by have := HX.out; omega, by have := HX.out; omega, HS.out, rfl, rfl, rfl, by go_num, HN2.out.1, HN2.out.2.1, HL.out.1, fun h => ⟨(HL.out.2 h).1, by have := (HL.out.2 h).2; have := HN2.out; omega⟩, Q5.out, B5.out⟩⟩
          first | exact Q | ((repeat apply Exists.intro); exact ⟨Q, rfl⟩)
        case measure => have := HX.out; simp [intOf]; omega
      have HSN : Hid (sent < n) := hsn
      have e0 : (sent : Int) < (n : Int) := by omega
      have e0N : sent < n := hsn
      obtain ⟨b0, off0, hA0, hbl0, hc0⟩ := row_at H1.out (show 0 < len by have := HN.out; omega)
      have HA0 := Lib.hid hA0
      obtain ⟨xw, hxw⟩ : ∃ x, zs.getD sent 0 = x := ⟨_, rfl⟩
      have HR0 : Hid (b0 < lo ∧ w.cell? ⟨b0, off0 + sent, none⟩ = some (.int .u32 xw)) := ⟨by have := HLO.out; omega, by rw [← hxw]; exact (hc0 sent (by have := HN.out; omega)).1⟩
      have HD : Hid ((ms zs n).drop sent = [xw] :: (ms zs n).drop (sent + 1)) := by rw [← hxw]; exact ms_drop HN.out.2.2 hsn
      have hsl : (sent : Int) < (len : Int) := by have := HN.out; omega
      have hslN : sent < len := by have := HN.out; omega
      have hmod : (sent : Int).tmod 256 = (sent : Int) := by have := HN.out; rw [Int.tmod_eq_emod_of_nonneg (by omega), Int.emod_eq_of_lt (by omega) (by omega)]
      have hs33 : (sent : Int) ≤ 33 := by have := HN.out; omega
      subst hA0
      clear hc0 hbl0 hsn hxw
      by_cases hs0 : sent = 0
      · have hla : last = -1 := HL.out.1 hs0
        subst hla
        have HMY : Hid (mayV (SG gq sent (-1)).gap (SG gq sent (-1)).sent (SG gq sent (-1)).last now2 = true) := by
          unfold Hid mayV SG
          rw [hs0]
          have := HN2.out
          simp; omega
        clear hs0 hm
        have SM := Lib.hid (step_some lo p (fun _ => True) lo (SG gq sent (-1)) _ [xw] ((ms zs n).drop (sent + 1)) now2 wr HQ.out HD.out (HMY.out) (by have := HN2.out; omega))
        rw [show (SG gq sent (-1)).next = (sent : Int) from rfl] at SM
        have hst : SG gq (sent + 1) now2 = ⟨gq, 1, 32, ((sent : Int) + 1).tmod 256, true, now2⟩ := by
          unfold SG
          rw [if_pos (Nat.succ_pos sent), decide_eq_true (Nat.succ_pos sent)]
          congr 1
          have := HS.out; have := HN.out
          rw [Int.tmod_eq_emod_of_nonneg (by omega), Int.emod_eq_of_lt (by omega) (by omega)]; push_cast; rfl
        have HST := Lib.hid hst
        clear hst
        go_wp2_with fail
        refine SM.out.mono ?_
        rintro e w4 ⟨A4, c4, q4, rfl, o4', s4, n4⟩
        have Q4 : Hid (SV lo w4 q4 (fun _ => True) lo (SG gq (sent + 1) now2) ((ms zs n).drop (sent + 1))) := by rw [HST.out]; exact s4
        have O4 : Hid (Ow 47 w4 (fun _ => True) (.slice A4 1 c4) 1 (CU [xw])) := o4'
        have B4 : Hid (Below lo w w4) := HB.out.trans (HQ.out.nx n4)
        clear o4' s4 n4 SM
        obtain ⟨_, b4, o4, rfl, hb4, _, hc4⟩ := O4.out.sq.at_ (by omega)
        have hw4 : w4.cell? ⟨b4, o4, none⟩ = some (.int .u32 xw) := hc4 0 _ rfl
        have HR4 : Hid (w4.cell? ⟨b0, off0 + sent, none⟩ = some (.int .u32 xw)) := (B4.out.cell (by exact HR0.out.1)).trans HR0.out.2
        clear hc4
        have hx : Below w4.heap.size w4 (w4.alloc (.cells #[.int .i64 (sent : Int), .slice (some ⟨b4, o4, none⟩) 1 c4] 44)) := (Below.refl _ _).alloc (Nat.le_refl _) _
        have HA5 : Hid ((w4.alloc (.cells #[.int .i64 (sent : Int), .slice (some ⟨b4, o4, none⟩) 1 c4] 44)).heap[w4.heap.size]? = some (.cells #[.int .i64 (sent : Int), .slice (some ⟨b4, o4, none⟩) 1 c4] 44 (0, 0))) := heap_alloc_new _ _
        have Q5 := Lib.hid (Q4.out.below hx)
        have B5 : Hid (Below lo w (w4.alloc (.cells #[.int .i64 (sent : Int), .slice (some ⟨b4, o4, none⟩) 1 c4] 44))) := B4.out.trans (hx.mono Q4.out.nil)
        have y2 := cell_later hx hw4
        have y3 := cell_later hx HR4.out
        obtain ⟨w5, hw5⟩ : ∃ W, w4.alloc (.cells #[.int .i64 (sent : Int), .slice (some ⟨b4, o4, none⟩) 1 c4] 44) = W := ⟨_, rfl⟩
        obtain ⟨f1, hf1⟩ : ∃ b, w4.heap.size = b := ⟨_, rfl⟩
        rw [hw5] at HA5 Q5 B5 y2 y3
        rw [hf1] at HA5
        have y0 : w5.cell? ⟨f1, 0, none⟩ = some (.int .i64 (sent : Int)) := by rw [(row_cell HA5.out 0).1]; rfl
        have y1 : w5.cell? ⟨f1, 1, none⟩ = some (.slice (some ⟨b4, o4, none⟩) 1 c4) := by rw [(row_cell HA5.out 1).1]; rfl
        clear hx Q4 B4 hw4 HR4 O4 hb4
        go_upto_region 22 with fail
        clear hw5 hf1
        refine wp_region_held_drew (S := (fun w' => Below w5.heap.size w5 w' ∧ w'.cell? ⟨f1, 0, none⟩ = some (.int .i64 (sent : Int)) ∧ w'.cell? ⟨f1, 1, none⟩ = some (.slice (some ⟨b4, o4, none⟩) 1 c4) ∧ w'.cell? ⟨b4, o4, none⟩ = some (.int .u32 xw) ∧ w'.cell? ⟨b0, off0 + sent, none⟩ = some (.int .u32 xw))) (by kernel_rfl) ?_ (fun hHeld => ?_)
        · exact ⟨(Below.refl _ _).drew, y0, y1, y2, y3⟩
        refine takeD (i := 0) (d := some 98) (v := ?_) _ rfl rfl (by kernel_rfl) (by kernel_rfl) (by kernel_rfl) (fun _ _ _ h => h) (by rfl) ?_ (by assumption) ?_
        rotate_left
        · (intro w hSw; (try dsimp only at hSw); go_simp) <;> with_reducible rfl
        try simp only [Act.put, List.setIfInBounds_toArray, List.set_cons_zero, List.set_cons_succ]
        refine takeD (i := 1) (d := some 99) (v := ?_) _ rfl rfl (by kernel_rfl) (by kernel_rfl) (by kernel_rfl) (fun _ _ _ h => h) (by rfl) ?_ (by assumption) ?_
        rotate_left
        · (intro w hSw; (try dsimp only at hSw); go_simp) <;> with_reducible rfl
        try simp only [Act.put, List.setIfInBounds_toArray, List.set_cons_zero, List.set_cons_succ]
        refine takeD (i := 2) (d := some 100) (v := ?_) _ rfl rfl (by kernel_rfl) (by kernel_rfl) (by kernel_rfl) (fun _ _ _ h => h) (by rfl) ?_ (by assumption) ?_
        rotate_left
        · (intro w hSw; (try dsimp only at hSw); go_simp) <;> with_reducible rfl
        try simp only [Act.put, List.setIfInBounds_toArray, List.set_cons_zero, List.set_cons_succ]
        refine takeD (i := 3) (d := some 101) (v := ?_) _ rfl rfl (by kernel_rfl) (by kernel_rfl) (by kernel_rfl) (fun _ _ _ h => h) (by rfl) ?_ (by assumption) ?_
        rotate_left
        · (intro w hSw; (try dsimp only at hSw); go_simp) <;> with_reducible rfl
        try simp only [Act.put, List.setIfInBounds_toArray, List.set_cons_zero, List.set_cons_succ]
        refine takeD (i := 4) (d := some 102) (v := ?_) _ rfl rfl (by kernel_rfl) (by kernel_rfl) (by kernel_rfl) (fun _ _ _ h => h) (by rfl) ?_ (by assumption) ?_
        rotate_left
        · (intro w hSw; (try dsimp only at hSw); go_simp) <;> with_reducible rfl
        try simp only [Act.put, List.setIfInBounds_toArray, List.set_cons_zero, List.set_cons_succ]
        refine takeD (i := 5) (d := some 103) (v := ?_) _ rfl rfl (by kernel_rfl) (by kernel_rfl) (by kernel_rfl) (fun _ _ _ h => h) (by rfl) ?_ (by assumption) ?_
        rotate_left
        · (intro w hSw; (try dsimp only at hSw); go_simp) <;> with_reducible rfl
        try simp only [Act.put, List.setIfInBounds_toArray, List.set_cons_zero, List.set_cons_succ]
        refine takeD (i := 6) (d := some 104) (v := ?_) _ rfl rfl (by kernel_rfl) (by kernel_rfl) (by kernel_rfl) (fun _ _ _ h => h) (by rfl) ?_ (by assumption) ?_
        rotate_left
        · (intro w hSw; (try dsimp only at hSw); go_simp) <;> with_reducible rfl
        try simp only [Act.put, List.setIfInBounds_toArray, List.set_cons_zero, List.set_cons_succ]
        refine takeD (i := 7) (d := some 105) (v := ?_) _ rfl rfl (by kernel_rfl) (by kernel_rfl) (by kernel_rfl) (fun _ _ _ h => h) (by rfl) ?_ (by assumption) ?_
        rotate_left
        · (intro w hSw; (try dsimp only at hSw); go_simp) <;> with_reducible rfl
        try simp only [Act.put, List.setIfInBounds_toArray, List.set_cons_zero, List.set_cons_succ]
        refine takeD (i := 8) (d := some 106) (v := ?_) _ rfl rfl (by kernel_rfl) (by kernel_rfl) (by kernel_rfl) (fun _ _ _ h => h) (by rfl) ?_ (by assumption) ?_
        rotate_left
        · (intro w hSw; (try dsimp only at hSw); go_simp) <;> with_reducible rfl
        try simp only [Act.put, List.setIfInBounds_toArray, List.set_cons_zero, List.set_cons_succ]
        refine takeD (i := 9) (d := some 107) (v := ?_) _ rfl rfl (by kernel_rfl) (by kernel_rfl) (by kernel_rfl) (fun _ _ _ h => h) (by rfl) ?_ (by assumption) ?_
        rotate_left
        · (intro w hSw; (try dsimp only at hSw); go_simp) <;> with_reducible rfl
        try simp only [Act.put, List.setIfInBounds_toArray, List.set_cons_zero, List.set_cons_succ]
        refine takeD (i := 10) (d := some 108) (v := ?_) _ rfl rfl (by kernel_rfl) (by kernel_rfl) (by kernel_rfl) (fun _ _ _ h => h) (by rfl) ?_ (by assumption) ?_
        rotate_left
        · (intro w hSw; (try dsimp only at hSw); go_simp) <;> with_reducible rfl
        try simp only [Act.put, List.setIfInBounds_toArray, List.set_cons_zero, List.set_cons_succ]
        refine takeD (i := 11) (d := some 109) (v := ?_) _ rfl rfl (by kernel_rfl) (by kernel_rfl) (by kernel_rfl) (fun _ _ _ h => h) (by rfl) ?_ (by assumption) ?_
        rotate_left
        · (intro w hSw; (try dsimp only at hSw); go_simp) <;> with_reducible rfl
        try simp only [Act.put, List.setIfInBounds_toArray, List.set_cons_zero, List.set_cons_succ]
        refine takeD (i := 12) (d := some 110) (v := ?_) _ rfl rfl (by kernel_rfl) (by kernel_rfl) (by kernel_rfl) (fun _ _ _ h => h) (by rfl) ?_ (by assumption) ?_
        rotate_left
        · (intro w hSw; (try dsimp only at hSw); go_simp) <;> with_reducible rfl
        try simp only [Act.put, List.setIfInBounds_toArray, List.set_cons_zero, List.set_cons_succ]
        refine takeD (i := 13) (d := some 111) (v := ?_) _ rfl rfl (by kernel_rfl) (by kernel_rfl) (by kernel_rfl) (fun _ _ _ h => h) (by rfl) ?_ (by assumption) ?_
        rotate_left
        · (intro w hSw; (try dsimp only at hSw); go_simp) <;> with_reducible rfl
        try simp only [Act.put, List.setIfInBounds_toArray, List.set_cons_zero, List.set_cons_succ]
        refine takeD (i := 14) (d := some 112) (v := ?_) _ rfl rfl (by kernel_rfl) (by kernel_rfl) (by kernel_rfl) (fun _ _ _ h => h) (by rfl) ?_ (by assumption) ?_
        rotate_left
        · (intro w hSw; (try dsimp only at hSw); go_simp) <;> with_reducible rfl
        try simp only [Act.put, List.setIfInBounds_toArray, List.set_cons_zero, List.set_cons_succ]
        refine takeD (i := 15) (d := some 113) (v := ?_) _ rfl rfl (by kernel_rfl) (by kernel_rfl) (by kernel_rfl) (fun _ _ _ h => h) (by rfl) ?_ (by assumption) ?_
        rotate_left
        · (intro w hSw; (try dsimp only at hSw); go_simp) <;> with_reducible rfl
        try simp only [Act.put, List.setIfInBounds_toArray, List.set_cons_zero, List.set_cons_succ]
        refine takeD (i := 16) (d := some 114) (v := ?_) _ rfl rfl (by kernel_rfl) (by kernel_rfl) (by kernel_rfl) (fun _ _ _ h => h) (by rfl) ?_ (by assumption) ?_
        rotate_left
        · (intro w hSw; (try dsimp only at hSw); go_simp) <;> with_reducible rfl
        try simp only [Act.put, List.setIfInBounds_toArray, List.set_cons_zero, List.set_cons_succ]
        refine takeD (i := 17) (d := some 115) (v := ?_) _ rfl rfl (by kernel_rfl) (by kernel_rfl) (by kernel_rfl) (fun _ _ _ h => h) (by rfl) ?_ (by assumption) ?_
        rotate_left
        · (intro w hSw; (try dsimp only at hSw); go_simp) <;> with_reducible rfl
        try simp only [Act.put, List.setIfInBounds_toArray, List.set_cons_zero, List.set_cons_succ]
        refine takeD (i := 18) (d := some 116) (v := ?_) _ rfl rfl (by kernel_rfl) (by kernel_rfl) (by kernel_rfl) (fun _ _ _ h => h) (by rfl) ?_ (by assumption) ?_
        rotate_left
        · (intro w hSw; (try dsimp only at hSw); go_simp) <;> with_reducible rfl
        try simp only [Act.put, List.setIfInBounds_toArray, List.set_cons_zero, List.set_cons_succ]
        refine takeD (i := 19) (d := some 117) (v := ?_) _ rfl rfl (by kernel_rfl) (by kernel_rfl) (by kernel_rfl) (fun _ _ _ h => h) (by rfl) ?_ (by assumption) ?_
        rotate_left
        · (intro w hSw; (try dsimp only at hSw); go_simp) <;> with_reducible rfl
        try simp only [Act.put, List.setIfInBounds_toArray, List.set_cons_zero, List.set_cons_succ]
        refine takeD (i := 20) (d := some 118) (v := ?_) _ rfl rfl (by kernel_rfl) (by kernel_rfl) (by kernel_rfl) (fun _ _ _ h => h) (by rfl) ?_ (by assumption) ?_
        rotate_left
        · (intro w hSw; (try dsimp only at hSw); go_simp) <;> with_reducible rfl
        try simp only [Act.put, List.setIfInBounds_toArray, List.set_cons_zero, List.set_cons_succ]
        refine takeD (i := 21) (d := some 119) (v := ?_) _ rfl rfl (by kernel_rfl) (by kernel_rfl) (by kernel_rfl) (fun _ _ _ h => h) (by rfl) ?_ (by assumption) ?_
        rotate_left
        · (intro w hSw; (try dsimp only at hSw); go_simp) <;> with_reducible rfl
        try simp only [Act.put, List.setIfInBounds_toArray, List.set_cons_zero, List.set_cons_succ]
        refine wpAnyH_done (by kernel_rfl) ?_ _
        obtain ⟨w6, hw6⟩ : ∃ W, w5.drew = W := ⟨_, rfl⟩
        rw [hw6] at hHeld
        rw [hw6]
        have Q6 := Lib.hid (Q5.out.below hHeld.1)
        have B6 : Hid (Below lo w w6) := B5.out.trans (hHeld.1.mono Q5.out.nil)
        clear hHeld hw6 y0 y1 y2 y3 Q5 B5
        go_wp2_with fail
        go_roundw
        case rel =>
          have Q : L2R lo len2 n gq zs w (.int .i64 now2) (.int .i64 now2) (.int .i64 ((sent : Int) + 1)) (.int .i64 ((j : Int) + 1)) w6 := ⟨⟨j + 1, sent + 1, now2, now2, q4, by have := HX.out; omega, by have := HX.out; omega, by have := HSN.out; omega, rfl, rfl, by go_num, by go_num, HN2.out.1, HN2.out.2.1, fun h => by omega, fun _ => ⟨HN2.out.1, by omega⟩, Q6.out, B6.out⟩⟩
          first | exact Q | ((repeat apply Exists.intro); exact ⟨Q, rfl⟩)
        case measure => have := HX.out; simp [intOf]; omega
      have HLP : Hid (0 ≤ last ∧ last ≤ now) := HL.out.2 (by omega)
      have e1 : ¬ last < 0 := by have := HLP.out; omega
      have e1b : decide (last < 0) = false := by simpa using e1
      have v3 : IntKind.i64.wrap (last + m) = last + m := by have := HLP.out; have := HM.out; have := HN2.out; exact IntWalk.i64_in _ ⟨by omega, by omega⟩
      by_cases hge : last + m ≤ now2
      · have e2 : decide (last + m ≤ now2) = true := by simpa using hge
        have HMY : Hid (mayV (SG gq sent last).gap (SG gq sent last).sent (SG gq sent last).last now2 = true) := by
          unfold Hid mayV SG
          have h1 : 0 < sent := by omega
          rw [HM.out.1]
          have := HN2.out
          simp [h1]; omega
        clear hs0
        have SM := Lib.hid (step_some lo p (fun _ => True) lo (SG gq sent last) _ [xw] ((ms zs n).drop (sent + 1)) now2 wr HQ.out HD.out (HMY.out) (by have := HN2.out; omega))
        rw [show (SG gq sent last).next = (sent : Int) from rfl] at SM
        have hst : SG gq (sent + 1) now2 = ⟨gq, 1, 32, ((sent : Int) + 1).tmod 256, true, now2⟩ := by
          unfold SG
          rw [if_pos (Nat.succ_pos sent), decide_eq_true (Nat.succ_pos sent)]
          congr 1
          have := HS.out; have := HN.out
          rw [Int.tmod_eq_emod_of_nonneg (by omega), Int.emod_eq_of_lt (by omega) (by omega)]; push_cast; rfl
        have HST := Lib.hid hst
        clear hst
        go_wp2_with fail
        refine SM.out.mono ?_
        rintro e w4 ⟨A4, c4, q4, rfl, o4', s4, n4⟩
        have Q4 : Hid (SV lo w4 q4 (fun _ => True) lo (SG gq (sent + 1) now2) ((ms zs n).drop (sent + 1))) := by rw [HST.out]; exact s4
        have O4 : Hid (Ow 47 w4 (fun _ => True) (.slice A4 1 c4) 1 (CU [xw])) := o4'
        have B4 : Hid (Below lo w w4) := HB.out.trans (HQ.out.nx n4)
        clear o4' s4 n4 SM
        obtain ⟨_, b4, o4, rfl, hb4, _, hc4⟩ := O4.out.sq.at_ (by omega)
        have hw4 : w4.cell? ⟨b4, o4, none⟩ = some (.int .u32 xw) := hc4 0 _ rfl
        have HR4 : Hid (w4.cell? ⟨b0, off0 + sent, none⟩ = some (.int .u32 xw)) := (B4.out.cell (by exact HR0.out.1)).trans HR0.out.2
        clear hc4
        have hx : Below w4.heap.size w4 (w4.alloc (.cells #[.int .i64 (sent : Int), .slice (some ⟨b4, o4, none⟩) 1 c4] 44)) := (Below.refl _ _).alloc (Nat.le_refl _) _
        have HA5 : Hid ((w4.alloc (.cells #[.int .i64 (sent : Int), .slice (some ⟨b4, o4, none⟩) 1 c4] 44)).heap[w4.heap.size]? = some (.cells #[.int .i64 (sent : Int), .slice (some ⟨b4, o4, none⟩) 1 c4] 44 (0, 0))) := heap_alloc_new _ _
        have Q5 := Lib.hid (Q4.out.below hx)
        have B5 : Hid (Below lo w (w4.alloc (.cells #[.int .i64 (sent : Int), .slice (some ⟨b4, o4, none⟩) 1 c4] 44))) := B4.out.trans (hx.mono Q4.out.nil)
        have y2 := cell_later hx hw4
        have y3 := cell_later hx HR4.out
        obtain ⟨w5, hw5⟩ : ∃ W, w4.alloc (.cells #[.int .i64 (sent : Int), .slice (some ⟨b4, o4, none⟩) 1 c4] 44) = W := ⟨_, rfl⟩
        obtain ⟨f1, hf1⟩ : ∃ b, w4.heap.size = b := ⟨_, rfl⟩
        rw [hw5] at HA5 Q5 B5 y2 y3
        rw [hf1] at HA5
        have y0 : w5.cell? ⟨f1, 0, none⟩ = some (.int .i64 (sent : Int)) := by rw [(row_cell HA5.out 0).1]; rfl
        have y1 : w5.cell? ⟨f1, 1, none⟩ = some (.slice (some ⟨b4, o4, none⟩) 1 c4) := by rw [(row_cell HA5.out 1).1]; rfl
        clear hx Q4 B4 hw4 HR4 O4 hb4
        go_upto_region 22 with fail
        clear hw5 hf1
        refine wp_region_held_drew (S := (fun w' => Below w5.heap.size w5 w' ∧ w'.cell? ⟨f1, 0, none⟩ = some (.int .i64 (sent : Int)) ∧ w'.cell? ⟨f1, 1, none⟩ = some (.slice (some ⟨b4, o4, none⟩) 1 c4) ∧ w'.cell? ⟨b4, o4, none⟩ = some (.int .u32 xw) ∧ w'.cell? ⟨b0, off0 + sent, none⟩ = some (.int .u32 xw))) (by kernel_rfl) ?_ (fun hHeld => ?_)
        · exact ⟨(Below.refl _ _).drew, y0, y1, y2, y3⟩
        refine takeD (i := 0) (d := some 98) (v := ?_) _ rfl rfl (by kernel_rfl) (by kernel_rfl) (by kernel_rfl) (fun _ _ _ h => h) (by rfl) ?_ (by assumption) ?_
        rotate_left
        · (intro w hSw; (try dsimp only at hSw); go_simp) <;> with_reducible rfl
        try simp only [Act.put, List.setIfInBounds_toArray, List.set_cons_zero, List.set_cons_succ]
        refine takeD (i := 1) (d := some 99) (v := ?_) _ rfl rfl (by kernel_rfl) (by kernel_rfl) (by kernel_rfl) (fun _ _ _ h => h) (by rfl) ?_ (by assumption) ?_
        rotate_left
        · (intro w hSw; (try dsimp only at hSw); go_simp) <;> with_reducible rfl
        try simp only [Act.put, List.setIfInBounds_toArray, List.set_cons_zero, List.set_cons_succ]
        refine takeD (i := 2) (d := some 100) (v := ?_) _ rfl rfl (by kernel_rfl) (by kernel_rfl) (by kernel_rfl) (fun _ _ _ h => h) (by rfl) ?_ (by assumption) ?_
        rotate_left
        · (intro w hSw; (try dsimp only at hSw); go_simp) <;> with_reducible rfl
        try simp only [Act.put, List.setIfInBounds_toArray, List.set_cons_zero, List.set_cons_succ]
        refine takeD (i := 3) (d := some 101) (v := ?_) _ rfl rfl (by kernel_rfl) (by kernel_rfl) (by kernel_rfl) (fun _ _ _ h => h) (by rfl) ?_ (by assumption) ?_
        rotate_left
        · (intro w hSw; (try dsimp only at hSw); go_simp) <;> with_reducible rfl
        try simp only [Act.put, List.setIfInBounds_toArray, List.set_cons_zero, List.set_cons_succ]
        refine takeD (i := 4) (d := some 102) (v := ?_) _ rfl rfl (by kernel_rfl) (by kernel_rfl) (by kernel_rfl) (fun _ _ _ h => h) (by rfl) ?_ (by assumption) ?_
        rotate_left
        · (intro w hSw; (try dsimp only at hSw); go_simp) <;> with_reducible rfl
        try simp only [Act.put, List.setIfInBounds_toArray, List.set_cons_zero, List.set_cons_succ]
        refine takeD (i := 5) (d := some 103) (v := ?_) _ rfl rfl (by kernel_rfl) (by kernel_rfl) (by kernel_rfl) (fun _ _ _ h => h) (by rfl) ?_ (by assumption) ?_
        rotate_left
        · (intro w hSw; (try dsimp only at hSw); go_simp) <;> with_reducible rfl
        try simp only [Act.put, List.setIfInBounds_toArray, List.set_cons_zero, List.set_cons_succ]
        refine takeD (i := 6) (d := some 104) (v := ?_) _ rfl rfl (by kernel_rfl) (by kernel_rfl) (by kernel_rfl) (fun _ _ _ h => h) (by rfl) ?_ (by assumption) ?_
        rotate_left
        · (intro w hSw; (try dsimp only at hSw); go_simp) <;> with_reducible rfl
        try simp only [Act.put, List.setIfInBounds_toArray, List.set_cons_zero, List.set_cons_succ]
        refine takeD (i := 7) (d := some 105) (v := ?_) _ rfl rfl (by kernel_rfl) (by kernel_rfl) (by kernel_rfl) (fun _ _ _ h => h) (by rfl) ?_ (by assumption) ?_
        rotate_left
        · (intro w hSw; (try dsimp only at hSw); go_simp) <;> with_reducible rfl
        try simp only [Act.put, List.setIfInBounds_toArray, List.set_cons_zero, List.set_cons_succ]
        refine takeD (i := 8) (d := some 106) (v := ?_) _ rfl rfl (by kernel_rfl) (by kernel_rfl) (by kernel_rfl) (fun _ _ _ h => h) (by rfl) ?_ (by assumption) ?_
        rotate_left
        · (intro w hSw; (try dsimp only at hSw); go_simp) <;> with_reducible rfl
        try simp only [Act.put, List.setIfInBounds_toArray, List.set_cons_zero, List.set_cons_succ]
        refine takeD (i := 9) (d := some 107) (v := ?_) _ rfl rfl (by kernel_rfl) (by kernel_rfl) (by kernel_rfl) (fun _ _ _ h => h) (by rfl) ?_ (by assumption) ?_
        rotate_left
        · (intro w hSw; (try dsimp only at hSw); go_simp) <;> with_reducible rfl
        try simp only [Act.put, List.setIfInBounds_toArray, List.set_cons_zero, List.set_cons_succ]
        refine takeD (i := 10) (d := some 108) (v := ?_) _ rfl rfl (by kernel_rfl) (by kernel_rfl) (by kernel_rfl) (fun _ _ _ h => h) (by rfl) ?_ (by assumption) ?_
        rotate_left
        · (intro w hSw; (try dsimp only at hSw); go_simp) <;> with_reducible rfl
        try simp only [Act.put, List.setIfInBounds_toArray, List.set_cons_zero, List.set_cons_succ]
        refine takeD (i := 11) (d := some 109) (v := ?_) _ rfl rfl (by kernel_rfl) (by kernel_rfl) (by kernel_rfl) (fun _ _ _ h => h) (by rfl) ?_ (by assumption) ?_
        rotate_left
        · (intro w hSw; (try dsimp only at hSw); go_simp) <;> with_reducible rfl
        try simp only [Act.put, List.setIfInBounds_toArray, List.set_cons_zero, List.set_cons_succ]
        refine takeD (i := 12) (d := some 110) (v := ?_) _ rfl rfl (by kernel_rfl) (by kernel_rfl) (by kernel_rfl) (fun _ _ _ h => h) (by rfl) ?_ (by assumption) ?_
        rotate_left
        · (intro w hSw; (try dsimp only at hSw); go_simp) <;> with_reducible rfl
        try simp only [Act.put, List.setIfInBounds_toArray, List.set_cons_zero, List.set_cons_succ]
        refine takeD (i := 13) (d := some 111) (v := ?_) _ rfl rfl (by kernel_rfl) (by kernel_rfl) (by kernel_rfl) (fun _ _ _ h => h) (by rfl) ?_ (by assumption) ?_
        rotate_left
        · (intro w hSw; (try dsimp only at hSw); go_simp) <;> with_reducible rfl
        try simp only [Act.put, List.setIfInBounds_toArray, List.set_cons_zero, List.set_cons_succ]
        refine takeD (i := 14) (d := some 112) (v := ?_) _ rfl rfl (by kernel_rfl) (by kernel_rfl) (by kernel_rfl) (fun _ _ _ h => h) (by rfl) ?_ (by assumption) ?_
        rotate_left
        · (intro w hSw; (try dsimp only at hSw); go_simp) <;> with_reducible rfl
        try simp only [Act.put, List.setIfInBounds_toArray, List.set_cons_zero, List.set_cons_succ]
        refine takeD (i := 15) (d := some 113) (v := ?_) _ rfl rfl (by kernel_rfl) (by kernel_rfl) (by kernel_rfl) (fun _ _ _ h => h) (by rfl) ?_ (by assumption) ?_
        rotate_left
        · (intro w hSw; (try dsimp only at hSw); go_simp) <;> with_reducible rfl
        try simp only [Act.put, List.setIfInBounds_toArray, List.set_cons_zero, List.set_cons_succ]
        refine takeD (i := 16) (d := some 114) (v := ?_) _ rfl rfl (by kernel_rfl) (by kernel_rfl) (by kernel_rfl) (fun _ _ _ h => h) (by rfl) ?_ (by assumption) ?_
        rotate_left
        · (intro w hSw; (try dsimp only at hSw); go_simp) <;> with_reducible rfl
        try simp only [Act.put, List.setIfInBounds_toArray, List.set_cons_zero, List.set_cons_succ]
        refine takeD (i := 17) (d := some 115) (v := ?_) _ rfl rfl (by kernel_rfl) (by kernel_rfl) (by kernel_rfl) (fun _ _ _ h => h) (by rfl) ?_ (by assumption) ?_
        rotate_left
        · (intro w hSw; (try dsimp only at hSw); go_simp) <;> with_reducible rfl
        try simp only [Act.put, List.setIfInBounds_toArray, List.set_cons_zero, List.set_cons_succ]
        refine takeD (i := 18) (d := some 116) (v := ?_) _ rfl rfl (by kernel_rfl) (by kernel_rfl) (by kernel_rfl) (fun _ _ _ h => h) (by rfl) ?_ (by assumption) ?_
        rotate_left
        · (intro w hSw; (try dsimp only at hSw); go_simp) <;> with_reducible rfl
        try simp only [Act.put, List.setIfInBounds_toArray, List.set_cons_zero, List.set_cons_succ]
        refine takeD (i := 19) (d := some 117) (v := ?_) _ rfl rfl (by kernel_rfl) (by kernel_rfl) (by kernel_rfl) (fun _ _ _ h => h) (by rfl) ?_ (by assumption) ?_
        rotate_left
        · (intro w hSw; (try dsimp only at hSw); go_simp) <;> with_reducible rfl
        try simp only [Act.put, List.setIfInBounds_toArray, List.set_cons_zero, List.set_cons_succ]
        refine takeD (i := 20) (d := some 118) (v := ?_) _ rfl rfl (by kernel_rfl) (by kernel_rfl) (by kernel_rfl) (fun _ _ _ h => h) (by rfl) ?_ (by assumption) ?_
        rotate_left
        · (intro w hSw; (try dsimp only at hSw); go_simp) <;> with_reducible rfl
        try simp only [Act.put, List.setIfInBounds_toArray, List.set_cons_zero, List.set_cons_succ]
        refine takeD (i := 21) (d := some 119) (v := ?_) _ rfl rfl (by kernel_rfl) (by kernel_rfl) (by kernel_rfl) (fun _ _ _ h => h) (by rfl) ?_ (by assumption) ?_
        rotate_left
        · (intro w hSw; (try dsimp only at hSw); go_simp) <;> with_reducible rfl
        try simp only [Act.put, List.setIfInBounds_toArray, List.set_cons_zero, List.set_cons_succ]
        refine wpAnyH_done (by kernel_rfl) ?_ _
        obtain ⟨w6, hw6⟩ : ∃ W, w5.drew = W := ⟨_, rfl⟩
        rw [hw6] at hHeld
        rw [hw6]
        have Q6 := Lib.hid (Q5.out.below hHeld.1)
        have B6 : Hid (Below lo w w6) := B5.out.trans (hHeld.1.mono Q5.out.nil)
        clear hHeld hw6 y0 y1 y2 y3 Q5 B5
        go_wp2_with fail
        go_roundw
        case rel =>
          have Q : L2R lo len2 n gq zs w (.int .i64 now2) (.int .i64 now2) (.int .i64 ((sent : Int) + 1)) (.int .i64 ((j : Int) + 1)) w6 := ⟨⟨j + 1, sent + 1, now2, now2, q4, by have := HX.out; omega, by have := HX.out; omega, by have := HSN.out; omega, rfl, rfl, by go_num, by go_num, HN2.out.1, HN2.out.2.1, fun h => by omega, fun _ => ⟨HN2.out.1, by omega⟩, Q6.out, B6.out⟩⟩
          first | exact Q | ((repeat apply Exists.intro); exact ⟨Q, rfl⟩)
        case measure => have := HX.out; simp [intOf]; omega
      have e2 : decide (last + m ≤ now2) = false := by simpa using hge
      have e3 : ¬ last + m ≤ now2 := hge
      have HMY : Hid (mayV (SG gq sent last).gap (SG gq sent last).sent (SG gq sent last).last now2 = false) := by
        unfold Hid mayV SG
        have h1 : 0 < sent := by omega
        rw [HM.out.1]
        simp [h1]; omega
      clear hs0
      go_wp2_with fail
      refine (step_no lo p (fun _ => True) lo (SG gq sent last) _ now2 wr HQ.out (.inr HMY.out)).mono ?_
      rintro e w4 ⟨rfl, b4⟩
      have Q4 := Lib.hid (HQ.out.below b4)
      have B4 : Hid (Below lo w w4) := HB.out.trans (b4.mono HQ.out.nil)
      clear b4
      have hx : Below w4.heap.size w4 (w4.alloc (.cells #[.int .i64 0, .slice none 0 0] 44)) := (Below.refl _ _).alloc (Nat.le_refl _) _
      have Q5 := Lib.hid (Q4.out.below hx)
      have B5 : Hid (Below lo w (w4.alloc (.cells #[.int .i64 0, .slice none 0 0] 44))) := B4.out.trans (hx.mono Q4.out.nil)
      clear hx Q4 B4
      go_wp2_with fail
      go_roundw
      case rel =>
        have Q : L2R lo len2 n gq zs w (.int .i64 now2) (.int .i64 last) (.int .i64 (sent : Int)) (.int .i64 ((j : Int) + 1)) _ := ⟨⟨j + 1, sent, now2, last, p, by have := HX.out; omega, by have := HX.out; omega, HS.out, rfl, rfl, rfl, by go_num, HN2.out.1, HN2.out.2.1, HL.out.1, fun h => ⟨(HL.out.2 h).1, by have := (HL.out.2 h).2; have := HN2.out; omega⟩, Q5.out, B5.out⟩⟩
        first | exact Q | ((repeat apply Exists.intro); exact ⟨Q, rfl⟩)
      case measure => have := HX.out; simp [intOf]; omega
end Go.Proofs.Ytkbjonblflhkoaa.Ln
