/-
  LockOrder's walk. Each statement bears its own conditions.
-/
import Derived.Test.YtbnnpfhgpbaedaaLkR
namespace Go.Proofs.Ytbnnpfhgpbaedaa.K
open Go.RowKit
set_option linter.unusedVariables false
set_option linter.unusedSimpArgs false
def IsRow (k : IntKind) (w : World) (a : Option Addr) (len cap : Nat) (zs : List Int) : Prop :=
  (a = none ∧ len = 0 ∧ cap = 0 ∧ zs = []) ∨
  ∃ x, a = some x ∧ len ≤ cap ∧ cap ≤ maxLen ∧ zs.length = cap ∧ (∀ i, i < zs.length → w.cell? (x.add i) = some (.int k (zs.getD i 0))) ∧ ∀ n ∈ zs, (Lit.int k n).wf = true
theorem IsRow.le {k : IntKind} {w : World} {a : Option Addr} {len cap : Nat} {zs : List Int} (h : IsRow k w a len cap zs) : len ≤ cap ∧ len ≤ zs.length := by
  rcases h with ⟨_, rfl, rfl, rfl⟩ | ⟨x, _, h1, _, h2, _⟩
  · simp
  · omega
theorem row_at {k : IntKind} {w : World} {a : Option Addr} {len cap : Nat} {zs : List Int} (h : IsRow k w a len cap zs) (hn : 0 < len) : ∃ b off, a = some ⟨b, off, none⟩ ∧ b < w.heap.size ∧ ∀ i, i < len → w.cell? ⟨b, off + i, none⟩ = some (.int k (zs.getD i 0)) ∧ (Lit.int k (zs.getD i 0)).wf = true := by
  rcases h with ⟨rfl, rfl, rfl, rfl⟩ | ⟨⟨b, off, spot⟩, rfl, h1, h2, h3, h4, h5⟩
  · omega
  · have e0 := h4 0 (by omega)
    have hs : spot = none := by simpa [Addr.add] using World.cell?_spot e0
    subst hs
    refine ⟨b, off, rfl, ?_, fun i hi => ⟨?_, ?_⟩⟩
    · have := World.block_lt_of_cell? _ _ e0
      simpa [block_of_add] using this
    · have := h4 i (by omega)
      rwa [Addr.add_lit] at this
    · apply h5
      rw [List.getD_eq_getElem?_getD, List.getElem?_eq_getElem (by omega)]
      exact List.getElem_mem _
theorem u8_wf {a : Int} (h : (Lit.int .u8 a).wf = true) : 0 ≤ a ∧ a < 256 := by
  simp only [Lit.wf, Bool.and_eq_true, decide_eq_true_eq] at h
  have h5 : (IntKind.u8.min : Int) = 0 := rfl
  have h6 : (IntKind.u8.max : Int) = 255 := rfl
  omega
theorem i64_wf {a : Int} (h : 0 ≤ a ∧ a < 1000) : (Lit.int .i64 a).wf = true := by
  simp only [Lit.wf, Bool.and_eq_true, decide_eq_true_eq]
  have h5 : (IntKind.i64.min : Int) = -9223372036854775808 := rfl
  have h6 : (IntKind.i64.max : Int) = 9223372036854775807 := rfl
  omega
theorem prz_at {zs : List Int} {k : Nat} (h : 0 ≤ zs.getD k 0) : ∃ r : Nat, r < 63 ∧ (zs.getD k 0).tmod 63 = (r : Int) ∧ prz zs (k : Int) = 1 + (r : Int) := by
  have h1 := Int.tmod_nonneg 63 h
  have h2 := Int.tmod_lt_of_pos (zs.getD k 0) (show (0 : Int) < 63 by omega)
  refine ⟨((zs.getD k 0).tmod 63).toNat, by omega, by omega, ?_⟩
  have h3 : ((k : Int)).toNat = k := by omega
  unfold prz
  rw [h3]; omega
/-- One lock, of whom it is, and who waits for it. -/
structure OS (lo g bc bw bm : Nat) (cs : List Int) (w : World) (N : Nat) (L : List (Int × Int)) (o : Option Int) (wr : World) : Prop where
  ex : ∃ rb ws os, LV lo wr g bc bw bm N rb cs ws os ∧ ws 0 = L ∧ os 0 = o ∧ Below lo w wr
structure O1 (lo g bc bw bm n : Nat) (cs zs : List Int) (w : World) (iv : Value) (wr : World) : Prop where
  ex : ∃ (j : Nat) (L : List (Int × Int)), j ≤ n ∧ iv = .int .i64 (j : Int) ∧ OS lo g bc bw bm cs w 1 L (some 100) wr ∧ Srt zs j L ∧ L.length = j
structure O2 (lo g bc bw bm n : Nat) (cs zs : List Int) (w : World) (hv lv pv iv : Value) (wr : World) : Prop where
  ex : ∃ (i : Nat) (L : List (Int × Int)) (has last p : Int), i ≤ n ∧ iv = .int .i64 (i : Int) ∧ hv = .int .i64 has ∧ lv = .int .i64 last ∧ pv = .int .i64 p ∧ OS lo g bc bw bm cs w (i + 1) L (some has) wr ∧ Srt zs n L ∧ L.length + i = n ∧ (∀ x ∈ L, x.1 ≠ has) ∧ (∀ x ∈ L, x.2 < p ∨ (x.2 = p ∧ last < x.1)) ∧ (0 ≤ has ∧ has ≤ 100)
set_option maxRecDepth 100000 in
set_option maxHeartbeats 8000000 in
theorem order_walk (a : Option Addr) (len cap : Nat) (zs : List Int) (w : World) (h0 : IsRow .u8 w a len cap zs) : Calls Try.prog 4 #[.slice a len cap] w fun e w' => e = .returned (.bool true) ∧ Below w.heap.size w w' := by
  have HR := Lib.hid h0
  have hlc : (len : Int) ≤ (cap : Int) := by have := h0.le; omega
  obtain ⟨n, hn1, hn2, hmin⟩ : ∃ n : Nat, n ≤ len ∧ n ≤ 40 ∧ min (len : Int) 40 = (n : Int) := by
    by_cases h : len ≤ 40
    · exact ⟨len, Nat.le_refl _, h, by omega⟩
    · exact ⟨40, by omega, Nat.le_refl _, by omega⟩
  have HN : Hid (n ≤ len ∧ n ≤ 40) := ⟨hn1, hn2⟩
  clear h0 hn1 hn2
  obtain ⟨lo, hlo⟩ : ∃ lo, w.heap.size = lo := ⟨_, rfl⟩
  have HLO : Hid (lo ≤ w.heap.size ∧ w.heap.size ≤ lo) := by unfold Hid; omega
  obtain ⟨cs, hcs⟩ : ∃ cs : List Int, cs = [63] := ⟨_, rfl⟩
  have HLEN : Hid (cs.length = 1) := by unfold Hid; rw [hcs]; rfl
  have HC0 : Hid (cs.getD 0 0 = 63) := by unfold Hid; rw [hcs]; rfl
  obtain ⟨w0, hw0⟩ : ∃ w0, w.alloc (.cells #[.int .i64 63] 3) = w0 := ⟨_, rfl⟩
  have hb0 : Below lo w w0 := by rw [← hw0, ← hlo]; exact (Below.refl _ _).alloc (Nat.le_refl _) _
  have R0 : I.RowV w0 (.slice (some ⟨lo, 0, none⟩) 1 1) lo cs := by
    rw [hcs, ← hw0, ← hlo]
    exact I.RowV.mk' (L := [63]) (heap_alloc_new _ _) (by simp) (by unfold maxLen; omega) rfl rfl
  have NE := Lib.hid (new_any _ _ cs w0 R0 (by rw [hcs]; decide) (by rw [hcs]; intro i hi; match i, hi with | 0, _ => decide))
  have B0 := Lib.hid hb0
  have HW0 : Hid (lo ≤ w0.heap.size) := by unfold Hid; have := hb0.size; have := HLO.out; omega
  rw [hlo]
  clear R0 hb0 hcs
  go_enter Try.func4, Try.ntmps4
  go_wp2_with fail
  refine NE.out.mono ?_
  rintro e w1 ⟨g, bc, bw, bm, rfl, h1, b1⟩
  have H1 := Lib.hid (h1.less HW0.out)
  have B1 : Hid (Below lo w w1) := B0.out.trans (b1.mono HW0.out)
  have hz : ∀ w : World, (binOp .eql 24 (.pointer (some ⟨g, 0, none⟩)) (.pointer none)).run Try.prog w = .ok (.bool false) w := fun _ => rfl
  clear h1 b1 NE hw0 B0
  have hl1 : ∀ i, i < cs.length → ((fun _ => [] : Nat → List (Int × Int)) i).length ≤ 900 := fun i _ => by simp
  have T1 := Lib.hid (take_free lo g bc bw bm 0 _ cs _ _ 100 1 0 w1 H1.out (by rw [HLEN.out]; omega) hl1 (by rw [HLEN.out]; omega) (by omega) (by omega) (fun i _ x hx => by cases hx) (by decide) (by unfold maxLen; omega) rfl (by rw [HC0.out]; omega))
  clear hl1
  go_wp2_with fail
  refine T1.out.mono ?_
  rintro e w2 ⟨rfl, h2, l2⟩
  have OS2 : Hid (OS lo g bc bw bm cs w 1 [] (some 100) w2) := ⟨_, _, _, h2, rfl, rfl, B1.out.trans (l2.below H1.out)⟩
  clear h2 l2 T1 H1 B1 hmin hlo
  go_wp2_with fail
  go_loopw [8] (fun iv wr => O1 lo g bc bw bm n cs zs w iv wr) (fun i _ => 41 - (intOf i).toNat)
  case atStart => exact ⟨⟨0, [], Nat.zero_le _, rfl, OS2.out, Srt.nil _, rfl⟩⟩
  case round =>
    obtain ⟨⟨j, L, hj, rfl, ⟨⟨rb, ws, os, hlv, hws, hos, hb⟩⟩, hsrt, hll⟩⟩ := hrel
    have HV := Lib.hid hlv
    have HWS := Lib.hid hws
    have HOS := Lib.hid hos
    have HB := Lib.hid hb
    have HS := Lib.hid hsrt
    have HL : Hid (L.length = j ∧ j ≤ 40 ∧ j ≤ n) := ⟨hll, by have := HN.out; omega, hj⟩
    clear hlv hws hos hb hsrt hll hj
    by_cases hlt : j < n
    · have hjI : (j : Int) < (n : Int) := by omega
      have hjl : (j : Int) < (len : Int) := by have := HN.out; omega
      have hj40 : (j : Int) < 40 := by have := HN.out; omega
      have HX : Hid (j < n) := hlt
      have hjn : j < len := by have := HN.out; omega
      obtain ⟨b, off, hax, hbl, hc⟩ := row_at HR.out (show 0 < len by omega)
      subst hax
      obtain ⟨r, hr63, hrm, hpr⟩ := prz_at (zs := zs) (k := j) (u8_wf (hc j hjn).2).1
      have HPR := Lib.hid hpr
      obtain ⟨x, hx⟩ : ∃ x, zs.getD j 0 = x := ⟨_, rfl⟩
      have hc0 := (hc j hjn).1
      rw [hx] at hc0 hrm
      have e0 : wr.cell? ⟨b, off + j, none⟩ = some (.int .u8 x) := (HB.out.cell (by show b < lo; have := HLO.out; omega)).trans hc0
      have hr1 : (r : Int) < 63 := by omega
      have TJ := Lib.hid (take_joins lo g bc bw bm 1 rb cs ws os (j : Int) (1 + (r : Int)) 0 wr HV.out (by rw [HLEN.out]; omega) (fun i hi => by
        rw [HLEN.out] at hi
        have : i = 0 := by omega
        subst this
        rw [HWS.out]; have := HL.out; omega) (by rw [HLEN.out]; omega) (by omega) (by omega) (by rw [HLEN.out]; exact noId_one (by rw [HWS.out]; exact fun x hx => by have := (HS.out.mem x hx).2.1; omega)) 100 HOS.out (by omega) (by rw [HC0.out]; omega))
      clear hc hc0 hbl hlt hjn hx hpr hr63
      go_wp2_with fail
      refine TJ.out.mono ?_
      rintro e w4 ⟨rfl, rb', h4, l4⟩
      have O4 : Hid (OS lo g bc bw bm cs w 1 (joinP L (j : Int) (prz zs (j : Int))) (some 100) w4) := ⟨_, _, _, h4, by rw [putN_at, HWS.out, HPR.out], HOS.out, HB.out.trans (l4.below HV.out)⟩
      clear h4 l4 TJ
      go_wp2_with fail
      go_roundw
      case rel =>
        have Q : O1 lo g bc bw bm n cs zs w (.int .i64 ((j : Int) + 1)) w4 := ⟨⟨j + 1, _, HX.out, by go_num, O4.out, HS.out.join, by rw [joinP_len, HL.out.1]⟩⟩
        first | exact Q | ((repeat apply Exists.intro); exact ⟨Q, rfl⟩)
      case measure => have := HX.out; have := HN.out; simp [intOf]; omega
    · have hjI : ¬ (j : Int) < (n : Int) := by omega
      have hjn : j = n := by have := HL.out; omega
      subst hjn
      clear hlt
      go_wp2_with fail
      go_loopw [11, 12, 13, 14] (fun hv lv pv iv wr => O2 lo g bc bw bm j cs zs w hv lv pv iv wr) (fun _ _ _ i _ => 41 - (intOf i).toNat)
      case atStart =>
        refine ⟨⟨0, L, 100, -1, 64, Nat.zero_le _, rfl, rfl, rfl, rfl, ⟨⟨rb, ws, os, HV.out, HWS.out, HOS.out, HB.out⟩⟩, HS.out, by have := HL.out; omega, fun x hx => by have := (HS.out.mem x hx).2.1; have := HL.out; omega, fun x hx => .inl ?_, by omega⟩⟩
        have h1 := HS.out.mem x hx
        have hk : x.1 = ((x.1.toNat : Nat) : Int) := by omega
        have h2 := (row_at HR.out (show 0 < len by have := HN.out; omega))
        obtain ⟨b, off, _, _, hc⟩ := h2
        obtain ⟨r, hr, _, hpr⟩ := prz_at (zs := zs) (k := x.1.toNat) (u8_wf (hc x.1.toNat (by have := HN.out; omega)).2).1
        rw [h1.2.2, hk, hpr]; omega
      case round =>
        obtain ⟨⟨i, L2, has, last, p, hi, rfl, rfl, rfl, rfl, ⟨⟨rb2, ws2, os2, hlv, hws, hos, hb⟩⟩, hsrt, hll, hno, hord, hhas⟩⟩ := hrel
        have KV := Lib.hid hlv
        have KWS := Lib.hid hws
        have KOS := Lib.hid hos
        have KB := Lib.hid hb
        have KS := Lib.hid hsrt
        have KNO := Lib.hid hno
        have KOR := Lib.hid hord
        have KH := Lib.hid hhas
        have KL : Hid (L2.length + i = j ∧ i ≤ j ∧ j ≤ 40) := ⟨hll, hi, by have := HL.out; omega⟩
        clear hlv hws hos hb hsrt hll hno hord hhas hi
        have hlen900 : ∀ q, q < cs.length → (ws2 q).length ≤ 900 := fun q hq => by
          rw [HLEN.out] at hq
          have : q = 0 := by omega
          subst this
          rw [KWS.out]; have := KL.out; omega
        by_cases hlt : i < j
        · have hiI : (i : Int) < (j : Int) := by omega
          have hi40 : (i : Int) < 40 := by have := KL.out; omega
          have HX : Hid (i < j) := hlt
          match L2, KWS, KS, KNO, KOR, KL with
          | [], KWS, KS, KNO, KOR, KL => exact absurd KL.out.1 (by simp; omega)
          | x :: L3, KWS, KS, KNO, KOR, KL =>
          obtain ⟨x1, x2⟩ := x
          have hm := KS.out.mem (x1, x2) (List.mem_cons_self ..)
          obtain ⟨k, hk⟩ : ∃ k : Nat, x1 = (k : Int) := ⟨x1.toNat, by have := hm.1; simp at this; omega⟩
          subst hk
          have hkj : k < j := by have := hm.2.1; simp at this; omega
          obtain ⟨b, off, hax, hbl, hc⟩ := row_at HR.out (show 0 < len by have := HN.out; omega)
          subst hax
          obtain ⟨r, hr63, hrm, hpr⟩ := prz_at (zs := zs) (k := k) (u8_wf (hc k (by have := HN.out; omega)).2).1
          have hx2 : x2 = 1 + (r : Int) := by have := hm.2.2; simp at this; rw [this]; exact hpr
          subst hx2
          obtain ⟨y, hy⟩ : ∃ y, zs.getD k 0 = y := ⟨_, rfl⟩
          have hc0 := (hc k (by have := HN.out; omega)).1
          rw [hy] at hc0 hrm
          have GN := Lib.hid (give_next lo g bc bw bm (i + 1) rb2 cs ws2 os2 has 0 ((k : Int), 1 + (r : Int)) L3 KWS.out (i64_wf (by simp; have := KL.out; omega)) (by have := KL.out; unfold maxLen; omega) wr KV.out (by rw [HLEN.out]; omega) hlen900 (by rw [HLEN.out]; omega) (by rw [HLEN.out]; exact noId_one (by rw [KWS.out]; exact KNO.out)) KOS.out)
          have hord := KOR.out ((k : Int), 1 + (r : Int)) (List.mem_cons_self ..)
          simp only at hord
          have HKJ : Hid (k < j) := hkj
          have HC0' := Lib.hid hc0
          have HBL : Hid (b < w.heap.size) := hbl
          have KOR2 : Hid (∀ z ∈ L3, z.2 < 1 + (r : Int) ∨ (z.2 = 1 + (r : Int) ∧ (k : Int) < z.1)) := fun z hz => (List.pairwise_cons.1 KS.out.srt).1 z hz
          clear hc hc0 hbl hlt hy hpr hm hlen900
          go_wp2_with fail
          refine GN.out.mono ?_
          rintro e w4 ⟨⟨A4, c4, rv, rfl, r4, f4⟩, h4, l4⟩
          obtain ⟨⟨c', hv⟩, d4, hlt4⟩ := r4.cells 0 (by simp)
          injection hv with hv1 hv2 hv3
          simp at hv2
          subst hv1 hv3
          have d4 : w4.cell? ⟨rv, 0, none⟩ = some (.int .i64 (k : Int)) := d4
          have B4 : Hid (Below lo w w4) := KB.out.trans (l4.below KV.out)
          have e0 : w4.cell? ⟨b, off + k, none⟩ = some (.int .u8 y) := (B4.out.cell (by show b < lo; have := HLO.out; have := HBL.out; omega)).trans HC0'.out
          have O4 : Hid (OS lo g bc bw bm cs w (i + 1 + 1) L3 (some (k : Int)) w4) := ⟨_, _, _, h4, putN_at _ _ _, by simp [put], B4.out⟩
          clear r4 f4 h4 l4 hlt4 GN
          have hr1 : (r : Int) < 63 := by omega
          have hkI : ¬ (k : Int) < 0 := by omega
          have hkj1 : ¬ (j : Int) ≤ (k : Int) := by have := HKJ.out; omega
          have hkj2 : (k : Int) < (j : Int) := by have := HKJ.out; omega
          have hkl : (k : Int) < (len : Int) := by have := HKJ.out; have := HN.out; omega
          by_cases hpe : 1 + (r : Int) = p
          · have hp1 : (1 + (r : Int) == p) = true := by rw [beq_iff_eq]; exact hpe
            have hp2 : ¬ p < 1 + (r : Int) := by omega
            have hp2' : decide (p < 1 + (r : Int)) = false := by simpa using hp2
            have hp3 : ¬ (k : Int) ≤ last := by omega
            have hp3' : decide ((k : Int) ≤ last) = false := by simpa using hp3
            clear hpe hord hr63
            go_wp2_with fail
            go_roundw
            case rel =>
              have Q : O2 lo g bc bw bm j cs zs w (.int .i64 (k : Int)) (.int .i64 (k : Int)) (.int .i64 (1 + (r : Int))) (.int .i64 ((i : Int) + 1)) w4 := ⟨⟨i + 1, L3, _, _, _, HX.out, by go_num, rfl, rfl, rfl, O4.out, KS.out.tail, by have := KL.out; simp at this; omega, KS.out.other, KOR2.out, by have := HKJ.out; have := KL.out; omega⟩⟩
              first | exact Q | ((repeat apply Exists.intro); exact ⟨Q, rfl⟩)
            case measure => have := HX.out; have := KL.out; simp [intOf]; omega
          · have hp1 : (1 + (r : Int) == p) = false := by rw [beq_eq_false_iff_ne]; exact hpe
            have hp2 : ¬ p < 1 + (r : Int) := by omega
            have hp2' : decide (p < 1 + (r : Int)) = false := by simpa using hp2
            clear hpe hord hr63
            go_wp2_with fail
            go_roundw
            case rel =>
              have Q : O2 lo g bc bw bm j cs zs w (.int .i64 (k : Int)) (.int .i64 (k : Int)) (.int .i64 (1 + (r : Int))) (.int .i64 ((i : Int) + 1)) w4 := ⟨⟨i + 1, L3, _, _, _, HX.out, by go_num, rfl, rfl, rfl, O4.out, KS.out.tail, by have := KL.out; simp at this; omega, KS.out.other, KOR2.out, by have := HKJ.out; have := KL.out; omega⟩⟩
              first | exact Q | ((repeat apply Exists.intro); exact ⟨Q, rfl⟩)
            case measure => have := HX.out; have := KL.out; simp [intOf]; omega
        · have hiI : ¬ (i : Int) < (j : Int) := by omega
          have hL0 : L2 = [] := List.eq_nil_of_length_eq_zero (by have := KL.out; omega)
          subst hL0
          have GF := Lib.hid (give_free lo g bc bw bm (i + 1) rb2 cs ws2 os2 has 0 KWS.out wr KV.out (by rw [HLEN.out]; omega) hlen900 (by rw [HLEN.out]; omega) (by rw [HLEN.out]; exact noId_one (by rw [KWS.out]; exact fun x hx => by cases hx)) KOS.out)
          clear hlt hlen900
          go_wp2_with fail
          refine GF.out.mono ?_
          rintro e w4 ⟨rfl, h4, l4⟩
          have B4 : Hid (Below lo w w4) := KB.out.trans (l4.below KV.out)
          obtain ⟨vc, cw, hd4, _⟩ := h4.hd
          have OA := Lib.hid (owner_any g bm _ vc _ _ 0 w4 (by decide) hd4 h4.mp)
          have hput : put os2 ((0 : Nat) : Int) none 0 = none := by simp [put]
          rw [hput] at OA
          clear h4 l4 GF hd4 hput
          go_wp2_with fail
          refine OA.out.mono ?_
          rintro e w5 ⟨rfl, hw⟩
          have hw := hw.symm
          subst hw
          go_wp2_with fail
          refine (known_any _).mono ?_
          rintro e w6 ⟨rfl, b6⟩
          have B6 : Hid (Below lo w w6) := B4.out.trans (b6.mono (by have := B4.out.size; have := HLO.out; omega))
          clear b6
          go_wp2_with fail
          go_ret
          exact ⟨rfl, B6.out⟩
end Go.Proofs.Ytbnnpfhgpbaedaa.K
