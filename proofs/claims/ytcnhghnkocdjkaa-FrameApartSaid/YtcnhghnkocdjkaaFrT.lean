/-
  Contracts of the small functions of windows and tables. Each statement bears its own conditions.
-/
import Derived.Test.YtcnhghnkocdjkaaFrM
namespace Go.Proofs.Ytcnhghnkocdjkaa
open Go.RowKit
set_option linter.unusedVariables false
set_option linter.unusedSimpArgs false
theorem end_any (a b c : Int) (w : World) (h : IntKind.i64.wrap (b + c) = b + c) :
    Calls Try.prog 33 #[.agg #[.int .i64 a, .int .i64 b, .int .i64 c]] w fun e w' => e = .returned (.int .i64 (b + c)) ∧ Below w.heap.size w w' := by
  go_enter Try.func33, Try.ntmps33
  go_wp2_with fail
  go_ret
  exact ⟨rfl, (Below.refl _ _).alloc (Nat.le_refl _) _⟩
set_option maxRecDepth 100000 in
set_option maxHeartbeats 4000000 in
theorem fits_any (a b c t : Int) (w : World) (hb : I64 b) (ht : 0 ≤ t ∧ t ≤ 1048576) :
    Calls Try.prog 35 #[.agg #[.int .i64 a, .int .i64 b, .int .i64 c], .int .i64 t] w fun e w' => e = .returned (.bool (fitsB ⟨a, b, c⟩ t)) ∧ Below w.heap.size w w' := by
  obtain ⟨s, hs⟩ : ∃ s, fitsB ⟨a, b, c⟩ t = s := ⟨_, rfl⟩
  rw [hs]
  have HS := Lib.hid hs
  unfold fitsB at hs
  by_cases h0 : 0 ≤ a
  · by_cases h1 : 0 ≤ b
    · have hw : IntKind.i64.wrap (t - b) = t - b := wrap_ok (by unfold I64 at hb; omega) (by omega)
      by_cases h2 : 1 ≤ c
      · have hs' : decide (c ≤ t - b) = s := by simpa [h0, h1, h2] using hs
        clear hs ht hb HS
        go_enter Try.func35, Try.ntmps35
        go_wp2_with fail
        go_ret
        exact ⟨rfl, (Below.refl _ _).alloc (Nat.le_refl _) _⟩
      · have hs' : s = false := by simpa [h0, h1, h2] using hs.symm
        subst hs'
        clear hs ht hb HS
        go_enter Try.func35, Try.ntmps35
        go_wp2_with fail
        go_ret
        exact ⟨rfl, (Below.refl _ _).alloc (Nat.le_refl _) _⟩
    · have hs' : s = false := by simpa [h0, h1] using hs.symm
      subst hs'
      clear hs ht hb HS
      go_enter Try.func35, Try.ntmps35
      go_wp2_with fail
      go_ret
      exact ⟨rfl, (Below.refl _ _).alloc (Nat.le_refl _) _⟩
  · have hs' : s = false := by simpa [h0] using hs.symm
    subst hs'
    clear hs ht hb HS
    go_enter Try.func35, Try.ntmps35
    go_wp2_with fail
    go_ret
    exact ⟨rfl, (Below.refl _ _).alloc (Nat.le_refl _) _⟩
structure ChkRel (fr : Int) (n : Nat) (ws : List MW) (w : World) (v3 v : Value) (wr : World) : Prop where
  ex : ∃ (k : Nat) (f : Int), k ≤ n ∧ v = .int .i64 (k : Int) ∧ v3 = .int .i64 f ∧ chkL fr 0 ws = chkL fr f (ws.drop k) ∧ 0 ≤ f ∧ f ≤ fr ∧ Below w.heap.size w wr ∧ wr.cell? ⟨w.heap.size, 0, none⟩ = some (.int .i64 fr)
theorem drop_cons {α : Type} {xs : List α} {k : Nat} {x : α} (h : xs[k]? = some x) : xs.drop k = x :: xs.drop (k + 1) := by
  obtain ⟨h1, rfl⟩ := List.getElem?_eq_some_iff.1 h
  exact List.drop_eq_getElem_cons h1
set_option maxRecDepth 100000 in
set_option maxHeartbeats 4000000 in
theorem check_any (fr : Int) (v : Value) (ws : List MW) (w : World) (h : Row w 3 RW v ws) :
    Calls Try.prog 15 #[.agg #[.int .i64 fr, v]] w fun e w' => e = .returned (.int .i64 (chk fr ws)) ∧ Below w.heap.size w w' := by
  obtain ⟨a, cap, rfl, hm⟩ := h.form
  obtain ⟨n, hn⟩ : ∃ n, ws.length = n := ⟨_, rfl⟩
  rw [hn] at h hm ⊢
  have HN := Lib.hid hn
  have H := Lib.hid h
  unfold rowMax at hm
  have HM := Lib.hid hm
  obtain ⟨r, hr⟩ : ∃ r, chk fr ws = r := ⟨_, rfl⟩
  rw [hr]
  unfold chk at hr
  rw [hn] at hr
  clear hn h
  by_cases h1 : fr < 1
  · rw [if_pos h1] at hr
    subst hr
    go_enter Try.func15, Try.ntmps15
    go_wp2_with fail
    go_ret
    exact ⟨rfl, (Below.refl _ _).alloc (Nat.le_refl _) _⟩
  rw [if_neg h1] at hr
  by_cases h2 : 1048576 < fr
  · rw [if_pos h2] at hr
    subst hr
    go_enter Try.func15, Try.ntmps15
    go_wp2_with fail
    go_ret
    exact ⟨rfl, (Below.refl _ _).alloc (Nat.le_refl _) _⟩
  rw [if_neg h2] at hr
  by_cases h3 : 64 < n
  · rw [if_pos h3] at hr
    subst hr
    have h3' : (64 : Int) < (n : Int) := by omega
    go_enter Try.func15, Try.ntmps15
    go_wp2_with fail
    go_ret
    exact ⟨rfl, (Below.refl _ _).alloc (Nat.le_refl _) _⟩
  rw [if_neg h3] at hr
  have h3' : ¬ (64 : Int) < (n : Int) := by omega
  have HR := Lib.hid hr
  have HF : Hid (1 ≤ fr ∧ fr ≤ 1048576) := ⟨by omega, by omega⟩
  clear hr hm h3
  go_enter Try.func15, Try.ntmps15
  go_wp2_with fail
  go_loopw [3, 21] (fun v3 v wr => ChkRel fr n ws w v3 v wr) (fun _ v => fun _ => n - (intOf v).toNat)
  case atStart => exact ⟨⟨0, 0, Nat.zero_le _, rfl, rfl, by simp, by omega, by have := HF.out; omega, (Below.refl _ _).alloc (Nat.le_refl _) _, by simp⟩⟩
  case round =>
    obtain ⟨⟨k, f, hk, rfl, rfl, hch, hf0, hf1, hb, hbox⟩⟩ := hrel
    have HK := Lib.hid hk
    have HC := Lib.hid hch
    have HFF : Hid (0 ≤ f ∧ f ≤ fr) := ⟨hf0, hf1⟩
    have HB := Lib.hid hb
    have HBX := Lib.hid hbox
    clear hk hch hb hf0 hf1
    by_cases hlt : k < n
    · have hkI : (k : Int) < (n : Int) := by omega
      have HX : Hid (k < n) := hlt
      obtain ⟨hnx, b, off, x, cs, rfl, hbl, hx, hR, _, hc⟩ := H.out.at_ k hlt
      clear hnx
      have HXS := Lib.hid hx
      obtain ⟨xw, xf, xl⟩ := x
      obtain ⟨rfl, hi0, hi1, hi2⟩ := hR
      have d0 : wr.cell? ⟨b, off + k * 3, none⟩ = some (.int .i64 xw) := cell_later HB.out (hc 0 _ rfl)
      have d1 : wr.cell? ⟨b, off + k * 3 + 1, none⟩ = some (.int .i64 xf) := cell_later HB.out (hc 1 _ rfl)
      have d2 : wr.cell? ⟨b, off + k * 3 + 2, none⟩ = some (.int .i64 xl) := cell_later HB.out (hc 2 _ rfl)
      have C := Lib.hid (fits_any xw xf xl fr (wr.alloc (.cells #[.int .i64 xw, .int .i64 xf, .int .i64 xl] 40)) hi1 (by have := HF.out; omega))
      obtain ⟨t, ht⟩ : ∃ t, fitsB ⟨xw, xf, xl⟩ fr = t := ⟨_, rfl⟩
      rw [ht] at C
      have HT := Lib.hid ht
      have dx : (wr.alloc (.cells #[.int .i64 xw, .int .i64 xf, .int .i64 xl] 40)).cell? ⟨w.heap.size, 0, none⟩ = some (.int .i64 fr) := cell_al _ HBX.out
      have hstep : Hid (chkL fr 0 ws = if t = false then 2 else if xf < f then 22 else chkL fr (xf + xl) (ws.drop (k + 1))) := by
        unfold Hid
        rw [HC.out, drop_cons HXS.out, ← ht]; rfl
      clear hc ht hlt hi0 hi1 hi2 hbl hx
      go_wp2_with fail
      refine C.out.mono ?_
      rintro e W1 ⟨rfl, b1⟩
      have HB1 : Hid (Below w.heap.size w W1) := (HB.out.alloc HB.out.size _).trans (b1.mono (by have := HB.out.size; simp; omega))
      have HBX1 : Hid (W1.cell? ⟨w.heap.size, 0, none⟩ = some (.int .i64 fr)) := cell_later b1 dx
      have e0 : W1.cell? ⟨wr.heap.size, 0, none⟩ = some (.int .i64 xw) := cell_later b1 (by simp)
      have e1 : W1.cell? ⟨wr.heap.size, 1, none⟩ = some (.int .i64 xf) := cell_later b1 (by simp)
      have e2 : W1.cell? ⟨wr.heap.size, 2, none⟩ = some (.int .i64 xl) := cell_later b1 (by simp)
      clear b1 C dx d0 d1 d2 hbox
      cases t with
      | false =>
        have HZ : Hid (r = 2) := by unfold Hid; rw [← HR.out, hstep.out, if_pos rfl]
        go_wp2_with fail
        go_ret
        exact ⟨by rw [HZ.out]; rfl, HB1.out⟩
      | true =>
        have hfit := fits_iff.1 HT.out
        by_cases h4 : xf < f
        · have HZ : Hid (r = 22) := by unfold Hid; rw [← HR.out, hstep.out, if_neg (by simp), if_pos h4]
          clear hfit
          go_wp2_with fail
          go_ret
          exact ⟨by rw [HZ.out]; rfl, HB1.out⟩
        · have HQ : Hid (chkL fr 0 ws = chkL fr (xf + xl) (ws.drop (k + 1)) ∧ 0 ≤ xf + xl ∧ xf + xl ≤ fr) := ⟨by rw [hstep.out, if_neg (by simp), if_neg h4], by simp at hfit; omega, by simp at hfit; omega⟩
          have hwr : IntKind.i64.wrap (xf + xl) = xf + xl := wrap_ok (by have := HQ.out; omega) (by have := HQ.out; have := HF.out; omega)
          have C := Lib.hid (end_any xw xf xl W1 hwr)
          clear hfit hwr
          go_wp2_with fail
          refine C.out.mono ?_
          rintro e W2 ⟨rfl, b2⟩
          have HB2 : Hid (Below w.heap.size w W2) := HB1.out.trans (b2.mono HB1.out.size)
          have HBX2 : Hid (W2.cell? ⟨w.heap.size, 0, none⟩ = some (.int .i64 fr)) := cell_later b2 HBX1.out
          clear b2 C e0 e1 e2
          go_wp2_with fail
          go_roundw
          case rel =>
            have Q : ChkRel fr n ws w (.int .i64 (xf + xl)) (.int .i64 ((k : Int) + 1)) W2 := ⟨⟨k + 1, xf + xl, HX.out, by go_num, rfl, HQ.out.1, HQ.out.2.1, HQ.out.2.2, HB2.out, HBX2.out⟩⟩
            first | exact Q | ((repeat apply Exists.intro); exact ⟨Q, rfl⟩)
          case measure => have := HX.out; simp [intOf]; omega
    · have hkI : ¬ (k : Int) < (n : Int) := by omega
      have hkn : k = n := by have := HK.out; omega
      have HZ : Hid (r = 0) := by
        unfold Hid
        rw [← HR.out, HC.out, hkn, List.drop_of_length_le (by have := HN.out; omega)]; rfl
      clear hkn
      go_wp2_with fail
      go_ret
      exact ⟨by rw [HZ.out]; rfl, HB.out⟩
structure ArRel (fr tick : Int) (n : Nat) (ws : List MW) (W0 : World) (v5 v : Value) (wr : World) : Prop where
  ex : ∃ (k : Nat), k ≤ n ∧ v = .int .i64 (k : Int) ∧ v5 = .int .i64 fr ∧ arndL fr tick ws = arndL fr tick (ws.drop k) ∧ Below W0.heap.size W0 wr
set_option maxRecDepth 100000 in
set_option maxHeartbeats 4000000 in
theorem around_any (fr tick : Int) (v : Value) (ws : List MW) (w : World) (h : Row w 3 RW v ws) (hfr : 1 ≤ fr ∧ fr ≤ 1048576) (ho : Ord fr 0 ws) (ht : 0 ≤ tick ∧ tick < fr) :
    Calls Try.prog 32 #[.agg #[.int .i64 fr, v], .int .i64 tick] w fun e w' => e = .returned (.agg #[.int .i64 (arndL fr tick ws).who, .int .i64 (arndL fr tick ws).frm, .int .i64 (arndL fr tick ws).len]) ∧ Below w.heap.size w w' := by
  obtain ⟨a, cap, rfl, hm⟩ := h.form
  obtain ⟨n, hn⟩ : ∃ n, ws.length = n := ⟨_, rfl⟩
  rw [hn] at h hm ⊢
  have HN := Lib.hid hn
  have H := Lib.hid h
  unfold rowMax at hm
  have HM := Lib.hid hm
  have HFT : Hid ((1 ≤ fr ∧ fr ≤ 1048576) ∧ 0 ≤ tick ∧ tick < fr) := ⟨hfr, ht⟩
  have HO := Lib.hid ho
  obtain ⟨xw, xf, xl, hX⟩ : ∃ xw xf xl, arndL fr tick ws = ⟨xw, xf, xl⟩ := ⟨_, _, _, rfl⟩
  rw [hX]
  have HXX := Lib.hid hX
  clear hn h hfr ho ht hX
  go_enter Try.func32, Try.ntmps32
  go_wp2_with fail
  apply wp_scope_straight
  go_wp2_with fail
  apply wp_label
  go_wp2_with fail
  obtain ⟨W0, hW0⟩ : ∃ W0, (w.alloc (.cells #[.int .i64 fr, .slice a n cap] 24)).alloc (.cells #[.int .i64 0, .int .i64 0, .int .i64 0] 40) = W0 := ⟨_, rfl⟩
  have BW : Hid (Below w.heap.size w W0) := by rw [← hW0]; exact ((Below.refl _ _).alloc (Nat.le_refl _) _).alloc (by simp) _
  have HSZ : Hid (W0.heap.size = w.heap.size + 2) := by rw [← hW0]; unfold Hid; simp
  have HH : Hid (W0.heap[w.heap.size + 1]? = some (.cells #[.int .i64 0, .int .i64 0, .int .i64 0] 40 (0, 0))) := by rw [← hW0]; unfold Hid; have := heap_alloc_new (w.alloc (.cells #[.int .i64 fr, .slice a n cap] 24)) (.cells #[.int .i64 0, .int .i64 0, .int .i64 0] 40); simpa using this
  rw [hW0]
  clear hW0
  go_loopw [5, 13] (fun v5 v wr => ArRel fr tick n ws W0 v5 v wr) (fun _ v => fun _ => n - (intOf v).toNat)
  case atStart => exact ⟨⟨0, Nat.zero_le _, rfl, rfl, by simp, Below.refl _ _⟩⟩
  case round =>
    obtain ⟨⟨k, hk, rfl, rfl, hch, hb⟩⟩ := hrel
    have HK := Lib.hid hk
    have HC := Lib.hid hch
    have HB := Lib.hid hb
    have HBW : Hid (Below w.heap.size w wr) := BW.out.trans (hb.mono BW.out.size)
    have hheap : wr.heap[w.heap.size + 1]? = some (.cells #[.int .i64 0, .int .i64 0, .int .i64 0] 40 (0, 0)) := (hb.block _ (by rw [HSZ.out]; omega)).trans HH.out
    have HHR := Lib.hid hheap
    clear hk hch hb hheap
    by_cases hlt : k < n
    · have hkI : (k : Int) < (n : Int) := by omega
      have HX : Hid (k < n) := hlt
      obtain ⟨hnx, b, off, x, cs, rfl, hbl, hx, hR, _, hc⟩ := H.out.at_ k hlt
      clear hnx
      have HXS := Lib.hid hx
      obtain ⟨yw, yf, yl⟩ := x
      obtain ⟨rfl, hi0, hi1, hi2⟩ := hR
      have d0 : wr.cell? ⟨b, off + k * 3, none⟩ = some (.int .i64 yw) := cell_later HBW.out (hc 0 _ rfl)
      have d1 : wr.cell? ⟨b, off + k * 3 + 1, none⟩ = some (.int .i64 yf) := cell_later HBW.out (hc 1 _ rfl)
      have d2 : wr.cell? ⟨b, off + k * 3 + 2, none⟩ = some (.int .i64 yl) := cell_later HBW.out (hc 2 _ rfl)
      have hm := HO.out.mem _ (List.mem_of_getElem? hx)
      have HMM := Lib.hid hm
      have hstep : Hid ((⟨xw, xf, xl⟩ : MW) = if tick < yf then ⟨-1, tick, yf - tick⟩ else if tick < yf + yl then ⟨yw, yf, yl⟩ else arndL fr tick (ws.drop (k + 1))) := by
        unfold Hid
        rw [← HXX.out, HC.out, drop_cons HXS.out]; rfl
      clear hc hi0 hi1 hi2 hbl hx hlt hm
      obtain ⟨W1, hW1⟩ : ∃ W1, wr.alloc (.cells #[.int .i64 yw, .int .i64 yf, .int .i64 yl] 40) = W1 := ⟨_, rfl⟩
      have f1 : W1.heap[w.heap.size + 1]? = some (.cells #[.int .i64 0, .int .i64 0, .int .i64 0] 40 (0, 0)) := by
        rw [← hW1]
        exact (((Below.refl _ _).alloc (Nat.le_refl _) _).block _ (by have := HSZ.out; have := HB.out.size; omega)).trans HHR.out
      have j0 : W1.cell? ⟨wr.heap.size, 0, none⟩ = some (.int .i64 yw) := by rw [← hW1]; simp
      have j1 : W1.cell? ⟨wr.heap.size, 1, none⟩ = some (.int .i64 yf) := by rw [← hW1]; simp
      have j2 : W1.cell? ⟨wr.heap.size, 2, none⟩ = some (.int .i64 yl) := by rw [← hW1]; simp
      by_cases ht1 : tick < yf
      · have hwr : IntKind.i64.wrap (yf - tick) = yf - tick := wrap_ok (by have := HFT.out; have := HMM.out; simp at *; omega) (by have := HFT.out; have := HMM.out; simp at *; omega)
        have HZ : Hid ((⟨xw, xf, xl⟩ : MW) = ⟨-1, tick, yf - tick⟩) := by unfold Hid; rw [hstep.out, if_pos ht1]
        have g0 := (row_cell f1 0).2
        have g1 := (row_cell f1 1).2
        have g2 := (row_cell f1 2).2
        have k0 := (row_cell f1 0).1
        have k1 := (row_cell f1 1).1
        have k2 := (row_cell f1 2).1
        simp at k0 k1 k2
        go_wp2_with fail
        refine bodyPost_ret (results_cell_mid rfl _ _ (w.heap.size + 1) _ _ rfl (set_three f1 _ _ _) Try.underlying40 rfl (by kernel_rfl)) rfl ?_
        injection HZ.out with z0 z1 z2
        subst z0 z1 z2
        exact ⟨rfl, below_three (by rw [← hW1]; exact HBW.out.alloc HBW.out.size _) (by omega) _ _ _⟩
      · have hwr : IntKind.i64.wrap (yf + yl) = yf + yl := wrap_ok (by have := HFT.out; have := HMM.out; simp at *; omega) (by have := HFT.out; have := HMM.out; simp at *; omega)
        have C := Lib.hid (end_any yw yf yl W1 hwr)
        go_wp2_with fail
        refine C.out.mono ?_
        rintro e W2 ⟨rfl, b2⟩
        have f2 : W2.heap[w.heap.size + 1]? = some (.cells #[.int .i64 0, .int .i64 0, .int .i64 0] 40 (0, 0)) :=
          (b2.block _ (by rw [← hW1]; have := HSZ.out; have := HB.out.size; simp; omega)).trans f1
        have e0 : W2.cell? ⟨wr.heap.size, 0, none⟩ = some (.int .i64 yw) := cell_later b2 j0
        have e1 : W2.cell? ⟨wr.heap.size, 1, none⟩ = some (.int .i64 yf) := cell_later b2 j1
        have e2 : W2.cell? ⟨wr.heap.size, 2, none⟩ = some (.int .i64 yl) := cell_later b2 j2
        have HB2 : Hid (Below W0.heap.size W0 W2) := by
          have h1 : Below W0.heap.size W0 W1 := by rw [← hW1]; exact HB.out.alloc HB.out.size _
          exact h1.trans (b2.mono h1.size)
        have HF2 := Lib.hid f2
        clear C b2 f1 d0 d1 d2 hW1 j0 j1 j2
        by_cases ht2 : tick < yf + yl
        · have HZ : Hid ((⟨xw, xf, xl⟩ : MW) = ⟨yw, yf, yl⟩) := by unfold Hid; rw [hstep.out, if_neg (by omega), if_pos ht2]
          have g0 := (row_cell f2 0).2
          have g1 := (row_cell f2 1).2
          have g2 := (row_cell f2 2).2
          have k0 := (row_cell f2 0).1
          have k1 := (row_cell f2 1).1
          have k2 := (row_cell f2 2).1
          simp at k0 k1 k2
          clear f2
          go_wp2_with fail
          unfold Exit.noGoto
          (try simp only [Exit.inBlock, Exit.then])
          refine bodyPost_ret (results_cell_mid rfl _ _ (w.heap.size + 1) _ _ rfl (set_three HF2.out _ _ _) Try.underlying40 rfl (by kernel_rfl)) rfl ?_
          injection HZ.out with z0 z1 z2
          subst z0 z1 z2
          exact ⟨rfl, below_three (BW.out.trans (HB2.out.mono BW.out.size)) (by omega) _ _ _⟩
        · have HQ : Hid (arndL fr tick ws = arndL fr tick (ws.drop (k + 1))) := by unfold Hid; rw [HXX.out, hstep.out, if_neg (by omega), if_neg ht2]
          clear f2
          go_wp2_with fail
          go_roundw
          case rel =>
            have Q : ArRel fr tick n ws W0 (.int .i64 fr) (.int .i64 ((k : Int) + 1)) W2 := ⟨⟨k + 1, HX.out, by go_num, rfl, HQ.out, HB2.out⟩⟩
            first | exact Q | ((repeat apply Exists.intro); exact ⟨Q, rfl⟩)
          case measure => have := HX.out; simp [intOf]; omega
    · have hkI : ¬ (k : Int) < (n : Int) := by omega
      have hkn : k = n := by have := HK.out; omega
      have HZ : Hid ((⟨xw, xf, xl⟩ : MW) = ⟨-1, tick, fr - tick⟩) := by
        unfold Hid
        rw [← HXX.out, HC.out, hkn, List.drop_of_length_le (by have := HN.out; omega)]; rfl
      have hwr : IntKind.i64.wrap (fr - tick) = fr - tick := wrap_ok (by have := HFT.out; omega) (by have := HFT.out; omega)
      have d0 := (row_cell HHR.out 0).1
      have d1 := (row_cell HHR.out 1).1
      have d2 := (row_cell HHR.out 2).1
      have g0 := (row_cell HHR.out 0).2
      have g1 := (row_cell HHR.out 1).2
      have g2 := (row_cell HHR.out 2).2
      simp at d0 d1 d2
      clear hkn
      go_wp2_with fail
      refine bodyPost_ret (results_cell_mid rfl _ _ (w.heap.size + 1) _ _ rfl (set_three HHR.out _ _ _) Try.underlying40 rfl (by kernel_rfl)) rfl ?_
      injection HZ.out with z0 z1 z2
      subst z0 z1 z2
      exact ⟨rfl, below_three HBW.out (by omega) _ _ _⟩
end Go.Proofs.Ytcnhghnkocdjkaa
