/-
  What a board does: Drop and Read. Each statement bears its own conditions.
-/
import Derived.Test.YtfmcmhgpgkeplaaBdA
namespace Go.Proofs.Ytfmcmhgpgkeplaa.B
open Go.RowKit Go.Proofs.Ytfmcmhgpgkeplaa.F Go.Proofs.Ytfmcmhgpgkeplaa.I
set_option linter.unusedVariables false
set_option linter.unusedSimpArgs false
/-- Who waits once one more reads. -/
def readL (sh : Bool) (L : List Int) (id : Int) : List Int := if sh = true then L else if id ∈ L then L else L ++ [id]
theorem readL_len (sh : Bool) (L : List Int) (id : Int) : (readL sh L id).length ≤ L.length + 1 := by
  unfold readL; split
  · omega
  · split
    · omega
    · simp
/-- A board whose list of who waits is another one. -/
theorem BV.wait {lo : Nat} {w w2 w3 : World} {p q : Nat → Prop} {g : Nat} {n : Int} {sh : Bool} {M L L' : List Int} {v : Value} {Am Aw : Option Addr} {cm cw : Nat} (h : BV lo w p g n sh M L)
    (b : Ow 40 w p (.slice Am M.length cm) M.length (CU M)) (a : w2.heap[g]? = some (.cells #[.int .i64 n, .bool sh, .slice Am M.length cm, .slice Aw L.length cw] 68 (0, 0)))
    (bm : ∀ k, (Value.slice Am M.length cm).ownBlock = some k → w2.heap[k]? = w.heap[k]?)
    (hv : Ow 3 w2 q v L'.length (C L')) (hw : w3 = w2.setCell ⟨g, 3, none⟩ v) (hf : Fo p w w2) (hq : ∀ k, q k → p k ∨ (w.heap.size ≤ k ∧ k < w2.heap.size)) (hp : ∀ k, p k → q k) :
    BV lo w3 q g n sh M L' ∧ Nx p q w w3 := by
  subst hw
  have hs := set_at a 3 v
  have hf2 : Fo p w (w2.setCell ⟨g, 3, none⟩ v) := hf.setCell (.inl h.pg) 3 v
  have h3 : ∀ k, k ≠ g → (w2.setCell ⟨g, 3, none⟩ v).heap[k]? = w2.heap[k]? := fun k hk => set_far _ _ hk
  have hsz : (w2.setCell ⟨g, 3, none⟩ v).heap.size = w2.heap.size := by simp
  have hgw : ∃ C0, w.heap[g]? = some (.cells C0 68 (0, 0)) := by
    obtain ⟨_, _, a0, _⟩ := h.ex
    exact ⟨_, a0⟩
  obtain ⟨C0, hgw⟩ := hgw
  refine ⟨⟨fun k hk => ?_, hp g h.pg, ⟨_, _, hs, ?_, ?_⟩, h.nm, h.nl⟩, hf2, fun k hk => (hq k hk).imp id fun h => h.1⟩
  · have h1 := hf.size
    have h2 := h.low g h.pg
    rcases hq k hk with h4 | h4
    · have := h.low k h4; omega
    · omega
  · have b1 := b.not hgw ne_ub
    refine ⟨⟨b1.own.1, ?_⟩, fun k hk => ⟨hp k (b1.at_ k hk).1.1, by have := (b1.at_ k hk).2; have := hf.size; omega⟩⟩
    rcases b1.own.2 with h1 | ⟨k, cap, cur, hv1, hbg, hg, r⟩
    · exact .inl h1
    · refine .inr ⟨k, cap, cur, hv1, hbg, ?_, r⟩
      have hk := b1.at_ k (by rw [hv1]; rfl)
      rw [h3 k hk.1.2, bm k (by rw [hv1]; rfl)]
      exact hg
  · have c1 := hv.not a ne_ib
    exact (c1.keep (w' := w2.setCell ⟨g, 3, none⟩ v) (by omega) fun k _ hk => h3 k hk.2).imp fun k _ hk => hk.2.1
set_option maxRecDepth 100000 in
set_option maxHeartbeats 2000000 in
theorem drop_no (lo : Nat) (p : Nat → Prop) (g : Nat) (n : Int) (sh : Bool) (M L : List Int) (id : Int) (w : World) (h : BV lo w p g n sh M L) (hL : L.length ≤ 900) (hid : id ∉ L) :
    Calls Try.prog 20 #[.pointer (some ⟨g, 0, none⟩), .int .i64 id] w fun e w' => e = .returned (.bool false) ∧ w' = w := by
  obtain ⟨Am, cm, Aw, cw, a, b, c⟩ := h.four
  have d0 : w.cell? ⟨g, 0, none⟩ = some (.int .i64 n) := by rw [(row_cell a 0).1]; rfl
  have d1 : w.cell? ⟨g, 1, none⟩ = some (.bool sh) := by rw [(row_cell a 1).1]; rfl
  have d2 : w.cell? ⟨g, 2, none⟩ = some (.slice Am M.length cm) := by rw [(row_cell a 2).1]; rfl
  have d3 : w.cell? ⟨g, 3, none⟩ = some (.slice Aw L.length cw) := by rw [(row_cell a 3).1]; rfl
  have CI := Lib.hid (index_any p _ L id w c.sq (by omega))
  obtain ⟨nm, hnm⟩ : ∃ k, M.length = k := ⟨_, rfl⟩
  obtain ⟨nl, hnl⟩ : ∃ k, L.length = k := ⟨_, rfl⟩
  rw [hnl] at CI d3
  have HID := Lib.hid hid
  clear a b c h hnm hnl hL d0 d1 d2 hid
  go_enter Try.func20, Try.ntmps20
  go_wp2_with fail
  refine CI.out.mono ?_
  rintro e w1 ⟨hx, hw⟩
  have hw := hw.symm
  subst hw
  rcases hx with ⟨k, _, hm, _, _⟩ | ⟨_, rfl⟩
  · exact absurd (List.mem_of_getElem? hm) HID.out
  go_wp2_with fail
  go_ret
  exact ⟨rfl, rfl⟩
set_option maxRecDepth 100000 in
set_option maxHeartbeats 2000000 in
theorem drop_yes (lo : Nat) (p : Nat → Prop) (g : Nat) (n : Int) (sh : Bool) (M L : List Int) (id : Int) (w : World) (h : BV lo w p g n sh M L) (hL : L.length ≤ 900) (hid : id ∈ L) :
    Calls Try.prog 20 #[.pointer (some ⟨g, 0, none⟩), .int .i64 id] w fun e w' => e = .returned (.bool true) ∧ BV lo w' p g n sh M (L.erase id) ∧ Nx p p w w' := by
  obtain ⟨Am, cm, Aw, cw, a, b, c⟩ := h.four
  have d0 : w.cell? ⟨g, 0, none⟩ = some (.int .i64 n) := by rw [(row_cell a 0).1]; rfl
  have d1 : w.cell? ⟨g, 1, none⟩ = some (.bool sh) := by rw [(row_cell a 1).1]; rfl
  have d2 : w.cell? ⟨g, 2, none⟩ = some (.slice Am M.length cm) := by rw [(row_cell a 2).1]; rfl
  have d3 : w.cell? ⟨g, 3, none⟩ = some (.slice Aw L.length cw) := by rw [(row_cell a 3).1]; rfl
  have CI := Lib.hid (index_any p _ L id w c.sq (by omega))
  obtain ⟨rb, hrb, hR⟩ : ∃ rb, p rb ∧ RowV w (.slice Aw L.length cw) rb L := by
    rcases c.form with ⟨_, h0, _⟩ | ⟨b1, cap, cur, hv, hp, _⟩
    · have : L = [] := List.eq_nil_of_length_eq_zero h0
      subst this; cases hid
    · exact ⟨b1, hp, c.own, fun k hk => by rw [hv] at hk; injection hk with hk; exact hk.symm⟩
  have hrg : rb ≠ g := by
    rcases c.form with ⟨_, h0, _⟩ | ⟨b1, cap, cur, hv, hp, _⟩
    · have : L = [] := List.eq_nil_of_length_eq_zero h0
      subst this; cases hid
    · have h1 := (c.not a ne_ib).at_ b1 (by rw [hv]; rfl)
      have h2 := hR.at_ b1 (by rw [hv]; rfl)
      rw [← h2]; exact h1.1.2
  have CD : Hid (∀ k, k + 1 ≤ L.length → Calls Try.prog 26 #[.slice Aw L.length cw, .int .i64 (k : Int), .int .i64 ((k + 1 : Nat) : Int)] w fun e w' => ∃ v', e = .returned v' ∧ RowV w' v' rb (L.take k ++ L.drop (k + 1)) ∧ Past rb w w') := fun k hk => delete_any _ rb k (k + 1) L w hR (by omega) hk (by omega)
  have HA := Lib.hid a
  have HB := Lib.hid b
  have HC := Lib.hid c
  have HH := Lib.hid h
  have HRB := Lib.hid hrb
  have HRV : Hid ((Value.slice Aw L.length cw).ownBlock = some rb) := by
    rcases c.form with ⟨_, h0, _⟩ | ⟨b1, cap, cur, hv, hp, _⟩
    · have : L = [] := List.eq_nil_of_length_eq_zero h0
      subst this; cases hid
    · have h2 := hR.at_ b1 (by rw [hv]; rfl)
      unfold Hid; rw [hv, h2]; rfl
  have HRG := Lib.hid hrg
  have HL : Hid (L.length ≤ 900) := hL
  obtain ⟨nm, hnm⟩ : ∃ k, M.length = k := ⟨_, rfl⟩
  obtain ⟨nl, hnl⟩ : ∃ k, L.length = k := ⟨_, rfl⟩
  have HNL := Lib.hid hnl
  rw [hnl] at CI CD d3 HL
  have HID := Lib.hid hid
  clear a b c h hnm hnl hL d0 d1 d2 hid hR hrb hrg
  go_enter Try.func20, Try.ntmps20
  go_wp2_with fail
  refine CI.out.mono ?_
  rintro e w1 ⟨hx, hw⟩
  have hw := hw.symm
  subst hw
  rcases hx with ⟨k, hk, hm, hno, rfl⟩ | ⟨hno, _⟩
  rotate_left
  · exact absurd HID.out hno
  have hk0 : ¬ (k : Int) < 0 := by omega
  have hk900 : (k : Int) < 900 := by have := HL.out; have := HNL.out; omega
  have CK := Lib.hid (CD.out k (by have := HNL.out; omega))
  have hkc : (((k + 1 : Nat) : Nat) : Int) = (k : Int) + 1 := by omega
  rw [hkc] at CK
  have HE := Lib.hid (cut_erase hm hno)
  clear hk hm hno hkc CD CI
  go_wp2_with fail
  refine CK.out.mono ?_
  rintro e w2 ⟨v', rfl, r2, p2⟩
  rw [HE.out] at r2
  obtain ⟨A2, c2, hv2⟩ := slice_form r2.own
  subst hv2
  have a2 : w2.heap[g]? = some (.cells #[.int .i64 n, .bool sh, .slice Am M.length cm, .slice Aw L.length cw] 68 (0, 0)) := (p2.block g HH.out.lt HRG.out.symm).trans HA.out
  have d3 : w2.cell? ⟨g, 3, none⟩ = some (.slice Aw L.length cw) := by rw [(row_cell a2 3).1]; rfl
  have f3 : w2.frozen? ⟨g, 3, none⟩ = false := (row_cell a2 3).2
  have Q : Hid (BV lo (w2.setCell ⟨g, 3, none⟩ (.slice A2 (L.erase id).length c2)) p g n sh M (L.erase id) ∧ Nx p p w (w2.setCell ⟨g, 3, none⟩ (.slice A2 (L.erase id).length c2))) := by
    have h := HH.out
    have hrw : ∀ k, (Value.slice Am M.length cm).ownBlock = some k → w2.heap[k]? = w.heap[k]? := fun k hk => by
      refine p2.block k (HB.out.at_ k hk).2 ?_
      rintro rfl
      exact HB.out.apart HC.out ne_ui k hk HRV.out
    exact h.wait HB.out a2 hrw ⟨r2.own, fun k hk => by have := r2.at_ k hk; rw [this]; exact ⟨HRB.out, by have := (h.low rb HRB.out).2; have := p2.size; omega⟩⟩ rfl (Fo.of_past p2 HRB.out) (fun k hk => .inl hk) (fun k hk => hk)
  clear r2 p2 a2 HH HA HB HC
  go_wp2_with fail
  go_ret
  exact ⟨rfl, Q.out⟩
set_option maxRecDepth 100000 in
set_option maxHeartbeats 2000000 in
theorem read_any (lo : Nat) (p : Nat → Prop) (g : Nat) (n : Int) (sh : Bool) (M L : List Int) (id : Int) (w : World) (h : BV lo w p g n sh M L) (hL : L.length ≤ 900) :
    Calls Try.prog 13 #[.pointer (some ⟨g, 0, none⟩), .int .i64 id] w fun e w' => ∃ r q, e = .returned (.tuple #[r, .bool sh]) ∧ Ow 40 w' (fun b => w.heap.size ≤ b ∧ ¬ q b) r M.length (CU M) ∧ BV lo w' q g n sh M (readL sh L id) ∧ Nx p q w w' := by
  obtain ⟨Am, cm, Aw, cw, a, b, c⟩ := h.four
  have d0 : w.cell? ⟨g, 0, none⟩ = some (.int .i64 n) := by rw [(row_cell a 0).1]; rfl
  have d1 : w.cell? ⟨g, 1, none⟩ = some (.bool sh) := by rw [(row_cell a 1).1]; rfl
  have d2 : w.cell? ⟨g, 2, none⟩ = some (.slice Am M.length cm) := by rw [(row_cell a 2).1]; rfl
  have d3 : w.cell? ⟨g, 3, none⟩ = some (.slice Aw L.length cw) := by rw [(row_cell a 3).1]; rfl
  have CN := Lib.hid (contains_any p _ L id w c.sq (by omega))
  obtain ⟨i0, hi, hz0, hz1, hz2⟩ := info_of int_info
  have HA := Lib.hid a
  have HB := Lib.hid b
  have HC := Lib.hid c
  have HH := Lib.hid h
  have HL : Hid (L.length ≤ 900) := hL
  obtain ⟨nm, hnm⟩ : ∃ k, M.length = k := ⟨_, rfl⟩
  obtain ⟨nl, hnl⟩ : ∃ k, L.length = k := ⟨_, rfl⟩
  have HNL := Lib.hid hnl
  have HNM := Lib.hid hnm
  rw [hnl] at CN d3
  clear a b c h hnm hnl hL d0 d2
  cases sh with
  | true =>
    have CS := Lib.hid (shown_any lo p g n true M L w HH.out)
    go_enter Try.func13, Try.ntmps13
    go_wp2_with fail
    refine CS.out.mono ?_
    rintro e w2 ⟨r, rfl, r2, b2⟩
    have Q : Hid (Ow 40 w2 (fun b => w.heap.size ≤ b ∧ ¬ p b) r M.length (CU M) ∧ BV lo w2 p g n true M L ∧ Nx p p w w2) := ⟨(Ow.of_own r2).imp fun b _ hb => ⟨hb, fun hp => by have := (HH.out.low b hp).2; omega⟩, HH.out.below b2, Nx.of_below b2⟩
    obtain ⟨Ar, cr, rfl⟩ := slice_form r2
    clear r2 b2
    go_wp2_with fail
    go_ret2
    exact ⟨_, p, rfl, Q.out.1, Q.out.2.1, Q.out.2.2⟩
  | false =>
    by_cases hid : id ∈ L
    · have HI : Hid (readL false L id = L) := by unfold Hid readL; rw [if_neg (by simp), if_pos hid]
      rw [decide_eq_true hid] at CN
      clear hid
      have CS := Lib.hid (shown_any lo p g n false M L w HH.out)
      go_enter Try.func13, Try.ntmps13
      go_wp2_with (go_at_call 25; refine CN.out.mono ?_; rintro _ w1 ⟨rfl, hw⟩; have hw := hw.symm; subst hw)
      refine CS.out.mono ?_
      rintro e w2 ⟨r, rfl, r2, b2⟩
      have Q : Hid (Ow 40 w2 (fun b => w.heap.size ≤ b ∧ ¬ p b) r M.length (CU M) ∧ BV lo w2 p g n false M L ∧ Nx p p w w2) := ⟨(Ow.of_own r2).imp fun b _ hb => ⟨hb, fun hp => by have := (HH.out.low b hp).2; omega⟩, HH.out.below b2, Nx.of_below b2⟩
      obtain ⟨Ar, cr, rfl⟩ := slice_form r2
      clear r2 b2
      go_wp2_with fail
      go_ret2
      rw [HI.out]
      exact ⟨_, p, rfl, Q.out.1, Q.out.2.1, Q.out.2.2⟩
    · have HI : Hid (readL false L id = L ++ [id]) := by unfold Hid readL; rw [if_neg (by simp), if_neg hid]
      rw [decide_eq_false hid] at CN
      clear hid
      have HO1 : Hid ((w.alloc (.cells #[.int .i64 id] 3)).ownsRow 0 3 1 (.slice Aw nl cw) nl (C L)) := by
        have := own_below HC.out.own ((Below.refl _ _).alloc (Nat.le_refl _) (.cells #[.int .i64 id] 3))
        rw [HNL.out] at this
        exact this
      have RD := Lib.hid (one_row (w := w) (.int .i64 id) 3)
      go_enter Try.func13, Try.ntmps13
      go_wp2_with (first | (go_at_call 25; refine CN.out.mono ?_; rintro _ w1 ⟨rfl, hw⟩; have hw := hw.symm; subst hw) | (at_builtin; refine wpList_append_any _ rfl _ _ 29 rfl 0 3 i0 (.int .i64 0) 1 8 Try.underlying29 hi hz0 hz1 hz2 rfl (by decide) _ _ _ rfl HO1.out (w.heap.size + 1) (some ⟨w.heap.size, 0, none⟩) 1 1 [.int .i64 id] rfl RD.out ?c2 ?c3 ?c4 ?c5 ?_))
      case c2 => intro u hu; simp at hu; subst hu; rfl
      case c3 => have := HL.out; have := HNL.out; unfold maxLen; omega
      case c4 => have := HL.out; have := HNL.out; omega
      case c5 => omega
      intro v2 w2 hown hgrow hblk
      obtain ⟨A2, c2, rfl⟩ := slice_form hown
      have a0 := HA.out
      have C0 := HC.out
      rw [HNL.out] at a0 C0
      have G := C0.grow1 hown hgrow hblk
      have hbk : ∀ k, k < w.heap.size → (Value.slice Aw nl cw).ownBlock ≠ some k → w2.heap[k]? = w.heap[k]? := fun k hk hne => by
        rw [hgrow.block k (by simp; omega) (fun e => hne e.symm)]
        exact ((Below.refl w.heap.size w).alloc (Nat.le_refl _) _).block k hk
      have a2 : w2.heap[g]? = some (.cells #[.int .i64 n, .bool false, .slice Am M.length cm, .slice Aw nl cw] 68 (0, 0)) := (hbk g HH.out.lt (fun e => ((C0.not a0 ne_ib).at_ g e).1.2 rfl)).trans a0
      have e1 : w2.cell? ⟨g, 1, none⟩ = some (.bool false) := by rw [(row_cell a2 1).1]; rfl
      have e3 : w2.cell? ⟨g, 3, none⟩ = some (.slice Aw nl cw) := by rw [(row_cell a2 3).1]; rfl
      have f3 : w2.frozen? ⟨g, 3, none⟩ = false := (row_cell a2 3).2
      have Q : Hid (BV lo (w2.setCell ⟨g, 3, none⟩ (.slice A2 (nl + 1) c2)) (fun b => p b ∨ (w.heap.size ≤ b ∧ b < w2.heap.size)) g n false M (L ++ [id]) ∧ Nx p (fun b => p b ∨ (w.heap.size ≤ b ∧ b < w2.heap.size)) w (w2.setCell ⟨g, 3, none⟩ (.slice A2 (nl + 1) c2))) := by
        rw [← HNL.out] at a2 ⊢
        refine HH.out.wait HB.out a2 (fun k hk => hbk k (HB.out.at_ k hk).2 (by rw [← HNL.out]; exact HB.out.apart HC.out ne_ui k hk)) ?_ rfl G.2 (fun k hk => hk) (fun k hk => .inl hk)
        have G1 := G.1
        rw [← HNL.out] at G1
        rw [C_app, List.length_append]
        exact G1
      have hsz : w.heap.size ≤ w2.heap.size := G.2.size
      have HS := Lib.hid hsz
      clear hown hgrow hblk hbk a0 C0 G a2 hsz
      go_wp2_with fail
      refine (shown_any lo _ g n false M _ _ Q.out.1).mono ?_
      rintro e w3 ⟨r, rfl, r3, b3⟩
      have Q3 : Hid (Ow 40 w3 (fun b => w.heap.size ≤ b ∧ ¬ (p b ∨ (w.heap.size ≤ b ∧ b < w2.heap.size))) r M.length (CU M) ∧ BV lo w3 (fun b => p b ∨ (w.heap.size ≤ b ∧ b < w2.heap.size)) g n false M (L ++ [id]) ∧ Nx p (fun b => p b ∨ (w.heap.size ≤ b ∧ b < w2.heap.size)) w w3) := by
        have hs := HS.out
        refine ⟨(Ow.of_own r3).imp fun b _ hb => ?_, Q.out.1.below b3, Q.out.2.trans (Nx.of_below b3)⟩
        have hb : w2.heap.size ≤ b := by simpa using hb
        refine ⟨by omega, fun hp => ?_⟩
        rcases hp with hp | hp
        · have := (HH.out.low b hp).2; omega
        · omega
      obtain ⟨Ar, cr, rfl⟩ := slice_form r3
      clear r3 b3 Q
      go_wp2_with fail
      go_ret2
      rw [HI.out]
      exact ⟨_, _, rfl, Q3.out.1, Q3.out.2.1, Q3.out.2.2⟩
end Go.Proofs.Ytfmcmhgpgkeplaa.B
