/-
  The document's own space: New. Each statement bears its own conditions.
-/
import Derived.Test.YtliggejkpmlgfaaSpT
namespace Go.Proofs.Ytliggejkpmlgfaa
open Go.RowKit
set_option linter.unusedVariables false
set_option linter.unusedSimpArgs false
def LL0 (l : List MA) : List (List Int) := l.map fun x => List.replicate x.wds.toNat 0
theorem LL0_flat : ∀ {l : List MA}, GA l → (LL0 l).flatten = zeros l
  | [], _ => rfl
  | x :: r, h => by
    have h1 := h x (by simp)
    have h2 := sumW_nonneg (l := r) (fun y hy => h y (by simp [hy]))
    have ih := LL0_flat (l := r) (fun y hy => h y (by simp [hy]))
    unfold LL0 zeros at *
    rw [List.map_cons, List.flatten_cons, ih, sumW]
    rw [show (x.wds + sumW r).toNat = x.wds.toNat + (sumW r).toNat by omega, ← List.replicate_append_replicate]
theorem LL0_sh {l : List MA} (h : newErr l = 0) : Sh l (LL0 l) := by
  unfold newErr at h
  split at h
  · cases h
  next h1 =>
    split at h
    · cases h
    next h2 =>
      split at h
      · cases h
      next h3 =>
        have hg := ga_of (l := l) (by simpa using h2)
        refine ⟨by simp [LL0], fun i x L hx hL => ?_, hg, by omega, by omega, fun L hL x hx => ?_⟩
        · unfold LL0 at hL
          rw [List.getElem?_map, hx] at hL
          simp at hL
          subst hL
          have := hg x (List.mem_of_getElem? hx)
          rw [List.length_replicate]; omega
        · unfold LL0 at hL
          obtain ⟨y, _, rfl⟩ := List.mem_map.1 hL
          rw [(List.mem_replicate.1 hx).2]; unfold U32; omega
/-- Rows that are being made: areas, lists, and each list's own row. -/
structure NI (base : Nat) (w : World) (va : Value) (i : Nat) (vl : Value) (k : Nat) (vs : List Value) (l : List MA) : Prop where
  oa : w.ownsRow base 57 5 va i (CA (l.take i))
  ol : w.ownsRow base 40 1 vl k vs
  each : ∀ (j : Nat) u, vs[j]? = some u → ∃ (x : MA) (blk : Nat), l[j]? = some x ∧ u = .slice (some ⟨blk, 0, none⟩) x.wds.toNat x.wds.toNat ∧ w.ownsRow base 39 1 u x.wds.toNat (CU (List.replicate x.wds.toNat 0)) ∧ va.ownBlock ≠ some blk ∧ vl.ownBlock ≠ some blk
  ne : ∀ q, va.ownBlock = some q → vl.ownBlock ≠ some q
theorem NI.same {base i k : Nat} {w w' : World} {va vl : Value} {vs : List Value} {l : List MA} (h : NI base w va i vl k vs l) (hs : ∀ q, base ≤ q → q < w.heap.size → w'.heap[q]? = w.heap[q]?) : NI base w' va i vl k vs l := by
  refine ⟨own_same h.oa fun q hq => hs q (h.oa.lt q hq).1 (h.oa.lt q hq).2, own_same h.ol fun q hq => hs q (h.ol.lt q hq).1 (h.ol.lt q hq).2, fun j u hu => ?_, h.ne⟩
  obtain ⟨x, blk, h1, h2, h3, h4, h5⟩ := h.each j u hu
  exact ⟨x, blk, h1, h2, own_same h3 fun q hq => hs q (h3.lt q hq).1 (h3.lt q hq).2, h4, h5⟩
theorem NI.below {base i k : Nat} {w w' : World} {va vl : Value} {vs : List Value} {l : List MA} (h : NI base w va i vl k vs l) (hb : Below w.heap.size w w') : NI base w' va i vl k vs l := h.same fun q _ hq => hb.block q hq
theorem NI.growA {base i k : Nat} {w w' : World} {va va' vl : Value} {vs : List Value} {l : List MA} (h : NI base w va i vl k vs l) (ho : w'.ownsRow base 57 5 va' (i + 1) (CA (l.take (i + 1)))) (hg : w.grownBy w' va.ownBlock) (hb : va'.ownBlock = va.ownBlock ∨ va'.ownBlock = some w.heap.size) : NI base w' va' (i + 1) vl k vs l := by
  refine ⟨ho, own_same h.ol fun q hq => hg.block q (h.ol.lt q hq).2 (fun e => h.ne q e.symm hq), fun j u hu => ?_, fun q hq hq' => ?_⟩
  · obtain ⟨x, blk, h1, h2, h3, h4, h5⟩ := h.each j u hu
    have hlt := (h3.lt blk (by rw [h2]; rfl)).2
    refine ⟨x, blk, h1, h2, own_same h3 fun q hq => hg.block q (h3.lt q hq).2 (fun e => ?_), ?_, h5⟩
    · have : some blk = some q := by rw [← hq, h2]; rfl
      rw [← this] at e
      exact h4 e.symm
    · rcases hb with e | e
      · rw [e]; exact h4
      · rw [e]; intro e2; injection e2 with e2; omega
  · rcases hb with e | e
    · rw [e] at hq; exact h.ne q hq hq'
    · rw [e] at hq; injection hq with hq; have := (h.ol.lt q hq').2; omega
theorem NI.growL {base i k : Nat} {w w' : World} {va vl vl' : Value} {vs : List Value} {l : List MA} {x : MA} {blk : Nat} (h : NI base w va i vl k vs l) (hk : vs.length = k) (hx : l[k]? = some x) (hu : w.ownsRow base 39 1 (.slice (some ⟨blk, 0, none⟩) x.wds.toNat x.wds.toNat) x.wds.toNat (CU (List.replicate x.wds.toNat 0)))
    (h1 : va.ownBlock ≠ some blk) (h2 : vl.ownBlock ≠ some blk) (ho : w'.ownsRow base 40 1 vl' (k + 1) (vs ++ [.slice (some ⟨blk, 0, none⟩) x.wds.toNat x.wds.toNat])) (hg : w.grownBy w' vl.ownBlock) (hb : vl'.ownBlock = vl.ownBlock ∨ vl'.ownBlock = some w.heap.size) : NI base w' va i vl' (k + 1) (vs ++ [.slice (some ⟨blk, 0, none⟩) x.wds.toNat x.wds.toNat]) l := by
  have keep : ∀ (b : Nat), b < w.heap.size → vl.ownBlock ≠ some b → vl'.ownBlock ≠ some b := fun b hb1 hb2 => by
    rcases hb with e | e
    · rw [e]; exact hb2
    · rw [e]; intro e2; injection e2 with e2; omega
  refine ⟨own_same h.oa fun q hq => hg.block q (h.oa.lt q hq).2 (fun e => h.ne q hq e.symm), ho, fun j u hu' => ?_, fun q hq => keep q (h.oa.lt q hq).2 (h.ne q hq)⟩
  by_cases hj : j < k
  · rw [List.getElem?_append_left (by omega)] at hu'
    obtain ⟨y, b2, g1, g2, g3, g4, g5⟩ := h.each j u hu'
    have hlt := (g3.lt b2 (by rw [g2]; rfl)).2
    refine ⟨y, b2, g1, g2, own_same g3 fun q hq => hg.block q (g3.lt q hq).2 (fun e => ?_), g4, keep b2 hlt g5⟩
    have : some b2 = some q := by rw [← hq, g2]; rfl
    rw [← this] at e
    exact g5 e.symm
  · rw [List.getElem?_append_right (by omega)] at hu'
    have hj0 : j - vs.length = 0 := by
      rcases Nat.eq_zero_or_pos (j - vs.length) with h0 | h0
      · exact h0
      · rw [List.getElem?_eq_none (by simp; omega)] at hu'; cases hu'
    rw [hj0] at hu'
    simp at hu'
    subst hu'
    have : j = k := by omega
    subst this
    have hlt := (hu.lt blk rfl).2
    refine ⟨x, blk, hx, rfl, own_same hu fun q hq => hg.block q (hu.lt q hq).2 (fun e => ?_), h1, keep blk hlt h2⟩
    have hq' : some blk = some q := hq
    rw [← hq'] at e
    exact h2 e.symm
theorem reads_lit (k : Nat) (cs : List Value) (e : TypeId) (w : World) (h : cs.length = 1 * k) : Reads (w.alloc (.cells cs.toArray e)) (w.heap.size + 1) k (some ⟨w.heap.size, 0, none⟩) 1 cs :=
  ⟨h, fun _ => ⟨_, rfl, by simp, fun j u hu => by rw [Addr.add_lit, Nat.zero_add, World.cell?_alloc_new]; simpa using hu⟩⟩
def RNewPost (l : List MA) (w : World) (e : Ending) (w' : World) : Prop :=
  (newErr l ≠ 0 → e = .returned (.tuple #[.agg #[.slice none 0 0, .slice none 0 0], .int .i64 (newErr l)])) ∧ (newErr l = 0 → ∃ va vl, e = .returned (.tuple #[.agg #[va, vl], .int .i64 0]) ∧ ∀ g, g < w.heap.size → RS g w' va vl l (LL0 l)) ∧ Below w.heap.size w w'
theorem RNewPost.err {l : List MA} {w w' : World} {z : Int} (h : newErr l = z) (hz : z ≠ 0) (hb : Below w.heap.size w w') : RNewPost l w (.returned (.tuple #[.agg #[.slice none 0 0, .slice none 0 0], .int .i64 z])) w' :=
  ⟨fun _ => by rw [h], fun h0 => absurd (h.symm.trans h0) hz, hb⟩
theorem RNewPost.ok {l : List MA} {w w' : World} {va vl : Value} (h : newErr l = 0) (hs : ∀ g, g < w.heap.size → RS g w' va vl l (LL0 l)) (hb : Below w.heap.size w w') : RNewPost l w (.returned (.tuple #[.agg #[va, vl], .int .i64 0])) w' :=
  ⟨fun h0 => absurd h h0, fun _ => ⟨va, vl, rfl, hs⟩, hb⟩
structure N1Rel (n : Nat) (l : List MA) (w : World) (v4 v : Value) (wr : World) : Prop where
  ex : ∃ k : Nat, k ≤ n ∧ v = .int .i64 (k : Int) ∧ v4 = .int .i64 (sumW (l.take k)) ∧ l.all fitsB = (l.drop k).all fitsB ∧ (l.take k).all fitsB = true ∧ Below w.heap.size w wr ∧ wr.heap[w.heap.size]? = some (.cells #[.slice none 0 0, .slice none 0 0] 31 (0, 0))
structure N2Rel (n b1 : Nat) (l : List MA) (w : World) (v : Value) (wr : World) : Prop where
  ex : ∃ (i : Nat) (Aa : Option Addr) (ca : Nat) (Al : Option Addr) (cl : Nat) (vs : List Value), i ≤ n ∧ v = .int .i64 (i : Int) ∧ ovL [] l = ovL (l.take i) (l.drop i) ∧ Below w.heap.size w wr ∧ wr.heap[w.heap.size]? = some (.cells #[.slice none 0 0, .slice none 0 0] 31 (0, 0)) ∧
    wr.heap[b1]? = some (.cells #[.slice Aa i ca, .slice Al i cl] 31 (0, 0)) ∧ NI (b1 + 1) wr (.slice Aa i ca) i (.slice Al i cl) i vs l
structure N3Rel (i : Nat) (l : List MA) (x : MA) (wo : World) (v : Value) (wr : World) : Prop where
  ex : ∃ j : Nat, j ≤ i ∧ v = .int .i64 (j : Int) ∧ (∀ q y, q < j → l[q]? = some y → ovB x y = false) ∧ Below wo.heap.size wo wr
set_option maxRecDepth 100000 in
set_option maxHeartbeats 16000000 in
theorem rnew_any (g : Nat) (A : Option Addr) (n c : Nat) (l : List MA) (w : World) (h : St g w 5 (.slice A n c) n (CA l)) (hn : l.length = n) (hi : ∀ x ∈ l, I64 x.frm ∧ I64 x.wds) (hm : n ≤ 64) :
    Calls Try.prog 11 #[.slice A n c] w (RNewPost l w) := by
  obtain ⟨i0, hinf, hz0, hz1, hz2⟩ := info_of area_info
  obtain ⟨i1, hinf1, hy0, hy1, hy2⟩ := info_of row_info
  have HN := Lib.hid hn
  have H := Lib.hid h
  have HI := Lib.hid hi
  obtain ⟨z, hz⟩ : ∃ z, newErr l = z := ⟨_, rfl⟩
  have HZ := Lib.hid hz
  unfold newErr at hz
  rw [hn] at hz
  clear h hn hi
  by_cases h16 : 16 < n
  · rw [if_pos h16] at hz
    subst hz
    have h16' : (16 : Int) < (n : Int) := by omega
    go_enter Try.func11, Try.ntmps11
    go_wp2_with fail
    refine bodyPost_ret (results_cell_tmp rfl _ _ w.heap.size [.slice none 0 0, .slice none 0 0] _ rfl (fun j v hv => ?_) Try.underlying31 rfl (by kernel_rfl)) rfl ?_
    · rw [Nat.zero_add, World.cell?_alloc_new]; simpa using hv
    · exact RNewPost.err HZ.out (by decide) ((Below.refl _ _).alloc (Nat.le_refl _) _)
  rw [if_neg h16] at hz
  have h16' : ¬ (16 : Int) < (n : Int) := by omega
  have HM : Hid (n ≤ 16) := by unfold Hid; omega
  have HE := Lib.hid hz
  clear hz h16
  go_enter Try.func11, Try.ntmps11
  go_wp2_with fail
  go_loopw [4, 5] (fun v4 v wr => N1Rel n l w v4 v wr) (fun _ v => fun _ => n - (intOf v).toNat)
  case atStart => exact ⟨⟨0, Nat.zero_le _, rfl, rfl, by simp, by simp, (Below.refl _ _).alloc (Nat.le_refl _) _, heap_alloc_new _ _⟩⟩
  case round =>
    obtain ⟨⟨k, hk, rfl, rfl, hall, hpre, hb, hh⟩⟩ := hrel
    have HK := Lib.hid hk
    have HA := Lib.hid hall
    have HP := Lib.hid hpre
    have HB := Lib.hid hb
    have HH := Lib.hid hh
    clear hk hall hpre hb hh
    by_cases hlt : k < n
    · have hkI : (k : Int) < (n : Int) := by omega
      have HX : Hid (k < n) := hlt
      obtain ⟨_, b, off, rfl, hbl, hg, hc⟩ := H.out.at_ hlt
      have hxs : l[k]? = some (l[k]'(by have := HN.out; omega)) := List.getElem?_eq_getElem _
      obtain ⟨x, hx⟩ : ∃ x, l[k]'(by have := HN.out; omega) = x := ⟨_, rfl⟩
      rw [hx] at hxs
      have hix := HI.out x (List.mem_of_getElem? hxs)
      have hca := CA_at hxs
      obtain ⟨xf, xw, xx, xr, xk⟩ := x
      have HS : Hid (0 ≤ sumW (l.take k) ∧ sumW (l.take k) ≤ 1048576) := by
        have h1 := ga_of HP.out
        have h2 := sumW_le h1
        have h3 := sumW_nonneg h1
        have h4 := HM.out
        rw [List.length_take] at h2
        exact ⟨h3, by omega⟩
      have HSN := Lib.hid (sumW_snoc hxs)
      have HAD := Lib.hid (all_drop hxs HA.out)
      have HTS := Lib.hid (take_snoc hxs)
      dsimp only at HSN hix
      have HIX : Hid (I64 xf ∧ I64 xw) := hix
      have d0 : wr.cell? ⟨b, off + k * 5, none⟩ = some (.int .i64 xf) := by have := hc _ _ (hca 0 _ rfl); exact (HB.out.cell (p := ⟨b, off + k * 5, none⟩) hbl).trans (by simpa [Nat.add_assoc] using this)
      have d1 : wr.cell? ⟨b, off + k * 5 + 1, none⟩ = some (.int .i64 xw) := by have := hc _ _ (hca 1 _ rfl); exact (HB.out.cell (p := ⟨b, off + k * 5 + 1, none⟩) hbl).trans (by simpa [Nat.add_assoc] using this)
      have d2 : wr.cell? ⟨b, off + k * 5 + 2, none⟩ = some (.bool xx) := by have := hc _ _ (hca 2 _ rfl); exact (HB.out.cell (p := ⟨b, off + k * 5 + 2, none⟩) hbl).trans (by simpa [Nat.add_assoc] using this)
      have d3 : wr.cell? ⟨b, off + k * 5 + 3, none⟩ = some (.bool xr) := by have := hc _ _ (hca 3 _ rfl); exact (HB.out.cell (p := ⟨b, off + k * 5 + 3, none⟩) hbl).trans (by simpa [Nat.add_assoc] using this)
      have d4 : wr.cell? ⟨b, off + k * 5 + 4, none⟩ = some (.bool xk) := by have := hc _ _ (hca 4 _ rfl); exact (HB.out.cell (p := ⟨b, off + k * 5 + 4, none⟩) hbl).trans (by simpa [Nat.add_assoc] using this)
      obtain ⟨s, hs⟩ : ∃ s, sumW (l.take k) = s := ⟨_, rfl⟩
      rw [hs] at HS HSN
      simp only [hs]
      have HB1 : Hid (Below w.heap.size w (wr.alloc (.cells #[.int .i64 xf, .int .i64 xw, .bool xx, .bool xr, .bool xk] 57))) := HB.out.alloc HB.out.size _
      have HH1 : Hid ((wr.alloc (.cells #[.int .i64 xf, .int .i64 xw, .bool xx, .bool xr, .bool xk] 57)).heap[w.heap.size]? = some (.cells #[.slice none 0 0, .slice none 0 0] 31 (0, 0))) := heap_keep ((Below.refl _ _).alloc (Nat.le_refl _) _) HH.out
      clear hc hca hx hlt hbl hg hxs hs hix
      have HBAD : Hid (fitsB ⟨xf, xw, xx, xr, xk⟩ = false → newErr l = 2) := fun hf => by
        rw [HZ.out, ← HE.out, if_pos (by rw [HAD.out, hf]; rfl)]
      by_cases h0 : xf < 0
      · have HF : Hid (newErr l = 2) := HBAD.out (by cases hf : fitsB ⟨xf, xw, xx, xr, xk⟩ with
          | false => rfl
          | true => have := fits_iff.1 hf; dsimp only at this; omega)
        have t0 := (row_cell HH1.out 0).1
        have t1 := (row_cell HH1.out 1).1
        have f0 := (row_cell HH1.out 0).2
        have f1 := (row_cell HH1.out 1).2
        simp at t0 t1
        go_wp2_with fail
        (try unfold Exit.noGoto)
        (try simp only [Exit.inBlock, Exit.then])
        refine bodyPost_ret (results_cell_tmp rfl _ _ w.heap.size _ _ rfl (set_two HH1.out _ _) Try.underlying31 rfl (by kernel_rfl)) rfl ?_
        exact RNewPost.err HF.out (by decide) ((HB1.out.setCell (p := ⟨w.heap.size, 0, none⟩) (Nat.le_refl _) _).setCell (p := ⟨w.heap.size, 1, none⟩) (Nat.le_refl _) _)
      by_cases h1 : xw < 1
      · have HF : Hid (newErr l = 2) := HBAD.out (by cases hf : fitsB ⟨xf, xw, xx, xr, xk⟩ with
          | false => rfl
          | true => have := fits_iff.1 hf; dsimp only at this; omega)
        have t0 := (row_cell HH1.out 0).1
        have t1 := (row_cell HH1.out 1).1
        have f0 := (row_cell HH1.out 0).2
        have f1 := (row_cell HH1.out 1).2
        simp at t0 t1
        go_wp2_with fail
        (try unfold Exit.noGoto)
        (try simp only [Exit.inBlock, Exit.then])
        refine bodyPost_ret (results_cell_tmp rfl _ _ w.heap.size _ _ rfl (set_two HH1.out _ _) Try.underlying31 rfl (by kernel_rfl)) rfl ?_
        exact RNewPost.err HF.out (by decide) ((HB1.out.setCell (p := ⟨w.heap.size, 0, none⟩) (Nat.le_refl _) _).setCell (p := ⟨w.heap.size, 1, none⟩) (Nat.le_refl _) _)
      by_cases h2 : 65536 < xf
      · have HF : Hid (newErr l = 2) := HBAD.out (by cases hf : fitsB ⟨xf, xw, xx, xr, xk⟩ with
          | false => rfl
          | true => have := fits_iff.1 hf; dsimp only at this; omega)
        have t0 := (row_cell HH1.out 0).1
        have t1 := (row_cell HH1.out 1).1
        have f0 := (row_cell HH1.out 0).2
        have f1 := (row_cell HH1.out 1).2
        simp at t0 t1
        go_wp2_with fail
        (try unfold Exit.noGoto)
        (try simp only [Exit.inBlock, Exit.then])
        refine bodyPost_ret (results_cell_tmp rfl _ _ w.heap.size _ _ rfl (set_two HH1.out _ _) Try.underlying31 rfl (by kernel_rfl)) rfl ?_
        exact RNewPost.err HF.out (by decide) ((HB1.out.setCell (p := ⟨w.heap.size, 0, none⟩) (Nat.le_refl _) _).setCell (p := ⟨w.heap.size, 1, none⟩) (Nat.le_refl _) _)
      by_cases h3 : 65536 < xw
      · have HF : Hid (newErr l = 2) := HBAD.out (by cases hf : fitsB ⟨xf, xw, xx, xr, xk⟩ with
          | false => rfl
          | true => have := fits_iff.1 hf; dsimp only at this; omega)
        have t0 := (row_cell HH1.out 0).1
        have t1 := (row_cell HH1.out 1).1
        have f0 := (row_cell HH1.out 0).2
        have f1 := (row_cell HH1.out 1).2
        simp at t0 t1
        go_wp2_with fail
        (try unfold Exit.noGoto)
        (try simp only [Exit.inBlock, Exit.then])
        refine bodyPost_ret (results_cell_tmp rfl _ _ w.heap.size _ _ rfl (set_two HH1.out _ _) Try.underlying31 rfl (by kernel_rfl)) rfl ?_
        exact RNewPost.err HF.out (by decide) ((HB1.out.setCell (p := ⟨w.heap.size, 0, none⟩) (Nat.le_refl _) _).setCell (p := ⟨w.heap.size, 1, none⟩) (Nat.le_refl _) _)
      have hwr : IntKind.i64.wrap (xf + xw) = xf + xw := wrap_ok (by omega) (by omega)
      by_cases h4 : 65536 < xf + xw
      · have HF : Hid (newErr l = 2) := HBAD.out (by cases hf : fitsB ⟨xf, xw, xx, xr, xk⟩ with
          | false => rfl
          | true => have := fits_iff.1 hf; dsimp only at this; omega)
        have t0 := (row_cell HH1.out 0).1
        have t1 := (row_cell HH1.out 1).1
        have f0 := (row_cell HH1.out 0).2
        have f1 := (row_cell HH1.out 1).2
        simp at t0 t1
        go_wp2_with fail
        (try unfold Exit.noGoto)
        (try simp only [Exit.inBlock, Exit.then])
        refine bodyPost_ret (results_cell_tmp rfl _ _ w.heap.size _ _ rfl (set_two HH1.out _ _) Try.underlying31 rfl (by kernel_rfl)) rfl ?_
        exact RNewPost.err HF.out (by decide) ((HB1.out.setCell (p := ⟨w.heap.size, 0, none⟩) (Nat.le_refl _) _).setCell (p := ⟨w.heap.size, 1, none⟩) (Nat.le_refl _) _)
      have HFT : Hid (fitsB ⟨xf, xw, xx, xr, xk⟩ = true) := fits_iff.2 ⟨by dsimp only; omega, by dsimp only; omega, by dsimp only; omega⟩
      have hw1 : IntKind.i64.wrap (s + xw) = s + xw := wrap_ok (by have := HS.out; omega) (by have := HS.out; omega)
      go_wp2_with fail
      go_roundw
      case rel =>
        have Q : N1Rel n l w (.int .i64 (s + xw)) (.int .i64 ((k : Int) + 1)) (wr.alloc (.cells #[.int .i64 xf, .int .i64 xw, .bool xx, .bool xr, .bool xk] 57)) := ⟨⟨k + 1, HX.out, by go_num, by rw [HSN.out], by rw [HAD.out, HFT.out]; simp, by rw [HTS.out, List.all_append, HP.out]; simp [HFT.out], HB1.out, HH1.out⟩⟩
        first | exact Q | ((repeat apply Exists.intro); exact ⟨Q, rfl⟩)
      case measure => have := HX.out; simp [intOf]; omega
    · have hkn : k = n := by have := HK.out; omega
      have HAL : Hid (l.all fitsB = true) := by
        unfold Hid
        rw [HA.out, List.drop_of_length_le (by have := HN.out; omega)]; rfl
      have HTK : l.take k = l := List.take_of_length_le (by have := HN.out; omega)
      rw [HTK]
      have HS : Hid (0 ≤ sumW l ∧ sumW l ≤ 1048576) := by
        have h1 := ga_of HAL.out
        have h2 := sumW_le h1
        have h3 := sumW_nonneg h1
        have h4 := HM.out
        have h5 := HN.out
        exact ⟨h3, by omega⟩
      have HE1 : Hid ((if 4096 < sumW l then (8 : Int) else if ovL [] l = true then 22 else 0) = z) := by
        unfold Hid; rw [← HE.out]; rw [if_neg (show ¬ l.all fitsB = false by rw [HAL.out]; simp)]
      have HGA : Hid (GA l) := ga_of HAL.out
      obtain ⟨s, hs⟩ : ∃ s, sumW l = s := ⟨_, rfl⟩
      rw [hs] at HS HE1
      simp only [hs]
      clear hlt HTK hs
      subst hkn
      by_cases hbig : 4096 < s
      · have HF : Hid (newErr l = 8) := by
          unfold Hid; rw [HZ.out, ← HE1.out, if_pos hbig]
        have t0 := (row_cell HH.out 0).1
        have t1 := (row_cell HH.out 1).1
        have f0 := (row_cell HH.out 0).2
        have f1 := (row_cell HH.out 1).2
        simp at t0 t1
        go_wp2_with fail
        (try unfold Exit.noGoto)
        (try simp only [Exit.inBlock, Exit.then])
        refine bodyPost_ret (results_cell_tmp rfl _ _ w.heap.size _ _ rfl (set_two HH.out _ _) Try.underlying31 rfl (by kernel_rfl)) rfl ?_
        exact RNewPost.err HF.out (by decide) ((HB.out.setCell (p := ⟨w.heap.size, 0, none⟩) (Nat.le_refl _) _).setCell (p := ⟨w.heap.size, 1, none⟩) (Nat.le_refl _) _)
      have HE2 : Hid ((if ovL [] l = true then (22 : Int) else 0) = z) := by
        unfold Hid; rw [← HE1.out, if_neg hbig]
      obtain ⟨b1, hb1⟩ : ∃ b1, wr.heap.size = b1 := ⟨_, rfl⟩
      have HB1 : Hid (w.heap.size < b1) := by rw [← hb1]; exact (Array.getElem?_eq_some_iff.1 HH.out).1
      go_wp2_with fail
      have HNI : Hid (NI (b1 + 1) (wr.alloc (.cells #[.slice none 0 0, .slice none 0 0] 31)) (.slice none 0 0) 0 (.slice none 0 0) 0 [] l) :=
        ⟨World.ownsRow_nil _ _ _ _, World.ownsRow_nil _ _ _ _, fun j u hu => by simp at hu, fun q hq => by cases hq⟩
      have HBA : Hid (Below w.heap.size w (wr.alloc (.cells #[.slice none 0 0, .slice none 0 0] 31))) := HB.out.alloc HB.out.size _
      have HHA : Hid ((wr.alloc (.cells #[.slice none 0 0, .slice none 0 0] 31)).heap[w.heap.size]? = some (.cells #[.slice none 0 0, .slice none 0 0] 31 (0, 0))) := heap_keep ((Below.refl _ _).alloc (Nat.le_refl _) _) HH.out
      have HHB : Hid ((wr.alloc (.cells #[.slice none 0 0, .slice none 0 0] 31)).heap[b1]? = some (.cells #[.slice none 0 0, .slice none 0 0] 31 (0, 0))) := by rw [← hb1]; exact heap_alloc_new _ _
      try rw [hb1]
      generalize wr.alloc (.cells #[.slice none 0 0, .slice none 0 0] 31) = w1 at HNI HBA HHA HHB ⊢
      clear hb1 HB HH HA HP HE HE1 HK hbig
      clear wr
      go_loopw [8] (fun v wr => N2Rel k b1 l w v wr) (fun v => fun _ => k - (intOf v).toNat)
      case atStart => exact ⟨⟨0, none, 0, none, 0, [], Nat.zero_le _, rfl, by simp, HBA.out, HHA.out, HHB.out, HNI.out⟩⟩
      case round =>
        clear HNI HBA HHA HHB
        obtain ⟨⟨i, Aa, ca, Al, cl, vs, hi, rfl, hov, hb, hh, hh1, hni⟩⟩ := hrel
        have HIK := Lib.hid hi
        have HOV := Lib.hid hov
        have HB := Lib.hid hb
        have HH := Lib.hid hh
        have HH1 := Lib.hid hh1
        have HNI := Lib.hid hni
        clear hi hov hb hh hh1 hni
        by_cases hlt : i < k
        · have hkI : (i : Int) < (k : Int) := by omega
          have HX : Hid (i < k) := hlt
          obtain ⟨_, b, off, rfl, hbl, hg, hc⟩ := H.out.at_ hlt
          have hxs : l[i]? = some (l[i]'(by have := HN.out; omega)) := List.getElem?_eq_getElem _
          obtain ⟨x, hx⟩ : ∃ x, l[i]'(by have := HN.out; omega) = x := ⟨_, rfl⟩
          rw [hx] at hxs
          have HXS := Lib.hid hxs
          have HGX := Lib.hid (HGA.out x (List.mem_of_getElem? hxs))
          have hca := CA_at hxs
          have HBL : Hid (b < w.heap.size) := hbl
          have HC := Lib.hid hc
          obtain ⟨xf, xw, xx, xr, xk⟩ := x
          dsimp only at HGX
          obtain ⟨xn, rfl⟩ : ∃ xn : Nat, xw = (xn : Int) := ⟨xw.toNat, by have := HGX.out; omega⟩
          have HCA := Lib.hid hca
          have hwx : IntKind.i64.wrap (xf + (xn : Int)) = xf + (xn : Int) := wrap_ok (by have := HGX.out; omega) (by have := HGX.out; omega)
          clear hx hlt hbl hg hxs hca hc
          go_wp2_with fail
          obtain ⟨wo, hwo⟩ : ∃ wo, wo = wr := ⟨_, rfl⟩
          subst hwo
          go_loopw [9] (fun v wr => N3Rel i l ⟨xf, (xn : Int), xx, xr, xk⟩ wo v wr) (fun v => fun _ => i - (intOf v).toNat)
          case atStart => exact ⟨⟨0, Nat.zero_le _, rfl, fun q y hq => by omega, Below.refl _ _⟩⟩
          case round =>
            obtain ⟨⟨j, hj, rfl, hno, hbo⟩⟩ := hrel
            have HJ := Lib.hid hj
            have HNO := Lib.hid hno
            have HBO := Lib.hid hbo
            clear hj hno hbo
            have HBW : Hid (Below w.heap.size w wr) := HB.out.trans (HBO.out.mono HB.out.size)
            have d0 : wr.cell? ⟨b, off + i * 5, none⟩ = some (.int .i64 xf) := by have := HC.out _ _ (HCA.out 0 _ rfl); exact (HBW.out.cell (p := ⟨b, off + i * 5, none⟩) HBL.out).trans (by simpa [Nat.add_assoc] using this)
            have d1 : wr.cell? ⟨b, off + i * 5 + 1, none⟩ = some (.int .i64 (xn : Int)) := by have := HC.out _ _ (HCA.out 1 _ rfl); exact (HBW.out.cell (p := ⟨b, off + i * 5 + 1, none⟩) HBL.out).trans (by simpa [Nat.add_assoc] using this)
            by_cases hlt : j < i
            · have hjI : (j : Int) < (i : Int) := by omega
              have hjk : (j : Int) < (k : Int) := by have := HX.out; omega
              have HJX : Hid (j < i) := hlt
              have hys : l[j]? = some (l[j]'(by have := HN.out; have := HX.out; omega)) := List.getElem?_eq_getElem _
              obtain ⟨y, hy⟩ : ∃ y, l[j]'(by have := HN.out; have := HX.out; omega) = y := ⟨_, rfl⟩
              rw [hy] at hys
              have HYS := Lib.hid hys
              have HGY := Lib.hid (HGA.out y (List.mem_of_getElem? hys))
              have hcb := CA_at hys
              obtain ⟨yf, yw, yx, yr, yk⟩ := y
              dsimp only at HGY
              have e0 : wr.cell? ⟨b, off + j * 5, none⟩ = some (.int .i64 yf) := by have := HC.out _ _ (hcb 0 _ rfl); exact (HBW.out.cell (p := ⟨b, off + j * 5, none⟩) HBL.out).trans (by simpa [Nat.add_assoc] using this)
              have e1 : wr.cell? ⟨b, off + j * 5 + 1, none⟩ = some (.int .i64 yw) := by have := HC.out _ _ (hcb 1 _ rfl); exact (HBW.out.cell (p := ⟨b, off + j * 5 + 1, none⟩) HBL.out).trans (by simpa [Nat.add_assoc] using this)
              have hwy : IntKind.i64.wrap (yf + yw) = yf + yw := wrap_ok (by have := HGY.out; omega) (by have := HGY.out; omega)
              clear hlt hys hy hcb
              go_wp2_with fail
              by_cases o1 : xf < yf + yw
              · have o1b : decide (xf < yf + yw) = true := by simpa using o1
                refine wp_region_held_drew (S := (fun w' => Below wo.heap.size wo w' ∧ w'.cell? ⟨b, off + i * 5, none⟩ = some (.int .i64 xf) ∧ w'.cell? ⟨b, off + i * 5 + 1, none⟩ = some (.int .i64 (xn : Int)) ∧ w'.cell? ⟨b, off + j * 5, none⟩ = some (.int .i64 yf) ∧ w'.cell? ⟨b, off + j * 5 + 1, none⟩ = some (.int .i64 yw))) (by kernel_rfl) ?_ (fun hHeld => ?_)
                · exact ⟨below_drewN HBO.out 1, d0, d1, e0, e1⟩
                refine takeD (i := 0) (d := some 69) (v := ?_) _ rfl rfl (by kernel_rfl) (by kernel_rfl) (by kernel_rfl) (fun _ _ _ h => h) (by rfl) ?_ (by assumption) ?_
                rotate_left
                · (intro w hSw; (try dsimp only at hSw); go_simp) <;> with_reducible rfl
                try simp only [Act.put, List.setIfInBounds_toArray, List.set_cons_zero, List.set_cons_succ]
                refine takeD (i := 1) (d := some 70) (v := ?_) _ rfl rfl (by kernel_rfl) (by kernel_rfl) (by kernel_rfl) (fun _ _ _ h => h) (by rfl) ?_ (by assumption) ?_
                rotate_left
                · (intro w hSw; (try dsimp only at hSw); go_simp) <;> with_reducible rfl
                try simp only [Act.put, List.setIfInBounds_toArray, List.set_cons_zero, List.set_cons_succ]
                refine takeD (i := 2) (d := some 71) (v := ?_) _ rfl rfl (by kernel_rfl) (by kernel_rfl) (by kernel_rfl) (fun _ _ _ h => h) (by rfl) ?_ (by assumption) ?_
                rotate_left
                · (intro w hSw; (try dsimp only at hSw); go_simp) <;> with_reducible rfl
                try simp only [Act.put, List.setIfInBounds_toArray, List.set_cons_zero, List.set_cons_succ]
                refine takeD (i := 3) (d := some 72) (v := ?_) _ rfl rfl (by kernel_rfl) (by kernel_rfl) (by kernel_rfl) (fun _ _ _ h => h) (by rfl) ?_ (by assumption) ?_
                rotate_left
                · (intro w hSw; (try dsimp only at hSw); go_simp) <;> with_reducible rfl
                try simp only [Act.put, List.setIfInBounds_toArray, List.set_cons_zero, List.set_cons_succ]
                refine takeD (i := 4) (d := some 73) (v := ?_) _ rfl rfl (by kernel_rfl) (by kernel_rfl) (by kernel_rfl) (fun _ _ _ h => h) (by rfl) ?_ (by assumption) ?_
                rotate_left
                · (intro w hSw; (try dsimp only at hSw); go_simp) <;> with_reducible rfl
                try simp only [Act.put, List.setIfInBounds_toArray, List.set_cons_zero, List.set_cons_succ]
                refine takeD (i := 5) (d := some 74) (v := ?_) _ rfl rfl (by kernel_rfl) (by kernel_rfl) (by kernel_rfl) (fun _ _ _ h => h) (by rfl) ?_ (by assumption) ?_
                rotate_left
                · (intro w hSw; (try dsimp only at hSw); go_simp) <;> with_reducible rfl
                try simp only [Act.put, List.setIfInBounds_toArray, List.set_cons_zero, List.set_cons_succ]
                refine takeD (i := 6) (d := some 75) (v := ?_) _ rfl rfl (by kernel_rfl) (by kernel_rfl) (by kernel_rfl) (fun _ _ _ h => h) (by rfl) ?_ (by assumption) ?_
                rotate_left
                · (intro w hSw; (try dsimp only at hSw); go_simp) <;> with_reducible rfl
                try simp only [Act.put, List.setIfInBounds_toArray, List.set_cons_zero, List.set_cons_succ]
                refine takeD (i := 7) (d := some 76) (v := ?_) _ rfl rfl (by kernel_rfl) (by kernel_rfl) (by kernel_rfl) (fun _ _ _ h => h) (by rfl) ?_ (by assumption) ?_
                rotate_left
                · (intro w hSw; (try dsimp only at hSw); go_simp) <;> with_reducible rfl
                try simp only [Act.put, List.setIfInBounds_toArray, List.set_cons_zero, List.set_cons_succ]
                refine takeD (i := 8) (d := some 77) (v := ?_) _ rfl rfl (by kernel_rfl) (by kernel_rfl) (by kernel_rfl) (fun _ _ _ h => h) (by rfl) ?_ (by assumption) ?_
                rotate_left
                · (intro w hSw; (try dsimp only at hSw); go_simp) <;> with_reducible rfl
                try simp only [Act.put, List.setIfInBounds_toArray, List.set_cons_zero, List.set_cons_succ]
                refine takeD (i := 9) (d := some 78) (v := ?_) _ rfl rfl (by kernel_rfl) (by kernel_rfl) (by kernel_rfl) (fun _ _ _ h => h) (by rfl) ?_ (by assumption) ?_
                rotate_left
                · (intro w hSw; (try dsimp only at hSw); go_simp) <;> with_reducible rfl
                try simp only [Act.put, List.setIfInBounds_toArray, List.set_cons_zero, List.set_cons_succ]
                refine takeD (i := 10) (d := some 79) (v := ?_) _ rfl rfl (by kernel_rfl) (by kernel_rfl) (by kernel_rfl) (fun _ _ _ h => h) (by rfl) ?_ (by assumption) ?_
                rotate_left
                · (intro w hSw; (try dsimp only at hSw); go_simp) <;> with_reducible rfl
                try simp only [Act.put, List.setIfInBounds_toArray, List.set_cons_zero, List.set_cons_succ]
                refine takeD (i := 11) (d := some 80) (v := ?_) _ rfl rfl (by kernel_rfl) (by kernel_rfl) (by kernel_rfl) (fun _ _ _ h => h) (by rfl) ?_ (by assumption) ?_
                rotate_left
                · (intro w hSw; (try dsimp only at hSw); go_simp) <;> with_reducible rfl
                try simp only [Act.put, List.setIfInBounds_toArray, List.set_cons_zero, List.set_cons_succ]
                refine takeD (i := 12) (d := some 81) (v := ?_) _ rfl rfl (by kernel_rfl) (by kernel_rfl) (by kernel_rfl) (fun _ _ _ h => h) (by rfl) ?_ (by assumption) ?_
                rotate_left
                · (intro w hSw; (try dsimp only at hSw); go_simp) <;> with_reducible rfl
                try simp only [Act.put, List.setIfInBounds_toArray, List.set_cons_zero, List.set_cons_succ]
                refine takeD (i := 13) (d := some 82) (v := ?_) _ rfl rfl (by kernel_rfl) (by kernel_rfl) (by kernel_rfl) (fun _ _ _ h => h) (by rfl) ?_ (by assumption) ?_
                rotate_left
                · (intro w hSw; (try dsimp only at hSw); go_simp) <;> with_reducible rfl
                try simp only [Act.put, List.setIfInBounds_toArray, List.set_cons_zero, List.set_cons_succ]
                refine takeD (i := 14) (d := some 83) (v := ?_) _ rfl rfl (by kernel_rfl) (by kernel_rfl) (by kernel_rfl) (fun _ _ _ h => h) (by rfl) ?_ (by assumption) ?_
                rotate_left
                · (intro w hSw; (try dsimp only at hSw); go_simp) <;> with_reducible rfl
                try simp only [Act.put, List.setIfInBounds_toArray, List.set_cons_zero, List.set_cons_succ]
                refine takeD (i := 15) (d := some 84) (v := ?_) _ rfl rfl (by kernel_rfl) (by kernel_rfl) (by kernel_rfl) (fun _ _ _ h => h) (by rfl) ?_ (by assumption) ?_
                rotate_left
                · (intro w hSw; (try dsimp only at hSw); go_simp) <;> with_reducible rfl
                try simp only [Act.put, List.setIfInBounds_toArray, List.set_cons_zero, List.set_cons_succ]
                refine takeD (i := 16) (d := some 85) (v := ?_) _ rfl rfl (by kernel_rfl) (by kernel_rfl) (by kernel_rfl) (fun _ _ _ h => h) (by rfl) ?_ (by assumption) ?_
                rotate_left
                · (intro w hSw; (try dsimp only at hSw); go_simp) <;> with_reducible rfl
                try simp only [Act.put, List.setIfInBounds_toArray, List.set_cons_zero, List.set_cons_succ]
                refine takeD (i := 17) (d := some 86) (v := ?_) _ rfl rfl (by kernel_rfl) (by kernel_rfl) (by kernel_rfl) (fun _ _ _ h => h) (by rfl) ?_ (by assumption) ?_
                rotate_left
                · (intro w hSw; (try dsimp only at hSw); go_simp) <;> with_reducible rfl
                try simp only [Act.put, List.setIfInBounds_toArray, List.set_cons_zero, List.set_cons_succ]
                refine takeD (i := 18) (d := some 87) (v := ?_) _ rfl rfl (by kernel_rfl) (by kernel_rfl) (by kernel_rfl) (fun _ _ _ h => h) (by rfl) ?_ (by assumption) ?_
                rotate_left
                · (intro w hSw; (try dsimp only at hSw); go_simp) <;> with_reducible rfl
                try simp only [Act.put, List.setIfInBounds_toArray, List.set_cons_zero, List.set_cons_succ]
                refine takeD (i := 19) (d := some 88) (v := ?_) _ rfl rfl (by kernel_rfl) (by kernel_rfl) (by kernel_rfl) (fun _ _ _ h => h) (by rfl) ?_ (by assumption) ?_
                rotate_left
                · (intro w hSw; (try dsimp only at hSw); go_simp) <;> with_reducible rfl
                try simp only [Act.put, List.setIfInBounds_toArray, List.set_cons_zero, List.set_cons_succ]
                refine takeD (i := 20) (d := some 89) (v := ?_) _ rfl rfl (by kernel_rfl) (by kernel_rfl) (by kernel_rfl) (fun _ _ _ h => h) (by rfl) ?_ (by assumption) ?_
                rotate_left
                · (intro w hSw; (try dsimp only at hSw); go_simp) <;> with_reducible rfl
                try simp only [Act.put, List.setIfInBounds_toArray, List.set_cons_zero, List.set_cons_succ]
                refine takeD (i := 21) (d := some 90) (v := ?_) _ rfl rfl (by kernel_rfl) (by kernel_rfl) (by kernel_rfl) (fun _ _ _ h => h) (by rfl) ?_ (by assumption) ?_
                rotate_left
                · (intro w hSw; (try dsimp only at hSw); go_simp) <;> with_reducible rfl
                try simp only [Act.put, List.setIfInBounds_toArray, List.set_cons_zero, List.set_cons_succ]
                refine takeD (i := 22) (d := some 91) (v := ?_) _ rfl rfl (by kernel_rfl) (by kernel_rfl) (by kernel_rfl) (fun _ _ _ h => h) (by rfl) ?_ (by assumption) ?_
                rotate_left
                · (intro w hSw; (try dsimp only at hSw); go_simp) <;> with_reducible rfl
                try simp only [Act.put, List.setIfInBounds_toArray, List.set_cons_zero, List.set_cons_succ]
                refine takeD (i := 23) (d := some 92) (v := ?_) _ rfl rfl (by kernel_rfl) (by kernel_rfl) (by kernel_rfl) (fun _ _ _ h => h) (by rfl) ?_ (by assumption) ?_
                rotate_left
                · (intro w hSw; (try dsimp only at hSw); go_simp) <;> with_reducible rfl
                try simp only [Act.put, List.setIfInBounds_toArray, List.set_cons_zero, List.set_cons_succ]
                refine takeD (i := 24) (d := some 93) (v := ?_) _ rfl rfl (by kernel_rfl) (by kernel_rfl) (by kernel_rfl) (fun _ _ _ h => h) (by rfl) ?_ (by assumption) ?_
                rotate_left
                · (intro w hSw; (try dsimp only at hSw); go_simp) <;> with_reducible rfl
                try simp only [Act.put, List.setIfInBounds_toArray, List.set_cons_zero, List.set_cons_succ]
                refine takeD (i := 25) (d := some 94) (v := ?_) _ rfl rfl (by kernel_rfl) (by kernel_rfl) (by kernel_rfl) (fun _ _ _ h => h) (by rfl) ?_ (by assumption) ?_
                rotate_left
                · (intro w hSw; (try dsimp only at hSw); go_simp) <;> with_reducible rfl
                try simp only [Act.put, List.setIfInBounds_toArray, List.set_cons_zero, List.set_cons_succ]
                refine takeD (i := 26) (d := some 95) (v := ?_) _ rfl rfl (by kernel_rfl) (by kernel_rfl) (by kernel_rfl) (fun _ _ _ h => h) (by rfl) ?_ (by assumption) ?_
                rotate_left
                · (intro w hSw; (try dsimp only at hSw); go_simp) <;> with_reducible rfl
                try simp only [Act.put, List.setIfInBounds_toArray, List.set_cons_zero, List.set_cons_succ]
                refine takeD (i := 27) (d := some 96) (v := ?_) _ rfl rfl (by kernel_rfl) (by kernel_rfl) (by kernel_rfl) (fun _ _ _ h => h) (by rfl) ?_ (by assumption) ?_
                rotate_left
                · (intro w hSw; (try dsimp only at hSw); go_simp) <;> with_reducible rfl
                try simp only [Act.put, List.setIfInBounds_toArray, List.set_cons_zero, List.set_cons_succ]
                refine takeD (i := 28) (d := some 97) (v := ?_) _ rfl rfl (by kernel_rfl) (by kernel_rfl) (by kernel_rfl) (fun _ _ _ h => h) (by rfl) ?_ (by assumption) ?_
                rotate_left
                · (intro w hSw; (try dsimp only at hSw); go_simp) <;> with_reducible rfl
                try simp only [Act.put, List.setIfInBounds_toArray, List.set_cons_zero, List.set_cons_succ]
                refine takeD (i := 29) (d := some 98) (v := ?_) _ rfl rfl (by kernel_rfl) (by kernel_rfl) (by kernel_rfl) (fun _ _ _ h => h) (by rfl) ?_ (by assumption) ?_
                rotate_left
                · (intro w hSw; (try dsimp only at hSw); go_simp) <;> with_reducible rfl
                try simp only [Act.put, List.setIfInBounds_toArray, List.set_cons_zero, List.set_cons_succ]
                refine takeD (i := 30) (d := some 99) (v := ?_) _ rfl rfl (by kernel_rfl) (by kernel_rfl) (by kernel_rfl) (fun _ _ _ h => h) (by rfl) ?_ (by assumption) ?_
                rotate_left
                · (intro w hSw; (try dsimp only at hSw); go_simp) <;> with_reducible rfl
                try simp only [Act.put, List.setIfInBounds_toArray, List.set_cons_zero, List.set_cons_succ]
                refine takeD (i := 31) (d := some 100) (v := ?_) _ rfl rfl (by kernel_rfl) (by kernel_rfl) (by kernel_rfl) (fun _ _ _ h => h) (by rfl) ?_ (by assumption) ?_
                rotate_left
                · (intro w hSw; (try dsimp only at hSw); go_simp) <;> with_reducible rfl
                try simp only [Act.put, List.setIfInBounds_toArray, List.set_cons_zero, List.set_cons_succ]
                refine takeD (i := 32) (d := some 101) (v := ?_) _ rfl rfl (by kernel_rfl) (by kernel_rfl) (by kernel_rfl) (fun _ _ _ h => h) (by rfl) ?_ (by assumption) ?_
                rotate_left
                · (intro w hSw; (try dsimp only at hSw); go_simp) <;> with_reducible rfl
                try simp only [Act.put, List.setIfInBounds_toArray, List.set_cons_zero, List.set_cons_succ]
                refine takeD (i := 33) (d := some 102) (v := ?_) _ rfl rfl (by kernel_rfl) (by kernel_rfl) (by kernel_rfl) (fun _ _ _ h => h) (by rfl) ?_ (by assumption) ?_
                rotate_left
                · (intro w hSw; (try dsimp only at hSw); go_simp) <;> with_reducible rfl
                try simp only [Act.put, List.setIfInBounds_toArray, List.set_cons_zero, List.set_cons_succ]
                refine takeD (i := 34) (d := some 103) (v := ?_) _ rfl rfl (by kernel_rfl) (by kernel_rfl) (by kernel_rfl) (fun _ _ _ h => h) (by rfl) ?_ (by assumption) ?_
                rotate_left
                · (intro w hSw; (try dsimp only at hSw); go_simp) <;> with_reducible rfl
                try simp only [Act.put, List.setIfInBounds_toArray, List.set_cons_zero, List.set_cons_succ]
                refine takeD (i := 35) (d := some 104) (v := ?_) _ rfl rfl (by kernel_rfl) (by kernel_rfl) (by kernel_rfl) (fun _ _ _ h => h) (by rfl) ?_ (by assumption) ?_
                rotate_left
                · (intro w hSw; (try dsimp only at hSw); go_simp) <;> with_reducible rfl
                try simp only [Act.put, List.setIfInBounds_toArray, List.set_cons_zero, List.set_cons_succ]
                refine wpAnyH_done (by kernel_rfl) ?_ _
                have HB3 : Hid (Below wo.heap.size wo wr.drew) := hHeld.1
                clear hHeld d0 d1 e0 e1
                by_cases o2 : yf < xf + (xn : Int)
                · have HOV2 : Hid (ovB ⟨xf, (xn : Int), xx, xr, xk⟩ ⟨yf, yw, yx, yr, yk⟩ = true) := by unfold Hid ovB; simp [o1, o2]
                  have HF : Hid (newErr l = 22) := by
                    unfold Hid
                    rw [HZ.out, ← HE2.out, if_pos]
                    rw [HOV.out, drop_cons HXS.out]
                    show ((l.take i).any (ovB _) || _) = true
                    rw [List.any_eq_true.2 ⟨⟨yf, yw, yx, yr, yk⟩, List.mem_of_getElem? (i := j) (by rw [List.getElem?_take, if_pos HJX.out]; exact HYS.out), HOV2.out⟩]
                    rfl
                  have HH3 := Lib.hid (heap_keep HB3.out HH.out)
                  have HBF : Hid (Below w.heap.size w wr.drew) := HB.out.trans (HB3.out.mono HB.out.size)
                  have o2b : decide (yf < xf + (xn : Int)) = true := by simpa using o2
                  generalize wr.drew = W9 at HH3 HBF ⊢
                  have t0 := (row_cell HH3.out 0).1
                  have t1 := (row_cell HH3.out 1).1
                  have f0 := (row_cell HH3.out 0).2
                  have f1 := (row_cell HH3.out 1).2
                  simp at t0 t1
                  go_wp2_with fail
                  (try unfold Exit.noGoto)
                  (try simp only [Exit.inBlock, Exit.then])
                  refine bodyPost_ret (results_cell_tmp rfl _ _ w.heap.size _ _ rfl (set_two HH3.out _ _) Try.underlying31 rfl (by kernel_rfl)) rfl ?_
                  exact RNewPost.err HF.out (by decide) ((HBF.out.setCell (p := ⟨w.heap.size, 0, none⟩) (Nat.le_refl _) _).setCell (p := ⟨w.heap.size, 1, none⟩) (Nat.le_refl _) _)
                · have HOV2 : Hid (ovB ⟨xf, (xn : Int), xx, xr, xk⟩ ⟨yf, yw, yx, yr, yk⟩ = false) := by unfold Hid ovB; simp [o1, o2]
                  have o2b : decide (yf < xf + (xn : Int)) = false := by simpa using o2
                  go_wp2_with fail
                  go_roundw
                  case rel =>
                    have Q : N3Rel i l ⟨xf, (xn : Int), xx, xr, xk⟩ wo (.int .i64 ((j : Int) + 1)) wr.drew := ⟨⟨j + 1, HJX.out, by go_num, fun q y hq hy => by
                      by_cases hqj : q < j
                      · exact HNO.out q y hqj hy
                      · have : q = j := by omega
                        subst this
                        rw [HYS.out] at hy
                        injection hy with hy
                        subst hy
                        exact HOV2.out, HB3.out⟩⟩
                    first | exact Q | ((repeat apply Exists.intro); exact ⟨Q, rfl⟩)
                  case measure => have := HJX.out; simp [intOf]; omega
              · have o1b : decide (xf < yf + yw) = false := by simpa using o1
                have HOV2 : Hid (ovB ⟨xf, (xn : Int), xx, xr, xk⟩ ⟨yf, yw, yx, yr, yk⟩ = false) := by unfold Hid ovB; simp [o1]
                refine wp_region_held_drew (S := (fun w' => Below wo.heap.size wo w' ∧ w'.cell? ⟨b, off + i * 5, none⟩ = some (.int .i64 xf) ∧ w'.cell? ⟨b, off + i * 5 + 1, none⟩ = some (.int .i64 (xn : Int)) ∧ w'.cell? ⟨b, off + j * 5, none⟩ = some (.int .i64 yf) ∧ w'.cell? ⟨b, off + j * 5 + 1, none⟩ = some (.int .i64 yw))) (by kernel_rfl) ?_ (fun hHeld => ?_)
                · exact ⟨below_drewN HBO.out 1, d0, d1, e0, e1⟩
                refine takeD (i := 0) (d := some 69) (v := ?_) _ rfl rfl (by kernel_rfl) (by kernel_rfl) (by kernel_rfl) (fun _ _ _ h => h) (by rfl) ?_ (by assumption) ?_
                rotate_left
                · (intro w hSw; (try dsimp only at hSw); go_simp) <;> with_reducible rfl
                try simp only [Act.put, List.setIfInBounds_toArray, List.set_cons_zero, List.set_cons_succ]
                refine takeD (i := 1) (d := some 70) (v := ?_) _ rfl rfl (by kernel_rfl) (by kernel_rfl) (by kernel_rfl) (fun _ _ _ h => h) (by rfl) ?_ (by assumption) ?_
                rotate_left
                · (intro w hSw; (try dsimp only at hSw); go_simp) <;> with_reducible rfl
                try simp only [Act.put, List.setIfInBounds_toArray, List.set_cons_zero, List.set_cons_succ]
                refine takeD (i := 2) (d := some 71) (v := ?_) _ rfl rfl (by kernel_rfl) (by kernel_rfl) (by kernel_rfl) (fun _ _ _ h => h) (by rfl) ?_ (by assumption) ?_
                rotate_left
                · (intro w hSw; (try dsimp only at hSw); go_simp) <;> with_reducible rfl
                try simp only [Act.put, List.setIfInBounds_toArray, List.set_cons_zero, List.set_cons_succ]
                refine takeD (i := 3) (d := some 72) (v := ?_) _ rfl rfl (by kernel_rfl) (by kernel_rfl) (by kernel_rfl) (fun _ _ _ h => h) (by rfl) ?_ (by assumption) ?_
                rotate_left
                · (intro w hSw; (try dsimp only at hSw); go_simp) <;> with_reducible rfl
                try simp only [Act.put, List.setIfInBounds_toArray, List.set_cons_zero, List.set_cons_succ]
                refine takeD (i := 4) (d := some 73) (v := ?_) _ rfl rfl (by kernel_rfl) (by kernel_rfl) (by kernel_rfl) (fun _ _ _ h => h) (by rfl) ?_ (by assumption) ?_
                rotate_left
                · (intro w hSw; (try dsimp only at hSw); go_simp) <;> with_reducible rfl
                try simp only [Act.put, List.setIfInBounds_toArray, List.set_cons_zero, List.set_cons_succ]
                refine takeD (i := 5) (d := some 74) (v := ?_) _ rfl rfl (by kernel_rfl) (by kernel_rfl) (by kernel_rfl) (fun _ _ _ h => h) (by rfl) ?_ (by assumption) ?_
                rotate_left
                · (intro w hSw; (try dsimp only at hSw); go_simp) <;> with_reducible rfl
                try simp only [Act.put, List.setIfInBounds_toArray, List.set_cons_zero, List.set_cons_succ]
                refine takeD (i := 6) (d := some 75) (v := ?_) _ rfl rfl (by kernel_rfl) (by kernel_rfl) (by kernel_rfl) (fun _ _ _ h => h) (by rfl) ?_ (by assumption) ?_
                rotate_left
                · (intro w hSw; (try dsimp only at hSw); go_simp) <;> with_reducible rfl
                try simp only [Act.put, List.setIfInBounds_toArray, List.set_cons_zero, List.set_cons_succ]
                refine takeD (i := 7) (d := some 76) (v := ?_) _ rfl rfl (by kernel_rfl) (by kernel_rfl) (by kernel_rfl) (fun _ _ _ h => h) (by rfl) ?_ (by assumption) ?_
                rotate_left
                · (intro w hSw; (try dsimp only at hSw); go_simp) <;> with_reducible rfl
                try simp only [Act.put, List.setIfInBounds_toArray, List.set_cons_zero, List.set_cons_succ]
                refine takeD (i := 8) (d := some 77) (v := ?_) _ rfl rfl (by kernel_rfl) (by kernel_rfl) (by kernel_rfl) (fun _ _ _ h => h) (by rfl) ?_ (by assumption) ?_
                rotate_left
                · (intro w hSw; (try dsimp only at hSw); go_simp) <;> with_reducible rfl
                try simp only [Act.put, List.setIfInBounds_toArray, List.set_cons_zero, List.set_cons_succ]
                refine takeD (i := 9) (d := some 78) (v := ?_) _ rfl rfl (by kernel_rfl) (by kernel_rfl) (by kernel_rfl) (fun _ _ _ h => h) (by rfl) ?_ (by assumption) ?_
                rotate_left
                · (intro w hSw; (try dsimp only at hSw); go_simp) <;> with_reducible rfl
                try simp only [Act.put, List.setIfInBounds_toArray, List.set_cons_zero, List.set_cons_succ]
                refine takeD (i := 10) (d := some 79) (v := ?_) _ rfl rfl (by kernel_rfl) (by kernel_rfl) (by kernel_rfl) (fun _ _ _ h => h) (by rfl) ?_ (by assumption) ?_
                rotate_left
                · (intro w hSw; (try dsimp only at hSw); go_simp) <;> with_reducible rfl
                try simp only [Act.put, List.setIfInBounds_toArray, List.set_cons_zero, List.set_cons_succ]
                refine takeD (i := 11) (d := some 80) (v := ?_) _ rfl rfl (by kernel_rfl) (by kernel_rfl) (by kernel_rfl) (fun _ _ _ h => h) (by rfl) ?_ (by assumption) ?_
                rotate_left
                · (intro w hSw; (try dsimp only at hSw); go_simp) <;> with_reducible rfl
                try simp only [Act.put, List.setIfInBounds_toArray, List.set_cons_zero, List.set_cons_succ]
                refine takeD (i := 12) (d := some 81) (v := ?_) _ rfl rfl (by kernel_rfl) (by kernel_rfl) (by kernel_rfl) (fun _ _ _ h => h) (by rfl) ?_ (by assumption) ?_
                rotate_left
                · (intro w hSw; (try dsimp only at hSw); go_simp) <;> with_reducible rfl
                try simp only [Act.put, List.setIfInBounds_toArray, List.set_cons_zero, List.set_cons_succ]
                refine takeD (i := 13) (d := some 82) (v := ?_) _ rfl rfl (by kernel_rfl) (by kernel_rfl) (by kernel_rfl) (fun _ _ _ h => h) (by rfl) ?_ (by assumption) ?_
                rotate_left
                · (intro w hSw; (try dsimp only at hSw); go_simp) <;> with_reducible rfl
                try simp only [Act.put, List.setIfInBounds_toArray, List.set_cons_zero, List.set_cons_succ]
                refine takeD (i := 14) (d := some 83) (v := ?_) _ rfl rfl (by kernel_rfl) (by kernel_rfl) (by kernel_rfl) (fun _ _ _ h => h) (by rfl) ?_ (by assumption) ?_
                rotate_left
                · (intro w hSw; (try dsimp only at hSw); go_simp) <;> with_reducible rfl
                try simp only [Act.put, List.setIfInBounds_toArray, List.set_cons_zero, List.set_cons_succ]
                refine takeD (i := 15) (d := some 84) (v := ?_) _ rfl rfl (by kernel_rfl) (by kernel_rfl) (by kernel_rfl) (fun _ _ _ h => h) (by rfl) ?_ (by assumption) ?_
                rotate_left
                · (intro w hSw; (try dsimp only at hSw); go_simp) <;> with_reducible rfl
                try simp only [Act.put, List.setIfInBounds_toArray, List.set_cons_zero, List.set_cons_succ]
                refine takeD (i := 16) (d := some 85) (v := ?_) _ rfl rfl (by kernel_rfl) (by kernel_rfl) (by kernel_rfl) (fun _ _ _ h => h) (by rfl) ?_ (by assumption) ?_
                rotate_left
                · (intro w hSw; (try dsimp only at hSw); go_simp) <;> with_reducible rfl
                try simp only [Act.put, List.setIfInBounds_toArray, List.set_cons_zero, List.set_cons_succ]
                refine takeD (i := 17) (d := some 86) (v := ?_) _ rfl rfl (by kernel_rfl) (by kernel_rfl) (by kernel_rfl) (fun _ _ _ h => h) (by rfl) ?_ (by assumption) ?_
                rotate_left
                · (intro w hSw; (try dsimp only at hSw); go_simp) <;> with_reducible rfl
                try simp only [Act.put, List.setIfInBounds_toArray, List.set_cons_zero, List.set_cons_succ]
                refine skipD (i := 18) (d := some 87) _ rfl rfl (by kernel_rfl) (by kernel_rfl) (by kernel_rfl) (fun _ _ _ h => h) (by rfl) (by assumption) ?_
                try simp only [Act.put, List.setIfInBounds_toArray, List.set_cons_zero, List.set_cons_succ]
                refine skipD (i := 19) (d := some 88) _ rfl rfl (by kernel_rfl) (by kernel_rfl) (by kernel_rfl) (fun _ _ _ h => h) (by rfl) (by assumption) ?_
                try simp only [Act.put, List.setIfInBounds_toArray, List.set_cons_zero, List.set_cons_succ]
                refine skipD (i := 20) (d := some 89) _ rfl rfl (by kernel_rfl) (by kernel_rfl) (by kernel_rfl) (fun _ _ _ h => h) (by rfl) (by assumption) ?_
                try simp only [Act.put, List.setIfInBounds_toArray, List.set_cons_zero, List.set_cons_succ]
                refine skipD (i := 21) (d := some 90) _ rfl rfl (by kernel_rfl) (by kernel_rfl) (by kernel_rfl) (fun _ _ _ h => h) (by rfl) (by assumption) ?_
                try simp only [Act.put, List.setIfInBounds_toArray, List.set_cons_zero, List.set_cons_succ]
                refine skipD (i := 22) (d := some 91) _ rfl rfl (by kernel_rfl) (by kernel_rfl) (by kernel_rfl) (fun _ _ _ h => h) (by rfl) (by assumption) ?_
                try simp only [Act.put, List.setIfInBounds_toArray, List.set_cons_zero, List.set_cons_succ]
                refine skipD (i := 23) (d := some 92) _ rfl rfl (by kernel_rfl) (by kernel_rfl) (by kernel_rfl) (fun _ _ _ h => h) (by rfl) (by assumption) ?_
                try simp only [Act.put, List.setIfInBounds_toArray, List.set_cons_zero, List.set_cons_succ]
                refine skipD (i := 24) (d := some 93) _ rfl rfl (by kernel_rfl) (by kernel_rfl) (by kernel_rfl) (fun _ _ _ h => h) (by rfl) (by assumption) ?_
                try simp only [Act.put, List.setIfInBounds_toArray, List.set_cons_zero, List.set_cons_succ]
                refine skipD (i := 25) (d := some 94) _ rfl rfl (by kernel_rfl) (by kernel_rfl) (by kernel_rfl) (fun _ _ _ h => h) (by rfl) (by assumption) ?_
                try simp only [Act.put, List.setIfInBounds_toArray, List.set_cons_zero, List.set_cons_succ]
                refine skipD (i := 26) (d := some 95) _ rfl rfl (by kernel_rfl) (by kernel_rfl) (by kernel_rfl) (fun _ _ _ h => h) (by rfl) (by assumption) ?_
                try simp only [Act.put, List.setIfInBounds_toArray, List.set_cons_zero, List.set_cons_succ]
                refine skipD (i := 27) (d := some 96) _ rfl rfl (by kernel_rfl) (by kernel_rfl) (by kernel_rfl) (fun _ _ _ h => h) (by rfl) (by assumption) ?_
                try simp only [Act.put, List.setIfInBounds_toArray, List.set_cons_zero, List.set_cons_succ]
                refine skipD (i := 28) (d := some 97) _ rfl rfl (by kernel_rfl) (by kernel_rfl) (by kernel_rfl) (fun _ _ _ h => h) (by rfl) (by assumption) ?_
                try simp only [Act.put, List.setIfInBounds_toArray, List.set_cons_zero, List.set_cons_succ]
                refine skipD (i := 29) (d := some 98) _ rfl rfl (by kernel_rfl) (by kernel_rfl) (by kernel_rfl) (fun _ _ _ h => h) (by rfl) (by assumption) ?_
                try simp only [Act.put, List.setIfInBounds_toArray, List.set_cons_zero, List.set_cons_succ]
                refine skipD (i := 30) (d := some 99) _ rfl rfl (by kernel_rfl) (by kernel_rfl) (by kernel_rfl) (fun _ _ _ h => h) (by rfl) (by assumption) ?_
                try simp only [Act.put, List.setIfInBounds_toArray, List.set_cons_zero, List.set_cons_succ]
                refine skipD (i := 31) (d := some 100) _ rfl rfl (by kernel_rfl) (by kernel_rfl) (by kernel_rfl) (fun _ _ _ h => h) (by rfl) (by assumption) ?_
                try simp only [Act.put, List.setIfInBounds_toArray, List.set_cons_zero, List.set_cons_succ]
                refine skipD (i := 32) (d := some 101) _ rfl rfl (by kernel_rfl) (by kernel_rfl) (by kernel_rfl) (fun _ _ _ h => h) (by rfl) (by assumption) ?_
                try simp only [Act.put, List.setIfInBounds_toArray, List.set_cons_zero, List.set_cons_succ]
                refine skipD (i := 33) (d := some 102) _ rfl rfl (by kernel_rfl) (by kernel_rfl) (by kernel_rfl) (fun _ _ _ h => h) (by rfl) (by assumption) ?_
                try simp only [Act.put, List.setIfInBounds_toArray, List.set_cons_zero, List.set_cons_succ]
                refine skipD (i := 34) (d := some 103) _ rfl rfl (by kernel_rfl) (by kernel_rfl) (by kernel_rfl) (fun _ _ _ h => h) (by rfl) (by assumption) ?_
                try simp only [Act.put, List.setIfInBounds_toArray, List.set_cons_zero, List.set_cons_succ]
                refine takeD (i := 35) (d := some 104) (v := ?_) _ rfl rfl (by kernel_rfl) (by kernel_rfl) (by kernel_rfl) (fun _ _ _ h => h) (by rfl) ?_ (by assumption) ?_
                rotate_left
                · (intro w hSw; (try dsimp only at hSw); go_simp) <;> with_reducible rfl
                try simp only [Act.put, List.setIfInBounds_toArray, List.set_cons_zero, List.set_cons_succ]
                refine wpAnyH_done (by kernel_rfl) ?_ _
                have HB3 : Hid (Below wo.heap.size wo wr.drew) := hHeld.1
                clear hHeld d0 d1 e0 e1
                go_wp2_with fail
                go_roundw
                case rel =>
                  have Q : N3Rel i l ⟨xf, (xn : Int), xx, xr, xk⟩ wo (.int .i64 ((j : Int) + 1)) wr.drew := ⟨⟨j + 1, HJX.out, by go_num, fun q y hq hy => by
                    by_cases hqj : q < j
                    · exact HNO.out q y hqj hy
                    · have : q = j := by omega
                      subst this
                      rw [HYS.out] at hy
                      injection hy with hy
                      subst hy
                      exact HOV2.out, HB3.out⟩⟩
                  first | exact Q | ((repeat apply Exists.intro); exact ⟨Q, rfl⟩)
                case measure => have := HJX.out; simp [intOf]; omega
            · have hjn : j = i := by have := HJ.out; omega
              clear hlt
              subst hjn
              have HOVN : Hid (ovL [] l = ovL (l.take (j + 1)) (l.drop (j + 1))) := by
                unfold Hid
                rw [HOV.out, drop_cons HXS.out, take_snoc HXS.out]
                show ((l.take j).any (ovB _) || _) = _
                have hfa : (l.take j).any (ovB ⟨xf, (xn : Int), xx, xr, xk⟩) = false := by
                  rw [List.any_eq_false]
                  intro y hy
                  obtain ⟨q, hq⟩ := List.getElem?_of_mem hy
                  rw [List.getElem?_take] at hq
                  split at hq
                  next hqj => rw [HNO.out q y hqj hq]; simp
                  next hqj => cases hq
                rw [hfa]; rfl
              have HH2 := Lib.hid (heap_keep HBO.out HH.out)
              have HH3 := Lib.hid (heap_keep HBO.out HH1.out)
              have HNI2 := Lib.hid (HNI.out.below HBO.out)
              clear HNO
              have c0 : wr.cell? ⟨b, off + j * 5, none⟩ = some (.int .i64 xf) := by have := HC.out _ _ (HCA.out 0 _ rfl); exact (HBW.out.cell (p := ⟨b, off + j * 5, none⟩) HBL.out).trans (by simpa [Nat.add_assoc] using this)
              have c1 : wr.cell? ⟨b, off + j * 5 + 1, none⟩ = some (.int .i64 (xn : Int)) := by have := HC.out _ _ (HCA.out 1 _ rfl); exact (HBW.out.cell (p := ⟨b, off + j * 5 + 1, none⟩) HBL.out).trans (by simpa [Nat.add_assoc] using this)
              have c2 : wr.cell? ⟨b, off + j * 5 + 2, none⟩ = some (.bool xx) := by have := HC.out _ _ (HCA.out 2 _ rfl); exact (HBW.out.cell (p := ⟨b, off + j * 5 + 2, none⟩) HBL.out).trans (by simpa [Nat.add_assoc] using this)
              have c3 : wr.cell? ⟨b, off + j * 5 + 3, none⟩ = some (.bool xr) := by have := HC.out _ _ (HCA.out 3 _ rfl); exact (HBW.out.cell (p := ⟨b, off + j * 5 + 3, none⟩) HBL.out).trans (by simpa [Nat.add_assoc] using this)
              have c4 : wr.cell? ⟨b, off + j * 5 + 4, none⟩ = some (.bool xk) := by have := HC.out _ _ (HCA.out 4 _ rfl); exact (HBW.out.cell (p := ⟨b, off + j * 5 + 4, none⟩) HBL.out).trans (by simpa [Nat.add_assoc] using this)
              have xa1 : wr.cell? ⟨b1, 0, none⟩ = some (.slice Aa j ca) := by have := (row_cell HH3.out 0).1; simpa using this
              have xa2 : wr.drew.cell? ⟨b1, 0, none⟩ = some (.slice Aa j ca) := xa1
              have xa3 : (wr.alloc (.cells #[.int .i64 xf, .int .i64 (xn : Int), .bool xx, .bool xr, .bool xk] 57)).cell? ⟨b1, 0, none⟩ = some (.slice Aa j ca) := cell_al _ xa1
              have xa4 : (wr.alloc (.cells #[.int .i64 xf, .int .i64 (xn : Int), .bool xx, .bool xr, .bool xk] 57)).drew.cell? ⟨b1, 0, none⟩ = some (.slice Aa j ca) := xa3
              clear d0 d1
              go_wp2_with fail
              refine wp_region_held_drew (S := (fun w' => w'.cell? ⟨b, off + j * 5, none⟩ = some (.int .i64 xf) ∧ w'.cell? ⟨b, off + j * 5 + 1, none⟩ = some (.int .i64 (xn : Int)) ∧ w'.cell? ⟨b, off + j * 5 + 2, none⟩ = some (.bool xx) ∧ w'.cell? ⟨b, off + j * 5 + 3, none⟩ = some (.bool xr) ∧ w'.cell? ⟨b, off + j * 5 + 4, none⟩ = some (.bool xk))) (by kernel_rfl) ?_ (fun hHeld => ?_)
              · exact ⟨c0, c1, c2, c3, c4⟩
              refine takeD (i := 0) (d := some 106) (v := ?_) _ rfl rfl (by kernel_rfl) (by kernel_rfl) (by kernel_rfl) (fun _ _ _ h => h) (by rfl) ?_ (by assumption) ?_
              rotate_left
              · (intro w hSw; (try dsimp only at hSw); go_simp) <;> with_reducible rfl
              try simp only [Act.put, List.setIfInBounds_toArray, List.set_cons_zero, List.set_cons_succ]
              refine takeD (i := 2) (d := some 108) (v := ?_) _ rfl rfl (by kernel_rfl) (by kernel_rfl) (by kernel_rfl) (fun _ _ _ h => h) (by rfl) ?_ (by assumption) ?_
              rotate_left
              · (intro w hSw; (try dsimp only at hSw); go_simp) <;> with_reducible rfl
              try simp only [Act.put, List.setIfInBounds_toArray, List.set_cons_zero, List.set_cons_succ]
              refine takeD (i := 3) (d := some 109) (v := ?_) _ rfl rfl (by kernel_rfl) (by kernel_rfl) (by kernel_rfl) (fun _ _ _ h => h) (by rfl) ?_ (by assumption) ?_
              rotate_left
              · (intro w hSw; (try dsimp only at hSw); go_simp) <;> with_reducible rfl
              try simp only [Act.put, List.setIfInBounds_toArray, List.set_cons_zero, List.set_cons_succ]
              refine takeD (i := 4) (d := some 110) (v := ?_) _ rfl rfl (by kernel_rfl) (by kernel_rfl) (by kernel_rfl) (fun _ _ _ h => h) (by rfl) ?_ (by assumption) ?_
              rotate_left
              · (intro w hSw; (try dsimp only at hSw); go_simp) <;> with_reducible rfl
              try simp only [Act.put, List.setIfInBounds_toArray, List.set_cons_zero, List.set_cons_succ]
              refine takeD (i := 5) (d := some 111) (v := ?_) _ rfl rfl (by kernel_rfl) (by kernel_rfl) (by kernel_rfl) (fun _ _ _ h => h) (by rfl) ?_ (by assumption) ?_
              rotate_left
              · (intro w hSw; (try dsimp only at hSw); go_simp) <;> with_reducible rfl
              try simp only [Act.put, List.setIfInBounds_toArray, List.set_cons_zero, List.set_cons_succ]
              refine wpAnyH_ready (rs := [1, 6]) (by kernel_rfl) (by simp) ?_
              refine AllReadyH.cons rfl (fun K hK => ?_) (AllReadyH.cons rfl (fun K hK => ?_) AllReadyH.nil)
              · go_simp
                refine hK.out _ _ hHeld (fun hHeld => ?_)
                clear hK K
                try simp only [Act.put, List.setIfInBounds_toArray, List.set_cons_zero, List.set_cons_succ]
                refine wpAnyH_ready (rs := [6]) (by kernel_rfl) (by simp) ?_
                refine AllReadyH.cons rfl (fun K hK => ?_) AllReadyH.nil
                go_simp
                obtain ⟨W4, hW4⟩ : ∃ W4, (wr.alloc (.cells #[.int .i64 xf, .int .i64 (xn : Int), .bool xx, .bool xr, .bool xk] 57)).drew = W4 := ⟨_, rfl⟩
                simp only [hW4]
                have B4 : Hid (Below wr.heap.size wr W4) := by rw [← hW4]; exact below_drewN ((Below.refl _ _).alloc (Nat.le_refl _) _) 1
                have RL4 : Hid (Reads W4 (wr.heap.size + 1) 5 (some ⟨wr.heap.size, 0, none⟩) 1 [.int .i64 xf, .int .i64 (xn : Int), .bool xx, .bool xr, .bool xk]) := by rw [← hW4]; exact reads_lit 5 [.int .i64 xf, .int .i64 (xn : Int), .bool xx, .bool xr, .bool xk] 57 wr rfl
                have xa5 : W4.cell? ⟨b1, 0, none⟩ = some (.slice Aa j ca) := by rw [← hW4]; exact xa3
                have hsz4 : W4.heap.size = wr.heap.size + 1 := by rw [← hW4]; simp
                refine hK.out _ _ ⟨cell_later B4.out c0, cell_later B4.out c1, cell_later B4.out c2, cell_later B4.out c3, cell_later B4.out c4⟩ (fun hHeld => ?_)
                clear hK K hW4
                try simp only [Act.put, List.setIfInBounds_toArray, List.set_cons_zero, List.set_cons_succ]
                refine wpAnyH_ready (rs := [7]) (by kernel_rfl) (by simp) ?_
                refine AllReadyH.cons rfl (fun K hK => ?_) AllReadyH.nil
                have HNI4 := Lib.hid (HNI2.out.below B4.out)
                refine wp_append_any _ (.tmp 107) (.tmp 112) 22 rfl (b1 + 1) 57 i0 (.agg #[.int .i64 0, .int .i64 0, .bool false, .bool false, .bool false]) 5 24 Try.underlying22 hinf hz0 hz1 hz2 rfl (by decide) (.slice Aa j ca) j (CA (l.take j)) rfl HNI4.out.oa (wr.heap.size + 1) (some ⟨wr.heap.size, 0, none⟩) 1 1 [.int .i64 xf, .int .i64 (xn : Int), .bool xx, .bool xr, .bool xk] rfl RL4.out (fun u hu => by simp at hu; rcases hu with rfl | rfl | rfl | rfl | rfl <;> rfl) (by have := HM.out; have := HX.out; unfold maxLen; omega) (by have := HM.out; have := HX.out; omega) (by have := (Array.getElem?_eq_some_iff.1 HH3.out).1; omega) ?_
                intro va2 W5 hown hgr hbl
                obtain ⟨Aa2, ca2, rfl⟩ := slice_form hown
                have HB1W : Hid (b1 < W4.heap.size) := by have := (Array.getElem?_eq_some_iff.1 HH3.out).1; unfold Hid; omega
                have hni5 := HNI4.out.growA (by rw [take_snoc HXS.out, CA_app]; exact hown) hgr hbl
                have HNI5 := Lib.hid hni5
                have hnb : ∀ q, q < b1 + 1 → some q ≠ (Value.slice Aa j ca).ownBlock := fun q hq e => by have := (HNI4.out.oa.lt q e.symm).1; omega
                have HX5 : Hid (W5.heap[w.heap.size]? = some (.cells #[.slice none 0 0, .slice none 0 0] 31 (0, 0))) := (hgr.block _ (by have := HB1.out; have := HB1W.out; omega) (fun e => hnb _ (by have := HB1.out; omega) e)).trans (heap_keep B4.out HH2.out)
                have HY5 : Hid (W5.heap[b1]? = some (.cells #[.slice Aa j ca, .slice Al j cl] 31 (0, 0))) := (hgr.block _ HB1W.out (fun e => hnb _ (by omega) e)).trans (heap_keep B4.out HH3.out)
                have HB5 : Hid (Below w.heap.size w W5) := (HBW.out.trans (B4.out.mono HBW.out.size)).grown hgr (by have := HBW.out.size; omega) (fun q hq => by have := (HNI4.out.oa.lt q hq).1; have := HB1.out; omega)
                have k0 : W5.cell? ⟨b, off + j * 5, none⟩ = some (.int .i64 xf) := by have := HC.out _ _ (HCA.out 0 _ rfl); exact (HB5.out.cell (p := ⟨b, off + j * 5, none⟩) HBL.out).trans (by simpa [Nat.add_assoc] using this)
                have k1 : W5.cell? ⟨b, off + j * 5 + 1, none⟩ = some (.int .i64 (xn : Int)) := by have := HC.out _ _ (HCA.out 1 _ rfl); exact (HB5.out.cell (p := ⟨b, off + j * 5 + 1, none⟩) HBL.out).trans (by simpa [Nat.add_assoc] using this)
                have k2 : W5.cell? ⟨b, off + j * 5 + 2, none⟩ = some (.bool xx) := by have := HC.out _ _ (HCA.out 2 _ rfl); exact (HB5.out.cell (p := ⟨b, off + j * 5 + 2, none⟩) HBL.out).trans (by simpa [Nat.add_assoc] using this)
                have k3 : W5.cell? ⟨b, off + j * 5 + 3, none⟩ = some (.bool xr) := by have := HC.out _ _ (HCA.out 3 _ rfl); exact (HB5.out.cell (p := ⟨b, off + j * 5 + 3, none⟩) HBL.out).trans (by simpa [Nat.add_assoc] using this)
                have k4 : W5.cell? ⟨b, off + j * 5 + 4, none⟩ = some (.bool xk) := by have := HC.out _ _ (HCA.out 4 _ rfl); exact (HB5.out.cell (p := ⟨b, off + j * 5 + 4, none⟩) HBL.out).trans (by simpa [Nat.add_assoc] using this)
                refine hK.out _ _ ⟨k0, k1, k2, k3, k4⟩ (fun hHeld => ?_)
                clear hK K hown hgr hbl hnb hni5 xa1 xa2 xa3 xa4 xa5 c0 c1 c2 c3 c4 RL4
                try simp only [Act.put, List.setIfInBounds_toArray, List.set_cons_zero, List.set_cons_succ]
                refine takeD (i := 8) (d := some 114) (v := ?_) _ rfl rfl (by kernel_rfl) (by kernel_rfl) (by kernel_rfl) (fun _ _ _ h => h) (by rfl) ?_ (by assumption) ?_
                rotate_left
                · (intro w hSw; (try dsimp only at hSw); go_simp) <;> with_reducible rfl
                try simp only [Act.put, List.setIfInBounds_toArray, List.set_cons_zero, List.set_cons_succ]
                have y1 : W5.cell? ⟨b1, 0, none⟩ = some (.slice Aa j ca) := by have := (row_cell HY5.out 0).1; simpa using this
                have y2 := (row_cell HY5.out 0).2
                refine wpAnyH_ready (rs := [9]) (by kernel_rfl) (by simp) ?_
                refine AllReadyH.cons rfl (fun K hK => ?_) AllReadyH.nil
                go_simp
                refine hK.out _ _ ?_ (fun hHeld => ?_)
                · have hb2 := HBL.out
                  have hb3 := HB1.out
                  rw [World.cell?_setCell_far _ _ _ _ (by simp; omega), World.cell?_setCell_far _ _ _ _ (by simp; omega), World.cell?_setCell_far _ _ _ _ (by simp; omega), World.cell?_setCell_far _ _ _ _ (by simp; omega), World.cell?_setCell_far _ _ _ _ (by simp; omega)]
                  exact hHeld
                clear hK K y1 y2 k0 k1 k2 k3 k4 hHeld
                try simp only [Act.put, List.setIfInBounds_toArray, List.set_cons_zero, List.set_cons_succ]
                refine wpAnyH_done (by kernel_rfl) ?_ _
                obtain ⟨W6, hW6⟩ : ∃ W6, W5.setCell ⟨b1, 0, none⟩ (.slice Aa2 (j + 1) ca2) = W6 := ⟨_, rfl⟩
                simp only [hW6]
                have HX6 : Hid (W6.heap[w.heap.size]? = some (.cells #[.slice none 0 0, .slice none 0 0] 31 (0, 0))) := by rw [← hW6]; exact (set_far _ _ (by have := HB1.out; omega)).trans HX5.out
                have HY6 : Hid (W6.heap[b1]? = some (.cells #[.slice Aa2 (j + 1) ca2, .slice Al j cl] 31 (0, 0))) := by rw [← hW6]; have := set_at HY5.out 0 (.slice Aa2 (j + 1) ca2); unfold Hid; simpa using this
                have HNI6 : Hid (NI (b1 + 1) W6 (.slice Aa2 (j + 1) ca2) (j + 1) (.slice Al j cl) j vs l) := by rw [← hW6]; exact HNI5.out.same (fun q hq _ => set_far _ _ (by omega))
                have HB6 : Hid (Below w.heap.size w W6) := by rw [← hW6]; exact HB5.out.setCell (p := ⟨b1, 0, none⟩) (by have := HB1.out; simp; omega) _
                clear hW6
                have g1 : W6.cell? ⟨b, off + j * 5 + 1, none⟩ = some (.int .i64 (xn : Int)) := by have := HC.out _ _ (HCA.out 1 _ rfl); exact (HB6.out.cell (p := ⟨b, off + j * 5 + 1, none⟩) HBL.out).trans (by simpa [Nat.add_assoc] using this)
                have xb1 : W6.cell? ⟨b1, 1, none⟩ = some (.slice Al j cl) := by have := (row_cell HY6.out 1).1; simpa using this
                have xb2 : W6.drew.cell? ⟨b1, 1, none⟩ = some (.slice Al j cl) := xb1
                have hxn : xn ≤ 1048576 := by have := HGX.out; omega
                have HMK := Lib.hid (make_u32 xn hxn)
                have HRM := Lib.hid (row_made xn hxn)
                have xb3 : (W6.alloc (.cells (madeCells #[.int .u32 0] xn) 39)).cell? ⟨b1, 1, none⟩ = some (.slice Al j cl) := cell_al _ xb1
                have xb4 : (W6.alloc (.cells (madeCells #[.int .u32 0] xn) 39)).drew.cell? ⟨b1, 1, none⟩ = some (.slice Al j cl) := xb3
                have xb5 : ((W6.alloc (.cells (madeCells #[.int .u32 0] xn) 39)).alloc (.cells #[.slice (some ⟨W6.heap.size, 0, none⟩) xn xn] 40)).cell? ⟨b1, 1, none⟩ = some (.slice Al j cl) := cell_al _ xb3
                have xb6 : ((W6.alloc (.cells (madeCells #[.int .u32 0] xn) 39)).alloc (.cells #[.slice (some ⟨W6.heap.size, 0, none⟩) xn xn] 40)).drew.cell? ⟨b1, 1, none⟩ = some (.slice Al j cl) := xb5
                go_wp2_with fail
                refine wp_region_held_drew (S := fun w' => w'.cell? ⟨b, off + j * 5 + 1, none⟩ = some (.int .i64 (xn : Int))) (by kernel_rfl) ?_ (fun hHeld => ?_)
                · exact g1
                refine takeD (i := 0) (d := some 115) (v := ?_) _ rfl rfl (by kernel_rfl) (by kernel_rfl) (by kernel_rfl) (fun _ _ _ h => h) (by rfl) ?_ (by assumption) ?_
                rotate_left
                · (intro w hSw; (try dsimp only at hSw); go_simp) <;> with_reducible rfl
                try simp only [Act.put, List.setIfInBounds_toArray, List.set_cons_zero, List.set_cons_succ]
                refine takeD (i := 2) (d := some 117) (v := ?_) _ rfl rfl (by kernel_rfl) (by kernel_rfl) (by kernel_rfl) (fun _ _ _ h => h) (by rfl) ?_ (by assumption) ?_
                rotate_left
                · (intro w hSw; (try dsimp only at hSw); go_simp) <;> with_reducible rfl
                try simp only [Act.put, List.setIfInBounds_toArray, List.set_cons_zero, List.set_cons_succ]
                refine takeD (i := 3) (d := some 118) (v := ?_) _ rfl rfl (by kernel_rfl) (by kernel_rfl) (by kernel_rfl) (fun _ _ _ h => h) (by rfl) ?_ (by assumption) ?_
                rotate_left
                · (intro w hSw; (try dsimp only at hSw); go_simp) <;> with_reducible rfl
                try simp only [Act.put, List.setIfInBounds_toArray, List.set_cons_zero, List.set_cons_succ]
                refine takeD (i := 4) (d := some 119) (v := ?_) _ rfl rfl (by kernel_rfl) (by kernel_rfl) (by kernel_rfl) (fun _ _ _ h => h) (by rfl) ?_ (by assumption) ?_
                rotate_left
                · (intro w hSw; (try dsimp only at hSw); go_simp) <;> with_reducible rfl
                try simp only [Act.put, List.setIfInBounds_toArray, List.set_cons_zero, List.set_cons_succ]
                refine takeD (i := 5) (d := some 120) (v := ?_) _ rfl rfl (by kernel_rfl) (by kernel_rfl) (by kernel_rfl) (fun _ _ _ h => h) (by rfl) ?_ (by assumption) ?_
                rotate_left
                · (intro w hSw; (try dsimp only at hSw); go_simp) <;> with_reducible rfl
                try simp only [Act.put, List.setIfInBounds_toArray, List.set_cons_zero, List.set_cons_succ]
                refine takeD (i := 6) (d := some 121) (v := ?_) _ rfl rfl (by kernel_rfl) (by kernel_rfl) (by kernel_rfl) (fun _ _ _ h => h) (by rfl) ?_ (by assumption) ?_
                rotate_left
                · (intro w hSw; (try dsimp only at hSw); go_simp) <;> with_reducible rfl
                try simp only [Act.put, List.setIfInBounds_toArray, List.set_cons_zero, List.set_cons_succ]
                refine wpAnyH_ready (rs := [1, 7]) (by kernel_rfl) (by simp) ?_
                refine AllReadyH.cons rfl (fun K hK => ?_) (AllReadyH.cons rfl (fun K hK => ?_) AllReadyH.nil)
                · go_simp
                  refine hK.out _ _ hHeld (fun hHeld => ?_)
                  clear hK K
                  try simp only [Act.put, List.setIfInBounds_toArray, List.set_cons_zero, List.set_cons_succ]
                  refine wpAnyH_ready (rs := [7]) (by kernel_rfl) (by simp) ?_
                  refine AllReadyH.cons rfl (fun K hK => ?_) AllReadyH.nil
                  go_simp
                  try rw [HMK.out]
                  try go_simp
                  refine hK.out _ _ (cell_al _ hHeld) (fun hHeld => ?_)
                  clear hK K
                  try simp only [Act.put, List.setIfInBounds_toArray, List.set_cons_zero, List.set_cons_succ]
                  refine wpAnyH_ready (rs := [8]) (by kernel_rfl) (by simp) ?_
                  refine AllReadyH.cons rfl (fun K hK => ?_) AllReadyH.nil
                  go_simp
                  refine hK.out _ _ (cell_al _ hHeld) (fun hHeld => ?_)
                  clear hK K
                  try simp only [Act.put, List.setIfInBounds_toArray, List.set_cons_zero, List.set_cons_succ]
                  obtain ⟨M2, hM2⟩ : ∃ M2, ((W6.alloc (.cells (madeCells #[.int .u32 0] xn) 39)).alloc (.cells #[.slice (some ⟨W6.heap.size, 0, none⟩) xn xn] 40)).drew = M2 := ⟨_, rfl⟩
                  simp only [hM2] at hHeld ⊢
                  have BM : Hid (Below W6.heap.size W6 M2) := by rw [← hM2]; exact below_drewN (((Below.refl _ _).alloc (Nat.le_refl _) _).alloc (by simp) _) 1
                  have RLM : Hid (Reads M2 (W6.heap.size + 1 + 1) 1 (some ⟨W6.heap.size + 1, 0, none⟩) 1 [.slice (some ⟨W6.heap.size, 0, none⟩) xn xn]) := by
                    rw [← hM2]
                    have := reads_lit 1 [.slice (some ⟨W6.heap.size, 0, none⟩) xn xn] 40 (W6.alloc (.cells (madeCells #[.int .u32 0] xn) 39)) rfl
                    refine Reads.drew ?_
                    simpa using this
                  have HUM : Hid (M2.ownsRow (b1 + 1) 39 1 (.slice (some ⟨W6.heap.size, 0, none⟩) xn xn) xn (CU (List.replicate xn 0))) := by
                    rw [← hM2]
                    exact own_base (own_below (HRM.out W6) (below_drewN ((Below.refl _ _).alloc (Nat.le_refl _) _) 1)) (Array.getElem?_eq_some_iff.1 HY6.out).1
                  have HNIM := Lib.hid (HNI6.out.below BM.out)
                  have HXM := Lib.hid (heap_keep BM.out HX6.out)
                  have HYM := Lib.hid (heap_keep BM.out HY6.out)
                  have HBM : Hid (Below w.heap.size w M2) := HB6.out.trans (BM.out.mono HB6.out.size)
                  have HSM : Hid (M2.heap.size = W6.heap.size + 2) := by rw [← hM2]; unfold Hid; simp
                  clear hM2
                  refine wpAnyH_ready (rs := [9]) (by kernel_rfl) (by simp) ?_
                  refine AllReadyH.cons rfl (fun K hK => ?_) AllReadyH.nil
                  refine wp_append_any _ (.tmp 116) (.tmp 123) 29 rfl (b1 + 1) 40 i1 (.slice none 0 0) 1 24 Try.underlying29 hinf1 hy0 hy1 hy2 rfl (by decide) (.slice Al j cl) j vs rfl HNIM.out.ol (W6.heap.size + 1 + 1) (some ⟨W6.heap.size + 1, 0, none⟩) 1 1 [.slice (some ⟨W6.heap.size, 0, none⟩) xn xn] rfl RLM.out (fun u hu => by simp at hu; subst hu; rfl) (by have := HM.out; have := HX.out; unfold maxLen; omega) (by have := HM.out; have := HX.out; omega) (by have := (Array.getElem?_eq_some_iff.1 HYM.out).1; omega) ?_
                  intro vl2 W7 hown hgr hbl
                  obtain ⟨Al2, cl2, rfl⟩ := slice_form hown
                  have hvl : vs.length = j := by have := HNIM.out.ol.1; omega
                  have hni7 := HNIM.out.growL hvl HXS.out HUM.out (fun e => by have := (HNI6.out.oa.lt _ e).2; omega) (fun e => by have := (HNI6.out.ol.lt _ e).2; omega) hown hgr hbl
                  have HNI7 := Lib.hid hni7
                  have hnb : ∀ q, q < b1 + 1 → some q ≠ (Value.slice Al j cl).ownBlock := fun q hq e => by have := (HNIM.out.ol.lt q e.symm).1; omega
                  have HB1M : Hid (b1 < M2.heap.size) := (Array.getElem?_eq_some_iff.1 HYM.out).1
                  have HX7 : Hid (W7.heap[w.heap.size]? = some (.cells #[.slice none 0 0, .slice none 0 0] 31 (0, 0))) := (hgr.block _ (by have := HB1.out; have := HB1M.out; omega) (fun e => hnb _ (by have := HB1.out; omega) e)).trans HXM.out
                  have HY7 : Hid (W7.heap[b1]? = some (.cells #[.slice Aa2 (j + 1) ca2, .slice Al j cl] 31 (0, 0))) := (hgr.block _ HB1M.out (fun e => hnb _ (by omega) e)).trans HYM.out
                  have HB7 : Hid (Below w.heap.size w W7) := HBM.out.grown hgr HBM.out.size (fun q hq => by have := (HNIM.out.ol.lt q hq).1; have := HB1.out; omega)
                  have k1 : W7.cell? ⟨b, off + j * 5 + 1, none⟩ = some (.int .i64 (xn : Int)) := by have := HC.out _ _ (HCA.out 1 _ rfl); exact (HB7.out.cell (p := ⟨b, off + j * 5 + 1, none⟩) HBL.out).trans (by simpa [Nat.add_assoc] using this)
                  refine hK.out _ _ k1 (fun hHeld => ?_)
                  clear hK K hown hgr hbl hnb hni7 hvl xb1 xb2 xb3 xb4 xb5 xb6 g1 RLM HUM
                  try simp only [Act.put, List.setIfInBounds_toArray, List.set_cons_zero, List.set_cons_succ]
                  refine takeD (i := 10) (d := some 125) (v := ?_) _ rfl rfl (by kernel_rfl) (by kernel_rfl) (by kernel_rfl) (fun _ _ _ h => h) (by rfl) ?_ (by assumption) ?_
                  rotate_left
                  · (intro w hSw; (try dsimp only at hSw); go_simp) <;> with_reducible rfl
                  try simp only [Act.put, List.setIfInBounds_toArray, List.set_cons_zero, List.set_cons_succ]
                  have y1 : W7.cell? ⟨b1, 1, none⟩ = some (.slice Al j cl) := by have := (row_cell HY7.out 1).1; simpa using this
                  have y2 := (row_cell HY7.out 1).2
                  refine wpAnyH_ready (rs := [11]) (by kernel_rfl) (by simp) ?_
                  refine AllReadyH.cons rfl (fun K hK => ?_) AllReadyH.nil
                  go_simp
                  refine hK.out _ _ ?_ (fun hHeld => ?_)
                  · have hb2 := HBL.out
                    have hb3 := HB1.out
                    rw [World.cell?_setCell_far _ _ _ _ (by simp; omega)]
                    exact hHeld
                  clear hK K y1 y2 k1 hHeld
                  try simp only [Act.put, List.setIfInBounds_toArray, List.set_cons_zero, List.set_cons_succ]
                  refine wpAnyH_done (by kernel_rfl) ?_ _
                  obtain ⟨W8, hW8⟩ : ∃ W8, W7.setCell ⟨b1, 1, none⟩ (.slice Al2 (j + 1) cl2) = W8 := ⟨_, rfl⟩
                  simp only [hW8]
                  have HX8 : Hid (W8.heap[w.heap.size]? = some (.cells #[.slice none 0 0, .slice none 0 0] 31 (0, 0))) := by rw [← hW8]; exact (set_far _ _ (by have := HB1.out; omega)).trans HX7.out
                  have HY8 : Hid (W8.heap[b1]? = some (.cells #[.slice Aa2 (j + 1) ca2, .slice Al2 (j + 1) cl2] 31 (0, 0))) := by rw [← hW8]; have := set_at HY7.out 1 (.slice Al2 (j + 1) cl2); unfold Hid; simpa using this
                  have HNI8 : Hid (NI (b1 + 1) W8 (.slice Aa2 (j + 1) ca2) (j + 1) (.slice Al2 (j + 1) cl2) (j + 1) (vs ++ [.slice (some ⟨W6.heap.size, 0, none⟩) xn xn]) l) := by rw [← hW8]; exact NI.same HNI7.out (fun q hq _ => set_far _ _ (by omega))
                  have HB8 : Hid (Below w.heap.size w W8) := by rw [← hW8]; exact HB7.out.setCell (p := ⟨b1, 1, none⟩) (by have := HB1.out; simp; omega) _
                  clear hW8
                  go_wp2_with fail
                  go_roundw
                  case rel =>
                    have Q : N2Rel k b1 l w (.int .i64 ((j : Int) + 1)) W8 := ⟨⟨j + 1, Aa2, ca2, Al2, cl2, _, HX.out, by go_num, HOVN.out, HB8.out, HX8.out, HY8.out, HNI8.out⟩⟩
                    first | exact Q | ((repeat apply Exists.intro); exact ⟨Q, rfl⟩)
                  case measure => have := HX.out; simp [intOf]; omega
                · go_simp
                  try rw [HMK.out]
                  try go_simp
                  refine hK.out _ _ (cell_al _ hHeld) (fun hHeld => ?_)
                  clear hK K
                  try simp only [Act.put, List.setIfInBounds_toArray, List.set_cons_zero, List.set_cons_succ]
                  refine wpAnyH_ready (rs := [1, 8]) (by kernel_rfl) (by simp) ?_
                  refine AllReadyH.cons rfl (fun K hK => ?_) (AllReadyH.cons rfl (fun K hK => ?_) AllReadyH.nil)
                  · go_simp
                    refine hK.out _ _ hHeld (fun hHeld => ?_)
                    clear hK K
                    try simp only [Act.put, List.setIfInBounds_toArray, List.set_cons_zero, List.set_cons_succ]
                    refine wpAnyH_ready (rs := [8]) (by kernel_rfl) (by simp) ?_
                    refine AllReadyH.cons rfl (fun K hK => ?_) AllReadyH.nil
                    go_simp
                    refine hK.out _ _ (cell_al _ hHeld) (fun hHeld => ?_)
                    clear hK K
                    try simp only [Act.put, List.setIfInBounds_toArray, List.set_cons_zero, List.set_cons_succ]
                    obtain ⟨M2, hM2⟩ : ∃ M2, ((W6.alloc (.cells (madeCells #[.int .u32 0] xn) 39)).alloc (.cells #[.slice (some ⟨W6.heap.size, 0, none⟩) xn xn] 40)).drew = M2 := ⟨_, rfl⟩
                    simp only [hM2] at hHeld ⊢
                    have BM : Hid (Below W6.heap.size W6 M2) := by rw [← hM2]; exact below_drewN (((Below.refl _ _).alloc (Nat.le_refl _) _).alloc (by simp) _) 1
                    have RLM : Hid (Reads M2 (W6.heap.size + 1 + 1) 1 (some ⟨W6.heap.size + 1, 0, none⟩) 1 [.slice (some ⟨W6.heap.size, 0, none⟩) xn xn]) := by
                      rw [← hM2]
                      have := reads_lit 1 [.slice (some ⟨W6.heap.size, 0, none⟩) xn xn] 40 (W6.alloc (.cells (madeCells #[.int .u32 0] xn) 39)) rfl
                      refine Reads.drew ?_
                      simpa using this
                    have HUM : Hid (M2.ownsRow (b1 + 1) 39 1 (.slice (some ⟨W6.heap.size, 0, none⟩) xn xn) xn (CU (List.replicate xn 0))) := by
                      rw [← hM2]
                      exact own_base (own_below (HRM.out W6) (below_drewN ((Below.refl _ _).alloc (Nat.le_refl _) _) 1)) (Array.getElem?_eq_some_iff.1 HY6.out).1
                    have HNIM := Lib.hid (HNI6.out.below BM.out)
                    have HXM := Lib.hid (heap_keep BM.out HX6.out)
                    have HYM := Lib.hid (heap_keep BM.out HY6.out)
                    have HBM : Hid (Below w.heap.size w M2) := HB6.out.trans (BM.out.mono HB6.out.size)
                    have HSM : Hid (M2.heap.size = W6.heap.size + 2) := by rw [← hM2]; unfold Hid; simp
                    clear hM2
                    refine wpAnyH_ready (rs := [9]) (by kernel_rfl) (by simp) ?_
                    refine AllReadyH.cons rfl (fun K hK => ?_) AllReadyH.nil
                    refine wp_append_any _ (.tmp 116) (.tmp 123) 29 rfl (b1 + 1) 40 i1 (.slice none 0 0) 1 24 Try.underlying29 hinf1 hy0 hy1 hy2 rfl (by decide) (.slice Al j cl) j vs rfl HNIM.out.ol (W6.heap.size + 1 + 1) (some ⟨W6.heap.size + 1, 0, none⟩) 1 1 [.slice (some ⟨W6.heap.size, 0, none⟩) xn xn] rfl RLM.out (fun u hu => by simp at hu; subst hu; rfl) (by have := HM.out; have := HX.out; unfold maxLen; omega) (by have := HM.out; have := HX.out; omega) (by have := (Array.getElem?_eq_some_iff.1 HYM.out).1; omega) ?_
                    intro vl2 W7 hown hgr hbl
                    obtain ⟨Al2, cl2, rfl⟩ := slice_form hown
                    have hvl : vs.length = j := by have := HNIM.out.ol.1; omega
                    have hni7 := HNIM.out.growL hvl HXS.out HUM.out (fun e => by have := (HNI6.out.oa.lt _ e).2; omega) (fun e => by have := (HNI6.out.ol.lt _ e).2; omega) hown hgr hbl
                    have HNI7 := Lib.hid hni7
                    have hnb : ∀ q, q < b1 + 1 → some q ≠ (Value.slice Al j cl).ownBlock := fun q hq e => by have := (HNIM.out.ol.lt q e.symm).1; omega
                    have HB1M : Hid (b1 < M2.heap.size) := (Array.getElem?_eq_some_iff.1 HYM.out).1
                    have HX7 : Hid (W7.heap[w.heap.size]? = some (.cells #[.slice none 0 0, .slice none 0 0] 31 (0, 0))) := (hgr.block _ (by have := HB1.out; have := HB1M.out; omega) (fun e => hnb _ (by have := HB1.out; omega) e)).trans HXM.out
                    have HY7 : Hid (W7.heap[b1]? = some (.cells #[.slice Aa2 (j + 1) ca2, .slice Al j cl] 31 (0, 0))) := (hgr.block _ HB1M.out (fun e => hnb _ (by omega) e)).trans HYM.out
                    have HB7 : Hid (Below w.heap.size w W7) := HBM.out.grown hgr HBM.out.size (fun q hq => by have := (HNIM.out.ol.lt q hq).1; have := HB1.out; omega)
                    have k1 : W7.cell? ⟨b, off + j * 5 + 1, none⟩ = some (.int .i64 (xn : Int)) := by have := HC.out _ _ (HCA.out 1 _ rfl); exact (HB7.out.cell (p := ⟨b, off + j * 5 + 1, none⟩) HBL.out).trans (by simpa [Nat.add_assoc] using this)
                    refine hK.out _ _ k1 (fun hHeld => ?_)
                    clear hK K hown hgr hbl hnb hni7 hvl xb1 xb2 xb3 xb4 xb5 xb6 g1 RLM HUM
                    try simp only [Act.put, List.setIfInBounds_toArray, List.set_cons_zero, List.set_cons_succ]
                    refine takeD (i := 10) (d := some 125) (v := ?_) _ rfl rfl (by kernel_rfl) (by kernel_rfl) (by kernel_rfl) (fun _ _ _ h => h) (by rfl) ?_ (by assumption) ?_
                    rotate_left
                    · (intro w hSw; (try dsimp only at hSw); go_simp) <;> with_reducible rfl
                    try simp only [Act.put, List.setIfInBounds_toArray, List.set_cons_zero, List.set_cons_succ]
                    have y1 : W7.cell? ⟨b1, 1, none⟩ = some (.slice Al j cl) := by have := (row_cell HY7.out 1).1; simpa using this
                    have y2 := (row_cell HY7.out 1).2
                    refine wpAnyH_ready (rs := [11]) (by kernel_rfl) (by simp) ?_
                    refine AllReadyH.cons rfl (fun K hK => ?_) AllReadyH.nil
                    go_simp
                    refine hK.out _ _ ?_ (fun hHeld => ?_)
                    · have hb2 := HBL.out
                      have hb3 := HB1.out
                      rw [World.cell?_setCell_far _ _ _ _ (by simp; omega)]
                      exact hHeld
                    clear hK K y1 y2 k1 hHeld
                    try simp only [Act.put, List.setIfInBounds_toArray, List.set_cons_zero, List.set_cons_succ]
                    refine wpAnyH_done (by kernel_rfl) ?_ _
                    obtain ⟨W8, hW8⟩ : ∃ W8, W7.setCell ⟨b1, 1, none⟩ (.slice Al2 (j + 1) cl2) = W8 := ⟨_, rfl⟩
                    simp only [hW8]
                    have HX8 : Hid (W8.heap[w.heap.size]? = some (.cells #[.slice none 0 0, .slice none 0 0] 31 (0, 0))) := by rw [← hW8]; exact (set_far _ _ (by have := HB1.out; omega)).trans HX7.out
                    have HY8 : Hid (W8.heap[b1]? = some (.cells #[.slice Aa2 (j + 1) ca2, .slice Al2 (j + 1) cl2] 31 (0, 0))) := by rw [← hW8]; have := set_at HY7.out 1 (.slice Al2 (j + 1) cl2); unfold Hid; simpa using this
                    have HNI8 : Hid (NI (b1 + 1) W8 (.slice Aa2 (j + 1) ca2) (j + 1) (.slice Al2 (j + 1) cl2) (j + 1) (vs ++ [.slice (some ⟨W6.heap.size, 0, none⟩) xn xn]) l) := by rw [← hW8]; exact NI.same HNI7.out (fun q hq _ => set_far _ _ (by omega))
                    have HB8 : Hid (Below w.heap.size w W8) := by rw [← hW8]; exact HB7.out.setCell (p := ⟨b1, 1, none⟩) (by have := HB1.out; simp; omega) _
                    clear hW8
                    go_wp2_with fail
                    go_roundw
                    case rel =>
                      have Q : N2Rel k b1 l w (.int .i64 ((j : Int) + 1)) W8 := ⟨⟨j + 1, Aa2, ca2, Al2, cl2, _, HX.out, by go_num, HOVN.out, HB8.out, HX8.out, HY8.out, HNI8.out⟩⟩
                      first | exact Q | ((repeat apply Exists.intro); exact ⟨Q, rfl⟩)
                    case measure => have := HX.out; simp [intOf]; omega
                  · go_simp
                    refine hK.out _ _ (cell_al _ hHeld) (fun hHeld => ?_)
                    clear hK K
                    try simp only [Act.put, List.setIfInBounds_toArray, List.set_cons_zero, List.set_cons_succ]
                    refine wpAnyH_ready (rs := [1]) (by kernel_rfl) (by simp) ?_
                    refine AllReadyH.cons rfl (fun K hK => ?_) AllReadyH.nil
                    go_simp
                    refine hK.out _ _ hHeld (fun hHeld => ?_)
                    clear hK K
                    try simp only [Act.put, List.setIfInBounds_toArray, List.set_cons_zero, List.set_cons_succ]
                    obtain ⟨M2, hM2⟩ : ∃ M2, ((W6.alloc (.cells (madeCells #[.int .u32 0] xn) 39)).alloc (.cells #[.slice (some ⟨W6.heap.size, 0, none⟩) xn xn] 40)).drew = M2 := ⟨_, rfl⟩
                    simp only [hM2] at hHeld ⊢
                    have BM : Hid (Below W6.heap.size W6 M2) := by rw [← hM2]; exact below_drewN (((Below.refl _ _).alloc (Nat.le_refl _) _).alloc (by simp) _) 1
                    have RLM : Hid (Reads M2 (W6.heap.size + 1 + 1) 1 (some ⟨W6.heap.size + 1, 0, none⟩) 1 [.slice (some ⟨W6.heap.size, 0, none⟩) xn xn]) := by
                      rw [← hM2]
                      have := reads_lit 1 [.slice (some ⟨W6.heap.size, 0, none⟩) xn xn] 40 (W6.alloc (.cells (madeCells #[.int .u32 0] xn) 39)) rfl
                      refine Reads.drew ?_
                      simpa using this
                    have HUM : Hid (M2.ownsRow (b1 + 1) 39 1 (.slice (some ⟨W6.heap.size, 0, none⟩) xn xn) xn (CU (List.replicate xn 0))) := by
                      rw [← hM2]
                      exact own_base (own_below (HRM.out W6) (below_drewN ((Below.refl _ _).alloc (Nat.le_refl _) _) 1)) (Array.getElem?_eq_some_iff.1 HY6.out).1
                    have HNIM := Lib.hid (HNI6.out.below BM.out)
                    have HXM := Lib.hid (heap_keep BM.out HX6.out)
                    have HYM := Lib.hid (heap_keep BM.out HY6.out)
                    have HBM : Hid (Below w.heap.size w M2) := HB6.out.trans (BM.out.mono HB6.out.size)
                    have HSM : Hid (M2.heap.size = W6.heap.size + 2) := by rw [← hM2]; unfold Hid; simp
                    clear hM2
                    refine wpAnyH_ready (rs := [9]) (by kernel_rfl) (by simp) ?_
                    refine AllReadyH.cons rfl (fun K hK => ?_) AllReadyH.nil
                    refine wp_append_any _ (.tmp 116) (.tmp 123) 29 rfl (b1 + 1) 40 i1 (.slice none 0 0) 1 24 Try.underlying29 hinf1 hy0 hy1 hy2 rfl (by decide) (.slice Al j cl) j vs rfl HNIM.out.ol (W6.heap.size + 1 + 1) (some ⟨W6.heap.size + 1, 0, none⟩) 1 1 [.slice (some ⟨W6.heap.size, 0, none⟩) xn xn] rfl RLM.out (fun u hu => by simp at hu; subst hu; rfl) (by have := HM.out; have := HX.out; unfold maxLen; omega) (by have := HM.out; have := HX.out; omega) (by have := (Array.getElem?_eq_some_iff.1 HYM.out).1; omega) ?_
                    intro vl2 W7 hown hgr hbl
                    obtain ⟨Al2, cl2, rfl⟩ := slice_form hown
                    have hvl : vs.length = j := by have := HNIM.out.ol.1; omega
                    have hni7 := HNIM.out.growL hvl HXS.out HUM.out (fun e => by have := (HNI6.out.oa.lt _ e).2; omega) (fun e => by have := (HNI6.out.ol.lt _ e).2; omega) hown hgr hbl
                    have HNI7 := Lib.hid hni7
                    have hnb : ∀ q, q < b1 + 1 → some q ≠ (Value.slice Al j cl).ownBlock := fun q hq e => by have := (HNIM.out.ol.lt q e.symm).1; omega
                    have HB1M : Hid (b1 < M2.heap.size) := (Array.getElem?_eq_some_iff.1 HYM.out).1
                    have HX7 : Hid (W7.heap[w.heap.size]? = some (.cells #[.slice none 0 0, .slice none 0 0] 31 (0, 0))) := (hgr.block _ (by have := HB1.out; have := HB1M.out; omega) (fun e => hnb _ (by have := HB1.out; omega) e)).trans HXM.out
                    have HY7 : Hid (W7.heap[b1]? = some (.cells #[.slice Aa2 (j + 1) ca2, .slice Al j cl] 31 (0, 0))) := (hgr.block _ HB1M.out (fun e => hnb _ (by omega) e)).trans HYM.out
                    have HB7 : Hid (Below w.heap.size w W7) := HBM.out.grown hgr HBM.out.size (fun q hq => by have := (HNIM.out.ol.lt q hq).1; have := HB1.out; omega)
                    have k1 : W7.cell? ⟨b, off + j * 5 + 1, none⟩ = some (.int .i64 (xn : Int)) := by have := HC.out _ _ (HCA.out 1 _ rfl); exact (HB7.out.cell (p := ⟨b, off + j * 5 + 1, none⟩) HBL.out).trans (by simpa [Nat.add_assoc] using this)
                    refine hK.out _ _ k1 (fun hHeld => ?_)
                    clear hK K hown hgr hbl hnb hni7 hvl xb1 xb2 xb3 xb4 xb5 xb6 g1 RLM HUM
                    try simp only [Act.put, List.setIfInBounds_toArray, List.set_cons_zero, List.set_cons_succ]
                    refine takeD (i := 10) (d := some 125) (v := ?_) _ rfl rfl (by kernel_rfl) (by kernel_rfl) (by kernel_rfl) (fun _ _ _ h => h) (by rfl) ?_ (by assumption) ?_
                    rotate_left
                    · (intro w hSw; (try dsimp only at hSw); go_simp) <;> with_reducible rfl
                    try simp only [Act.put, List.setIfInBounds_toArray, List.set_cons_zero, List.set_cons_succ]
                    have y1 : W7.cell? ⟨b1, 1, none⟩ = some (.slice Al j cl) := by have := (row_cell HY7.out 1).1; simpa using this
                    have y2 := (row_cell HY7.out 1).2
                    refine wpAnyH_ready (rs := [11]) (by kernel_rfl) (by simp) ?_
                    refine AllReadyH.cons rfl (fun K hK => ?_) AllReadyH.nil
                    go_simp
                    refine hK.out _ _ ?_ (fun hHeld => ?_)
                    · have hb2 := HBL.out
                      have hb3 := HB1.out
                      rw [World.cell?_setCell_far _ _ _ _ (by simp; omega)]
                      exact hHeld
                    clear hK K y1 y2 k1 hHeld
                    try simp only [Act.put, List.setIfInBounds_toArray, List.set_cons_zero, List.set_cons_succ]
                    refine wpAnyH_done (by kernel_rfl) ?_ _
                    obtain ⟨W8, hW8⟩ : ∃ W8, W7.setCell ⟨b1, 1, none⟩ (.slice Al2 (j + 1) cl2) = W8 := ⟨_, rfl⟩
                    simp only [hW8]
                    have HX8 : Hid (W8.heap[w.heap.size]? = some (.cells #[.slice none 0 0, .slice none 0 0] 31 (0, 0))) := by rw [← hW8]; exact (set_far _ _ (by have := HB1.out; omega)).trans HX7.out
                    have HY8 : Hid (W8.heap[b1]? = some (.cells #[.slice Aa2 (j + 1) ca2, .slice Al2 (j + 1) cl2] 31 (0, 0))) := by rw [← hW8]; have := set_at HY7.out 1 (.slice Al2 (j + 1) cl2); unfold Hid; simpa using this
                    have HNI8 : Hid (NI (b1 + 1) W8 (.slice Aa2 (j + 1) ca2) (j + 1) (.slice Al2 (j + 1) cl2) (j + 1) (vs ++ [.slice (some ⟨W6.heap.size, 0, none⟩) xn xn]) l) := by rw [← hW8]; exact NI.same HNI7.out (fun q hq _ => set_far _ _ (by omega))
                    have HB8 : Hid (Below w.heap.size w W8) := by rw [← hW8]; exact HB7.out.setCell (p := ⟨b1, 1, none⟩) (by have := HB1.out; simp; omega) _
                    clear hW8
                    go_wp2_with fail
                    go_roundw
                    case rel =>
                      have Q : N2Rel k b1 l w (.int .i64 ((j : Int) + 1)) W8 := ⟨⟨j + 1, Aa2, ca2, Al2, cl2, _, HX.out, by go_num, HOVN.out, HB8.out, HX8.out, HY8.out, HNI8.out⟩⟩
                      first | exact Q | ((repeat apply Exists.intro); exact ⟨Q, rfl⟩)
                    case measure => have := HX.out; simp [intOf]; omega
              · go_simp
                obtain ⟨W4, hW4⟩ : ∃ W4, (wr.alloc (.cells #[.int .i64 xf, .int .i64 (xn : Int), .bool xx, .bool xr, .bool xk] 57)).drew = W4 := ⟨_, rfl⟩
                simp only [hW4]
                have B4 : Hid (Below wr.heap.size wr W4) := by rw [← hW4]; exact below_drewN ((Below.refl _ _).alloc (Nat.le_refl _) _) 1
                have RL4 : Hid (Reads W4 (wr.heap.size + 1) 5 (some ⟨wr.heap.size, 0, none⟩) 1 [.int .i64 xf, .int .i64 (xn : Int), .bool xx, .bool xr, .bool xk]) := by rw [← hW4]; exact reads_lit 5 [.int .i64 xf, .int .i64 (xn : Int), .bool xx, .bool xr, .bool xk] 57 wr rfl
                have xa5 : W4.cell? ⟨b1, 0, none⟩ = some (.slice Aa j ca) := by rw [← hW4]; exact xa3
                have hsz4 : W4.heap.size = wr.heap.size + 1 := by rw [← hW4]; simp
                refine hK.out _ _ ⟨cell_later B4.out c0, cell_later B4.out c1, cell_later B4.out c2, cell_later B4.out c3, cell_later B4.out c4⟩ (fun hHeld => ?_)
                clear hK K hW4
                try simp only [Act.put, List.setIfInBounds_toArray, List.set_cons_zero, List.set_cons_succ]
                refine wpAnyH_ready (rs := [1]) (by kernel_rfl) (by simp) ?_
                refine AllReadyH.cons rfl (fun K hK => ?_) AllReadyH.nil
                go_simp
                refine hK.out _ _ hHeld (fun hHeld => ?_)
                clear hK K
                try simp only [Act.put, List.setIfInBounds_toArray, List.set_cons_zero, List.set_cons_succ]
                refine wpAnyH_ready (rs := [7]) (by kernel_rfl) (by simp) ?_
                refine AllReadyH.cons rfl (fun K hK => ?_) AllReadyH.nil
                have HNI4 := Lib.hid (HNI2.out.below B4.out)
                refine wp_append_any _ (.tmp 107) (.tmp 112) 22 rfl (b1 + 1) 57 i0 (.agg #[.int .i64 0, .int .i64 0, .bool false, .bool false, .bool false]) 5 24 Try.underlying22 hinf hz0 hz1 hz2 rfl (by decide) (.slice Aa j ca) j (CA (l.take j)) rfl HNI4.out.oa (wr.heap.size + 1) (some ⟨wr.heap.size, 0, none⟩) 1 1 [.int .i64 xf, .int .i64 (xn : Int), .bool xx, .bool xr, .bool xk] rfl RL4.out (fun u hu => by simp at hu; rcases hu with rfl | rfl | rfl | rfl | rfl <;> rfl) (by have := HM.out; have := HX.out; unfold maxLen; omega) (by have := HM.out; have := HX.out; omega) (by have := (Array.getElem?_eq_some_iff.1 HH3.out).1; omega) ?_
                intro va2 W5 hown hgr hbl
                obtain ⟨Aa2, ca2, rfl⟩ := slice_form hown
                have HB1W : Hid (b1 < W4.heap.size) := by have := (Array.getElem?_eq_some_iff.1 HH3.out).1; unfold Hid; omega
                have hni5 := HNI4.out.growA (by rw [take_snoc HXS.out, CA_app]; exact hown) hgr hbl
                have HNI5 := Lib.hid hni5
                have hnb : ∀ q, q < b1 + 1 → some q ≠ (Value.slice Aa j ca).ownBlock := fun q hq e => by have := (HNI4.out.oa.lt q e.symm).1; omega
                have HX5 : Hid (W5.heap[w.heap.size]? = some (.cells #[.slice none 0 0, .slice none 0 0] 31 (0, 0))) := (hgr.block _ (by have := HB1.out; have := HB1W.out; omega) (fun e => hnb _ (by have := HB1.out; omega) e)).trans (heap_keep B4.out HH2.out)
                have HY5 : Hid (W5.heap[b1]? = some (.cells #[.slice Aa j ca, .slice Al j cl] 31 (0, 0))) := (hgr.block _ HB1W.out (fun e => hnb _ (by omega) e)).trans (heap_keep B4.out HH3.out)
                have HB5 : Hid (Below w.heap.size w W5) := (HBW.out.trans (B4.out.mono HBW.out.size)).grown hgr (by have := HBW.out.size; omega) (fun q hq => by have := (HNI4.out.oa.lt q hq).1; have := HB1.out; omega)
                have k0 : W5.cell? ⟨b, off + j * 5, none⟩ = some (.int .i64 xf) := by have := HC.out _ _ (HCA.out 0 _ rfl); exact (HB5.out.cell (p := ⟨b, off + j * 5, none⟩) HBL.out).trans (by simpa [Nat.add_assoc] using this)
                have k1 : W5.cell? ⟨b, off + j * 5 + 1, none⟩ = some (.int .i64 (xn : Int)) := by have := HC.out _ _ (HCA.out 1 _ rfl); exact (HB5.out.cell (p := ⟨b, off + j * 5 + 1, none⟩) HBL.out).trans (by simpa [Nat.add_assoc] using this)
                have k2 : W5.cell? ⟨b, off + j * 5 + 2, none⟩ = some (.bool xx) := by have := HC.out _ _ (HCA.out 2 _ rfl); exact (HB5.out.cell (p := ⟨b, off + j * 5 + 2, none⟩) HBL.out).trans (by simpa [Nat.add_assoc] using this)
                have k3 : W5.cell? ⟨b, off + j * 5 + 3, none⟩ = some (.bool xr) := by have := HC.out _ _ (HCA.out 3 _ rfl); exact (HB5.out.cell (p := ⟨b, off + j * 5 + 3, none⟩) HBL.out).trans (by simpa [Nat.add_assoc] using this)
                have k4 : W5.cell? ⟨b, off + j * 5 + 4, none⟩ = some (.bool xk) := by have := HC.out _ _ (HCA.out 4 _ rfl); exact (HB5.out.cell (p := ⟨b, off + j * 5 + 4, none⟩) HBL.out).trans (by simpa [Nat.add_assoc] using this)
                refine hK.out _ _ ⟨k0, k1, k2, k3, k4⟩ (fun hHeld => ?_)
                clear hK K hown hgr hbl hnb hni5 xa1 xa2 xa3 xa4 xa5 c0 c1 c2 c3 c4 RL4
                try simp only [Act.put, List.setIfInBounds_toArray, List.set_cons_zero, List.set_cons_succ]
                refine takeD (i := 8) (d := some 114) (v := ?_) _ rfl rfl (by kernel_rfl) (by kernel_rfl) (by kernel_rfl) (fun _ _ _ h => h) (by rfl) ?_ (by assumption) ?_
                rotate_left
                · (intro w hSw; (try dsimp only at hSw); go_simp) <;> with_reducible rfl
                try simp only [Act.put, List.setIfInBounds_toArray, List.set_cons_zero, List.set_cons_succ]
                have y1 : W5.cell? ⟨b1, 0, none⟩ = some (.slice Aa j ca) := by have := (row_cell HY5.out 0).1; simpa using this
                have y2 := (row_cell HY5.out 0).2
                refine wpAnyH_ready (rs := [9]) (by kernel_rfl) (by simp) ?_
                refine AllReadyH.cons rfl (fun K hK => ?_) AllReadyH.nil
                go_simp
                refine hK.out _ _ ?_ (fun hHeld => ?_)
                · have hb2 := HBL.out
                  have hb3 := HB1.out
                  rw [World.cell?_setCell_far _ _ _ _ (by simp; omega), World.cell?_setCell_far _ _ _ _ (by simp; omega), World.cell?_setCell_far _ _ _ _ (by simp; omega), World.cell?_setCell_far _ _ _ _ (by simp; omega), World.cell?_setCell_far _ _ _ _ (by simp; omega)]
                  exact hHeld
                clear hK K y1 y2 k0 k1 k2 k3 k4 hHeld
                try simp only [Act.put, List.setIfInBounds_toArray, List.set_cons_zero, List.set_cons_succ]
                refine wpAnyH_done (by kernel_rfl) ?_ _
                obtain ⟨W6, hW6⟩ : ∃ W6, W5.setCell ⟨b1, 0, none⟩ (.slice Aa2 (j + 1) ca2) = W6 := ⟨_, rfl⟩
                simp only [hW6]
                have HX6 : Hid (W6.heap[w.heap.size]? = some (.cells #[.slice none 0 0, .slice none 0 0] 31 (0, 0))) := by rw [← hW6]; exact (set_far _ _ (by have := HB1.out; omega)).trans HX5.out
                have HY6 : Hid (W6.heap[b1]? = some (.cells #[.slice Aa2 (j + 1) ca2, .slice Al j cl] 31 (0, 0))) := by rw [← hW6]; have := set_at HY5.out 0 (.slice Aa2 (j + 1) ca2); unfold Hid; simpa using this
                have HNI6 : Hid (NI (b1 + 1) W6 (.slice Aa2 (j + 1) ca2) (j + 1) (.slice Al j cl) j vs l) := by rw [← hW6]; exact HNI5.out.same (fun q hq _ => set_far _ _ (by omega))
                have HB6 : Hid (Below w.heap.size w W6) := by rw [← hW6]; exact HB5.out.setCell (p := ⟨b1, 0, none⟩) (by have := HB1.out; simp; omega) _
                clear hW6
                have g1 : W6.cell? ⟨b, off + j * 5 + 1, none⟩ = some (.int .i64 (xn : Int)) := by have := HC.out _ _ (HCA.out 1 _ rfl); exact (HB6.out.cell (p := ⟨b, off + j * 5 + 1, none⟩) HBL.out).trans (by simpa [Nat.add_assoc] using this)
                have xb1 : W6.cell? ⟨b1, 1, none⟩ = some (.slice Al j cl) := by have := (row_cell HY6.out 1).1; simpa using this
                have xb2 : W6.drew.cell? ⟨b1, 1, none⟩ = some (.slice Al j cl) := xb1
                have hxn : xn ≤ 1048576 := by have := HGX.out; omega
                have HMK := Lib.hid (make_u32 xn hxn)
                have HRM := Lib.hid (row_made xn hxn)
                have xb3 : (W6.alloc (.cells (madeCells #[.int .u32 0] xn) 39)).cell? ⟨b1, 1, none⟩ = some (.slice Al j cl) := cell_al _ xb1
                have xb4 : (W6.alloc (.cells (madeCells #[.int .u32 0] xn) 39)).drew.cell? ⟨b1, 1, none⟩ = some (.slice Al j cl) := xb3
                have xb5 : ((W6.alloc (.cells (madeCells #[.int .u32 0] xn) 39)).alloc (.cells #[.slice (some ⟨W6.heap.size, 0, none⟩) xn xn] 40)).cell? ⟨b1, 1, none⟩ = some (.slice Al j cl) := cell_al _ xb3
                have xb6 : ((W6.alloc (.cells (madeCells #[.int .u32 0] xn) 39)).alloc (.cells #[.slice (some ⟨W6.heap.size, 0, none⟩) xn xn] 40)).drew.cell? ⟨b1, 1, none⟩ = some (.slice Al j cl) := xb5
                go_wp2_with fail
                refine wp_region_held_drew (S := fun w' => w'.cell? ⟨b, off + j * 5 + 1, none⟩ = some (.int .i64 (xn : Int))) (by kernel_rfl) ?_ (fun hHeld => ?_)
                · exact g1
                refine takeD (i := 0) (d := some 115) (v := ?_) _ rfl rfl (by kernel_rfl) (by kernel_rfl) (by kernel_rfl) (fun _ _ _ h => h) (by rfl) ?_ (by assumption) ?_
                rotate_left
                · (intro w hSw; (try dsimp only at hSw); go_simp) <;> with_reducible rfl
                try simp only [Act.put, List.setIfInBounds_toArray, List.set_cons_zero, List.set_cons_succ]
                refine takeD (i := 2) (d := some 117) (v := ?_) _ rfl rfl (by kernel_rfl) (by kernel_rfl) (by kernel_rfl) (fun _ _ _ h => h) (by rfl) ?_ (by assumption) ?_
                rotate_left
                · (intro w hSw; (try dsimp only at hSw); go_simp) <;> with_reducible rfl
                try simp only [Act.put, List.setIfInBounds_toArray, List.set_cons_zero, List.set_cons_succ]
                refine takeD (i := 3) (d := some 118) (v := ?_) _ rfl rfl (by kernel_rfl) (by kernel_rfl) (by kernel_rfl) (fun _ _ _ h => h) (by rfl) ?_ (by assumption) ?_
                rotate_left
                · (intro w hSw; (try dsimp only at hSw); go_simp) <;> with_reducible rfl
                try simp only [Act.put, List.setIfInBounds_toArray, List.set_cons_zero, List.set_cons_succ]
                refine takeD (i := 4) (d := some 119) (v := ?_) _ rfl rfl (by kernel_rfl) (by kernel_rfl) (by kernel_rfl) (fun _ _ _ h => h) (by rfl) ?_ (by assumption) ?_
                rotate_left
                · (intro w hSw; (try dsimp only at hSw); go_simp) <;> with_reducible rfl
                try simp only [Act.put, List.setIfInBounds_toArray, List.set_cons_zero, List.set_cons_succ]
                refine takeD (i := 5) (d := some 120) (v := ?_) _ rfl rfl (by kernel_rfl) (by kernel_rfl) (by kernel_rfl) (fun _ _ _ h => h) (by rfl) ?_ (by assumption) ?_
                rotate_left
                · (intro w hSw; (try dsimp only at hSw); go_simp) <;> with_reducible rfl
                try simp only [Act.put, List.setIfInBounds_toArray, List.set_cons_zero, List.set_cons_succ]
                refine takeD (i := 6) (d := some 121) (v := ?_) _ rfl rfl (by kernel_rfl) (by kernel_rfl) (by kernel_rfl) (fun _ _ _ h => h) (by rfl) ?_ (by assumption) ?_
                rotate_left
                · (intro w hSw; (try dsimp only at hSw); go_simp) <;> with_reducible rfl
                try simp only [Act.put, List.setIfInBounds_toArray, List.set_cons_zero, List.set_cons_succ]
                refine wpAnyH_ready (rs := [1, 7]) (by kernel_rfl) (by simp) ?_
                refine AllReadyH.cons rfl (fun K hK => ?_) (AllReadyH.cons rfl (fun K hK => ?_) AllReadyH.nil)
                · go_simp
                  refine hK.out _ _ hHeld (fun hHeld => ?_)
                  clear hK K
                  try simp only [Act.put, List.setIfInBounds_toArray, List.set_cons_zero, List.set_cons_succ]
                  refine wpAnyH_ready (rs := [7]) (by kernel_rfl) (by simp) ?_
                  refine AllReadyH.cons rfl (fun K hK => ?_) AllReadyH.nil
                  go_simp
                  try rw [HMK.out]
                  try go_simp
                  refine hK.out _ _ (cell_al _ hHeld) (fun hHeld => ?_)
                  clear hK K
                  try simp only [Act.put, List.setIfInBounds_toArray, List.set_cons_zero, List.set_cons_succ]
                  refine wpAnyH_ready (rs := [8]) (by kernel_rfl) (by simp) ?_
                  refine AllReadyH.cons rfl (fun K hK => ?_) AllReadyH.nil
                  go_simp
                  refine hK.out _ _ (cell_al _ hHeld) (fun hHeld => ?_)
                  clear hK K
                  try simp only [Act.put, List.setIfInBounds_toArray, List.set_cons_zero, List.set_cons_succ]
                  obtain ⟨M2, hM2⟩ : ∃ M2, ((W6.alloc (.cells (madeCells #[.int .u32 0] xn) 39)).alloc (.cells #[.slice (some ⟨W6.heap.size, 0, none⟩) xn xn] 40)).drew = M2 := ⟨_, rfl⟩
                  simp only [hM2] at hHeld ⊢
                  have BM : Hid (Below W6.heap.size W6 M2) := by rw [← hM2]; exact below_drewN (((Below.refl _ _).alloc (Nat.le_refl _) _).alloc (by simp) _) 1
                  have RLM : Hid (Reads M2 (W6.heap.size + 1 + 1) 1 (some ⟨W6.heap.size + 1, 0, none⟩) 1 [.slice (some ⟨W6.heap.size, 0, none⟩) xn xn]) := by
                    rw [← hM2]
                    have := reads_lit 1 [.slice (some ⟨W6.heap.size, 0, none⟩) xn xn] 40 (W6.alloc (.cells (madeCells #[.int .u32 0] xn) 39)) rfl
                    refine Reads.drew ?_
                    simpa using this
                  have HUM : Hid (M2.ownsRow (b1 + 1) 39 1 (.slice (some ⟨W6.heap.size, 0, none⟩) xn xn) xn (CU (List.replicate xn 0))) := by
                    rw [← hM2]
                    exact own_base (own_below (HRM.out W6) (below_drewN ((Below.refl _ _).alloc (Nat.le_refl _) _) 1)) (Array.getElem?_eq_some_iff.1 HY6.out).1
                  have HNIM := Lib.hid (HNI6.out.below BM.out)
                  have HXM := Lib.hid (heap_keep BM.out HX6.out)
                  have HYM := Lib.hid (heap_keep BM.out HY6.out)
                  have HBM : Hid (Below w.heap.size w M2) := HB6.out.trans (BM.out.mono HB6.out.size)
                  have HSM : Hid (M2.heap.size = W6.heap.size + 2) := by rw [← hM2]; unfold Hid; simp
                  clear hM2
                  refine wpAnyH_ready (rs := [9]) (by kernel_rfl) (by simp) ?_
                  refine AllReadyH.cons rfl (fun K hK => ?_) AllReadyH.nil
                  refine wp_append_any _ (.tmp 116) (.tmp 123) 29 rfl (b1 + 1) 40 i1 (.slice none 0 0) 1 24 Try.underlying29 hinf1 hy0 hy1 hy2 rfl (by decide) (.slice Al j cl) j vs rfl HNIM.out.ol (W6.heap.size + 1 + 1) (some ⟨W6.heap.size + 1, 0, none⟩) 1 1 [.slice (some ⟨W6.heap.size, 0, none⟩) xn xn] rfl RLM.out (fun u hu => by simp at hu; subst hu; rfl) (by have := HM.out; have := HX.out; unfold maxLen; omega) (by have := HM.out; have := HX.out; omega) (by have := (Array.getElem?_eq_some_iff.1 HYM.out).1; omega) ?_
                  intro vl2 W7 hown hgr hbl
                  obtain ⟨Al2, cl2, rfl⟩ := slice_form hown
                  have hvl : vs.length = j := by have := HNIM.out.ol.1; omega
                  have hni7 := HNIM.out.growL hvl HXS.out HUM.out (fun e => by have := (HNI6.out.oa.lt _ e).2; omega) (fun e => by have := (HNI6.out.ol.lt _ e).2; omega) hown hgr hbl
                  have HNI7 := Lib.hid hni7
                  have hnb : ∀ q, q < b1 + 1 → some q ≠ (Value.slice Al j cl).ownBlock := fun q hq e => by have := (HNIM.out.ol.lt q e.symm).1; omega
                  have HB1M : Hid (b1 < M2.heap.size) := (Array.getElem?_eq_some_iff.1 HYM.out).1
                  have HX7 : Hid (W7.heap[w.heap.size]? = some (.cells #[.slice none 0 0, .slice none 0 0] 31 (0, 0))) := (hgr.block _ (by have := HB1.out; have := HB1M.out; omega) (fun e => hnb _ (by have := HB1.out; omega) e)).trans HXM.out
                  have HY7 : Hid (W7.heap[b1]? = some (.cells #[.slice Aa2 (j + 1) ca2, .slice Al j cl] 31 (0, 0))) := (hgr.block _ HB1M.out (fun e => hnb _ (by omega) e)).trans HYM.out
                  have HB7 : Hid (Below w.heap.size w W7) := HBM.out.grown hgr HBM.out.size (fun q hq => by have := (HNIM.out.ol.lt q hq).1; have := HB1.out; omega)
                  have k1 : W7.cell? ⟨b, off + j * 5 + 1, none⟩ = some (.int .i64 (xn : Int)) := by have := HC.out _ _ (HCA.out 1 _ rfl); exact (HB7.out.cell (p := ⟨b, off + j * 5 + 1, none⟩) HBL.out).trans (by simpa [Nat.add_assoc] using this)
                  refine hK.out _ _ k1 (fun hHeld => ?_)
                  clear hK K hown hgr hbl hnb hni7 hvl xb1 xb2 xb3 xb4 xb5 xb6 g1 RLM HUM
                  try simp only [Act.put, List.setIfInBounds_toArray, List.set_cons_zero, List.set_cons_succ]
                  refine takeD (i := 10) (d := some 125) (v := ?_) _ rfl rfl (by kernel_rfl) (by kernel_rfl) (by kernel_rfl) (fun _ _ _ h => h) (by rfl) ?_ (by assumption) ?_
                  rotate_left
                  · (intro w hSw; (try dsimp only at hSw); go_simp) <;> with_reducible rfl
                  try simp only [Act.put, List.setIfInBounds_toArray, List.set_cons_zero, List.set_cons_succ]
                  have y1 : W7.cell? ⟨b1, 1, none⟩ = some (.slice Al j cl) := by have := (row_cell HY7.out 1).1; simpa using this
                  have y2 := (row_cell HY7.out 1).2
                  refine wpAnyH_ready (rs := [11]) (by kernel_rfl) (by simp) ?_
                  refine AllReadyH.cons rfl (fun K hK => ?_) AllReadyH.nil
                  go_simp
                  refine hK.out _ _ ?_ (fun hHeld => ?_)
                  · have hb2 := HBL.out
                    have hb3 := HB1.out
                    rw [World.cell?_setCell_far _ _ _ _ (by simp; omega)]
                    exact hHeld
                  clear hK K y1 y2 k1 hHeld
                  try simp only [Act.put, List.setIfInBounds_toArray, List.set_cons_zero, List.set_cons_succ]
                  refine wpAnyH_done (by kernel_rfl) ?_ _
                  obtain ⟨W8, hW8⟩ : ∃ W8, W7.setCell ⟨b1, 1, none⟩ (.slice Al2 (j + 1) cl2) = W8 := ⟨_, rfl⟩
                  simp only [hW8]
                  have HX8 : Hid (W8.heap[w.heap.size]? = some (.cells #[.slice none 0 0, .slice none 0 0] 31 (0, 0))) := by rw [← hW8]; exact (set_far _ _ (by have := HB1.out; omega)).trans HX7.out
                  have HY8 : Hid (W8.heap[b1]? = some (.cells #[.slice Aa2 (j + 1) ca2, .slice Al2 (j + 1) cl2] 31 (0, 0))) := by rw [← hW8]; have := set_at HY7.out 1 (.slice Al2 (j + 1) cl2); unfold Hid; simpa using this
                  have HNI8 : Hid (NI (b1 + 1) W8 (.slice Aa2 (j + 1) ca2) (j + 1) (.slice Al2 (j + 1) cl2) (j + 1) (vs ++ [.slice (some ⟨W6.heap.size, 0, none⟩) xn xn]) l) := by rw [← hW8]; exact NI.same HNI7.out (fun q hq _ => set_far _ _ (by omega))
                  have HB8 : Hid (Below w.heap.size w W8) := by rw [← hW8]; exact HB7.out.setCell (p := ⟨b1, 1, none⟩) (by have := HB1.out; simp; omega) _
                  clear hW8
                  go_wp2_with fail
                  go_roundw
                  case rel =>
                    have Q : N2Rel k b1 l w (.int .i64 ((j : Int) + 1)) W8 := ⟨⟨j + 1, Aa2, ca2, Al2, cl2, _, HX.out, by go_num, HOVN.out, HB8.out, HX8.out, HY8.out, HNI8.out⟩⟩
                    first | exact Q | ((repeat apply Exists.intro); exact ⟨Q, rfl⟩)
                  case measure => have := HX.out; simp [intOf]; omega
                · go_simp
                  try rw [HMK.out]
                  try go_simp
                  refine hK.out _ _ (cell_al _ hHeld) (fun hHeld => ?_)
                  clear hK K
                  try simp only [Act.put, List.setIfInBounds_toArray, List.set_cons_zero, List.set_cons_succ]
                  refine wpAnyH_ready (rs := [1, 8]) (by kernel_rfl) (by simp) ?_
                  refine AllReadyH.cons rfl (fun K hK => ?_) (AllReadyH.cons rfl (fun K hK => ?_) AllReadyH.nil)
                  · go_simp
                    refine hK.out _ _ hHeld (fun hHeld => ?_)
                    clear hK K
                    try simp only [Act.put, List.setIfInBounds_toArray, List.set_cons_zero, List.set_cons_succ]
                    refine wpAnyH_ready (rs := [8]) (by kernel_rfl) (by simp) ?_
                    refine AllReadyH.cons rfl (fun K hK => ?_) AllReadyH.nil
                    go_simp
                    refine hK.out _ _ (cell_al _ hHeld) (fun hHeld => ?_)
                    clear hK K
                    try simp only [Act.put, List.setIfInBounds_toArray, List.set_cons_zero, List.set_cons_succ]
                    obtain ⟨M2, hM2⟩ : ∃ M2, ((W6.alloc (.cells (madeCells #[.int .u32 0] xn) 39)).alloc (.cells #[.slice (some ⟨W6.heap.size, 0, none⟩) xn xn] 40)).drew = M2 := ⟨_, rfl⟩
                    simp only [hM2] at hHeld ⊢
                    have BM : Hid (Below W6.heap.size W6 M2) := by rw [← hM2]; exact below_drewN (((Below.refl _ _).alloc (Nat.le_refl _) _).alloc (by simp) _) 1
                    have RLM : Hid (Reads M2 (W6.heap.size + 1 + 1) 1 (some ⟨W6.heap.size + 1, 0, none⟩) 1 [.slice (some ⟨W6.heap.size, 0, none⟩) xn xn]) := by
                      rw [← hM2]
                      have := reads_lit 1 [.slice (some ⟨W6.heap.size, 0, none⟩) xn xn] 40 (W6.alloc (.cells (madeCells #[.int .u32 0] xn) 39)) rfl
                      refine Reads.drew ?_
                      simpa using this
                    have HUM : Hid (M2.ownsRow (b1 + 1) 39 1 (.slice (some ⟨W6.heap.size, 0, none⟩) xn xn) xn (CU (List.replicate xn 0))) := by
                      rw [← hM2]
                      exact own_base (own_below (HRM.out W6) (below_drewN ((Below.refl _ _).alloc (Nat.le_refl _) _) 1)) (Array.getElem?_eq_some_iff.1 HY6.out).1
                    have HNIM := Lib.hid (HNI6.out.below BM.out)
                    have HXM := Lib.hid (heap_keep BM.out HX6.out)
                    have HYM := Lib.hid (heap_keep BM.out HY6.out)
                    have HBM : Hid (Below w.heap.size w M2) := HB6.out.trans (BM.out.mono HB6.out.size)
                    have HSM : Hid (M2.heap.size = W6.heap.size + 2) := by rw [← hM2]; unfold Hid; simp
                    clear hM2
                    refine wpAnyH_ready (rs := [9]) (by kernel_rfl) (by simp) ?_
                    refine AllReadyH.cons rfl (fun K hK => ?_) AllReadyH.nil
                    refine wp_append_any _ (.tmp 116) (.tmp 123) 29 rfl (b1 + 1) 40 i1 (.slice none 0 0) 1 24 Try.underlying29 hinf1 hy0 hy1 hy2 rfl (by decide) (.slice Al j cl) j vs rfl HNIM.out.ol (W6.heap.size + 1 + 1) (some ⟨W6.heap.size + 1, 0, none⟩) 1 1 [.slice (some ⟨W6.heap.size, 0, none⟩) xn xn] rfl RLM.out (fun u hu => by simp at hu; subst hu; rfl) (by have := HM.out; have := HX.out; unfold maxLen; omega) (by have := HM.out; have := HX.out; omega) (by have := (Array.getElem?_eq_some_iff.1 HYM.out).1; omega) ?_
                    intro vl2 W7 hown hgr hbl
                    obtain ⟨Al2, cl2, rfl⟩ := slice_form hown
                    have hvl : vs.length = j := by have := HNIM.out.ol.1; omega
                    have hni7 := HNIM.out.growL hvl HXS.out HUM.out (fun e => by have := (HNI6.out.oa.lt _ e).2; omega) (fun e => by have := (HNI6.out.ol.lt _ e).2; omega) hown hgr hbl
                    have HNI7 := Lib.hid hni7
                    have hnb : ∀ q, q < b1 + 1 → some q ≠ (Value.slice Al j cl).ownBlock := fun q hq e => by have := (HNIM.out.ol.lt q e.symm).1; omega
                    have HB1M : Hid (b1 < M2.heap.size) := (Array.getElem?_eq_some_iff.1 HYM.out).1
                    have HX7 : Hid (W7.heap[w.heap.size]? = some (.cells #[.slice none 0 0, .slice none 0 0] 31 (0, 0))) := (hgr.block _ (by have := HB1.out; have := HB1M.out; omega) (fun e => hnb _ (by have := HB1.out; omega) e)).trans HXM.out
                    have HY7 : Hid (W7.heap[b1]? = some (.cells #[.slice Aa2 (j + 1) ca2, .slice Al j cl] 31 (0, 0))) := (hgr.block _ HB1M.out (fun e => hnb _ (by omega) e)).trans HYM.out
                    have HB7 : Hid (Below w.heap.size w W7) := HBM.out.grown hgr HBM.out.size (fun q hq => by have := (HNIM.out.ol.lt q hq).1; have := HB1.out; omega)
                    have k1 : W7.cell? ⟨b, off + j * 5 + 1, none⟩ = some (.int .i64 (xn : Int)) := by have := HC.out _ _ (HCA.out 1 _ rfl); exact (HB7.out.cell (p := ⟨b, off + j * 5 + 1, none⟩) HBL.out).trans (by simpa [Nat.add_assoc] using this)
                    refine hK.out _ _ k1 (fun hHeld => ?_)
                    clear hK K hown hgr hbl hnb hni7 hvl xb1 xb2 xb3 xb4 xb5 xb6 g1 RLM HUM
                    try simp only [Act.put, List.setIfInBounds_toArray, List.set_cons_zero, List.set_cons_succ]
                    refine takeD (i := 10) (d := some 125) (v := ?_) _ rfl rfl (by kernel_rfl) (by kernel_rfl) (by kernel_rfl) (fun _ _ _ h => h) (by rfl) ?_ (by assumption) ?_
                    rotate_left
                    · (intro w hSw; (try dsimp only at hSw); go_simp) <;> with_reducible rfl
                    try simp only [Act.put, List.setIfInBounds_toArray, List.set_cons_zero, List.set_cons_succ]
                    have y1 : W7.cell? ⟨b1, 1, none⟩ = some (.slice Al j cl) := by have := (row_cell HY7.out 1).1; simpa using this
                    have y2 := (row_cell HY7.out 1).2
                    refine wpAnyH_ready (rs := [11]) (by kernel_rfl) (by simp) ?_
                    refine AllReadyH.cons rfl (fun K hK => ?_) AllReadyH.nil
                    go_simp
                    refine hK.out _ _ ?_ (fun hHeld => ?_)
                    · have hb2 := HBL.out
                      have hb3 := HB1.out
                      rw [World.cell?_setCell_far _ _ _ _ (by simp; omega)]
                      exact hHeld
                    clear hK K y1 y2 k1 hHeld
                    try simp only [Act.put, List.setIfInBounds_toArray, List.set_cons_zero, List.set_cons_succ]
                    refine wpAnyH_done (by kernel_rfl) ?_ _
                    obtain ⟨W8, hW8⟩ : ∃ W8, W7.setCell ⟨b1, 1, none⟩ (.slice Al2 (j + 1) cl2) = W8 := ⟨_, rfl⟩
                    simp only [hW8]
                    have HX8 : Hid (W8.heap[w.heap.size]? = some (.cells #[.slice none 0 0, .slice none 0 0] 31 (0, 0))) := by rw [← hW8]; exact (set_far _ _ (by have := HB1.out; omega)).trans HX7.out
                    have HY8 : Hid (W8.heap[b1]? = some (.cells #[.slice Aa2 (j + 1) ca2, .slice Al2 (j + 1) cl2] 31 (0, 0))) := by rw [← hW8]; have := set_at HY7.out 1 (.slice Al2 (j + 1) cl2); unfold Hid; simpa using this
                    have HNI8 : Hid (NI (b1 + 1) W8 (.slice Aa2 (j + 1) ca2) (j + 1) (.slice Al2 (j + 1) cl2) (j + 1) (vs ++ [.slice (some ⟨W6.heap.size, 0, none⟩) xn xn]) l) := by rw [← hW8]; exact NI.same HNI7.out (fun q hq _ => set_far _ _ (by omega))
                    have HB8 : Hid (Below w.heap.size w W8) := by rw [← hW8]; exact HB7.out.setCell (p := ⟨b1, 1, none⟩) (by have := HB1.out; simp; omega) _
                    clear hW8
                    go_wp2_with fail
                    go_roundw
                    case rel =>
                      have Q : N2Rel k b1 l w (.int .i64 ((j : Int) + 1)) W8 := ⟨⟨j + 1, Aa2, ca2, Al2, cl2, _, HX.out, by go_num, HOVN.out, HB8.out, HX8.out, HY8.out, HNI8.out⟩⟩
                      first | exact Q | ((repeat apply Exists.intro); exact ⟨Q, rfl⟩)
                    case measure => have := HX.out; simp [intOf]; omega
                  · go_simp
                    refine hK.out _ _ (cell_al _ hHeld) (fun hHeld => ?_)
                    clear hK K
                    try simp only [Act.put, List.setIfInBounds_toArray, List.set_cons_zero, List.set_cons_succ]
                    refine wpAnyH_ready (rs := [1]) (by kernel_rfl) (by simp) ?_
                    refine AllReadyH.cons rfl (fun K hK => ?_) AllReadyH.nil
                    go_simp
                    refine hK.out _ _ hHeld (fun hHeld => ?_)
                    clear hK K
                    try simp only [Act.put, List.setIfInBounds_toArray, List.set_cons_zero, List.set_cons_succ]
                    obtain ⟨M2, hM2⟩ : ∃ M2, ((W6.alloc (.cells (madeCells #[.int .u32 0] xn) 39)).alloc (.cells #[.slice (some ⟨W6.heap.size, 0, none⟩) xn xn] 40)).drew = M2 := ⟨_, rfl⟩
                    simp only [hM2] at hHeld ⊢
                    have BM : Hid (Below W6.heap.size W6 M2) := by rw [← hM2]; exact below_drewN (((Below.refl _ _).alloc (Nat.le_refl _) _).alloc (by simp) _) 1
                    have RLM : Hid (Reads M2 (W6.heap.size + 1 + 1) 1 (some ⟨W6.heap.size + 1, 0, none⟩) 1 [.slice (some ⟨W6.heap.size, 0, none⟩) xn xn]) := by
                      rw [← hM2]
                      have := reads_lit 1 [.slice (some ⟨W6.heap.size, 0, none⟩) xn xn] 40 (W6.alloc (.cells (madeCells #[.int .u32 0] xn) 39)) rfl
                      refine Reads.drew ?_
                      simpa using this
                    have HUM : Hid (M2.ownsRow (b1 + 1) 39 1 (.slice (some ⟨W6.heap.size, 0, none⟩) xn xn) xn (CU (List.replicate xn 0))) := by
                      rw [← hM2]
                      exact own_base (own_below (HRM.out W6) (below_drewN ((Below.refl _ _).alloc (Nat.le_refl _) _) 1)) (Array.getElem?_eq_some_iff.1 HY6.out).1
                    have HNIM := Lib.hid (HNI6.out.below BM.out)
                    have HXM := Lib.hid (heap_keep BM.out HX6.out)
                    have HYM := Lib.hid (heap_keep BM.out HY6.out)
                    have HBM : Hid (Below w.heap.size w M2) := HB6.out.trans (BM.out.mono HB6.out.size)
                    have HSM : Hid (M2.heap.size = W6.heap.size + 2) := by rw [← hM2]; unfold Hid; simp
                    clear hM2
                    refine wpAnyH_ready (rs := [9]) (by kernel_rfl) (by simp) ?_
                    refine AllReadyH.cons rfl (fun K hK => ?_) AllReadyH.nil
                    refine wp_append_any _ (.tmp 116) (.tmp 123) 29 rfl (b1 + 1) 40 i1 (.slice none 0 0) 1 24 Try.underlying29 hinf1 hy0 hy1 hy2 rfl (by decide) (.slice Al j cl) j vs rfl HNIM.out.ol (W6.heap.size + 1 + 1) (some ⟨W6.heap.size + 1, 0, none⟩) 1 1 [.slice (some ⟨W6.heap.size, 0, none⟩) xn xn] rfl RLM.out (fun u hu => by simp at hu; subst hu; rfl) (by have := HM.out; have := HX.out; unfold maxLen; omega) (by have := HM.out; have := HX.out; omega) (by have := (Array.getElem?_eq_some_iff.1 HYM.out).1; omega) ?_
                    intro vl2 W7 hown hgr hbl
                    obtain ⟨Al2, cl2, rfl⟩ := slice_form hown
                    have hvl : vs.length = j := by have := HNIM.out.ol.1; omega
                    have hni7 := HNIM.out.growL hvl HXS.out HUM.out (fun e => by have := (HNI6.out.oa.lt _ e).2; omega) (fun e => by have := (HNI6.out.ol.lt _ e).2; omega) hown hgr hbl
                    have HNI7 := Lib.hid hni7
                    have hnb : ∀ q, q < b1 + 1 → some q ≠ (Value.slice Al j cl).ownBlock := fun q hq e => by have := (HNIM.out.ol.lt q e.symm).1; omega
                    have HB1M : Hid (b1 < M2.heap.size) := (Array.getElem?_eq_some_iff.1 HYM.out).1
                    have HX7 : Hid (W7.heap[w.heap.size]? = some (.cells #[.slice none 0 0, .slice none 0 0] 31 (0, 0))) := (hgr.block _ (by have := HB1.out; have := HB1M.out; omega) (fun e => hnb _ (by have := HB1.out; omega) e)).trans HXM.out
                    have HY7 : Hid (W7.heap[b1]? = some (.cells #[.slice Aa2 (j + 1) ca2, .slice Al j cl] 31 (0, 0))) := (hgr.block _ HB1M.out (fun e => hnb _ (by omega) e)).trans HYM.out
                    have HB7 : Hid (Below w.heap.size w W7) := HBM.out.grown hgr HBM.out.size (fun q hq => by have := (HNIM.out.ol.lt q hq).1; have := HB1.out; omega)
                    have k1 : W7.cell? ⟨b, off + j * 5 + 1, none⟩ = some (.int .i64 (xn : Int)) := by have := HC.out _ _ (HCA.out 1 _ rfl); exact (HB7.out.cell (p := ⟨b, off + j * 5 + 1, none⟩) HBL.out).trans (by simpa [Nat.add_assoc] using this)
                    refine hK.out _ _ k1 (fun hHeld => ?_)
                    clear hK K hown hgr hbl hnb hni7 hvl xb1 xb2 xb3 xb4 xb5 xb6 g1 RLM HUM
                    try simp only [Act.put, List.setIfInBounds_toArray, List.set_cons_zero, List.set_cons_succ]
                    refine takeD (i := 10) (d := some 125) (v := ?_) _ rfl rfl (by kernel_rfl) (by kernel_rfl) (by kernel_rfl) (fun _ _ _ h => h) (by rfl) ?_ (by assumption) ?_
                    rotate_left
                    · (intro w hSw; (try dsimp only at hSw); go_simp) <;> with_reducible rfl
                    try simp only [Act.put, List.setIfInBounds_toArray, List.set_cons_zero, List.set_cons_succ]
                    have y1 : W7.cell? ⟨b1, 1, none⟩ = some (.slice Al j cl) := by have := (row_cell HY7.out 1).1; simpa using this
                    have y2 := (row_cell HY7.out 1).2
                    refine wpAnyH_ready (rs := [11]) (by kernel_rfl) (by simp) ?_
                    refine AllReadyH.cons rfl (fun K hK => ?_) AllReadyH.nil
                    go_simp
                    refine hK.out _ _ ?_ (fun hHeld => ?_)
                    · have hb2 := HBL.out
                      have hb3 := HB1.out
                      rw [World.cell?_setCell_far _ _ _ _ (by simp; omega)]
                      exact hHeld
                    clear hK K y1 y2 k1 hHeld
                    try simp only [Act.put, List.setIfInBounds_toArray, List.set_cons_zero, List.set_cons_succ]
                    refine wpAnyH_done (by kernel_rfl) ?_ _
                    obtain ⟨W8, hW8⟩ : ∃ W8, W7.setCell ⟨b1, 1, none⟩ (.slice Al2 (j + 1) cl2) = W8 := ⟨_, rfl⟩
                    simp only [hW8]
                    have HX8 : Hid (W8.heap[w.heap.size]? = some (.cells #[.slice none 0 0, .slice none 0 0] 31 (0, 0))) := by rw [← hW8]; exact (set_far _ _ (by have := HB1.out; omega)).trans HX7.out
                    have HY8 : Hid (W8.heap[b1]? = some (.cells #[.slice Aa2 (j + 1) ca2, .slice Al2 (j + 1) cl2] 31 (0, 0))) := by rw [← hW8]; have := set_at HY7.out 1 (.slice Al2 (j + 1) cl2); unfold Hid; simpa using this
                    have HNI8 : Hid (NI (b1 + 1) W8 (.slice Aa2 (j + 1) ca2) (j + 1) (.slice Al2 (j + 1) cl2) (j + 1) (vs ++ [.slice (some ⟨W6.heap.size, 0, none⟩) xn xn]) l) := by rw [← hW8]; exact NI.same HNI7.out (fun q hq _ => set_far _ _ (by omega))
                    have HB8 : Hid (Below w.heap.size w W8) := by rw [← hW8]; exact HB7.out.setCell (p := ⟨b1, 1, none⟩) (by have := HB1.out; simp; omega) _
                    clear hW8
                    go_wp2_with fail
                    go_roundw
                    case rel =>
                      have Q : N2Rel k b1 l w (.int .i64 ((j : Int) + 1)) W8 := ⟨⟨j + 1, Aa2, ca2, Al2, cl2, _, HX.out, by go_num, HOVN.out, HB8.out, HX8.out, HY8.out, HNI8.out⟩⟩
                      first | exact Q | ((repeat apply Exists.intro); exact ⟨Q, rfl⟩)
                    case measure => have := HX.out; simp [intOf]; omega
        · have hik : i = k := by have := HIK.out; omega
          clear hlt
          subst hik
          have HF : Hid (newErr l = 0) := by
            unfold Hid
            rw [HZ.out, ← HE2.out, if_neg]
            rw [HOV.out, List.drop_of_length_le (by have := HN.out; omega)]
            simp [ovL]
          have s0 := (row_cell HH1.out 0).1
          have s1 := (row_cell HH1.out 1).1
          have t0 := (row_cell HH.out 0).1
          have t1 := (row_cell HH.out 1).1
          have f0 := (row_cell HH.out 0).2
          have f1 := (row_cell HH.out 1).2
          simp at s0 s1 t0 t1
          go_wp2_with fail
          refine bodyPost_ret (results_cell_tmp rfl _ _ w.heap.size _ _ rfl (set_two HH.out _ _) Try.underlying31 rfl (by kernel_rfl)) rfl ?_
          refine RNewPost.ok HF.out (fun g hg => ?_) ((HB.out.setCell (p := ⟨w.heap.size, 0, none⟩) (Nat.le_refl _) _).setCell (p := ⟨w.heap.size, 1, none⟩) (Nat.le_refl _) _)
          have hni := NI.same (w' := (wr.setCell ⟨w.heap.size, 0, none⟩ (.slice Aa i ca)).setCell ⟨w.heap.size, 1, none⟩ (.slice Al i cl)) HNI.out (fun q hq _ => by have := HB1.out; rw [set_far _ _ (by omega), set_far _ _ (by omega)])
          have hg1 : g < b1 + 1 := by have := HB1.out; omega
          refine ⟨?_, vs, ?_, fun j u L hu hL => ?_, fun u hu => ?_⟩
          · have := St.of_own hni.oa hg1
            rw [List.take_of_length_le (by have := HN.out; omega)] at this
            rw [HN.out]; exact this
          · have := St.of_own hni.ol hg1
            unfold LL0
            rw [List.length_map, HN.out]; exact this
          · obtain ⟨x, blk, e1, e2, e3, _, _⟩ := hni.each j u hu
            unfold LL0 at hL
            rw [List.getElem?_map, e1] at hL
            simp at hL
            subst hL
            rw [List.length_replicate]
            exact St.of_own e3 hg1
          · obtain ⟨j, hj⟩ := List.getElem?_of_mem hu
            obtain ⟨x, blk, _, e2, _⟩ := hni.each j u hj
            rw [e2]; rfl
end Go.Proofs.Ytliggejkpmlgfaa
