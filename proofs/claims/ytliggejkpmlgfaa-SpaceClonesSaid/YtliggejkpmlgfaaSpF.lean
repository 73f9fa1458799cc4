/-
  The contract of find, and of what asks it. Each statement bears its own conditions.
-/
import Derived.Test.YtliggejkpmlgfaaSpN
namespace Go.Proofs.Ytliggejkpmlgfaa
open Go.RowKit
set_option linter.unusedVariables false
set_option linter.unusedSimpArgs false
theorem set_at {w : World} {g : Nat} {C : Array Value} {t : TypeId} {fr : Nat × Nat} (h : w.heap[g]? = some (.cells C t fr)) (o : Nat) (v : Value) : (w.setCell ⟨g, o, none⟩ v).heap[g]? = some (.cells (C.setIfInBounds o v) t fr) := by
  have hl : g < w.heap.size := by
    by_cases hlt : g < w.heap.size
    · exact hlt
    · rw [Array.getElem?_eq_none (by omega)] at h; cases h
  simp [World.setCell, h, Array.getElem?_modify]
theorem set_far {w : World} {g k : Nat} (o : Nat) (v : Value) (h : k ≠ g) : (w.setCell ⟨g, o, none⟩ v).heap[k]? = w.heap[k]? := Below.heap_setCell _ _ _ _ h
theorem range_heap {w : World} {g : Nat} {L : List Value} {t : TypeId} (h : w.heap[g]? = some (.cells L.toArray t (0, 0))) : w.rangeAt g 0 L := by
  intro j v hv
  have := (row_cell h j).1
  simpa [hv] using this
theorem set_five {w : World} {g : Nat} {c0 c1 c2 c3 c4 : Value} {t : TypeId} (h : w.heap[g]? = some (.cells #[c0, c1, c2, c3, c4] t (0, 0))) (x0 x1 x2 x3 x4 : Value) :
    (((((w.setCell ⟨g, 0, none⟩ x0).setCell ⟨g, 1, none⟩ x1).setCell ⟨g, 2, none⟩ x2).setCell ⟨g, 3, none⟩ x3).setCell ⟨g, 4, none⟩ x4).rangeAt g 0 [x0, x1, x2, x3, x4] := by
  have h0 := set_at h 0 x0
  have h1 := set_at h0 1 x1
  have h2 := set_at h1 2 x2
  have h3 := set_at h2 3 x3
  have h4 := set_at h3 4 x4
  exact range_heap (t := t) (by simpa using h4)
theorem below_five {B : Nat} {a w : World} (h : Below B a w) {g : Nat} (hg : B ≤ g) (x0 x1 x2 x3 x4 : Value) : Below B a (((((w.setCell ⟨g, 0, none⟩ x0).setCell ⟨g, 1, none⟩ x1).setCell ⟨g, 2, none⟩ x2).setCell ⟨g, 3, none⟩ x3).setCell ⟨g, 4, none⟩ x4) :=
  ((((h.setCell (p := ⟨g, 0, none⟩) hg x0).setCell (p := ⟨g, 1, none⟩) hg x1).setCell (p := ⟨g, 2, none⟩) hg x2).setCell (p := ⟨g, 3, none⟩) hg x3).setCell (p := ⟨g, 4, none⟩) hg x4
theorem far_five {w : World} {g k : Nat} (hk : k ≠ g) (x0 x1 x2 x3 x4 : Value) : (((((w.setCell ⟨g, 0, none⟩ x0).setCell ⟨g, 1, none⟩ x1).setCell ⟨g, 2, none⟩ x2).setCell ⟨g, 3, none⟩ x3).setCell ⟨g, 4, none⟩ x4).heap[k]? = w.heap[k]? := by
  rw [set_far _ _ hk, set_far _ _ hk, set_far _ _ hk, set_far _ _ hk, set_far _ _ hk]
/-- Where a place's word stands in the row of all words, or -1; and its area. -/
def fdI (at_ : Int) (l : List MA) : Int := match atL at_ l 0 with
  | none => -1
  | some (i, k) => sumW (l.take i) + k
def fdA (at_ : Int) (l : List MA) : MA := match atL at_ l 0 with
  | none => ⟨0, 0, false, false, false⟩
  | some (i, k) => (l[i]?).getD ⟨0, 0, false, false, false⟩
theorem atL_shift (at_ : Int) : ∀ (l : List MA) (i : Nat), atL at_ l i = (atL at_ l 0).map fun q => (q.1 + i, q.2)
  | [], i => rfl
  | x :: r, i => by
    unfold atL
    split
    · simp
    · rw [atL_shift at_ r (i + 1), atL_shift at_ r (0 + 1), Option.map_map]
      congr 1
      funext q
      simp only [Function.comp]
      congr 1
      omega
structure FdRel (at_ : Int) (n : Nat) (l : List MA) (w : World) (v6 v : Value) (wr : World) : Prop where
  ex : ∃ k : Nat, k ≤ n ∧ v = .int .i64 (k : Int) ∧ v6 = .int .i64 (sumW (l.take k)) ∧ atL at_ l 0 = atL at_ (l.drop k) k ∧ Below w.heap.size w wr ∧ wr.heap[w.heap.size]? = some (.cells #[.int .i64 0, .int .i64 0, .bool false, .bool false, .bool false] 57 (0, 0))
set_option maxRecDepth 100000 in
set_option maxHeartbeats 8000000 in
theorem find_any (lo hi p rb : Nat) (l : List MA) (ws : List Int) (at_ : Int) (w : World) (h : SP lo hi w p rb l ws) (hg : GA l) (hf : l.length ≤ 16) (ha : 0 ≤ at_ ∧ at_ ≤ 8589934592) :
    Calls Try.prog 37 #[.pointer (some ⟨p, 0, none⟩), .int .i64 at_] w fun e w' => e = .returned (.tuple #[.int .i64 (fdI at_ l), (fdA at_ l).val]) ∧ Below w.heap.size w w' := by
  obtain ⟨A, c, cap, hp, hst, _, _⟩ := h.st
  obtain ⟨n, hn⟩ : ∃ n, l.length = n := ⟨_, rfl⟩
  have hpw := Nat.lt_of_lt_of_le h.hp.2 h.hs
  rw [hn] at hp hst hf
  have HN := Lib.hid hn
  have H := Lib.hid hst
  have HG := Lib.hid hg
  have HA := Lib.hid ha
  have hf64 : n ≤ 64 := by omega
  have HM := Lib.hid hf
  have HSUM : Hid (sumW l ≤ 1048576) := by have := sumW_le hg; unfold Hid; omega
  obtain ⟨ri, hri⟩ : ∃ ri, fdI at_ l = ri := ⟨_, rfl⟩
  obtain ⟨⟨f0, f1, f2, f3, f4⟩, hra⟩ : ∃ ra, fdA at_ l = ra := ⟨_, rfl⟩
  rw [hri, hra]
  have HRI := Lib.hid hri
  have HRA := Lib.hid hra
  have cp := (row_cell hp 0).1
  simp at cp
  unfold MA.val
  dsimp only
  clear hri hra hg hf h hn hst
  have he : ∀ w : World, (binOp .eql 25 (.pointer (some ⟨p, 0, none⟩)) (.pointer none)).run Try.prog w = .ok (.bool false) w := fun _ => rfl
  go_enter Try.func37, Try.ntmps37
  go_wp2_with fail
  go_loopw [6, 17] (fun v6 v wr => FdRel at_ n l w v6 v wr) (fun _ v => fun _ => n - (intOf v).toNat)
  case atStart => exact ⟨⟨0, Nat.zero_le _, rfl, rfl, by simp, (Below.refl _ _).alloc (Nat.le_refl _) _, heap_alloc_new _ _⟩⟩
  case round =>
    obtain ⟨⟨k, hk, rfl, rfl, hat, hb, hh⟩⟩ := hrel
    have HK := Lib.hid hk
    have HAT := Lib.hid hat
    have HB := Lib.hid hb
    have HH := Lib.hid hh
    clear hk hat hb hh hp cp
    by_cases hlt : k < n
    · have hkI : (k : Int) < (n : Int) := by omega
      have HX : Hid (k < n) := hlt
      obtain ⟨_, b, off, rfl, hbl, hg, hc⟩ := H.out.at_ hlt
      have hxs : l[k]? = some (l[k]'(by have := HN.out; omega)) := List.getElem?_eq_getElem _
      obtain ⟨x, hx⟩ : ∃ x, l[k]'(by have := HN.out; omega) = x := ⟨_, rfl⟩
      rw [hx] at hxs
      have HXS := Lib.hid hxs
      have hgx := HG.out x (List.mem_of_getElem? hxs)
      have CE := Lib.hid fun W : World => end_any x W (wrap_ok (by omega) (by omega))
      have hca := CA_at hxs
      have HST : Hid (atL at_ l 0 = if x.frm ≤ at_ ∧ at_ < x.frm + x.wds then some (k, (at_ - x.frm).toNat) else atL at_ (l.drop (k + 1)) (k + 1)) := by
        unfold Hid; rw [HAT.out, drop_cons hxs]; rfl
      have HSN := Lib.hid (sumW_snoc hxs)
      have HS : Hid (0 ≤ sumW (l.take k) ∧ sumW (l.take k) + x.wds ≤ 1048576) := by
        have h1 := sumW_take HG.out k
        have h2 := sumW_take HG.out (k + 1)
        have h3 := sumW_snoc hxs
        have h4 := HSUM.out
        exact ⟨h1.1, by omega⟩
      obtain ⟨xf, xw, xx, xr, xk⟩ := x
      unfold MA.val at CE
      dsimp only at CE hgx HST HSN HS
      have HGX := Lib.hid hgx
      have d0 : wr.cell? ⟨b, off + k * 5, none⟩ = some (.int .i64 xf) := by have := hc _ _ (hca 0 _ rfl); exact cell_later HB.out (by simpa [Nat.add_assoc] using this)
      have d1 : wr.cell? ⟨b, off + k * 5 + 1, none⟩ = some (.int .i64 xw) := by have := hc _ _ (hca 1 _ rfl); exact cell_later HB.out (by simpa [Nat.add_assoc] using this)
      have d2 : wr.cell? ⟨b, off + k * 5 + 2, none⟩ = some (.bool xx) := by have := hc _ _ (hca 2 _ rfl); exact cell_later HB.out (by simpa [Nat.add_assoc] using this)
      have d3 : wr.cell? ⟨b, off + k * 5 + 3, none⟩ = some (.bool xr) := by have := hc _ _ (hca 3 _ rfl); exact cell_later HB.out (by simpa [Nat.add_assoc] using this)
      have d4 : wr.cell? ⟨b, off + k * 5 + 4, none⟩ = some (.bool xk) := by have := hc _ _ (hca 4 _ rfl); exact cell_later HB.out (by simpa [Nat.add_assoc] using this)
      obtain ⟨s, hs⟩ : ∃ s, sumW (l.take k) = s := ⟨_, rfl⟩
      have HSS := Lib.hid hs
      rw [hs] at HS HSN
      simp only [hs]
      clear hc hca hx hlt hbl hg hxs hs hgx
      obtain ⟨W1, hW1⟩ : ∃ W1, wr.alloc (.cells #[.int .i64 xf, .int .i64 xw, .bool xx, .bool xr, .bool xk] 57) = W1 := ⟨_, rfl⟩
      have HB1 : Hid (Below w.heap.size w W1) := by rw [← hW1]; exact HB.out.alloc HB.out.size _
      have HBX : Hid (W1.heap[wr.heap.size]? = some (.cells #[.int .i64 xf, .int .i64 xw, .bool xx, .bool xr, .bool xk] 57 (0, 0))) := by rw [← hW1]; exact heap_alloc_new _ _
      have HH1 : Hid (W1.heap[w.heap.size]? = some (.cells #[.int .i64 0, .int .i64 0, .bool false, .bool false, .bool false] 57 (0, 0))) := by
        rw [← hW1]; exact (((Below.refl _ _).alloc (Nat.le_refl _) _).block _ (Array.getElem?_eq_some_iff.1 HH.out).1).trans HH.out
      have HNE : Hid (w.heap.size < wr.heap.size) := (Array.getElem?_eq_some_iff.1 HH.out).1
      have j0 : W1.cell? ⟨wr.heap.size, 0, none⟩ = some (.int .i64 xf) := by rw [← hW1]; simp
      have j1 : W1.cell? ⟨wr.heap.size, 1, none⟩ = some (.int .i64 xw) := by rw [← hW1]; simp
      have j2 : W1.cell? ⟨wr.heap.size, 2, none⟩ = some (.bool xx) := by rw [← hW1]; simp
      have j3 : W1.cell? ⟨wr.heap.size, 3, none⟩ = some (.bool xr) := by rw [← hW1]; simp
      have j4 : W1.cell? ⟨wr.heap.size, 4, none⟩ = some (.bool xk) := by rw [← hW1]; simp
      have hw1 : IntKind.i64.wrap (s + xw) = s + xw := wrap_ok (by have := HS.out; have := HGX.out; omega) (by have := HS.out; omega)
      by_cases ha1 : xf ≤ at_
      · have ha1b : decide (xf ≤ at_) = true := by simpa using ha1
        go_wp2_with fail
        refine (CE.out _).mono ?_
        rintro e W2 ⟨rfl, b2⟩
        have HB2 : Hid (Below w.heap.size w W2) := HB1.out.trans (b2.mono HB1.out.size)
        have HBX2 : Hid (W2.heap[wr.heap.size]? = some (.cells #[.int .i64 xf, .int .i64 xw, .bool xx, .bool xr, .bool xk] 57 (0, 0))) := (b2.block _ (Array.getElem?_eq_some_iff.1 HBX.out).1).trans HBX.out
        have HH2 : Hid (W2.heap[w.heap.size]? = some (.cells #[.int .i64 0, .int .i64 0, .bool false, .bool false, .bool false] 57 (0, 0))) := (b2.block _ (Array.getElem?_eq_some_iff.1 HH1.out).1).trans HH1.out
        have e0 : W2.cell? ⟨wr.heap.size, 0, none⟩ = some (.int .i64 xf) := cell_later b2 j0
        have e1 : W2.cell? ⟨wr.heap.size, 1, none⟩ = some (.int .i64 xw) := cell_later b2 j1
        clear b2 CE d0 d1 d2 d3 d4 j0 j1 j2 j3 j4 hW1
        by_cases ha2 : at_ < xf + xw
        · have HAL : Hid (atL at_ l 0 = some (k, (at_ - xf).toNat)) := by unfold Hid; rw [HST.out, if_pos ⟨ha1, ha2⟩]
          have HI : Hid (ri = s + at_ - xf) := by
            unfold Hid; rw [← HRI.out]; unfold fdI; rw [HAL.out]; dsimp only; rw [HSS.out]; omega
          have HF : Hid ((⟨f0, f1, f2, f3, f4⟩ : MA) = ⟨xf, xw, xx, xr, xk⟩) := by
            unfold Hid; rw [← HRA.out]; unfold fdA; rw [HAL.out]; dsimp only; rw [HXS.out]; rfl
          have hw2 : IntKind.i64.wrap (s + at_) = s + at_ := wrap_ok (by have := HS.out; have := HA.out; omega) (by have := HS.out; have := HA.out; omega)
          have hw3 : IntKind.i64.wrap (s + at_ - xf) = s + at_ - xf := wrap_ok (by have := HS.out; have := HA.out; have := HGX.out; omega) (by have := HS.out; have := HA.out; have := HGX.out; omega)
          go_wp2_with fail
          refine wp_region_held_drew (S := (fun w' => Below w.heap.size w w' ∧ w'.heap[wr.heap.size]? = some (.cells #[.int .i64 xf, .int .i64 xw, .bool xx, .bool xr, .bool xk] 57 (0, 0)))) (by kernel_rfl) ?_ (fun hHeld => ?_)
          · exact ⟨below_drewN HB2.out 1, HBX2.out⟩
          obtain ⟨W3, hW3⟩ : ∃ W3, W2.drew = W3 := ⟨_, rfl⟩
          simp only [hW3] at hHeld ⊢
          have HB3 : Hid (Below w.heap.size w W3) := hHeld.1
          have HBX3 : Hid (W3.heap[wr.heap.size]? = some (.cells #[.int .i64 xf, .int .i64 xw, .bool xx, .bool xr, .bool xk] 57 (0, 0))) := hHeld.2
          have HH3 : Hid (W3.heap[w.heap.size]? = some (.cells #[.int .i64 0, .int .i64 0, .bool false, .bool false, .bool false] 57 (0, 0))) := by rw [← hW3]; exact HH2.out
          clear hW3
          refine takeD (i := 0) (d := some 31) (v := ?_) _ rfl rfl (by kernel_rfl) (by kernel_rfl) (by kernel_rfl) (fun _ _ _ h => h) (by rfl) ?_ (by assumption) ?_
          rotate_left
          · (intro w hSw; (try dsimp only at hSw); go_simp) <;> with_reducible rfl
          try simp only [Act.put, List.setIfInBounds_toArray, List.set_cons_zero, List.set_cons_succ]
          refine takeD (i := 1) (d := some 32) (v := ?_) _ rfl rfl (by kernel_rfl) (by kernel_rfl) (by kernel_rfl) (fun _ _ _ h => h) (by rfl) ?_ (by assumption) ?_
          rotate_left
          · (intro w hSw; (try dsimp only at hSw); go_simp) <;> with_reducible rfl
          try simp only [Act.put, List.setIfInBounds_toArray, List.set_cons_zero, List.set_cons_succ]
          refine takeD (i := 2) (d := some 33) (v := ?_) _ rfl rfl (by kernel_rfl) (by kernel_rfl) (by kernel_rfl) (fun _ _ _ h => h) (by rfl) ?_ (by assumption) ?_
          rotate_left
          · (intro w hSw; (try dsimp only at hSw); go_simp) <;> with_reducible rfl
          try simp only [Act.put, List.setIfInBounds_toArray, List.set_cons_zero, List.set_cons_succ]
          refine takeD (i := 3) (d := some 34) (v := ?_) _ rfl rfl (by kernel_rfl) (by kernel_rfl) (by kernel_rfl) (fun _ _ _ h => h) (by rfl) ?_ (by assumption) ?_
          rotate_left
          · (intro w hSw; (try dsimp only at hSw); go_simp) <;> with_reducible rfl
          try simp only [Act.put, List.setIfInBounds_toArray, List.set_cons_zero, List.set_cons_succ]
          refine takeD (i := 4) (d := some 35) (v := ?_) _ rfl rfl (by kernel_rfl) (by kernel_rfl) (by kernel_rfl) (fun _ _ _ h => h) (by rfl) ?_ (by assumption) ?_
          rotate_left
          · (intro w hSw; have c0 := (row_cell hSw.2 0).1; have c1 := (row_cell hSw.2 1).1; have c2 := (row_cell hSw.2 2).1; have c3 := (row_cell hSw.2 3).1; have c4 := (row_cell hSw.2 4).1; simp at c0 c1 c2 c3 c4; (try dsimp only at hSw); go_simp) <;> with_reducible rfl
          try simp only [Act.put, List.setIfInBounds_toArray, List.set_cons_zero, List.set_cons_succ]
          refine takeD (i := 5) (d := some 36) (v := ?_) _ rfl rfl (by kernel_rfl) (by kernel_rfl) (by kernel_rfl) (fun _ _ _ h => h) (by rfl) ?_ (by assumption) ?_
          rotate_left
          · (intro w hSw; (try dsimp only at hSw); go_simp) <;> with_reducible rfl
          try simp only [Act.put, List.setIfInBounds_toArray, List.set_cons_zero, List.set_cons_succ]
          refine takeD (i := 6) (d := some 37) (v := ?_) _ rfl rfl (by kernel_rfl) (by kernel_rfl) (by kernel_rfl) (fun _ _ _ h => h) (by rfl) ?_ (by assumption) ?_
          rotate_left
          · (intro w hSw; have c0 := (row_cell hSw.2 0).1; have c1 := (row_cell hSw.2 1).1; have c2 := (row_cell hSw.2 2).1; have c3 := (row_cell hSw.2 3).1; have c4 := (row_cell hSw.2 4).1; simp at c0 c1 c2 c3 c4; (try dsimp only at hSw); go_simp) <;> with_reducible rfl
          try simp only [Act.put, List.setIfInBounds_toArray, List.set_cons_zero, List.set_cons_succ]
          refine takeD (i := 7) (d := some 4) (v := ?_) _ rfl rfl (by kernel_rfl) (by kernel_rfl) (by kernel_rfl) (fun _ _ _ h => h) (by rfl) ?_ (by assumption) ?_
          rotate_left
          · (intro w hSw; (try dsimp only at hSw); go_simp) <;> with_reducible rfl
          try simp only [Act.put, List.setIfInBounds_toArray, List.set_cons_zero, List.set_cons_succ]
          refine wpAnyH_ready (rs := [8]) (by kernel_rfl) (by simp) ?_
          refine AllReadyH.cons rfl (fun K hK => ?_) AllReadyH.nil
          have g0 : W3.frozen? ⟨w.heap.size, 0, none⟩ = false := (row_cell HH3.out 0).2
          have g1 : W3.frozen? ⟨w.heap.size, 1, none⟩ = false := (row_cell HH3.out 1).2
          have g2 : W3.frozen? ⟨w.heap.size, 2, none⟩ = false := (row_cell HH3.out 2).2
          have g3 : W3.frozen? ⟨w.heap.size, 3, none⟩ = false := (row_cell HH3.out 3).2
          have g4 : W3.frozen? ⟨w.heap.size, 4, none⟩ = false := (row_cell HH3.out 4).2
          have k0 := (row_cell HH3.out 0).1
          have k1 := (row_cell HH3.out 1).1
          have k2 := (row_cell HH3.out 2).1
          have k3 := (row_cell HH3.out 3).1
          have k4 := (row_cell HH3.out 4).1
          simp at k0 k1 k2 k3 k4
          go_simp
          clear g0 g1 g2 g3 g4 k0 k1 k2 k3 k4
          refine hK.out _ _ ⟨below_five HB3.out (Nat.le_refl _) _ _ _ _ _, (far_five (by have := HNE.out; omega) _ _ _ _ _).trans HBX3.out⟩ (fun hHeld => ?_)
          clear hK K
          try simp only [Act.put, List.setIfInBounds_toArray, List.set_cons_zero, List.set_cons_succ]
          refine wpAnyH_done (by kernel_rfl) ?_ _
          have BF := Lib.hid hHeld.1
          go_wp2_with fail
          (try unfold Exit.noGoto)
          (try simp only [Exit.inBlock, Exit.then])
          refine bodyPost_ret (results_tmp_cell rfl _ _ w.heap.size _ _ rfl (set_five HH3.out _ _ _ _ _) Try.underlying57 rfl (by kernel_rfl)) rfl ?_
          injection HF.out with z0 z1 z2 z3 z4
          subst z0 z1 z2 z3 z4
          exact ⟨by rw [HI.out]; rfl, BF.out⟩
        · have HAL : Hid (atL at_ l 0 = atL at_ (l.drop (k + 1)) (k + 1)) := by unfold Hid; rw [HST.out, if_neg (by omega)]
          go_wp2_with fail
          go_roundw
          case rel =>
            have Q : FdRel at_ n l w (.int .i64 (s + xw)) (.int .i64 ((k : Int) + 1)) W2 := ⟨⟨k + 1, HX.out, by go_num, by rw [HSN.out], HAL.out, HB2.out, HH2.out⟩⟩
            first | exact Q | ((repeat apply Exists.intro); exact ⟨Q, rfl⟩)
          case measure => have := HX.out; simp [intOf]; omega
      · have ha1b : decide (xf ≤ at_) = false := by simpa using ha1
        have HAL : Hid (atL at_ l 0 = atL at_ (l.drop (k + 1)) (k + 1)) := by unfold Hid; rw [HST.out, if_neg (by omega)]
        go_wp2_with fail
        go_roundw
        case rel =>
          have Q : FdRel at_ n l w (.int .i64 (s + xw)) (.int .i64 ((k : Int) + 1)) W1 := ⟨⟨k + 1, HX.out, by go_num, by rw [HSN.out], HAL.out, HB1.out, HH1.out⟩⟩
          first | exact Q | ((repeat apply Exists.intro); exact ⟨Q, rfl⟩)
        case measure => have := HX.out; simp [intOf]; omega
    · have hkn : k = n := by have := HK.out; omega
      have HAL : Hid (atL at_ l 0 = none) := by
        unfold Hid
        rw [HAT.out, List.drop_of_length_le (by have := HN.out; omega)]; rfl
      have HI : Hid (ri = -1) := by unfold Hid; rw [← HRI.out]; unfold fdI; rw [HAL.out]
      have HF : Hid ((⟨f0, f1, f2, f3, f4⟩ : MA) = ⟨0, 0, false, false, false⟩) := by
        unfold Hid; rw [← HRA.out]; unfold fdA; rw [HAL.out]
      clear hlt
      subst hkn
      have g0 : wr.frozen? ⟨w.heap.size, 0, none⟩ = false := (row_cell HH.out 0).2
      have g1 : wr.frozen? ⟨w.heap.size, 1, none⟩ = false := (row_cell HH.out 1).2
      have g2 : wr.frozen? ⟨w.heap.size, 2, none⟩ = false := (row_cell HH.out 2).2
      have g3 : wr.frozen? ⟨w.heap.size, 3, none⟩ = false := (row_cell HH.out 3).2
      have g4 : wr.frozen? ⟨w.heap.size, 4, none⟩ = false := (row_cell HH.out 4).2
      have k0 := (row_cell HH.out 0).1
      have k1 := (row_cell HH.out 1).1
      have k2 := (row_cell HH.out 2).1
      have k3 := (row_cell HH.out 3).1
      have k4 := (row_cell HH.out 4).1
      simp at k0 k1 k2 k3 k4
      go_wp2_with fail
      (try unfold Exit.noGoto)
      (try simp only [Exit.inBlock, Exit.then])
      refine bodyPost_ret (results_tmp_cell rfl _ _ w.heap.size _ _ rfl (set_five HH.out _ _ _ _ _) Try.underlying57 rfl (by kernel_rfl)) rfl ?_
      injection HF.out with z0 z1 z2 z3 z4
      subst z0 z1 z2 z3 z4
      exact ⟨by rw [HI.out]; rfl, below_five HB.out (Nat.le_refl _) _ _ _ _ _⟩
end Go.Proofs.Ytliggejkpmlgfaa
