/-
  The document's own space: put. Each statement bears its own conditions.
-/
import Derived.Test.YtliggejkpmlgfaaSpR
namespace Go.Proofs.Ytliggejkpmlgfaa
open Go.RowKit
set_option linter.unusedVariables false
set_option linter.unusedSimpArgs false
theorem own_put {w : World} {B g n c i : Nat} {e : TypeId} {xs : List Value} (h : w.ownsRow B e 1 (.slice (some ⟨g, 0, none⟩) n c) n xs) (u : Value) : (w.setCell ⟨g, i, none⟩ u).ownsRow B e 1 (.slice (some ⟨g, 0, none⟩) n c) n (xs.set i u) := by
  refine ⟨by rw [List.length_set]; exact h.1, ?_⟩
  rcases h.2 with ⟨h5, _⟩ | ⟨g', cap', cur, hv, hb, hg, h6, h7, h8, h9⟩
  · cases h5
  · injection hv with e1 e2 e3
    injection e1 with e1
    injection e1 with e1
    subst e1 e3
    refine .inr ⟨g, c, _, rfl, hb, set_at hg i _, h6, h7, by simpa using h8, ?_⟩
    rw [← h9, Array.toList_setIfInBounds, List.take_set]
theorem own_cell {w : World} {B g n c i : Nat} {e : TypeId} {xs : List Value} {u : Value} (h : w.ownsRow B e 1 (.slice (some ⟨g, 0, none⟩) n c) n xs) (hu : xs[i]? = some u) : w.cell? ⟨g, i, none⟩ = some u ∧ w.frozen? ⟨g, i, none⟩ = false := by
  refine ⟨?_, ?_⟩
  · have := h.cells (g := g) rfl i _ hu
    rw [Addr.add_lit] at this
    simpa using this
  · rcases h.2 with ⟨h5, _⟩ | ⟨g', cap', cur, hv, _, hg, _⟩
    · cases h5
    · injection hv with e1 e2 e3
      injection e1 with e1
      injection e1 with e1
      subst e1
      exact (row_cell hg i).2
theorem set_two {w : World} {g : Nat} {c0 c1 : Value} {t : TypeId} (h : w.heap[g]? = some (.cells #[c0, c1] t (0, 0))) (x0 x1 : Value) :
    ((w.setCell ⟨g, 0, none⟩ x0).setCell ⟨g, 1, none⟩ x1).rangeAt g 0 [x0, x1] := by
  have h0 := set_at h 0 x0
  have h1 := set_at h0 1 x1
  exact range_heap (t := t) (by simpa using h1)
theorem row_empty (e : TypeId) (w : World) : (w.alloc (.cells #[] e)).ownsRow w.heap.size e 1 (.slice (some ⟨w.heap.size, 0, none⟩) 0 0) 0 [] :=
  ⟨rfl, .inr ⟨w.heap.size, 0, #[], rfl, Nat.le_refl _, heap_alloc_new w _, Nat.le_refl _, by unfold maxLen; omega, rfl, rfl⟩⟩
theorem own_form {w : World} {B n : Nat} {e : TypeId} {v : Value} {xs : List Value} (h : w.ownsRow B e 1 v n xs) (hn : 0 < n) : ∃ g c, v = .slice (some ⟨g, 0, none⟩) n c ∧ B ≤ g ∧ g < w.heap.size := by
  obtain ⟨g, c, hv, h1, h2⟩ := h.form hn
  exact ⟨g, c, hv, h1, h2⟩
theorem st_uniq {g g' size n : Nat} {w : World} {v : Value} {xs ys : List Value} (h : St g w size v n xs) (h' : St g' w size v n ys) : xs = ys := by
  obtain ⟨A, c, e, hl, h1⟩ := h.ex
  obtain ⟨A', c', e', hl', h1'⟩ := h'.ex
  rw [e] at e'
  injection e' with e1 e2 e3
  subst e1 e3
  by_cases hn : 0 < n
  · obtain ⟨b, off, rfl, _, _, hc⟩ := h1 hn
    obtain ⟨b', off', e2, _, _, hc'⟩ := h1' hn
    injection e2 with e2
    injection e2 with e3 e4
    subst e3 e4
    apply List.ext_getElem?
    intro j
    by_cases hj : j < n * size
    · have h3 := List.getElem?_eq_getElem (l := xs) (i := j) (by omega)
      have h4 := List.getElem?_eq_getElem (l := ys) (i := j) (by omega)
      have := (hc j _ h3).symm.trans (hc' j _ h4)
      rw [h3, h4]; exact this
    · rw [List.getElem?_eq_none (by omega), List.getElem?_eq_none (by omega)]
  · have hn0 : n = 0 := by omega
    subst hn0
    rw [List.eq_nil_of_length_eq_zero (by omega : xs.length = 0), List.eq_nil_of_length_eq_zero (by omega : ys.length = 0)]
theorem St.both {g g' size n : Nat} {w w' : World} {v : Value} {xs : List Value} (h : St g w size v n xs) (h' : St g' w size v n xs) (hp : Past g' w w') : St g w' size v n xs := by
  obtain ⟨A, c, e, hl, h1⟩ := h.ex
  subst e
  refine ⟨A, c, rfl, hl, fun hn => ?_⟩
  obtain ⟨b, off, rfl, hb, hg, hc⟩ := h1 hn
  obtain ⟨_, b', off', e', _, hg', _⟩ := h'.at_ hn
  injection e' with e'
  injection e' with e3 e4
  subst e3 e4
  exact ⟨b, off, rfl, Nat.lt_of_lt_of_le hb hp.size, hg, fun j u hu => cell_past hp hb hg' (hc j u hu)⟩
theorem St.fresh {g g' size n : Nat} {w : World} {v : Value} {xs : List Value} (h : St g w size v n xs) (hg : w.heap.size ≤ g') : St g' w size v n xs := by
  obtain ⟨A, c, e, hl, h1⟩ := h.ex
  subst e
  refine ⟨A, c, rfl, hl, fun hn => ?_⟩
  obtain ⟨b, off, rfl, hb, _, hc⟩ := h1 hn
  exact ⟨b, off, rfl, hb, by omega, hc⟩
theorem RS.both {g g' : Nat} {w w' : World} {va vl : Value} {l : List MA} {LL : List (List Int)} (h : RS g w va vl l LL) (h' : RS g' w va vl l LL) (hp : Past g' w w') : RS g w' va vl l LL := by
  refine ⟨h.a.both h'.a hp, ?_⟩
  obtain ⟨vs, h1, h2, h3⟩ := h.s.ex
  obtain ⟨vs', h1', h2', _⟩ := h'.s.ex
  have hu := st_uniq h1 h1'
  subst hu
  exact ⟨vs, h1.both h1' hp, fun j u L hu hL => (h2 j u L hu hL).both (h2' j u L hu hL) hp, h3⟩
theorem RS.fresh {g g' : Nat} {w : World} {va vl : Value} {l : List MA} {LL : List (List Int)} (h : RS g w va vl l LL) (hg : w.heap.size ≤ g') : RS g' w va vl l LL := by
  obtain ⟨vs, h1, h2, h3⟩ := h.s.ex
  exact ⟨h.a.fresh hg, vs, h1.fresh hg, fun j u L hu hL => (h2 j u L hu hL).fresh hg, h3⟩
/-- A space by value that becomes another one, whatever blocks it is off. -/
def Turns (w w' : World) (va vl vl' : Value) (l : List MA) (LL LL' : List (List Int)) : Prop := ∀ g, g < w.heap.size → RS g w va vl l LL → RS g w' va vl' l LL'
set_option maxRecDepth 100000 in
set_option maxHeartbeats 8000000 in
theorem put_any (g : Nat) (va vl : Value) (l : List MA) (LL : List (List Int)) (L : List Int) (i k : Nat) (y : Int) (w : World) (h : RS g w va vl l LL) (hL : LL[i]? = some L) (hk : k < L.length) (hf : LL.length ≤ 16) (hm : L.length ≤ 5000) :
    Calls Try.prog 40 #[.agg #[va, vl], .int .i64 (i : Int), .int .i64 (k : Int), .int .u32 y] w fun e w' => (∃ vl', e = .returned (.agg #[va, vl']) ∧ Turns w w' va vl vl' l LL (putL LL i k y)) ∧ Below w.heap.size w w' := by
  obtain ⟨i0, hinf, hz0, hz1, hz2⟩ := info_of row_info
  obtain ⟨i1, hinf1, hy0, hy1, hy2⟩ := info_of u32_info
  have HH := Lib.hid h
  obtain ⟨A, c, A', c', rfl, rfl⟩ := h.form
  obtain ⟨vs, h1, h2, h3⟩ := h.s.ex
  have hi : i < LL.length := (List.getElem?_eq_some_iff.1 hL).1
  have HPL : Hid (putL LL i k y = LL.set i (L.set k y)) := by unfold Hid putL; rw [hL]; rfl
  obtain ⟨n, hn⟩ : ∃ n, LL.length = n := ⟨_, rfl⟩
  obtain ⟨na, hna⟩ : ∃ na, l.length = na := ⟨_, rfl⟩
  obtain ⟨ll, hll⟩ : ∃ ll, L.length = ll := ⟨_, rfl⟩
  rw [hn] at h1 hf hi ⊢
  rw [hna]
  have HN := Lib.hid hn
  have HVL : Hid (vs.length = n) := by have := h1.len; unfold Hid; omega
  obtain ⟨u, hu⟩ : ∃ u, vs[i]? = some u := ⟨_, List.getElem?_eq_getElem (by have := HVL.out; omega)⟩
  have hst := h2 i u L hu hL
  obtain ⟨A2, c2, rfl⟩ := hst.form
  rw [hll] at hst hk hm hu
  have HU := Lib.hid hu
  have HST := Lib.hid hst
  have RD := Lib.hid h1.reads.2
  have HV1 := Lib.hid h1
  have H2 := Lib.hid h2
  have H3 := Lib.hid h3
  have HLL := Lib.hid hll
  have HLQ := Lib.hid hL
  have HI := Lib.hid hi
  have HK := Lib.hid hk
  have HM := Lib.hid hm
  have HF := Lib.hid hf
  have hi0 : (0 : Int) ≤ (i : Int) := by omega
  have hk0 : (0 : Int) ≤ (k : Int) := by omega
  have hin : (i : Int) < (n : Int) := by omega
  have hkl : (k : Int) < (ll : Int) := by omega
  clear h h1 h2 h3 hL hn hna hll hu hst hm hf
  obtain ⟨W0, hW0⟩ : ∃ W0, (w.alloc (.cells #[.slice A na c, .slice A' n c'] 31)).alloc (.cells #[.slice none 0 0, .slice none 0 0] 31) = W0 := ⟨_, rfl⟩
  have HS0 : Hid (W0.heap.size = w.heap.size + 2) := by rw [← hW0]; unfold Hid; simp
  have B0 : Hid (Below w.heap.size w W0) := by rw [← hW0]; exact ((Below.refl _ _).alloc (Nat.le_refl _) _).alloc (by simp) _
  have HX0 : Hid (W0.heap[w.heap.size]? = some (.cells #[.slice A na c, .slice A' n c'] 31 (0, 0))) := by
    rw [← hW0]; exact (((Below.refl _ _).alloc (Nat.le_refl _) _).block _ (by simp)).trans (heap_alloc_new _ _)
  have HY0 : Hid (W0.heap[w.heap.size + 1]? = some (.cells #[.slice none 0 0, .slice none 0 0] 31 (0, 0))) := by
    rw [← hW0]; have := heap_alloc_new (w.alloc (.cells #[.slice A na c, .slice A' n c'] 31)) (.cells #[.slice none 0 0, .slice none 0 0] 31); unfold Hid; simpa using this
  have x1 := (row_cell HX0.out 1).1
  simp at x1
  have x1e : (W0.alloc (.cells #[] 40)).cell? ⟨w.heap.size, 1, none⟩ = some (.slice A' n c') := cell_al _ x1
  go_enter Try.func40, Try.ntmps40
  go_wp2_with (at_builtin; refine wpList_append_any _ rfl (.tmp 9) (.tmp 11) _ rfl W0.heap.size 40 i0 (.slice none 0 0) 1 24 Try.underlying29 hinf hz0 hz1 hz2 rfl (by decide) (.slice (some ⟨W0.heap.size, 0, none⟩) 0 0) 0 [] rfl (row_empty 40 W0) W0.heap.size A' n c' vs rfl ((RD.out.below (B0.out.alloc B0.out.size _)).more B0.out.size) H3.out ?c2 ?c3 ?c4 ?_)
  case c2 => have := HF.out; unfold maxLen; omega
  case c3 => have := HF.out; omega
  case c4 => simp
  intro v1 w2 hown hgr hbl
  have ho' : w2.ownsRow W0.heap.size 40 1 v1 n vs := by simpa using hown
  have B2 : Hid (Below W0.heap.size W0 w2) := ((Below.refl _ _).alloc (Nat.le_refl _) _).grown hgr (by simp) (fun q hq => by have h' : some W0.heap.size = some q := hq; injection h' with h'; omega)
  obtain ⟨g1, c1, rfl, hg1, hg1'⟩ := own_form ho' (by have := HI.out; omega)
  have HO2 := Lib.hid ho'
  have HX2 : Hid (w2.heap[w.heap.size]? = some (.cells #[.slice A na c, .slice A' n c'] 31 (0, 0))) := (B2.out.block _ (by have := HS0.out; omega)).trans HX0.out
  have HY2 : Hid (w2.heap[w.heap.size + 1]? = some (.cells #[.slice none 0 0, .slice none 0 0] 31 (0, 0))) := (B2.out.block _ (by have := HS0.out; omega)).trans HY0.out
  have HG1 : Hid (w.heap.size + 2 ≤ g1) := by have := HS0.out; unfold Hid; omega
  clear hown ho' hgr hbl hg1 hg1' x1 x1e hW0
  have k1 := (row_cell HX2.out 1).1
  have z1 := (row_cell HX2.out 1).2
  simp at k1
  go_wp2_with fail
  obtain ⟨W3, hW3⟩ : ∃ W3, w2.setCell ⟨w.heap.size, 1, none⟩ (.slice (some ⟨g1, 0, none⟩) n c1) = W3 := ⟨_, rfl⟩
  simp only [hW3]
  have HX3 : Hid (W3.heap[w.heap.size]? = some (.cells #[.slice A na c, .slice (some ⟨g1, 0, none⟩) n c1] 31 (0, 0))) := by rw [← hW3]; have := set_at HX2.out 1 (.slice (some ⟨g1, 0, none⟩) n c1); unfold Hid; simpa using this
  have HY3 : Hid (W3.heap[w.heap.size + 1]? = some (.cells #[.slice none 0 0, .slice none 0 0] 31 (0, 0))) := by rw [← hW3]; exact (set_far _ _ (by omega)).trans HY2.out
  have HO3 : Hid (W3.ownsRow (w.heap.size + 2) 40 1 (.slice (some ⟨g1, 0, none⟩) n c1) n vs) := by rw [← hW3]; exact ownsRow_setCell_below (own_base HO2.out (by have := HS0.out; omega)) (by simp) _
  have B3 : Hid (Below w.heap.size w W3) := by rw [← hW3]; exact (B0.out.trans (B2.out.mono B0.out.size)).setCell (p := ⟨w.heap.size, 1, none⟩) (Nat.le_refl _) _
  have x1 := (row_cell HX3.out 1).1
  simp at x1
  have x2 := (own_cell HO3.out HU.out).1
  clear hW3 k1 z1
  have HX1 := Lib.hid x1
  have HX2' := Lib.hid x2
  refine wp_region_held_drew (S := fun w' => w'.cell? ⟨w.heap.size, 1, none⟩ = some (.slice (some ⟨g1, 0, none⟩) n c1)) (by kernel_rfl) ?_ (fun hHeld => ?_)
  · exact HX1.out
  have HX2d : W3.drew.cell? ⟨g1, i, none⟩ = some (.slice A2 ll c2) := HX2'.out
  have HX2e : (W3.drew.alloc (.cells #[] 39)).cell? ⟨g1, i, none⟩ = some (.slice A2 ll c2) := cell_al _ HX2d
  have HX2f : (W3.alloc (.cells #[] 39)).cell? ⟨g1, i, none⟩ = some (.slice A2 ll c2) := cell_al _ HX2'.out
  have HRD : Hid (Reads (W3.drew.alloc (.cells #[] 39)) W3.heap.size 1 A2 ll (CU L)) := ((HST.out.reads.2.below (B3.out.alloc B3.out.size _)).more B3.out.size)
  clear x1 x2
  refine takeD (i := 0) (d := some 14) (v := ?_) _ rfl rfl (by kernel_rfl) (by kernel_rfl) (by kernel_rfl) (fun _ _ _ h => h) (by rfl) ?_ (by assumption) ?_
  rotate_left
  · (intro w hSw; (try dsimp only at hSw); go_simp) <;> with_reducible rfl
  try simp only [Act.put, List.setIfInBounds_toArray, List.set_cons_zero, List.set_cons_succ]
  refine takeD (i := 1) (d := some 15) (v := ?_) _ rfl rfl (by kernel_rfl) (by kernel_rfl) (by kernel_rfl) (fun _ _ _ h => h) (by rfl) ?_ (by assumption) ?_
  rotate_left
  · (intro w hSw; (try dsimp only at hSw); go_simp) <;> with_reducible rfl
  try simp only [Act.put, List.setIfInBounds_toArray, List.set_cons_zero, List.set_cons_succ]
  refine takeD (i := 2) (d := some 16) (v := ?_) _ rfl rfl (by kernel_rfl) (by kernel_rfl) (by kernel_rfl) (fun _ _ _ h => h) (by rfl) ?_ (by assumption) ?_
  rotate_left
  · (intro w hSw; (try dsimp only at hSw); go_simp) <;> with_reducible rfl
  try simp only [Act.put, List.setIfInBounds_toArray, List.set_cons_zero, List.set_cons_succ]
  refine takeD (i := 4) (d := some 18) (v := ?_) _ rfl rfl (by kernel_rfl) (by kernel_rfl) (by kernel_rfl) (fun _ _ _ h => h) (by rfl) ?_ (by assumption) ?_
  rotate_left
  · (intro w hSw; (try dsimp only at hSw); go_simp) <;> with_reducible rfl
  try simp only [Act.put, List.setIfInBounds_toArray, List.set_cons_zero, List.set_cons_succ]
  refine takeD (i := 5) (d := some 19) (v := ?_) _ rfl rfl (by kernel_rfl) (by kernel_rfl) (by kernel_rfl) (fun _ _ _ h => h) (by rfl) ?_ (by assumption) ?_
  rotate_left
  · (intro w hSw; (try dsimp only at hSw); go_simp) <;> with_reducible rfl
  try simp only [Act.put, List.setIfInBounds_toArray, List.set_cons_zero, List.set_cons_succ]
  refine takeD (i := 6) (d := some 20) (v := ?_) _ rfl rfl (by kernel_rfl) (by kernel_rfl) (by kernel_rfl) (fun _ _ _ h => h) (by rfl) ?_ (by assumption) ?_
  rotate_left
  · (intro w hSw; (try dsimp only at hSw); go_simp) <;> with_reducible rfl
  try simp only [Act.put, List.setIfInBounds_toArray, List.set_cons_zero, List.set_cons_succ]
  refine takeD (i := 7) (d := some 21) (v := ?_) _ rfl rfl (by kernel_rfl) (by kernel_rfl) (by kernel_rfl) (fun _ _ _ h => h) (by rfl) ?_ (by assumption) ?_
  rotate_left
  · (intro w hSw; (try dsimp only at hSw); go_simp) <;> with_reducible rfl
  try simp only [Act.put, List.setIfInBounds_toArray, List.set_cons_zero, List.set_cons_succ]
  refine wpAnyH_ready (rs := [3, 8]) (by kernel_rfl) (by simp) ?_
  refine AllReadyH.cons rfl (fun K hK => ?_) (AllReadyH.cons rfl (fun K hK => ?_) AllReadyH.nil)
  · go_simp
    refine hK.out _ _ (cell_al _ hHeld) (fun hHeld => ?_)
    clear hK K
    try simp only [Act.put, List.setIfInBounds_toArray, List.set_cons_zero, List.set_cons_succ]
    refine wpAnyH_ready (rs := [8]) (by kernel_rfl) (by simp) ?_
    refine AllReadyH.cons rfl (fun K hK => ?_) AllReadyH.nil
    go_simp
    refine hK.out _ _ hHeld (fun hHeld => ?_)
    clear hK K
    try simp only [Act.put, List.setIfInBounds_toArray, List.set_cons_zero, List.set_cons_succ]
    refine wpAnyH_ready (rs := [9]) (by kernel_rfl) (by simp) ?_
    refine AllReadyH.cons rfl (fun K hK => ?_) AllReadyH.nil
    refine wp_append_any _ (.tmp 17) (.tmp 22) 40 rfl W3.heap.size 39 i1 (.int .u32 0) 1 4 Try.underlying40 hinf1 hy0 hy1 hy2 rfl (by decide) (.slice (some ⟨W3.heap.size, 0, none⟩) 0 0) 0 [] rfl (row_empty 39 W3.drew) W3.heap.size A2 ll c2 (CU L) rfl HRD.out (CU_one _) (by have := HM.out; unfold maxLen; omega) (by have := HM.out; omega) (by simp) ?_
    intro v2 W5 hown hgr hbl
    have ho' : W5.ownsRow W3.heap.size 39 1 v2 ll (CU L) := by simpa using hown
    have B35 : Hid (Below W3.heap.size W3 W5) := (below_drewN (Below.refl _ _) 1 |>.alloc (Nat.le_refl _) _).grown hgr (by simp) (fun q hq => by have h' : some W3.heap.size = some q := hq; injection h' with h'; exact Nat.le_of_eq h')
    obtain ⟨g2, c3, rfl, hg2, hg2'⟩ := own_form ho' (by have := HK.out; omega)
    have HO5 := Lib.hid ho'
    have HO15 := Lib.hid (own_below HO3.out B35.out)
    have HX5 : Hid (W5.heap[w.heap.size]? = some (.cells #[.slice A na c, .slice (some ⟨g1, 0, none⟩) n c1] 31 (0, 0))) := (B35.out.block _ (Array.getElem?_eq_some_iff.1 HX3.out).1).trans HX3.out
    have HY5 : Hid (W5.heap[w.heap.size + 1]? = some (.cells #[.slice none 0 0, .slice none 0 0] 31 (0, 0))) := (B35.out.block _ (Array.getElem?_eq_some_iff.1 HY3.out).1).trans HY3.out
    have HG2 : Hid (g1 < g2) := by have := (HO3.out.lt g1 rfl).2; unfold Hid; omega
    have B5 : Hid (Below w.heap.size w W5) := B3.out.trans (B35.out.mono B3.out.size)
    refine hK.out _ _ ?_ (fun hHeld => ?_)
    · have := (row_cell HX5.out 1).1; simpa using this
    clear hK K hown hgr hbl ho' HX2d HX2e HX2f HRD
    try simp only [Act.put, List.setIfInBounds_toArray, List.set_cons_zero, List.set_cons_succ]
    refine takeD (i := 10) (d := some 24) (v := ?_) _ rfl rfl (by kernel_rfl) (by kernel_rfl) (by kernel_rfl) (fun _ _ _ h => h) (by rfl) ?_ (by assumption) ?_
    rotate_left
    · (intro w hSw; (try dsimp only at hSw); go_simp) <;> with_reducible rfl
    try simp only [Act.put, List.setIfInBounds_toArray, List.set_cons_zero, List.set_cons_succ]
    refine wpAnyH_ready (rs := [11]) (by kernel_rfl) (by simp) ?_
    refine AllReadyH.cons rfl (fun K hK => ?_) AllReadyH.nil
    have y1 := (own_cell HO15.out HU.out).1
    have y2 := (own_cell HO15.out HU.out).2
    go_simp
    refine hK.out _ _ ?_ (fun hHeld => ?_)
    · rw [World.cell?_setCell_far _ _ _ _ (by simp; have := HG1.out; omega)]; exact hHeld
    clear hK K y1 y2 hHeld
    try simp only [Act.put, List.setIfInBounds_toArray, List.set_cons_zero, List.set_cons_succ]
    refine wpAnyH_done (by kernel_rfl) ?_ _
    obtain ⟨W6, hW6⟩ : ∃ W6, W5.setCell ⟨g1, i, none⟩ (.slice (some ⟨g2, 0, none⟩) ll c3) = W6 := ⟨_, rfl⟩
    simp only [hW6] at hHeld ⊢
    have HO16 : Hid (W6.ownsRow (w.heap.size + 2) 40 1 (.slice (some ⟨g1, 0, none⟩) n c1) n (vs.set i (.slice (some ⟨g2, 0, none⟩) ll c3))) := by rw [← hW6]; exact own_put HO15.out _
    have HO6 : Hid (W6.ownsRow W3.heap.size 39 1 (.slice (some ⟨g2, 0, none⟩) ll c3) ll (CU L)) := by
      rw [← hW6]; exact own_same HO5.out (fun q hq => by injection hq with hq; subst hq; exact set_far _ _ (by have := HG2.out; simp; omega))
    have HX6 : Hid (W6.heap[w.heap.size]? = some (.cells #[.slice A na c, .slice (some ⟨g1, 0, none⟩) n c1] 31 (0, 0))) := by rw [← hW6]; exact (set_far _ _ (by have := HG1.out; omega)).trans HX5.out
    have HY6 : Hid (W6.heap[w.heap.size + 1]? = some (.cells #[.slice none 0 0, .slice none 0 0] 31 (0, 0))) := by rw [← hW6]; exact (set_far _ _ (by have := HG1.out; omega)).trans HY5.out
    have B6 : Hid (Below w.heap.size w W6) := by rw [← hW6]; exact B5.out.setCell (p := ⟨g1, i, none⟩) (by have := HG1.out; simp; omega) _
    have HIV : Hid ((vs.set i (.slice (some ⟨g2, 0, none⟩) ll c3))[i]? = some (.slice (some ⟨g2, 0, none⟩) ll c3)) := by
      unfold Hid; rw [List.getElem?_set_self (by have := HVL.out; have := HI.out; omega)]
    obtain ⟨q0, hq0⟩ : ∃ q0, L[k]? = some q0 := ⟨_, List.getElem?_eq_getElem (by have := HLL.out; have := HK.out; omega)⟩
    obtain ⟨W7, hW7⟩ : ∃ W7, W6.setCell ⟨g2, k, none⟩ (.int .u32 y) = W7 := ⟨_, rfl⟩
    have HG3 : Hid (w.heap.size + 2 ≤ g2) := by have := HG1.out; have := HG2.out; unfold Hid; omega
    have HX7 : Hid (W7.heap[w.heap.size]? = some (.cells #[.slice A na c, .slice (some ⟨g1, 0, none⟩) n c1] 31 (0, 0))) := by rw [← hW7]; exact (set_far _ _ (by have := HG3.out; omega)).trans HX6.out
    have HY7 : Hid (W7.heap[w.heap.size + 1]? = some (.cells #[.slice none 0 0, .slice none 0 0] 31 (0, 0))) := by rw [← hW7]; exact (set_far _ _ (by have := HG3.out; omega)).trans HY6.out
    have HO17 : Hid (W7.ownsRow (w.heap.size + 2) 40 1 (.slice (some ⟨g1, 0, none⟩) n c1) n (vs.set i (.slice (some ⟨g2, 0, none⟩) ll c3))) := by
      rw [← hW7]; exact own_same HO16.out (fun q hq => by injection hq with hq; subst hq; exact set_far _ _ (by have := HG2.out; simp; omega))
    have HO7 : Hid (W7.ownsRow W3.heap.size 39 1 (.slice (some ⟨g2, 0, none⟩) ll c3) ll (CU (L.set k y))) := by
      rw [← hW7, CU_set]; exact own_put HO6.out _
    have B7 : Hid (Below w.heap.size w W7) := by rw [← hW7]; exact B6.out.setCell (p := ⟨g2, k, none⟩) (by have := HG3.out; simp; omega) _
    have r1 := (row_cell HX6.out 1).1
    have s0 := (row_cell HX7.out 0).1
    have s1 := (row_cell HX7.out 1).1
    have t0 := (row_cell HY7.out 0).1
    have t1 := (row_cell HY7.out 1).1
    have f0 := (row_cell HY7.out 0).2
    have f1 := (row_cell HY7.out 1).2
    simp at r1 s0 s1 t0 t1
    have r2 := (own_cell HO16.out HIV.out).1
    have r3 := (own_cell HO6.out (CU_at hq0)).1
    have r4 := (own_cell HO6.out (CU_at hq0)).2
    have BL := HS0.out
    clear hHeld hW6 hq0
    go_wp2_with fail
    refine bodyPost_ret (results_cell_mid rfl _ _ (w.heap.size + 1) _ _ rfl (set_two HY7.out _ _) Try.underlying31 rfl (by kernel_rfl)) rfl ?_
    have BW := (B7.out.setCell (p := ⟨w.heap.size + 1, 0, none⟩) (by simp) (.slice A na c)).setCell (p := ⟨w.heap.size + 1, 1, none⟩) (by simp) (.slice (some ⟨g1, 0, none⟩) n c1)
    refine ⟨⟨_, rfl, fun gg hgg hrs => ⟨hrs.a.below BW, ?_⟩⟩, BW⟩
    obtain ⟨vs', h1', h2', _⟩ := hrs.s.ex
    rw [HN.out] at h1'
    have hvv := st_uniq HV1.out h1'
    subst hvv
    have HB3 := (Array.getElem?_eq_some_iff.1 HY3.out).1
    refine ⟨vs.set i (.slice (some ⟨g2, 0, none⟩) ll c3), ?_, fun j u' L' hu' hL' => ?_, fun u' hu' => ?_⟩
    · rw [HPL.out, List.length_set, HN.out]
      exact St.of_own (ownsRow_setCell_below (ownsRow_setCell_below HO17.out (by simp) _) (by simp) _) (by omega)
    · rw [HPL.out] at hL'
      by_cases hj : i = j
      · subst hj
        rw [List.getElem?_set_self (by have := HVL.out; have := HI.out; omega)] at hu'
        rw [List.getElem?_set_self (by have := HN.out; have := HI.out; omega)] at hL'
        injection hu' with hu'
        injection hL' with hL'
        subst hu' hL'
        rw [List.length_set, HLL.out]
        exact St.of_own (ownsRow_setCell_below (ownsRow_setCell_below HO7.out (by simpa using HB3) _) (by simpa using HB3) _) (by omega)
      · rw [List.getElem?_set_ne hj] at hu' hL'
        exact (h2' j u' L' hu' hL').below BW
    · rcases List.mem_or_eq_of_mem_set hu' with h | rfl
      · exact H3.out _ h
      · rfl
  · go_simp
    refine hK.out _ _ hHeld (fun hHeld => ?_)
    clear hK K
    try simp only [Act.put, List.setIfInBounds_toArray, List.set_cons_zero, List.set_cons_succ]
    refine wpAnyH_ready (rs := [3]) (by kernel_rfl) (by simp) ?_
    refine AllReadyH.cons rfl (fun K hK => ?_) AllReadyH.nil
    go_simp
    refine hK.out _ _ (cell_al _ hHeld) (fun hHeld => ?_)
    clear hK K
    try simp only [Act.put, List.setIfInBounds_toArray, List.set_cons_zero, List.set_cons_succ]
    refine wpAnyH_ready (rs := [9]) (by kernel_rfl) (by simp) ?_
    refine AllReadyH.cons rfl (fun K hK => ?_) AllReadyH.nil
    refine wp_append_any _ (.tmp 17) (.tmp 22) 40 rfl W3.heap.size 39 i1 (.int .u32 0) 1 4 Try.underlying40 hinf1 hy0 hy1 hy2 rfl (by decide) (.slice (some ⟨W3.heap.size, 0, none⟩) 0 0) 0 [] rfl (row_empty 39 W3.drew) W3.heap.size A2 ll c2 (CU L) rfl HRD.out (CU_one _) (by have := HM.out; unfold maxLen; omega) (by have := HM.out; omega) (by simp) ?_
    intro v2 W5 hown hgr hbl
    have ho' : W5.ownsRow W3.heap.size 39 1 v2 ll (CU L) := by simpa using hown
    have B35 : Hid (Below W3.heap.size W3 W5) := (below_drewN (Below.refl _ _) 1 |>.alloc (Nat.le_refl _) _).grown hgr (by simp) (fun q hq => by have h' : some W3.heap.size = some q := hq; injection h' with h'; exact Nat.le_of_eq h')
    obtain ⟨g2, c3, rfl, hg2, hg2'⟩ := own_form ho' (by have := HK.out; omega)
    have HO5 := Lib.hid ho'
    have HO15 := Lib.hid (own_below HO3.out B35.out)
    have HX5 : Hid (W5.heap[w.heap.size]? = some (.cells #[.slice A na c, .slice (some ⟨g1, 0, none⟩) n c1] 31 (0, 0))) := (B35.out.block _ (Array.getElem?_eq_some_iff.1 HX3.out).1).trans HX3.out
    have HY5 : Hid (W5.heap[w.heap.size + 1]? = some (.cells #[.slice none 0 0, .slice none 0 0] 31 (0, 0))) := (B35.out.block _ (Array.getElem?_eq_some_iff.1 HY3.out).1).trans HY3.out
    have HG2 : Hid (g1 < g2) := by have := (HO3.out.lt g1 rfl).2; unfold Hid; omega
    have B5 : Hid (Below w.heap.size w W5) := B3.out.trans (B35.out.mono B3.out.size)
    refine hK.out _ _ ?_ (fun hHeld => ?_)
    · have := (row_cell HX5.out 1).1; simpa using this
    clear hK K hown hgr hbl ho' HX2d HX2e HX2f HRD
    try simp only [Act.put, List.setIfInBounds_toArray, List.set_cons_zero, List.set_cons_succ]
    refine takeD (i := 10) (d := some 24) (v := ?_) _ rfl rfl (by kernel_rfl) (by kernel_rfl) (by kernel_rfl) (fun _ _ _ h => h) (by rfl) ?_ (by assumption) ?_
    rotate_left
    · (intro w hSw; (try dsimp only at hSw); go_simp) <;> with_reducible rfl
    try simp only [Act.put, List.setIfInBounds_toArray, List.set_cons_zero, List.set_cons_succ]
    refine wpAnyH_ready (rs := [11]) (by kernel_rfl) (by simp) ?_
    refine AllReadyH.cons rfl (fun K hK => ?_) AllReadyH.nil
    have y1 := (own_cell HO15.out HU.out).1
    have y2 := (own_cell HO15.out HU.out).2
    go_simp
    refine hK.out _ _ ?_ (fun hHeld => ?_)
    · rw [World.cell?_setCell_far _ _ _ _ (by simp; have := HG1.out; omega)]; exact hHeld
    clear hK K y1 y2 hHeld
    try simp only [Act.put, List.setIfInBounds_toArray, List.set_cons_zero, List.set_cons_succ]
    refine wpAnyH_done (by kernel_rfl) ?_ _
    obtain ⟨W6, hW6⟩ : ∃ W6, W5.setCell ⟨g1, i, none⟩ (.slice (some ⟨g2, 0, none⟩) ll c3) = W6 := ⟨_, rfl⟩
    simp only [hW6] at hHeld ⊢
    have HO16 : Hid (W6.ownsRow (w.heap.size + 2) 40 1 (.slice (some ⟨g1, 0, none⟩) n c1) n (vs.set i (.slice (some ⟨g2, 0, none⟩) ll c3))) := by rw [← hW6]; exact own_put HO15.out _
    have HO6 : Hid (W6.ownsRow W3.heap.size 39 1 (.slice (some ⟨g2, 0, none⟩) ll c3) ll (CU L)) := by
      rw [← hW6]; exact own_same HO5.out (fun q hq => by injection hq with hq; subst hq; exact set_far _ _ (by have := HG2.out; simp; omega))
    have HX6 : Hid (W6.heap[w.heap.size]? = some (.cells #[.slice A na c, .slice (some ⟨g1, 0, none⟩) n c1] 31 (0, 0))) := by rw [← hW6]; exact (set_far _ _ (by have := HG1.out; omega)).trans HX5.out
    have HY6 : Hid (W6.heap[w.heap.size + 1]? = some (.cells #[.slice none 0 0, .slice none 0 0] 31 (0, 0))) := by rw [← hW6]; exact (set_far _ _ (by have := HG1.out; omega)).trans HY5.out
    have B6 : Hid (Below w.heap.size w W6) := by rw [← hW6]; exact B5.out.setCell (p := ⟨g1, i, none⟩) (by have := HG1.out; simp; omega) _
    have HIV : Hid ((vs.set i (.slice (some ⟨g2, 0, none⟩) ll c3))[i]? = some (.slice (some ⟨g2, 0, none⟩) ll c3)) := by
      unfold Hid; rw [List.getElem?_set_self (by have := HVL.out; have := HI.out; omega)]
    obtain ⟨q0, hq0⟩ : ∃ q0, L[k]? = some q0 := ⟨_, List.getElem?_eq_getElem (by have := HLL.out; have := HK.out; omega)⟩
    obtain ⟨W7, hW7⟩ : ∃ W7, W6.setCell ⟨g2, k, none⟩ (.int .u32 y) = W7 := ⟨_, rfl⟩
    have HG3 : Hid (w.heap.size + 2 ≤ g2) := by have := HG1.out; have := HG2.out; unfold Hid; omega
    have HX7 : Hid (W7.heap[w.heap.size]? = some (.cells #[.slice A na c, .slice (some ⟨g1, 0, none⟩) n c1] 31 (0, 0))) := by rw [← hW7]; exact (set_far _ _ (by have := HG3.out; omega)).trans HX6.out
    have HY7 : Hid (W7.heap[w.heap.size + 1]? = some (.cells #[.slice none 0 0, .slice none 0 0] 31 (0, 0))) := by rw [← hW7]; exact (set_far _ _ (by have := HG3.out; omega)).trans HY6.out
    have HO17 : Hid (W7.ownsRow (w.heap.size + 2) 40 1 (.slice (some ⟨g1, 0, none⟩) n c1) n (vs.set i (.slice (some ⟨g2, 0, none⟩) ll c3))) := by
      rw [← hW7]; exact own_same HO16.out (fun q hq => by injection hq with hq; subst hq; exact set_far _ _ (by have := HG2.out; simp; omega))
    have HO7 : Hid (W7.ownsRow W3.heap.size 39 1 (.slice (some ⟨g2, 0, none⟩) ll c3) ll (CU (L.set k y))) := by
      rw [← hW7, CU_set]; exact own_put HO6.out _
    have B7 : Hid (Below w.heap.size w W7) := by rw [← hW7]; exact B6.out.setCell (p := ⟨g2, k, none⟩) (by have := HG3.out; simp; omega) _
    have r1 := (row_cell HX6.out 1).1
    have s0 := (row_cell HX7.out 0).1
    have s1 := (row_cell HX7.out 1).1
    have t0 := (row_cell HY7.out 0).1
    have t1 := (row_cell HY7.out 1).1
    have f0 := (row_cell HY7.out 0).2
    have f1 := (row_cell HY7.out 1).2
    simp at r1 s0 s1 t0 t1
    have r2 := (own_cell HO16.out HIV.out).1
    have r3 := (own_cell HO6.out (CU_at hq0)).1
    have r4 := (own_cell HO6.out (CU_at hq0)).2
    have BL := HS0.out
    clear hHeld hW6 hq0
    go_wp2_with fail
    refine bodyPost_ret (results_cell_mid rfl _ _ (w.heap.size + 1) _ _ rfl (set_two HY7.out _ _) Try.underlying31 rfl (by kernel_rfl)) rfl ?_
    have BW := (B7.out.setCell (p := ⟨w.heap.size + 1, 0, none⟩) (by simp) (.slice A na c)).setCell (p := ⟨w.heap.size + 1, 1, none⟩) (by simp) (.slice (some ⟨g1, 0, none⟩) n c1)
    refine ⟨⟨_, rfl, fun gg hgg hrs => ⟨hrs.a.below BW, ?_⟩⟩, BW⟩
    obtain ⟨vs', h1', h2', _⟩ := hrs.s.ex
    rw [HN.out] at h1'
    have hvv := st_uniq HV1.out h1'
    subst hvv
    have HB3 := (Array.getElem?_eq_some_iff.1 HY3.out).1
    refine ⟨vs.set i (.slice (some ⟨g2, 0, none⟩) ll c3), ?_, fun j u' L' hu' hL' => ?_, fun u' hu' => ?_⟩
    · rw [HPL.out, List.length_set, HN.out]
      exact St.of_own (ownsRow_setCell_below (ownsRow_setCell_below HO17.out (by simp) _) (by simp) _) (by omega)
    · rw [HPL.out] at hL'
      by_cases hj : i = j
      · subst hj
        rw [List.getElem?_set_self (by have := HVL.out; have := HI.out; omega)] at hu'
        rw [List.getElem?_set_self (by have := HN.out; have := HI.out; omega)] at hL'
        injection hu' with hu'
        injection hL' with hL'
        subst hu' hL'
        rw [List.length_set, HLL.out]
        exact St.of_own (ownsRow_setCell_below (ownsRow_setCell_below HO7.out (by simpa using HB3) _) (by simpa using HB3) _) (by omega)
      · rw [List.getElem?_set_ne hj] at hu' hL'
        exact (h2' j u' L' hu' hL').below BW
    · rcases List.mem_or_eq_of_mem_set hu' with h | rfl
      · exact H3.out _ h
      · rfl
end Go.Proofs.Ytliggejkpmlgfaa
