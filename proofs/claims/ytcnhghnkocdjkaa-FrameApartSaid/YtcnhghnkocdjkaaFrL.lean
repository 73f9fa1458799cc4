/-
  Contracts of the law's own functions Cut, Of and known. Each statement bears its own conditions.
-/
import Derived.Test.YtcnhghnkocdjkaaFrX
import Derived.Test.YtcnhghnkocdjkaaFrO
import Derived.Deep.RegionHeld
import Derived.Laws.AppendOwn
namespace Go.Proofs.Ytcnhghnkocdjkaa
open Go.RowKit
set_option linter.unusedVariables false
set_option linter.unusedSimpArgs false
theorem set_snd {w : World} {g : Nat} {c0 c1 : Value} {t : TypeId} (h : w.heap[g]? = some (.cells #[c0, c1] t (0, 0))) (v : Value) : (w.setCell ⟨g, 1, none⟩ v).heap[g]? = some (.cells #[c0, v] t (0, 0)) := by
  have hl : g < w.heap.size := by
    by_cases hlt : g < w.heap.size
    · exact hlt
    · rw [Array.getElem?_eq_none (by omega)] at h; cases h
  simp [World.setCell, h, Array.getElem?_modify]
theorem set_two {w : World} {g : Nat} {c0 c1 : Value} {t : TypeId} (h : w.heap[g]? = some (.cells #[c0, c1] t (0, 0))) (a b : Value) : ((w.setCell ⟨g, 0, none⟩ a).setCell ⟨g, 1, none⟩ b).rangeAt g 0 [a, b] := by
  have k0 := (row_cell h 0).1
  have k1 := (row_cell h 1).1
  simp at k0 k1
  intro j v hv
  match j, hv with
  | 0, hv =>
    simp at hv; subst hv
    rw [Nat.zero_add, World.cell?_setCell_other _ _ _ _ (by simp)]
    exact World.cell?_setCell_same _ _ _ k0
  | 1, hv =>
    simp at hv; subst hv
    exact World.cell?_setCell_same _ _ _ ((World.cell?_setCell_other _ _ _ _ (by simp)).trans k1)
  | j + 2, hv => simp at hv
theorem take_snoc {α : Type} {xs : List α} {k : Nat} {x : α} (h : xs[k]? = some x) : xs.take (k + 1) = xs.take k ++ [x] := by
  rw [List.take_add_one, h]; rfl
theorem heap_alloc_oldx (w : World) (o : Obj) (i : Nat) (h : i < w.heap.size) : (w.alloc o).heap[i]? = w.heap[i]? := (((Below.refl _ _).alloc (Nat.le_refl _) o).block i h)
structure LOfRel (fr : Int) (n : Nat) (ws : List MW) (w W0 : World) (v : Value) (wr : World) : Prop where
  ex : ∃ (k : Nat) (A : Option Addr) (c : Nat), k ≤ n ∧ v = .int .i64 (k : Int) ∧ wr.ownsRow (w.heap.size + 3) 39 3 (.slice A k c) k (cellsW (ws.take k)) ∧ Below (w.heap.size + 2) W0 wr ∧ wr.heap[w.heap.size + 2]? = some (.cells #[.int .i64 fr, .slice A k c] 28 (0, 0))
set_option maxRecDepth 100000 in
set_option maxHeartbeats 4000000 in
theorem lof_any (fr : Int) (v : Value) (ws : List MW) (w : World) (h : Row w 3 RW v ws) (hlen : ws.length ≤ 70) :
    Calls Try.prog 10 #[.agg #[.int .i64 fr, v]] w fun e w' => (∃ r, e = .returned (.agg #[.int .i64 fr, r]) ∧ Row w' 3 RW r ws) ∧ Below w.heap.size w w' := by
  obtain ⟨i0, hi, hz0, hz1, hz2⟩ := frinfo_of rwin_info
  obtain ⟨a, cap, rfl, hm⟩ := h.form
  obtain ⟨n, hn⟩ : ∃ n, ws.length = n := ⟨_, rfl⟩
  have HG := Lib.hid (row_good h)
  rw [hn] at h hlen ⊢
  have HN := Lib.hid hn
  have H := Lib.hid h
  have HM := Lib.hid hlen
  clear hn h hm
  go_enter Try.func10, Try.ntmps10
  go_wp2_with fail
  obtain ⟨W0, hW0⟩ : ∃ W0, ((w.alloc (.cells #[.int .i64 fr, .slice a n cap] 24)).alloc (.cells #[.int .i64 0, .slice none 0 0] 28)).alloc (.cells #[.int .i64 fr, .slice none 0 0] 28) = W0 := ⟨_, rfl⟩
  have BW : Hid (Below w.heap.size w W0) := by rw [← hW0]; exact (((Below.refl _ _).alloc (Nat.le_refl _) _).alloc (by simp) _).alloc (by simp; omega) _
  have HS : Hid (W0.heap.size = w.heap.size + 3) := by rw [← hW0]; unfold Hid; simp
  have hd1 : W0.cell? ⟨w.heap.size, 1, none⟩ = some (.slice a n cap) := by rw [← hW0]; exact cell_al _ (cell_al _ (by simp))
  have D1 := Lib.hid hd1
  have HR1 : Hid (W0.heap[w.heap.size + 1]? = some (.cells #[.int .i64 0, .slice none 0 0] 28 (0, 0))) := by
    rw [← hW0]; unfold Hid
    have h1 := heap_alloc_new (w.alloc (.cells #[.int .i64 fr, .slice a n cap] 24)) (.cells #[.int .i64 0, .slice none 0 0] 28)
    have h2 := heap_alloc_oldx ((w.alloc (.cells #[.int .i64 fr, .slice a n cap] 24)).alloc (.cells #[.int .i64 0, .slice none 0 0] 28)) (.cells #[.int .i64 fr, .slice none 0 0] 28) (w.heap.size + 1) (by simp)
    rw [h2]; simpa using h1
  have HR2 : Hid (W0.heap[w.heap.size + 2]? = some (.cells #[.int .i64 fr, .slice none 0 0] 28 (0, 0))) := by
    rw [← hW0]; unfold Hid
    have h1 := heap_alloc_new ((w.alloc (.cells #[.int .i64 fr, .slice a n cap] 24)).alloc (.cells #[.int .i64 0, .slice none 0 0] 28)) (.cells #[.int .i64 fr, .slice none 0 0] 28)
    simpa using h1
  clear hd1
  simp only [hW0]
  clear hW0
  go_loopw [4] (fun v wr => LOfRel fr n ws w W0 v wr) (fun v => fun _ => n - (intOf v).toNat)
  case atStart => exact ⟨⟨0, none, 0, Nat.zero_le _, rfl, World.ownsRow_nil _ _ _ _, Below.refl _ _ , HR2.out⟩⟩
  case round =>
    obtain ⟨⟨k, A, c, hk, rfl, ho, hb, hm3⟩⟩ := hrel
    have HK := Lib.hid hk
    obtain ⟨ls, hls⟩ : ∃ ls, cellsW (ws.take k) = ls := ⟨_, rfl⟩
    rw [hls] at ho
    have HLS := Lib.hid hls
    have HO := Lib.hid ho
    have HB := Lib.hid hb
    have HM3 := Lib.hid hm3
    have e1 : wr.cell? ⟨w.heap.size, 1, none⟩ = some (.slice a n cap) := (hb.cell (by simp)).trans D1.out
    have m0 := (row_cell hm3 0).1
    have m1 := (row_cell hm3 1).1
    simp at m0 m1
    have HM1 := Lib.hid m1
    have HBW : Hid (Below w.heap.size w wr) := BW.out.trans (hb.mono (by omega))
    clear hk ho hb hls hm3
    by_cases hlt : k < n
    · have hkI : (k : Int) < (n : Int) := by omega
      have hk70 : (k : Int) < 70 := by omega
      have HX : Hid (k < n) := hlt
      obtain ⟨hnx, b, off, x, cs, rfl, hbl, hx, hR, _, hc⟩ := H.out.at_ k hlt
      clear hnx
      have HT := Lib.hid (take_snoc hx)
      obtain ⟨xw, xf, xl⟩ := x
      obtain ⟨rfl, hi0, hi1, hi2⟩ := hR
      have hcx := Lib.hid hc
      have hblx := Lib.hid hbl
      have d0 : wr.cell? ⟨b, off + k * 3, none⟩ = some (.int .i64 xw) := cell_later HBW.out (hc 0 _ rfl)
      have d1 : wr.cell? ⟨b, off + k * 3 + 1, none⟩ = some (.int .i64 xf) := cell_later HBW.out (hc 1 _ rfl)
      have d2 : wr.cell? ⟨b, off + k * 3 + 2, none⟩ = some (.int .i64 xl) := cell_later HBW.out (hc 2 _ rfl)
      clear hc hi0 hi1 hi2 hbl hx hlt m0 m1
      go_wp2_with fail
      refine wp_region_held_drew (S := (fun w' => Below w.heap.size w w' ∧ w'.cell? ⟨w.heap.size, 1, none⟩ = some (.slice (some ⟨b, off, none⟩) n cap) ∧ w'.cell? ⟨b, off + k * 3, none⟩ = some (.int .i64 xw) ∧ w'.cell? ⟨b, off + k * 3 + 1, none⟩ = some (.int .i64 xf) ∧ w'.cell? ⟨b, off + k * 3 + 2, none⟩ = some (.int .i64 xl))) (by kernel_rfl) ?_ (fun hHeld => ?_)
      · exact ⟨below_drewN HBW.out 1, e1, d0, d1, d2⟩
      refine takeD (i := 0) (d := some 19) (v := ?_) _ rfl rfl (by kernel_rfl) (by kernel_rfl) (by kernel_rfl) (fun _ _ _ h => h) (by rfl) ?_ (by assumption) ?_
      rotate_left
      · (intro w hSw; (try dsimp only at hSw); go_simp) <;> with_reducible rfl
      try simp only [Act.put, List.setIfInBounds_toArray, List.set_cons_zero, List.set_cons_succ]
      refine takeD (i := 2) (d := some 21) (v := ?_) _ rfl rfl (by kernel_rfl) (by kernel_rfl) (by kernel_rfl) (fun _ _ _ h => h) (by rfl) ?_ (by assumption) ?_
      rotate_left
      · (intro w hSw; (try dsimp only at hSw); go_simp) <;> with_reducible rfl
      try simp only [Act.put, List.setIfInBounds_toArray, List.set_cons_zero, List.set_cons_succ]
      refine takeD (i := 4) (d := some 23) (v := ?_) _ rfl rfl (by kernel_rfl) (by kernel_rfl) (by kernel_rfl) (fun _ _ _ h => h) (by rfl) ?_ (by assumption) ?_
      rotate_left
      · (intro w hSw; (try dsimp only at hSw); go_simp) <;> with_reducible rfl
      try simp only [Act.put, List.setIfInBounds_toArray, List.set_cons_zero, List.set_cons_succ]
      refine takeD (i := 3) (d := some 22) (v := ?_) _ rfl rfl (by kernel_rfl) (by kernel_rfl) (by kernel_rfl) (fun _ _ _ h => h) (by rfl) ?_ (by assumption) ?_
      rotate_left
      · (intro w hSw; (try dsimp only at hSw); go_simp) <;> with_reducible rfl
      try simp only [Act.put, List.setIfInBounds_toArray, List.set_cons_zero, List.set_cons_succ]
      refine takeD (i := 5) (d := some 24) (v := ?_) _ rfl rfl (by kernel_rfl) (by kernel_rfl) (by kernel_rfl) (fun _ _ _ h => h) (by rfl) ?_ (by assumption) ?_
      rotate_left
      · (intro w hSw; (try dsimp only at hSw); go_simp) <;> with_reducible rfl
      try simp only [Act.put, List.setIfInBounds_toArray, List.set_cons_zero, List.set_cons_succ]
      refine takeD (i := 6) (d := some 25) (v := ?_) _ rfl rfl (by kernel_rfl) (by kernel_rfl) (by kernel_rfl) (fun _ _ _ h => h) (by rfl) ?_ (by assumption) ?_
      rotate_left
      · (intro w hSw; (try dsimp only at hSw); go_simp) <;> with_reducible rfl
      try simp only [Act.put, List.setIfInBounds_toArray, List.set_cons_zero, List.set_cons_succ]
      clear hHeld
      refine wpAnyH_ready (rs := [1, 7]) (by kernel_rfl) (by simp) ?_
      refine AllReadyH.cons rfl (fun K hK => ?_) (AllReadyH.cons rfl (fun K hK => ?_) AllReadyH.nil)
      · have m1 := HM1.out
        go_simp
        clear m1
        refine hK.out _ _ ⟨below_drewN HBW.out 1, e1, d0, d1, d2⟩ (fun _ => ?_)
        clear hK K
        try simp only [Act.put, List.setIfInBounds_toArray, List.set_cons_zero, List.set_cons_succ]
        refine wpAnyH_ready (rs := [7]) (by kernel_rfl) (by simp) ?_
        refine AllReadyH.cons rfl (fun K hK => ?_) AllReadyH.nil
        go_simp
        refine hK.out _ _ ⟨below_drewN (HBW.out.alloc HBW.out.size _) 1, cell_al _ e1, cell_al _ d0, cell_al _ d1, cell_al _ d2⟩ (fun _ => ?_)
        clear hK K d0 d1 d2 e1
        try simp only [Act.put, List.setIfInBounds_toArray, List.set_cons_zero, List.set_cons_succ]
        obtain ⟨V1, hV1⟩ : ∃ V1, (wr.alloc (.cells #[.int .i64 xw, .int .i64 xf, .int .i64 xl] 39)).drew = V1 := ⟨_, rfl⟩
        simp only [hV1]
        have BV : Hid (Below (w.heap.size + 2) W0 V1 ∧ Below wr.heap.size wr V1) := by rw [← hV1]; exact ⟨below_drewN (HB.out.alloc (by have := HS.out; have := HB.out.size; omega) _) 1, below_drewN ((Below.refl _ _).alloc (Nat.le_refl _) _) 1⟩
        have NC : Hid (∀ (j : Nat) u, [Value.int .i64 xw, .int .i64 xf, .int .i64 xl][j]? = some u → V1.cell? ((⟨wr.heap.size, 0, none⟩ : Addr).add j) = some u) := by
          intro j u hu
          rw [← hV1]
          match j, hu with
          | 0, hu => simp at hu; subst hu; rw [Addr.add_lit]; simp
          | 1, hu => simp at hu; subst hu; rw [Addr.add_lit]; simp
          | 2, hu => simp at hu; subst hu; rw [Addr.add_lit]; simp
          | j + 3, hu => simp at hu
        have HO1 : Hid (V1.ownsRow (w.heap.size + 3) 39 3 (.slice A k c) k ls) := own_below HO.out BV.out.2
        clear hV1
        refine wpAnyH_ready (rs := [8]) (by kernel_rfl) (by simp) ?_
        refine AllReadyH.cons rfl (fun K hK => ?_) AllReadyH.nil
        refine wp_append_own V1 (.tmp 20) (.tmp 26) 26 rfl (w.heap.size + 3) 39 i0 (.agg #[.int .i64 0, .int .i64 0, .int .i64 0]) 3 24 Try.underlying26 hi hz0 hz1 hz2 rfl (by decide) (.slice A k c) k ls rfl HO1.out ⟨wr.heap.size, 0, none⟩ 1 1 [.int .i64 xw, .int .i64 xf, .int .i64 xl] rfl rfl NC.out ?c2 ?c3 ?c4 ?c5 ?_
        case c2 => intro u hu; simp at hu; rcases hu with rfl | rfl | rfl <;> rfl
        case c3 => have h1 := HX.out; have h2 := HM.out; unfold maxLen; omega
        case c4 => have h1 := HX.out; have h2 := HM.out; omega
        case c5 => have := BV.out.1.size; have := HS.out; have := HB.out.size; have := BV.out.2.size; omega
        intro v' w2 hown hgrow _
        obtain ⟨A', c', rfl⟩ := frown_form hown
        have HO2 : Hid (w2.ownsRow (w.heap.size + 3) 39 3 (.slice A' (k + 1) c') (k + 1) (cellsW (ws.take (k + 1)))) := by
          unfold Hid; rw [HT.out, cellsW_app, HLS.out]; exact hown
        have HB2 : Hid (Below (w.heap.size + 3) V1 w2) := (Below.refl _ _).grown hgrow (by have := BV.out.1.size; have := HS.out; have := HB.out.size; have := BV.out.2.size; omega) (fun k hk => (HO1.out.lt k hk).1)
        have f2 : w2.heap[w.heap.size + 2]? = some (.cells #[.int .i64 fr, .slice A k c] 28 (0, 0)) := (HB2.out.block _ (by omega)).trans ((BV.out.2.block _ (by have := HS.out; have := HB.out.size; omega)).trans HM3.out)
        have HF2 := Lib.hid f2
        have g1 := (row_cell f2 1).2
        have k1 := (row_cell f2 1).1
        simp at k1
        have HS2 : Hid (Below w.heap.size w w2 ∧ w2.cell? ⟨w.heap.size, 1, none⟩ = some (.slice (some ⟨b, off, none⟩) n cap) ∧ w2.cell? ⟨b, off + k * 3, none⟩ = some (.int .i64 xw) ∧ w2.cell? ⟨b, off + k * 3 + 1, none⟩ = some (.int .i64 xf) ∧ w2.cell? ⟨b, off + k * 3 + 2, none⟩ = some (.int .i64 xl)) :=
          have h0 : Below (w.heap.size + 2) W0 w2 := BV.out.1.trans (HB2.out.mono (by omega))
          have h1 : Below w.heap.size w w2 := BW.out.trans (h0.mono (by omega))
          ⟨h1, (h0.cell (by simp)).trans D1.out, cell_later h1 (hcx.out 0 _ rfl), cell_later h1 (hcx.out 1 _ rfl), cell_later h1 (hcx.out 2 _ rfl)⟩
        have HB3 : Hid (Below (w.heap.size + 2) W0 w2) := BV.out.1.trans (HB2.out.mono (by omega))
        clear hown hgrow f2
        refine hK.out _ _ HS2.out (fun hHeld2 => ?_)
        clear hK K
        try simp only [Act.put, List.setIfInBounds_toArray, List.set_cons_zero, List.set_cons_succ]
        refine takeD (i := 9) (d := some 28) (v := ?_) _ rfl rfl (by kernel_rfl) (by kernel_rfl) (by kernel_rfl) (fun _ _ _ h => h) (by rfl) ?_ (by assumption) ?_
        rotate_left
        · (intro w hSw; (try dsimp only at hSw); go_simp) <;> with_reducible rfl
        try simp only [Act.put, List.setIfInBounds_toArray, List.set_cons_zero, List.set_cons_succ]
        clear hHeld2
        refine wpAnyH_ready (rs := [10]) (by kernel_rfl) (by simp) ?_
        refine AllReadyH.cons rfl (fun K hK => ?_) AllReadyH.nil
        go_simp
        refine hK.out _ _ ?_ (fun hHeld2 => ?_)
        · exact ⟨HS2.out.1.setCell (p := ⟨w.heap.size + 2, 1, none⟩) (by simp) _, (World.cell?_setCell_far _ _ _ _ (by simp; omega)).trans HS2.out.2.1, (World.cell?_setCell_far _ _ _ _ (by have := hblx.out; simp; omega)).trans HS2.out.2.2.1, (World.cell?_setCell_far _ _ _ _ (by have := hblx.out; simp; omega)).trans HS2.out.2.2.2.1, (World.cell?_setCell_far _ _ _ _ (by have := hblx.out; simp; omega)).trans HS2.out.2.2.2.2⟩
        clear hK K hHeld2
        try simp only [Act.put, List.setIfInBounds_toArray, List.set_cons_zero, List.set_cons_succ]
        refine wpAnyH_done (by kernel_rfl) ?_ _
        go_wp2_with fail
        go_roundw
        case rel =>
          have Q : LOfRel fr n ws w W0 (.int .i64 ((k : Int) + 1)) (w2.setCell ⟨w.heap.size + 2, 1, none⟩ (.slice A' (k + 1) c')) := ⟨⟨k + 1, A', c', HX.out, by go_num, ownsRow_setCell_below HO2.out (by simp) _, HB3.out.setCell (p := ⟨w.heap.size + 2, 1, none⟩) (by simp) _, set_snd HF2.out _⟩⟩
          first | exact Q | ((repeat apply Exists.intro); exact ⟨Q, rfl⟩)
        case measure => have := HX.out; simp [intOf]; omega
      · go_simp
        refine hK.out _ _ ⟨below_drewN (HBW.out.alloc HBW.out.size _) 1, cell_al _ e1, cell_al _ d0, cell_al _ d1, cell_al _ d2⟩ (fun _ => ?_)
        clear hK K
        try simp only [Act.put, List.setIfInBounds_toArray, List.set_cons_zero, List.set_cons_succ]
        refine wpAnyH_ready (rs := [1]) (by kernel_rfl) (by simp) ?_
        refine AllReadyH.cons rfl (fun K hK => ?_) AllReadyH.nil
        have m1 : (wr.alloc (.cells #[.int .i64 xw, .int .i64 xf, .int .i64 xl] 39)).drew.cell? ⟨w.heap.size + 2, 1, none⟩ = some (.slice A k c) := cell_al _ HM1.out
        go_simp
        clear m1
        refine hK.out _ _ ⟨below_drewN (HBW.out.alloc HBW.out.size _) 1, cell_al _ e1, cell_al _ d0, cell_al _ d1, cell_al _ d2⟩ (fun _ => ?_)
        clear hK K d0 d1 d2 e1
        try simp only [Act.put, List.setIfInBounds_toArray, List.set_cons_zero, List.set_cons_succ]
        obtain ⟨V1, hV1⟩ : ∃ V1, (wr.alloc (.cells #[.int .i64 xw, .int .i64 xf, .int .i64 xl] 39)).drew = V1 := ⟨_, rfl⟩
        simp only [hV1]
        have BV : Hid (Below (w.heap.size + 2) W0 V1 ∧ Below wr.heap.size wr V1) := by rw [← hV1]; exact ⟨below_drewN (HB.out.alloc (by have := HS.out; have := HB.out.size; omega) _) 1, below_drewN ((Below.refl _ _).alloc (Nat.le_refl _) _) 1⟩
        have NC : Hid (∀ (j : Nat) u, [Value.int .i64 xw, .int .i64 xf, .int .i64 xl][j]? = some u → V1.cell? ((⟨wr.heap.size, 0, none⟩ : Addr).add j) = some u) := by
          intro j u hu
          rw [← hV1]
          match j, hu with
          | 0, hu => simp at hu; subst hu; rw [Addr.add_lit]; simp
          | 1, hu => simp at hu; subst hu; rw [Addr.add_lit]; simp
          | 2, hu => simp at hu; subst hu; rw [Addr.add_lit]; simp
          | j + 3, hu => simp at hu
        have HO1 : Hid (V1.ownsRow (w.heap.size + 3) 39 3 (.slice A k c) k ls) := own_below HO.out BV.out.2
        clear hV1
        refine wpAnyH_ready (rs := [8]) (by kernel_rfl) (by simp) ?_
        refine AllReadyH.cons rfl (fun K hK => ?_) AllReadyH.nil
        refine wp_append_own V1 (.tmp 20) (.tmp 26) 26 rfl (w.heap.size + 3) 39 i0 (.agg #[.int .i64 0, .int .i64 0, .int .i64 0]) 3 24 Try.underlying26 hi hz0 hz1 hz2 rfl (by decide) (.slice A k c) k ls rfl HO1.out ⟨wr.heap.size, 0, none⟩ 1 1 [.int .i64 xw, .int .i64 xf, .int .i64 xl] rfl rfl NC.out ?c2 ?c3 ?c4 ?c5 ?_
        case c2 => intro u hu; simp at hu; rcases hu with rfl | rfl | rfl <;> rfl
        case c3 => have h1 := HX.out; have h2 := HM.out; unfold maxLen; omega
        case c4 => have h1 := HX.out; have h2 := HM.out; omega
        case c5 => have := BV.out.1.size; have := HS.out; have := HB.out.size; have := BV.out.2.size; omega
        intro v' w2 hown hgrow _
        obtain ⟨A', c', rfl⟩ := frown_form hown
        have HO2 : Hid (w2.ownsRow (w.heap.size + 3) 39 3 (.slice A' (k + 1) c') (k + 1) (cellsW (ws.take (k + 1)))) := by
          unfold Hid; rw [HT.out, cellsW_app, HLS.out]; exact hown
        have HB2 : Hid (Below (w.heap.size + 3) V1 w2) := (Below.refl _ _).grown hgrow (by have := BV.out.1.size; have := HS.out; have := HB.out.size; have := BV.out.2.size; omega) (fun k hk => (HO1.out.lt k hk).1)
        have f2 : w2.heap[w.heap.size + 2]? = some (.cells #[.int .i64 fr, .slice A k c] 28 (0, 0)) := (HB2.out.block _ (by omega)).trans ((BV.out.2.block _ (by have := HS.out; have := HB.out.size; omega)).trans HM3.out)
        have HF2 := Lib.hid f2
        have g1 := (row_cell f2 1).2
        have k1 := (row_cell f2 1).1
        simp at k1
        have HS2 : Hid (Below w.heap.size w w2 ∧ w2.cell? ⟨w.heap.size, 1, none⟩ = some (.slice (some ⟨b, off, none⟩) n cap) ∧ w2.cell? ⟨b, off + k * 3, none⟩ = some (.int .i64 xw) ∧ w2.cell? ⟨b, off + k * 3 + 1, none⟩ = some (.int .i64 xf) ∧ w2.cell? ⟨b, off + k * 3 + 2, none⟩ = some (.int .i64 xl)) :=
          have h0 : Below (w.heap.size + 2) W0 w2 := BV.out.1.trans (HB2.out.mono (by omega))
          have h1 : Below w.heap.size w w2 := BW.out.trans (h0.mono (by omega))
          ⟨h1, (h0.cell (by simp)).trans D1.out, cell_later h1 (hcx.out 0 _ rfl), cell_later h1 (hcx.out 1 _ rfl), cell_later h1 (hcx.out 2 _ rfl)⟩
        have HB3 : Hid (Below (w.heap.size + 2) W0 w2) := BV.out.1.trans (HB2.out.mono (by omega))
        clear hown hgrow f2
        refine hK.out _ _ HS2.out (fun hHeld2 => ?_)
        clear hK K
        try simp only [Act.put, List.setIfInBounds_toArray, List.set_cons_zero, List.set_cons_succ]
        refine takeD (i := 9) (d := some 28) (v := ?_) _ rfl rfl (by kernel_rfl) (by kernel_rfl) (by kernel_rfl) (fun _ _ _ h => h) (by rfl) ?_ (by assumption) ?_
        rotate_left
        · (intro w hSw; (try dsimp only at hSw); go_simp) <;> with_reducible rfl
        try simp only [Act.put, List.setIfInBounds_toArray, List.set_cons_zero, List.set_cons_succ]
        clear hHeld2
        refine wpAnyH_ready (rs := [10]) (by kernel_rfl) (by simp) ?_
        refine AllReadyH.cons rfl (fun K hK => ?_) AllReadyH.nil
        go_simp
        refine hK.out _ _ ?_ (fun hHeld2 => ?_)
        · exact ⟨HS2.out.1.setCell (p := ⟨w.heap.size + 2, 1, none⟩) (by simp) _, (World.cell?_setCell_far _ _ _ _ (by simp; omega)).trans HS2.out.2.1, (World.cell?_setCell_far _ _ _ _ (by have := hblx.out; simp; omega)).trans HS2.out.2.2.1, (World.cell?_setCell_far _ _ _ _ (by have := hblx.out; simp; omega)).trans HS2.out.2.2.2.1, (World.cell?_setCell_far _ _ _ _ (by have := hblx.out; simp; omega)).trans HS2.out.2.2.2.2⟩
        clear hK K hHeld2
        try simp only [Act.put, List.setIfInBounds_toArray, List.set_cons_zero, List.set_cons_succ]
        refine wpAnyH_done (by kernel_rfl) ?_ _
        go_wp2_with fail
        go_roundw
        case rel =>
          have Q : LOfRel fr n ws w W0 (.int .i64 ((k : Int) + 1)) (w2.setCell ⟨w.heap.size + 2, 1, none⟩ (.slice A' (k + 1) c')) := ⟨⟨k + 1, A', c', HX.out, by go_num, ownsRow_setCell_below HO2.out (by simp) _, HB3.out.setCell (p := ⟨w.heap.size + 2, 1, none⟩) (by simp) _, set_snd HF2.out _⟩⟩
          first | exact Q | ((repeat apply Exists.intro); exact ⟨Q, rfl⟩)
        case measure => have := HX.out; simp [intOf]; omega
    · have hkI : ¬ (k : Int) < (n : Int) := by omega
      have HF : Hid (Row ((wr.setCell ⟨w.heap.size + 1, 0, none⟩ (.int .i64 fr)).setCell ⟨w.heap.size + 1, 1, none⟩ (.slice A k c)) 3 RW (.slice A k c) ws) := by
        have h0 := HO.out
        rw [← HLS.out, List.take_of_length_le (by have := HN.out; omega)] at h0
        exact own_rowW HG.out (ownsRow_setCell_below (ownsRow_setCell_below h0 (by simp) _) (by simp) _) (by have := HK.out; have := HM.out; unfold rowMax; omega)
      have f1 : wr.heap[w.heap.size + 1]? = some (.cells #[.int .i64 0, .slice none 0 0] 28 (0, 0)) := (HB.out.block _ (by omega)).trans HR1.out
      have HF1 := Lib.hid f1
      have g0 := (row_cell f1 0).2
      have g1 := (row_cell f1 1).2
      have k0 := (row_cell f1 0).1
      have k1 := (row_cell f1 1).1
      simp at k0 k1
      clear f1
      go_wp2_with fail
      refine bodyPost_ret (results_cell_mid rfl _ _ (w.heap.size + 1) _ _ rfl (set_two HF1.out _ _) Try.underlying28 rfl (by kernel_rfl)) rfl ?_
      exact ⟨⟨_, rfl, HF.out⟩, (HBW.out.setCell (p := ⟨w.heap.size + 1, 0, none⟩) (by simp) _).setCell (p := ⟨w.heap.size + 1, 1, none⟩) (by simp) _⟩
theorem Row.take {α : Type} {w : World} {k n cap m : Nat} {a : Option Addr} {R : α → List Value → Prop} {xs : List α} (h : Row w k R (.slice a n cap) xs) (hm : m ≤ n) : Row w k R (.slice a m cap) (xs.take m) := by
  obtain ⟨a', cap', e, hx, hc⟩ := h.ex
  injection e with e1 e2 e3
  subst e1 e2 e3
  have hl : (xs.take m).length = m := by rw [List.length_take]; omega
  refine ⟨a, cap, by rw [hl], by omega, fun hp => ?_⟩
  obtain ⟨b, off, e1, hlt, h1⟩ := hc (by omega)
  refine ⟨b, off, e1, hlt, fun i x hx => h1 i x ?_⟩
  rw [List.getElem?_take] at hx
  split at hx
  · exact hx
  · cases hx
set_option maxRecDepth 100000 in
set_option maxHeartbeats 4000000 in
theorem row_cut {n cap : Nat} {a : Option Addr} {ws : List MW} {w : World} (h : Row w 3 RW (.slice a n cap) ws) : Row w 3 RW (.slice a (min (n : Int) 70).toNat cap) (ws.take 70) := by
  have hn : ws.length = n := by obtain ⟨a', c', e, _⟩ := h.ex; injection e with _ e _; exact e.symm
  have h1 := h.take (m := (min (n : Int) 70).toNat) (by omega)
  have h2 : ws.take (min (n : Int) 70).toNat = ws.take 70 := by
    by_cases h70 : n ≤ 70
    · rw [show (min (n : Int) 70).toNat = n by omega, List.take_of_length_le (by omega), List.take_of_length_le (by omega)]
    · rw [show (min (n : Int) 70).toNat = 70 by omega]
  rw [h2] at h1
  exact h1
theorem cut_any (fr : Int) (a : Option Addr) (n cap : Nat) (w : World) (hnc : n ≤ cap) (hm : n ≤ 8796093021952) :
    Calls Try.prog 9 #[.agg #[.int .i64 fr, .slice a n cap]] w fun e w' => e = .returned (.agg #[.int .i64 fr, .slice a (min (n : Int) 70).toNat cap]) ∧ Below w.heap.size w w' := by
  have hncI : (n : Int) ≤ (cap : Int) := by omega
  go_enter Try.func9, Try.ntmps9
  go_wp2_with fail
  have BF : Below w.heap.size w ((w.alloc (.cells #[.int .i64 fr, .slice a (min (n : Int) 70).toNat cap] 24)).alloc (.cells #[.int .i64 fr, .slice a (min (n : Int) 70).toNat cap] 24)) := ((Below.refl _ _).alloc (Nat.le_refl _) _).alloc (by simp) _
  refine bodyPost_ret (results_cell_mid rfl _ _ (w.heap.size + 1) [.int .i64 fr, .slice a (min (n : Int) 70).toNat cap] _ rfl (fun j v hv => ?_) Try.underlying24 rfl (by kernel_rfl)) rfl ?_
  · have hs : w.heap.size + 1 = (w.alloc (.cells #[.int .i64 fr, .slice a (min (n : Int) 70).toNat cap] 24)).heap.size := by simp
    rw [hs, World.cell?_alloc_new, Nat.zero_add]
    simpa using hv
  · exact ⟨rfl, BF⟩
theorem row_two {w : World} {b : Nat} (hb : b < w.heap.size) (x y : MW) (hx : I64 x.who ∧ I64 x.frm ∧ I64 x.len) (hy : I64 y.who ∧ I64 y.frm ∧ I64 y.len) (hc : ∀ (j : Nat) u, (x.cells ++ y.cells)[j]? = some u → w.cell? ⟨b, j, none⟩ = some u) : Row w 3 RW (.slice (some ⟨b, 0, none⟩) 2 2) [x, y] := by
  refine ⟨_, 2, rfl, by show 2 ≤ rowMax; unfold rowMax; omega, fun _ => ⟨b, 0, rfl, hb, fun i z hz => ?_⟩⟩
  match i, hz with
  | 0, hz =>
    simp at hz; subst hz
    exact ⟨_, ⟨rfl, hx⟩, rfl, fun j u hu => by
      have hj : j < 3 := (List.getElem?_eq_some_iff.1 hu).1
      have := hc j u (by rw [List.getElem?_append_left hj]; exact hu)
      simpa using this⟩
  | 1, hz =>
    simp at hz; subst hz
    exact ⟨_, ⟨rfl, hy⟩, rfl, fun j u hu => by
      have := hc (3 + j) u (by rw [List.getElem?_append_right (by show 3 ≤ 3 + j; omega)]; simpa [MW.cells] using hu)
      simpa using this⟩
  | i + 2, hz => simp at hz
set_option maxRecDepth 100000 in
set_option maxHeartbeats 4000000 in
theorem known_any (w : World) : Calls Try.prog 17 #[] w fun e w' => e = .returned (.bool true) ∧ Below w.heap.size w w' := by
  go_enter Try.func17, Try.ntmps17
  go_wp2_with fail
  obtain ⟨W0, hW0⟩ : ∃ W0, ((w.alloc (.cells #[.int .i64 0, .int .i64 0, .int .i64 3, .int .i64 1, .int .i64 5, .int .i64 4] 40)).alloc (.cells #[.int .i64 10, .slice (some ⟨w.heap.size, 0, none⟩) 2 2] 24)) = W0 := ⟨_, rfl⟩
  have BW : Hid (Below w.heap.size w W0) := by rw [← hW0]; exact ((Below.refl _ _).alloc (Nat.le_refl _) _).alloc (by simp) _
  have d0 : W0.cell? ⟨w.heap.size + 1, 0, none⟩ = some (.int .i64 10) := by rw [← hW0]; simp
  have d1 : W0.cell? ⟨w.heap.size + 1, 1, none⟩ = some (.slice (some ⟨w.heap.size, 0, none⟩) 2 2) := by rw [← hW0]; simp
  have HR : Hid (Row W0 3 RW (.slice (some ⟨w.heap.size, 0, none⟩) 2 2) [⟨0, 0, 3⟩, ⟨1, 5, 4⟩]) := by
    refine row_two (by rw [← hW0]; simp; omega) _ _ (by unfold I64; decide) (by unfold I64; decide) (fun j u hu => ?_)
    rw [← hW0]
    refine cell_al _ ?_
    rw [World.cell?_alloc_new]; simpa [MW.cells] using hu
  have CA := Lib.hid fun (W : World) (hb : Below W0.heap.size W0 W) (t : Int) (ht : I64 t) => at_any 10 t (.slice (some ⟨w.heap.size, 0, none⟩) 2 2) [⟨0, 0, 3⟩, ⟨1, 5, 4⟩] W (HR.out.below hb) ht
  have C2 : Hid (∀ W, Below W0.heap.size W0 W → Calls Try.prog 11 #[.agg #[.int .i64 10, .slice (some ⟨w.heap.size, 0, none⟩) 2 2], .int .i64 2] W fun e w' => e = .returned (.tuple #[.int .i64 0, .int .i64 1]) ∧ Below W.heap.size W w') := fun W hb => by
    have h := CA.out W hb 2 (by unfold I64; decide)
    rw [show atW 10 2 [⟨0, 0, 3⟩, ⟨1, 5, 4⟩] = (0, 1) by decide +kernel] at h
    exact h
  have C3 : Hid (∀ W, Below W0.heap.size W0 W → Calls Try.prog 11 #[.agg #[.int .i64 10, .slice (some ⟨w.heap.size, 0, none⟩) 2 2], .int .i64 3] W fun e w' => e = .returned (.tuple #[.int .i64 (-1), .int .i64 2]) ∧ Below W.heap.size W w') := fun W hb => by
    have h := CA.out W hb 3 (by unfold I64; decide)
    rw [show atW 10 3 [⟨0, 0, 3⟩, ⟨1, 5, 4⟩] = (-1, 2) by decide +kernel] at h
    exact h
  have C5 : Hid (∀ W, Below W0.heap.size W0 W → Calls Try.prog 11 #[.agg #[.int .i64 10, .slice (some ⟨w.heap.size, 0, none⟩) 2 2], .int .i64 5] W fun e w' => e = .returned (.tuple #[.int .i64 1, .int .i64 4]) ∧ Below W.heap.size W w') := fun W hb => by
    have h := CA.out W hb 5 (by unfold I64; decide)
    rw [show atW 10 5 [⟨0, 0, 3⟩, ⟨1, 5, 4⟩] = (1, 4) by decide +kernel] at h
    exact h
  have C9 : Hid (∀ W, Below W0.heap.size W0 W → Calls Try.prog 11 #[.agg #[.int .i64 10, .slice (some ⟨w.heap.size, 0, none⟩) 2 2], .int .i64 9] W fun e w' => e = .returned (.tuple #[.int .i64 (-1), .int .i64 1]) ∧ Below W.heap.size W w') := fun W hb => by
    have h := CA.out W hb 9 (by unfold I64; decide)
    rw [show atW 10 9 [⟨0, 0, 3⟩, ⟨1, 5, 4⟩] = (-1, 1) by decide +kernel] at h
    exact h
  simp only [hW0]
  clear hW0 CA HR
  refine (C2.out _ (Below.refl _ _)).mono ?_
  rintro e W1 ⟨rfl, b⟩
  have B1 := Lib.hid b
  have e0 := cell_later b d0
  have e1 := cell_later b d1
  clear b C2
  go_wp2_with fail
  refine (C3.out _ B1.out).mono ?_
  rintro e W2 ⟨rfl, b⟩
  have B2 : Hid (Below W0.heap.size W0 W2) := B1.out.trans (b.mono B1.out.size)
  clear b C3 e0 e1
  have e0 := cell_later B2.out d0
  have e1 := cell_later B2.out d1
  go_wp2_with fail
  refine (C5.out _ B2.out).mono ?_
  rintro e W3 ⟨rfl, b⟩
  have B3 : Hid (Below W0.heap.size W0 W3) := B2.out.trans (b.mono B2.out.size)
  clear b C5 e0 e1
  have e0 := cell_later B3.out d0
  have e1 := cell_later B3.out d1
  go_wp2_with fail
  refine (C9.out _ B3.out).mono ?_
  rintro e W4 ⟨rfl, b⟩
  have B4 : Hid (Below W0.heap.size W0 W4) := B3.out.trans (b.mono B3.out.size)
  clear b C9 e0 e1
  go_wp2_with fail
  go_ret
  exact ⟨rfl, BW.out.trans (B4.out.mono BW.out.size)⟩
end Go.Proofs.Ytcnhghnkocdjkaa
