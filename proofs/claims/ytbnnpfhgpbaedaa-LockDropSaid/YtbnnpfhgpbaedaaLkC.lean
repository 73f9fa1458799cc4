/-
  Locks: one more waits; a lock passes on. Each statement bears its own conditions.
-/
import Derived.Test.YtbnnpfhgpbaedaaLkB
namespace Go.Proofs.Ytbnnpfhgpbaedaa.K
open Go.RowKit Go.Maps
set_option linter.unusedVariables false
set_option linter.unusedSimpArgs false
/-- Who waits once one more does. -/
def joinP (L : List (Int × Int)) (id q : Int) : List (Int × Int) := L.take (plc L q) ++ (id, q) :: L.drop (plc L q)
theorem plc_le (L : List (Int × Int)) (q : Int) : plc L q ≤ L.length := List.findIdx_le_length
theorem joinP_len (L : List (Int × Int)) (id q : Int) : (joinP L id q).length = L.length + 1 := by
  have := plc_le L q
  simp [joinP]; omega
theorem RowV.pos {w : World} {v : Value} {rb : Nat} {L : List (Int × Int)} (h : W.RowV w v rb L) (hl : L ≠ []) : rb < w.heap.size := by
  rcases h.form with ⟨_, h0⟩ | ⟨cap, cur, _, hg, _⟩
  · exact absurd h0 hl
  · exact (Array.getElem?_eq_some_iff.1 hg).1
/-- The list of lock i, in a row apart from all the rest. -/
theorem LV.row {lo g bc bw bm N : Nat} {rb : Nat → Nat} {cs : List Int} {ws : Nat → List (Int × Int)} {os : Int → Option Int} {w : World} (h : LV lo w g bc bw bm N rb cs ws os) {i : Nat} (hi : i < cs.length) :
    ∃ v rx cw, w.cell? ⟨bw, i, none⟩ = some v ∧ w.frozen? ⟨bw, i, none⟩ = false ∧ w.cell? ⟨g, 1, none⟩ = some (.slice (some ⟨bw, 0, none⟩) cs.length cw) ∧ w.cell? ⟨g, 2, none⟩ = some (.map (some bm)) ∧ W.RowV w v rx (ws i) ∧ rx ≠ g ∧ rx ≠ bw ∧ rx ≠ bm ∧ ((rx = rb i ∧ rb i ≠ bw) ∨ (w.heap.size + 9 ≤ rx ∧ ws i = [])) := by
  obtain ⟨vc, cw, a1, a2, a3⟩ := h.hd
  obtain ⟨vs, b1, b2, b3⟩ := h.ls
  obtain ⟨v, c1, c2, c3⟩ := b3 i hi
  obtain ⟨l1, l2, l3, l4⟩ := h.lt
  obtain ⟨p1, p2, p3, p4, p5⟩ := h.ap
  have e1 : w.cell? ⟨bw, i, none⟩ = some v := by rw [(row_cell b2 i).1]; exact c1
  have e2 : w.cell? ⟨g, 1, none⟩ = some (.slice (some ⟨bw, 0, none⟩) cs.length cw) := by rw [(row_cell a1 1).1]; rfl
  have e3 : w.cell? ⟨g, 2, none⟩ = some (.map (some bm)) := by rw [(row_cell a1 2).1]; rfl
  rcases c3 with rfl | c3
  · have hL : ws i = [] := by
      rcases c2.form with ⟨_, h0⟩ | ⟨cap, cur, hv, _⟩
      · exact h0
      · cases hv
    rw [hL] at c2
    refine ⟨_, w.heap.size + 9, cw, e1, (row_cell b2 i).2, e2, e3, ?_, by omega, by omega, by omega, .inr ⟨Nat.le_refl _, hL⟩⟩
    rw [hL]
    exact ⟨c2.own, fun q hq => by cases hq⟩
  · exact ⟨v, rb i, cw, e1, (row_cell b2 i).2, e2, e3, c2, (p4 i hi).1, c3, (p4 i hi).2, .inl ⟨rfl, c3⟩⟩
set_option maxRecDepth 100000 in
set_option maxHeartbeats 4000000 in
theorem enqueue_any (lo g bc bw bm N : Nat) (rb : Nat → Nat) (cs : List Int) (ws : Nat → List (Int × Int)) (os : Int → Option Int) (id bs : Int) (i : Nat) (w : World) (h : LV lo w g bc bw bm N rb cs ws os) (hi : i < cs.length) (hl : (ws i).length ≤ 900) :
    Calls Try.prog 38 #[.pointer (some ⟨g, 0, none⟩), .agg #[.int .i64 id, .int .i64 bs], .int .i64 (i : Int)] w fun e w' => e = .returned (.tuple #[]) ∧ ∃ rb', LV lo w' g bc bw bm N (putN rb i rb') cs (putN ws i (joinP (ws i) id bs)) os ∧ Lx bw bm cs.length rb (putN rb i rb') w w' := by
  obtain ⟨k, hk⟩ : ∃ k, plc (ws i) bs = k := ⟨_, rfl⟩
  have HK := Lib.hid hk
  have HKL : Hid (k ≤ (ws i).length) := by unfold Hid; rw [← hk]; exact plc_le _ _
  have H := Lib.hid h
  have HI := Lib.hid hi
  have HL := Lib.hid hl
  have HE : Hid (∀ X, Below w.heap.size w X → LV lo X g bc bw bm N rb cs ws os) := fun X hb => h.below hb
  obtain ⟨v, rx, cw, k1, k2, k3, k4, b3, _⟩ := h.row hi
  obtain ⟨A, cc, hv⟩ := slice_form b3.own
  subst hv
  obtain ⟨w1, hw1⟩ : ∃ w1, w.alloc (.cells #[.int .i64 id, .int .i64 bs] 76) = w1 := ⟨_, rfl⟩
  have hb1 : Below w.heap.size w w1 := by rw [← hw1]; exact (Below.refl _ _).alloc (Nat.le_refl _) _
  have HQ2 : Hid (w.heap.size < w1.heap.size) := by unfold Hid; rw [← hw1]; simp
  have B1 := Lib.hid hb1
  have p0 : w1.cell? ⟨w.heap.size, 0, none⟩ = some (.int .i64 id) := by rw [← hw1, (row_cell (heap_alloc_new w _) 0).1]; rfl
  have p1 : w1.cell? ⟨w.heap.size, 1, none⟩ = some (.int .i64 bs) := by rw [← hw1, (row_cell (heap_alloc_new w _) 1).1]; rfl
  have e1 : w1.cell? ⟨g, 1, none⟩ = some (.slice (some ⟨bw, 0, none⟩) cs.length cw) := cell_later hb1 k3
  have e2 : w1.cell? ⟨bw, i, none⟩ = some (.slice A (ws i).length cc) := cell_later hb1 k1
  have IX := Lib.hid (index_any (.slice A (ws i).length cc) rx w.heap.size id bs (ws i) w1 (b3.keep (by rcases b3.lt with e | e; exact .inl e; exact .inr (hb1.block rx e))) (by omega) ⟨p0, p1⟩)
  have HL3 : Hid (∀ X, Below w.heap.size w X → X.cell? ⟨bw, i, none⟩ = some (.slice A (ws i).length cc)) := fun X hb => cell_later hb k1
  have HG3 : Hid (∀ X, Below w.heap.size w X → X.cell? ⟨g, 1, none⟩ = some (.slice (some ⟨bw, 0, none⟩) cs.length cw)) := fun X hb => cell_later hb k3
  have HP : Hid (w1.cell? ⟨w.heap.size, 0, none⟩ = some (.int .i64 id) ∧ w1.cell? ⟨w.heap.size, 1, none⟩ = some (.int .i64 bs)) := ⟨p0, p1⟩
  have hi0 : (0 : Int) ≤ (i : Int) := by omega
  have hiI : (i : Int) < (cs.length : Int) := by omega
  obtain ⟨m, hm⟩ : ∃ m, (ws i).length = m := ⟨_, rfl⟩
  have HM := Lib.hid hm
  obtain ⟨n, hn⟩ : ∃ n, cs.length = n := ⟨_, rfl⟩
  have HN := Lib.hid hn
  rw [hm] at HL3 e2 IX HKL HL
  rw [hn] at HG3 e1 hiI HI
  clear h hi hl k1 k2 k3 k4 b3 hb1 p0 p1 hk hm hn
  have HI : Hid (i < cs.length) := by unfold Hid; rw [HN.out]; exact HI.out
  by_cases hlt : k < m
  · have hp : plcI (ws i) bs = (k : Int) := by unfold plcI; rw [HK.out, HM.out, if_pos hlt]
    rw [hp] at IX
    have hk0 : ¬ (k : Int) < 0 := by omega
    clear hp hlt
    go_enter Try.func38, Try.ntmps38
    go_wp2_with fail
    refine IX.out.mono ?_
    rintro e w2 ⟨rfl, b2⟩
    have B2 : Hid (Below w.heap.size w w2) := B1.out.trans (b2.mono B1.out.size)
    have y1 := HL3.out w2 B2.out
    have x1 := HG3.out w2 B2.out
    have x2 := cell_later b2 HP.out.1
    have x3 := cell_later b2 HP.out.2
    clear b2 IX e1 e2
    go_wp2_with fail
    refine wp_region_held_drew (S := (fun w' => w'.cell? ⟨g, 1, none⟩ = some (.slice (some ⟨bw, 0, none⟩) n cw) ∧ w'.cell? ⟨w.heap.size, 0, none⟩ = some (.int .i64 id) ∧ w'.cell? ⟨w.heap.size, 1, none⟩ = some (.int .i64 bs))) (by kernel_rfl) ?_ (fun hHeld => ?_)
    · exact ⟨x1, x2, x3⟩
    have B_x : Hid (Below w.heap.size w w2.drew) := B2.out.drew
    have X1 : Hid (w2.drew.cell? ⟨w.heap.size, 0, none⟩ = some (.int .i64 id) ∧ w2.drew.cell? ⟨w.heap.size, 1, none⟩ = some (.int .i64 bs)) := ⟨x2, x3⟩
    clear x1 x2 x3 y1
    generalize w2.drew = x at B_x X1 hHeld ⊢
    refine takeD (i := 0) (d := some 22) (v := ?_) _ rfl rfl (by kernel_rfl) (by kernel_rfl) (by kernel_rfl) (fun _ _ _ h => h) (by rfl) ?_ (by assumption) ?_
    rotate_left
    · (intro w hSw; (try dsimp only at hSw); go_simp) <;> with_reducible rfl
    try simp only [Act.put, List.setIfInBounds_toArray, List.set_cons_zero, List.set_cons_succ]
    refine takeD (i := 1) (d := some 23) (v := ?_) _ rfl rfl (by kernel_rfl) (by kernel_rfl) (by kernel_rfl) (fun _ _ _ h => h) (by rfl) ?_ (by assumption) ?_
    rotate_left
    · (intro w hSw; (try dsimp only at hSw); go_simp) <;> with_reducible rfl
    try simp only [Act.put, List.setIfInBounds_toArray, List.set_cons_zero, List.set_cons_succ]
    refine takeD (i := 2) (d := some 24) (v := ?_) _ rfl rfl (by kernel_rfl) (by kernel_rfl) (by kernel_rfl) (fun _ _ _ h => h) (by rfl) ?_ (by assumption) ?_
    rotate_left
    · (intro w hSw; (try dsimp only at hSw); go_simp) <;> with_reducible rfl
    try simp only [Act.put, List.setIfInBounds_toArray, List.set_cons_zero, List.set_cons_succ]
    refine takeD (i := 3) (d := some 25) (v := ?_) _ rfl rfl (by kernel_rfl) (by kernel_rfl) (by kernel_rfl) (fun _ _ _ h => h) (by rfl) ?_ (by assumption) ?_
    rotate_left
    · (intro w hSw; (try dsimp only at hSw); go_simp) <;> with_reducible rfl
    try simp only [Act.put, List.setIfInBounds_toArray, List.set_cons_zero, List.set_cons_succ]
    refine takeD (i := 4) (d := some 26) (v := ?_) _ rfl rfl (by kernel_rfl) (by kernel_rfl) (by kernel_rfl) (fun _ _ _ h => h) (by rfl) ?_ (by assumption) ?_
    rotate_left
    · (intro w hSw; (try dsimp only at hSw); go_simp) <;> with_reducible rfl
    try simp only [Act.put, List.setIfInBounds_toArray, List.set_cons_zero, List.set_cons_succ]
    refine takeD (i := 5) (d := some 27) (v := ?_) _ rfl rfl (by kernel_rfl) (by kernel_rfl) (by kernel_rfl) (fun _ _ _ h => h) (by rfl) ?_ (by assumption) ?_
    rotate_left
    · (intro w hSw; (try dsimp only at hSw); go_simp) <;> with_reducible rfl
    try simp only [Act.put, List.setIfInBounds_toArray, List.set_cons_zero, List.set_cons_succ]
    refine takeD (i := 6) (d := some 28) (v := ?_) _ rfl rfl (by kernel_rfl) (by kernel_rfl) (by kernel_rfl) (fun _ _ _ h => h) (by rfl) ?_ (by assumption) ?_
    rotate_left
    · (intro w hSw; (try dsimp only at hSw); go_simp) <;> with_reducible rfl
    try simp only [Act.put, List.setIfInBounds_toArray, List.set_cons_zero, List.set_cons_succ]
    refine takeD (i := 7) (d := some 29) (v := ?_) _ rfl rfl (by kernel_rfl) (by kernel_rfl) (by kernel_rfl) (fun _ _ _ h => h) (by rfl) ?_ (by assumption) ?_
    rotate_left
    · (intro w hSw; (try dsimp only at hSw); go_simp) <;> with_reducible rfl
    try simp only [Act.put, List.setIfInBounds_toArray, List.set_cons_zero, List.set_cons_succ]
    refine wpAnyH_ready (rs := [8]) (by kernel_rfl) (by simp) ?_
    refine AllReadyH.cons rfl (fun K hK => ?_) AllReadyH.nil
    try go_simp
    obtain ⟨xa, h_xa⟩ : ∃ W, x.alloc (.cells #[.int .i64 id, .int .i64 bs] 76) = W := ⟨_, rfl⟩
    obtain ⟨vb, h_vb⟩ : ∃ vb, x.heap.size = vb := ⟨_, rfl⟩
    have B_xa : Hid (Below w.heap.size w xa) := by unfold Hid; rw [← h_xa]; exact B_x.out.alloc B_x.out.size _
    have V_xa : Hid (xa.heap[vb]? = some (.cells #[.int .i64 id, .int .i64 bs] 76 (0, 0)) ∧ w.heap.size ≤ vb) := by unfold Hid; rw [← h_xa, ← h_vb]; exact ⟨heap_alloc_new _ _, B_x.out.size⟩
    have C_xa : Hid (xa.cell? ⟨g, 1, none⟩ = some (.slice (some ⟨bw, 0, none⟩) n cw) ∧ xa.cell? ⟨w.heap.size, 0, none⟩ = some (.int .i64 id) ∧ xa.cell? ⟨w.heap.size, 1, none⟩ = some (.int .i64 bs)) := by
      have hb : Below x.heap.size x xa := by rw [← h_xa]; exact (Below.refl _ _).alloc (Nat.le_refl _) _
      exact ⟨cell_later hb hHeld.1, cell_later hb hHeld.2.1, cell_later hb hHeld.2.2⟩
    try rw [h_xa]
    try rw [h_vb]
    clear h_xa h_vb hHeld
    refine hK.out _ _ ?_ (fun hHeld => ?_)
    · exact C_xa.out
    clear hK K
    try simp only [Act.put, List.setIfInBounds_toArray, List.set_cons_zero, List.set_cons_succ]
    refine wpAnyH_ready (rs := [9]) (by kernel_rfl) (by simp) ?_
    refine AllReadyH.cons rfl (fun K hK => ?_) AllReadyH.nil
    try go_simp
    obtain ⟨v3, rx, cw3, k1, k2, k3, k4, b3, n1, n2, n3, d3⟩ := (HE.out xa B_xa.out).row HI.out
    have hv3 : v3 = .slice A m cc := by
      have h1 := HL3.out xa B_xa.out
      rw [k1] at h1
      injection h1
    subst hv3
    have IN := Lib.hid (W.insert_any (.slice A m cc) rx vb k (id, bs) (ws i) xa b3 (by rw [HM.out]; exact HKL.out) (by rw [HM.out]; have := HL.out; omega) (by have h1 := (Array.getElem?_eq_some_iff.1 V_xa.out.1).1; have h2 := V_xa.out.2; have h3 := H.out.lt.2.2.2 i HI.out; rcases d3 with d3 | d3 <;> omega) V_xa.out.1)
    have HD := Lib.hid d3
    have HNN : Hid (rx ≠ g ∧ rx ≠ bw ∧ rx ≠ bm ∧ rx ≠ w.heap.size) := ⟨n1, n2, n3, by have h3 := H.out.lt.2.2.2 i HI.out; have := HQ2.out; have := B_xa.out.size; rcases d3 with d3 | d3 <;> omega⟩
    clear k1 k2 k3 k4 b3 n1 n2 n3 d3
    go_at_call 52
    refine IN.out.mono ?_
    rintro e w9 ⟨v9, r9, rfl, i1, i2, i3⟩
    have hs3 := i3.size
    have C9 : Hid (w9.cell? ⟨g, 1, none⟩ = some (.slice (some ⟨bw, 0, none⟩) n cw) ∧ w9.cell? ⟨w.heap.size, 0, none⟩ = some (.int .i64 id) ∧ w9.cell? ⟨w.heap.size, 1, none⟩ = some (.int .i64 bs)) := by
      have hq := World.block_lt_of_cell? xa ⟨w.heap.size, 0, none⟩ C_xa.out.2.1
      have hg := World.block_lt_of_cell? xa ⟨g, 1, none⟩ C_xa.out.1
      exact ⟨cell_past i3 hg (fun e => HNN.out.1 e.symm) C_xa.out.1, cell_past i3 hq (fun e => HNN.out.2.2.2 e.symm) C_xa.out.2.1, cell_past i3 hq (fun e => HNN.out.2.2.2 e.symm) C_xa.out.2.2⟩
    have I1 := Lib.hid i1
    have I2 := Lib.hid i2
    have I3 := Lib.hid i3
    clear i1 i2 i3 hs3
    try go_wp2_with fail
    refine hK.out _ _ ?_ (fun hHeld => ?_)
    · exact C9.out
    clear hK K
    try simp only [Act.put, List.setIfInBounds_toArray, List.set_cons_zero, List.set_cons_succ]
    refine takeD (i := 10) (d := some 32) (v := ?_) _ rfl rfl (by kernel_rfl) (by kernel_rfl) (by kernel_rfl) (fun _ _ _ h => h) (by rfl) ?_ (by assumption) ?_
    rotate_left
    · (intro w hSw; (try dsimp only at hSw); go_simp) <;> with_reducible rfl
    try simp only [Act.put, List.setIfInBounds_toArray, List.set_cons_zero, List.set_cons_succ]
    obtain ⟨vs9, z1, z2, z3⟩ := (HE.out xa B_xa.out).ls
    have hw9 : bw < xa.heap.size := by have := (HE.out xa B_xa.out).lt.2.1; exact this
    have g9 := (I3.out.block bw hw9 (fun e => HNN.out.2.1 e.symm)).trans z2
    obtain ⟨vz, z4, _⟩ := z3 i HI.out
    have k9 : w9.cell? ⟨bw, i, none⟩ = some vz := by rw [(row_cell g9 i).1]; exact z4
    have f9 : w9.frozen? ⟨bw, i, none⟩ = false := (row_cell g9 i).2
    have Q : Hid (∃ rb', LV lo (w9.setCell ⟨bw, i, none⟩ v9) g bc bw bm N (putN rb i rb') cs (putN ws i ((ws i).take k ++ (id, bs) :: (ws i).drop k)) os ∧ Lx bw bm cs.length rb (putN rb i rb') w (w9.setCell ⟨bw, i, none⟩ v9)) := by
      refine ⟨r9, H.out.put HI.out B_xa.out (HD.out.imp (fun h => h) fun d => by omega) I3.out I1.out I2.out (RowV.pos I1.out (by simp))⟩
    obtain ⟨M9, hM9⟩ : ∃ M, (ws i).take k ++ (id, bs) :: (ws i).drop k = M := ⟨_, rfl⟩
    rw [hM9] at I1 Q
    have HM9 := Lib.hid hM9
    obtain ⟨A9, n9, hv9⟩ := slice_form I1.out.own
    subst hv9
    have C10 : Hid ((w9.setCell ⟨bw, i, none⟩ (.slice A9 M9.length n9)).cell? ⟨g, 1, none⟩ = some (.slice (some ⟨bw, 0, none⟩) n cw) ∧ (w9.setCell ⟨bw, i, none⟩ (.slice A9 M9.length n9)).cell? ⟨w.heap.size, 0, none⟩ = some (.int .i64 id) ∧ (w9.setCell ⟨bw, i, none⟩ (.slice A9 M9.length n9)).cell? ⟨w.heap.size, 1, none⟩ = some (.int .i64 bs)) := by
      have hgb := H.out.ap.1
      have hqb : w.heap.size ≠ bw := by have := H.out.lt.2.1; omega
      exact ⟨(World.cell?_of_block (set_far _ _ hgb)).trans C9.out.1, (World.cell?_of_block (set_far _ _ hqb)).trans C9.out.2.1, (World.cell?_of_block (set_far _ _ hqb)).trans C9.out.2.2⟩
    clear g9 z1 z2 z3 z4 hw9 IN hM9
    refine wpAnyH_ready (rs := [11]) (by kernel_rfl) (by simp) ?_
    refine AllReadyH.cons rfl (fun K hK => ?_) AllReadyH.nil
    try go_simp
    refine hK.out _ _ ?_ (fun hHeld => ?_)
    · exact C10.out
    clear hK K
    try simp only [Act.put, List.setIfInBounds_toArray, List.set_cons_zero, List.set_cons_succ]
    refine wpAnyH_done (by kernel_rfl) ?_ _
    clear k9 f9 hHeld
    go_wp2_with fail
    go_end0
    refine ⟨rfl, ?_⟩
    unfold joinP
    rw [HK.out, HM9.out]
    exact Q.out
  · have hp : plcI (ws i) bs = -1 := by unfold plcI; rw [HK.out, HM.out, if_neg hlt]
    rw [hp] at IX
    have hkm : k = m := by have := HKL.out; omega
    subst hkm
    clear hp hlt
    go_enter Try.func38, Try.ntmps38
    go_wp2_with fail
    refine IX.out.mono ?_
    rintro e w2 ⟨rfl, b2⟩
    have B2 : Hid (Below w.heap.size w w2) := B1.out.trans (b2.mono B1.out.size)
    have y1 := HL3.out w2 B2.out
    have x1 := HG3.out w2 B2.out
    have x2 := cell_later b2 HP.out.1
    have x3 := cell_later b2 HP.out.2
    clear b2 IX e1 e2
    go_wp2_with fail
    refine wp_region_held_drew (S := (fun w' => w'.cell? ⟨g, 1, none⟩ = some (.slice (some ⟨bw, 0, none⟩) n cw) ∧ w'.cell? ⟨w.heap.size, 0, none⟩ = some (.int .i64 id) ∧ w'.cell? ⟨w.heap.size, 1, none⟩ = some (.int .i64 bs))) (by kernel_rfl) ?_ (fun hHeld => ?_)
    · exact ⟨x1, x2, x3⟩
    have B_x : Hid (Below w.heap.size w w2.drew) := B2.out.drew
    have X1 : Hid (w2.drew.cell? ⟨w.heap.size, 0, none⟩ = some (.int .i64 id) ∧ w2.drew.cell? ⟨w.heap.size, 1, none⟩ = some (.int .i64 bs)) := ⟨x2, x3⟩
    clear x1 x2 x3 y1
    generalize w2.drew = x at B_x X1 hHeld ⊢
    refine takeD (i := 0) (d := some 22) (v := ?_) _ rfl rfl (by kernel_rfl) (by kernel_rfl) (by kernel_rfl) (fun _ _ _ h => h) (by rfl) ?_ (by assumption) ?_
    rotate_left
    · (intro w hSw; (try dsimp only at hSw); go_simp) <;> with_reducible rfl
    try simp only [Act.put, List.setIfInBounds_toArray, List.set_cons_zero, List.set_cons_succ]
    refine takeD (i := 1) (d := some 23) (v := ?_) _ rfl rfl (by kernel_rfl) (by kernel_rfl) (by kernel_rfl) (fun _ _ _ h => h) (by rfl) ?_ (by assumption) ?_
    rotate_left
    · (intro w hSw; (try dsimp only at hSw); go_simp) <;> with_reducible rfl
    try simp only [Act.put, List.setIfInBounds_toArray, List.set_cons_zero, List.set_cons_succ]
    refine takeD (i := 2) (d := some 24) (v := ?_) _ rfl rfl (by kernel_rfl) (by kernel_rfl) (by kernel_rfl) (fun _ _ _ h => h) (by rfl) ?_ (by assumption) ?_
    rotate_left
    · (intro w hSw; (try dsimp only at hSw); go_simp) <;> with_reducible rfl
    try simp only [Act.put, List.setIfInBounds_toArray, List.set_cons_zero, List.set_cons_succ]
    refine takeD (i := 3) (d := some 25) (v := ?_) _ rfl rfl (by kernel_rfl) (by kernel_rfl) (by kernel_rfl) (fun _ _ _ h => h) (by rfl) ?_ (by assumption) ?_
    rotate_left
    · (intro w hSw; (try dsimp only at hSw); go_simp) <;> with_reducible rfl
    try simp only [Act.put, List.setIfInBounds_toArray, List.set_cons_zero, List.set_cons_succ]
    refine takeD (i := 4) (d := some 26) (v := ?_) _ rfl rfl (by kernel_rfl) (by kernel_rfl) (by kernel_rfl) (fun _ _ _ h => h) (by rfl) ?_ (by assumption) ?_
    rotate_left
    · (intro w hSw; (try dsimp only at hSw); go_simp) <;> with_reducible rfl
    try simp only [Act.put, List.setIfInBounds_toArray, List.set_cons_zero, List.set_cons_succ]
    refine takeD (i := 5) (d := some 27) (v := ?_) _ rfl rfl (by kernel_rfl) (by kernel_rfl) (by kernel_rfl) (fun _ _ _ h => h) (by rfl) ?_ (by assumption) ?_
    rotate_left
    · (intro w hSw; (try dsimp only at hSw); go_simp) <;> with_reducible rfl
    try simp only [Act.put, List.setIfInBounds_toArray, List.set_cons_zero, List.set_cons_succ]
    refine takeD (i := 6) (d := some 28) (v := ?_) _ rfl rfl (by kernel_rfl) (by kernel_rfl) (by kernel_rfl) (fun _ _ _ h => h) (by rfl) ?_ (by assumption) ?_
    rotate_left
    · (intro w hSw; (try dsimp only at hSw); go_simp) <;> with_reducible rfl
    try simp only [Act.put, List.setIfInBounds_toArray, List.set_cons_zero, List.set_cons_succ]
    refine takeD (i := 7) (d := some 29) (v := ?_) _ rfl rfl (by kernel_rfl) (by kernel_rfl) (by kernel_rfl) (fun _ _ _ h => h) (by rfl) ?_ (by assumption) ?_
    rotate_left
    · (intro w hSw; (try dsimp only at hSw); go_simp) <;> with_reducible rfl
    try simp only [Act.put, List.setIfInBounds_toArray, List.set_cons_zero, List.set_cons_succ]
    refine wpAnyH_ready (rs := [8]) (by kernel_rfl) (by simp) ?_
    refine AllReadyH.cons rfl (fun K hK => ?_) AllReadyH.nil
    try go_simp
    obtain ⟨xa, h_xa⟩ : ∃ W, x.alloc (.cells #[.int .i64 id, .int .i64 bs] 76) = W := ⟨_, rfl⟩
    obtain ⟨vb, h_vb⟩ : ∃ vb, x.heap.size = vb := ⟨_, rfl⟩
    have B_xa : Hid (Below w.heap.size w xa) := by unfold Hid; rw [← h_xa]; exact B_x.out.alloc B_x.out.size _
    have V_xa : Hid (xa.heap[vb]? = some (.cells #[.int .i64 id, .int .i64 bs] 76 (0, 0)) ∧ w.heap.size ≤ vb) := by unfold Hid; rw [← h_xa, ← h_vb]; exact ⟨heap_alloc_new _ _, B_x.out.size⟩
    have C_xa : Hid (xa.cell? ⟨g, 1, none⟩ = some (.slice (some ⟨bw, 0, none⟩) n cw) ∧ xa.cell? ⟨w.heap.size, 0, none⟩ = some (.int .i64 id) ∧ xa.cell? ⟨w.heap.size, 1, none⟩ = some (.int .i64 bs)) := by
      have hb : Below x.heap.size x xa := by rw [← h_xa]; exact (Below.refl _ _).alloc (Nat.le_refl _) _
      exact ⟨cell_later hb hHeld.1, cell_later hb hHeld.2.1, cell_later hb hHeld.2.2⟩
    try rw [h_xa]
    try rw [h_vb]
    clear h_xa h_vb hHeld
    refine hK.out _ _ ?_ (fun hHeld => ?_)
    · exact C_xa.out
    clear hK K
    try simp only [Act.put, List.setIfInBounds_toArray, List.set_cons_zero, List.set_cons_succ]
    refine wpAnyH_ready (rs := [9]) (by kernel_rfl) (by simp) ?_
    refine AllReadyH.cons rfl (fun K hK => ?_) AllReadyH.nil
    try go_simp
    obtain ⟨v3, rx, cw3, k1, k2, k3, k4, b3, n1, n2, n3, d3⟩ := (HE.out xa B_xa.out).row HI.out
    have hv3 : v3 = .slice A k cc := by
      have h1 := HL3.out xa B_xa.out
      rw [k1] at h1
      injection h1
    subst hv3
    have IN := Lib.hid (W.insert_any (.slice A k cc) rx vb k (id, bs) (ws i) xa b3 (by rw [HM.out]; exact HKL.out) (by rw [HM.out]; have := HL.out; omega) (by have h1 := (Array.getElem?_eq_some_iff.1 V_xa.out.1).1; have h2 := V_xa.out.2; have h3 := H.out.lt.2.2.2 i HI.out; rcases d3 with d3 | d3 <;> omega) V_xa.out.1)
    have HD := Lib.hid d3
    have HNN : Hid (rx ≠ g ∧ rx ≠ bw ∧ rx ≠ bm ∧ rx ≠ w.heap.size) := ⟨n1, n2, n3, by have h3 := H.out.lt.2.2.2 i HI.out; have := HQ2.out; have := B_xa.out.size; rcases d3 with d3 | d3 <;> omega⟩
    clear k1 k2 k3 k4 b3 n1 n2 n3 d3
    go_at_call 52
    refine IN.out.mono ?_
    rintro e w9 ⟨v9, r9, rfl, i1, i2, i3⟩
    have hs3 := i3.size
    have C9 : Hid (w9.cell? ⟨g, 1, none⟩ = some (.slice (some ⟨bw, 0, none⟩) n cw) ∧ w9.cell? ⟨w.heap.size, 0, none⟩ = some (.int .i64 id) ∧ w9.cell? ⟨w.heap.size, 1, none⟩ = some (.int .i64 bs)) := by
      have hq := World.block_lt_of_cell? xa ⟨w.heap.size, 0, none⟩ C_xa.out.2.1
      have hg := World.block_lt_of_cell? xa ⟨g, 1, none⟩ C_xa.out.1
      exact ⟨cell_past i3 hg (fun e => HNN.out.1 e.symm) C_xa.out.1, cell_past i3 hq (fun e => HNN.out.2.2.2 e.symm) C_xa.out.2.1, cell_past i3 hq (fun e => HNN.out.2.2.2 e.symm) C_xa.out.2.2⟩
    have I1 := Lib.hid i1
    have I2 := Lib.hid i2
    have I3 := Lib.hid i3
    clear i1 i2 i3 hs3
    try go_wp2_with fail
    refine hK.out _ _ ?_ (fun hHeld => ?_)
    · exact C9.out
    clear hK K
    try simp only [Act.put, List.setIfInBounds_toArray, List.set_cons_zero, List.set_cons_succ]
    refine takeD (i := 10) (d := some 32) (v := ?_) _ rfl rfl (by kernel_rfl) (by kernel_rfl) (by kernel_rfl) (fun _ _ _ h => h) (by rfl) ?_ (by assumption) ?_
    rotate_left
    · (intro w hSw; (try dsimp only at hSw); go_simp) <;> with_reducible rfl
    try simp only [Act.put, List.setIfInBounds_toArray, List.set_cons_zero, List.set_cons_succ]
    obtain ⟨vs9, z1, z2, z3⟩ := (HE.out xa B_xa.out).ls
    have hw9 : bw < xa.heap.size := by have := (HE.out xa B_xa.out).lt.2.1; exact this
    have g9 := (I3.out.block bw hw9 (fun e => HNN.out.2.1 e.symm)).trans z2
    obtain ⟨vz, z4, _⟩ := z3 i HI.out
    have k9 : w9.cell? ⟨bw, i, none⟩ = some vz := by rw [(row_cell g9 i).1]; exact z4
    have f9 : w9.frozen? ⟨bw, i, none⟩ = false := (row_cell g9 i).2
    have Q : Hid (∃ rb', LV lo (w9.setCell ⟨bw, i, none⟩ v9) g bc bw bm N (putN rb i rb') cs (putN ws i ((ws i).take k ++ (id, bs) :: (ws i).drop k)) os ∧ Lx bw bm cs.length rb (putN rb i rb') w (w9.setCell ⟨bw, i, none⟩ v9)) := by
      refine ⟨r9, H.out.put HI.out B_xa.out (HD.out.imp (fun h => h) fun d => by omega) I3.out I1.out I2.out (RowV.pos I1.out (by simp))⟩
    obtain ⟨M9, hM9⟩ : ∃ M, (ws i).take k ++ (id, bs) :: (ws i).drop k = M := ⟨_, rfl⟩
    rw [hM9] at I1 Q
    have HM9 := Lib.hid hM9
    obtain ⟨A9, n9, hv9⟩ := slice_form I1.out.own
    subst hv9
    have C10 : Hid ((w9.setCell ⟨bw, i, none⟩ (.slice A9 M9.length n9)).cell? ⟨g, 1, none⟩ = some (.slice (some ⟨bw, 0, none⟩) n cw) ∧ (w9.setCell ⟨bw, i, none⟩ (.slice A9 M9.length n9)).cell? ⟨w.heap.size, 0, none⟩ = some (.int .i64 id) ∧ (w9.setCell ⟨bw, i, none⟩ (.slice A9 M9.length n9)).cell? ⟨w.heap.size, 1, none⟩ = some (.int .i64 bs)) := by
      have hgb := H.out.ap.1
      have hqb : w.heap.size ≠ bw := by have := H.out.lt.2.1; omega
      exact ⟨(World.cell?_of_block (set_far _ _ hgb)).trans C9.out.1, (World.cell?_of_block (set_far _ _ hqb)).trans C9.out.2.1, (World.cell?_of_block (set_far _ _ hqb)).trans C9.out.2.2⟩
    clear g9 z1 z2 z3 z4 hw9 IN hM9
    refine wpAnyH_ready (rs := [11]) (by kernel_rfl) (by simp) ?_
    refine AllReadyH.cons rfl (fun K hK => ?_) AllReadyH.nil
    try go_simp
    refine hK.out _ _ ?_ (fun hHeld => ?_)
    · exact C10.out
    clear hK K
    try simp only [Act.put, List.setIfInBounds_toArray, List.set_cons_zero, List.set_cons_succ]
    refine wpAnyH_done (by kernel_rfl) ?_ _
    clear k9 f9 hHeld
    go_wp2_with fail
    go_end0
    refine ⟨rfl, ?_⟩
    unfold joinP
    rw [HK.out, HM9.out]
    exact Q.out
end Go.Proofs.Ytbnnpfhgpbaedaa.K
