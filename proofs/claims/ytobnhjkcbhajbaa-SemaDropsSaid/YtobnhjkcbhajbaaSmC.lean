/-
  Wait. Each statement bears its own conditions.
-/
import Derived.Test.YtobnhjkcbhajbaaSmB
namespace Go.Proofs.Ytobnhjkcbhajbaa.S
open Go.RowKit Go.Proofs.Ytobnhjkcbhajbaa.W
set_option linter.unusedVariables false
set_option linter.unusedSimpArgs false
def wq (p : Bool) (pr : Int) : Int := if p = true then pr else 0
/-- Who waits once one more does. -/
def joinP (L : List (Int × Int)) (id q : Int) : List (Int × Int) := L.take (cnt L q) ++ (id, q) :: L.drop (cnt L q)
theorem joinP_len (L : List (Int × Int)) (id q : Int) : (joinP L id q).length = L.length + 1 := by
  have := cnt_le L q
  simp [joinP]; omega
set_option maxRecDepth 100000 in
set_option maxHeartbeats 2000000 in
theorem wait_in (lo g rb : Nat) (s : SM) (L : List (Int × Int)) (id pr : Int) (w : World) (h : SV lo w g rb s L) (hL : L.length ≤ 999) (hx : id ∈ idsP L) :
    Calls Try.prog 13 #[.pointer (some ⟨g, 0, none⟩), .int .i64 id, .int .i64 pr] w fun e w' => e = .returned (.bool false) ∧ SV lo w' g rb s L ∧ Nx g rb rb w w' := by
  have FI := Lib.hid (find_any g rb L id w h.tv (by omega))
  obtain ⟨k, hk, hpk, hpi, _⟩ := pos_in hx
  rw [hpi] at FI
  have hk0 : (0 : Int) ≤ (k : Int) := by omega
  have H := Lib.hid h
  clear h hL hx hk hpk hpi
  go_enter Try.func13, Try.ntmps13
  go_wp2_with fail
  refine FI.out.mono ?_
  rintro e w1 ⟨rfl, b1⟩
  have Q : Hid (SV lo w1 g rb s L ∧ Nx g rb rb w w1) := ⟨H.out.below b1, Nx.of_below b1⟩
  clear b1 FI
  go_wp2_with fail
  go_ret
  exact ⟨rfl, Q.out⟩
set_option maxRecDepth 100000 in
set_option maxHeartbeats 2000000 in
theorem wait_take (lo g rb : Nat) (c m : Int) (p : Bool) (L : List (Int × Int)) (id pr : Int) (w : World) (h : SV lo w g rb ⟨c, m, p⟩ L) (hL : L.length ≤ 999) (hx : id ∉ idsP L) (hc : 0 < c) (hc2 : c ≤ 65535) :
    Calls Try.prog 13 #[.pointer (some ⟨g, 0, none⟩), .int .i64 id, .int .i64 pr] w fun e w' => e = .returned (.bool true) ∧ SV lo w' g rb ⟨c - 1, m, p⟩ L ∧ Nx g rb rb w w' := by
  have FI := Lib.hid (find_any g rb L id w h.tv (by omega))
  rw [pos_out hx] at FI
  have H := Lib.hid h
  have hw1 : wrap64 (c - 1) = c - 1 := IntWalk.wrap64_in _ (by omega)
  clear h hL hx
  go_enter Try.func13, Try.ntmps13
  go_wp2_with fail
  refine FI.out.mono ?_
  rintro e w1 ⟨rfl, b1⟩
  have E1 := Lib.hid (H.out.below b1)
  have B1 := Lib.hid b1
  obtain ⟨v, a, _⟩ := E1.out.ex
  have d0 : w1.cell? ⟨g, 0, none⟩ = some (.int .i64 c) := by rw [(row_cell a 0).1]; rfl
  have f0 : w1.frozen? ⟨g, 0, none⟩ = false := (row_cell a 0).2
  have Q := Lib.hid (E1.out.cnt (c - 1))
  clear b1 FI a
  go_wp2_with fail
  go_ret
  exact ⟨rfl, Q.out.1, (Nx.of_below B1.out).trans Q.out.2⟩
set_option maxRecDepth 100000 in
set_option maxHeartbeats 4000000 in
theorem wait_join_true (lo g rb : Nat) (c m : Int) (L : List (Int × Int)) (id pr : Int) (w : World) (h : SV lo w g rb ⟨c, m, true⟩ L) (hL : L.length ≤ 900) (hx : id ∉ idsP L) (hc : ¬ 0 < c) (hs : Srt L) :
    Calls Try.prog 13 #[.pointer (some ⟨g, 0, none⟩), .int .i64 id, .int .i64 pr] w fun e w' => e = .returned (.bool false) ∧ ∃ rb', SV lo w' g rb' ⟨c, m, true⟩ (joinP L id (wq true pr)) ∧ Nx g rb rb' w w' := by
  have FI := Lib.hid (find_any g rb L id w h.tv (by omega))
  rw [pos_out hx] at FI
  obtain ⟨q, hq⟩ : ∃ q, q = wq true pr := ⟨_, rfl⟩
  have HQQ := Lib.hid hq
  have hqv : q = pr := by rw [hq]; simp [wq]
  clear hq
  subst hqv
  obtain ⟨k, hk⟩ : ∃ k, cnt L q = k := ⟨_, rfl⟩
  have HK := Lib.hid hk
  have HKL : Hid (k ≤ L.length) := by unfold Hid; rw [← hk]; exact cnt_le L q
  have H := Lib.hid h
  have HL := Lib.hid hL
  have HS := Lib.hid hs
  have HE : Hid (∀ X, Below w.heap.size w X → SV lo X g rb ⟨c, m, true⟩ L) := fun X hb => h.below hb
  obtain ⟨v, a, b, _⟩ := h.ex
  obtain ⟨A, cc, hv⟩ := slice_form b.own
  subst hv
  obtain ⟨nn, hnn⟩ : ∃ nn, L.length = nn := ⟨_, rfl⟩
  have HL3 : Hid (∀ X, Below w.heap.size w X → X.cell? ⟨g, 3, none⟩ = some (.slice A nn cc)) := fun X hb => by
    rw [← hnn]
    exact cell_later hb (by rw [(row_cell a 3).1]; rfl)
  have HE0 : Hid (∀ X, Below w.heap.size w X → X.cell? ⟨g, 0, none⟩ = some (.int .i64 c) ∧ X.cell? ⟨g, 2, none⟩ = some (.bool true)) := fun X hb => ⟨cell_later hb (by rw [(row_cell a 0).1]; rfl), cell_later hb (by rw [(row_cell a 2).1]; rfl)⟩
  clear a b h hL hx hs hk hnn
  go_enter Try.func13, Try.ntmps13
  go_wp2_with fail
  refine FI.out.mono ?_
  rintro e w1 ⟨rfl, b1⟩
  have B1 := Lib.hid b1
  obtain ⟨x0, x2⟩ := HE0.out w1 b1
  clear b1 FI
  go_wp2_with fail
  refine wp_region_held_drew (S := (fun _ => True)) (by kernel_rfl) trivial (fun _ => ?_)
  have B_x : Hid (Below w.heap.size w w1.drew) := B1.out.drew
  clear x0 x2
  generalize w1.drew = x at B_x ⊢
  refine takeD (i := 0) (d := some 31) (v := ?_) _ rfl rfl (by kernel_rfl) (by kernel_rfl) (by kernel_rfl) (fun _ _ _ h => h) (by rfl) ?_ trivial ?_
  rotate_left
  · (intro w hSw; (try dsimp only at hSw); go_simp) <;> with_reducible rfl
  try simp only [Act.put, List.setIfInBounds_toArray, List.set_cons_zero, List.set_cons_succ]
  refine takeD (i := 1) (d := some 32) (v := ?_) _ rfl rfl (by kernel_rfl) (by kernel_rfl) (by kernel_rfl) (fun _ _ _ h => h) (by rfl) ?_ trivial ?_
  rotate_left
  · (intro w hSw; (try dsimp only at hSw); go_simp) <;> with_reducible rfl
  try simp only [Act.put, List.setIfInBounds_toArray, List.set_cons_zero, List.set_cons_succ]
  refine takeD (i := 2) (d := some 33) (v := ?_) _ rfl rfl (by kernel_rfl) (by kernel_rfl) (by kernel_rfl) (fun _ _ _ h => h) (by rfl) ?_ trivial ?_
  rotate_left
  · (intro w hSw; (try dsimp only at hSw); go_simp) <;> with_reducible rfl
  try simp only [Act.put, List.setIfInBounds_toArray, List.set_cons_zero, List.set_cons_succ]
  refine takeD (i := 3) (d := some 34) (v := ?_) _ rfl rfl (by kernel_rfl) (by kernel_rfl) (by kernel_rfl) (fun _ _ _ h => h) (by rfl) ?_ trivial ?_
  rotate_left
  · (intro w hSw; (try dsimp only at hSw); go_simp) <;> with_reducible rfl
  try simp only [Act.put, List.setIfInBounds_toArray, List.set_cons_zero, List.set_cons_succ]
  refine takeD (i := 5) (d := some 36) (v := ?_) _ rfl rfl (by kernel_rfl) (by kernel_rfl) (by kernel_rfl) (fun _ _ _ h => h) (by rfl) ?_ trivial ?_
  rotate_left
  · (intro w hSw; (try dsimp only at hSw); go_simp) <;> with_reducible rfl
  try simp only [Act.put, List.setIfInBounds_toArray, List.set_cons_zero, List.set_cons_succ]
  refine takeD (i := 6) (d := some 37) (v := ?_) _ rfl rfl (by kernel_rfl) (by kernel_rfl) (by kernel_rfl) (fun _ _ _ h => h) (by rfl) ?_ trivial ?_
  rotate_left
  · (intro w hSw; (try dsimp only at hSw); go_simp) <;> with_reducible rfl
  try simp only [Act.put, List.setIfInBounds_toArray, List.set_cons_zero, List.set_cons_succ]
  refine takeD (i := 8) (d := some 39) (v := ?_) _ rfl rfl (by kernel_rfl) (by kernel_rfl) (by kernel_rfl) (fun _ _ _ h => h) (by rfl) ?_ trivial ?_
  rotate_left
  · (intro w hSw; (try dsimp only at hSw); go_simp) <;> with_reducible rfl
  try simp only [Act.put, List.setIfInBounds_toArray, List.set_cons_zero, List.set_cons_succ]
  refine takeD (i := 9) (d := some 40) (v := ?_) _ rfl rfl (by kernel_rfl) (by kernel_rfl) (by kernel_rfl) (fun _ _ _ h => h) (by rfl) ?_ trivial ?_
  rotate_left
  · (intro w hSw; (try dsimp only at hSw); go_simp) <;> with_reducible rfl
  try simp only [Act.put, List.setIfInBounds_toArray, List.set_cons_zero, List.set_cons_succ]
  refine takeD (i := 10) (d := some 41) (v := ?_) _ rfl rfl (by kernel_rfl) (by kernel_rfl) (by kernel_rfl) (fun _ _ _ h => h) (by rfl) ?_ trivial ?_
  rotate_left
  · (intro w hSw; (try dsimp only at hSw); go_simp) <;> with_reducible rfl
  try simp only [Act.put, List.setIfInBounds_toArray, List.set_cons_zero, List.set_cons_succ]
  refine wpAnyH_ready (rs := [4, 7, 11]) (by kernel_rfl) (by simp) ?_
  refine AllReadyH.cons rfl (fun K hK => ?_) (AllReadyH.cons rfl (fun K hK => ?_) (AllReadyH.cons rfl (fun K hK => ?_) (AllReadyH.nil)))
  · have l0 : x.cell? ⟨g, 3, none⟩ = some (.slice A nn cc) := HL3.out x B_x.out
    try go_simp
    refine hK.out _ _ trivial (fun _ => ?_)
    clear l0
    clear hK K
    try simp only [Act.put, List.setIfInBounds_toArray, List.set_cons_zero, List.set_cons_succ]
    refine wpAnyH_ready (rs := [7, 11]) (by kernel_rfl) (by simp) ?_
    refine AllReadyH.cons rfl (fun K hK => ?_) (AllReadyH.cons rfl (fun K hK => ?_) (AllReadyH.nil))
    · try go_simp
      go_at_call 33
      refine (behind_any g rb L q x (HE.out x B_x.out).tv HS.out (by have := HL.out; omega)).mono ?_
      rintro e xb ⟨rfl, b_xb⟩
      have B_xb : Hid (Below w.heap.size w xb) := B_x.out.trans (b_xb.mono B_x.out.size)
      clear b_xb
      rw [HK.out]
      try go_wp2_with fail
      refine hK.out _ _ trivial (fun _ => ?_)
      clear hK K
      try simp only [Act.put, List.setIfInBounds_toArray, List.set_cons_zero, List.set_cons_succ]
      refine wpAnyH_ready (rs := [11]) (by kernel_rfl) (by simp) ?_
      refine AllReadyH.cons rfl (fun K hK => ?_) (AllReadyH.nil)
      · obtain ⟨xba, h_xba⟩ : ∃ W, xb.alloc (.cells #[.int .i64 id, .int .i64 q] 72) = W := ⟨_, rfl⟩
        obtain ⟨vb, h_vb⟩ : ∃ vb, xb.heap.size = vb := ⟨_, rfl⟩
        have B_xba : Hid (Below w.heap.size w xba) := by unfold Hid; rw [← h_xba]; exact B_xb.out.alloc B_xb.out.size _
        have V_xba : Hid (xba.heap[vb]? = some (.cells #[.int .i64 id, .int .i64 q] 72 (0, 0)) ∧ w.heap.size ≤ vb) := by unfold Hid; rw [← h_xba, ← h_vb]; exact ⟨heap_alloc_new _ _, B_xb.out.size⟩
        try go_simp
        refine hK.out _ _ trivial (fun _ => ?_)
        try rw [h_xba]
        try rw [h_vb]
        clear h_xba h_vb
        clear hK K
        try simp only [Act.put, List.setIfInBounds_toArray, List.set_cons_zero, List.set_cons_succ]
        obtain ⟨v3, rx, a3, b3, c3, d3⟩ := (HE.out xba B_xba.out).rows
        have hv3 : v3 = .slice A nn cc := by
          have h1 : xba.cell? ⟨g, 3, none⟩ = some v3 := by rw [(row_cell a3 3).1]; rfl
          rw [HL3.out xba B_xba.out] at h1
          injection h1 with h1
          exact h1.symm
        subst hv3
        have IN := Lib.hid (insert_any (.slice A nn cc) rx vb k (id, q) L xba b3 (by have := HKL.out; omega) (by have := HL.out; omega) (by have h1 := (Array.getElem?_eq_some_iff.1 V_xba.out.1).1; have h2 := V_xba.out.2; have h3 := H.out.lt; rcases d3 with d3 | d3 <;> omega) V_xba.out.1)
        have HA := Lib.hid a3
        have HC := Lib.hid c3
        have HD := Lib.hid d3
        clear a3 b3 c3 d3
        refine wpAnyH_ready (rs := [12]) (by kernel_rfl) (by simp) ?_
        refine AllReadyH.cons rfl (fun K hK => ?_) AllReadyH.nil
        try go_simp
        go_at_call 32
        refine IN.out.mono ?_
        rintro e w9 ⟨v9, r9, rfl, i1, i2, i3⟩
        try go_wp2_with fail
        refine hK.out _ _ trivial (fun _ => ?_)
        clear hK K
        try simp only [Act.put, List.setIfInBounds_toArray, List.set_cons_zero, List.set_cons_succ]
        refine takeD (i := 13) (d := some 44) (v := ?_) _ rfl rfl (by kernel_rfl) (by kernel_rfl) (by kernel_rfl) (fun _ _ _ h => h) (by rfl) ?_ trivial ?_
        rotate_left
        · (intro w hSw; (try dsimp only at hSw); go_simp) <;> with_reducible rfl
        try simp only [Act.put, List.setIfInBounds_toArray, List.set_cons_zero, List.set_cons_succ]
        refine takeD (i := 14) (d := some 45) (v := ?_) _ rfl rfl (by kernel_rfl) (by kernel_rfl) (by kernel_rfl) (fun _ _ _ h => h) (by rfl) ?_ trivial ?_
        rotate_left
        · (intro w hSw; (try dsimp only at hSw); go_simp) <;> with_reducible rfl
        try simp only [Act.put, List.setIfInBounds_toArray, List.set_cons_zero, List.set_cons_succ]
        have hg9 := (i3.block g (by have := H.out.lt; have := B_xba.out.size; omega) (fun e => HC.out e.symm)).trans HA.out
        have k9 : w9.cell? ⟨g, 3, none⟩ = some (.slice A nn cc) := by rw [(row_cell hg9 3).1]; rfl
        have f9 : w9.frozen? ⟨g, 3, none⟩ = false := (row_cell hg9 3).2
        have Q : Hid (∃ rb', SV lo (w9.setCell ⟨g, 3, none⟩ v9) g rb' ⟨c, m, true⟩ (L.take k ++ (id, q) :: L.drop k) ∧ Nx g rb rb' w (w9.setCell ⟨g, 3, none⟩ v9)) := ⟨r9, H.out.put HA.out (Ch.of_below B_xba.out) HC.out HD.out i3 i1 i2 (RowV.pos i1 (by simp))⟩
        obtain ⟨M9, hM9⟩ : ∃ M, L.take k ++ (id, q) :: L.drop k = M := ⟨_, rfl⟩
        rw [hM9] at i1 Q
        have HM9 := Lib.hid hM9
        obtain ⟨A9, n9, hv9⟩ := slice_form i1.own
        subst hv9
        clear i1 i2 i3 hg9 IN hM9
        refine wpAnyH_ready (rs := [15]) (by kernel_rfl) (by simp) ?_
        refine AllReadyH.cons rfl (fun K hK => ?_) AllReadyH.nil
        try go_simp
        refine hK.out _ _ trivial (fun _ => ?_)
        clear hK K
        try simp only [Act.put, List.setIfInBounds_toArray, List.set_cons_zero, List.set_cons_succ]
        refine wpAnyH_done (by kernel_rfl) ?_ _
        clear k9 f9
        go_wp2_with fail
        go_ret
        refine ⟨rfl, ?_⟩
        unfold joinP
        rw [← HQQ.out, HK.out, HM9.out]
        exact Q.out
    · obtain ⟨xa, h_xa⟩ : ∃ W, x.alloc (.cells #[.int .i64 id, .int .i64 q] 72) = W := ⟨_, rfl⟩
      obtain ⟨vb, h_vb⟩ : ∃ vb, x.heap.size = vb := ⟨_, rfl⟩
      have B_xa : Hid (Below w.heap.size w xa) := by unfold Hid; rw [← h_xa]; exact B_x.out.alloc B_x.out.size _
      have V_xa : Hid (xa.heap[vb]? = some (.cells #[.int .i64 id, .int .i64 q] 72 (0, 0)) ∧ w.heap.size ≤ vb) := by unfold Hid; rw [← h_xa, ← h_vb]; exact ⟨heap_alloc_new _ _, B_x.out.size⟩
      try go_simp
      refine hK.out _ _ trivial (fun _ => ?_)
      try rw [h_xa]
      try rw [h_vb]
      clear h_xa h_vb
      clear hK K
      try simp only [Act.put, List.setIfInBounds_toArray, List.set_cons_zero, List.set_cons_succ]
      refine wpAnyH_ready (rs := [7]) (by kernel_rfl) (by simp) ?_
      refine AllReadyH.cons rfl (fun K hK => ?_) (AllReadyH.nil)
      · try go_simp
        go_at_call 33
        refine (behind_any g rb L q xa (HE.out xa B_xa.out).tv HS.out (by have := HL.out; omega)).mono ?_
        rintro e xab ⟨rfl, b_xab⟩
        have B_xab : Hid (Below w.heap.size w xab) := B_xa.out.trans (b_xab.mono B_xa.out.size)
        have V_xab : Hid (xab.heap[vb]? = some (.cells #[.int .i64 id, .int .i64 q] 72 (0, 0)) ∧ w.heap.size ≤ vb) := ⟨(b_xab.block vb (Array.getElem?_eq_some_iff.1 V_xa.out.1).1).trans V_xa.out.1, V_xa.out.2⟩
        clear b_xab
        rw [HK.out]
        try go_wp2_with fail
        refine hK.out _ _ trivial (fun _ => ?_)
        clear hK K
        try simp only [Act.put, List.setIfInBounds_toArray, List.set_cons_zero, List.set_cons_succ]
        obtain ⟨v3, rx, a3, b3, c3, d3⟩ := (HE.out xab B_xab.out).rows
        have hv3 : v3 = .slice A nn cc := by
          have h1 : xab.cell? ⟨g, 3, none⟩ = some v3 := by rw [(row_cell a3 3).1]; rfl
          rw [HL3.out xab B_xab.out] at h1
          injection h1 with h1
          exact h1.symm
        subst hv3
        have IN := Lib.hid (insert_any (.slice A nn cc) rx vb k (id, q) L xab b3 (by have := HKL.out; omega) (by have := HL.out; omega) (by have h1 := (Array.getElem?_eq_some_iff.1 V_xab.out.1).1; have h2 := V_xab.out.2; have h3 := H.out.lt; rcases d3 with d3 | d3 <;> omega) V_xab.out.1)
        have HA := Lib.hid a3
        have HC := Lib.hid c3
        have HD := Lib.hid d3
        clear a3 b3 c3 d3
        refine wpAnyH_ready (rs := [12]) (by kernel_rfl) (by simp) ?_
        refine AllReadyH.cons rfl (fun K hK => ?_) AllReadyH.nil
        try go_simp
        go_at_call 32
        refine IN.out.mono ?_
        rintro e w9 ⟨v9, r9, rfl, i1, i2, i3⟩
        try go_wp2_with fail
        refine hK.out _ _ trivial (fun _ => ?_)
        clear hK K
        try simp only [Act.put, List.setIfInBounds_toArray, List.set_cons_zero, List.set_cons_succ]
        refine takeD (i := 13) (d := some 44) (v := ?_) _ rfl rfl (by kernel_rfl) (by kernel_rfl) (by kernel_rfl) (fun _ _ _ h => h) (by rfl) ?_ trivial ?_
        rotate_left
        · (intro w hSw; (try dsimp only at hSw); go_simp) <;> with_reducible rfl
        try simp only [Act.put, List.setIfInBounds_toArray, List.set_cons_zero, List.set_cons_succ]
        refine takeD (i := 14) (d := some 45) (v := ?_) _ rfl rfl (by kernel_rfl) (by kernel_rfl) (by kernel_rfl) (fun _ _ _ h => h) (by rfl) ?_ trivial ?_
        rotate_left
        · (intro w hSw; (try dsimp only at hSw); go_simp) <;> with_reducible rfl
        try simp only [Act.put, List.setIfInBounds_toArray, List.set_cons_zero, List.set_cons_succ]
        have hg9 := (i3.block g (by have := H.out.lt; have := B_xab.out.size; omega) (fun e => HC.out e.symm)).trans HA.out
        have k9 : w9.cell? ⟨g, 3, none⟩ = some (.slice A nn cc) := by rw [(row_cell hg9 3).1]; rfl
        have f9 : w9.frozen? ⟨g, 3, none⟩ = false := (row_cell hg9 3).2
        have Q : Hid (∃ rb', SV lo (w9.setCell ⟨g, 3, none⟩ v9) g rb' ⟨c, m, true⟩ (L.take k ++ (id, q) :: L.drop k) ∧ Nx g rb rb' w (w9.setCell ⟨g, 3, none⟩ v9)) := ⟨r9, H.out.put HA.out (Ch.of_below B_xab.out) HC.out HD.out i3 i1 i2 (RowV.pos i1 (by simp))⟩
        obtain ⟨M9, hM9⟩ : ∃ M, L.take k ++ (id, q) :: L.drop k = M := ⟨_, rfl⟩
        rw [hM9] at i1 Q
        have HM9 := Lib.hid hM9
        obtain ⟨A9, n9, hv9⟩ := slice_form i1.own
        subst hv9
        clear i1 i2 i3 hg9 IN hM9
        refine wpAnyH_ready (rs := [15]) (by kernel_rfl) (by simp) ?_
        refine AllReadyH.cons rfl (fun K hK => ?_) AllReadyH.nil
        try go_simp
        refine hK.out _ _ trivial (fun _ => ?_)
        clear hK K
        try simp only [Act.put, List.setIfInBounds_toArray, List.set_cons_zero, List.set_cons_succ]
        refine wpAnyH_done (by kernel_rfl) ?_ _
        clear k9 f9
        go_wp2_with fail
        go_ret
        refine ⟨rfl, ?_⟩
        unfold joinP
        rw [← HQQ.out, HK.out, HM9.out]
        exact Q.out
  · try go_simp
    go_at_call 33
    refine (behind_any g rb L q x (HE.out x B_x.out).tv HS.out (by have := HL.out; omega)).mono ?_
    rintro e xb ⟨rfl, b_xb⟩
    have B_xb : Hid (Below w.heap.size w xb) := B_x.out.trans (b_xb.mono B_x.out.size)
    clear b_xb
    rw [HK.out]
    try go_wp2_with fail
    refine hK.out _ _ trivial (fun _ => ?_)
    clear hK K
    try simp only [Act.put, List.setIfInBounds_toArray, List.set_cons_zero, List.set_cons_succ]
    refine wpAnyH_ready (rs := [4, 11]) (by kernel_rfl) (by simp) ?_
    refine AllReadyH.cons rfl (fun K hK => ?_) (AllReadyH.cons rfl (fun K hK => ?_) (AllReadyH.nil))
    · have l0 : xb.cell? ⟨g, 3, none⟩ = some (.slice A nn cc) := HL3.out xb B_xb.out
      try go_simp
      refine hK.out _ _ trivial (fun _ => ?_)
      clear l0
      clear hK K
      try simp only [Act.put, List.setIfInBounds_toArray, List.set_cons_zero, List.set_cons_succ]
      refine wpAnyH_ready (rs := [11]) (by kernel_rfl) (by simp) ?_
      refine AllReadyH.cons rfl (fun K hK => ?_) (AllReadyH.nil)
      · obtain ⟨xba, h_xba⟩ : ∃ W, xb.alloc (.cells #[.int .i64 id, .int .i64 q] 72) = W := ⟨_, rfl⟩
        obtain ⟨vb, h_vb⟩ : ∃ vb, xb.heap.size = vb := ⟨_, rfl⟩
        have B_xba : Hid (Below w.heap.size w xba) := by unfold Hid; rw [← h_xba]; exact B_xb.out.alloc B_xb.out.size _
        have V_xba : Hid (xba.heap[vb]? = some (.cells #[.int .i64 id, .int .i64 q] 72 (0, 0)) ∧ w.heap.size ≤ vb) := by unfold Hid; rw [← h_xba, ← h_vb]; exact ⟨heap_alloc_new _ _, B_xb.out.size⟩
        try go_simp
        refine hK.out _ _ trivial (fun _ => ?_)
        try rw [h_xba]
        try rw [h_vb]
        clear h_xba h_vb
        clear hK K
        try simp only [Act.put, List.setIfInBounds_toArray, List.set_cons_zero, List.set_cons_succ]
        obtain ⟨v3, rx, a3, b3, c3, d3⟩ := (HE.out xba B_xba.out).rows
        have hv3 : v3 = .slice A nn cc := by
          have h1 : xba.cell? ⟨g, 3, none⟩ = some v3 := by rw [(row_cell a3 3).1]; rfl
          rw [HL3.out xba B_xba.out] at h1
          injection h1 with h1
          exact h1.symm
        subst hv3
        have IN := Lib.hid (insert_any (.slice A nn cc) rx vb k (id, q) L xba b3 (by have := HKL.out; omega) (by have := HL.out; omega) (by have h1 := (Array.getElem?_eq_some_iff.1 V_xba.out.1).1; have h2 := V_xba.out.2; have h3 := H.out.lt; rcases d3 with d3 | d3 <;> omega) V_xba.out.1)
        have HA := Lib.hid a3
        have HC := Lib.hid c3
        have HD := Lib.hid d3
        clear a3 b3 c3 d3
        refine wpAnyH_ready (rs := [12]) (by kernel_rfl) (by simp) ?_
        refine AllReadyH.cons rfl (fun K hK => ?_) AllReadyH.nil
        try go_simp
        go_at_call 32
        refine IN.out.mono ?_
        rintro e w9 ⟨v9, r9, rfl, i1, i2, i3⟩
        try go_wp2_with fail
        refine hK.out _ _ trivial (fun _ => ?_)
        clear hK K
        try simp only [Act.put, List.setIfInBounds_toArray, List.set_cons_zero, List.set_cons_succ]
        refine takeD (i := 13) (d := some 44) (v := ?_) _ rfl rfl (by kernel_rfl) (by kernel_rfl) (by kernel_rfl) (fun _ _ _ h => h) (by rfl) ?_ trivial ?_
        rotate_left
        · (intro w hSw; (try dsimp only at hSw); go_simp) <;> with_reducible rfl
        try simp only [Act.put, List.setIfInBounds_toArray, List.set_cons_zero, List.set_cons_succ]
        refine takeD (i := 14) (d := some 45) (v := ?_) _ rfl rfl (by kernel_rfl) (by kernel_rfl) (by kernel_rfl) (fun _ _ _ h => h) (by rfl) ?_ trivial ?_
        rotate_left
        · (intro w hSw; (try dsimp only at hSw); go_simp) <;> with_reducible rfl
        try simp only [Act.put, List.setIfInBounds_toArray, List.set_cons_zero, List.set_cons_succ]
        have hg9 := (i3.block g (by have := H.out.lt; have := B_xba.out.size; omega) (fun e => HC.out e.symm)).trans HA.out
        have k9 : w9.cell? ⟨g, 3, none⟩ = some (.slice A nn cc) := by rw [(row_cell hg9 3).1]; rfl
        have f9 : w9.frozen? ⟨g, 3, none⟩ = false := (row_cell hg9 3).2
        have Q : Hid (∃ rb', SV lo (w9.setCell ⟨g, 3, none⟩ v9) g rb' ⟨c, m, true⟩ (L.take k ++ (id, q) :: L.drop k) ∧ Nx g rb rb' w (w9.setCell ⟨g, 3, none⟩ v9)) := ⟨r9, H.out.put HA.out (Ch.of_below B_xba.out) HC.out HD.out i3 i1 i2 (RowV.pos i1 (by simp))⟩
        obtain ⟨M9, hM9⟩ : ∃ M, L.take k ++ (id, q) :: L.drop k = M := ⟨_, rfl⟩
        rw [hM9] at i1 Q
        have HM9 := Lib.hid hM9
        obtain ⟨A9, n9, hv9⟩ := slice_form i1.own
        subst hv9
        clear i1 i2 i3 hg9 IN hM9
        refine wpAnyH_ready (rs := [15]) (by kernel_rfl) (by simp) ?_
        refine AllReadyH.cons rfl (fun K hK => ?_) AllReadyH.nil
        try go_simp
        refine hK.out _ _ trivial (fun _ => ?_)
        clear hK K
        try simp only [Act.put, List.setIfInBounds_toArray, List.set_cons_zero, List.set_cons_succ]
        refine wpAnyH_done (by kernel_rfl) ?_ _
        clear k9 f9
        go_wp2_with fail
        go_ret
        refine ⟨rfl, ?_⟩
        unfold joinP
        rw [← HQQ.out, HK.out, HM9.out]
        exact Q.out
    · obtain ⟨xba, h_xba⟩ : ∃ W, xb.alloc (.cells #[.int .i64 id, .int .i64 q] 72) = W := ⟨_, rfl⟩
      obtain ⟨vb, h_vb⟩ : ∃ vb, xb.heap.size = vb := ⟨_, rfl⟩
      have B_xba : Hid (Below w.heap.size w xba) := by unfold Hid; rw [← h_xba]; exact B_xb.out.alloc B_xb.out.size _
      have V_xba : Hid (xba.heap[vb]? = some (.cells #[.int .i64 id, .int .i64 q] 72 (0, 0)) ∧ w.heap.size ≤ vb) := by unfold Hid; rw [← h_xba, ← h_vb]; exact ⟨heap_alloc_new _ _, B_xb.out.size⟩
      try go_simp
      refine hK.out _ _ trivial (fun _ => ?_)
      try rw [h_xba]
      try rw [h_vb]
      clear h_xba h_vb
      clear hK K
      try simp only [Act.put, List.setIfInBounds_toArray, List.set_cons_zero, List.set_cons_succ]
      refine wpAnyH_ready (rs := [4]) (by kernel_rfl) (by simp) ?_
      refine AllReadyH.cons rfl (fun K hK => ?_) (AllReadyH.nil)
      · have l0 : xba.cell? ⟨g, 3, none⟩ = some (.slice A nn cc) := HL3.out xba B_xba.out
        try go_simp
        refine hK.out _ _ trivial (fun _ => ?_)
        clear l0
        clear hK K
        try simp only [Act.put, List.setIfInBounds_toArray, List.set_cons_zero, List.set_cons_succ]
        obtain ⟨v3, rx, a3, b3, c3, d3⟩ := (HE.out xba B_xba.out).rows
        have hv3 : v3 = .slice A nn cc := by
          have h1 : xba.cell? ⟨g, 3, none⟩ = some v3 := by rw [(row_cell a3 3).1]; rfl
          rw [HL3.out xba B_xba.out] at h1
          injection h1 with h1
          exact h1.symm
        subst hv3
        have IN := Lib.hid (insert_any (.slice A nn cc) rx vb k (id, q) L xba b3 (by have := HKL.out; omega) (by have := HL.out; omega) (by have h1 := (Array.getElem?_eq_some_iff.1 V_xba.out.1).1; have h2 := V_xba.out.2; have h3 := H.out.lt; rcases d3 with d3 | d3 <;> omega) V_xba.out.1)
        have HA := Lib.hid a3
        have HC := Lib.hid c3
        have HD := Lib.hid d3
        clear a3 b3 c3 d3
        refine wpAnyH_ready (rs := [12]) (by kernel_rfl) (by simp) ?_
        refine AllReadyH.cons rfl (fun K hK => ?_) AllReadyH.nil
        try go_simp
        go_at_call 32
        refine IN.out.mono ?_
        rintro e w9 ⟨v9, r9, rfl, i1, i2, i3⟩
        try go_wp2_with fail
        refine hK.out _ _ trivial (fun _ => ?_)
        clear hK K
        try simp only [Act.put, List.setIfInBounds_toArray, List.set_cons_zero, List.set_cons_succ]
        refine takeD (i := 13) (d := some 44) (v := ?_) _ rfl rfl (by kernel_rfl) (by kernel_rfl) (by kernel_rfl) (fun _ _ _ h => h) (by rfl) ?_ trivial ?_
        rotate_left
        · (intro w hSw; (try dsimp only at hSw); go_simp) <;> with_reducible rfl
        try simp only [Act.put, List.setIfInBounds_toArray, List.set_cons_zero, List.set_cons_succ]
        refine takeD (i := 14) (d := some 45) (v := ?_) _ rfl rfl (by kernel_rfl) (by kernel_rfl) (by kernel_rfl) (fun _ _ _ h => h) (by rfl) ?_ trivial ?_
        rotate_left
        · (intro w hSw; (try dsimp only at hSw); go_simp) <;> with_reducible rfl
        try simp only [Act.put, List.setIfInBounds_toArray, List.set_cons_zero, List.set_cons_succ]
        have hg9 := (i3.block g (by have := H.out.lt; have := B_xba.out.size; omega) (fun e => HC.out e.symm)).trans HA.out
        have k9 : w9.cell? ⟨g, 3, none⟩ = some (.slice A nn cc) := by rw [(row_cell hg9 3).1]; rfl
        have f9 : w9.frozen? ⟨g, 3, none⟩ = false := (row_cell hg9 3).2
        have Q : Hid (∃ rb', SV lo (w9.setCell ⟨g, 3, none⟩ v9) g rb' ⟨c, m, true⟩ (L.take k ++ (id, q) :: L.drop k) ∧ Nx g rb rb' w (w9.setCell ⟨g, 3, none⟩ v9)) := ⟨r9, H.out.put HA.out (Ch.of_below B_xba.out) HC.out HD.out i3 i1 i2 (RowV.pos i1 (by simp))⟩
        obtain ⟨M9, hM9⟩ : ∃ M, L.take k ++ (id, q) :: L.drop k = M := ⟨_, rfl⟩
        rw [hM9] at i1 Q
        have HM9 := Lib.hid hM9
        obtain ⟨A9, n9, hv9⟩ := slice_form i1.own
        subst hv9
        clear i1 i2 i3 hg9 IN hM9
        refine wpAnyH_ready (rs := [15]) (by kernel_rfl) (by simp) ?_
        refine AllReadyH.cons rfl (fun K hK => ?_) AllReadyH.nil
        try go_simp
        refine hK.out _ _ trivial (fun _ => ?_)
        clear hK K
        try simp only [Act.put, List.setIfInBounds_toArray, List.set_cons_zero, List.set_cons_succ]
        refine wpAnyH_done (by kernel_rfl) ?_ _
        clear k9 f9
        go_wp2_with fail
        go_ret
        refine ⟨rfl, ?_⟩
        unfold joinP
        rw [← HQQ.out, HK.out, HM9.out]
        exact Q.out
  · obtain ⟨xa, h_xa⟩ : ∃ W, x.alloc (.cells #[.int .i64 id, .int .i64 q] 72) = W := ⟨_, rfl⟩
    obtain ⟨vb, h_vb⟩ : ∃ vb, x.heap.size = vb := ⟨_, rfl⟩
    have B_xa : Hid (Below w.heap.size w xa) := by unfold Hid; rw [← h_xa]; exact B_x.out.alloc B_x.out.size _
    have V_xa : Hid (xa.heap[vb]? = some (.cells #[.int .i64 id, .int .i64 q] 72 (0, 0)) ∧ w.heap.size ≤ vb) := by unfold Hid; rw [← h_xa, ← h_vb]; exact ⟨heap_alloc_new _ _, B_x.out.size⟩
    try go_simp
    refine hK.out _ _ trivial (fun _ => ?_)
    try rw [h_xa]
    try rw [h_vb]
    clear h_xa h_vb
    clear hK K
    try simp only [Act.put, List.setIfInBounds_toArray, List.set_cons_zero, List.set_cons_succ]
    refine wpAnyH_ready (rs := [4, 7]) (by kernel_rfl) (by simp) ?_
    refine AllReadyH.cons rfl (fun K hK => ?_) (AllReadyH.cons rfl (fun K hK => ?_) (AllReadyH.nil))
    · have l0 : xa.cell? ⟨g, 3, none⟩ = some (.slice A nn cc) := HL3.out xa B_xa.out
      try go_simp
      refine hK.out _ _ trivial (fun _ => ?_)
      clear l0
      clear hK K
      try simp only [Act.put, List.setIfInBounds_toArray, List.set_cons_zero, List.set_cons_succ]
      refine wpAnyH_ready (rs := [7]) (by kernel_rfl) (by simp) ?_
      refine AllReadyH.cons rfl (fun K hK => ?_) (AllReadyH.nil)
      · try go_simp
        go_at_call 33
        refine (behind_any g rb L q xa (HE.out xa B_xa.out).tv HS.out (by have := HL.out; omega)).mono ?_
        rintro e xab ⟨rfl, b_xab⟩
        have B_xab : Hid (Below w.heap.size w xab) := B_xa.out.trans (b_xab.mono B_xa.out.size)
        have V_xab : Hid (xab.heap[vb]? = some (.cells #[.int .i64 id, .int .i64 q] 72 (0, 0)) ∧ w.heap.size ≤ vb) := ⟨(b_xab.block vb (Array.getElem?_eq_some_iff.1 V_xa.out.1).1).trans V_xa.out.1, V_xa.out.2⟩
        clear b_xab
        rw [HK.out]
        try go_wp2_with fail
        refine hK.out _ _ trivial (fun _ => ?_)
        clear hK K
        try simp only [Act.put, List.setIfInBounds_toArray, List.set_cons_zero, List.set_cons_succ]
        obtain ⟨v3, rx, a3, b3, c3, d3⟩ := (HE.out xab B_xab.out).rows
        have hv3 : v3 = .slice A nn cc := by
          have h1 : xab.cell? ⟨g, 3, none⟩ = some v3 := by rw [(row_cell a3 3).1]; rfl
          rw [HL3.out xab B_xab.out] at h1
          injection h1 with h1
          exact h1.symm
        subst hv3
        have IN := Lib.hid (insert_any (.slice A nn cc) rx vb k (id, q) L xab b3 (by have := HKL.out; omega) (by have := HL.out; omega) (by have h1 := (Array.getElem?_eq_some_iff.1 V_xab.out.1).1; have h2 := V_xab.out.2; have h3 := H.out.lt; rcases d3 with d3 | d3 <;> omega) V_xab.out.1)
        have HA := Lib.hid a3
        have HC := Lib.hid c3
        have HD := Lib.hid d3
        clear a3 b3 c3 d3
        refine wpAnyH_ready (rs := [12]) (by kernel_rfl) (by simp) ?_
        refine AllReadyH.cons rfl (fun K hK => ?_) AllReadyH.nil
        try go_simp
        go_at_call 32
        refine IN.out.mono ?_
        rintro e w9 ⟨v9, r9, rfl, i1, i2, i3⟩
        try go_wp2_with fail
        refine hK.out _ _ trivial (fun _ => ?_)
        clear hK K
        try simp only [Act.put, List.setIfInBounds_toArray, List.set_cons_zero, List.set_cons_succ]
        refine takeD (i := 13) (d := some 44) (v := ?_) _ rfl rfl (by kernel_rfl) (by kernel_rfl) (by kernel_rfl) (fun _ _ _ h => h) (by rfl) ?_ trivial ?_
        rotate_left
        · (intro w hSw; (try dsimp only at hSw); go_simp) <;> with_reducible rfl
        try simp only [Act.put, List.setIfInBounds_toArray, List.set_cons_zero, List.set_cons_succ]
        refine takeD (i := 14) (d := some 45) (v := ?_) _ rfl rfl (by kernel_rfl) (by kernel_rfl) (by kernel_rfl) (fun _ _ _ h => h) (by rfl) ?_ trivial ?_
        rotate_left
        · (intro w hSw; (try dsimp only at hSw); go_simp) <;> with_reducible rfl
        try simp only [Act.put, List.setIfInBounds_toArray, List.set_cons_zero, List.set_cons_succ]
        have hg9 := (i3.block g (by have := H.out.lt; have := B_xab.out.size; omega) (fun e => HC.out e.symm)).trans HA.out
        have k9 : w9.cell? ⟨g, 3, none⟩ = some (.slice A nn cc) := by rw [(row_cell hg9 3).1]; rfl
        have f9 : w9.frozen? ⟨g, 3, none⟩ = false := (row_cell hg9 3).2
        have Q : Hid (∃ rb', SV lo (w9.setCell ⟨g, 3, none⟩ v9) g rb' ⟨c, m, true⟩ (L.take k ++ (id, q) :: L.drop k) ∧ Nx g rb rb' w (w9.setCell ⟨g, 3, none⟩ v9)) := ⟨r9, H.out.put HA.out (Ch.of_below B_xab.out) HC.out HD.out i3 i1 i2 (RowV.pos i1 (by simp))⟩
        obtain ⟨M9, hM9⟩ : ∃ M, L.take k ++ (id, q) :: L.drop k = M := ⟨_, rfl⟩
        rw [hM9] at i1 Q
        have HM9 := Lib.hid hM9
        obtain ⟨A9, n9, hv9⟩ := slice_form i1.own
        subst hv9
        clear i1 i2 i3 hg9 IN hM9
        refine wpAnyH_ready (rs := [15]) (by kernel_rfl) (by simp) ?_
        refine AllReadyH.cons rfl (fun K hK => ?_) AllReadyH.nil
        try go_simp
        refine hK.out _ _ trivial (fun _ => ?_)
        clear hK K
        try simp only [Act.put, List.setIfInBounds_toArray, List.set_cons_zero, List.set_cons_succ]
        refine wpAnyH_done (by kernel_rfl) ?_ _
        clear k9 f9
        go_wp2_with fail
        go_ret
        refine ⟨rfl, ?_⟩
        unfold joinP
        rw [← HQQ.out, HK.out, HM9.out]
        exact Q.out
    · try go_simp
      go_at_call 33
      refine (behind_any g rb L q xa (HE.out xa B_xa.out).tv HS.out (by have := HL.out; omega)).mono ?_
      rintro e xab ⟨rfl, b_xab⟩
      have B_xab : Hid (Below w.heap.size w xab) := B_xa.out.trans (b_xab.mono B_xa.out.size)
      have V_xab : Hid (xab.heap[vb]? = some (.cells #[.int .i64 id, .int .i64 q] 72 (0, 0)) ∧ w.heap.size ≤ vb) := ⟨(b_xab.block vb (Array.getElem?_eq_some_iff.1 V_xa.out.1).1).trans V_xa.out.1, V_xa.out.2⟩
      clear b_xab
      rw [HK.out]
      try go_wp2_with fail
      refine hK.out _ _ trivial (fun _ => ?_)
      clear hK K
      try simp only [Act.put, List.setIfInBounds_toArray, List.set_cons_zero, List.set_cons_succ]
      refine wpAnyH_ready (rs := [4]) (by kernel_rfl) (by simp) ?_
      refine AllReadyH.cons rfl (fun K hK => ?_) (AllReadyH.nil)
      · have l0 : xab.cell? ⟨g, 3, none⟩ = some (.slice A nn cc) := HL3.out xab B_xab.out
        try go_simp
        refine hK.out _ _ trivial (fun _ => ?_)
        clear l0
        clear hK K
        try simp only [Act.put, List.setIfInBounds_toArray, List.set_cons_zero, List.set_cons_succ]
        obtain ⟨v3, rx, a3, b3, c3, d3⟩ := (HE.out xab B_xab.out).rows
        have hv3 : v3 = .slice A nn cc := by
          have h1 : xab.cell? ⟨g, 3, none⟩ = some v3 := by rw [(row_cell a3 3).1]; rfl
          rw [HL3.out xab B_xab.out] at h1
          injection h1 with h1
          exact h1.symm
        subst hv3
        have IN := Lib.hid (insert_any (.slice A nn cc) rx vb k (id, q) L xab b3 (by have := HKL.out; omega) (by have := HL.out; omega) (by have h1 := (Array.getElem?_eq_some_iff.1 V_xab.out.1).1; have h2 := V_xab.out.2; have h3 := H.out.lt; rcases d3 with d3 | d3 <;> omega) V_xab.out.1)
        have HA := Lib.hid a3
        have HC := Lib.hid c3
        have HD := Lib.hid d3
        clear a3 b3 c3 d3
        refine wpAnyH_ready (rs := [12]) (by kernel_rfl) (by simp) ?_
        refine AllReadyH.cons rfl (fun K hK => ?_) AllReadyH.nil
        try go_simp
        go_at_call 32
        refine IN.out.mono ?_
        rintro e w9 ⟨v9, r9, rfl, i1, i2, i3⟩
        try go_wp2_with fail
        refine hK.out _ _ trivial (fun _ => ?_)
        clear hK K
        try simp only [Act.put, List.setIfInBounds_toArray, List.set_cons_zero, List.set_cons_succ]
        refine takeD (i := 13) (d := some 44) (v := ?_) _ rfl rfl (by kernel_rfl) (by kernel_rfl) (by kernel_rfl) (fun _ _ _ h => h) (by rfl) ?_ trivial ?_
        rotate_left
        · (intro w hSw; (try dsimp only at hSw); go_simp) <;> with_reducible rfl
        try simp only [Act.put, List.setIfInBounds_toArray, List.set_cons_zero, List.set_cons_succ]
        refine takeD (i := 14) (d := some 45) (v := ?_) _ rfl rfl (by kernel_rfl) (by kernel_rfl) (by kernel_rfl) (fun _ _ _ h => h) (by rfl) ?_ trivial ?_
        rotate_left
        · (intro w hSw; (try dsimp only at hSw); go_simp) <;> with_reducible rfl
        try simp only [Act.put, List.setIfInBounds_toArray, List.set_cons_zero, List.set_cons_succ]
        have hg9 := (i3.block g (by have := H.out.lt; have := B_xab.out.size; omega) (fun e => HC.out e.symm)).trans HA.out
        have k9 : w9.cell? ⟨g, 3, none⟩ = some (.slice A nn cc) := by rw [(row_cell hg9 3).1]; rfl
        have f9 : w9.frozen? ⟨g, 3, none⟩ = false := (row_cell hg9 3).2
        have Q : Hid (∃ rb', SV lo (w9.setCell ⟨g, 3, none⟩ v9) g rb' ⟨c, m, true⟩ (L.take k ++ (id, q) :: L.drop k) ∧ Nx g rb rb' w (w9.setCell ⟨g, 3, none⟩ v9)) := ⟨r9, H.out.put HA.out (Ch.of_below B_xab.out) HC.out HD.out i3 i1 i2 (RowV.pos i1 (by simp))⟩
        obtain ⟨M9, hM9⟩ : ∃ M, L.take k ++ (id, q) :: L.drop k = M := ⟨_, rfl⟩
        rw [hM9] at i1 Q
        have HM9 := Lib.hid hM9
        obtain ⟨A9, n9, hv9⟩ := slice_form i1.own
        subst hv9
        clear i1 i2 i3 hg9 IN hM9
        refine wpAnyH_ready (rs := [15]) (by kernel_rfl) (by simp) ?_
        refine AllReadyH.cons rfl (fun K hK => ?_) AllReadyH.nil
        try go_simp
        refine hK.out _ _ trivial (fun _ => ?_)
        clear hK K
        try simp only [Act.put, List.setIfInBounds_toArray, List.set_cons_zero, List.set_cons_succ]
        refine wpAnyH_done (by kernel_rfl) ?_ _
        clear k9 f9
        go_wp2_with fail
        go_ret
        refine ⟨rfl, ?_⟩
        unfold joinP
        rw [← HQQ.out, HK.out, HM9.out]
        exact Q.out
set_option maxRecDepth 100000 in
set_option maxHeartbeats 4000000 in
theorem wait_join_false (lo g rb : Nat) (c m : Int) (L : List (Int × Int)) (id pr : Int) (w : World) (h : SV lo w g rb ⟨c, m, false⟩ L) (hL : L.length ≤ 900) (hx : id ∉ idsP L) (hc : ¬ 0 < c) (hs : Srt L) :
    Calls Try.prog 13 #[.pointer (some ⟨g, 0, none⟩), .int .i64 id, .int .i64 pr] w fun e w' => e = .returned (.bool false) ∧ ∃ rb', SV lo w' g rb' ⟨c, m, false⟩ (joinP L id (wq false pr)) ∧ Nx g rb rb' w w' := by
  have FI := Lib.hid (find_any g rb L id w h.tv (by omega))
  rw [pos_out hx] at FI
  obtain ⟨q, hq⟩ : ∃ q, q = wq false pr := ⟨_, rfl⟩
  have HQQ := Lib.hid hq
  have hqv : q = 0 := by rw [hq]; simp [wq]
  clear hq
  subst hqv
  obtain ⟨k, hk⟩ : ∃ k, cnt L 0 = k := ⟨_, rfl⟩
  have HK := Lib.hid hk
  have HKL : Hid (k ≤ L.length) := by unfold Hid; rw [← hk]; exact cnt_le L 0
  have H := Lib.hid h
  have HL := Lib.hid hL
  have HS := Lib.hid hs
  have HE : Hid (∀ X, Below w.heap.size w X → SV lo X g rb ⟨c, m, false⟩ L) := fun X hb => h.below hb
  obtain ⟨v, a, b, _⟩ := h.ex
  obtain ⟨A, cc, hv⟩ := slice_form b.own
  subst hv
  obtain ⟨nn, hnn⟩ : ∃ nn, L.length = nn := ⟨_, rfl⟩
  have HL3 : Hid (∀ X, Below w.heap.size w X → X.cell? ⟨g, 3, none⟩ = some (.slice A nn cc)) := fun X hb => by
    rw [← hnn]
    exact cell_later hb (by rw [(row_cell a 3).1]; rfl)
  have HE0 : Hid (∀ X, Below w.heap.size w X → X.cell? ⟨g, 0, none⟩ = some (.int .i64 c) ∧ X.cell? ⟨g, 2, none⟩ = some (.bool false)) := fun X hb => ⟨cell_later hb (by rw [(row_cell a 0).1]; rfl), cell_later hb (by rw [(row_cell a 2).1]; rfl)⟩
  clear a b h hL hx hs hk hnn
  go_enter Try.func13, Try.ntmps13
  go_wp2_with fail
  refine FI.out.mono ?_
  rintro e w1 ⟨rfl, b1⟩
  have B1 := Lib.hid b1
  obtain ⟨x0, x2⟩ := HE0.out w1 b1
  clear b1 FI
  go_wp2_with fail
  refine wp_region_held_drew (S := (fun _ => True)) (by kernel_rfl) trivial (fun _ => ?_)
  have B_x : Hid (Below w.heap.size w w1.drew) := B1.out.drew
  clear x0 x2
  generalize w1.drew = x at B_x ⊢
  refine takeD (i := 0) (d := some 31) (v := ?_) _ rfl rfl (by kernel_rfl) (by kernel_rfl) (by kernel_rfl) (fun _ _ _ h => h) (by rfl) ?_ trivial ?_
  rotate_left
  · (intro w hSw; (try dsimp only at hSw); go_simp) <;> with_reducible rfl
  try simp only [Act.put, List.setIfInBounds_toArray, List.set_cons_zero, List.set_cons_succ]
  refine takeD (i := 1) (d := some 32) (v := ?_) _ rfl rfl (by kernel_rfl) (by kernel_rfl) (by kernel_rfl) (fun _ _ _ h => h) (by rfl) ?_ trivial ?_
  rotate_left
  · (intro w hSw; (try dsimp only at hSw); go_simp) <;> with_reducible rfl
  try simp only [Act.put, List.setIfInBounds_toArray, List.set_cons_zero, List.set_cons_succ]
  refine takeD (i := 2) (d := some 33) (v := ?_) _ rfl rfl (by kernel_rfl) (by kernel_rfl) (by kernel_rfl) (fun _ _ _ h => h) (by rfl) ?_ trivial ?_
  rotate_left
  · (intro w hSw; (try dsimp only at hSw); go_simp) <;> with_reducible rfl
  try simp only [Act.put, List.setIfInBounds_toArray, List.set_cons_zero, List.set_cons_succ]
  refine takeD (i := 3) (d := some 34) (v := ?_) _ rfl rfl (by kernel_rfl) (by kernel_rfl) (by kernel_rfl) (fun _ _ _ h => h) (by rfl) ?_ trivial ?_
  rotate_left
  · (intro w hSw; (try dsimp only at hSw); go_simp) <;> with_reducible rfl
  try simp only [Act.put, List.setIfInBounds_toArray, List.set_cons_zero, List.set_cons_succ]
  refine takeD (i := 5) (d := some 36) (v := ?_) _ rfl rfl (by kernel_rfl) (by kernel_rfl) (by kernel_rfl) (fun _ _ _ h => h) (by rfl) ?_ trivial ?_
  rotate_left
  · (intro w hSw; (try dsimp only at hSw); go_simp) <;> with_reducible rfl
  try simp only [Act.put, List.setIfInBounds_toArray, List.set_cons_zero, List.set_cons_succ]
  refine takeD (i := 6) (d := some 37) (v := ?_) _ rfl rfl (by kernel_rfl) (by kernel_rfl) (by kernel_rfl) (fun _ _ _ h => h) (by rfl) ?_ trivial ?_
  rotate_left
  · (intro w hSw; (try dsimp only at hSw); go_simp) <;> with_reducible rfl
  try simp only [Act.put, List.setIfInBounds_toArray, List.set_cons_zero, List.set_cons_succ]
  refine takeD (i := 8) (d := some 39) (v := ?_) _ rfl rfl (by kernel_rfl) (by kernel_rfl) (by kernel_rfl) (fun _ _ _ h => h) (by rfl) ?_ trivial ?_
  rotate_left
  · (intro w hSw; (try dsimp only at hSw); go_simp) <;> with_reducible rfl
  try simp only [Act.put, List.setIfInBounds_toArray, List.set_cons_zero, List.set_cons_succ]
  refine takeD (i := 9) (d := some 40) (v := ?_) _ rfl rfl (by kernel_rfl) (by kernel_rfl) (by kernel_rfl) (fun _ _ _ h => h) (by rfl) ?_ trivial ?_
  rotate_left
  · (intro w hSw; (try dsimp only at hSw); go_simp) <;> with_reducible rfl
  try simp only [Act.put, List.setIfInBounds_toArray, List.set_cons_zero, List.set_cons_succ]
  refine takeD (i := 10) (d := some 41) (v := ?_) _ rfl rfl (by kernel_rfl) (by kernel_rfl) (by kernel_rfl) (fun _ _ _ h => h) (by rfl) ?_ trivial ?_
  rotate_left
  · (intro w hSw; (try dsimp only at hSw); go_simp) <;> with_reducible rfl
  try simp only [Act.put, List.setIfInBounds_toArray, List.set_cons_zero, List.set_cons_succ]
  refine wpAnyH_ready (rs := [4, 7, 11]) (by kernel_rfl) (by simp) ?_
  refine AllReadyH.cons rfl (fun K hK => ?_) (AllReadyH.cons rfl (fun K hK => ?_) (AllReadyH.cons rfl (fun K hK => ?_) (AllReadyH.nil)))
  · have l0 : x.cell? ⟨g, 3, none⟩ = some (.slice A nn cc) := HL3.out x B_x.out
    try go_simp
    refine hK.out _ _ trivial (fun _ => ?_)
    clear l0
    clear hK K
    try simp only [Act.put, List.setIfInBounds_toArray, List.set_cons_zero, List.set_cons_succ]
    refine wpAnyH_ready (rs := [7, 11]) (by kernel_rfl) (by simp) ?_
    refine AllReadyH.cons rfl (fun K hK => ?_) (AllReadyH.cons rfl (fun K hK => ?_) (AllReadyH.nil))
    · try go_simp
      go_at_call 33
      refine (behind_any g rb L 0 x (HE.out x B_x.out).tv HS.out (by have := HL.out; omega)).mono ?_
      rintro e xb ⟨rfl, b_xb⟩
      have B_xb : Hid (Below w.heap.size w xb) := B_x.out.trans (b_xb.mono B_x.out.size)
      clear b_xb
      rw [HK.out]
      try go_wp2_with fail
      refine hK.out _ _ trivial (fun _ => ?_)
      clear hK K
      try simp only [Act.put, List.setIfInBounds_toArray, List.set_cons_zero, List.set_cons_succ]
      refine wpAnyH_ready (rs := [11]) (by kernel_rfl) (by simp) ?_
      refine AllReadyH.cons rfl (fun K hK => ?_) (AllReadyH.nil)
      · obtain ⟨xba, h_xba⟩ : ∃ W, xb.alloc (.cells #[.int .i64 id, .int .i64 0] 72) = W := ⟨_, rfl⟩
        obtain ⟨vb, h_vb⟩ : ∃ vb, xb.heap.size = vb := ⟨_, rfl⟩
        have B_xba : Hid (Below w.heap.size w xba) := by unfold Hid; rw [← h_xba]; exact B_xb.out.alloc B_xb.out.size _
        have V_xba : Hid (xba.heap[vb]? = some (.cells #[.int .i64 id, .int .i64 0] 72 (0, 0)) ∧ w.heap.size ≤ vb) := by unfold Hid; rw [← h_xba, ← h_vb]; exact ⟨heap_alloc_new _ _, B_xb.out.size⟩
        try go_simp
        refine hK.out _ _ trivial (fun _ => ?_)
        try rw [h_xba]
        try rw [h_vb]
        clear h_xba h_vb
        clear hK K
        try simp only [Act.put, List.setIfInBounds_toArray, List.set_cons_zero, List.set_cons_succ]
        obtain ⟨v3, rx, a3, b3, c3, d3⟩ := (HE.out xba B_xba.out).rows
        have hv3 : v3 = .slice A nn cc := by
          have h1 : xba.cell? ⟨g, 3, none⟩ = some v3 := by rw [(row_cell a3 3).1]; rfl
          rw [HL3.out xba B_xba.out] at h1
          injection h1 with h1
          exact h1.symm
        subst hv3
        have IN := Lib.hid (insert_any (.slice A nn cc) rx vb k (id, 0) L xba b3 (by have := HKL.out; omega) (by have := HL.out; omega) (by have h1 := (Array.getElem?_eq_some_iff.1 V_xba.out.1).1; have h2 := V_xba.out.2; have h3 := H.out.lt; rcases d3 with d3 | d3 <;> omega) V_xba.out.1)
        have HA := Lib.hid a3
        have HC := Lib.hid c3
        have HD := Lib.hid d3
        clear a3 b3 c3 d3
        refine wpAnyH_ready (rs := [12]) (by kernel_rfl) (by simp) ?_
        refine AllReadyH.cons rfl (fun K hK => ?_) AllReadyH.nil
        try go_simp
        go_at_call 32
        refine IN.out.mono ?_
        rintro e w9 ⟨v9, r9, rfl, i1, i2, i3⟩
        try go_wp2_with fail
        refine hK.out _ _ trivial (fun _ => ?_)
        clear hK K
        try simp only [Act.put, List.setIfInBounds_toArray, List.set_cons_zero, List.set_cons_succ]
        refine takeD (i := 13) (d := some 44) (v := ?_) _ rfl rfl (by kernel_rfl) (by kernel_rfl) (by kernel_rfl) (fun _ _ _ h => h) (by rfl) ?_ trivial ?_
        rotate_left
        · (intro w hSw; (try dsimp only at hSw); go_simp) <;> with_reducible rfl
        try simp only [Act.put, List.setIfInBounds_toArray, List.set_cons_zero, List.set_cons_succ]
        refine takeD (i := 14) (d := some 45) (v := ?_) _ rfl rfl (by kernel_rfl) (by kernel_rfl) (by kernel_rfl) (fun _ _ _ h => h) (by rfl) ?_ trivial ?_
        rotate_left
        · (intro w hSw; (try dsimp only at hSw); go_simp) <;> with_reducible rfl
        try simp only [Act.put, List.setIfInBounds_toArray, List.set_cons_zero, List.set_cons_succ]
        have hg9 := (i3.block g (by have := H.out.lt; have := B_xba.out.size; omega) (fun e => HC.out e.symm)).trans HA.out
        have k9 : w9.cell? ⟨g, 3, none⟩ = some (.slice A nn cc) := by rw [(row_cell hg9 3).1]; rfl
        have f9 : w9.frozen? ⟨g, 3, none⟩ = false := (row_cell hg9 3).2
        have Q : Hid (∃ rb', SV lo (w9.setCell ⟨g, 3, none⟩ v9) g rb' ⟨c, m, false⟩ (L.take k ++ (id, 0) :: L.drop k) ∧ Nx g rb rb' w (w9.setCell ⟨g, 3, none⟩ v9)) := ⟨r9, H.out.put HA.out (Ch.of_below B_xba.out) HC.out HD.out i3 i1 i2 (RowV.pos i1 (by simp))⟩
        obtain ⟨M9, hM9⟩ : ∃ M, L.take k ++ (id, 0) :: L.drop k = M := ⟨_, rfl⟩
        rw [hM9] at i1 Q
        have HM9 := Lib.hid hM9
        obtain ⟨A9, n9, hv9⟩ := slice_form i1.own
        subst hv9
        clear i1 i2 i3 hg9 IN hM9
        refine wpAnyH_ready (rs := [15]) (by kernel_rfl) (by simp) ?_
        refine AllReadyH.cons rfl (fun K hK => ?_) AllReadyH.nil
        try go_simp
        refine hK.out _ _ trivial (fun _ => ?_)
        clear hK K
        try simp only [Act.put, List.setIfInBounds_toArray, List.set_cons_zero, List.set_cons_succ]
        refine wpAnyH_done (by kernel_rfl) ?_ _
        clear k9 f9
        go_wp2_with fail
        go_ret
        refine ⟨rfl, ?_⟩
        unfold joinP
        rw [← HQQ.out, HK.out, HM9.out]
        exact Q.out
    · obtain ⟨xa, h_xa⟩ : ∃ W, x.alloc (.cells #[.int .i64 id, .int .i64 0] 72) = W := ⟨_, rfl⟩
      obtain ⟨vb, h_vb⟩ : ∃ vb, x.heap.size = vb := ⟨_, rfl⟩
      have B_xa : Hid (Below w.heap.size w xa) := by unfold Hid; rw [← h_xa]; exact B_x.out.alloc B_x.out.size _
      have V_xa : Hid (xa.heap[vb]? = some (.cells #[.int .i64 id, .int .i64 0] 72 (0, 0)) ∧ w.heap.size ≤ vb) := by unfold Hid; rw [← h_xa, ← h_vb]; exact ⟨heap_alloc_new _ _, B_x.out.size⟩
      try go_simp
      refine hK.out _ _ trivial (fun _ => ?_)
      try rw [h_xa]
      try rw [h_vb]
      clear h_xa h_vb
      clear hK K
      try simp only [Act.put, List.setIfInBounds_toArray, List.set_cons_zero, List.set_cons_succ]
      refine wpAnyH_ready (rs := [7]) (by kernel_rfl) (by simp) ?_
      refine AllReadyH.cons rfl (fun K hK => ?_) (AllReadyH.nil)
      · try go_simp
        go_at_call 33
        refine (behind_any g rb L 0 xa (HE.out xa B_xa.out).tv HS.out (by have := HL.out; omega)).mono ?_
        rintro e xab ⟨rfl, b_xab⟩
        have B_xab : Hid (Below w.heap.size w xab) := B_xa.out.trans (b_xab.mono B_xa.out.size)
        have V_xab : Hid (xab.heap[vb]? = some (.cells #[.int .i64 id, .int .i64 0] 72 (0, 0)) ∧ w.heap.size ≤ vb) := ⟨(b_xab.block vb (Array.getElem?_eq_some_iff.1 V_xa.out.1).1).trans V_xa.out.1, V_xa.out.2⟩
        clear b_xab
        rw [HK.out]
        try go_wp2_with fail
        refine hK.out _ _ trivial (fun _ => ?_)
        clear hK K
        try simp only [Act.put, List.setIfInBounds_toArray, List.set_cons_zero, List.set_cons_succ]
        obtain ⟨v3, rx, a3, b3, c3, d3⟩ := (HE.out xab B_xab.out).rows
        have hv3 : v3 = .slice A nn cc := by
          have h1 : xab.cell? ⟨g, 3, none⟩ = some v3 := by rw [(row_cell a3 3).1]; rfl
          rw [HL3.out xab B_xab.out] at h1
          injection h1 with h1
          exact h1.symm
        subst hv3
        have IN := Lib.hid (insert_any (.slice A nn cc) rx vb k (id, 0) L xab b3 (by have := HKL.out; omega) (by have := HL.out; omega) (by have h1 := (Array.getElem?_eq_some_iff.1 V_xab.out.1).1; have h2 := V_xab.out.2; have h3 := H.out.lt; rcases d3 with d3 | d3 <;> omega) V_xab.out.1)
        have HA := Lib.hid a3
        have HC := Lib.hid c3
        have HD := Lib.hid d3
        clear a3 b3 c3 d3
        refine wpAnyH_ready (rs := [12]) (by kernel_rfl) (by simp) ?_
        refine AllReadyH.cons rfl (fun K hK => ?_) AllReadyH.nil
        try go_simp
        go_at_call 32
        refine IN.out.mono ?_
        rintro e w9 ⟨v9, r9, rfl, i1, i2, i3⟩
        try go_wp2_with fail
        refine hK.out _ _ trivial (fun _ => ?_)
        clear hK K
        try simp only [Act.put, List.setIfInBounds_toArray, List.set_cons_zero, List.set_cons_succ]
        refine takeD (i := 13) (d := some 44) (v := ?_) _ rfl rfl (by kernel_rfl) (by kernel_rfl) (by kernel_rfl) (fun _ _ _ h => h) (by rfl) ?_ trivial ?_
        rotate_left
        · (intro w hSw; (try dsimp only at hSw); go_simp) <;> with_reducible rfl
        try simp only [Act.put, List.setIfInBounds_toArray, List.set_cons_zero, List.set_cons_succ]
        refine takeD (i := 14) (d := some 45) (v := ?_) _ rfl rfl (by kernel_rfl) (by kernel_rfl) (by kernel_rfl) (fun _ _ _ h => h) (by rfl) ?_ trivial ?_
        rotate_left
        · (intro w hSw; (try dsimp only at hSw); go_simp) <;> with_reducible rfl
        try simp only [Act.put, List.setIfInBounds_toArray, List.set_cons_zero, List.set_cons_succ]
        have hg9 := (i3.block g (by have := H.out.lt; have := B_xab.out.size; omega) (fun e => HC.out e.symm)).trans HA.out
        have k9 : w9.cell? ⟨g, 3, none⟩ = some (.slice A nn cc) := by rw [(row_cell hg9 3).1]; rfl
        have f9 : w9.frozen? ⟨g, 3, none⟩ = false := (row_cell hg9 3).2
        have Q : Hid (∃ rb', SV lo (w9.setCell ⟨g, 3, none⟩ v9) g rb' ⟨c, m, false⟩ (L.take k ++ (id, 0) :: L.drop k) ∧ Nx g rb rb' w (w9.setCell ⟨g, 3, none⟩ v9)) := ⟨r9, H.out.put HA.out (Ch.of_below B_xab.out) HC.out HD.out i3 i1 i2 (RowV.pos i1 (by simp))⟩
        obtain ⟨M9, hM9⟩ : ∃ M, L.take k ++ (id, 0) :: L.drop k = M := ⟨_, rfl⟩
        rw [hM9] at i1 Q
        have HM9 := Lib.hid hM9
        obtain ⟨A9, n9, hv9⟩ := slice_form i1.own
        subst hv9
        clear i1 i2 i3 hg9 IN hM9
        refine wpAnyH_ready (rs := [15]) (by kernel_rfl) (by simp) ?_
        refine AllReadyH.cons rfl (fun K hK => ?_) AllReadyH.nil
        try go_simp
        refine hK.out _ _ trivial (fun _ => ?_)
        clear hK K
        try simp only [Act.put, List.setIfInBounds_toArray, List.set_cons_zero, List.set_cons_succ]
        refine wpAnyH_done (by kernel_rfl) ?_ _
        clear k9 f9
        go_wp2_with fail
        go_ret
        refine ⟨rfl, ?_⟩
        unfold joinP
        rw [← HQQ.out, HK.out, HM9.out]
        exact Q.out
  · try go_simp
    go_at_call 33
    refine (behind_any g rb L 0 x (HE.out x B_x.out).tv HS.out (by have := HL.out; omega)).mono ?_
    rintro e xb ⟨rfl, b_xb⟩
    have B_xb : Hid (Below w.heap.size w xb) := B_x.out.trans (b_xb.mono B_x.out.size)
    clear b_xb
    rw [HK.out]
    try go_wp2_with fail
    refine hK.out _ _ trivial (fun _ => ?_)
    clear hK K
    try simp only [Act.put, List.setIfInBounds_toArray, List.set_cons_zero, List.set_cons_succ]
    refine wpAnyH_ready (rs := [4, 11]) (by kernel_rfl) (by simp) ?_
    refine AllReadyH.cons rfl (fun K hK => ?_) (AllReadyH.cons rfl (fun K hK => ?_) (AllReadyH.nil))
    · have l0 : xb.cell? ⟨g, 3, none⟩ = some (.slice A nn cc) := HL3.out xb B_xb.out
      try go_simp
      refine hK.out _ _ trivial (fun _ => ?_)
      clear l0
      clear hK K
      try simp only [Act.put, List.setIfInBounds_toArray, List.set_cons_zero, List.set_cons_succ]
      refine wpAnyH_ready (rs := [11]) (by kernel_rfl) (by simp) ?_
      refine AllReadyH.cons rfl (fun K hK => ?_) (AllReadyH.nil)
      · obtain ⟨xba, h_xba⟩ : ∃ W, xb.alloc (.cells #[.int .i64 id, .int .i64 0] 72) = W := ⟨_, rfl⟩
        obtain ⟨vb, h_vb⟩ : ∃ vb, xb.heap.size = vb := ⟨_, rfl⟩
        have B_xba : Hid (Below w.heap.size w xba) := by unfold Hid; rw [← h_xba]; exact B_xb.out.alloc B_xb.out.size _
        have V_xba : Hid (xba.heap[vb]? = some (.cells #[.int .i64 id, .int .i64 0] 72 (0, 0)) ∧ w.heap.size ≤ vb) := by unfold Hid; rw [← h_xba, ← h_vb]; exact ⟨heap_alloc_new _ _, B_xb.out.size⟩
        try go_simp
        refine hK.out _ _ trivial (fun _ => ?_)
        try rw [h_xba]
        try rw [h_vb]
        clear h_xba h_vb
        clear hK K
        try simp only [Act.put, List.setIfInBounds_toArray, List.set_cons_zero, List.set_cons_succ]
        obtain ⟨v3, rx, a3, b3, c3, d3⟩ := (HE.out xba B_xba.out).rows
        have hv3 : v3 = .slice A nn cc := by
          have h1 : xba.cell? ⟨g, 3, none⟩ = some v3 := by rw [(row_cell a3 3).1]; rfl
          rw [HL3.out xba B_xba.out] at h1
          injection h1 with h1
          exact h1.symm
        subst hv3
        have IN := Lib.hid (insert_any (.slice A nn cc) rx vb k (id, 0) L xba b3 (by have := HKL.out; omega) (by have := HL.out; omega) (by have h1 := (Array.getElem?_eq_some_iff.1 V_xba.out.1).1; have h2 := V_xba.out.2; have h3 := H.out.lt; rcases d3 with d3 | d3 <;> omega) V_xba.out.1)
        have HA := Lib.hid a3
        have HC := Lib.hid c3
        have HD := Lib.hid d3
        clear a3 b3 c3 d3
        refine wpAnyH_ready (rs := [12]) (by kernel_rfl) (by simp) ?_
        refine AllReadyH.cons rfl (fun K hK => ?_) AllReadyH.nil
        try go_simp
        go_at_call 32
        refine IN.out.mono ?_
        rintro e w9 ⟨v9, r9, rfl, i1, i2, i3⟩
        try go_wp2_with fail
        refine hK.out _ _ trivial (fun _ => ?_)
        clear hK K
        try simp only [Act.put, List.setIfInBounds_toArray, List.set_cons_zero, List.set_cons_succ]
        refine takeD (i := 13) (d := some 44) (v := ?_) _ rfl rfl (by kernel_rfl) (by kernel_rfl) (by kernel_rfl) (fun _ _ _ h => h) (by rfl) ?_ trivial ?_
        rotate_left
        · (intro w hSw; (try dsimp only at hSw); go_simp) <;> with_reducible rfl
        try simp only [Act.put, List.setIfInBounds_toArray, List.set_cons_zero, List.set_cons_succ]
        refine takeD (i := 14) (d := some 45) (v := ?_) _ rfl rfl (by kernel_rfl) (by kernel_rfl) (by kernel_rfl) (fun _ _ _ h => h) (by rfl) ?_ trivial ?_
        rotate_left
        · (intro w hSw; (try dsimp only at hSw); go_simp) <;> with_reducible rfl
        try simp only [Act.put, List.setIfInBounds_toArray, List.set_cons_zero, List.set_cons_succ]
        have hg9 := (i3.block g (by have := H.out.lt; have := B_xba.out.size; omega) (fun e => HC.out e.symm)).trans HA.out
        have k9 : w9.cell? ⟨g, 3, none⟩ = some (.slice A nn cc) := by rw [(row_cell hg9 3).1]; rfl
        have f9 : w9.frozen? ⟨g, 3, none⟩ = false := (row_cell hg9 3).2
        have Q : Hid (∃ rb', SV lo (w9.setCell ⟨g, 3, none⟩ v9) g rb' ⟨c, m, false⟩ (L.take k ++ (id, 0) :: L.drop k) ∧ Nx g rb rb' w (w9.setCell ⟨g, 3, none⟩ v9)) := ⟨r9, H.out.put HA.out (Ch.of_below B_xba.out) HC.out HD.out i3 i1 i2 (RowV.pos i1 (by simp))⟩
        obtain ⟨M9, hM9⟩ : ∃ M, L.take k ++ (id, 0) :: L.drop k = M := ⟨_, rfl⟩
        rw [hM9] at i1 Q
        have HM9 := Lib.hid hM9
        obtain ⟨A9, n9, hv9⟩ := slice_form i1.own
        subst hv9
        clear i1 i2 i3 hg9 IN hM9
        refine wpAnyH_ready (rs := [15]) (by kernel_rfl) (by simp) ?_
        refine AllReadyH.cons rfl (fun K hK => ?_) AllReadyH.nil
        try go_simp
        refine hK.out _ _ trivial (fun _ => ?_)
        clear hK K
        try simp only [Act.put, List.setIfInBounds_toArray, List.set_cons_zero, List.set_cons_succ]
        refine wpAnyH_done (by kernel_rfl) ?_ _
        clear k9 f9
        go_wp2_with fail
        go_ret
        refine ⟨rfl, ?_⟩
        unfold joinP
        rw [← HQQ.out, HK.out, HM9.out]
        exact Q.out
    · obtain ⟨xba, h_xba⟩ : ∃ W, xb.alloc (.cells #[.int .i64 id, .int .i64 0] 72) = W := ⟨_, rfl⟩
      obtain ⟨vb, h_vb⟩ : ∃ vb, xb.heap.size = vb := ⟨_, rfl⟩
      have B_xba : Hid (Below w.heap.size w xba) := by unfold Hid; rw [← h_xba]; exact B_xb.out.alloc B_xb.out.size _
      have V_xba : Hid (xba.heap[vb]? = some (.cells #[.int .i64 id, .int .i64 0] 72 (0, 0)) ∧ w.heap.size ≤ vb) := by unfold Hid; rw [← h_xba, ← h_vb]; exact ⟨heap_alloc_new _ _, B_xb.out.size⟩
      try go_simp
      refine hK.out _ _ trivial (fun _ => ?_)
      try rw [h_xba]
      try rw [h_vb]
      clear h_xba h_vb
      clear hK K
      try simp only [Act.put, List.setIfInBounds_toArray, List.set_cons_zero, List.set_cons_succ]
      refine wpAnyH_ready (rs := [4]) (by kernel_rfl) (by simp) ?_
      refine AllReadyH.cons rfl (fun K hK => ?_) (AllReadyH.nil)
      · have l0 : xba.cell? ⟨g, 3, none⟩ = some (.slice A nn cc) := HL3.out xba B_xba.out
        try go_simp
        refine hK.out _ _ trivial (fun _ => ?_)
        clear l0
        clear hK K
        try simp only [Act.put, List.setIfInBounds_toArray, List.set_cons_zero, List.set_cons_succ]
        obtain ⟨v3, rx, a3, b3, c3, d3⟩ := (HE.out xba B_xba.out).rows
        have hv3 : v3 = .slice A nn cc := by
          have h1 : xba.cell? ⟨g, 3, none⟩ = some v3 := by rw [(row_cell a3 3).1]; rfl
          rw [HL3.out xba B_xba.out] at h1
          injection h1 with h1
          exact h1.symm
        subst hv3
        have IN := Lib.hid (insert_any (.slice A nn cc) rx vb k (id, 0) L xba b3 (by have := HKL.out; omega) (by have := HL.out; omega) (by have h1 := (Array.getElem?_eq_some_iff.1 V_xba.out.1).1; have h2 := V_xba.out.2; have h3 := H.out.lt; rcases d3 with d3 | d3 <;> omega) V_xba.out.1)
        have HA := Lib.hid a3
        have HC := Lib.hid c3
        have HD := Lib.hid d3
        clear a3 b3 c3 d3
        refine wpAnyH_ready (rs := [12]) (by kernel_rfl) (by simp) ?_
        refine AllReadyH.cons rfl (fun K hK => ?_) AllReadyH.nil
        try go_simp
        go_at_call 32
        refine IN.out.mono ?_
        rintro e w9 ⟨v9, r9, rfl, i1, i2, i3⟩
        try go_wp2_with fail
        refine hK.out _ _ trivial (fun _ => ?_)
        clear hK K
        try simp only [Act.put, List.setIfInBounds_toArray, List.set_cons_zero, List.set_cons_succ]
        refine takeD (i := 13) (d := some 44) (v := ?_) _ rfl rfl (by kernel_rfl) (by kernel_rfl) (by kernel_rfl) (fun _ _ _ h => h) (by rfl) ?_ trivial ?_
        rotate_left
        · (intro w hSw; (try dsimp only at hSw); go_simp) <;> with_reducible rfl
        try simp only [Act.put, List.setIfInBounds_toArray, List.set_cons_zero, List.set_cons_succ]
        refine takeD (i := 14) (d := some 45) (v := ?_) _ rfl rfl (by kernel_rfl) (by kernel_rfl) (by kernel_rfl) (fun _ _ _ h => h) (by rfl) ?_ trivial ?_
        rotate_left
        · (intro w hSw; (try dsimp only at hSw); go_simp) <;> with_reducible rfl
        try simp only [Act.put, List.setIfInBounds_toArray, List.set_cons_zero, List.set_cons_succ]
        have hg9 := (i3.block g (by have := H.out.lt; have := B_xba.out.size; omega) (fun e => HC.out e.symm)).trans HA.out
        have k9 : w9.cell? ⟨g, 3, none⟩ = some (.slice A nn cc) := by rw [(row_cell hg9 3).1]; rfl
        have f9 : w9.frozen? ⟨g, 3, none⟩ = false := (row_cell hg9 3).2
        have Q : Hid (∃ rb', SV lo (w9.setCell ⟨g, 3, none⟩ v9) g rb' ⟨c, m, false⟩ (L.take k ++ (id, 0) :: L.drop k) ∧ Nx g rb rb' w (w9.setCell ⟨g, 3, none⟩ v9)) := ⟨r9, H.out.put HA.out (Ch.of_below B_xba.out) HC.out HD.out i3 i1 i2 (RowV.pos i1 (by simp))⟩
        obtain ⟨M9, hM9⟩ : ∃ M, L.take k ++ (id, 0) :: L.drop k = M := ⟨_, rfl⟩
        rw [hM9] at i1 Q
        have HM9 := Lib.hid hM9
        obtain ⟨A9, n9, hv9⟩ := slice_form i1.own
        subst hv9
        clear i1 i2 i3 hg9 IN hM9
        refine wpAnyH_ready (rs := [15]) (by kernel_rfl) (by simp) ?_
        refine AllReadyH.cons rfl (fun K hK => ?_) AllReadyH.nil
        try go_simp
        refine hK.out _ _ trivial (fun _ => ?_)
        clear hK K
        try simp only [Act.put, List.setIfInBounds_toArray, List.set_cons_zero, List.set_cons_succ]
        refine wpAnyH_done (by kernel_rfl) ?_ _
        clear k9 f9
        go_wp2_with fail
        go_ret
        refine ⟨rfl, ?_⟩
        unfold joinP
        rw [← HQQ.out, HK.out, HM9.out]
        exact Q.out
  · obtain ⟨xa, h_xa⟩ : ∃ W, x.alloc (.cells #[.int .i64 id, .int .i64 0] 72) = W := ⟨_, rfl⟩
    obtain ⟨vb, h_vb⟩ : ∃ vb, x.heap.size = vb := ⟨_, rfl⟩
    have B_xa : Hid (Below w.heap.size w xa) := by unfold Hid; rw [← h_xa]; exact B_x.out.alloc B_x.out.size _
    have V_xa : Hid (xa.heap[vb]? = some (.cells #[.int .i64 id, .int .i64 0] 72 (0, 0)) ∧ w.heap.size ≤ vb) := by unfold Hid; rw [← h_xa, ← h_vb]; exact ⟨heap_alloc_new _ _, B_x.out.size⟩
    try go_simp
    refine hK.out _ _ trivial (fun _ => ?_)
    try rw [h_xa]
    try rw [h_vb]
    clear h_xa h_vb
    clear hK K
    try simp only [Act.put, List.setIfInBounds_toArray, List.set_cons_zero, List.set_cons_succ]
    refine wpAnyH_ready (rs := [4, 7]) (by kernel_rfl) (by simp) ?_
    refine AllReadyH.cons rfl (fun K hK => ?_) (AllReadyH.cons rfl (fun K hK => ?_) (AllReadyH.nil))
    · have l0 : xa.cell? ⟨g, 3, none⟩ = some (.slice A nn cc) := HL3.out xa B_xa.out
      try go_simp
      refine hK.out _ _ trivial (fun _ => ?_)
      clear l0
      clear hK K
      try simp only [Act.put, List.setIfInBounds_toArray, List.set_cons_zero, List.set_cons_succ]
      refine wpAnyH_ready (rs := [7]) (by kernel_rfl) (by simp) ?_
      refine AllReadyH.cons rfl (fun K hK => ?_) (AllReadyH.nil)
      · try go_simp
        go_at_call 33
        refine (behind_any g rb L 0 xa (HE.out xa B_xa.out).tv HS.out (by have := HL.out; omega)).mono ?_
        rintro e xab ⟨rfl, b_xab⟩
        have B_xab : Hid (Below w.heap.size w xab) := B_xa.out.trans (b_xab.mono B_xa.out.size)
        have V_xab : Hid (xab.heap[vb]? = some (.cells #[.int .i64 id, .int .i64 0] 72 (0, 0)) ∧ w.heap.size ≤ vb) := ⟨(b_xab.block vb (Array.getElem?_eq_some_iff.1 V_xa.out.1).1).trans V_xa.out.1, V_xa.out.2⟩
        clear b_xab
        rw [HK.out]
        try go_wp2_with fail
        refine hK.out _ _ trivial (fun _ => ?_)
        clear hK K
        try simp only [Act.put, List.setIfInBounds_toArray, List.set_cons_zero, List.set_cons_succ]
        obtain ⟨v3, rx, a3, b3, c3, d3⟩ := (HE.out xab B_xab.out).rows
        have hv3 : v3 = .slice A nn cc := by
          have h1 : xab.cell? ⟨g, 3, none⟩ = some v3 := by rw [(row_cell a3 3).1]; rfl
          rw [HL3.out xab B_xab.out] at h1
          injection h1 with h1
          exact h1.symm
        subst hv3
        have IN := Lib.hid (insert_any (.slice A nn cc) rx vb k (id, 0) L xab b3 (by have := HKL.out; omega) (by have := HL.out; omega) (by have h1 := (Array.getElem?_eq_some_iff.1 V_xab.out.1).1; have h2 := V_xab.out.2; have h3 := H.out.lt; rcases d3 with d3 | d3 <;> omega) V_xab.out.1)
        have HA := Lib.hid a3
        have HC := Lib.hid c3
        have HD := Lib.hid d3
        clear a3 b3 c3 d3
        refine wpAnyH_ready (rs := [12]) (by kernel_rfl) (by simp) ?_
        refine AllReadyH.cons rfl (fun K hK => ?_) AllReadyH.nil
        try go_simp
        go_at_call 32
        refine IN.out.mono ?_
        rintro e w9 ⟨v9, r9, rfl, i1, i2, i3⟩
        try go_wp2_with fail
        refine hK.out _ _ trivial (fun _ => ?_)
        clear hK K
        try simp only [Act.put, List.setIfInBounds_toArray, List.set_cons_zero, List.set_cons_succ]
        refine takeD (i := 13) (d := some 44) (v := ?_) _ rfl rfl (by kernel_rfl) (by kernel_rfl) (by kernel_rfl) (fun _ _ _ h => h) (by rfl) ?_ trivial ?_
        rotate_left
        · (intro w hSw; (try dsimp only at hSw); go_simp) <;> with_reducible rfl
        try simp only [Act.put, List.setIfInBounds_toArray, List.set_cons_zero, List.set_cons_succ]
        refine takeD (i := 14) (d := some 45) (v := ?_) _ rfl rfl (by kernel_rfl) (by kernel_rfl) (by kernel_rfl) (fun _ _ _ h => h) (by rfl) ?_ trivial ?_
        rotate_left
        · (intro w hSw; (try dsimp only at hSw); go_simp) <;> with_reducible rfl
        try simp only [Act.put, List.setIfInBounds_toArray, List.set_cons_zero, List.set_cons_succ]
        have hg9 := (i3.block g (by have := H.out.lt; have := B_xab.out.size; omega) (fun e => HC.out e.symm)).trans HA.out
        have k9 : w9.cell? ⟨g, 3, none⟩ = some (.slice A nn cc) := by rw [(row_cell hg9 3).1]; rfl
        have f9 : w9.frozen? ⟨g, 3, none⟩ = false := (row_cell hg9 3).2
        have Q : Hid (∃ rb', SV lo (w9.setCell ⟨g, 3, none⟩ v9) g rb' ⟨c, m, false⟩ (L.take k ++ (id, 0) :: L.drop k) ∧ Nx g rb rb' w (w9.setCell ⟨g, 3, none⟩ v9)) := ⟨r9, H.out.put HA.out (Ch.of_below B_xab.out) HC.out HD.out i3 i1 i2 (RowV.pos i1 (by simp))⟩
        obtain ⟨M9, hM9⟩ : ∃ M, L.take k ++ (id, 0) :: L.drop k = M := ⟨_, rfl⟩
        rw [hM9] at i1 Q
        have HM9 := Lib.hid hM9
        obtain ⟨A9, n9, hv9⟩ := slice_form i1.own
        subst hv9
        clear i1 i2 i3 hg9 IN hM9
        refine wpAnyH_ready (rs := [15]) (by kernel_rfl) (by simp) ?_
        refine AllReadyH.cons rfl (fun K hK => ?_) AllReadyH.nil
        try go_simp
        refine hK.out _ _ trivial (fun _ => ?_)
        clear hK K
        try simp only [Act.put, List.setIfInBounds_toArray, List.set_cons_zero, List.set_cons_succ]
        refine wpAnyH_done (by kernel_rfl) ?_ _
        clear k9 f9
        go_wp2_with fail
        go_ret
        refine ⟨rfl, ?_⟩
        unfold joinP
        rw [← HQQ.out, HK.out, HM9.out]
        exact Q.out
    · try go_simp
      go_at_call 33
      refine (behind_any g rb L 0 xa (HE.out xa B_xa.out).tv HS.out (by have := HL.out; omega)).mono ?_
      rintro e xab ⟨rfl, b_xab⟩
      have B_xab : Hid (Below w.heap.size w xab) := B_xa.out.trans (b_xab.mono B_xa.out.size)
      have V_xab : Hid (xab.heap[vb]? = some (.cells #[.int .i64 id, .int .i64 0] 72 (0, 0)) ∧ w.heap.size ≤ vb) := ⟨(b_xab.block vb (Array.getElem?_eq_some_iff.1 V_xa.out.1).1).trans V_xa.out.1, V_xa.out.2⟩
      clear b_xab
      rw [HK.out]
      try go_wp2_with fail
      refine hK.out _ _ trivial (fun _ => ?_)
      clear hK K
      try simp only [Act.put, List.setIfInBounds_toArray, List.set_cons_zero, List.set_cons_succ]
      refine wpAnyH_ready (rs := [4]) (by kernel_rfl) (by simp) ?_
      refine AllReadyH.cons rfl (fun K hK => ?_) (AllReadyH.nil)
      · have l0 : xab.cell? ⟨g, 3, none⟩ = some (.slice A nn cc) := HL3.out xab B_xab.out
        try go_simp
        refine hK.out _ _ trivial (fun _ => ?_)
        clear l0
        clear hK K
        try simp only [Act.put, List.setIfInBounds_toArray, List.set_cons_zero, List.set_cons_succ]
        obtain ⟨v3, rx, a3, b3, c3, d3⟩ := (HE.out xab B_xab.out).rows
        have hv3 : v3 = .slice A nn cc := by
          have h1 : xab.cell? ⟨g, 3, none⟩ = some v3 := by rw [(row_cell a3 3).1]; rfl
          rw [HL3.out xab B_xab.out] at h1
          injection h1 with h1
          exact h1.symm
        subst hv3
        have IN := Lib.hid (insert_any (.slice A nn cc) rx vb k (id, 0) L xab b3 (by have := HKL.out; omega) (by have := HL.out; omega) (by have h1 := (Array.getElem?_eq_some_iff.1 V_xab.out.1).1; have h2 := V_xab.out.2; have h3 := H.out.lt; rcases d3 with d3 | d3 <;> omega) V_xab.out.1)
        have HA := Lib.hid a3
        have HC := Lib.hid c3
        have HD := Lib.hid d3
        clear a3 b3 c3 d3
        refine wpAnyH_ready (rs := [12]) (by kernel_rfl) (by simp) ?_
        refine AllReadyH.cons rfl (fun K hK => ?_) AllReadyH.nil
        try go_simp
        go_at_call 32
        refine IN.out.mono ?_
        rintro e w9 ⟨v9, r9, rfl, i1, i2, i3⟩
        try go_wp2_with fail
        refine hK.out _ _ trivial (fun _ => ?_)
        clear hK K
        try simp only [Act.put, List.setIfInBounds_toArray, List.set_cons_zero, List.set_cons_succ]
        refine takeD (i := 13) (d := some 44) (v := ?_) _ rfl rfl (by kernel_rfl) (by kernel_rfl) (by kernel_rfl) (fun _ _ _ h => h) (by rfl) ?_ trivial ?_
        rotate_left
        · (intro w hSw; (try dsimp only at hSw); go_simp) <;> with_reducible rfl
        try simp only [Act.put, List.setIfInBounds_toArray, List.set_cons_zero, List.set_cons_succ]
        refine takeD (i := 14) (d := some 45) (v := ?_) _ rfl rfl (by kernel_rfl) (by kernel_rfl) (by kernel_rfl) (fun _ _ _ h => h) (by rfl) ?_ trivial ?_
        rotate_left
        · (intro w hSw; (try dsimp only at hSw); go_simp) <;> with_reducible rfl
        try simp only [Act.put, List.setIfInBounds_toArray, List.set_cons_zero, List.set_cons_succ]
        have hg9 := (i3.block g (by have := H.out.lt; have := B_xab.out.size; omega) (fun e => HC.out e.symm)).trans HA.out
        have k9 : w9.cell? ⟨g, 3, none⟩ = some (.slice A nn cc) := by rw [(row_cell hg9 3).1]; rfl
        have f9 : w9.frozen? ⟨g, 3, none⟩ = false := (row_cell hg9 3).2
        have Q : Hid (∃ rb', SV lo (w9.setCell ⟨g, 3, none⟩ v9) g rb' ⟨c, m, false⟩ (L.take k ++ (id, 0) :: L.drop k) ∧ Nx g rb rb' w (w9.setCell ⟨g, 3, none⟩ v9)) := ⟨r9, H.out.put HA.out (Ch.of_below B_xab.out) HC.out HD.out i3 i1 i2 (RowV.pos i1 (by simp))⟩
        obtain ⟨M9, hM9⟩ : ∃ M, L.take k ++ (id, 0) :: L.drop k = M := ⟨_, rfl⟩
        rw [hM9] at i1 Q
        have HM9 := Lib.hid hM9
        obtain ⟨A9, n9, hv9⟩ := slice_form i1.own
        subst hv9
        clear i1 i2 i3 hg9 IN hM9
        refine wpAnyH_ready (rs := [15]) (by kernel_rfl) (by simp) ?_
        refine AllReadyH.cons rfl (fun K hK => ?_) AllReadyH.nil
        try go_simp
        refine hK.out _ _ trivial (fun _ => ?_)
        clear hK K
        try simp only [Act.put, List.setIfInBounds_toArray, List.set_cons_zero, List.set_cons_succ]
        refine wpAnyH_done (by kernel_rfl) ?_ _
        clear k9 f9
        go_wp2_with fail
        go_ret
        refine ⟨rfl, ?_⟩
        unfold joinP
        rw [← HQQ.out, HK.out, HM9.out]
        exact Q.out
end Go.Proofs.Ytobnhjkcbhajbaa.S
