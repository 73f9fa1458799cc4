/-
  Locks: a lock passes on. Each statement bears its own conditions.
-/
import Derived.Test.YtbnnpfhgpbaedaaLkC
namespace Go.Proofs.Ytbnnpfhgpbaedaa.K
open Go.RowKit Go.Maps
set_option linter.unusedVariables false
set_option linter.unusedSimpArgs false
set_option maxRecDepth 100000 in
set_option maxHeartbeats 4000000 in
theorem pass_none (lo g bc bw bm N : Nat) (rb : Nat → Nat) (cs : List Int) (ws : Nat → List (Int × Int)) (os : Int → Option Int) (i : Nat) (w : World) (h : LV lo w g bc bw bm N rb cs ws os) (hi : i < cs.length) (hc : cs.length ≤ 16) (hw : ws i = []) :
    Calls Try.prog 40 #[.pointer (some ⟨g, 0, none⟩), .int .i64 (i : Int)] w fun e w' => e = .returned (.slice none 0 0) ∧ LV lo w' g bc bw bm N rb cs ws (put os i none) ∧ Lx bw bm cs.length rb rb w w' := by
  have H := Lib.hid h
  have HI := Lib.hid hi
  obtain ⟨D, hown, hD⟩ := h.mp
  have HD := Lib.hid hD
  have hk : (Lit.int .i64 (i : Int)).wf = true := WalkArith.wf_i64 (by omega)
  have hkey := keyOf_int_mk Try.underlying3 hk
  obtain ⟨v, rx, cw, k1, k2, k3, k4, _⟩ := h.row hi
  have hi0 : (0 : Int) ≤ (i : Int) := by omega
  have hiI : (i : Int) < (cs.length : Int) := by omega
  obtain ⟨n, hn⟩ : ∃ n, cs.length = n := ⟨_, rfl⟩
  have HN := Lib.hid hn
  rw [hn] at hiI
  clear h k1 k2 k3 hD
  go_enter Try.func40, Try.ntmps40
  go_wp2_with (first
    | (at_delete; refine wpList_delete_own _ rfl _ _ 64 3 rfl 3 law3 Try.underlying64 _ bm N D rfl hown _ _ rfl hkey ?_; intro w1 hown1 hturn1
       have h1 := H.out.owner hturn1 (del_map hown1 HD.out)
       have H1 := Lib.hid h1.1
       have X1 := Lib.hid h1.2
       clear hown hown1 hturn1 h1
       obtain ⟨v, rx, cw, k1, k2, k3, k4, b3, n1, n2, n3, d3⟩ := H1.out.row HI.out
       obtain ⟨A, cc, hv⟩ := slice_form b3.own
       subst hv
       rw [HN.out] at k3
       rw [hw] at k1
       have k1 : w1.cell? ⟨bw, i, none⟩ = some (.slice A 0 cc) := k1
       clear b3 d3 n1 n2 n3 k4)
    | fail)
  go_ret
  exact ⟨rfl, H1.out, X1.out⟩
set_option maxRecDepth 100000 in
set_option maxHeartbeats 4000000 in
theorem pass_some (lo g bc bw bm N : Nat) (rb : Nat → Nat) (cs : List Int) (ws : Nat → List (Int × Int)) (os : Int → Option Int) (i : Nat) (x : Int × Int) (L : List (Int × Int)) (w : World) (h : LV lo w g bc bw bm N rb cs ws os) (hi : i < cs.length) (hc : cs.length ≤ 16) (hw : ws i = x :: L) (hL : L.length ≤ 900) (hx : (Lit.int .i64 x.1).wf = true) (hNm : N < maxLen) :
    Calls Try.prog 40 #[.pointer (some ⟨g, 0, none⟩), .int .i64 (i : Int)] w fun e w' => (∃ A c rv, e = .returned (.slice A 1 c) ∧ I.RowV w' (.slice A 1 c) rv [x.1] ∧ w.heap.size ≤ rv) ∧ LV lo w' g bc bw bm (N + 1) (putN rb i (rb i)) cs (putN ws i L) (put (put os i none) i (some x.1)) ∧ Lx bw bm cs.length rb (putN rb i (rb i)) w w' := by
  have HNM := Lib.hid hNm
  have HWF := Lib.hid hx
  have HW := Lib.hid hw
  clear hNm hx
  have H := Lib.hid h
  have HI := Lib.hid hi
  obtain ⟨D, hown, hD⟩ := h.mp
  have HD := Lib.hid hD
  have hk : (Lit.int .i64 (i : Int)).wf = true := WalkArith.wf_i64 (by omega)
  have hkey := keyOf_int_mk Try.underlying3 hk
  obtain ⟨v, rx, cw, k1, k2, k3, k4, _⟩ := h.row hi
  have hi0 : (0 : Int) ≤ (i : Int) := by omega
  have hiI : (i : Int) < (cs.length : Int) := by omega
  obtain ⟨n, hn⟩ : ∃ n, cs.length = n := ⟨_, rfl⟩
  have HN := Lib.hid hn
  rw [hn] at hiI
  clear h k1 k2 k3 hD
  go_enter Try.func40, Try.ntmps40
  go_wp2_with (first
    | (at_delete; refine wpList_delete_own _ rfl _ _ 64 3 rfl 3 law3 Try.underlying64 _ bm N D rfl hown _ _ rfl hkey ?_; intro w1 hown1 hturn1
       have h1 := H.out.owner hturn1 (del_map hown1 HD.out)
       have H1 := Lib.hid h1.1
       have X1 := Lib.hid h1.2
       clear hown hown1 hturn1 h1
       obtain ⟨v, rx, cw, k1, k2, k3, k4, b3, n1, n2, n3, d3⟩ := H1.out.row HI.out
       rw [hw] at b3 d3
       have HDD : Hid (rx = rb i ∧ rb i ≠ bw) := by
         rcases d3 with d | d
         · exact d
         · exact absurd d.2 (by simp)
       have HNN : Hid (rx ≠ g ∧ rx ≠ bw ∧ rx ≠ bm) := ⟨n1, n2, n3⟩
       have HRX := Lib.hid (RowV.pos b3 (by simp))
       obtain ⟨⟨cap, hv⟩, e0, _⟩ := b3.cells 0 (by simp)
       subst hv
       have e0 : w1.cell? ⟨rx, 0, none⟩ = some (.int .i64 x.1) := e0
       obtain ⟨m, hm⟩ : ∃ m, (x :: L).length = m := ⟨_, rfl⟩
       have hm0 : (0 : Int) < (m : Int) := by rw [← hm]; simp
       have hm1 : ¬ m = 0 := by rw [← hm]; simp
       have hm2 : 0 < m := by omega
       have DE := Lib.hid (W.delete_any (.slice (some ⟨rx, 0, none⟩) (x :: L).length cap) rx 0 1 (x :: L) w1.drew (b3.keep (.inr rfl)) (by omega) (by simp) (by simp; omega))
       have DE : Hid (Calls Try.prog 42 #[.slice (some ⟨rx, 0, none⟩) m cap, .int .i64 0, .int .i64 1] w1.drew fun e w' => ∃ v', e = .returned v' ∧ W.RowV w' v' rx L ∧ Past rx w1.drew w') := by rw [← hm]; exact DE.out
       rw [hm] at k1
       rw [HN.out] at k3
       clear b3 d3 n1 n2 n3 k4 hm)
    | fail)
  refine wp_region_held_drew (S := (fun w' => w'.cell? ⟨g, 1, none⟩ = some (.slice (some ⟨bw, 0, none⟩) n cw))) (by kernel_rfl) ?_ (fun hHeld => ?_)
  · exact k3
  refine takeD (i := 0) (d := some 26) (v := ?_) _ rfl rfl (by kernel_rfl) (by kernel_rfl) (by kernel_rfl) (fun _ _ _ h => h) (by rfl) ?_ (by assumption) ?_
  rotate_left
  · (intro w hSw; (try dsimp only at hSw); go_simp) <;> with_reducible rfl
  try simp only [Act.put, List.setIfInBounds_toArray, List.set_cons_zero, List.set_cons_succ]
  refine takeD (i := 1) (d := some 27) (v := ?_) _ rfl rfl (by kernel_rfl) (by kernel_rfl) (by kernel_rfl) (fun _ _ _ h => h) (by rfl) ?_ (by assumption) ?_
  rotate_left
  · (intro w hSw; (try dsimp only at hSw); go_simp) <;> with_reducible rfl
  try simp only [Act.put, List.setIfInBounds_toArray, List.set_cons_zero, List.set_cons_succ]
  refine takeD (i := 2) (d := some 28) (v := ?_) _ rfl rfl (by kernel_rfl) (by kernel_rfl) (by kernel_rfl) (fun _ _ _ h => h) (by rfl) ?_ (by assumption) ?_
  rotate_left
  · (intro w hSw; (try dsimp only at hSw); go_simp) <;> with_reducible rfl
  try simp only [Act.put, List.setIfInBounds_toArray, List.set_cons_zero, List.set_cons_succ]
  refine takeD (i := 3) (d := some 29) (v := ?_) _ rfl rfl (by kernel_rfl) (by kernel_rfl) (by kernel_rfl) (fun _ _ _ h => h) (by rfl) ?_ (by assumption) ?_
  rotate_left
  · (intro w hSw; (try dsimp only at hSw); go_simp) <;> with_reducible rfl
  try simp only [Act.put, List.setIfInBounds_toArray, List.set_cons_zero, List.set_cons_succ]
  refine takeD (i := 4) (d := some 30) (v := ?_) _ rfl rfl (by kernel_rfl) (by kernel_rfl) (by kernel_rfl) (fun _ _ _ h => h) (by rfl) ?_ (by assumption) ?_
  rotate_left
  · (intro w hSw; (try dsimp only at hSw); go_simp) <;> with_reducible rfl
  try simp only [Act.put, List.setIfInBounds_toArray, List.set_cons_zero, List.set_cons_succ]
  refine takeD (i := 5) (d := some 31) (v := ?_) _ rfl rfl (by kernel_rfl) (by kernel_rfl) (by kernel_rfl) (fun _ _ _ h => h) (by rfl) ?_ (by assumption) ?_
  rotate_left
  · (intro w hSw; (try dsimp only at hSw); go_simp) <;> with_reducible rfl
  try simp only [Act.put, List.setIfInBounds_toArray, List.set_cons_zero, List.set_cons_succ]
  refine wpAnyH_ready (rs := [6]) (by kernel_rfl) (by simp) ?_
  refine AllReadyH.cons rfl (fun K hK => ?_) AllReadyH.nil
  try go_simp
  go_at_call 42
  refine DE.out.mono ?_
  rintro e w9 ⟨v9, rfl, i1, i3⟩
  have I1 := Lib.hid i1
  have I3 := Lib.hid i3
  have C9 : Hid (w9.cell? ⟨g, 1, none⟩ = some (.slice (some ⟨bw, 0, none⟩) n cw)) := cell_past i3 (World.block_lt_of_cell? _ _ hHeld) (fun e => HNN.out.1 e.symm) hHeld
  clear i1 i3
  try go_wp2_with fail
  refine hK.out _ _ ?_ (fun hHeld => ?_)
  · exact C9.out
  clear hK K
  try simp only [Act.put, List.setIfInBounds_toArray, List.set_cons_zero, List.set_cons_succ]
  refine takeD (i := 7) (d := some 33) (v := ?_) _ rfl rfl (by kernel_rfl) (by kernel_rfl) (by kernel_rfl) (fun _ _ _ h => h) (by rfl) ?_ (by assumption) ?_
  rotate_left
  · (intro w hSw; (try dsimp only at hSw); go_simp) <;> with_reducible rfl
  try simp only [Act.put, List.setIfInBounds_toArray, List.set_cons_zero, List.set_cons_succ]
  obtain ⟨vs9, z1, z2, z3⟩ := (H1.out.below (Below.refl _ _).drew).ls
  have hw9 : bw < w1.drew.heap.size := H1.out.lt.2.1
  have g9 := (I3.out.block bw hw9 (fun e => HNN.out.2.1 e.symm)).trans z2
  obtain ⟨vz, z4, _⟩ := z3 i HI.out
  have k9 : w9.cell? ⟨bw, i, none⟩ = some vz := by rw [(row_cell g9 i).1]; exact z4
  have f9 : w9.frozen? ⟨bw, i, none⟩ = false := (row_cell g9 i).2
  have hlt9 : rx < w9.heap.size := by have h1 := I3.out.size; have h2 := HRX.out; have h3 : w1.drew.heap.size = w1.heap.size := rfl; omega
  have Q := Lib.hid (H1.out.put HI.out (Below.refl _ _).drew (.inl HDD.out) I3.out I1.out (.inl rfl) hlt9)
  obtain ⟨A9, n9, hv9⟩ := slice_form I1.out.own
  subst hv9
  have C10 : Hid ((w9.setCell ⟨bw, i, none⟩ (.slice A9 L.length n9)).cell? ⟨g, 1, none⟩ = some (.slice (some ⟨bw, 0, none⟩) n cw)) := (World.cell?_of_block (set_far _ _ H1.out.ap.1)).trans C9.out
  clear g9 z1 z2 z3 z4 hw9 hlt9 DE
  refine wpAnyH_ready (rs := [8]) (by kernel_rfl) (by simp) ?_
  refine AllReadyH.cons rfl (fun K hK => ?_) AllReadyH.nil
  try go_simp
  refine hK.out _ _ ?_ (fun hHeld => ?_)
  · exact C10.out
  clear hK K
  try simp only [Act.put, List.setIfInBounds_toArray, List.set_cons_zero, List.set_cons_succ]
  refine wpAnyH_done (by kernel_rfl) ?_ _
  obtain ⟨wA, hwA⟩ : ∃ wA, w9.setCell ⟨bw, i, none⟩ (.slice A9 L.length n9) = wA := ⟨_, rfl⟩
  rw [hwA] at Q ⊢
  clear k9 f9 hHeld hwA
  obtain ⟨D2, hown2, hD2⟩ := Q.out.1.mp
  have HD2 := Lib.hid hD2
  obtain ⟨vA, rA, cA, kA1, kA2, kA3, kA4, _⟩ := Q.out.1.row HI.out
  clear kA1 kA2 kA3 hD2
  go_wp2_with (first | (at_mapUpdate; refine wpList_mapUpdate_in _ rfl _ _ _ 64 rfl 3 3 law3 Try.underlying64 _ bm N D2 rfl hown2 HNM.out _ _ _ rfl rfl hkey _ [] (plainElem_int Try.underlying3 HWF.out) ?_; intro w5 hown5 hturn5) | fail)
  have h5 := Q.out.1.owner hturn5 (put_map hk hown2.isMap hown5 HD2.out)
  have H5 := Lib.hid h5.1
  have X5 := Lib.hid h5.2
  clear hown2 hown5 hturn5 h5
  have hrx := HDD.out.1
  subst hrx
  have hb6 : Below w5.heap.size w5 (w5.alloc (.cells #[.int .i64 x.1] 3)) := (Below.refl _ _).alloc (Nat.le_refl _) _
  have hXX := ((X1.out.trans Q.out.2).trans X5.out).trans (Lx.of_below hb6)
  have hsz : w.heap.size ≤ w5.heap.size := ((X1.out.trans Q.out.2).trans X5.out).size
  go_ret
  exact ⟨⟨some ⟨w5.heap.size, 0, none⟩, 1, w5.heap.size, rfl, I.RowV.mk' (L := [x.1]) (heap_alloc_new _ _) (by simp) (by unfold maxLen; omega) rfl rfl, hsz⟩, H5.out.below hb6, hXX⟩
end Go.Proofs.Ytbnnpfhgpbaedaa.K
