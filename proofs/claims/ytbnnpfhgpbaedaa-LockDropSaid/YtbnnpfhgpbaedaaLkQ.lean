/-
  Locks: Leave, of one who waits. Each statement bears its own conditions.
-/
import Derived.Test.YtbnnpfhgpbaedaaLkD
namespace Go.Proofs.Ytbnnpfhgpbaedaa.K
open Go.RowKit Go.Maps
set_option linter.unusedVariables false
set_option linter.unusedSimpArgs false
set_option maxRecDepth 100000 in
set_option maxHeartbeats 4000000 in
theorem leave_some (lo g bc bw bm N : Nat) (rb : Nat → Nat) (cs : List Int) (ws : Nat → List (Int × Int)) (os : Int → Option Int) (id : Int) (w : World) (h : LV lo w g bc bw bm N rb cs ws os) (hn : cs.length ≤ 16) (hl : ∀ i, i < cs.length → (ws i).length ≤ 900) (hq : ¬ NoId ws cs.length id) :
    Calls Try.prog 19 #[.pointer (some ⟨g, 0, none⟩), .int .i64 id] w fun e w' => e = .returned (.bool true) ∧ ∃ i j, FindR ws cs.length id i j true ∧ LV lo w' g bc bw bm N (putN rb i (rb i)) cs (putN ws i ((ws i).take j ++ (ws i).drop (j + 1))) os ∧ Lx bw bm cs.length rb (putN rb i (rb i)) w w' := by
  have FI := Lib.hid (find_any lo g bc bw bm N rb cs ws os id w h hn (fun i hi => by have := hl i hi; omega))
  have H := Lib.hid h
  have HQ := Lib.hid hq
  have HL := Lib.hid hl
  have HN16 := Lib.hid hn
  clear h hn hl hq
  go_enter Try.func19, Try.ntmps19
  go_wp2_with fail
  refine FI.out.mono ?_
  rintro e w1 ⟨i, j, b, rfl, f1, b1⟩
  have hb : b = true := by rw [f1.no]; simp [HQ.out]
  subst hb
  have H1 := Lib.hid (H.out.below b1)
  have X1 : Hid (Lx bw bm cs.length rb rb w w1) := Lx.of_below b1
  have HFF := Lib.hid f1
  obtain ⟨hin, hjl⟩ : i < cs.length ∧ j < (ws i).length := by
    rcases f1 with ⟨hb, _⟩ | ⟨_, h1, h2, _⟩
    · cases hb
    · exact ⟨h1, h2⟩
  have HI := Lib.hid hin
  have hlen := HL.out i hin
  have h16 := HN16.out
  obtain ⟨v, rx, cw, k1, _, k3, k4, b3, n1, n2, n3, d3⟩ := H1.out.row hin
  have HDD : Hid (rx = rb i ∧ rb i ≠ bw) := by
    rcases d3 with d | d
    · exact d
    · rw [d.2] at hjl; simp at hjl
  have HNN : Hid (rx ≠ g ∧ rx ≠ bw ∧ rx ≠ bm) := ⟨n1, n2, n3⟩
  have HRX := Lib.hid (RowV.pos b3 (fun e => by rw [e] at hjl; simp at hjl))
  have DE := W.delete_any v rx j (j + 1) (ws i) w1.drew (b3.keep (.inr rfl)) (by omega) (by omega) (by omega)
  rw [Int.natCast_add, Int.natCast_one] at DE
  obtain ⟨A, cc, hv⟩ := slice_form b3.own
  subst hv
  obtain ⟨m, hm⟩ : ∃ m, (ws i).length = m := ⟨_, rfl⟩
  obtain ⟨n, hnn⟩ : ∃ n, cs.length = n := ⟨_, rfl⟩
  rw [hm] at k1 DE hjl hlen
  rw [hnn] at k3
  have hi0 : (0 : Int) ≤ (i : Int) := by omega
  have hiI : (i : Int) < (n : Int) := by omega
  have HWJ : Hid (IntKind.i64.wrap ((j : Int) + 1) = (j : Int) + 1) := wrap_ok (by omega) (by omega)
  have DE := Lib.hid DE
  clear b1 f1 FI b3 d3 n1 n2 n3 k4 hm hnn hin hjl hlen h16
  go_wp2_with fail
  refine wp_region_held_drew (S := (fun w' => w'.cell? ⟨g, 1, none⟩ = some (.slice (some ⟨bw, 0, none⟩) n cw))) (by kernel_rfl) ?_ (fun hHeld => ?_)
  · exact k3
  generalize hyy : w1.drew = y at DE hHeld ⊢
  have k1 : y.cell? ⟨bw, i, none⟩ = some (.slice A m cc) := by rw [← hyy]; exact k1
  have HYY := Lib.hid hyy
  clear hyy
  refine takeD (i := 0) (d := some 16) (v := ?_) _ rfl rfl (by kernel_rfl) (by kernel_rfl) (by kernel_rfl) (fun _ _ _ h => h) (by rfl) ?_ (by assumption) ?_
  rotate_left
  · (intro w hSw; (try dsimp only at hSw); go_simp) <;> with_reducible rfl
  try simp only [Act.put, List.setIfInBounds_toArray, List.set_cons_zero, List.set_cons_succ]
  refine takeD (i := 1) (d := some 17) (v := ?_) _ rfl rfl (by kernel_rfl) (by kernel_rfl) (by kernel_rfl) (fun _ _ _ h => h) (by rfl) ?_ (by assumption) ?_
  rotate_left
  · (intro w hSw; (try dsimp only at hSw); go_simp) <;> with_reducible rfl
  try simp only [Act.put, List.setIfInBounds_toArray, List.set_cons_zero, List.set_cons_succ]
  refine takeD (i := 2) (d := some 18) (v := ?_) _ rfl rfl (by kernel_rfl) (by kernel_rfl) (by kernel_rfl) (fun _ _ _ h => h) (by rfl) ?_ (by assumption) ?_
  rotate_left
  · (intro w hSw; (try dsimp only at hSw); go_simp) <;> with_reducible rfl
  try simp only [Act.put, List.setIfInBounds_toArray, List.set_cons_zero, List.set_cons_succ]
  refine takeD (i := 3) (d := some 19) (v := ?_) _ rfl rfl (by kernel_rfl) (by kernel_rfl) (by kernel_rfl) (fun _ _ _ h => h) (by rfl) ?_ (by assumption) ?_
  rotate_left
  · (intro w hSw; (try dsimp only at hSw); go_simp) <;> with_reducible rfl
  try simp only [Act.put, List.setIfInBounds_toArray, List.set_cons_zero, List.set_cons_succ]
  refine takeD (i := 4) (d := some 20) (v := ?_) _ rfl rfl (by kernel_rfl) (by kernel_rfl) (by kernel_rfl) (fun _ _ _ h => h) (by rfl) ?_ (by assumption) ?_
  rotate_left
  · (intro w hSw; (try dsimp only at hSw); go_simp) <;> with_reducible rfl
  try simp only [Act.put, List.setIfInBounds_toArray, List.set_cons_zero, List.set_cons_succ]
  refine takeD (i := 5) (d := some 21) (v := ?_) _ rfl rfl (by kernel_rfl) (by kernel_rfl) (by kernel_rfl) (fun _ _ _ h => h) (by rfl) ?_ (by assumption) ?_
  rotate_left
  · (intro w hSw; (try dsimp only at hSw); go_simp) <;> with_reducible rfl
  try simp only [Act.put, List.setIfInBounds_toArray, List.set_cons_zero, List.set_cons_succ]
  refine takeD (i := 6) (d := some 22) (v := ?_) _ rfl rfl (by kernel_rfl) (by kernel_rfl) (by kernel_rfl) (fun _ _ _ h => h) (by rfl) ?_ (by assumption) ?_
  rotate_left
  · (intro w hSw; (try dsimp only at hSw); go_simp) <;> with_reducible rfl
  try simp only [Act.put, List.setIfInBounds_toArray, List.set_cons_zero, List.set_cons_succ]
  refine takeD (i := 7) (d := some 23) (v := ?_) _ rfl rfl (by kernel_rfl) (by kernel_rfl) (by kernel_rfl) (fun _ _ _ h => h) (by rfl) ?_ (by assumption) ?_
  rotate_left
  · (intro w hSw; (try dsimp only at hSw); go_simp) <;> with_reducible rfl
  try simp only [Act.put, List.setIfInBounds_toArray, List.set_cons_zero, List.set_cons_succ]
  refine takeD (i := 8) (d := some 24) (v := ?_) _ rfl rfl (by kernel_rfl) (by kernel_rfl) (by kernel_rfl) (fun _ _ _ h => h) (by rfl) ?_ (by assumption) ?_
  rotate_left
  · (intro w hSw; (try dsimp only at hSw); go_simp) <;> with_reducible rfl
  try simp only [Act.put, List.setIfInBounds_toArray, List.set_cons_zero, List.set_cons_succ]
  refine takeD (i := 9) (d := some 25) (v := ?_) _ rfl rfl (by kernel_rfl) (by kernel_rfl) (by kernel_rfl) (fun _ _ _ h => h) (by rfl) ?_ (by assumption) ?_
  rotate_left
  · (intro w hSw; (try dsimp only at hSw); go_simp) <;> with_reducible rfl
  try simp only [Act.put, List.setIfInBounds_toArray, List.set_cons_zero, List.set_cons_succ]
  refine takeD (i := 10) (d := some 26) (v := ?_) _ rfl rfl (by kernel_rfl) (by kernel_rfl) (by kernel_rfl) (fun _ _ _ h => h) (by rfl) ?_ (by assumption) ?_
  rotate_left
  · (intro w hSw; (try dsimp only at hSw); go_simp) <;> with_reducible rfl
  try simp only [Act.put, List.setIfInBounds_toArray, List.set_cons_zero, List.set_cons_succ]
  refine takeD (i := 12) (d := some 28) (v := ?_) _ rfl rfl (by kernel_rfl) (by kernel_rfl) (by kernel_rfl) (fun _ _ _ h => h) (by rfl) ?_ (by assumption) ?_
  rotate_left
  · (intro w hSw; (try dsimp only at hSw); go_simp) <;> with_reducible rfl
  try simp only [Act.put, List.setIfInBounds_toArray, List.set_cons_zero, List.set_cons_succ]
  refine takeD (i := 13) (d := some 29) (v := ?_) _ rfl rfl (by kernel_rfl) (by kernel_rfl) (by kernel_rfl) (fun _ _ _ h => h) (by rfl) ?_ (by assumption) ?_
  rotate_left
  · (intro w hSw; (try dsimp only at hSw); go_simp) <;> with_reducible rfl
  try simp only [Act.put, List.setIfInBounds_toArray, List.set_cons_zero, List.set_cons_succ]
  refine takeD (i := 14) (d := some 30) (v := ?_) _ rfl rfl (by kernel_rfl) (by kernel_rfl) (by kernel_rfl) (fun _ _ _ h => h) (by rfl) ?_ (by assumption) ?_
  rotate_left
  · (intro w hSw; (try dsimp only at hSw); go_simp) <;> with_reducible rfl
  try simp only [Act.put, List.setIfInBounds_toArray, List.set_cons_zero, List.set_cons_succ]
  refine wpAnyH_ready (rs := [11]) (by kernel_rfl) (by simp) ?_
  refine AllReadyH.cons rfl (fun K hK => ?_) AllReadyH.nil
  try go_simp
  refine hK.out _ _ ?_ (fun hHeld => ?_)
  · exact hHeld
  clear hK K
  try simp only [Act.put, List.setIfInBounds_toArray, List.set_cons_zero, List.set_cons_succ]
  refine wpAnyH_ready (rs := [15]) (by kernel_rfl) (by simp) ?_
  refine AllReadyH.cons rfl (fun K hK => ?_) AllReadyH.nil
  try go_simp
  rw [HWJ.out]
  go_at_call 42
  refine DE.out.mono ?_
  rintro e w9 ⟨v9, rfl, i1, i3⟩
  have I1 := Lib.hid i1
  have I3 := Lib.hid i3
  have C9 : Hid (w9.cell? ⟨g, 1, none⟩ = some (.slice (some ⟨bw, 0, none⟩) n cw) ∧ w9.cell? ⟨bw, i, none⟩ = some (.slice A m cc)) := ⟨cell_past i3 (World.block_lt_of_cell? _ _ hHeld) (fun e => HNN.out.1 e.symm) hHeld, cell_past i3 (World.block_lt_of_cell? _ _ k1) (fun e => HNN.out.2.1 e.symm) k1⟩
  clear i1 i3
  try go_wp2_with fail
  refine hK.out _ _ ?_ (fun hHeld => ?_)
  · exact C9.out.1
  clear hK K
  try simp only [Act.put, List.setIfInBounds_toArray, List.set_cons_zero, List.set_cons_succ]
  refine takeD (i := 16) (d := some 32) (v := ?_) _ rfl rfl (by kernel_rfl) (by kernel_rfl) (by kernel_rfl) (fun _ _ _ h => h) (by rfl) ?_ (by assumption) ?_
  rotate_left
  · (intro w hSw; (try dsimp only at hSw); go_simp) <;> with_reducible rfl
  try simp only [Act.put, List.setIfInBounds_toArray, List.set_cons_zero, List.set_cons_succ]
  obtain ⟨vs9, z1, z2, z3⟩ := (H1.out.below (Below.refl _ _).drew).ls
  have hw9 : bw < y.heap.size := by rw [← HYY.out]; exact H1.out.lt.2.1
  rw [HYY.out] at z2
  have g9 := (I3.out.block bw hw9 (fun e => HNN.out.2.1 e.symm)).trans z2
  have k9 := C9.out.2
  have f9 : w9.frozen? ⟨bw, i, none⟩ = false := (row_cell g9 i).2
  have hlt9 : rx < w9.heap.size := by have h1 := I3.out.size; have h2 := HRX.out; have h3 : w1.drew.heap.size = w1.heap.size := rfl; rw [HYY.out] at h3; omega
  have Q := Lib.hid (H1.out.put HI.out (Below.refl _ _).drew (.inl HDD.out) (by rw [HYY.out]; exact I3.out) I1.out (.inl rfl) hlt9)
  obtain ⟨M, hM⟩ : ∃ M, (ws i).take j ++ (ws i).drop (j + 1) = M := ⟨_, rfl⟩
  have HMM := Lib.hid hM
  have I1' := I1.out
  rw [hM] at I1' Q
  obtain ⟨A9, n9, hv9⟩ := slice_form I1'.own
  subst hv9
  have C10 : Hid ((w9.setCell ⟨bw, i, none⟩ (.slice A9 M.length n9)).cell? ⟨g, 1, none⟩ = some (.slice (some ⟨bw, 0, none⟩) n cw)) := (World.cell?_of_block (set_far _ _ H1.out.ap.1)).trans C9.out.1
  clear g9 z1 z2 z3 hw9 hlt9 DE hM I1' k1
  refine wpAnyH_ready (rs := [17]) (by kernel_rfl) (by simp) ?_
  refine AllReadyH.cons rfl (fun K hK => ?_) AllReadyH.nil
  try go_simp
  refine hK.out _ _ ?_ (fun hHeld => ?_)
  · exact C10.out
  clear hK K
  try simp only [Act.put, List.setIfInBounds_toArray, List.set_cons_zero, List.set_cons_succ]
  refine wpAnyH_done (by kernel_rfl) ?_ _
  clear k9 f9 hHeld
  go_wp2_with fail
  go_ret
  have hrx := HDD.out.1
  subst hrx
  exact ⟨rfl, i, j, HFF.out, by rw [HMM.out]; exact Q.out.1, X1.out.trans Q.out.2⟩
end Go.Proofs.Ytbnnpfhgpbaedaa.K
