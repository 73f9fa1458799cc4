/-
  The contract of the reference's Open. Each statement bears its own conditions.
-/
import Derived.Test.YthcegmijphbhgaaDoorRefSum
import Derived.Test.YthcegmijphbhgaaDoorOf
import Derived.Test.YthcegmijphbhgaaDoorPutsLaw
namespace Go.Proofs.YthcegmijphbhgaaDoor
open Go.RowKit
set_option linter.unusedSimpArgs false
set_option linter.unusedVariables false
theorem ropen_short (A : Option Addr) (n c : Nat) (w : World) (hn : n < 4) :
    Calls Tryd.prog 34 #[.slice A n c] w fun e w' => e = .returned (.tuple #[.slice none 0 0, .int .i64 4]) ∧ Below w.heap.size w w' := by
  go_enter Tryd.func34, Tryd.ntmps34
  go_wp2_with fail
  go_ret2
  exact ⟨rfl, Below.refl _ _⟩

theorem ropen_bad (b off n k c : Nat) (back front : List Int) (w : World) (hk : n = k + 4) (hn' : n ≤ 1048576) (hc : n ≤ c)
    (R1 : Reads w w.heap.size 1 (some ⟨b, off + k, none⟩) 4 (U back)) (R2 : Reads w w.heap.size 1 (some ⟨b, off, none⟩) k (U front)) (y1 : Bytes back) (y2 : Bytes front) (hne : wordV back ≠ sumV front) :
    Calls Tryd.prog 34 #[.slice (some ⟨b, off, none⟩) n c] w fun e w' => e = .returned (.tuple #[.slice none 0 0, .int .i64 5]) ∧ Below w.heap.size w w' := by
  have nk : (n : Int) - 4 = (k : Int) := by omega
  have k0 : (0 : Int) ≤ (k : Int) := by omega
  have kn : (k : Int) ≤ (n : Int) := by omega
  have kc : (k : Int) ≤ (c : Int) := by omega
  have nk' : n - k = 4 := by omega
  have ck : ¬ c = k := by omega
  have k4 : ¬ (k : Int) < 0 := by omega
  have wk : wrap64 (k : Int) = (k : Int) := by unfold wrap64; omega
  have T := Lib.hid fun (W : World) (c : Nat) (h : Below w.heap.size w W) => of_any _ 4 c back W _ (R1.below h) (by omega) y1
  have S := Lib.hid fun (W : World) (c : Nat) (h : Below w.heap.size w W) => rsum_any _ k c front W _ (R2.below h) y2 (by omega)
  clear R1 R2 hk hn' hc
  obtain ⟨p, hp⟩ : ∃ p, wordV back = p := ⟨_, rfl⟩
  obtain ⟨q, hq⟩ : ∃ q, sumV front = q := ⟨_, rfl⟩
  rw [hp] at hne T
  rw [hq] at hne S
  have hne' : (p != q) = true := by simp [hne]
  go_enter Tryd.func34, Tryd.ntmps34
  go_wp2_with fail
  refine wp_region_held_drew (S := (fun w' => Below w.heap.size w w')) (by kernel_rfl) ?_ (fun hHeld => ?_)
  · exact (Below.refl _ _).drew
  refine takeD (i := 0) (d := some 11) (v := ?_) _ rfl rfl (by kernel_rfl) (by kernel_rfl) (by kernel_rfl) (fun _ _ _ h => h) (by rfl) ?_ (by assumption) ?_
  rotate_left
  · (intro w hSw; (try dsimp only at hSw); go_simp) <;> with_reducible rfl
  try simp only [Act.put, List.setIfInBounds_toArray, List.set_cons_zero, List.set_cons_succ]
  refine takeD (i := 1) (d := some 12) (v := ?_) _ rfl rfl (by kernel_rfl) (by kernel_rfl) (by kernel_rfl) (fun _ _ _ h => h) (by rfl) ?_ (by assumption) ?_
  rotate_left
  · (intro w hSw; (try dsimp only at hSw); go_simp) <;> with_reducible rfl
  try simp only [Act.put, List.setIfInBounds_toArray, List.set_cons_zero, List.set_cons_succ]
  refine takeD (i := 2) (d := some 13) (v := ?_) _ rfl rfl (by kernel_rfl) (by kernel_rfl) (by kernel_rfl) (fun _ _ _ h => h) (by rfl) ?_ (by assumption) ?_
  rotate_left
  · (intro w hSw; (try dsimp only at hSw); go_simp) <;> with_reducible rfl
  try simp only [Act.put, List.setIfInBounds_toArray, List.set_cons_zero, List.set_cons_succ]
  refine takeD (i := 4) (d := some 15) (v := ?_) _ rfl rfl (by kernel_rfl) (by kernel_rfl) (by kernel_rfl) (fun _ _ _ h => h) (by rfl) ?_ (by assumption) ?_
  rotate_left
  · (intro w hSw; (try dsimp only at hSw); go_simp) <;> with_reducible rfl
  try simp only [Act.put, List.setIfInBounds_toArray, List.set_cons_zero, List.set_cons_succ]
  refine takeD (i := 5) (d := some 16) (v := ?_) _ rfl rfl (by kernel_rfl) (by kernel_rfl) (by kernel_rfl) (fun _ _ _ h => h) (by rfl) ?_ (by assumption) ?_
  rotate_left
  · (intro w hSw; (try dsimp only at hSw); go_simp) <;> with_reducible rfl
  try simp only [Act.put, List.setIfInBounds_toArray, List.set_cons_zero, List.set_cons_succ]
  refine takeD (i := 6) (d := some 17) (v := ?_) _ rfl rfl (by kernel_rfl) (by kernel_rfl) (by kernel_rfl) (fun _ _ _ h => h) (by rfl) ?_ (by assumption) ?_
  rotate_left
  · (intro w hSw; (try dsimp only at hSw); go_simp) <;> with_reducible rfl
  try simp only [Act.put, List.setIfInBounds_toArray, List.set_cons_zero, List.set_cons_succ]
  refine wpAnyH_ready (rs := [3]) (by kernel_rfl) (by simp) ?_
  refine AllReadyH.cons rfl (fun K hK => ?_) AllReadyH.nil
  (go_simp; go_at_call 22; refine (T.out _ _ (by assumption)).mono ?_; rintro e w1 ⟨rfl, hb⟩; try go_wp2_with fail)
  refine hK.out _ _ ?_ (fun hHeld => ?_)
  · exact Below.trans (by assumption) (hb.mono (Below.size (by assumption)))
  clear hK K
  try simp only [Act.put, List.setIfInBounds_toArray, List.set_cons_zero, List.set_cons_succ]
  refine wpAnyH_ready (rs := [7]) (by kernel_rfl) (by simp) ?_
  refine AllReadyH.cons rfl (fun K hK => ?_) AllReadyH.nil
  (go_simp; go_at_call 32; refine (S.out _ _ (by assumption)).mono ?_; rintro e w2 ⟨rfl, hb⟩; try go_wp2_with fail)
  refine hK.out _ _ ?_ (fun hHeld => ?_)
  · exact Below.trans (by assumption) (hb.mono (Below.size (by assumption)))
  clear hK K
  try simp only [Act.put, List.setIfInBounds_toArray, List.set_cons_zero, List.set_cons_succ]
  refine takeD (i := 8) (d := some 19) (v := ?_) _ rfl rfl (by kernel_rfl) (by kernel_rfl) (by kernel_rfl) (fun _ _ _ h => h) (by rfl) ?_ (by assumption) ?_
  rotate_left
  · (intro w hSw; (try dsimp only at hSw); go_simp) <;> with_reducible rfl
  try simp only [Act.put, List.setIfInBounds_toArray, List.set_cons_zero, List.set_cons_succ]
  refine wpAnyH_done (by kernel_rfl) ?_ _
  go_wp2_with fail
  go_ret2
  exact ⟨rfl, by assumption⟩
theorem ropen_good (b off n k c : Nat) (back front : List Int) (w : World) (hk : n = k + 4) (hn' : n ≤ 1048576) (hc : n ≤ c)
    (R1 : Reads w w.heap.size 1 (some ⟨b, off + k, none⟩) 4 (U back)) (R2 : Reads w w.heap.size 1 (some ⟨b, off, none⟩) k (U front)) (y1 : Bytes back) (y2 : Bytes front) (hne : wordV back = sumV front) :
    Calls Tryd.prog 34 #[.slice (some ⟨b, off, none⟩) n c] w fun e w' => ∃ A c', e = .returned (.tuple #[.slice A k c', .int .i64 0]) ∧ w'.ownsRow w.heap.size 5 1 (.slice A k c') k (U front) ∧ Below w.heap.size w w' := by
  obtain ⟨i0, hi, hz0, hz1, hz2⟩ := info_parts byte_info
  have nk : (n : Int) - 4 = (k : Int) := by omega
  have k0 : (0 : Int) ≤ (k : Int) := by omega
  have kn : (k : Int) ≤ (n : Int) := by omega
  have kc : (k : Int) ≤ (c : Int) := by omega
  have nk' : n - k = 4 := by omega
  have ck : ¬ c = k := by omega
  have k4 : ¬ (k : Int) < 0 := by omega
  have wk : wrap64 (k : Int) = (k : Int) := by unfold wrap64; omega
  have T := Lib.hid fun (W : World) (c : Nat) (h : Below w.heap.size w W) => of_any _ 4 c back W _ (R1.below h) (by omega) y1
  have S := Lib.hid fun (W : World) (c : Nat) (h : Below w.heap.size w W) => rsum_any _ k c front W _ (R2.below h) y2 (by omega)
  have kb : k ≤ 1048576 := by omega
  have RF := Lib.hid R2
  clear R1 R2 hk hn' hc
  obtain ⟨p, hp⟩ : ∃ p, wordV back = p := ⟨_, rfl⟩
  obtain ⟨q, hq⟩ : ∃ q, sumV front = q := ⟨_, rfl⟩
  rw [hp] at hne T
  rw [hq] at hne S
  subst hne
  go_enter Tryd.func34, Tryd.ntmps34
  go_wp2_with fail
  refine wp_region_held_drew (S := (fun w' => Below w.heap.size w w')) (by kernel_rfl) ?_ (fun hHeld => ?_)
  · exact (Below.refl _ _).drew
  refine takeD (i := 0) (d := some 11) (v := ?_) _ rfl rfl (by kernel_rfl) (by kernel_rfl) (by kernel_rfl) (fun _ _ _ h => h) (by rfl) ?_ (by assumption) ?_
  rotate_left
  · (intro w hSw; (try dsimp only at hSw); go_simp) <;> with_reducible rfl
  try simp only [Act.put, List.setIfInBounds_toArray, List.set_cons_zero, List.set_cons_succ]
  refine takeD (i := 1) (d := some 12) (v := ?_) _ rfl rfl (by kernel_rfl) (by kernel_rfl) (by kernel_rfl) (fun _ _ _ h => h) (by rfl) ?_ (by assumption) ?_
  rotate_left
  · (intro w hSw; (try dsimp only at hSw); go_simp) <;> with_reducible rfl
  try simp only [Act.put, List.setIfInBounds_toArray, List.set_cons_zero, List.set_cons_succ]
  refine takeD (i := 2) (d := some 13) (v := ?_) _ rfl rfl (by kernel_rfl) (by kernel_rfl) (by kernel_rfl) (fun _ _ _ h => h) (by rfl) ?_ (by assumption) ?_
  rotate_left
  · (intro w hSw; (try dsimp only at hSw); go_simp) <;> with_reducible rfl
  try simp only [Act.put, List.setIfInBounds_toArray, List.set_cons_zero, List.set_cons_succ]
  refine takeD (i := 4) (d := some 15) (v := ?_) _ rfl rfl (by kernel_rfl) (by kernel_rfl) (by kernel_rfl) (fun _ _ _ h => h) (by rfl) ?_ (by assumption) ?_
  rotate_left
  · (intro w hSw; (try dsimp only at hSw); go_simp) <;> with_reducible rfl
  try simp only [Act.put, List.setIfInBounds_toArray, List.set_cons_zero, List.set_cons_succ]
  refine takeD (i := 5) (d := some 16) (v := ?_) _ rfl rfl (by kernel_rfl) (by kernel_rfl) (by kernel_rfl) (fun _ _ _ h => h) (by rfl) ?_ (by assumption) ?_
  rotate_left
  · (intro w hSw; (try dsimp only at hSw); go_simp) <;> with_reducible rfl
  try simp only [Act.put, List.setIfInBounds_toArray, List.set_cons_zero, List.set_cons_succ]
  refine takeD (i := 6) (d := some 17) (v := ?_) _ rfl rfl (by kernel_rfl) (by kernel_rfl) (by kernel_rfl) (fun _ _ _ h => h) (by rfl) ?_ (by assumption) ?_
  rotate_left
  · (intro w hSw; (try dsimp only at hSw); go_simp) <;> with_reducible rfl
  try simp only [Act.put, List.setIfInBounds_toArray, List.set_cons_zero, List.set_cons_succ]
  refine wpAnyH_ready (rs := [3]) (by kernel_rfl) (by simp) ?_
  refine AllReadyH.cons rfl (fun K hK => ?_) AllReadyH.nil
  (go_simp; go_at_call 22; refine (T.out _ _ (by assumption)).mono ?_; rintro e w1 ⟨rfl, hb⟩; try go_wp2_with fail)
  refine hK.out _ _ ?_ (fun hHeld => ?_)
  · exact Below.trans (by assumption) (hb.mono (Below.size (by assumption)))
  clear hK K
  try simp only [Act.put, List.setIfInBounds_toArray, List.set_cons_zero, List.set_cons_succ]
  refine wpAnyH_ready (rs := [7]) (by kernel_rfl) (by simp) ?_
  refine AllReadyH.cons rfl (fun K hK => ?_) AllReadyH.nil
  (go_simp; go_at_call 32; refine (S.out _ _ (by assumption)).mono ?_; rintro e w2 ⟨rfl, hb⟩; try go_wp2_with fail)
  refine hK.out _ _ ?_ (fun hHeld => ?_)
  · exact Below.trans (by assumption) (hb.mono (Below.size (by assumption)))
  clear hK K
  try simp only [Act.put, List.setIfInBounds_toArray, List.set_cons_zero, List.set_cons_succ]
  refine takeD (i := 8) (d := some 19) (v := ?_) _ rfl rfl (by kernel_rfl) (by kernel_rfl) (by kernel_rfl) (fun _ _ _ h => h) (by rfl) ?_ (by assumption) ?_
  rotate_left
  · (intro w hSw; (try dsimp only at hSw); go_simp) <;> with_reducible rfl
  try simp only [Act.put, List.setIfInBounds_toArray, List.set_cons_zero, List.set_cons_succ]
  refine wpAnyH_done (by kernel_rfl) ?_ _
  have HB : Below w.heap.size w w2 := by assumption
  have HZ := HB.size
  go_wp2_with (at_builtin; refine wpList_append_any _ rfl (.tmp 20) (.tmp 23) _ rfl w.heap.size 5 i0 _ 1 1 Tryd.underlying22 hi hz0 hz1 hz2 rfl (by omega) (.slice (some ⟨w2.heap.size, 0, none⟩) 0 0) 0 (U []) rfl (own_new0 w.heap.size w2 HZ) w.heap.size (some ⟨b, off, none⟩) k c (U front) rfl (RF.out.below (HB.alloc HZ _)) (U_one _) ?c2 ?c3 ?c4 ?_)
  case c2 => unfold maxLen; omega
  case c3 => omega
  case c4 => first | (simp; done) | (simp; omega) | omega
  intro v3 w3 hown3 hg3 _
  have hown3' : w3.ownsRow w.heap.size 5 1 v3 k (U front) := by simpa using hown3
  obtain ⟨A3, c3, hv, ho3, hb3⟩ := own_of (own_new0 w.heap.size w2 HZ) (HB.alloc HZ _) (by first | (simp; done) | (simp; omega) | omega) hown3' hg3
  rw [hv]
  clear hv hown3 hown3' hg3
  go_wp2_with fail
  go_ret2
  exact ⟨A3, c3, rfl, ho3, hb3⟩
theorem ropen_any (A : Option Addr) (n c : Nat) (l : List Int) (w : World) (h : Reads w w.heap.size 1 A n (U l)) (hy : Bytes l) (hn : n ≤ 1048576) (hc : n ≤ c) :
    Calls Tryd.prog 34 #[.slice A n c] w fun e w' => ∃ A' c', e = .returned (.tuple #[.slice A' (openL l).length c', .int .i64 (openE l)]) ∧ w'.ownsRow w.heap.size 5 1 (.slice A' (openL l).length c') (openL l).length (U (openL l)) ∧ Below w.heap.size w w' := by
  have hlen : l.length = n := by have := h.1; simpa using this
  by_cases h4 : n < 4
  · have e1 : openE l = 4 := by unfold openE; rw [if_pos (by omega)]
    have e2 : openL l = [] := by unfold openL; rw [if_neg (by omega)]
    rw [e1, e2]
    refine (ropen_short A n c w h4).mono ?_
    rintro e w1 ⟨rfl, hb⟩
    exact ⟨none, 0, rfl, ⟨by simp, .inl ⟨rfl, rfl⟩⟩, hb⟩
  · obtain ⟨b, off, rfl, _, _, _⟩ := place_of h (by omega)
    have R1 := h.back (n - 4) (by omega)
    have R2 := h.front (n - 4) (by omega)
    rw [show n - (n - 4) = 4 by omega] at R1
    by_cases he : wordV (l.drop (n - 4)) = sumV (l.take (n - 4))
    · have e1 : openE l = 0 := by unfold openE; rw [if_neg (by omega), hlen, if_pos he]
      have e2 : openL l = l.take (n - 4) := by unfold openL; rw [if_pos e1, hlen]
      have e3 : (l.take (n - 4)).length = n - 4 := by simp; omega
      rw [e1, e2, e3]
      exact ropen_good b off n (n - 4) c _ _ w (by omega) hn hc R1 R2 (bytes_drop hy _) (bytes_take hy _) he
    · have e1 : openE l = 5 := by unfold openE; rw [if_neg (by omega), hlen, if_neg he]
      have e2 : openL l = [] := by unfold openL; rw [if_neg (by omega)]
      rw [e1, e2]
      refine (ropen_bad b off n (n - 4) c _ _ w (by omega) hn hc R1 R2 (bytes_drop hy _) (bytes_take hy _) he).mono ?_
      rintro e w1 ⟨rfl, hb⟩
      exact ⟨none, 0, rfl, ⟨by simp, .inl ⟨rfl, rfl⟩⟩, hb⟩
end Go.Proofs.YthcegmijphbhgaaDoor
