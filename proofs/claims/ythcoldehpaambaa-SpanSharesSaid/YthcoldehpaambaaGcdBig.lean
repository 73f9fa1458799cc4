/-
  The contracts of the greatest common divisor: the program's, of any list whose numbers lie between -2^63+1 and 2^63-1.
-/
import Derived.Test.YthcoldehpaambaaMeet
namespace Go.Proofs.Ythcoldehpaambaa
open Go.RowKit
set_option linter.unusedSimpArgs false


theorem gcdbig_nil (a : Option Addr) (cap : Nat) (w : World) :
    Calls Try.prog 20 #[.slice a 0 cap] w fun e w' => e = .returned (.int .i64 0) ∧ Below w.heap.size w w' := by
  go_enter Try.func20, Try.ntmps20
  go_wp2
  go_loop [3, 8] (fun g i => i = .int .i64 0 ∧ g = .int .i64 0) (fun _ _ => 0)
  case atStart => exact ⟨rfl, rfl⟩
  case round =>
    obtain ⟨rfl, rfl⟩ := hrel
    go_wp2
    go_ret
    exact ⟨rfl, Below.refl _ _⟩

set_option maxHeartbeats 800000 in
theorem gcdbig_some (b off len cap : Nat) (zs : List Int) (w : World) (hl : zs.length = len) (hlen : len ≤ 9223372036854775807) (hb0 : b < w.heap.size)
    (hc : ∀ i, i < len → w.cell? ⟨b, off + i, none⟩ = some (.int .i64 (zs.getD i 0))) (hz : ∀ i, i < len → -9223372036854775807 ≤ zs.getD i 0 ∧ zs.getD i 0 ≤ 9223372036854775807) :
    Calls Try.prog 20 #[.slice (some ⟨b, off, none⟩) len cap] w fun e w' => e = .returned (.int .i64 (gl zs)) ∧ Below w.heap.size w w' := by
  have HC := Lib.hid hc
  have HZ := Lib.hid hz
  have HL := Lib.hid hl
  clear hc hz hl
  go_enter Try.func20, Try.ntmps20
  go_wp2
  go_loopw [3, 8] (fun g i wr => ∃ (k : Nat) (x : Int), k ≤ len ∧ i = .int .i64 k ∧ g = .int .i64 x ∧ Hid (x.natAbs = gl (zs.take k)) ∧ -9223372036854775807 ≤ x ∧ x ≤ 9223372036854775807 ∧ Below w.heap.size w wr) (fun _ i _ => len - (intOf i).toNat)
  case atStart => exact ⟨0, 0, Nat.zero_le _, rfl, rfl, rfl, by omega, by omega, Below.refl _ _⟩
  case round =>
    obtain ⟨k, x, hk, rfl, rfl, hx, hx1, hx2, hbel⟩ := hrel
    by_cases hlt : k < len
    · have hcell : wr.cell? ⟨b, off + k, none⟩ = some (.int .i64 (zs.getD k 0)) := (hbel.cell (by exact hb0)).trans (HC.out k hlt)
      obtain ⟨z1, z2⟩ := HZ.out k hlt
      have HN := Lib.hid (gl_next zs k (by rw [HL.out]; exact hlt))
      obtain ⟨z, Hz⟩ : ∃ z, Hid (zs.getD k 0 = z) := ⟨_, rfl⟩
      rw [Hz.out] at hcell z1 z2
      obtain ⟨wo, Hwo⟩ : ∃ wo : World, Hid (wo = wr) := ⟨_, rfl⟩
      go_wp2
      go_loopw [3, 5] (fun g n wr => ∃ (x' y : Int), g = .int .i64 x' ∧ n = .int .i64 y ∧ Hid (Nat.gcd x'.natAbs y.natAbs = Nat.gcd x.natAbs z.natAbs) ∧ -9223372036854775807 ≤ x' ∧ x' ≤ 9223372036854775807 ∧ -9223372036854775807 ≤ y ∧ y ≤ 9223372036854775807 ∧ Below w.heap.size w wr) (fun _ n _ => (intOf n).natAbs)
      case atStart => exact ⟨x, z, rfl, rfl, rfl, hx1, hx2, z1, z2, hbel⟩
      case round =>
        obtain ⟨x', y, rfl, rfl, hg, g1, g2, g3, g4, hbel2⟩ := hrel
        clear hcell hbel
        by_cases hy : y = 0
        · subst hy
          go_wp2
          go_roundw
          case rel => exact ⟨k + 1, x', by omega, by go_num, rfl, by have := hg.out; unfold Hid; rw [HN.out, ← hx.out, Hz.out, ← this]; simp, g1, g2, hbel2⟩
          case measure => simp [intOf]; omega
        · have hyb : (y == 0) = false := by simp [hy]
          have Hs := Lib.hid (gcd_step x' y)
          have Ht := Lib.hid (tmod_small x' y hy)
          go_wp2
          refine wp_region_held_drew (S := (fun w' => Below w.heap.size w w')) (by kernel_rfl) ?_ (fun hHeld => ?_)
          · exact hbel2.drew
          refine takeD (i := 0) (d := some 14) (v := ?_) _ rfl rfl (by kernel_rfl) (by kernel_rfl) (by kernel_rfl) (fun _ _ _ h => h) (by rfl) ?_ (by assumption) ?_
          rotate_left
          · (intro w hSw; (try dsimp only at hSw); go_simp) <;> with_reducible rfl
          try simp only [Act.put, List.setIfInBounds_toArray, List.set_cons_zero, List.set_cons_succ]
          refine takeD (i := 1) (d := some 15) (v := ?_) _ rfl rfl (by kernel_rfl) (by kernel_rfl) (by kernel_rfl) (fun _ _ _ h => h) (by rfl) ?_ (by assumption) ?_
          rotate_left
          · (intro w hSw; (try dsimp only at hSw); go_simp) <;> with_reducible rfl
          try simp only [Act.put, List.setIfInBounds_toArray, List.set_cons_zero, List.set_cons_succ]
          refine takeD (i := 2) (d := some 16) (v := ?_) _ rfl rfl (by kernel_rfl) (by kernel_rfl) (by kernel_rfl) (fun _ _ _ h => h) (by rfl) ?_ (by assumption) ?_
          rotate_left
          · (intro w hSw; (try dsimp only at hSw); go_simp) <;> with_reducible rfl
          try simp only [Act.put, List.setIfInBounds_toArray, List.set_cons_zero, List.set_cons_succ]
          refine takeD (i := 3) (d := some 17) (v := ?_) _ rfl rfl (by kernel_rfl) (by kernel_rfl) (by kernel_rfl) (fun _ _ _ h => h) (by rfl) ?_ (by assumption) ?_
          rotate_left
          · (intro w hSw; (try dsimp only at hSw); go_simp) <;> with_reducible rfl
          try simp only [Act.put, List.setIfInBounds_toArray, List.set_cons_zero, List.set_cons_succ]
          refine takeD (i := 4) (d := some 3) (v := ?_) _ rfl rfl (by kernel_rfl) (by kernel_rfl) (by kernel_rfl) (fun _ _ _ h => h) (by rfl) ?_ (by assumption) ?_
          rotate_left
          · (intro w hSw; (try dsimp only at hSw); go_simp) <;> with_reducible rfl
          try simp only [Act.put, List.setIfInBounds_toArray, List.set_cons_zero, List.set_cons_succ]
          refine takeD (i := 5) (d := some 5) (v := ?_) _ rfl rfl (by kernel_rfl) (by kernel_rfl) (by kernel_rfl) (fun _ _ _ h => h) (by rfl) ?_ (by assumption) ?_
          rotate_left
          · (intro w hSw; (try dsimp only at hSw); go_simp) <;> with_reducible rfl
          try simp only [Act.put, List.setIfInBounds_toArray, List.set_cons_zero, List.set_cons_succ]
          refine wpAnyH_done (by kernel_rfl) ?_ _
          go_roundw
          case rel =>
            have r1 : Hid (Nat.gcd y.natAbs (x'.tmod y).natAbs = Nat.gcd x.natAbs z.natAbs) := by unfold Hid; rw [Hs.out]; exact hg.out
            have r2 : -9223372036854775807 ≤ x'.tmod y ∧ x'.tmod y ≤ 9223372036854775807 := by have := Ht.out; omega
            first | exact ⟨y, x'.tmod y, rfl, rfl, r1, g3, g4, r2.1, r2.2, hHeld⟩ | ((repeat apply Exists.intro); exact ⟨⟨y, x'.tmod y, rfl, rfl, r1, g3, g4, r2.1, r2.2, hHeld⟩, rfl⟩)
          case measure => simp only [intOf]; exact Ht.out
    · obtain rfl : k = len := by omega
      have he : x.natAbs = gl zs := by rw [hx.out, List.take_of_length_le (by rw [HL.out]; exact Nat.le_refl _)]
      by_cases hs : x < 0
      · have hs2 : x < -x := by omega
        go_wp2
        go_ret
        exact ⟨int_ret (by rw [← he]; omega), hbel⟩
      · have hs2 : ¬ x < -x := by omega
        go_wp2
        go_ret
        exact ⟨int_ret (by rw [← he]; omega), hbel⟩

set_option maxHeartbeats 800000 in
theorem rgcdbig_any (a b : Int) (w : World) (a1 : -9223372036854775807 ≤ a) (a2 : a ≤ 9223372036854775807) (b1 : -9223372036854775807 ≤ b) (b2 : b ≤ 9223372036854775807) :
    Calls Try.prog 17 #[.int .i64 a, .int .i64 b] w fun e w' => e = .returned (.int .i64 (Nat.gcd a.natAbs b.natAbs)) ∧ Below w.heap.size w w' := by
  obtain ⟨G, HG⟩ : ∃ G : Nat, Hid (Nat.gcd a.natAbs b.natAbs = G) := ⟨_, rfl⟩
  rw [HG.out]
  by_cases ca : a < 0 <;> by_cases cb : b < 0
  all_goals
    go_enter Try.func17, Try.ntmps17
    go_wp2
    go_loopw [0, 1] (fun g n wr => ∃ (x y : Int), g = .int .i64 x ∧ n = .int .i64 y ∧ 0 ≤ x ∧ 0 ≤ y ∧ Hid (Nat.gcd x.natAbs y.natAbs = G) ∧ x ≤ 9223372036854775807 ∧ y ≤ 9223372036854775807 ∧ Below w.heap.size w wr) (fun _ n _ => (intOf n).natAbs)
    case atStart => exact ⟨_, _, rfl, rfl, by omega, by omega, by have := HG.out; unfold Hid; simpa using this, by omega, by omega, Below.refl _ _⟩
    case round =>
      obtain ⟨x, y, rfl, rfl, x0, y0, hg, x1, y1, hbel⟩ := hrel
      by_cases hy : y = 0
      · subst hy
        go_wp2
        go_ret
        exact ⟨int_ret (by have := hg.out; simp at this; omega), hbel⟩
      · have hyp : 0 < y := by omega
        have Hs := Lib.hid (gcd_step x y)
        have Ht := Lib.hid (tmod_small x y hy)
        have m1 : 0 ≤ x % y := Int.emod_nonneg _ hy
        have m2 : x % y < y := Int.emod_lt_of_pos _ hyp
        have hE : x.tmod y = x % y := tmod_pos x0
        have hq : (x % y).natAbs < y.natAbs := by omega
        go_wp2
        refine wp_region_held_drew (S := (fun w' => Below w.heap.size w w')) (by kernel_rfl) ?_ (fun hHeld => ?_)
        · exact hbel.drew
        refine takeD (i := 0) (d := some 15) (v := ?_) _ rfl rfl (by kernel_rfl) (by kernel_rfl) (by kernel_rfl) (fun _ _ _ h => h) (by rfl) ?_ (by assumption) ?_
        rotate_left
        · (intro w hSw; (try dsimp only at hSw); go_simp) <;> with_reducible rfl
        try simp only [Act.put, List.setIfInBounds_toArray, List.set_cons_zero, List.set_cons_succ]
        refine takeD (i := 1) (d := some 16) (v := ?_) _ rfl rfl (by kernel_rfl) (by kernel_rfl) (by kernel_rfl) (fun _ _ _ h => h) (by rfl) ?_ (by assumption) ?_
        rotate_left
        · (intro w hSw; (try dsimp only at hSw); go_simp) <;> with_reducible rfl
        try simp only [Act.put, List.setIfInBounds_toArray, List.set_cons_zero, List.set_cons_succ]
        refine takeD (i := 2) (d := some 17) (v := ?_) _ rfl rfl (by kernel_rfl) (by kernel_rfl) (by kernel_rfl) (fun _ _ _ h => h) (by rfl) ?_ (by assumption) ?_
        rotate_left
        · (intro w hSw; (try dsimp only at hSw); go_simp) <;> with_reducible rfl
        try simp only [Act.put, List.setIfInBounds_toArray, List.set_cons_zero, List.set_cons_succ]
        refine takeD (i := 3) (d := some 18) (v := ?_) _ rfl rfl (by kernel_rfl) (by kernel_rfl) (by kernel_rfl) (fun _ _ _ h => h) (by rfl) ?_ (by assumption) ?_
        rotate_left
        · (intro w hSw; (try dsimp only at hSw); go_simp) <;> with_reducible rfl
        try simp only [Act.put, List.setIfInBounds_toArray, List.set_cons_zero, List.set_cons_succ]
        refine takeD (i := 4) (d := some 0) (v := ?_) _ rfl rfl (by kernel_rfl) (by kernel_rfl) (by kernel_rfl) (fun _ _ _ h => h) (by rfl) ?_ (by assumption) ?_
        rotate_left
        · (intro w hSw; (try dsimp only at hSw); go_simp) <;> with_reducible rfl
        try simp only [Act.put, List.setIfInBounds_toArray, List.set_cons_zero, List.set_cons_succ]
        refine takeD (i := 5) (d := some 1) (v := ?_) _ rfl rfl (by kernel_rfl) (by kernel_rfl) (by kernel_rfl) (fun _ _ _ h => h) (by rfl) ?_ (by assumption) ?_
        rotate_left
        · (intro w hSw; (try dsimp only at hSw); go_simp) <;> with_reducible rfl
        try simp only [Act.put, List.setIfInBounds_toArray, List.set_cons_zero, List.set_cons_succ]
        refine wpAnyH_done (by kernel_rfl) ?_ _
        go_roundw
        case rel =>
          have r1 : Hid (Nat.gcd y.natAbs (x % y).natAbs = G) := by unfold Hid; have := Hs.out; rw [hE] at this; rw [this]; exact hg.out
          first | exact ⟨y, x % y, rfl, rfl, y0, m1, r1, y1, by omega, hHeld⟩ | ((repeat apply Exists.intro); exact ⟨⟨y, x % y, rfl, rfl, y0, m1, r1, y1, by omega, hHeld⟩, rfl⟩)
        case measure => simp only [intOf]; exact hq

end Go.Proofs.Ythcoldehpaambaa
