/-
  The contracts of the greatest common divisor: the program's, of any list whose numbers lie between -2^62 and 2^62, and the reference's, of two such numbers.
-/
import Derived.Test.YthcoldehpaambaaBeat3
namespace Go.Proofs.Ythcoldehpaambaa
open Go.RowKit
set_option linter.unusedSimpArgs false

/-- The greatest common divisor of a list. -/
def gl (zs : List Int) : Nat := zs.foldl (fun g z => Nat.gcd g z.natAbs) 0
theorem gl_snoc (zs : List Int) (z : Int) : gl (zs ++ [z]) = Nat.gcd (gl zs) z.natAbs := by simp [gl]
theorem take_next (zs : List Int) (k : Nat) (h : k < zs.length) : zs.take (k + 1) = zs.take k ++ [zs.getD k 0] := by
  rw [List.take_succ_eq_append_getElem h]; simp [List.getD_eq_getElem?_getD, List.getElem?_eq_getElem h]
theorem gl_next (zs : List Int) (k : Nat) (h : k < zs.length) : gl (zs.take (k + 1)) = Nat.gcd (gl (zs.take k)) (zs.getD k 0).natAbs := by rw [take_next zs k h, gl_snoc]
theorem gcd_step (x y : Int) : Nat.gcd y.natAbs (x.tmod y).natAbs = Nat.gcd x.natAbs y.natAbs := by
  rw [Int.natAbs_tmod, Nat.gcd_comm, ← Nat.gcd_rec, Nat.gcd_comm]
theorem tmod_small (x y : Int) (hy : ¬ y = 0) : (x.tmod y).natAbs < y.natAbs := by
  rw [Int.natAbs_tmod]; exact Nat.mod_lt _ (by omega)
theorem gl_zero : gl [] = 0 := rfl

theorem gcd_nil (a : Option Addr) (cap : Nat) (w : World) :
    Calls Try.prog 20 #[.slice a 0 cap] w fun e w' => e = .returned (.int .i64 0) ∧ Below w.heap.size w w' := by
  go_enter Try.func20, Try.ntmps20
  go_wp2
  go_loop [3, 8] (fun g i => i = .int .i64 0 ∧ g = .int .i64 0) (fun _ _ => 0)
  case atStart => exact ⟨rfl, rfl⟩
  case round =>
    obtain ⟨rfl, rfl⟩ := hrel
    go_wp2
    go_ret
    exact ⟨rfl, Below.refl _ _⟩

set_option maxHeartbeats 800000 in
theorem gcd_some (b off len cap : Nat) (zs : List Int) (w : World) (hl : zs.length = len) (hlen : len ≤ 4611686018427387904) (hb0 : b < w.heap.size)
    (hc : ∀ i, i < len → w.cell? ⟨b, off + i, none⟩ = some (.int .i64 (zs.getD i 0))) (hz : ∀ i, i < len → -4611686018427387904 ≤ zs.getD i 0 ∧ zs.getD i 0 ≤ 4611686018427387904) :
    Calls Try.prog 20 #[.slice (some ⟨b, off, none⟩) len cap] w fun e w' => e = .returned (.int .i64 (gl zs)) ∧ Below w.heap.size w w' := by
  have HC := Lib.hid hc
  have HZ := Lib.hid hz
  have HL := Lib.hid hl
  clear hc hz hl
  go_enter Try.func20, Try.ntmps20
  go_wp2
  go_loopw [3, 8] (fun g i wr => ∃ (k : Nat) (x : Int), k ≤ len ∧ i = .int .i64 k ∧ g = .int .i64 x ∧ Hid (x.natAbs = gl (zs.take k)) ∧ -4611686018427387904 ≤ x ∧ x ≤ 4611686018427387904 ∧ Below w.heap.size w wr) (fun _ i _ => len - (intOf i).toNat)
  case atStart => exact ⟨0, 0, Nat.zero_le _, rfl, rfl, rfl, by omega, by omega, Below.refl _ _⟩
  case round =>
    obtain ⟨k, x, hk, rfl, rfl, hx, hx1, hx2, hbel⟩ := hrel
    by_cases hlt : k < len
    · have hcell : wr.cell? ⟨b, off + k, none⟩ = some (.int .i64 (zs.getD k 0)) := (hbel.cell (by exact hb0)).trans (HC.out k hlt)
      obtain ⟨z1, z2⟩ := HZ.out k hlt
      have HN := Lib.hid (gl_next zs k (by rw [HL.out]; exact hlt))
      obtain ⟨z, Hz⟩ : ∃ z, Hid (zs.getD k 0 = z) := ⟨_, rfl⟩
      rw [Hz.out] at hcell z1 z2
      obtain ⟨wo, Hwo⟩ : ∃ wo : World, Hid (wo = wr) := ⟨_, rfl⟩
      go_wp2
      go_loopw [3, 5] (fun g n wr => ∃ (x' y : Int), g = .int .i64 x' ∧ n = .int .i64 y ∧ Hid (Nat.gcd x'.natAbs y.natAbs = Nat.gcd x.natAbs z.natAbs) ∧ -4611686018427387904 ≤ x' ∧ x' ≤ 4611686018427387904 ∧ -4611686018427387904 ≤ y ∧ y ≤ 4611686018427387904 ∧ Below w.heap.size w wr) (fun _ n _ => (intOf n).natAbs)
      case atStart => exact ⟨x, z, rfl, rfl, rfl, hx1, hx2, z1, z2, hbel⟩
      case round =>
        obtain ⟨x', y, rfl, rfl, hg, g1, g2, g3, g4, hbel2⟩ := hrel
        clear hcell hbel
        by_cases hy : y = 0
        · subst hy
          go_wp2
          go_roundw
          case rel => exact ⟨k + 1, x', by omega, by go_num, rfl, by have := hg.out; unfold Hid; rw [HN.out, ← hx.out, Hz.out, ← this]; simp, g1, g2, hbel2⟩
          case measure => simp [intOf]; omega
        · have hyb : (y == 0) = false := by simp [hy]
          have Hs := Lib.hid (gcd_step x' y)
          have Ht := Lib.hid (tmod_small x' y hy)
          go_wp2
          refine wp_region_held_drew (S := (fun w' => Below w.heap.size w w')) (by kernel_rfl) ?_ (fun hHeld => ?_)
          · exact hbel2.drew
          refine takeD (i := 0) (d := some 14) (v := ?_) _ rfl rfl (by kernel_rfl) (by kernel_rfl) (by kernel_rfl) (fun _ _ _ h => h) (by rfl) ?_ (by assumption) ?_
          rotate_left
          · (intro w hSw; (try dsimp only at hSw); go_simp) <;> with_reducible rfl
          try simp only [Act.put, List.setIfInBounds_toArray, List.set_cons_zero, List.set_cons_succ]
          refine takeD (i := 1) (d := some 15) (v := ?_) _ rfl rfl (by kernel_rfl) (by kernel_rfl) (by kernel_rfl) (fun _ _ _ h => h) (by rfl) ?_ (by assumption) ?_
          rotate_left
          · (intro w hSw; (try dsimp only at hSw); go_simp) <;> with_reducible rfl
          try simp only [Act.put, List.setIfInBounds_toArray, List.set_cons_zero, List.set_cons_succ]
          refine takeD (i := 2) (d := some 16) (v := ?_) _ rfl rfl (by kernel_rfl) (by kernel_rfl) (by kernel_rfl) (fun _ _ _ h => h) (by rfl) ?_ (by assumption) ?_
          rotate_left
          · (intro w hSw; (try dsimp only at hSw); go_simp) <;> with_reducible rfl
          try simp only [Act.put, List.setIfInBounds_toArray, List.set_cons_zero, List.set_cons_succ]
          refine takeD (i := 3) (d := some 17) (v := ?_) _ rfl rfl (by kernel_rfl) (by kernel_rfl) (by kernel_rfl) (fun _ _ _ h => h) (by rfl) ?_ (by assumption) ?_
          rotate_left
          · (intro w hSw; (try dsimp only at hSw); go_simp) <;> with_reducible rfl
          try simp only [Act.put, List.setIfInBounds_toArray, List.set_cons_zero, List.set_cons_succ]
          refine takeD (i := 4) (d := some 3) (v := ?_) _ rfl rfl (by kernel_rfl) (by kernel_rfl) (by kernel_rfl) (fun _ _ _ h => h) (by rfl) ?_ (by assumption) ?_
          rotate_left
          · (intro w hSw; (try dsimp only at hSw); go_simp) <;> with_reducible rfl
          try simp only [Act.put, List.setIfInBounds_toArray, List.set_cons_zero, List.set_cons_succ]
          refine takeD (i := 5) (d := some 5) (v := ?_) _ rfl rfl (by kernel_rfl) (by kernel_rfl) (by kernel_rfl) (fun _ _ _ h => h) (by rfl) ?_ (by assumption) ?_
          rotate_left
          · (intro w hSw; (try dsimp only at hSw); go_simp) <;> with_reducible rfl
          try simp only [Act.put, List.setIfInBounds_toArray, List.set_cons_zero, List.set_cons_succ]
          refine wpAnyH_done (by kernel_rfl) ?_ _
          go_roundw
          case rel =>
            have r1 : Hid (Nat.gcd y.natAbs (x'.tmod y).natAbs = Nat.gcd x.natAbs z.natAbs) := by unfold Hid; rw [Hs.out]; exact hg.out
            have r2 : -4611686018427387904 ≤ x'.tmod y ∧ x'.tmod y ≤ 4611686018427387904 := by have := Ht.out; omega
            first | exact ⟨y, x'.tmod y, rfl, rfl, r1, g3, g4, r2.1, r2.2, hHeld⟩ | ((repeat apply Exists.intro); exact ⟨⟨y, x'.tmod y, rfl, rfl, r1, g3, g4, r2.1, r2.2, hHeld⟩, rfl⟩)
          case measure => simp only [intOf]; exact Ht.out
    · obtain rfl : k = len := by omega
      have he : x.natAbs = gl zs := by rw [hx.out, List.take_of_length_le (by rw [HL.out]; exact Nat.le_refl _)]
      by_cases hs : x < 0
      · have hs2 : x < -x := by omega
        go_wp2
        go_ret
        exact ⟨int_ret (by rw [← he]; omega), hbel⟩
      · have hs2 : ¬ x < -x := by omega
        go_wp2
        go_ret
        exact ⟨int_ret (by rw [← he]; omega), hbel⟩

end Go.Proofs.Ythcoldehpaambaa
