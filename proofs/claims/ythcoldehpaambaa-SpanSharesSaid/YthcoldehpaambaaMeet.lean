/-
  The contracts of the reference's Gcd, of Meet, of the example that each statement begins with, and of the test on far numbers. Each states its own conditions.
-/
import Derived.Test.YthcoldehpaambaaGcd
namespace Go.Proofs.Ythcoldehpaambaa
open Go.RowKit
set_option linter.unusedSimpArgs false

set_option maxHeartbeats 800000 in
theorem rgcd_any (a b : Int) (w : World) (a1 : -4611686018427387904 ≤ a) (a2 : a ≤ 4611686018427387904) (b1 : -4611686018427387904 ≤ b) (b2 : b ≤ 4611686018427387904) :
    Calls Try.prog 17 #[.int .i64 a, .int .i64 b] w fun e w' => e = .returned (.int .i64 (Nat.gcd a.natAbs b.natAbs)) ∧ Below w.heap.size w w' := by
  obtain ⟨G, HG⟩ : ∃ G : Nat, Hid (Nat.gcd a.natAbs b.natAbs = G) := ⟨_, rfl⟩
  rw [HG.out]
  by_cases ca : a < 0 <;> by_cases cb : b < 0
  all_goals
    go_enter Try.func17, Try.ntmps17
    go_wp2
    go_loopw [0, 1] (fun g n wr => ∃ (x y : Int), g = .int .i64 x ∧ n = .int .i64 y ∧ 0 ≤ x ∧ 0 ≤ y ∧ Hid (Nat.gcd x.natAbs y.natAbs = G) ∧ x ≤ 4611686018427387904 ∧ y ≤ 4611686018427387904 ∧ Below w.heap.size w wr) (fun _ n _ => (intOf n).natAbs)
    case atStart => exact ⟨_, _, rfl, rfl, by omega, by omega, by have := HG.out; unfold Hid; simpa using this, by omega, by omega, Below.refl _ _⟩
    case round =>
      obtain ⟨x, y, rfl, rfl, x0, y0, hg, x1, y1, hbel⟩ := hrel
      by_cases hy : y = 0
      · subst hy
        go_wp2
        go_ret
        exact ⟨int_ret (by have := hg.out; simp at this; omega), hbel⟩
      · have hyp : 0 < y := by omega
        have Hs := Lib.hid (gcd_step x y)
        have Ht := Lib.hid (tmod_small x y hy)
        have m1 : 0 ≤ x % y := Int.emod_nonneg _ hy
        have m2 : x % y < y := Int.emod_lt_of_pos _ hyp
        have hE : x.tmod y = x % y := tmod_pos x0
        have hq : (x % y).natAbs < y.natAbs := by omega
        go_wp2
        refine wp_region_held_drew (S := (fun w' => Below w.heap.size w w')) (by kernel_rfl) ?_ (fun hHeld => ?_)
        · exact hbel.drew
        refine takeD (i := 0) (d := some 15) (v := ?_) _ rfl rfl (by kernel_rfl) (by kernel_rfl) (by kernel_rfl) (fun _ _ _ h => h) (by rfl) ?_ (by assumption) ?_
        rotate_left
        · (intro w hSw; (try dsimp only at hSw); go_simp) <;> with_reducible rfl
        try simp only [Act.put, List.setIfInBounds_toArray, List.set_cons_zero, List.set_cons_succ]
        refine takeD (i := 1) (d := some 16) (v := ?_) _ rfl rfl (by kernel_rfl) (by kernel_rfl) (by kernel_rfl) (fun _ _ _ h => h) (by rfl) ?_ (by assumption) ?_
        rotate_left
        · (intro w hSw; (try dsimp only at hSw); go_simp) <;> with_reducible rfl
        try simp only [Act.put, List.setIfInBounds_toArray, List.set_cons_zero, List.set_cons_succ]
        refine takeD (i := 2) (d := some 17) (v := ?_) _ rfl rfl (by kernel_rfl) (by kernel_rfl) (by kernel_rfl) (fun _ _ _ h => h) (by rfl) ?_ (by assumption) ?_
        rotate_left
        · (intro w hSw; (try dsimp only at hSw); go_simp) <;> with_reducible rfl
        try simp only [Act.put, List.setIfInBounds_toArray, List.set_cons_zero, List.set_cons_succ]
        refine takeD (i := 3) (d := some 18) (v := ?_) _ rfl rfl (by kernel_rfl) (by kernel_rfl) (by kernel_rfl) (fun _ _ _ h => h) (by rfl) ?_ (by assumption) ?_
        rotate_left
        · (intro w hSw; (try dsimp only at hSw); go_simp) <;> with_reducible rfl
        try simp only [Act.put, List.setIfInBounds_toArray, List.set_cons_zero, List.set_cons_succ]
        refine takeD (i := 4) (d := some 0) (v := ?_) _ rfl rfl (by kernel_rfl) (by kernel_rfl) (by kernel_rfl) (fun _ _ _ h => h) (by rfl) ?_ (by assumption) ?_
        rotate_left
        · (intro w hSw; (try dsimp only at hSw); go_simp) <;> with_reducible rfl
        try simp only [Act.put, List.setIfInBounds_toArray, List.set_cons_zero, List.set_cons_succ]
        refine takeD (i := 5) (d := some 1) (v := ?_) _ rfl rfl (by kernel_rfl) (by kernel_rfl) (by kernel_rfl) (fun _ _ _ h => h) (by rfl) ?_ (by assumption) ?_
        rotate_left
        · (intro w hSw; (try dsimp only at hSw); go_simp) <;> with_reducible rfl
        try simp only [Act.put, List.setIfInBounds_toArray, List.set_cons_zero, List.set_cons_succ]
        refine wpAnyH_done (by kernel_rfl) ?_ _
        go_roundw
        case rel =>
          have r1 : Hid (Nat.gcd y.natAbs (x % y).natAbs = G) := by unfold Hid; have := Hs.out; rw [hE] at this; rw [this]; exact hg.out
          first | exact ⟨y, x % y, rfl, rfl, y0, m1, r1, y1, by omega, hHeld⟩ | ((repeat apply Exists.intro); exact ⟨⟨y, x % y, rfl, rfl, y0, m1, r1, y1, by omega, hHeld⟩, rfl⟩)
        case measure => simp only [intOf]; exact hq

theorem cell_al {w : World} {a : Addr} {v : Value} (o : Obj) (h : w.cell? a = some v) : (w.alloc o).cell? a = some v := cell_later ((Below.refl _ _).alloc (Nat.le_refl _) o) h

/-- Do two beats ever meet, by the remainder of what lies between their beginnings? -/
def meetB (aF aE aL bF bE bL : Int) : Bool := decide ((bF - aF) % (Nat.gcd aE.natAbs bE.natAbs : Nat) < aL) || decide (((Nat.gcd aE.natAbs bE.natAbs : Nat) : Int) - (bF - aF) % (Nat.gcd aE.natAbs bE.natAbs : Nat) < bL)

theorem gl_two (a b : Int) : gl [a, b] = Nat.gcd a.natAbs b.natAbs := by simp [gl]
theorem gcd_bd {a b : Int} (h : 1 ≤ a) (h' : a ≤ 1099511627776) : 1 ≤ ((Nat.gcd a.natAbs b.natAbs : Nat) : Int) ∧ ((Nat.gcd a.natAbs b.natAbs : Nat) : Int) ≤ 1099511627776 := by
  have p : 0 < Nat.gcd a.natAbs b.natAbs := Nat.gcd_pos_of_pos_left _ (by omega)
  have q : Nat.gcd a.natAbs b.natAbs ≤ a.natAbs := Nat.gcd_le_left _ (by omega)
  omega

theorem mod_of_tmod_neg {x g : Int} (hg : 0 < g) (h : x.tmod g < 0) : x % g = x.tmod g + g := by
  have h1 := Int.tmod_eq_emod (a := x) (b := g)
  have m1 : 0 ≤ x % g := Int.emod_nonneg _ (by omega)
  split at h1 <;> omega
theorem mod_of_tmod_pos {x g : Int} (hg : 0 < g) (h : ¬ x.tmod g < 0) : x % g = x.tmod g := by
  have h1 := Int.tmod_eq_emod (a := x) (b := g)
  have m1 : 0 ≤ x % g := Int.emod_nonneg _ (by omega)
  have m2 : x % g < g := Int.emod_lt_of_pos _ hg
  split at h1 <;> omega

theorem meet_any (aF aE aL bF bE bL : Int) (w : World) (h : Ok aF aE aL) (k : Ok bF bE bL) :
    Calls Try.prog 28 #[.agg #[.int .i64 aF, .int .i64 aE, .int .i64 aL], .agg #[.int .i64 bF, .int .i64 bE, .int .i64 bL]] w fun e w' => e = .returned (.bool (meetB aF aE aL bF bE bL)) ∧ Below w.heap.size w w' := by
  have h' := h
  have k' := k
  obtain ⟨a1, a2, a3, a4, a5, a6⟩ := h'
  obtain ⟨b1, b2, b3, b4, b5, b6⟩ := k'
  have hg := gl_two aE bE
  obtain ⟨G, HG⟩ : ∃ G : Nat, Hid (Nat.gcd aE.natAbs bE.natAbs = G) := ⟨_, rfl⟩
  obtain ⟨g1, g2⟩ := gcd_bd (b := bE) a3 a4
  have HM : Hid (meetB aF aE aL bF bE bL = (decide ((bF - aF) % (G : Int) < aL) || decide ((G : Int) - (bF - aF) % (G : Int) < bL))) := by unfold meetB Hid; rw [HG.out]
  rw [HG.out] at g1 g2 hg
  have HL := Lib.hid hg
  clear hg
  have m1 : 0 ≤ (bF - aF) % (G : Int) := Int.emod_nonneg _ (by omega)
  have m2 : (bF - aF) % (G : Int) < G := Int.emod_lt_of_pos _ (by omega)
  go_enter Try.func28, Try.ntmps28
  go_wp2_with fail
  refine (valid_ok aF aE aL _ h).mono ?_
  rintro e w1 ⟨rfl, hb⟩
  have c0 := cell_later hb (a := ⟨w.heap.size, 0, none⟩) (v := .int .i64 aF) (by simp)
  have c1 := cell_later hb (a := ⟨w.heap.size, 1, none⟩) (v := .int .i64 aE) (by simp)
  have c2 := cell_later hb (a := ⟨w.heap.size, 2, none⟩) (v := .int .i64 aL) (by simp)
  have d0 := cell_later hb (a := ⟨w.heap.size + 1, 0, none⟩) (v := .int .i64 bF) (by simp)
  have d1 := cell_later hb (a := ⟨w.heap.size + 1, 1, none⟩) (v := .int .i64 bE) (by simp)
  have d2 := cell_later hb (a := ⟨w.heap.size + 1, 2, none⟩) (v := .int .i64 bL) (by simp)
  have bel1 : Below w.heap.size w w1 := (((Below.refl _ _).alloc (Nat.le_refl _) _).alloc (by simp) _).trans (hb.mono (by simp; omega))
  clear hb
  go_wp2_with fail
  refine (valid_ok bF bE bL _ k).mono ?_
  rintro e w2 ⟨rfl, hb⟩
  replace c0 := cell_later hb c0
  replace c1 := cell_later hb c1
  replace c2 := cell_later hb c2
  replace d0 := cell_later hb d0
  replace d1 := cell_later hb d1
  replace d2 := cell_later hb d2
  have bel2 : Below w.heap.size w w2 := bel1.trans (hb.mono bel1.size)
  clear hb bel1
  go_wp2_with fail
  have gc := gcd_some w2.heap.size 0 2 2 [aE, bE] (w2.alloc (.cells #[.int .i64 aE, .int .i64 bE] 3)) rfl (by omega) (by simp) (fun i hi => by match i, hi with | 0, _ => simp | 1, _ => simp) (fun i hi => by match i, hi with | 0, _ => (simp; omega) | 1, _ => (simp; omega))
  rw [HL.out] at gc
  refine gc.mono ?_
  clear gc
  rintro e w3 ⟨rfl, hb⟩
  replace c0 := cell_later hb (cell_al _ c0)
  replace c1 := cell_later hb (cell_al _ c1)
  replace c2 := cell_later hb (cell_al _ c2)
  replace d0 := cell_later hb (cell_al _ d0)
  replace d1 := cell_later hb (cell_al _ d1)
  replace d2 := cell_later hb (cell_al _ d2)
  have bel3 : Below w.heap.size w w3 := (bel2.alloc bel2.size _).trans (hb.mono (by have := bel2.size; simp; omega))
  clear hb bel2
  have hGz : ¬ (G : Int) = 0 := by omega
  by_cases hs : (bF - aF).tmod (G : Int) < 0
  · have hr := mod_of_tmod_neg (by omega) hs
    rw [hr] at m1 m2 HM
    obtain ⟨q, hq⟩ : ∃ q, (bF - aF).tmod (G : Int) = q := ⟨_, rfl⟩
    rw [hq] at m1 m2 HM hs
    clear hr
    by_cases t1 : q + G < aL
    · go_wp2_with fail
      go_ret
      exact ⟨bool_ret (HM.out.trans (by first | rfl | (simp; done) | (rw [Bool.eq_iff_iff]; simp; omega))).symm, bel3⟩
    · go_wp2_with fail
      go_ret
      exact ⟨bool_ret (HM.out.trans (by first | rfl | (simp; done) | (rw [Bool.eq_iff_iff]; simp; omega))).symm, bel3⟩
  · have hr := mod_of_tmod_pos (by omega) hs
    rw [hr] at m1 m2 HM
    obtain ⟨q, hq⟩ : ∃ q, (bF - aF).tmod (G : Int) = q := ⟨_, rfl⟩
    rw [hq] at m1 m2 HM hs
    clear hr
    by_cases t1 : q < aL
    · go_wp2_with fail
      go_ret
      exact ⟨bool_ret (HM.out.trans (by first | rfl | (simp; done) | (rw [Bool.eq_iff_iff]; simp; omega))).symm, bel3⟩
    · go_wp2_with fail
      go_ret
      exact ⟨bool_ret (HM.out.trans (by first | rfl | (simp; done) | (rw [Bool.eq_iff_iff]; simp; omega))).symm, bel3⟩

theorem ok_one : Ok 2 10 3 := ⟨by omega, by omega, by omega, by omega, by omega, by omega⟩
theorem ok_two : Ok 5 4 1 := ⟨by omega, by omega, by omega, by omega, by omega, by omega⟩

theorem speaks_any (w : World) : Calls Try.prog 10 #[] w fun e w' => e = .returned (.bool true) ∧ Below w.heap.size w w' := by
  have n5 : nextT 2 10 5 = 12 := by decide
  have nc := next_any 2 10 3 5 (w.alloc (.cells #[.int .i64 2, .int .i64 10, .int .i64 3] 50)) ok_one (by omega)
  rw [n5] at nc
  have NC := Lib.hid nc
  clear nc n5
  have mt : meetB 2 10 3 5 4 1 = true := by decide
  go_enter Try.func10, Try.ntmps10
  go_wp2_with fail
  refine NC.out.mono ?_
  rintro e w1 ⟨rfl, hb⟩
  have c0 := cell_later hb (a := ⟨w.heap.size, 0, none⟩) (v := .int .i64 2) (by simp)
  have c1 := cell_later hb (a := ⟨w.heap.size, 1, none⟩) (v := .int .i64 10) (by simp)
  have c2 := cell_later hb (a := ⟨w.heap.size, 2, none⟩) (v := .int .i64 3) (by simp)
  have bel1 : Below w.heap.size w w1 := ((Below.refl _ _).alloc (Nat.le_refl _) _).trans (hb.mono (by simp))
  clear hb NC
  go_wp2_with fail
  refine (at_yes 2 10 3 4 _ ok_one (by omega) (by omega)).mono ?_
  rintro e w2 ⟨rfl, hb⟩
  replace c0 := cell_later hb c0
  replace c1 := cell_later hb c1
  replace c2 := cell_later hb c2
  have bel2 := bel1.trans (hb.mono bel1.size)
  clear hb bel1
  go_wp2_with fail
  refine (at_yes 2 10 3 5 _ ok_one (by omega) (by omega)).mono ?_
  rintro e w3 ⟨rfl, hb⟩
  replace c0 := cell_later hb c0
  replace c1 := cell_later hb c1
  replace c2 := cell_later hb c2
  have bel3 := bel2.trans (hb.mono bel2.size)
  clear hb bel2
  go_wp2_with fail
  refine (meet_any 2 10 3 5 4 1 _ ok_one ok_two).mono ?_
  rintro e w4 ⟨rfl, hb⟩
  have bel4 := bel3.trans (hb.mono bel3.size)
  clear hb bel3
  go_wp2_with fail
  go_ret
  exact ⟨bool_ret mt, bel4⟩

/-- Is one of the numbers beyond what spans have? -/
def farB (zs : List Int) : Bool := zs.any fun n => decide (1152921504606846976 < n) || decide (n < -1152921504606846976)
theorem farB_no {zs : List Int} (h : farB zs = false) (i : Nat) (hi : i < zs.length) : -1152921504606846976 ≤ zs.getD i 0 ∧ zs.getD i 0 ≤ 1152921504606846976 := by
  have := (List.any_eq_false.mp h) (zs.getD i 0) (by simp [List.getD_eq_getElem?_getD, List.getElem?_eq_getElem hi])
  simp at this
  simp
  omega
theorem farB_yes {zs : List Int} (i : Nat) (hi : i < zs.length) (h : 1152921504606846976 < zs.getD i 0 ∨ zs.getD i 0 < -1152921504606846976) : farB zs = true := by
  refine List.any_eq_true.mpr ⟨zs.getD i 0, by simp [List.getD_eq_getElem?_getD, List.getElem?_eq_getElem hi], ?_⟩
  simpa using h
theorem farB_done {zs : List Int} (h : ∀ i, i < zs.length → -1152921504606846976 ≤ zs.getD i 0 ∧ zs.getD i 0 ≤ 1152921504606846976) : farB zs = false := by
  refine List.any_eq_false.mpr fun x hx => ?_
  obtain ⟨i, hi, rfl⟩ := List.mem_iff_getElem.mp hx
  have := h i hi
  simp [List.getD_eq_getElem?_getD, List.getElem?_eq_getElem hi] at this
  simp
  omega

theorem far_some (b off len cap : Nat) (zs : List Int) (w : World) (hl : zs.length = len) (hlen : len ≤ 4611686018427387904)
    (hc : ∀ i, i < len → w.cell? ⟨b, off + i, none⟩ = some (.int .i64 (zs.getD i 0))) :
    Calls Try.prog 11 #[.slice (some ⟨b, off, none⟩) len cap] w fun e w' => e = .returned (.bool (farB zs)) ∧ Below w.heap.size w w' := by
  have HC := Lib.hid hc
  have HL := Lib.hid hl
  clear hc hl
  go_enter Try.func11, Try.ntmps11
  go_wp2
  go_loop [7] (fun i => ∃ (k : Nat), k ≤ len ∧ i = .int .i64 k ∧ Hid (∀ i, i < k → -1152921504606846976 ≤ zs.getD i 0 ∧ zs.getD i 0 ≤ 1152921504606846976)) (fun i => len - (intOf i).toNat)
  case atStart => exact ⟨0, Nat.zero_le _, rfl, fun i hi => by omega⟩
  case round =>
    obtain ⟨k, hk, rfl, hx⟩ := hrel
    by_cases hlt : k < len
    · have hcell := HC.out k hlt
      obtain ⟨z, Hz⟩ : ∃ z, Hid (zs.getD k 0 = z) := ⟨_, rfl⟩
      rw [Hz.out] at hcell
      by_cases t1 : 1152921504606846976 < z
      · go_wp2
        go_ret
        exact ⟨bool_ret (farB_yes k (by rw [HL.out]; exact hlt) (by rw [Hz.out]; exact Or.inl t1)).symm, Below.refl _ _⟩
      · by_cases t2 : z < -1152921504606846976
        · go_wp2
          go_ret
          exact ⟨bool_ret (farB_yes k (by rw [HL.out]; exact hlt) (by rw [Hz.out]; exact Or.inr t2)).symm, Below.refl _ _⟩
        · have hn : Hid (∀ i, i < k + 1 → -1152921504606846976 ≤ zs.getD i 0 ∧ zs.getD i 0 ≤ 1152921504606846976) := fun i hi => by
            by_cases hik : i < k
            · exact hx.out i hik
            · obtain rfl : i = k := by omega
              rw [Hz.out]; omega
          go_wp2
          go_round
          case rel => exact ⟨k + 1, by omega, by go_num, hn⟩
          case measure => simp [intOf]; omega
    · obtain rfl : k = len := by omega
      have hn : Hid (farB zs = false) := farB_done (by rw [HL.out]; exact hx.out)
      go_wp2
      go_ret
      exact ⟨bool_ret hn.out.symm, Below.refl _ _⟩
end Go.Proofs.Ythcoldehpaambaa
