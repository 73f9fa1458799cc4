/-
  The contract of the reference's Lcm, of any list of ints above -2^63. Conditions: as stated.
-/
import Derived.Test.YthcoldehpaambaaLcm
namespace Go.Proofs.Ythcoldehpaambaa
open Go.RowKit
set_option linter.unusedSimpArgs false

structure Over (zs : List Int) (k : Nat) (x : Int) (o : Bool) : Prop where
  no : o = false → lcmO (zs.take k) = some x
  yes : o = true → lcmO (zs.take k) = none
/-- The loop's relation of the reference's Lcm. -/
def RLcmRel (zs : List Int) (len : Nat) (W : World) (m o i : Value) (wr : World) : Prop :=
  ∃ (k : Nat) (x : Int) (ov : Bool), k ≤ len ∧ i = .int .i64 k ∧ m = .int .i64 x ∧ o = .bool ov ∧ Over zs k x ov ∧ 1 ≤ x ∧ x ≤ 1099511627776 ∧ Below W.heap.size W wr
theorem of1 {W w1 : World} {p0 : Addr} {x0 : Value} (hB : Below W.heap.size W w1) (k0 : W.cell? p0 = some x0) : Below W.heap.size W w1 ∧ w1.cell? p0 = some x0 := ⟨hB, cell_later hB k0⟩

theorem rlcm_nil (a : Option Addr) (cap : Nat) (w : World) :
    Calls Try.prog 19 #[.slice a 0 cap] w fun e w' => e = .returned (.tuple #[.int .i64 (lv (lcmO [])), .int .i64 (lerr (lcmO []))]) ∧ Below w.heap.size w w' := by
  go_enter Try.func19, Try.ntmps19
  go_wp2
  go_loop [4, 5, 6] (fun g o i => i = .int .i64 0 ∧ g = .int .i64 1 ∧ o = .bool false) (fun _ _ _ => 0)
  case atStart => exact ⟨rfl, rfl, rfl⟩
  case round =>
    obtain ⟨rfl, rfl, rfl⟩ := hrel
    go_wp2
    go_ret2
    exact ⟨rfl, Below.refl _ _⟩

set_option maxHeartbeats 2000000 in
theorem rlcm_some (b off len cap : Nat) (zs : List Int) (w : World) (hl : zs.length = len) (hlen : len ≤ 4611686018427387904) (hb0 : b < w.heap.size)
    (hc : ∀ i, i < len → w.cell? ⟨b, off + i, none⟩ = some (.int .i64 (zs.getD i 0))) (hz : ∀ i, i < len → -9223372036854775807 ≤ zs.getD i 0 ∧ zs.getD i 0 ≤ 9223372036854775807) :
    Calls Try.prog 19 #[.slice (some ⟨b, off, none⟩) len cap] w fun e w' => e = .returned (.tuple #[.int .i64 (lv (lcmO zs)), .int .i64 (lerr (lcmO zs))]) ∧ Below w.heap.size w w' := by
  have HC := Lib.hid hc
  have HZ := Lib.hid hz
  have HL := Lib.hid hl
  clear hc hz hl
  go_enter Try.func19, Try.ntmps19
  go_wp2
  go_loopw [4, 5, 6] (fun m o i wr => RLcmRel zs len w m o i wr) (fun _ _ i _ => len - (intOf i).toNat)
  case atStart => exact ⟨0, 1, false, Nat.zero_le _, rfl, rfl, rfl, ⟨fun _ => rfl, fun h => by cases h⟩, by omega, by omega, Below.refl _ _⟩
  case round =>
    obtain ⟨k, x, ov, hk, rfl, rfl, rfl, ho, hx1, hx2, hbel⟩ := hrel
    by_cases hlt : k < len
    · have hcell : wr.cell? ⟨b, off + k, none⟩ = some (.int .i64 (zs.getD k 0)) := (hbel.cell (by exact hb0)).trans (HC.out k hlt)
      obtain ⟨z1, z2⟩ := HZ.out k hlt
      have HN := lcm_next zs k (by rw [HL.out]; exact hlt)
      obtain ⟨z, Hz⟩ : ∃ z, Hid (zs.getD k 0 = z) := ⟨_, rfl⟩
      rw [Hz.out] at hcell z1 z2 HN
      clear Hz
      have i0 : (0 : Int) ≤ (k : Int) := by omega
      have i1 : (k : Int) < (len : Int) := by omega
      cases ov with
      | true =>
        rw [ho.yes rfl, lstep_none] at HN
        have HF := Lib.hid HN
        clear HN
        by_cases c1 : z < 1
        · go_wp2_with fail
          go_ret2
          exact ⟨tup_ret (by rw [lcm_none _ HF.out]; rfl) (by rw [lcm_none _ HF.out]; rfl), hbel⟩
        · by_cases c2 : 1099511627776 < z
          all_goals
            go_wp2_with fail
            go_roundw
            case rel => first | exact ⟨k + 1, x, true, by omega, by go_num, rfl, rfl, ⟨fun h => (by cases h), fun _ => HF.out⟩, hx1, hx2, hbel⟩ | ((repeat apply Exists.intro); exact ⟨⟨k + 1, x, true, by omega, by go_num, rfl, rfl, ⟨fun h => (by cases h), fun _ => HF.out⟩, hx1, hx2, hbel⟩, rfl⟩)
            case measure => simp [intOf]; omega
      | false =>
        rw [ho.no rfl] at HN
        by_cases c1 : z < 1
        · rw [lstep_small c1] at HN
          have HF := Lib.hid (lcm_none _ HN)
          clear HN
          go_wp2_with fail
          go_ret2
          exact ⟨tup_ret (by rw [HF.out]; rfl) (by rw [HF.out]; rfl), hbel⟩
        · by_cases c2 : 1099511627776 < z
          · rw [lstep_great hx1 c2] at HN
            have HF := Lib.hid HN
            clear HN
            go_wp2_with fail
            go_roundw
            case rel => first | exact ⟨k + 1, x, true, by omega, by go_num, rfl, rfl, ⟨fun h => (by cases h), fun _ => HF.out⟩, hx1, hx2, hbel⟩ | ((repeat apply Exists.intro); exact ⟨⟨k + 1, x, true, by omega, by go_num, rfl, rfl, ⟨fun h => (by cases h), fun _ => HF.out⟩, hx1, hx2, hbel⟩, rfl⟩)
            case measure => simp [intOf]; omega
          · have q := quo_of hx1 (show 1 ≤ z by omega)
            obtain ⟨G, HG⟩ : ∃ G : Nat, Hid (Nat.gcd x.natAbs z.natAbs = G) := ⟨_, rfl⟩
            rw [HG.out] at q
            obtain ⟨f, Hf⟩ : ∃ f, Hid (z / (G : Int) = f) := ⟨_, rfl⟩
            rw [Hf.out] at q
            obtain ⟨q1, q2, q3, q4, q5, q6⟩ := q
            have Q6 := Lib.hid q6
            clear q6
            have d1 : z.tdiv (G : Int) = f := by rw [Int.tdiv_eq_ediv_of_nonneg (by omega)]; exact Hf.out
            have d2 : IntKind.i64.wrap f = f := IntWalk.i64_in _ (by omega)
            have d3 : ¬ G = 0 := by omega
            have RG : Hid (∀ W, Calls Try.prog 17 #[.int .i64 x, .int .i64 z] W fun e w' => e = .returned (.int .i64 (G : Int)) ∧ Below W.heap.size W w') := fun W => by
              have := rgcdbig_any x z W (by omega) (by omega) (by omega) (by omega); rwa [HG.out] at this
            have HNH := Lib.hid HN
            clear HN
            go_wp2_with fail
            go_region_held3 (fun w' => Below wr.heap.size wr w' ∧ w'.cell? ⟨b, off + k, none⟩ = some (.int .i64 z))
              (first | assumption | exact of1 (bstep hb rfl (by assumption)) hcell | exact of1 (Below.refl _ _).drew hcell)
              (first | (go_at_call 17; refine (RG.out _).mono ?_; rintro _ w1 ⟨rfl, hb⟩))
            rename_i hH
            have bel1 : Below w.heap.size w w1 := hbel.trans (hH.1.mono hbel.size)
            clear d1 d2 RG hH hcell
            by_cases c3 : 1099511627776 / f < x
            · have c4 : 1099511627776 / x < f := by
                rcases Int.lt_or_le (1099511627776 / x) f with c | c
                · exact c
                · have := (le_quo hx1).mp c
                  rw [Int.mul_comm] at this
                  have := (le_quo q4).mpr this
                  omega
              have HF : Hid (lcmO (zs.take (k + 1)) = none) := by unfold Hid; rw [HNH.out]; exact lstep_over (by omega) (by rw [HG.out, Hf.out]; exact c4)
              clear c4
              go_wp2_with fail
              go_roundw
              case rel => first | exact ⟨k + 1, x, true, by omega, by go_num, rfl, rfl, ⟨fun h => (by cases h), fun _ => HF.out⟩, hx1, hx2, bel1⟩ | ((repeat apply Exists.intro); exact ⟨⟨k + 1, x, true, by omega, by go_num, rfl, rfl, ⟨fun h => (by cases h), fun _ => HF.out⟩, hx1, hx2, bel1⟩, rfl⟩)
              case measure => simp [intOf]; omega
            · have hfx := (le_quo q4).mp (Int.not_lt.mp c3)
              rw [Int.mul_comm] at hfx
              have c4 := (le_quo hx1).mpr hfx
              have hxf0 : 1 ≤ x * f := Int.mul_pos (by omega) (by omega)
              have HF : Hid (lcmO (zs.take (k + 1)) = some (x * f)) := by unfold Hid; rw [HNH.out, lstep_fits (by omega) (by rw [HG.out, Hf.out]; omega), HG.out, Hf.out]
              clear c4
              go_wp2_with fail
              go_roundw
              case rel => first | exact ⟨k + 1, x * f, false, by omega, by go_num, rfl, rfl, ⟨fun _ => HF.out, fun h => (by cases h)⟩, hxf0, hfx, bel1⟩ | ((repeat apply Exists.intro); exact ⟨⟨k + 1, x * f, false, by omega, by go_num, rfl, rfl, ⟨fun _ => HF.out, fun h => (by cases h)⟩, hxf0, hfx, bel1⟩, rfl⟩)
              case measure => simp [intOf]; omega
    · obtain rfl : k = len := by omega
      have ht : zs.take k = zs := List.take_of_length_le (by rw [HL.out]; exact Nat.le_refl _)
      cases ov with
      | true =>
        have HF : Hid (lcmO zs = none) := by have := ho.yes rfl; rwa [ht] at this
        go_wp2_with fail
        go_ret2
        exact ⟨tup_ret (by rw [HF.out]; rfl) (by rw [HF.out]; rfl), hbel⟩
      | false =>
        have HF : Hid (lcmO zs = some x) := by have := ho.no rfl; rwa [ht] at this
        go_wp2_with fail
        go_ret2
        exact ⟨tup_ret (by rw [HF.out]; rfl) (by rw [HF.out]; rfl), hbel⟩
end Go.Proofs.Ythcoldehpaambaa
