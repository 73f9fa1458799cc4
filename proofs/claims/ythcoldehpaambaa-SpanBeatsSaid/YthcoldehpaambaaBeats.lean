/-
  SpanBeats, the walk: for any beat, any int16, any uint8 and any tick the Go text answers true, and writes nothing that was there. No conditions but that the numbers fit their types.
-/
import Derived.Test.YthcoldehpaambaaFar
import Derived.Test.YthcoldehpaambaaPlain2
import Derived.OpenShut
namespace Go.Proofs.Ythcoldehpaambaa
open Go.RowKit
set_option linter.unusedSimpArgs false

theorem xat_any (F E L t : Int) (w : World) (h : Ok F E L) (h2 : t ≤ 9223372036854775807) :
    Calls Try.prog 23 #[.agg #[.int .i64 F, .int .i64 E, .int .i64 L], .int .i64 t] w fun e w' => e = .returned (.bool (atB F E L t)) ∧ Below w.heap.size w w' := by
  by_cases c : F ≤ t
  · have e : atB F E L t = decide ((t - F) % E < L) := by unfold atB; simp [c]
    rw [e]; exact at_yes F E L t w h c h2
  · have e : atB F E L t = false := by unfold atB; simp [c]
    rw [e]; exact at_no F E L t w h (by omega)
theorem rat_any (F E L t : Int) (w : World) (h : Ok F E L) (h2 : t ≤ 9223372036854775807) :
    Calls Try.prog 24 #[.agg #[.int .i64 F, .int .i64 E, .int .i64 L], .int .i64 t] w fun e w' => e = .returned (.bool (atB F E L t)) ∧ Below w.heap.size w w' := by
  by_cases c : F ≤ t
  · have e : atB F E L t = decide ((t - F) % E < L) := by unfold atB; simp [c]
    rw [e]; exact rat_yes F E L t w h c h2
  · have e : atB F E L t = false := by unfold atB; simp [c]
    rw [e]; exact rat_no F E L t w h (by omega)
theorem begins_any (F E L t : Int) (w : World) (h : Ok F E L) (h2 : t ≤ 9223372036854775807) :
    Calls Try.prog 25 #[.agg #[.int .i64 F, .int .i64 E, .int .i64 L], .int .i64 t] w fun e w' => e = .returned (.bool (begB F E t)) ∧ Below w.heap.size w w' := by
  by_cases c : F ≤ t
  · have e : begB F E t = ((t - F) % E == 0) := by unfold begB; rw [Bool.eq_iff_iff]; simp [c]
    rw [e]; exact begins_yes F E L t w h c h2
  · have e : begB F E t = false := by unfold begB; simp [c]
    rw [e]; exact begins_no F E L t w h (by omega)

/-- The outer loop's relation. -/
def BeatRel (F E L lo hi : Int) (W : World) (m k : Value) (wr : World) : Prop :=
  ∃ x c : Int, k = .int .i64 x ∧ lo ≤ x ∧ x ≤ hi ∧ m = .int .i64 c ∧ Hid (c = beforeT F E L x - beforeT F E L lo) ∧ Below W.heap.size W wr
/-- The inner loop's relation. -/
def NextRel (x N : Int) (W : World) (k : Value) (wr : World) : Prop :=
  ∃ n : Int, k = .int .i64 n ∧ x ≤ n ∧ n ≤ N ∧ Below W.heap.size W wr

set_option maxRecDepth 100000 in
set_option maxHeartbeats 8000000 in
theorem beats_walk (F E L a b t : Int) (w : World) (wa : (Lit.int .i16 a).wf = true) (wb : (Lit.int .u8 b).wf = true) (wt : (Lit.int .i64 t).wf = true) :
    Calls Try.prog 7 #[.agg #[.int .i64 F, .int .i64 E, .int .i64 L], .int .i16 a, .int .u8 b, .int .i64 t] w fun x w' => x = .returned (.bool true) ∧ Below w.heap.size w w' := by
  obtain ⟨a1, a2⟩ := bounds_i16 wa
  obtain ⟨b1, b2⟩ := bounds_u8 wb
  have t2 := (bounds_i64 wt).2
  clear wa wb wt
  go_enter Try.func7, Try.ntmps7
  go_wp2_with fail
  refine (speaks_any _).mono ?_
  rintro _ w1 ⟨rfl, hb⟩
  have k3 := cell_later hb (a := ⟨w.heap.size, 0, none⟩) (v := .int .i64 F) (by simp)
  have k4 := cell_later hb (a := ⟨w.heap.size, 1, none⟩) (v := .int .i64 E) (by simp)
  have k5 := cell_later hb (a := ⟨w.heap.size, 2, none⟩) (v := .int .i64 L) (by simp)
  have bel1 : Below w.heap.size w w1 := ((Below.refl _ _).alloc (Nat.le_refl _) _).trans (hb.mono (by simp))
  clear hb
  go_wp2_with fail
  obtain ⟨w2, hw2⟩ : ∃ w2, w2 = w1.alloc (.cells #[.int .i64 F, .int .i64 E, .int .i64 L] 50) := ⟨_, rfl⟩
  have k0 : w2.cell? ⟨w1.heap.size, 0, none⟩ = some (.int .i64 F) := by rw [hw2]; simp
  have k1 : w2.cell? ⟨w1.heap.size, 1, none⟩ = some (.int .i64 E) := by rw [hw2]; simp
  have k2 : w2.cell? ⟨w1.heap.size, 2, none⟩ = some (.int .i64 L) := by rw [hw2]; simp
  replace k3 : w2.cell? ⟨w.heap.size, 0, none⟩ = some (.int .i64 F) := by rw [hw2]; exact cell_al _ k3
  replace k4 : w2.cell? ⟨w.heap.size, 1, none⟩ = some (.int .i64 E) := by rw [hw2]; exact cell_al _ k4
  replace k5 : w2.cell? ⟨w.heap.size, 2, none⟩ = some (.int .i64 L) := by rw [hw2]; exact cell_al _ k5
  have bel2 : Below w.heap.size w w2 := by rw [hw2]; exact bel1.alloc bel1.size _
  rw [← hw2]
  clear bel1 hw2
  by_cases ha : Ok F E L
  case neg =>
    have HA := Lib.hid ha
    clear ha
    go_region_held3 (fun w' => Below w2.heap.size w2 w' ∧ w'.cell? ⟨w1.heap.size, 0, none⟩ = some (.int .i64 F) ∧ w'.cell? ⟨w1.heap.size, 1, none⟩ = some (.int .i64 E) ∧ w'.cell? ⟨w1.heap.size, 2, none⟩ = some (.int .i64 L) ∧ w'.cell? ⟨w.heap.size, 0, none⟩ = some (.int .i64 F) ∧ w'.cell? ⟨w.heap.size, 1, none⟩ = some (.int .i64 E) ∧ w'.cell? ⟨w.heap.size, 2, none⟩ = some (.int .i64 L))
      (first | assumption | exact six_of (bstep hb rfl (by assumption)) k0 k1 k2 k3 k4 k5 | exact six_of (Below.refl _ _).drew k0 k1 k2 k3 k4 k5)
      (first | (go_at_call 21; refine (check_no F E L _ HA.out).mono ?_; rintro _ w3 ⟨rfl, hb⟩) | (go_at_call 22; refine (rcheck_no F E L _ HA.out).mono ?_; rintro _ w3 ⟨rfl, hb⟩))
    rename_i hH
    obtain ⟨hbel, k0, k1, k2, k3, k4, k5⟩ := hH
    go_wp2_with fail
    refine (rcheck_no F E L _ HA.out).mono ?_
    rintro _ w4 ⟨rfl, hb⟩
    go_wp2_with fail
    go_ret
    have bel3 := bel2.trans (hbel.mono bel2.size)
    exact ⟨rfl, bel3.trans (hb.mono bel3.size)⟩
  have HA := Lib.hid ha
  clear ha
  go_region_held3 (fun w' => Below w2.heap.size w2 w' ∧ w'.cell? ⟨w1.heap.size, 0, none⟩ = some (.int .i64 F) ∧ w'.cell? ⟨w1.heap.size, 1, none⟩ = some (.int .i64 E) ∧ w'.cell? ⟨w1.heap.size, 2, none⟩ = some (.int .i64 L) ∧ w'.cell? ⟨w.heap.size, 0, none⟩ = some (.int .i64 F) ∧ w'.cell? ⟨w.heap.size, 1, none⟩ = some (.int .i64 E) ∧ w'.cell? ⟨w.heap.size, 2, none⟩ = some (.int .i64 L))
    (first | assumption | exact six_of (bstep hb rfl (by assumption)) k0 k1 k2 k3 k4 k5 | exact six_of (Below.refl _ _).drew k0 k1 k2 k3 k4 k5)
    (first | (go_at_call 21; refine (check_ok F E L _ HA.out).mono ?_; rintro _ w3 ⟨rfl, hb⟩) | (go_at_call 22; refine (rcheck_ok F E L _ HA.out).mono ?_; rintro _ w3 ⟨rfl, hb⟩))
  rename_i hH
  clear k0 k1 k2 k3 k4 k5
  obtain ⟨hbel, k0, k1, k2, k3, k4, k5⟩ := hH
  replace bel2 := bel2.trans (hbel.mono bel2.size)
  clear hbel
  go_wp2_with fail
  refine (rcheck_ok F E L _ HA.out).mono ?_
  rintro _ w4 ⟨rfl, hb⟩
  replace k0 := cell_later hb k0
  replace k1 := cell_later hb k1
  replace k2 := cell_later hb k2
  replace k3 := cell_later hb k3
  replace k4 := cell_later hb k4
  replace k5 := cell_later hb k5
  have bel4 := bel2.trans (hb.mono bel2.size)
  clear hb bel2
  go_wp2_with fail
  go_region_held3 (fun w' => Below w4.heap.size w4 w' ∧ w'.cell? ⟨w1.heap.size, 0, none⟩ = some (.int .i64 F) ∧ w'.cell? ⟨w1.heap.size, 1, none⟩ = some (.int .i64 E) ∧ w'.cell? ⟨w1.heap.size, 2, none⟩ = some (.int .i64 L) ∧ w'.cell? ⟨w.heap.size, 0, none⟩ = some (.int .i64 F) ∧ w'.cell? ⟨w.heap.size, 1, none⟩ = some (.int .i64 E) ∧ w'.cell? ⟨w.heap.size, 2, none⟩ = some (.int .i64 L))
    (first | assumption | exact six_of (bstep hb rfl (by assumption)) k0 k1 k2 k3 k4 k5 | exact six_of (Below.refl _ _).drew k0 k1 k2 k3 k4 k5)
    (first | (go_at_call 23; refine (xat_any F E L t _ HA.out t2).mono ?_; rintro _ w5 ⟨rfl, hb⟩) | (go_at_call 24; refine (rat_any F E L t _ HA.out t2).mono ?_; rintro _ w5 ⟨rfl, hb⟩))
  rename_i hH
  clear k0 k1 k2 k3 k4 k5
  obtain ⟨hbel, k0, k1, k2, k3, k4, k5⟩ := hH
  replace bel4 := bel4.trans (hbel.mono bel4.size)
  clear hbel
  by_cases c1 : 60 < E
  case pos =>
    go_wp2_with fail
    go_ret
    exact ⟨rfl, bel4⟩
  by_cases c2 : 1000 < F
  case pos =>
    go_wp2_with fail
    go_ret
    exact ⟨rfl, bel4⟩
  have ha := HA.out
  obtain ⟨f0, _, e0, _, l0, l1⟩ := ha
  have m0 : 0 ≤ b % 200 := Int.emod_nonneg _ (by omega)
  have m1 : b % 200 < 200 := Int.emod_lt_of_pos _ (by omega)
  obtain ⟨hi, hhi, h1, h2⟩ : ∃ hi, a + b % 200 = hi ∧ a ≤ hi ∧ hi ≤ a + 199 := ⟨_, rfl, by omega, by omega⟩
  have HH := Lib.hid hhi
  go_wp2_with fail
  clear hhi
  obtain ⟨w6, hw6⟩ : ∃ w6, w6 = w5.alloc (.cells #[.int .i64 a, .int .i64 hi] 26) := ⟨_, rfl⟩
  have k6 : w6.cell? ⟨w5.heap.size, 0, none⟩ = some (.int .i64 a) := by rw [hw6]; simp
  have k7 : w6.cell? ⟨w5.heap.size, 1, none⟩ = some (.int .i64 hi) := by rw [hw6]; simp
  replace k0 : w6.cell? ⟨w1.heap.size, 0, none⟩ = some (.int .i64 F) := by rw [hw6]; exact cell_al _ k0
  replace k1 : w6.cell? ⟨w1.heap.size, 1, none⟩ = some (.int .i64 E) := by rw [hw6]; exact cell_al _ k1
  replace k2 : w6.cell? ⟨w1.heap.size, 2, none⟩ = some (.int .i64 L) := by rw [hw6]; exact cell_al _ k2
  replace k3 : w6.cell? ⟨w.heap.size, 0, none⟩ = some (.int .i64 F) := by rw [hw6]; exact cell_al _ k3
  replace k4 : w6.cell? ⟨w.heap.size, 1, none⟩ = some (.int .i64 E) := by rw [hw6]; exact cell_al _ k4
  replace k5 : w6.cell? ⟨w.heap.size, 2, none⟩ = some (.int .i64 L) := by rw [hw6]; exact cell_al _ k5
  have bel6 : Below w.heap.size w w6 := by rw [hw6]; exact bel4.alloc bel4.size _
  rw [← hw6]
  clear bel4 hw6 HH m0 m1
  go_loopw [11, 12] (fun m k wr => BeatRel F E L a hi w6 m k wr) (fun _ k _ => (hi - intOf k).toNat)
  case atStart => exact ⟨a, 0, rfl, by omega, by omega, rfl, by unfold Hid; omega, Below.refl _ _⟩
  case round =>
    obtain ⟨x, c, rfl, x1, x2, rfl, hc, hbel⟩ := hrel
    replace k0 := cell_later hbel k0
    replace k1 := cell_later hbel k1
    replace k2 := cell_later hbel k2
    replace k3 := cell_later hbel k3
    replace k4 := cell_later hbel k4
    replace k5 := cell_later hbel k5
    replace k6 := cell_later hbel k6
    replace k7 := cell_later hbel k7
    have bel7 := bel6.trans (hbel.mono bel6.size)
    have cb : 0 ≤ c ∧ c ≤ 200 := by
      have h1 := before_mono HA.out x1
      have h2 := hc.out
      omega
    obtain ⟨cb1, cb2⟩ := cb
    by_cases hx : x < hi
    · have nb := next_bd (F := F) (t := x) e0
      obtain ⟨N, hN⟩ : ∃ N, Hid (nextT F E x = N) := ⟨_, rfl⟩
      rw [hN.out] at nb
      have N1 : x ≤ N := nb.1
      have N2 : N ≤ x + 40000 := by omega
      clear nb
      have hBs : atB F E L x = true ∨ atB F E L x = false := by cases atB F E L x <;> simp
      have RC := rat_any F E L x wr HA.out (by omega)
      clear bel7
      go_wp2_with fail
      rcases hBs with hB | hB
      · rw [hB] at RC
        refine RC.mono ?_
        clear RC
        rintro _ w8 ⟨rfl, hb⟩
        replace k0 := cell_later hb k0
        replace k1 := cell_later hb k1
        replace k2 := cell_later hb k2
        replace k3 := cell_later hb k3
        replace k4 := cell_later hb k4
        replace k5 := cell_later hb k5
        replace k6 := cell_later hb k6
        replace k7 := cell_later hb k7
        have bel8 := hbel.trans (hb.mono hbel.size)
        clear hb hbel
        have XA : Hid (∀ W, Calls Try.prog 23 #[.agg #[.int .i64 F, .int .i64 E, .int .i64 L], .int .i64 x] W fun e w' => e = .returned (.bool true) ∧ Below W.heap.size W w') := fun W => by
          have := xat_any F E L x W HA.out (by omega); rwa [hB] at this
        have RA : Hid (∀ W, Calls Try.prog 24 #[.agg #[.int .i64 F, .int .i64 E, .int .i64 L], .int .i64 x] W fun e w' => e = .returned (.bool true) ∧ Below W.heap.size W w') := fun W => by
          have := rat_any F E L x W HA.out (by omega); rwa [hB] at this
        have hstep : Hid (c + 1 = beforeT F E L (x + 1) - beforeT F E L a) := by
          have h1 := before_step (t := x) HA.out
          rw [hB] at h1
          have h2 := hc.out
          unfold Hid
          simp at h1
          omega
        clear hB hc
        go_wp2_with fail
        go_region_held3 (fun w' => Below w8.heap.size w8 w' ∧ w'.cell? ⟨w1.heap.size, 0, none⟩ = some (.int .i64 F) ∧ w'.cell? ⟨w1.heap.size, 1, none⟩ = some (.int .i64 E) ∧ w'.cell? ⟨w1.heap.size, 2, none⟩ = some (.int .i64 L) ∧ w'.cell? ⟨w.heap.size, 0, none⟩ = some (.int .i64 F) ∧ w'.cell? ⟨w.heap.size, 1, none⟩ = some (.int .i64 E) ∧ w'.cell? ⟨w.heap.size, 2, none⟩ = some (.int .i64 L))
          (first | assumption | exact six_of (bstep hb rfl (by assumption)) k0 k1 k2 k3 k4 k5 | exact six_of (Below.refl _ _).drew k0 k1 k2 k3 k4 k5)
          (first | (go_at_call 23; refine (XA.out _).mono ?_; rintro _ w9 ⟨rfl, hb⟩) | (go_at_call 24; refine (RA.out _).mono ?_; rintro _ w9 ⟨rfl, hb⟩))
        rename_i hH
        have hbel9 := hH.1
        clear XA RA
        have j0 := cell_later hbel9 k0
        have j1 := cell_later hbel9 k1
        have j2 := cell_later hbel9 k2
        have j3 := cell_later hbel9 k3
        have j4 := cell_later hbel9 k4
        have j5 := cell_later hbel9 k5
        have j6 := cell_later hbel9 k6
        have j7 := cell_later hbel9 k7
        clear k0 k1 k2 k3 k4 k5 k6 k7 hH
        have bel9 := bel8.trans (hbel9.mono bel8.size)
        clear hbel9 bel8
        go_wp2_with fail
        go_loopw [13] (fun k wr => NextRel x N w9 k wr) (fun k _ => (N - intOf k).toNat)
        case atStart => exact ⟨x, rfl, by omega, by omega, Below.refl _ _⟩
        case round =>
          obtain ⟨n, rfl, n1, n2, hbel2⟩ := hrel
          replace j0 := cell_later hbel2 j0
          replace j1 := cell_later hbel2 j1
          replace j2 := cell_later hbel2 j2
          replace j3 := cell_later hbel2 j3
          replace j4 := cell_later hbel2 j4
          replace j5 := cell_later hbel2 j5
          replace j6 := cell_later hbel2 j6
          replace j7 := cell_later hbel2 j7
          have bel10 := bel9.trans (hbel2.mono bel9.size)
          by_cases hn : n < N
          · have BG := begins_any F E L n wr HA.out (by omega)
            rw [beg_none (t := x) e0 n1 (by rw [hN.out]; exact hn)] at BG
            go_wp2_with fail
            refine BG.mono ?_
            clear BG
            rintro _ w11 ⟨rfl, hb⟩
            have hbel3 := hbel2.trans (hb.mono hbel2.size)
            clear hb hbel2 bel10
            go_wp2_with fail
            go_roundw
            case rel => first | exact ⟨n + 1, by go_num, by omega, by omega, hbel3⟩ | ((repeat apply Exists.intro); exact ⟨⟨n + 1, by go_num, by omega, by omega, hbel3⟩, rfl⟩)
            case measure => simp [intOf]; omega
          · obtain rfl : n = N := by omega
            have BG := begins_any F E L n wr HA.out (by omega)
            rw [← hN.out, beg_next e0, hN.out] at BG
            have NX : Hid (∀ W, Calls Try.prog 26 #[.agg #[.int .i64 F, .int .i64 E, .int .i64 L], .int .i64 x] W fun e w' => e = .returned (.int .i64 n) ∧ Below W.heap.size W w') := fun W => by
              have := next_any F E L x W HA.out (by omega); rwa [hN.out] at this
            go_wp2_with fail
            refine BG.mono ?_
            clear BG
            rintro _ w11 ⟨rfl, hb⟩
            replace j0 := cell_later hb j0
            replace j1 := cell_later hb j1
            replace j2 := cell_later hb j2
            replace j3 := cell_later hb j3
            replace j4 := cell_later hb j4
            replace j5 := cell_later hb j5
            replace j6 := cell_later hb j6
            replace j7 := cell_later hb j7
            have bel11 := bel10.trans (hb.mono bel10.size)
            clear hb hbel2 bel10
            go_wp2_with fail
            refine (NX.out _).mono ?_
            rintro _ w12 ⟨rfl, hb⟩
            have bel12 := bel11.trans (hb.mono bel11.size)
            clear hb bel11 NX
            go_wp2_with fail
            go_roundw
            case rel => first | exact ⟨x + 1, c + 1, by go_num, by omega, by omega, rfl, hstep, bel12⟩ | ((repeat apply Exists.intro); exact ⟨⟨x + 1, c + 1, by go_num, by omega, by omega, rfl, hstep, bel12⟩, rfl⟩)
            case measure => simp [intOf]; omega
      · rw [hB] at RC
        refine RC.mono ?_
        clear RC
        rintro _ w8 ⟨rfl, hb⟩
        replace k0 := cell_later hb k0
        replace k1 := cell_later hb k1
        replace k2 := cell_later hb k2
        replace k3 := cell_later hb k3
        replace k4 := cell_later hb k4
        replace k5 := cell_later hb k5
        replace k6 := cell_later hb k6
        replace k7 := cell_later hb k7
        have bel8 := hbel.trans (hb.mono hbel.size)
        clear hb hbel
        have XA : Hid (∀ W, Calls Try.prog 23 #[.agg #[.int .i64 F, .int .i64 E, .int .i64 L], .int .i64 x] W fun e w' => e = .returned (.bool false) ∧ Below W.heap.size W w') := fun W => by
          have := xat_any F E L x W HA.out (by omega); rwa [hB] at this
        have RA : Hid (∀ W, Calls Try.prog 24 #[.agg #[.int .i64 F, .int .i64 E, .int .i64 L], .int .i64 x] W fun e w' => e = .returned (.bool false) ∧ Below W.heap.size W w') := fun W => by
          have := rat_any F E L x W HA.out (by omega); rwa [hB] at this
        have hstep : Hid (c = beforeT F E L (x + 1) - beforeT F E L a) := by
          have h1 := before_step (t := x) HA.out
          rw [hB] at h1
          have h2 := hc.out
          unfold Hid
          simp at h1
          omega
        clear hB hc
        go_wp2_with fail
        go_region_held3 (fun w' => Below w8.heap.size w8 w' ∧ w'.cell? ⟨w1.heap.size, 0, none⟩ = some (.int .i64 F) ∧ w'.cell? ⟨w1.heap.size, 1, none⟩ = some (.int .i64 E) ∧ w'.cell? ⟨w1.heap.size, 2, none⟩ = some (.int .i64 L) ∧ w'.cell? ⟨w.heap.size, 0, none⟩ = some (.int .i64 F) ∧ w'.cell? ⟨w.heap.size, 1, none⟩ = some (.int .i64 E) ∧ w'.cell? ⟨w.heap.size, 2, none⟩ = some (.int .i64 L))
          (first | assumption | exact six_of (bstep hb rfl (by assumption)) k0 k1 k2 k3 k4 k5 | exact six_of (Below.refl _ _).drew k0 k1 k2 k3 k4 k5)
          (first | (go_at_call 23; refine (XA.out _).mono ?_; rintro _ w9 ⟨rfl, hb⟩) | (go_at_call 24; refine (RA.out _).mono ?_; rintro _ w9 ⟨rfl, hb⟩))
        rename_i hH
        have hbel9 := hH.1
        clear XA RA
        have j0 := cell_later hbel9 k0
        have j1 := cell_later hbel9 k1
        have j2 := cell_later hbel9 k2
        have j3 := cell_later hbel9 k3
        have j4 := cell_later hbel9 k4
        have j5 := cell_later hbel9 k5
        have j6 := cell_later hbel9 k6
        have j7 := cell_later hbel9 k7
        clear k0 k1 k2 k3 k4 k5 k6 k7 hH
        have bel9 := bel8.trans (hbel9.mono bel8.size)
        clear hbel9 bel8
        go_wp2_with fail
        go_loopw [13] (fun k wr => NextRel x N w9 k wr) (fun k _ => (N - intOf k).toNat)
        case atStart => exact ⟨x, rfl, by omega, by omega, Below.refl _ _⟩
        case round =>
          obtain ⟨n, rfl, n1, n2, hbel2⟩ := hrel
          replace j0 := cell_later hbel2 j0
          replace j1 := cell_later hbel2 j1
          replace j2 := cell_later hbel2 j2
          replace j3 := cell_later hbel2 j3
          replace j4 := cell_later hbel2 j4
          replace j5 := cell_later hbel2 j5
          replace j6 := cell_later hbel2 j6
          replace j7 := cell_later hbel2 j7
          have bel10 := bel9.trans (hbel2.mono bel9.size)
          by_cases hn : n < N
          · have BG := begins_any F E L n wr HA.out (by omega)
            rw [beg_none (t := x) e0 n1 (by rw [hN.out]; exact hn)] at BG
            go_wp2_with fail
            refine BG.mono ?_
            clear BG
            rintro _ w11 ⟨rfl, hb⟩
            have hbel3 := hbel2.trans (hb.mono hbel2.size)
            clear hb hbel2 bel10
            go_wp2_with fail
            go_roundw
            case rel => first | exact ⟨n + 1, by go_num, by omega, by omega, hbel3⟩ | ((repeat apply Exists.intro); exact ⟨⟨n + 1, by go_num, by omega, by omega, hbel3⟩, rfl⟩)
            case measure => simp [intOf]; omega
          · obtain rfl : n = N := by omega
            have BG := begins_any F E L n wr HA.out (by omega)
            rw [← hN.out, beg_next e0, hN.out] at BG
            have NX : Hid (∀ W, Calls Try.prog 26 #[.agg #[.int .i64 F, .int .i64 E, .int .i64 L], .int .i64 x] W fun e w' => e = .returned (.int .i64 n) ∧ Below W.heap.size W w') := fun W => by
              have := next_any F E L x W HA.out (by omega); rwa [hN.out] at this
            go_wp2_with fail
            refine BG.mono ?_
            clear BG
            rintro _ w11 ⟨rfl, hb⟩
            replace j0 := cell_later hb j0
            replace j1 := cell_later hb j1
            replace j2 := cell_later hb j2
            replace j3 := cell_later hb j3
            replace j4 := cell_later hb j4
            replace j5 := cell_later hb j5
            replace j6 := cell_later hb j6
            replace j7 := cell_later hb j7
            have bel11 := bel10.trans (hb.mono bel10.size)
            clear hb hbel2 bel10
            go_wp2_with fail
            refine (NX.out _).mono ?_
            rintro _ w12 ⟨rfl, hb⟩
            have bel12 := bel11.trans (hb.mono bel11.size)
            clear hb bel11 NX
            go_wp2_with fail
            go_roundw
            case rel => first | exact ⟨x + 1, c, by go_num, by omega, by omega, rfl, hstep, bel12⟩ | ((repeat apply Exists.intro); exact ⟨⟨x + 1, c, by go_num, by omega, by omega, rfl, hstep, bel12⟩, rfl⟩)
            case measure => simp [intOf]; omega
    · obtain rfl : x = hi := by omega
      have BZ := busy_any F E L a x wr HA.out h1 (by omega) (by omega)
      rw [← hc.out] at BZ
      go_wp2_with fail
      refine BZ.mono ?_
      clear BZ
      rintro _ w8 ⟨rfl, hb⟩
      go_wp2_with fail
      go_ret
      exact ⟨rfl, bel7.trans (hb.mono bel7.size)⟩
end Go.Proofs.Ythcoldehpaambaa
