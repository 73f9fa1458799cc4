/-
  SpanMeets, the walk: for any two beats the Go text answers true, and writes nothing that was there. No conditions.
-/
import Derived.Test.YthcoldehpaambaaTells
import Derived.Test.YthcoldehpaambaaPlain
namespace Go.Proofs.Ythcoldehpaambaa
open Go.RowKit
set_option linter.unusedSimpArgs false

theorem ratB_any (F E L t : Int) (w : World) (h : Ok F E L) (h1 : F ≤ t) (h2 : t ≤ 9223372036854775807) :
    Calls Try.prog 24 #[.agg #[.int .i64 F, .int .i64 E, .int .i64 L], .int .i64 t] w fun e w' => e = .returned (.bool (atB F E L t)) ∧ Below w.heap.size w w' := by
  have e : atB F E L t = decide ((t - F) % E < L) := by unfold atB; simp [h1]
  rw [e]; exact rat_yes F E L t w h h1 h2

/-- What has been seen ahead of tick k: no common tick, or (b) one, and then the beats meet. -/
structure Seen (aF aE aL bF bE bL fr k : Int) (b M : Bool) : Prop where
  no : b = false → ∀ i, fr ≤ i → i < k → (atB aF aE aL i && atB bF bE bL i) = false
  yes : b = true → M = true
/-- The loop's relation. -/
def MeetRel (aF aE aL bF bE bL fr N : Int) (M : Bool) (W : World) (m t : Value) (wr : World) : Prop :=
  ∃ (k : Int) (b : Bool), m = .bool b ∧ t = .int .i64 k ∧ fr ≤ k ∧ k ≤ fr + N ∧ Below W.heap.size W wr ∧ Seen aF aE aL bF bE bL fr k b M

set_option maxRecDepth 100000 in
set_option maxHeartbeats 4000000 in
theorem meets_walk (aF aE aL bF bE bL : Int) (w : World) :
    Calls Try.prog 9 #[.agg #[.int .i64 aF, .int .i64 aE, .int .i64 aL], .agg #[.int .i64 bF, .int .i64 bE, .int .i64 bL]] w fun x w' => x = .returned (.bool true) ∧ Below w.heap.size w w' := by
  go_enter Try.func9, Try.ntmps9
  go_wp2_with fail
  refine (speaks_any _).mono ?_
  rintro _ w1 ⟨rfl, hb⟩
  have k0 := cell_later hb (a := ⟨w.heap.size, 0, none⟩) (v := .int .i64 aF) (by simp [go_sem, World.cell?_alloc_past])
  have k1 := cell_later hb (a := ⟨w.heap.size, 1, none⟩) (v := .int .i64 aE) (by simp [go_sem, World.cell?_alloc_past])
  have k2 := cell_later hb (a := ⟨w.heap.size, 2, none⟩) (v := .int .i64 aL) (by simp [go_sem, World.cell?_alloc_past])
  have k3 := cell_later hb (a := ⟨w.heap.size + 1, 0, none⟩) (v := .int .i64 bF) (by simp [go_sem, World.cell?_alloc_past])
  have k4 := cell_later hb (a := ⟨w.heap.size + 1, 1, none⟩) (v := .int .i64 bE) (by simp [go_sem, World.cell?_alloc_past])
  have k5 := cell_later hb (a := ⟨w.heap.size + 1, 2, none⟩) (v := .int .i64 bL) (by simp [go_sem, World.cell?_alloc_past])
  have bel1 : Below w.heap.size w w1 := (((Below.refl _ _).alloc (Nat.le_refl _) _).alloc (by simp) _).trans (hb.mono (by simp; omega))
  clear hb
  by_cases ha : Ok aF aE aL
  case neg =>
    have HA := Lib.hid ha
    clear ha
    go_wp2_with fail
    refine (rcheck_no aF aE aL _ HA.out).mono ?_
    rintro _ w2 ⟨rfl, hb⟩
    replace k0 := cell_later hb k0
    replace k1 := cell_later hb k1
    replace k2 := cell_later hb k2
    replace k3 := cell_later hb k3
    replace k4 := cell_later hb k4
    replace k5 := cell_later hb k5
    have bel2 := bel1.trans (hb.mono bel1.size)
    clear hb bel1
    go_wp2_with fail
    refine (speaks_any _).mono ?_
    rintro _ w3 ⟨rfl, hb⟩
    replace k0 := cell_later hb k0
    replace k1 := cell_later hb k1
    replace k2 := cell_later hb k2
    replace k3 := cell_later hb k3
    replace k4 := cell_later hb k4
    replace k5 := cell_later hb k5
    have bel3 := bel2.trans (hb.mono bel2.size)
    clear hb bel2
    go_wp2_with fail
    go_ret
    exact ⟨rfl, bel3⟩
  have HA := Lib.hid ha
  go_wp2_with fail
  refine (rcheck_ok aF aE aL _ ha).mono ?_
  rintro _ w2 ⟨rfl, hb⟩
  replace k0 := cell_later hb k0
  replace k1 := cell_later hb k1
  replace k2 := cell_later hb k2
  replace k3 := cell_later hb k3
  replace k4 := cell_later hb k4
  replace k5 := cell_later hb k5
  have bel2 := bel1.trans (hb.mono bel1.size)
  clear hb bel1
  by_cases hb : Ok bF bE bL
  case neg =>
    have HB := Lib.hid hb
    clear hb
    go_wp2_with fail
    refine (rcheck_no bF bE bL _ HB.out).mono ?_
    rintro _ w3 ⟨rfl, hb⟩
    replace k0 := cell_later hb k0
    replace k1 := cell_later hb k1
    replace k2 := cell_later hb k2
    replace k3 := cell_later hb k3
    replace k4 := cell_later hb k4
    replace k5 := cell_later hb k5
    have bel3 := bel2.trans (hb.mono bel2.size)
    clear hb bel2
    go_wp2_with fail
    refine (speaks_any _).mono ?_
    rintro _ w4 ⟨rfl, hb⟩
    replace k0 := cell_later hb k0
    replace k1 := cell_later hb k1
    replace k2 := cell_later hb k2
    replace k3 := cell_later hb k3
    replace k4 := cell_later hb k4
    replace k5 := cell_later hb k5
    have bel4 := bel3.trans (hb.mono bel3.size)
    clear hb bel3
    go_wp2_with fail
    go_ret
    exact ⟨rfl, bel4⟩
  have HB := Lib.hid hb
  clear hb ha
  go_wp2_with fail
  refine (rcheck_ok bF bE bL _ HB.out).mono ?_
  rintro _ w3 ⟨rfl, hb⟩
  replace k0 := cell_later hb k0
  replace k1 := cell_later hb k1
  replace k2 := cell_later hb k2
  replace k3 := cell_later hb k3
  replace k4 := cell_later hb k4
  replace k5 := cell_later hb k5
  have bel3 := bel2.trans (hb.mono bel2.size)
  clear hb bel2
  go_upto_region 3 with fail
  go_cut [5, 6] (fun s7 s8 wx => ∃ x y : Nat, s7 = .pointer (some ⟨x, 0, none⟩) ∧ s8 = .pointer (some ⟨y, 0, none⟩) ∧
      Below w3.heap.size w3 wx ∧ wx.cell? ⟨x, 0, none⟩ = some (.int .i64 aF) ∧ wx.cell? ⟨x, 1, none⟩ = some (.int .i64 aE) ∧ wx.cell? ⟨x, 2, none⟩ = some (.int .i64 aL) ∧ wx.cell? ⟨y, 0, none⟩ = some (.int .i64 bF) ∧ wx.cell? ⟨y, 1, none⟩ = some (.int .i64 bE) ∧ wx.cell? ⟨y, 2, none⟩ = some (.int .i64 bL))
  case first =>
    have bel4 := Lib.hid bel3
    clear bel3
    go_region_held3 (fun w' => Below w3.heap.size w3 w' ∧ w'.cell? ⟨w.heap.size, 0, none⟩ = some (.int .i64 aF) ∧ w'.cell? ⟨w.heap.size, 1, none⟩ = some (.int .i64 aE) ∧ w'.cell? ⟨w.heap.size, 2, none⟩ = some (.int .i64 aL) ∧ w'.cell? ⟨w.heap.size + 1, 0, none⟩ = some (.int .i64 bF) ∧ w'.cell? ⟨w.heap.size + 1, 1, none⟩ = some (.int .i64 bE) ∧ w'.cell? ⟨w.heap.size + 1, 2, none⟩ = some (.int .i64 bL))
      ((refine six_of ?_ k0 k1 k2 k3 k4 k5; repeat (first | exact Below.refl _ _ | apply Below.drew | refine Below.alloc ?_ (by simp; try omega) _ | refine Below.setCell ?_ (by simp; try omega) _)))
      (fail)
    all_goals
      go_wp2_with fail
      go_meet
      refine ⟨_, _, rfl, rfl, ?_, ?_, ?_, ?_, ?_, ?_, ?_⟩
      · repeat (first | exact Below.refl _ _ | apply Below.drew | refine Below.alloc ?_ (by simp; try omega) _ | refine Below.setCell ?_ (by simp; try omega) _)
      all_goals simp [go_sem, World.cell?_alloc_past]
  case rest =>
    obtain ⟨x, y, rfl, rfl, hw⟩ := hcut
    obtain ⟨hbel, m0, m1, m2, m3, m4, m5⟩ := hw
    replace k0 := cell_later hbel k0
    replace k1 := cell_later hbel k1
    replace k2 := cell_later hbel k2
    replace k3 := cell_later hbel k3
    replace k4 := cell_later hbel k4
    replace k5 := cell_later hbel k5
    replace bel3 := bel3.trans (hbel.mono bel3.size)
    clear hbel
    have r1 := meet_comm HA.out HB.out
    have r2 := meet_self HA.out
    go_upto_region 4 with fail
    go_cut [37] (fun s wx => s = .bool false ∧ Below wc.heap.size wc wx)
    case first =>
      go_region_held3 (fun w' => Below wc.heap.size wc w' ∧ w'.cell? ⟨x, 0, none⟩ = some (.int .i64 aF) ∧ w'.cell? ⟨x, 1, none⟩ = some (.int .i64 aE) ∧ w'.cell? ⟨x, 2, none⟩ = some (.int .i64 aL) ∧ w'.cell? ⟨y, 0, none⟩ = some (.int .i64 bF) ∧ w'.cell? ⟨y, 1, none⟩ = some (.int .i64 bE) ∧ w'.cell? ⟨y, 2, none⟩ = some (.int .i64 bL))
        (first | assumption | exact six_of (bstep hb rfl (by assumption)) m0 m1 m2 m3 m4 m5 | exact six_of (Below.refl _ _).drew m0 m1 m2 m3 m4 m5)
        (first | (go_at_call 28; refine (meet_any _ _ _ _ _ _ _ (by first | exact HA.out | exact HB.out) (by first | exact HA.out | exact HB.out)).mono ?_; rintro _ w3 ⟨rfl, hb⟩))
      all_goals
        rename_i hH
        go_wp2_with fail
        go_meet
        exact ⟨rfl, hH.1⟩
    case rest =>
      obtain ⟨rfl, hbel⟩ := hcut
      clear r1 r2
      replace k0 := cell_later hbel k0
      replace m0 := cell_later hbel m0
      replace k1 := cell_later hbel k1
      replace m1 := cell_later hbel m1
      replace k2 := cell_later hbel k2
      replace m2 := cell_later hbel m2
      replace k3 := cell_later hbel k3
      replace m3 := cell_later hbel m3
      replace k4 := cell_later hbel k4
      replace m4 := cell_later hbel m4
      replace k5 := cell_later hbel k5
      replace m5 := cell_later hbel m5
      replace bel3 := bel3.trans (hbel.mono bel3.size)
      clear hbel
      by_cases c1 : 40 < aE
      case pos =>
        go_wp2_with fail
        go_ret
        exact ⟨rfl, bel3⟩
      by_cases c2 : 40 < bE
      case pos =>
        go_wp2_with fail
        go_ret
        exact ⟨rfl, bel3⟩
      by_cases c3 : 1000 < aF
      case pos =>
        go_wp2_with fail
        go_ret
        exact ⟨rfl, bel3⟩
      by_cases c4 : 1000 < bF
      case pos =>
        go_wp2_with fail
        go_ret
        exact ⟨rfl, bel3⟩
      have ha := HA.out
      obtain ⟨a0, _, a3, _, a5, a6⟩ := ha
      have hb := HB.out
      obtain ⟨b0, _, b3, _, b5, b6⟩ := hb
      have n1 : 1 ≤ aE * bE := Int.mul_pos (by omega) (by omega)
      have n2 : aE * bE ≤ 1600 := by have := Int.mul_le_mul (show aE ≤ 40 by omega) (show bE ≤ 40 by omega) (by omega) (by omega); omega
      obtain ⟨fr, hfr, f1, f2, f3⟩ : ∃ fr, (if aF < bF then bF else aF) = fr ∧ aF ≤ fr ∧ bF ≤ fr ∧ fr ≤ 1000 := ⟨_, rfl, by split <;> omega, by split <;> omega, by split <;> omega⟩
      obtain ⟨M, HM⟩ : ∃ M, Hid (meetB aF aE aL bF bE bL = M) := ⟨_, rfl⟩
      go_wp2_with fail
      clear hfr
      go_loopw [7, 9] (fun m t wr => MeetRel aF aE aL bF bE bL fr (aE * bE) M wc m t wr) (fun _ t _ => (fr + aE * bE - intOf t).toNat)
      case atStart => exact ⟨fr, false, rfl, rfl, by omega, by omega, Below.refl _ _, ⟨fun _ i h1 h2 => by omega, fun h => by cases h⟩⟩
      case round =>
        obtain ⟨k, b, rfl, rfl, k1', k2', hbel, hseen⟩ := hrel
        replace k0 := cell_later hbel k0
        replace m0 := cell_later hbel m0
        replace k1 := cell_later hbel k1
        replace m1 := cell_later hbel m1
        replace k2 := cell_later hbel k2
        replace m2 := cell_later hbel m2
        replace k3 := cell_later hbel k3
        replace m3 := cell_later hbel m3
        replace k4 := cell_later hbel k4
        replace m4 := cell_later hbel m4
        replace k5 := cell_later hbel k5
        replace m5 := cell_later hbel m5
        have bel4 := bel3.trans (hbel.mono bel3.size)
        cases b with
        | true =>
          have hM := hseen.yes rfl
          subst hM
          by_cases hk : k < fr + aE * bE
          all_goals
            go_wp2_with fail
            have mc := meet_any aF aE aL bF bE bL wr HA.out HB.out
            rw [HM.out] at mc
            refine mc.mono ?_
            clear mc
            rintro _ w5 ⟨rfl, hb⟩
            go_wp2_with fail
            go_ret
            exact ⟨rfl, bel4.trans (hb.mono bel4.size)⟩
        | false =>
          by_cases hk : k < fr + aE * bE
          · have hA : atB aF aE aL k = true ∨ atB aF aE aL k = false := by cases atB aF aE aL k <;> simp
            go_wp2_with fail
            have rc := ratB_any aF aE aL k wr HA.out (by omega) (by omega)
            rcases hA with hA | hA
            · rw [hA] at rc
              refine rc.mono ?_
              clear rc
              rintro _ w5 ⟨rfl, hb⟩
              replace k0 := cell_later hb k0
              replace k1 := cell_later hb k1
              replace k2 := cell_later hb k2
              replace k3 := cell_later hb k3
              replace k4 := cell_later hb k4
              replace k5 := cell_later hb k5
              have bel5 := hbel.trans (hb.mono hbel.size)
              clear hb
              obtain ⟨b, hB⟩ : ∃ b, Hid (atB bF bE bL k = b) := ⟨_, rfl⟩
              go_wp2_with fail
              have rc := ratB_any bF bE bL k w5 HB.out (by omega) (by omega)
              rw [hB.out] at rc
              refine rc.mono ?_
              clear rc
              rintro _ w6 ⟨rfl, hb⟩
              have bel6 := bel5.trans (hb.mono bel5.size)
              clear hb bel5
              have q1 : b = false → ∀ i, fr ≤ i → i < k + 1 → (atB aF aE aL i && atB bF bE bL i) = false := fun hb0 i h1 h2 => by
                by_cases hik : i < k
                · exact hseen.no rfl i h1 hik
                · obtain rfl : i = k := by omega
                  rw [hA, hB.out, hb0]; rfl
              have q2 : b = true → M = true := fun hb0 => by
                cases hM : M with
                | true => rfl
                | false =>
                  have := meet_no HA.out HB.out (HM.out.trans hM) (t := k)
                  rw [hA, hB.out, hb0] at this
                  exact absurd this (by simp)
              have sn : Seen aF aE aL bF bE bL fr (k + 1) b M := ⟨q1, q2⟩
              clear q1 q2
              go_wp2_with fail
              go_roundw
              case rel => first | exact ⟨k + 1, b, rfl, by go_num, by omega, by omega, bel6, sn⟩ | ((repeat apply Exists.intro); exact ⟨⟨k + 1, b, rfl, by go_num, by omega, by omega, bel6, sn⟩, rfl⟩)
              case measure => simp [intOf]; omega
            · rw [hA] at rc
              refine rc.mono ?_
              clear rc
              rintro _ w5 ⟨rfl, hb⟩
              have bel6 := hbel.trans (hb.mono hbel.size)
              clear hb
              have q1 : false = false → ∀ i, fr ≤ i → i < k + 1 → (atB aF aE aL i && atB bF bE bL i) = false := fun hb0 i h1 h2 => by
                by_cases hik : i < k
                · exact hseen.no rfl i h1 hik
                · obtain rfl : i = k := by omega
                  rw [hA]; rfl
              have q2 : false = true → M = true := fun hb0 => by cases hb0
              have sn : Seen aF aE aL bF bE bL fr (k + 1) false M := ⟨q1, q2⟩
              clear q1 q2
              go_wp2_with fail
              go_roundw
              case rel => first | exact ⟨k + 1, false, rfl, by go_num, by omega, by omega, bel6, sn⟩ | ((repeat apply Exists.intro); exact ⟨⟨k + 1, false, rfl, by go_num, by omega, by omega, bel6, sn⟩, rfl⟩)
              case measure => simp [intOf]; omega
          · have hM : M = false := by
              cases hM : M with
              | false => rfl
              | true =>
                obtain ⟨i, i1, i2, i3⟩ := meet_yes HA.out HB.out fr f1 f2 (HM.out.trans hM)
                have := hseen.no rfl i i1 (by omega)
                rw [i3] at this
                exact absurd this (by simp)
            subst hM
            go_wp2_with fail
            have mc := meet_any aF aE aL bF bE bL wr HA.out HB.out
            rw [HM.out] at mc
            refine mc.mono ?_
            clear mc
            rintro _ w5 ⟨rfl, hb⟩
            go_wp2_with fail
            go_ret
            exact ⟨rfl, bel4.trans (hb.mono bel4.size)⟩
end Go.Proofs.Ythcoldehpaambaa
