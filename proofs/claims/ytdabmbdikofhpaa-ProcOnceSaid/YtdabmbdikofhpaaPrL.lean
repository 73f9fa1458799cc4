/-
  The walk of ProcOnce. Each statement bears its own conditions.
-/
import Derived.Test.YtdabmbdikofhpaaPrK
import Derived.Test.YtdabmbdikofhpaaPrQ
namespace Go.Proofs.Ytdabmbdikofhpaa.P
open Go.RowKit
set_option linter.unusedVariables false
set_option linter.unusedSimpArgs false
def oP (a : AT) (b : Int) (m : Bool) : MP := ⟨a.pri, a.per, a.cap, a.dea, a.off, 1, false, a.pri, 0, 0, b, 0, m⟩
theorem o_late {a : AT} {b t : Int} {m : Bool} (hd : 0 < a.dea) : lateB (oP a b m) t = (decide (b + a.dea ≤ t) && !m) := by
  unfold lateB oP
  dsimp only
  cases m <;> simp [hd]
theorem o_done_late {a : AT} {b t : Int} {m : Bool} : lateB (doneP (oP a b m) b) t = false ∨ ¬ 0 ≤ a.per := by
  by_cases h : 0 ≤ a.per
  · left
    unfold doneP
    by_cases h0 : a.per = 0
    · rw [if_pos (show (oP a b m).per = 0 from h0)]
      simp [lateB, stopP]
    · rw [if_neg (show ¬ (oP a b m).per = 0 from h0), if_neg (show ¬ (oP a b m).frm + (oP a b m).per ≤ b by show ¬ b + a.per ≤ b; omega)]
      simp [lateB, restP]
  · exact .inr h
structure ORel (n : Nat) (a : AT) (beg : Int) (W1 : World) (p rb : Nat) (v11 v13 v : Value) (wr : World) : Prop where
  ex : ∃ (k : Nat) (now : Int) (was : Bool), k ≤ n ∧ v = .int .i64 (k : Int) ∧ v11 = .int .i64 now ∧ v13 = .bool was ∧ 0 ≤ now ∧ now ≤ 2000000 + 255 * k ∧ T1 W1 wr p rb (oP a beg was)
set_option maxRecDepth 100000 in
set_option maxHeartbeats 8000000 in
theorem once_core (a : AT) (st : Int) (A : Option Addr) (n c : Nat) (y : Nat → Int) (dn : Int) (W : World) (h : NumsAt .u8 255 W A n y) (hst : 0 ≤ st ∧ st ≤ 65535) (hdn : 0 ≤ dn ∧ dn ≤ 255) (hm : n ≤ maxLen) :
    Calls Try.prog 6 #[a.val, .int .u16 st, .slice A n c, .int .u8 dn] W fun e w' => e = .returned (.bool true) ∧ Below W.heap.size W w' := by
  have H := Lib.hid h
  unfold maxLen at hm
  obtain ⟨a0, a1, a2, a3, a4⟩ := a
  obtain ⟨W0, hW0⟩ : ∃ W0, W.alloc (.cells #[.int .i64 a0, .int .i64 a1, .int .i64 a2, .int .i64 a3, .int .i64 a4] 43) = W0 := ⟨_, rfl⟩
  have HB0 : Hid (Below W.heap.size W W0) := by unfold Hid; rw [← hW0]; exact (Below.refl _ _).alloc (Nat.le_refl _) _
  have HX0 : Hid (W0.cell? ⟨W.heap.size, 0, none⟩ = some (.int .i64 a0)) := by unfold Hid; rw [← hW0]; simp
  have HX1 : Hid (W0.cell? ⟨W.heap.size, 1, none⟩ = some (.int .i64 a1)) := by unfold Hid; rw [← hW0]; simp
  have HX2 : Hid (W0.cell? ⟨W.heap.size, 2, none⟩ = some (.int .i64 a2)) := by unfold Hid; rw [← hW0]; simp
  have HX3 : Hid (W0.cell? ⟨W.heap.size, 3, none⟩ = some (.int .i64 a3)) := by unfold Hid; rw [← hW0]; simp
  have HX4 : Hid (W0.cell? ⟨W.heap.size, 4, none⟩ = some (.int .i64 a4)) := by unfold Hid; rw [← hW0]; simp
  have CS := Lib.hid fun (W : World) => speaks_any W
  have CN := Lib.hid fun (W : World) => new1 ⟨a0, a1, a2, a3, a4⟩ W
  unfold AT.cells at CN
  dsimp only at CN
  unfold AT.val
  dsimp only
  clear h
  by_cases h40 : 40 < n
  · have hd : decide (40 < (n : Int)) = true := by simp; omega
    go_enter Try.func6, Try.ntmps6
    go_wp2_with fail
    refine (CS.out _).mono ?_
    rintro e w1 ⟨rfl, b1⟩
    go_wp2_with fail
    refine (CS.out _).mono ?_
    rintro e w2 ⟨rfl, b2⟩
    go_wp2_with fail
    go_ret
    have b0 := HB0.out
    exact ⟨rfl, b0.trans ((b1.trans (b2.mono b1.size)).mono b0.size)⟩
  · have hd : decide (40 < (n : Int)) = false := by simp; omega
    have hn40 : n ≤ 40 := by omega
    clear h40 hm
    go_enter Try.func6, Try.ntmps6
    go_wp2_with fail
    refine (CS.out _).mono ?_
    rintro e W1 ⟨rfl, b1⟩
    have x0 : W1.cell? ⟨W.heap.size, 0, none⟩ = some (.int .i64 a0) := cell_later b1 HX0.out
    have x1 : W1.cell? ⟨W.heap.size, 1, none⟩ = some (.int .i64 a1) := cell_later b1 HX1.out
    have x2 : W1.cell? ⟨W.heap.size, 2, none⟩ = some (.int .i64 a2) := cell_later b1 HX2.out
    have x3 : W1.cell? ⟨W.heap.size, 3, none⟩ = some (.int .i64 a3) := cell_later b1 HX3.out
    have x4 : W1.cell? ⟨W.heap.size, 4, none⟩ = some (.int .i64 a4) := cell_later b1 HX4.out
    have HB1 : Hid (Below W.heap.size W W1) := HB0.out.trans (b1.mono HB0.out.size)
    clear b1
    go_wp2_with fail
    refine (CN.out W1).mono ?_
    rintro e W2 ⟨hbad, hok, hb⟩
    have HY0 : Hid (W1.cell? ⟨W.heap.size, 0, none⟩ = some (.int .i64 a0)) := x0
    have HY1 : Hid (W1.cell? ⟨W.heap.size, 1, none⟩ = some (.int .i64 a1)) := x1
    have HY2 : Hid (W1.cell? ⟨W.heap.size, 2, none⟩ = some (.int .i64 a2)) := x2
    have HY3 : Hid (W1.cell? ⟨W.heap.size, 3, none⟩ = some (.int .i64 a3)) := x3
    have HY4 : Hid (W1.cell? ⟨W.heap.size, 4, none⟩ = some (.int .i64 a4)) := x4
    have z1 : W2.cell? ⟨W.heap.size, 1, none⟩ = some (.int .i64 a1) := cell_later hb x1
    have z3 : W2.cell? ⟨W.heap.size, 3, none⟩ = some (.int .i64 a3) := cell_later hb x3
    have z4 : W2.cell? ⟨W.heap.size, 4, none⟩ = some (.int .i64 a4) := cell_later hb x4
    have HB2 : Hid (Below W.heap.size W W2) := HB1.out.trans (hb.mono HB1.out.size)
    clear hb x0 x1 x2 x3 x4
    rcases hf : fitsA ⟨a0, a1, a2, a3, a4⟩ with _ | _
    · obtain rfl := hbad hf
      clear hbad hok hf
      go_wp2_with fail
      go_ret
      exact ⟨rfl, HB2.out⟩
    · obtain ⟨p, rb, rfl, ht⟩ := hok hf
      have HT := Lib.hid ht
      have hfa : FitsA ⟨a0, a1, a2, a3, a4⟩ := by simpa [fitsA] using hf
      have HF := Lib.hid hfa
      have hnil : ∀ W : World, (binOp .eql 25 (.pointer (some ⟨p, 0, none⟩)) (.pointer none)).run Try.prog W = .ok (.bool false) W := fun _ => rfl
      clear hbad hok hf ht CN hfa
      obtain ⟨hst0, hst1⟩ := hst
      obtain ⟨hdn0, hdn1⟩ := hdn
      by_cases h3 : a3 = 0
      · subst h3
        go_wp2_with fail
        go_ret
        exact ⟨rfl, HB2.out⟩
      · have hd3 : (a3 == 0) = false := by simpa using h3
        obtain ⟨⟨q11, q12⟩, _, ⟨q31, q32⟩, ⟨q41, q42⟩, _⟩ := HF.out
        dsimp only at q11 q12 q31 q32 q41 q42
        have HDEA : Hid (0 < (⟨a0, a1, a2, a3, a4⟩ : AT).dea) := by show 0 < a3; omega
        have HPER : Hid (0 ≤ (⟨a0, a1, a2, a3, a4⟩ : AT).per) := q11
        clear h3
        have C1 := Lib.hid (start1 (t := st) HT.out ⟨hst0, by omega⟩ rfl)
        by_cases h4 : 0 < a4
        · have hd4 : decide (0 < a4) = true := by simpa using h4
          rw [g_start (a := ⟨a0, a1, a2, a3, a4⟩) h4] at C1
          dsimp only at C1
          have C2 := Lib.hid fun (W : World) (h : T1 W1 W p rb (gR ⟨a0, a1, a2, a3, a4⟩ (st + a4))) => missed1_no (t := st + a4 + a3) h (by simp [lateB, gR])
          have C3 := Lib.hid fun (W : World) (h : T1 W1 W p rb (gR ⟨a0, a1, a2, a3, a4⟩ (st + a4))) => (release1 (t := st + a4) h ⟨by omega, by omega⟩ (decide_eq_true ⟨rfl, Int.le_refl _⟩) (by show 0 ≤ st + a4; omega)).mono (R' := fun e w' => e = .returned (.int .i64 0) ∧ T1 W1 w' p rb (oP ⟨a0, a1, a2, a3, a4⟩ (st + a4) false)) fun _ _ h => h
          clear h4
          go_wp2_with fail
          refine C1.out.mono ?_
          rintro e V1 ⟨rfl, ht⟩
          have HV1 := Lib.hid ht
          have y3 := ht.cell HY3.out
          have y4 := ht.cell HY4.out
          clear ht C1 HT z1 z3 z4
          go_wp2_with fail
          refine (C2.out _ HV1.out).mono ?_
          rintro e V2 ⟨⟨A2, c2, rfl⟩, ht⟩
          have HV2 := Lib.hid ht
          have y4 := ht.cell HY4.out
          clear ht C2 HV1
          go_wp2_with fail
          refine (C3.out _ HV2.out).mono ?_
          rintro e V3 ⟨rfl, ht⟩
          have HV3 := Lib.hid ht
          have y4 := ht.cell HY4.out
          clear ht C3 HV2
          go_wp2_with fail
          go_loopw [11, 13, 79] (fun v11 v13 v wr => ORel n ⟨a0, a1, a2, a3, a4⟩ (st + a4) W1 p rb v11 v13 v wr) (fun _ _ v => fun _ => n - (intOf v).toNat)
          case atStart => exact ⟨⟨0, _, false, Nat.zero_le _, rfl, rfl, rfl, by omega, by omega, HV3.out⟩⟩
          case round =>
            clear HV3
            obtain ⟨⟨k, now, was, hk, rfl, rfl, rfl, hn0, hn1, ht⟩⟩ := hrel
            have HK := Lib.hid hk
            by_cases hlt : k < n
            · have HX : Hid (k < n) := hlt
              obtain ⟨b, off, rfl, hc⟩ := H.out.ex (by omega)
              have hcz := hc k hlt
              have hyk := H.out.bd k
              obtain ⟨z, hz⟩ : ∃ z, y k = z := ⟨_, rfl⟩
              rw [hz] at hcz hyk
              obtain ⟨hz0, hz1⟩ := hyk
              have dk : wr.cell? ⟨b, off + k, none⟩ = some (.int .u8 z) := ht.cell (cell_later HB1.out hcz)
              have HT := Lib.hid ht
              have y1 := ht.cell HY1.out
              have y3 := ht.cell HY3.out
              have hn2 : now ≤ 2020000 := by omega
              have HN2 : Hid (now + z ≤ 2000000 + 255 * ((k + 1 : Nat) : Int)) := by unfold Hid; omega
              have hkI : (k : Int) < (n : Int) := by omega
              clear hc hcz hz hn1 hk hlt ht
              by_cases hkd : (k : Int) = dn
              · have hdk : ((k : Int) == dn) = true := by simpa using hkd
                have CD := Lib.hid ((done1 (t := st + a4) HT.out ⟨by omega, by omega⟩ rfl))
                have HLT : Hid (lateB (doneP (oP ⟨a0, a1, a2, a3, a4⟩ (st + a4) was) (st + a4)) (st + a4 + a3 + a1) = false) := by
                  rcases (o_done_late (a := ⟨a0, a1, a2, a3, a4⟩) (b := st + a4) (t := st + a4 + a3 + a1) (m := was)) with h | h
                  · exact h
                  · exact absurd HPER.out h
                obtain ⟨X, hX⟩ : ∃ X, doneP (oP ⟨a0, a1, a2, a3, a4⟩ (st + a4) was) (st + a4) = X := ⟨_, rfl⟩
                obtain ⟨dv, hdv⟩ : ∃ dv, doneN (oP ⟨a0, a1, a2, a3, a4⟩ (st + a4) was) = dv := ⟨_, rfl⟩
                rw [hX] at CD HLT
                rw [hdv] at CD
                clear hX hdv hkd
                go_wp2_with fail
                refine CD.out.mono ?_
                rintro e W6 ⟨rfl, ht⟩
                have y1 := ht.cell HY1.out
                have y3 := ht.cell HY3.out
                have CM := Lib.hid (missed1_no ht HLT.out)
                clear ht CD
                go_wp2_with fail
                refine CM.out.mono ?_
                rintro e W7 ⟨⟨A7, c7, rfl⟩, ht⟩
                clear CM
                go_wp2_with fail
                go_ret
                exact ⟨rfl, HB1.out.trans (ht.b.mono HB1.out.size)⟩
              · have hdk : ((k : Int) == dn) = false := by simpa using hkd
                have HLB := Lib.hid (o_late (a := ⟨a0, a1, a2, a3, a4⟩) (b := st + a4) (t := now + z) (m := was) HDEA.out)
                dsimp only at HLB
                clear hkd
                by_cases hle : st + a4 + a3 ≤ now + z
                · cases was with
                  | false =>
                    have hge : decide (st + a4 + a3 ≤ now + z) = true := by simpa using hle
                    have hlate : lateB (oP ⟨a0, a1, a2, a3, a4⟩ (st + a4) false) (now + z) = true := by rw [HLB.out, hge]; rfl
                    have CM := Lib.hid (missed1_yes HT.out hlate)
                    clear hlate HLB hle
                    go_wp2_with fail
                    refine CM.out.mono ?_
                    rintro e W6 ⟨⟨g6, c6, rfl, hg6⟩, ht⟩
                    have HT6 : Hid (T1 W1 W6 p rb (oP ⟨a0, a1, a2, a3, a4⟩ (st + a4) true)) := ht
                    have y3 := ht.cell HY3.out
                    clear ht CM HT
                    go_wp2_with fail
                    refine (ieq_one g6 W6.heap.size 0 _ _ _ (cell_al _ hg6) (by simp)).mono ?_
                    rintro e W7 ⟨rfl, hb7⟩
                    have HT7 := Lib.hid (HT6.out.below (((Below.refl _ _).alloc (Nat.le_refl _) _).trans (hb7.mono (by simp))))
                    clear hb7 hg6 HT6
                    go_wp2_with fail
                    go_roundw
                    case rel =>
                      have Q : ORel n ⟨a0, a1, a2, a3, a4⟩ (st + a4) W1 p rb (.int .i64 (now + z)) (.bool true) (.int .i64 ((k : Int) + 1)) W7 := ⟨⟨k + 1, now + z, true, HX.out, by go_num, rfl, rfl, by omega, HN2.out, HT7.out⟩⟩
                      first | exact Q | ((repeat apply Exists.intro); exact ⟨Q, rfl⟩)
                    case measure => have := HX.out; simp [intOf]; omega
                  | true =>
                    have hge : decide (st + a4 + a3 ≤ now + z) = true := by simpa using hle
                    have hlate : lateB (oP ⟨a0, a1, a2, a3, a4⟩ (st + a4) true) (now + z) = false := by rw [HLB.out, hge]; rfl
                    have CM := Lib.hid (missed1_no HT.out hlate)
                    clear hlate HLB hle
                    go_wp2_with fail
                    refine CM.out.mono ?_
                    rintro e W6 ⟨⟨A6, c6, rfl⟩, ht⟩
                    have HT6 := Lib.hid ht
                    have y3 := ht.cell HY3.out
                    clear ht CM HT
                    go_wp2_with fail
                    refine (ieq_len _ _ 0 1 _ _ _ (by omega) (by omega) (by omega)).mono ?_
                    rintro e W7 ⟨rfl, hb7⟩
                    have HT7 := Lib.hid (HT6.out.below (((Below.refl _ _).alloc (Nat.le_refl _) _).trans (hb7.mono (by simp))))
                    clear hb7 HT6
                    go_wp2_with fail
                    go_roundw
                    case rel =>
                      have Q : ORel n ⟨a0, a1, a2, a3, a4⟩ (st + a4) W1 p rb (.int .i64 (now + z)) (.bool true) (.int .i64 ((k : Int) + 1)) W7 := ⟨⟨k + 1, now + z, true, HX.out, by go_num, rfl, rfl, by omega, HN2.out, HT7.out⟩⟩
                      first | exact Q | ((repeat apply Exists.intro); exact ⟨Q, rfl⟩)
                    case measure => have := HX.out; simp [intOf]; omega
                · cases was with
                  | false =>
                    have hge : decide (st + a4 + a3 ≤ now + z) = false := by simpa using hle
                    have hlate : lateB (oP ⟨a0, a1, a2, a3, a4⟩ (st + a4) false) (now + z) = false := by rw [HLB.out, hge]; rfl
                    have CM := Lib.hid (missed1_no HT.out hlate)
                    clear hlate HLB hle
                    go_wp2_with fail
                    refine CM.out.mono ?_
                    rintro e W6 ⟨⟨A6, c6, rfl⟩, ht⟩
                    have HT6 := Lib.hid ht
                    have y3 := ht.cell HY3.out
                    clear ht CM HT
                    go_wp2_with fail
                    refine (ieq_len _ _ 0 1 _ _ _ (by omega) (by omega) (by omega)).mono ?_
                    rintro e W7 ⟨rfl, hb7⟩
                    have HT7 := Lib.hid (HT6.out.below (((Below.refl _ _).alloc (Nat.le_refl _) _).trans (hb7.mono (by simp))))
                    clear hb7 HT6
                    go_wp2_with fail
                    go_roundw
                    case rel =>
                      have Q : ORel n ⟨a0, a1, a2, a3, a4⟩ (st + a4) W1 p rb (.int .i64 (now + z)) (.bool false) (.int .i64 ((k : Int) + 1)) W7 := ⟨⟨k + 1, now + z, false, HX.out, by go_num, rfl, rfl, by omega, HN2.out, HT7.out⟩⟩
                      first | exact Q | ((repeat apply Exists.intro); exact ⟨Q, rfl⟩)
                    case measure => have := HX.out; simp [intOf]; omega
                  | true =>
                    have hge : decide (st + a4 + a3 ≤ now + z) = false := by simpa using hle
                    have hlate : lateB (oP ⟨a0, a1, a2, a3, a4⟩ (st + a4) true) (now + z) = false := by rw [HLB.out, hge]; rfl
                    have CM := Lib.hid (missed1_no HT.out hlate)
                    clear hlate HLB hle
                    go_wp2_with fail
                    refine CM.out.mono ?_
                    rintro e W6 ⟨⟨A6, c6, rfl⟩, ht⟩
                    have HT6 := Lib.hid ht
                    have y3 := ht.cell HY3.out
                    clear ht CM HT
                    go_wp2_with fail
                    refine (ieq_len _ _ 0 1 _ _ _ (by omega) (by omega) (by omega)).mono ?_
                    rintro e W7 ⟨rfl, hb7⟩
                    have HT7 := Lib.hid (HT6.out.below (((Below.refl _ _).alloc (Nat.le_refl _) _).trans (hb7.mono (by simp))))
                    clear hb7 HT6
                    go_wp2_with fail
                    go_roundw
                    case rel =>
                      have Q : ORel n ⟨a0, a1, a2, a3, a4⟩ (st + a4) W1 p rb (.int .i64 (now + z)) (.bool true) (.int .i64 ((k : Int) + 1)) W7 := ⟨⟨k + 1, now + z, true, HX.out, by go_num, rfl, rfl, by omega, HN2.out, HT7.out⟩⟩
                      first | exact Q | ((repeat apply Exists.intro); exact ⟨Q, rfl⟩)
                    case measure => have := HX.out; simp [intOf]; omega
            · have hkn : k = n := by omega
              subst hkn
              have HFIN := Lib.hid ht.b
              clear hlt hk ht
              go_wp2_with fail
              go_ret
              exact ⟨rfl, HB1.out.trans (HFIN.out.mono HB1.out.size)⟩
        · have hz4 : a4 = 0 := by omega
          subst hz4
          rw [g_start0 (a := ⟨a0, a1, a2, a3, 0⟩) rfl] at C1
          clear h4
          go_wp2_with fail
          refine C1.out.mono ?_
          rintro e V3 ⟨rfl, ht⟩
          have HV3 : Hid (T1 W1 V3 p rb (oP ⟨a0, a1, a2, a3, 0⟩ st false)) := ht
          have y4 := ht.cell HY4.out
          clear ht C1 HT z1 z3 z4
          go_wp2_with fail
          go_loopw [11, 13, 79] (fun v11 v13 v wr => ORel n ⟨a0, a1, a2, a3, 0⟩ (st) W1 p rb v11 v13 v wr) (fun _ _ v => fun _ => n - (intOf v).toNat)
          case atStart => exact ⟨⟨0, _, false, Nat.zero_le _, rfl, rfl, rfl, by omega, by omega, HV3.out⟩⟩
          case round =>
            clear HV3
            obtain ⟨⟨k, now, was, hk, rfl, rfl, rfl, hn0, hn1, ht⟩⟩ := hrel
            have HK := Lib.hid hk
            by_cases hlt : k < n
            · have HX : Hid (k < n) := hlt
              obtain ⟨b, off, rfl, hc⟩ := H.out.ex (by omega)
              have hcz := hc k hlt
              have hyk := H.out.bd k
              obtain ⟨z, hz⟩ : ∃ z, y k = z := ⟨_, rfl⟩
              rw [hz] at hcz hyk
              obtain ⟨hz0, hz1⟩ := hyk
              have dk : wr.cell? ⟨b, off + k, none⟩ = some (.int .u8 z) := ht.cell (cell_later HB1.out hcz)
              have HT := Lib.hid ht
              have y1 := ht.cell HY1.out
              have y3 := ht.cell HY3.out
              have hn2 : now ≤ 2020000 := by omega
              have HN2 : Hid (now + z ≤ 2000000 + 255 * ((k + 1 : Nat) : Int)) := by unfold Hid; omega
              have hkI : (k : Int) < (n : Int) := by omega
              clear hc hcz hz hn1 hk hlt ht
              by_cases hkd : (k : Int) = dn
              · have hdk : ((k : Int) == dn) = true := by simpa using hkd
                have CD := Lib.hid ((done1 (t := st) HT.out ⟨by omega, by omega⟩ rfl))
                have HLT : Hid (lateB (doneP (oP ⟨a0, a1, a2, a3, 0⟩ (st) was) (st)) (st + a3 + a1) = false) := by
                  rcases (o_done_late (a := ⟨a0, a1, a2, a3, 0⟩) (b := st) (t := st + a3 + a1) (m := was)) with h | h
                  · exact h
                  · exact absurd HPER.out h
                obtain ⟨X, hX⟩ : ∃ X, doneP (oP ⟨a0, a1, a2, a3, 0⟩ (st) was) (st) = X := ⟨_, rfl⟩
                obtain ⟨dv, hdv⟩ : ∃ dv, doneN (oP ⟨a0, a1, a2, a3, 0⟩ (st) was) = dv := ⟨_, rfl⟩
                rw [hX] at CD HLT
                rw [hdv] at CD
                clear hX hdv hkd
                go_wp2_with fail
                refine CD.out.mono ?_
                rintro e W6 ⟨rfl, ht⟩
                have y1 := ht.cell HY1.out
                have y3 := ht.cell HY3.out
                have CM := Lib.hid (missed1_no ht HLT.out)
                clear ht CD
                go_wp2_with fail
                refine CM.out.mono ?_
                rintro e W7 ⟨⟨A7, c7, rfl⟩, ht⟩
                clear CM
                go_wp2_with fail
                go_ret
                exact ⟨rfl, HB1.out.trans (ht.b.mono HB1.out.size)⟩
              · have hdk : ((k : Int) == dn) = false := by simpa using hkd
                have HLB := Lib.hid (o_late (a := ⟨a0, a1, a2, a3, 0⟩) (b := st) (t := now + z) (m := was) HDEA.out)
                dsimp only at HLB
                clear hkd
                by_cases hle : st + a3 ≤ now + z
                · cases was with
                  | false =>
                    have hge : decide (st + a3 ≤ now + z) = true := by simpa using hle
                    have hlate : lateB (oP ⟨a0, a1, a2, a3, 0⟩ (st) false) (now + z) = true := by rw [HLB.out, hge]; rfl
                    have CM := Lib.hid (missed1_yes HT.out hlate)
                    clear hlate HLB hle
                    go_wp2_with fail
                    refine CM.out.mono ?_
                    rintro e W6 ⟨⟨g6, c6, rfl, hg6⟩, ht⟩
                    have HT6 : Hid (T1 W1 W6 p rb (oP ⟨a0, a1, a2, a3, 0⟩ (st) true)) := ht
                    have y3 := ht.cell HY3.out
                    clear ht CM HT
                    go_wp2_with fail
                    refine (ieq_one g6 W6.heap.size 0 _ _ _ (cell_al _ hg6) (by simp)).mono ?_
                    rintro e W7 ⟨rfl, hb7⟩
                    have HT7 := Lib.hid (HT6.out.below (((Below.refl _ _).alloc (Nat.le_refl _) _).trans (hb7.mono (by simp))))
                    clear hb7 hg6 HT6
                    go_wp2_with fail
                    go_roundw
                    case rel =>
                      have Q : ORel n ⟨a0, a1, a2, a3, 0⟩ (st) W1 p rb (.int .i64 (now + z)) (.bool true) (.int .i64 ((k : Int) + 1)) W7 := ⟨⟨k + 1, now + z, true, HX.out, by go_num, rfl, rfl, by omega, HN2.out, HT7.out⟩⟩
                      first | exact Q | ((repeat apply Exists.intro); exact ⟨Q, rfl⟩)
                    case measure => have := HX.out; simp [intOf]; omega
                  | true =>
                    have hge : decide (st + a3 ≤ now + z) = true := by simpa using hle
                    have hlate : lateB (oP ⟨a0, a1, a2, a3, 0⟩ (st) true) (now + z) = false := by rw [HLB.out, hge]; rfl
                    have CM := Lib.hid (missed1_no HT.out hlate)
                    clear hlate HLB hle
                    go_wp2_with fail
                    refine CM.out.mono ?_
                    rintro e W6 ⟨⟨A6, c6, rfl⟩, ht⟩
                    have HT6 := Lib.hid ht
                    have y3 := ht.cell HY3.out
                    clear ht CM HT
                    go_wp2_with fail
                    refine (ieq_len _ _ 0 1 _ _ _ (by omega) (by omega) (by omega)).mono ?_
                    rintro e W7 ⟨rfl, hb7⟩
                    have HT7 := Lib.hid (HT6.out.below (((Below.refl _ _).alloc (Nat.le_refl _) _).trans (hb7.mono (by simp))))
                    clear hb7 HT6
                    go_wp2_with fail
                    go_roundw
                    case rel =>
                      have Q : ORel n ⟨a0, a1, a2, a3, 0⟩ (st) W1 p rb (.int .i64 (now + z)) (.bool true) (.int .i64 ((k : Int) + 1)) W7 := ⟨⟨k + 1, now + z, true, HX.out, by go_num, rfl, rfl, by omega, HN2.out, HT7.out⟩⟩
                      first | exact Q | ((repeat apply Exists.intro); exact ⟨Q, rfl⟩)
                    case measure => have := HX.out; simp [intOf]; omega
                · cases was with
                  | false =>
                    have hge : decide (st + a3 ≤ now + z) = false := by simpa using hle
                    have hlate : lateB (oP ⟨a0, a1, a2, a3, 0⟩ (st) false) (now + z) = false := by rw [HLB.out, hge]; rfl
                    have CM := Lib.hid (missed1_no HT.out hlate)
                    clear hlate HLB hle
                    go_wp2_with fail
                    refine CM.out.mono ?_
                    rintro e W6 ⟨⟨A6, c6, rfl⟩, ht⟩
                    have HT6 := Lib.hid ht
                    have y3 := ht.cell HY3.out
                    clear ht CM HT
                    go_wp2_with fail
                    refine (ieq_len _ _ 0 1 _ _ _ (by omega) (by omega) (by omega)).mono ?_
                    rintro e W7 ⟨rfl, hb7⟩
                    have HT7 := Lib.hid (HT6.out.below (((Below.refl _ _).alloc (Nat.le_refl _) _).trans (hb7.mono (by simp))))
                    clear hb7 HT6
                    go_wp2_with fail
                    go_roundw
                    case rel =>
                      have Q : ORel n ⟨a0, a1, a2, a3, 0⟩ (st) W1 p rb (.int .i64 (now + z)) (.bool false) (.int .i64 ((k : Int) + 1)) W7 := ⟨⟨k + 1, now + z, false, HX.out, by go_num, rfl, rfl, by omega, HN2.out, HT7.out⟩⟩
                      first | exact Q | ((repeat apply Exists.intro); exact ⟨Q, rfl⟩)
                    case measure => have := HX.out; simp [intOf]; omega
                  | true =>
                    have hge : decide (st + a3 ≤ now + z) = false := by simpa using hle
                    have hlate : lateB (oP ⟨a0, a1, a2, a3, 0⟩ (st) true) (now + z) = false := by rw [HLB.out, hge]; rfl
                    have CM := Lib.hid (missed1_no HT.out hlate)
                    clear hlate HLB hle
                    go_wp2_with fail
                    refine CM.out.mono ?_
                    rintro e W6 ⟨⟨A6, c6, rfl⟩, ht⟩
                    have HT6 := Lib.hid ht
                    have y3 := ht.cell HY3.out
                    clear ht CM HT
                    go_wp2_with fail
                    refine (ieq_len _ _ 0 1 _ _ _ (by omega) (by omega) (by omega)).mono ?_
                    rintro e W7 ⟨rfl, hb7⟩
                    have HT7 := Lib.hid (HT6.out.below (((Below.refl _ _).alloc (Nat.le_refl _) _).trans (hb7.mono (by simp))))
                    clear hb7 HT6
                    go_wp2_with fail
                    go_roundw
                    case rel =>
                      have Q : ORel n ⟨a0, a1, a2, a3, 0⟩ (st) W1 p rb (.int .i64 (now + z)) (.bool true) (.int .i64 ((k : Int) + 1)) W7 := ⟨⟨k + 1, now + z, true, HX.out, by go_num, rfl, rfl, by omega, HN2.out, HT7.out⟩⟩
                      first | exact Q | ((repeat apply Exists.intro); exact ⟨Q, rfl⟩)
                    case measure => have := HX.out; simp [intOf]; omega
            · have hkn : k = n := by omega
              subst hkn
              have HFIN := Lib.hid ht.b
              clear hlt hk ht
              go_wp2_with fail
              go_ret
              exact ⟨rfl, HB1.out.trans (HFIN.out.mono HB1.out.size)⟩
theorem once_walk (a : AT) (st : Int) (A : Option Addr) (n c : Nat) (zs : List Int) (dn : Int) (W : World) (hst : 0 ≤ st ∧ st ≤ 65535) (h : IsRow .u8 W A n c zs) (hdn : 0 ≤ dn ∧ dn ≤ 255) :
    Calls Try.prog 6 #[.agg a.cells.toArray, .int .u16 st, .slice A n c, .int .u8 dn] W fun e w' => e = .returned (.bool true) ∧ Below W.heap.size W w' := by
  obtain ⟨y, hy, _⟩ := nums_at (by decide) u8_wf h
  have hm : n ≤ maxLen := by
    rcases h with ⟨_, rfl, _, _⟩ | ⟨_, _, h1, h2, _⟩
    · exact Nat.zero_le _
    · exact Nat.le_trans h1 h2
  exact once_core a st A n c y dn W hy hst hdn hm
end Go.Proofs.Ytdabmbdikofhpaa.P
