/-
  The walk of ProcGrid. Each statement bears its own conditions.
-/
import Derived.Test.YtdabmbdikofhpaaPrJ
namespace Go.Proofs.Ytdabmbdikofhpaa.P
open Go.RowKit
set_option linter.unusedVariables false
set_option linter.unusedSimpArgs false
def gR (a : AT) (u : Int) : MP := ⟨a.pri, a.per, a.cap, a.dea, a.off, 3, false, a.pri, 0, u, 0, 0, false⟩
def gB (a : AT) (b : Int) : MP := ⟨a.pri, a.per, a.cap, a.dea, a.off, 1, false, a.pri, 0, 0, b, 0, false⟩
theorem g_start {a : AT} {t : Int} (h : 0 < a.off) : startP (freshP a) t = gR a (t + a.off) := by
  unfold startP
  rw [if_pos (show 0 < (freshP a).off from h)]
  rfl
theorem g_start0 {a : AT} {t : Int} (h : a.off = 0) : startP (freshP a) t = gB a t := by
  unfold startP
  rw [if_neg (show ¬ 0 < (freshP a).off by show ¬ 0 < a.off; omega)]
  rfl
theorem g_done {a : AT} {b t : Int} (h : a.per ≠ 0) (hl : b + a.per ≤ t) : doneP (gB a b) t = gB a (b + a.per) := by
  unfold doneP
  rw [if_neg (show ¬ (gB a b).per = 0 from h), if_pos (show (gB a b).frm + (gB a b).per ≤ t from hl)]
  rfl
theorem g_done_rest {a : AT} {b t : Int} (h : a.per ≠ 0) (hl : ¬ b + a.per ≤ t) : doneP (gB a b) t = gR a (b + a.per) := by
  unfold doneP
  rw [if_neg (show ¬ (gB a b).per = 0 from h), if_neg (show ¬ (gB a b).frm + (gB a b).per ≤ t from hl)]
  rfl
theorem g_doneN {a : AT} {b : Int} (h : a.per ≠ 0) : doneN (gB a b) = b + a.per := by
  unfold doneN
  rw [if_neg (show ¬ (gB a b).per = 0 from h)]
  rfl
structure GRel (n : Nat) (a : AT) (W1 : World) (p rb : Nat) (v9 v10 v : Value) (wr : World) : Prop where
  ex : ∃ (k : Nat) (now beg : Int), k ≤ n ∧ v = .int .i64 (k : Int) ∧ v9 = .int .i64 now ∧ v10 = .int .i64 beg ∧ 0 ≤ now ∧ now ≤ 2000000 * (k + 1) ∧ 0 ≤ beg ∧ beg ≤ 2000000 * (k + 1) ∧ ((now < beg ∧ T1 W1 wr p rb (gR a beg)) ∨ (beg ≤ now ∧ T1 W1 wr p rb (gB a beg)))
set_option maxRecDepth 100000 in
set_option maxHeartbeats 8000000 in
theorem grid_core (a : AT) (st : Int) (A : Option Addr) (n c : Nat) (y : Nat → Int) (W : World) (h : NumsAt .u16 65535 W A n y) (hst : 0 ≤ st ∧ st ≤ 65535) (hm : n ≤ maxLen) :
    Calls Try.prog 5 #[a.val, .int .u16 st, .slice A n c] W fun e w' => e = .returned (.bool true) ∧ Below W.heap.size W w' := by
  have H := Lib.hid h
  unfold maxLen at hm
  obtain ⟨a0, a1, a2, a3, a4⟩ := a
  obtain ⟨W0, hW0⟩ : ∃ W0, W.alloc (.cells #[.int .i64 a0, .int .i64 a1, .int .i64 a2, .int .i64 a3, .int .i64 a4] 43) = W0 := ⟨_, rfl⟩
  have HB0 : Hid (Below W.heap.size W W0) := by unfold Hid; rw [← hW0]; exact (Below.refl _ _).alloc (Nat.le_refl _) _
  have HX0 : Hid (W0.cell? ⟨W.heap.size, 0, none⟩ = some (.int .i64 a0)) := by unfold Hid; rw [← hW0]; simp
  have HX1 : Hid (W0.cell? ⟨W.heap.size, 1, none⟩ = some (.int .i64 a1)) := by unfold Hid; rw [← hW0]; simp
  have HX2 : Hid (W0.cell? ⟨W.heap.size, 2, none⟩ = some (.int .i64 a2)) := by unfold Hid; rw [← hW0]; simp
  have HX3 : Hid (W0.cell? ⟨W.heap.size, 3, none⟩ = some (.int .i64 a3)) := by unfold Hid; rw [← hW0]; simp
  have HX4 : Hid (W0.cell? ⟨W.heap.size, 4, none⟩ = some (.int .i64 a4)) := by unfold Hid; rw [← hW0]; simp
  have CS := Lib.hid fun (W : World) => speaks_any W
  have CN := Lib.hid fun (W : World) => new1 ⟨a0, a1, a2, a3, a4⟩ W
  unfold AT.cells at CN
  dsimp only at CN
  unfold AT.val
  dsimp only
  clear h
  by_cases h40 : 40 < n
  · have hd : decide (40 < (n : Int)) = true := by simp; omega
    go_enter Try.func5, Try.ntmps5
    go_wp2_with fail
    refine (CS.out _).mono ?_
    rintro e w1 ⟨rfl, b1⟩
    go_wp2_with fail
    refine (CS.out _).mono ?_
    rintro e w2 ⟨rfl, b2⟩
    go_wp2_with fail
    go_ret
    have b0 := HB0.out
    exact ⟨rfl, b0.trans ((b1.trans (b2.mono b1.size)).mono b0.size)⟩
  · have hd : decide (40 < (n : Int)) = false := by simp; omega
    have hn40 : n ≤ 40 := by omega
    clear h40 hm
    go_enter Try.func5, Try.ntmps5
    go_wp2_with fail
    refine (CS.out _).mono ?_
    rintro e W1 ⟨rfl, b1⟩
    have x0 : W1.cell? ⟨W.heap.size, 0, none⟩ = some (.int .i64 a0) := cell_later b1 HX0.out
    have x1 : W1.cell? ⟨W.heap.size, 1, none⟩ = some (.int .i64 a1) := cell_later b1 HX1.out
    have x2 : W1.cell? ⟨W.heap.size, 2, none⟩ = some (.int .i64 a2) := cell_later b1 HX2.out
    have x3 : W1.cell? ⟨W.heap.size, 3, none⟩ = some (.int .i64 a3) := cell_later b1 HX3.out
    have x4 : W1.cell? ⟨W.heap.size, 4, none⟩ = some (.int .i64 a4) := cell_later b1 HX4.out
    have HB1 : Hid (Below W.heap.size W W1) := HB0.out.trans (b1.mono HB0.out.size)
    clear b1
    go_wp2_with fail
    refine (CN.out W1).mono ?_
    rintro e W2 ⟨hbad, hok, hb⟩
    have HY0 : Hid (W1.cell? ⟨W.heap.size, 0, none⟩ = some (.int .i64 a0)) := x0
    have HY1 : Hid (W1.cell? ⟨W.heap.size, 1, none⟩ = some (.int .i64 a1)) := x1
    have HY2 : Hid (W1.cell? ⟨W.heap.size, 2, none⟩ = some (.int .i64 a2)) := x2
    have HY3 : Hid (W1.cell? ⟨W.heap.size, 3, none⟩ = some (.int .i64 a3)) := x3
    have HY4 : Hid (W1.cell? ⟨W.heap.size, 4, none⟩ = some (.int .i64 a4)) := x4
    have z1 : W2.cell? ⟨W.heap.size, 1, none⟩ = some (.int .i64 a1) := cell_later hb x1
    have z4 : W2.cell? ⟨W.heap.size, 4, none⟩ = some (.int .i64 a4) := cell_later hb x4
    have HB2 : Hid (Below W.heap.size W W2) := HB1.out.trans (hb.mono HB1.out.size)
    clear hb x0 x1 x2 x3 x4
    rcases hf : fitsA ⟨a0, a1, a2, a3, a4⟩ with _ | _
    · obtain rfl := hbad hf
      clear hbad hok hf
      go_wp2_with fail
      go_ret
      exact ⟨rfl, HB2.out⟩
    · obtain ⟨p, rb, rfl, ht⟩ := hok hf
      have HT := Lib.hid ht
      have hfa : FitsA ⟨a0, a1, a2, a3, a4⟩ := by simpa [fitsA] using hf
      have HF := Lib.hid hfa
      have hnil : ∀ W : World, (binOp .eql 25 (.pointer (some ⟨p, 0, none⟩)) (.pointer none)).run Try.prog W = .ok (.bool false) W := fun _ => rfl
      clear hbad hok hf ht CN hfa
      obtain ⟨hst0, hst1⟩ := hst
      by_cases h1 : a1 = 0
      · subst h1
        go_wp2_with fail
        go_ret
        exact ⟨rfl, HB2.out⟩
      · have hd1 : (a1 == 0) = false := by simpa using h1
        have HN1 : Hid (((⟨a0, a1, a2, a3, a4⟩ : AT).per) ≠ 0) := h1
        obtain ⟨⟨q11, q12⟩, _, _, ⟨q41, q42⟩, _⟩ := HF.out
        dsimp only at q11 q12 q41 q42
        clear h1
        obtain ⟨X, hX⟩ : ∃ X, startP (freshP ⟨a0, a1, a2, a3, a4⟩) st = X := ⟨_, rfl⟩
        have C1 := Lib.hid (start1 (t := st) HT.out ⟨hst0, by omega⟩ rfl)
        rw [hX] at C1
        have HGX : Hid ((st < st + a4 ∧ X = gR ⟨a0, a1, a2, a3, a4⟩ (st + a4)) ∨ (st + a4 ≤ st ∧ X = gB ⟨a0, a1, a2, a3, a4⟩ (st + a4))) := by
          unfold Hid
          by_cases h4 : 0 < a4
          · exact .inl ⟨by omega, by rw [← hX, g_start (a := ⟨a0, a1, a2, a3, a4⟩) h4]⟩
          · have hz : a4 = 0 := by omega
            subst hz
            exact .inr ⟨by omega, by rw [← hX, g_start0 (a := ⟨a0, a1, a2, a3, 0⟩) rfl, Int.add_zero]⟩
        clear hX
        go_wp2_with fail
        refine C1.out.mono ?_
        rintro e W3 ⟨rfl, ht⟩
        have HT3 := Lib.hid ht
        have z4 := ht.cell HY4.out
        clear ht C1 HT z1
        go_wp2_with fail
        go_loopw [9, 10, 55] (fun v9 v10 v wr => GRel n ⟨a0, a1, a2, a3, a4⟩ W1 p rb v9 v10 v wr) (fun _ _ v => fun _ => n - (intOf v).toNat)
        case atStart =>
          refine ⟨⟨0, st, st + a4, Nat.zero_le _, rfl, rfl, rfl, by omega, by omega, by omega, by omega, ?_⟩⟩
          rcases HGX.out with ⟨g1, g2⟩ | ⟨g1, g2⟩
          · exact .inl ⟨g1, by rw [← g2]; exact HT3.out⟩
          · exact .inr ⟨g1, by rw [← g2]; exact HT3.out⟩
        case round =>
          clear HT3 HGX z4
          obtain ⟨⟨k, now, beg, hk, rfl, rfl, rfl, hn0, hn1, hb0, hb1, hor⟩⟩ := hrel
          have HK := Lib.hid hk
          by_cases hlt : k < n
          · have HX : Hid (k < n) := hlt
            obtain ⟨b, off, rfl, hc⟩ := H.out.ex (by omega)
            have hcz := hc k hlt
            have hyk := H.out.bd k
            obtain ⟨z, hz⟩ : ∃ z, y k = z := ⟨_, rfl⟩
            rw [hz] at hcz hyk
            obtain ⟨hz0, hz1⟩ := hyk
            have HD : Hid (W1.cell? ⟨b, off + k, none⟩ = some (.int .u16 z)) := cell_later HB1.out hcz
            have hn2 : now ≤ 82000000 := by omega
            have hb2 : beg ≤ 82000000 := by omega
            have HN2 : Hid (now + z ≤ 2000000 * (((k + 1 : Nat) : Int) + 1)) := by unfold Hid; omega
            have HB3 : Hid (beg + z ≤ 2000000 * (((k + 1 : Nat) : Int) + 1)) := by unfold Hid; omega
            have HB4 : Hid (beg + a1 ≤ 2000000 * (((k + 1 : Nat) : Int) + 1)) := by unfold Hid; omega
            have hkI : (k : Int) < (n : Int) := by omega
            clear hc hcz hz hn1 hb1 hk hlt
            rcases hor with ⟨hord, ht⟩ | ⟨hord, ht⟩
            · have dk := ht.cell HD.out
              have C3 := Lib.hid (state1 ht)
              have hst3 : stateN (gR ⟨a0, a1, a2, a3, a4⟩ beg) = 3 := rfl
              rw [hst3] at C3
              clear hst3
              have C4 := Lib.hid fun (W : World) (h : T1 W1 W p rb (gR ⟨a0, a1, a2, a3, a4⟩ beg)) => until1 h rfl hb0
              dsimp only [gR] at C4
              have C5 := Lib.hid fun (W : World) (h : T1 W1 W p rb (gR ⟨a0, a1, a2, a3, a4⟩ beg)) => release1_state (t := beg - 1) h ⟨by omega, by omega⟩ (decide_eq_false (fun hh => by have : beg ≤ beg - 1 := hh.2; omega))
              have C6 := Lib.hid fun (W : World) (h : T1 W1 W p rb (gR ⟨a0, a1, a2, a3, a4⟩ beg)) => (release1 (t := beg) h ⟨by omega, by omega⟩ (decide_eq_true ⟨rfl, Int.le_refl _⟩) hb0).mono (R' := fun e w' => e = .returned (.int .i64 0) ∧ T1 W1 w' p rb (gB ⟨a0, a1, a2, a3, a4⟩ beg)) fun _ _ h => h
              clear ht
              go_wp2_with fail
              refine C3.out.mono ?_
              rintro e V1 ⟨rfl, ht⟩
              have HV1 := Lib.hid ht
              clear ht C3
              go_wp2_with fail
              refine (C4.out _ HV1.out).mono ?_
              rintro e V2 ⟨rfl, ht⟩
              have HV2 : Hid (T1 W1 V2 p rb (gR ⟨a0, a1, a2, a3, a4⟩ beg)) := ht
              clear ht C4 HV1
              have hdb : decide (beg ≤ now) = false := by simp; omega
              go_wp2_with fail
              refine (C5.out _ HV2.out).mono ?_
              rintro e V3 ⟨rfl, ht⟩
              have HV3 := Lib.hid ht
              clear ht C5 HV2
              go_wp2_with fail
              refine (C6.out _ HV3.out).mono ?_
              rintro e V4 ⟨rfl, ht⟩
              have HV4 := Lib.hid ht
              clear ht C6 HV3 hdb
              have CD := Lib.hid ((done1 (t := beg + z) HV4.out ⟨by omega, by omega⟩ rfl))
              rw [g_doneN HN1.out] at CD
              have y1 := HV4.out.cell HY1.out
              by_cases hle : beg + a1 ≤ beg + z
              · have hdl : decide (beg + a1 ≤ beg + z) = true := by simpa using hle
                have hdl2 : decide (a1 ≤ z) = true := by simp; omega
                have HLE := Lib.hid hle
                rw [g_done HN1.out hle] at CD
                dsimp only at CD
                clear hle
                go_wp2_with fail
                refine CD.out.mono ?_
                rintro e W6 ⟨rfl, ht⟩
                have HT6 := Lib.hid ht
                have y1 := ht.cell HY1.out
                have C6 := Lib.hid (state1 ht)
                clear ht CD
                go_wp2_with fail
                refine C6.out.mono ?_
                rintro e W7 ⟨rfl, ht⟩
                have HT7 := Lib.hid ht
                clear ht C6
                have hst7 : stateN (gB ⟨a0, a1, a2, a3, a4⟩ (beg + a1)) = 1 := rfl
                simp only [hst7]
                clear hst7
                go_wp2_with fail
                go_roundw
                case rel =>
                  have Q : GRel n ⟨a0, a1, a2, a3, a4⟩ W1 p rb (.int .i64 (beg + z)) (.int .i64 (beg + a1)) (.int .i64 ((k : Int) + 1)) W7 := ⟨⟨k + 1, beg + z, beg + a1, HX.out, by go_num, rfl, rfl, by omega, HB3.out, by omega, HB4.out, .inr ⟨HLE.out, HT7.out⟩⟩⟩
                  first | exact Q | ((repeat apply Exists.intro); exact ⟨Q, rfl⟩)
                case measure => have := HX.out; simp [intOf]; omega
              · have hdl : decide (beg + a1 ≤ beg + z) = false := by simpa using hle
                have hdl2 : decide (a1 ≤ z) = false := by simp; omega
                have HLE := Lib.hid hle
                rw [g_done_rest HN1.out hle] at CD
                dsimp only at CD
                clear hle
                go_wp2_with fail
                refine CD.out.mono ?_
                rintro e W6 ⟨rfl, ht⟩
                have HT6 := Lib.hid ht
                have y1 := ht.cell HY1.out
                have C6 := Lib.hid (state1 ht)
                clear ht CD
                go_wp2_with fail
                refine C6.out.mono ?_
                rintro e W7 ⟨rfl, ht⟩
                have HT7 := Lib.hid ht
                clear ht C6
                have hst7 : stateN (gR ⟨a0, a1, a2, a3, a4⟩ (beg + a1)) = 3 := rfl
                simp only [hst7]
                clear hst7
                go_wp2_with fail
                go_roundw
                case rel =>
                  have Q : GRel n ⟨a0, a1, a2, a3, a4⟩ W1 p rb (.int .i64 (beg + z)) (.int .i64 (beg + a1)) (.int .i64 ((k : Int) + 1)) W7 := ⟨⟨k + 1, beg + z, beg + a1, HX.out, by go_num, rfl, rfl, by omega, HB3.out, by omega, HB4.out, .inl ⟨by have := HLE.out; omega, HT7.out⟩⟩⟩
                  first | exact Q | ((repeat apply Exists.intro); exact ⟨Q, rfl⟩)
                case measure => have := HX.out; simp [intOf]; omega
            · have dk := ht.cell HD.out
              have C3 := Lib.hid (state1 ht)
              have hst3 : stateN (gB ⟨a0, a1, a2, a3, a4⟩ beg) = 1 := rfl
              rw [hst3] at C3
              clear hst3 ht
              go_wp2_with fail
              refine C3.out.mono ?_
              rintro e V4 ⟨rfl, ht⟩
              have HV4 := Lib.hid ht
              clear ht C3
              have CD := Lib.hid ((done1 (t := now + z) HV4.out ⟨by omega, by omega⟩ rfl))
              rw [g_doneN HN1.out] at CD
              have y1 := HV4.out.cell HY1.out
              by_cases hle : beg + a1 ≤ now + z
              · have hdl : decide (beg + a1 ≤ now + z) = true := by simpa using hle
                skip
                have HLE := Lib.hid hle
                rw [g_done HN1.out hle] at CD
                dsimp only at CD
                clear hle
                go_wp2_with fail
                refine CD.out.mono ?_
                rintro e W6 ⟨rfl, ht⟩
                have HT6 := Lib.hid ht
                have y1 := ht.cell HY1.out
                have C6 := Lib.hid (state1 ht)
                clear ht CD
                go_wp2_with fail
                refine C6.out.mono ?_
                rintro e W7 ⟨rfl, ht⟩
                have HT7 := Lib.hid ht
                clear ht C6
                have hst7 : stateN (gB ⟨a0, a1, a2, a3, a4⟩ (beg + a1)) = 1 := rfl
                simp only [hst7]
                clear hst7
                go_wp2_with fail
                go_roundw
                case rel =>
                  have Q : GRel n ⟨a0, a1, a2, a3, a4⟩ W1 p rb (.int .i64 (now + z)) (.int .i64 (beg + a1)) (.int .i64 ((k : Int) + 1)) W7 := ⟨⟨k + 1, now + z, beg + a1, HX.out, by go_num, rfl, rfl, by omega, HN2.out, by omega, HB4.out, .inr ⟨HLE.out, HT7.out⟩⟩⟩
                  first | exact Q | ((repeat apply Exists.intro); exact ⟨Q, rfl⟩)
                case measure => have := HX.out; simp [intOf]; omega
              · have hdl : decide (beg + a1 ≤ now + z) = false := by simpa using hle
                skip
                have HLE := Lib.hid hle
                rw [g_done_rest HN1.out hle] at CD
                dsimp only at CD
                clear hle
                go_wp2_with fail
                refine CD.out.mono ?_
                rintro e W6 ⟨rfl, ht⟩
                have HT6 := Lib.hid ht
                have y1 := ht.cell HY1.out
                have C6 := Lib.hid (state1 ht)
                clear ht CD
                go_wp2_with fail
                refine C6.out.mono ?_
                rintro e W7 ⟨rfl, ht⟩
                have HT7 := Lib.hid ht
                clear ht C6
                have hst7 : stateN (gR ⟨a0, a1, a2, a3, a4⟩ (beg + a1)) = 3 := rfl
                simp only [hst7]
                clear hst7
                go_wp2_with fail
                go_roundw
                case rel =>
                  have Q : GRel n ⟨a0, a1, a2, a3, a4⟩ W1 p rb (.int .i64 (now + z)) (.int .i64 (beg + a1)) (.int .i64 ((k : Int) + 1)) W7 := ⟨⟨k + 1, now + z, beg + a1, HX.out, by go_num, rfl, rfl, by omega, HN2.out, by omega, HB4.out, .inl ⟨by have := HLE.out; omega, HT7.out⟩⟩⟩
                  first | exact Q | ((repeat apply Exists.intro); exact ⟨Q, rfl⟩)
                case measure => have := HX.out; simp [intOf]; omega
          · have hkn : k = n := by omega
            subst hkn
            have hfin : Hid (Below W1.heap.size W1 wr) := by rcases hor with ⟨_, ht⟩ | ⟨_, ht⟩ <;> exact ht.b
            clear hlt hk hor
            go_wp2_with fail
            go_ret
            exact ⟨rfl, HB1.out.trans (hfin.out.mono HB1.out.size)⟩
theorem grid_walk (a : AT) (st : Int) (A : Option Addr) (n c : Nat) (zs : List Int) (W : World) (hst : 0 ≤ st ∧ st ≤ 65535) (h : IsRow .u16 W A n c zs) :
    Calls Try.prog 5 #[.agg a.cells.toArray, .int .u16 st, .slice A n c] W fun e w' => e = .returned (.bool true) ∧ Below W.heap.size W w' := by
  obtain ⟨y, hy, _⟩ := nums_at (by decide) u16_wf h
  have hm : n ≤ maxLen := by
    rcases h with ⟨_, rfl, _, _⟩ | ⟨_, _, h1, h2, _⟩
    · exact Nat.zero_le _
    · exact Nat.le_trans h1 h2
  exact grid_core a st A n c y W hy hst hm
end Go.Proofs.Ytdabmbdikofhpaa.P
