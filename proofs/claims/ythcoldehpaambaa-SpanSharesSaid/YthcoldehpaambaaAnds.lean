/-
  SpanAnds, the walk: for any three spans the Go text answers true, and writes nothing that was there. No conditions.
-/
import Derived.Test.YthcoldehpaambaaMeet
import Derived.Deep.DeepCutAuto
namespace Go.Proofs.Ythcoldehpaambaa
open Go.RowKit
set_option linter.unusedSimpArgs false

def lenT (a b : Int) : Int := max (b - a) 0
theorem and_comm_from (a b c d : Int) : andFrom c d a b = andFrom a b c d := by unfold andFrom; rw [Int.max_comm, Int.min_comm]
theorem and_comm_to (a b c d : Int) : andTo c d a b = andTo a b c d := by unfold andTo; rw [Int.max_comm, Int.min_comm]
theorem and_cases (a b c d : Int) : (max a c < min b d ∧ andFrom a b c d = max a c ∧ andTo a b c d = min b d) ∨ (min b d ≤ max a c ∧ andFrom a b c d = 0 ∧ andTo a b c d = 0) := by
  unfold andFrom andTo
  by_cases h : max a c < min b d
  · rw [if_pos h, if_pos h]; exact .inl ⟨h, rfl, rfl⟩
  · rw [if_neg h, if_neg h]; exact .inr ⟨by omega, rfl, rfl⟩
theorem len_and1 (a b c d : Int) : lenT (andFrom a b c d) (andTo a b c d) ≤ lenT a b := by
  unfold lenT; rcases and_cases a b c d with ⟨h, e1, e2⟩ | ⟨h, e1, e2⟩ <;> rw [e1, e2] <;> omega
theorem len_and2 (a b c d : Int) : lenT (andFrom a b c d) (andTo a b c d) ≤ lenT c d := by
  unfold lenT; rcases and_cases a b c d with ⟨h, e1, e2⟩ | ⟨h, e1, e2⟩ <;> rw [e1, e2] <;> omega
theorem len_self (a b : Int) : lenT (andFrom a b a b) (andTo a b a b) = lenT a b := by
  unfold lenT; rcases and_cases a b a b with ⟨h, e1, e2⟩ | ⟨h, e1, e2⟩ <;> rw [e1, e2] <;> omega
theorem len_assoc (a b c d e f : Int) : lenT (andFrom (andFrom a b c d) (andTo a b c d) e f) (andTo (andFrom a b c d) (andTo a b c d) e f) = lenT (andFrom a b (andFrom c d e f) (andTo c d e f)) (andTo a b (andFrom c d e f) (andTo c d e f)) := by
  unfold lenT
  rcases and_cases a b c d with ⟨h, e1, e2⟩ | ⟨h, e1, e2⟩ <;> rcases and_cases c d e f with ⟨h', e1', e2'⟩ | ⟨h', e1', e2'⟩ <;> rw [e1, e2, e1', e2']
  · rcases and_cases (max a c) (min b d) e f with ⟨k, i1, i2⟩ | ⟨k, i1, i2⟩ <;> rcases and_cases a b (max c e) (min d f) with ⟨k', i1', i2'⟩ | ⟨k', i1', i2'⟩ <;> rw [i1, i2, i1', i2'] <;> omega
  · rcases and_cases (max a c) (min b d) e f with ⟨k, i1, i2⟩ | ⟨k, i1, i2⟩ <;> rcases and_cases a b 0 0 with ⟨k', i1', i2'⟩ | ⟨k', i1', i2'⟩ <;> rw [i1, i2, i1', i2'] <;> omega
  · rcases and_cases 0 0 e f with ⟨k, i1, i2⟩ | ⟨k, i1, i2⟩ <;> rcases and_cases a b (max c e) (min d f) with ⟨k', i1', i2'⟩ | ⟨k', i1', i2'⟩ <;> rw [i1, i2, i1', i2'] <;> omega
  · rcases and_cases 0 0 e f with ⟨k, i1, i2⟩ | ⟨k, i1, i2⟩ <;> rcases and_cases a b 0 0 with ⟨k', i1', i2'⟩ | ⟨k', i1', i2'⟩ <;> rw [i1, i2, i1', i2'] <;> omega
theorem and_bd {a b c d : Int} (a1 : -1152921504606846976 ≤ a) (a2 : a ≤ 1152921504606846976) (b1 : -1152921504606846976 ≤ b) (b2 : b ≤ 1152921504606846976) (c1 : -1152921504606846976 ≤ c) (c2 : c ≤ 1152921504606846976) (d1 : -1152921504606846976 ≤ d) (d2 : d ≤ 1152921504606846976) :
    -1152921504606846976 ≤ andFrom a b c d ∧ andFrom a b c d ≤ 1152921504606846976 ∧ -1152921504606846976 ≤ andTo a b c d ∧ andTo a b c d ≤ 1152921504606846976 := by
  rcases and_cases a b c d with ⟨h, e1, e2⟩ | ⟨h, e1, e2⟩ <;> rw [e1, e2] <;> omega

theorem lenT_any (a b : Int) (w : World) (ha : -1152921504606846976 ≤ a) (ha' : a ≤ 1152921504606846976) (hb : -1152921504606846976 ≤ b) (hb' : b ≤ 1152921504606846976) :
    Calls Try.prog 12 #[.agg #[.int .i64 a, .int .i64 b]] w fun e w' => e = .returned (.int .i64 (lenT a b)) ∧ Below w.heap.size w w' := len_any a b w ha ha' hb hb'

theorem keep6d {n : Nat} {w0 w1 w2 : World} {a b c d e f : Addr} {x y z u v t : Value} (hb : Below n w1 w2) (hn : n = w1.heap.size)
    (h : Below w0.heap.size w0 w1 ∧ w1.cell? a = some x ∧ w1.cell? b = some y ∧ w1.cell? c = some z ∧ w1.cell? d = some u ∧ w1.cell? e = some v ∧ w1.cell? f = some t) :
    Below w0.heap.size w0 w2 ∧ w2.cell? a = some x ∧ w2.cell? b = some y ∧ w2.cell? c = some z ∧ w2.cell? d = some u ∧ w2.cell? e = some v ∧ w2.cell? f = some t := by
  subst hn; exact keep6 hb h

theorem six_of {w2 W : World} {p q r s t u : Addr} {x0 x1 x2 x3 x4 x5 : Value} (hB : Below w2.heap.size w2 W) (k0 : w2.cell? p = some x0) (k1 : w2.cell? q = some x1) (k2 : w2.cell? r = some x2) (k3 : w2.cell? s = some x3) (k4 : w2.cell? t = some x4) (k5 : w2.cell? u = some x5) :
    Below w2.heap.size w2 W ∧ W.cell? p = some x0 ∧ W.cell? q = some x1 ∧ W.cell? r = some x2 ∧ W.cell? s = some x3 ∧ W.cell? t = some x4 ∧ W.cell? u = some x5 :=
  ⟨hB, cell_later hB k0, cell_later hB k1, cell_later hB k2, cell_later hB k3, cell_later hB k4, cell_later hB k5⟩

theorem far_six (a b c d e f : Int) (w : World) : Calls Try.prog 11 #[.slice (some ⟨w.heap.size, 0, none⟩) 6 6] (w.alloc (.cells #[.int .i64 a, .int .i64 b, .int .i64 c, .int .i64 d, .int .i64 e, .int .i64 f] 3)) fun x w' => x = .returned (.bool (farB [a, b, c, d, e, f])) ∧ Below (w.alloc (.cells #[.int .i64 a, .int .i64 b, .int .i64 c, .int .i64 d, .int .i64 e, .int .i64 f] 3)).heap.size (w.alloc (.cells #[.int .i64 a, .int .i64 b, .int .i64 c, .int .i64 d, .int .i64 e, .int .i64 f] 3)) w' :=
  far_some w.heap.size 0 6 6 [a, b, c, d, e, f] _ rfl (by omega) (fun i hi => by match i, hi with | 0, _ => simp | 1, _ => simp | 2, _ => simp | 3, _ => simp | 4, _ => simp | 5, _ => simp)

set_option maxHeartbeats 4000000 in
theorem ands_walk (a b c d e f : Int) (w : World) :
    Calls Try.prog 4 #[.agg #[.int .i64 a, .int .i64 b], .agg #[.int .i64 c, .int .i64 d], .agg #[.int .i64 e, .int .i64 f]] w fun x w' => x = .returned (.bool true) ∧ Below w.heap.size w w' := by
  obtain ⟨B, HB⟩ : ∃ B, Hid (farB [a, b, c, d, e, f] = B) := ⟨_, rfl⟩
  go_enter Try.func4, Try.ntmps4
  go_wp2_with fail
  refine (speaks_any _).mono ?_
  rintro _ w1 ⟨rfl, hb⟩
  have k0 := cell_later hb (a := ⟨w.heap.size, 0, none⟩) (v := .int .i64 a) (by simp [go_sem, World.cell?_alloc_past])
  have k1 := cell_later hb (a := ⟨w.heap.size, 1, none⟩) (v := .int .i64 b) (by simp [go_sem, World.cell?_alloc_past])
  have k2 := cell_later hb (a := ⟨w.heap.size + 1, 0, none⟩) (v := .int .i64 c) (by simp [go_sem, World.cell?_alloc_past])
  have k3 := cell_later hb (a := ⟨w.heap.size + 1, 1, none⟩) (v := .int .i64 d) (by simp [go_sem, World.cell?_alloc_past])
  have k4 := cell_later hb (a := ⟨w.heap.size + 1 + 1, 0, none⟩) (v := .int .i64 e) (by simp [go_sem, World.cell?_alloc_past])
  have k5 := cell_later hb (a := ⟨w.heap.size + 1 + 1, 1, none⟩) (v := .int .i64 f) (by simp [go_sem, World.cell?_alloc_past])
  have bel1 : Below w.heap.size w w1 := ((((Below.refl _ _).alloc (Nat.le_refl _) _).alloc (by simp) _).alloc (by simp; omega) _).trans (hb.mono (by simp; omega))
  clear hb
  go_wp2_with fail
  have fs := far_six a b c d e f w1
  rw [HB.out] at fs
  refine fs.mono ?_
  clear fs
  rintro _ w2 ⟨rfl, hb⟩
  replace k0 := cell_later hb (cell_al _ k0)
  replace k1 := cell_later hb (cell_al _ k1)
  replace k2 := cell_later hb (cell_al _ k2)
  replace k3 := cell_later hb (cell_al _ k3)
  replace k4 := cell_later hb (cell_al _ k4)
  replace k5 := cell_later hb (cell_al _ k5)
  have bel2 : Below w.heap.size w w2 := (bel1.alloc bel1.size _).trans (hb.mono (by have := bel1.size; simp; omega))
  clear hb bel1
  cases B with
  | true =>
    go_wp2_with fail
    refine (speaks_any _).mono ?_
    rintro _ w3 ⟨rfl, hb⟩
    go_wp2_with fail
    go_ret
    exact ⟨rfl, bel2.trans (hb.mono bel2.size)⟩
  | false =>
    have hf := HB.out
    obtain ⟨a1, a2⟩ := farB_no hf 0 (by simp)
    obtain ⟨b1, b2⟩ := farB_no hf 1 (by simp)
    obtain ⟨c1, c2⟩ := farB_no hf 2 (by simp)
    obtain ⟨d1, d2⟩ := farB_no hf 3 (by simp)
    obtain ⟨e1, e2⟩ := farB_no hf 4 (by simp)
    obtain ⟨f1, f2⟩ := farB_no hf 5 (by simp)
    simp only [List.getD_cons_zero, List.getD_cons_succ] at a1 a2 b1 b2 c1 c2 d1 d2 e1 e2 f1 f2
    clear hf HB
    go_upto_region 3 with fail
    go_cut [7, 8, 9] (fun s7 s8 s9 wx => ∃ x y z : Nat, s7 = .pointer (some ⟨x, 0, none⟩) ∧ s8 = .pointer (some ⟨y, 0, none⟩) ∧ s9 = .pointer (some ⟨z, 0, none⟩) ∧
      Below w.heap.size w wx ∧ wx.cell? ⟨x, 0, none⟩ = some (.int .i64 a) ∧ wx.cell? ⟨x, 1, none⟩ = some (.int .i64 b) ∧ wx.cell? ⟨y, 0, none⟩ = some (.int .i64 c) ∧ wx.cell? ⟨y, 1, none⟩ = some (.int .i64 d) ∧ wx.cell? ⟨z, 0, none⟩ = some (.int .i64 e) ∧ wx.cell? ⟨z, 1, none⟩ = some (.int .i64 f))
    case first =>
      have bel3 := Lib.hid bel2
      clear bel2
      go_region_held3 (fun w' => Below w2.heap.size w2 w' ∧ w'.cell? ⟨w.heap.size, 0, none⟩ = some (.int .i64 a) ∧ w'.cell? ⟨w.heap.size, 1, none⟩ = some (.int .i64 b) ∧ w'.cell? ⟨w.heap.size + 1, 0, none⟩ = some (.int .i64 c) ∧ w'.cell? ⟨w.heap.size + 1, 1, none⟩ = some (.int .i64 d) ∧ w'.cell? ⟨w.heap.size + 1 + 1, 0, none⟩ = some (.int .i64 e) ∧ w'.cell? ⟨w.heap.size + 1 + 1, 1, none⟩ = some (.int .i64 f))
        ((refine six_of ?_ k0 k1 k2 k3 k4 k5; repeat (first | exact Below.refl _ _ | apply Below.drew | refine Below.alloc ?_ (by simp; try omega) _ | refine Below.setCell ?_ (by simp; try omega) _)))
        (fail)
      all_goals
        go_wp2_with fail
        go_meet
        refine ⟨_, _, _, rfl, rfl, rfl, bel3.out.trans (Below.mono ?_ bel3.out.size), ?_, ?_, ?_, ?_, ?_, ?_⟩
        · repeat (first | exact Below.refl _ _ | apply Below.drew | refine Below.alloc ?_ (by simp; try omega) _ | refine Below.setCell ?_ (by simp; try omega) _)
        all_goals simp [go_sem, World.cell?_alloc_past]
    case rest =>
      obtain ⟨x, y, z, rfl, rfl, rfl, hw⟩ := hcut
      clear k0 k1 k2 k3 k4 k5 bel2
      obtain ⟨hbel, h0, h1, h2, h3, h4, h5⟩ := hw
      have q1 := and_bd a1 a2 b1 b2 c1 c2 d1 d2
      have q2 := and_bd c1 c2 d1 d2 e1 e2 f1 f2
      obtain ⟨q10, q11, q12, q13⟩ := q1
      obtain ⟨q20, q21, q22, q23⟩ := q2
      obtain ⟨q30, q31, q32, q33⟩ := and_bd a1 a2 b1 b2 a1 a2 b1 b2
      obtain ⟨q40, q41, q42, q43⟩ := and_bd q10 q11 q12 q13 e1 e2 f1 f2
      obtain ⟨q50, q51, q52, q53⟩ := and_bd a1 a2 b1 b2 q20 q21 q22 q23
      have r1 := and_comm_from a b c d
      have r2 := and_comm_to a b c d
      have r3 := len_self a b
      have r4 := len_and1 a b c d
      have r5 := len_and2 a b c d
      have r6 := len_assoc a b c d e f
      have g1 : decide (lenT a b < lenT (andFrom a b c d) (andTo a b c d)) = false := by simp; omega
      have g2 : decide (lenT c d < lenT (andFrom a b c d) (andTo a b c d)) = false := by simp; omega
      have hcm : (lenT c d < lenT a b) = True ∨ (lenT c d < lenT a b) = False := by by_cases h : lenT c d < lenT a b <;> simp [h]
      rcases hcm with hcm | hcm
      all_goals
        go_wp2_with fail
        go_region_held3 (fun w' => Below w.heap.size w w' ∧ w'.cell? ⟨x, 0, none⟩ = some (.int .i64 a) ∧ w'.cell? ⟨x, 1, none⟩ = some (.int .i64 b) ∧ w'.cell? ⟨y, 0, none⟩ = some (.int .i64 c) ∧ w'.cell? ⟨y, 1, none⟩ = some (.int .i64 d) ∧ w'.cell? ⟨z, 0, none⟩ = some (.int .i64 e) ∧ w'.cell? ⟨z, 1, none⟩ = some (.int .i64 f))
          (first | assumption | exact keep6d hb rfl (by assumption) | exact ⟨hbel.drew, h0, h1, h2, h3, h4, h5⟩)
          (first | (go_at_call 13; refine (and_any _ _ _ _ _ (by omega) (by omega) (by omega) (by omega) (by omega) (by omega) (by omega) (by omega)).mono ?_; rintro _ w3 ⟨rfl, hb⟩) | (go_at_call 12; refine (lenT_any _ _ _ (by omega) (by omega) (by omega) (by omega)).mono ?_; rintro _ w3 ⟨rfl, hb⟩))
        rename_i hH
        clear hbel h0 h1 h2 h3 h4 h5
        obtain ⟨hbel, h0, h1, h2, h3, h4, h5⟩ := hH
        go_wp2_with fail
        go_region_held3 (fun w' => Below w.heap.size w w' ∧ w'.cell? ⟨x, 0, none⟩ = some (.int .i64 a) ∧ w'.cell? ⟨x, 1, none⟩ = some (.int .i64 b) ∧ w'.cell? ⟨y, 0, none⟩ = some (.int .i64 c) ∧ w'.cell? ⟨y, 1, none⟩ = some (.int .i64 d) ∧ w'.cell? ⟨z, 0, none⟩ = some (.int .i64 e) ∧ w'.cell? ⟨z, 1, none⟩ = some (.int .i64 f))
          (first | assumption | exact keep6d hb rfl (by assumption) | exact ⟨hbel.drew, h0, h1, h2, h3, h4, h5⟩)
          (first | (go_at_call 13; refine (and_any _ _ _ _ _ (by omega) (by omega) (by omega) (by omega) (by omega) (by omega) (by omega) (by omega)).mono ?_; rintro _ w3 ⟨rfl, hb⟩) | (go_at_call 12; refine (lenT_any _ _ _ (by omega) (by omega) (by omega) (by omega)).mono ?_; rintro _ w3 ⟨rfl, hb⟩))
        rename_i hH
        go_wp2_with fail
        go_ret
        exact ⟨bool_ret (by simp [r6]), hH.1⟩
end Go.Proofs.Ythcoldehpaambaa
