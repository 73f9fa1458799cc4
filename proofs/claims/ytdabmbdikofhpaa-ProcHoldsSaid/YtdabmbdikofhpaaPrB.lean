/-
  Contracts of what changes one process. Each statement bears its own conditions.
-/
import Derived.Test.YtdabmbdikofhpaaPrA
namespace Go.Proofs.Ytdabmbdikofhpaa.P
open Go.RowKit
set_option linter.unusedVariables false
set_option linter.unusedSimpArgs false
def PT (lo hi : Nat) (w : World) (p rb : Nat) (l : List MP) : Prop := RT lo hi w p rb (l.map MP.cells)
section
variable {lo hi p rb : Nat} {w w' : World} {L : List (List Value)}
theorem RT.al (h : RT lo hi w p rb L) (o : Obj) : RT lo hi (w.alloc o) p rb L := h.below ((Below.refl _ _).alloc (Nat.le_refl _) o)
theorem RT.start {i : Nat} {c : List Value} (h : RT lo hi w p rb L) (hc : L[i]? = some c) : RT lo hi w p rb (L.set i c) := by
  obtain ⟨h1, h2⟩ := List.getElem?_eq_some_iff.1 hc
  subst h2
  rw [List.set_getElem_self]; exact h
theorem RT.step {i j : Nat} {c : List Value} (hi' : i < L.length) (h : RT lo hi w p rb (L.set i c)) (hj : j < 13) (v : Value) (hv : v.oneCell' = true) : RT lo hi (w.setCell ⟨rb, i * 13 + j, none⟩ v) p rb (L.set i (c.set j v)) := by
  have := h.put (i := i) (c := c) (by simp [hi']) hj v hv
  rwa [List.set_set] at this
end
theorem PT.close {lo hi p rb i : Nat} {w : World} {l : List MP} {y : MP} (h : ∃ c, RT lo hi w p rb ((l.map MP.cells).set i c) ∧ c = y.cells) : PT lo hi w p rb (l.set i y) := by
  obtain ⟨c, h1, rfl⟩ := h
  unfold PT
  rwa [List.map_set]
theorem PT.below {lo hi p rb : Nat} {w w' : World} {l : List MP} (h : PT lo hi w p rb l) (hb : Below w.heap.size w w') : PT lo hi w' p rb l := RT.below h hb
theorem PT.past {lo hi p rb g : Nat} {w w' : World} {l : List MP} (h : PT lo hi w p rb l) (hb : Past g w w') (hg : g < lo ∨ hi ≤ g) : PT lo hi w' p rb l := RT.past h hb hg
theorem PT.at_ {lo hi p rb i : Nat} {w : World} {l : List MP} {x : MP} (h : PT lo hi w p rb l) (hx : l[i]? = some x) : At w rb (i * 13) x := At.of h hx
theorem PT.lt {lo hi p rb : Nat} {w : World} {l : List MP} (h : PT lo hi w p rb l) : p < w.heap.size ∧ rb < w.heap.size ∧ p ≠ rb := ⟨Nat.lt_of_lt_of_le h.hp.2 h.hs, Nat.lt_of_lt_of_le h.hr.2 h.hs, h.ne⟩
set_option maxRecDepth 100000 in
set_option maxHeartbeats 4000000 in
theorem stop_eff (lo hi p rb : Nat) (l : List MP) (i : Nat) (x : MP) (w : World) (h : PT lo hi w p rb l) (hx : l[i]? = some x) (ho : Ok x) :
    Calls Try.prog 39 #[.pointer (some ⟨rb, i * 13, none⟩)] w fun e w' => e = .returned (.tuple #[]) ∧ PT lo hi w' p rb (l.set i (stopP x)) ∧ Past rb w w' := by
  have hxc : (l.map MP.cells)[i]? = some x.cells := by simp [hx]
  have hin : i < (l.map MP.cells).length := (List.getElem?_eq_some_iff.1 hxc).1
  have HS := Lib.hid (RT.start h hxc)
  obtain ⟨c0, f0⟩ := RT.at_ h hxc (j := 0) rfl
  rw [Nat.add_zero] at c0 f0
  obtain ⟨c5, f5⟩ := RT.at_ h hxc (j := 5) rfl
  obtain ⟨c6, f6⟩ := RT.at_ h hxc (j := 6) rfl
  rw [show i * 13 + 6 = i * 13 + 5 + 1 by omega] at c6 f6
  obtain ⟨c7, f7⟩ := RT.at_ h hxc (j := 7) rfl
  rw [show i * 13 + 7 = i * 13 + 5 + 2 by omega] at c7 f7
  obtain ⟨c8, f8⟩ := RT.at_ h hxc (j := 8) rfl
  rw [show i * 13 + 8 = i * 13 + 5 + 3 by omega] at c8 f8
  obtain ⟨c9, f9⟩ := RT.at_ h hxc (j := 9) rfl
  rw [show i * 13 + 9 = i * 13 + 5 + 4 by omega] at c9 f9
  obtain ⟨c10, f10⟩ := RT.at_ h hxc (j := 10) rfl
  obtain ⟨c11, f11⟩ := RT.at_ h hxc (j := 11) rfl
  rw [show i * 13 + 11 = i * 13 + 10 + 1 by omega] at c11 f11
  obtain ⟨c12, f12⟩ := RT.at_ h hxc (j := 12) rfl
  rw [show i * 13 + 12 = i * 13 + 10 + 2 by omega] at c12 f12
  obtain ⟨hpz, hrz, hpr⟩ := PT.lt h
  have HPR := Lib.hid hpr
  have HIN := Lib.hid hin
  have HO := Lib.hid ho
  obtain ⟨x0, x1, x2, x3, x4, x5, x6, x7, x8, x9, x10, x11, x12⟩ := x
  have H := Lib.hid h
  have HX := Lib.hid hx
  clear h hxc hx hpr hin ho
  go_enter Try.func39, Try.ntmps39
  go_wp2_with go_in
  go_end0
  refine ⟨rfl, PT.close ?_, ?_⟩
  · apply Exists.intro
    apply And.intro
    · (try simp only [Nat.add_assoc, Nat.reduceAdd])
      repeat (first | with_reducible exact HS.out | (with_reducible refine RT.al ?_ _) | ((with_reducible apply RT.step HIN.out); rotate_left; exact of_decide_eq_true rfl; rfl; rotate_left))
    · rfl
  · repeat (first | with_reducible exact Past.refl _ _ | (with_reducible refine Past.setCell ?_ _ _) | (with_reducible refine Past.alloc ?_ _))
set_option maxRecDepth 100000 in
set_option maxHeartbeats 4000000 in
theorem goOn_eff (lo hi p rb : Nat) (l : List MP) (i : Nat) (x : MP) (w : World) (h : PT lo hi w p rb l) (hx : l[i]? = some x) (ho : Ok x) :
    Calls Try.prog 85 #[.pointer (some ⟨rb, i * 13 + 5, none⟩)] w fun e w' => e = .returned (.tuple #[]) ∧ PT lo hi w' p rb (l.set i (goOnP x)) ∧ Past rb w w' := by
  have hxc : (l.map MP.cells)[i]? = some x.cells := by simp [hx]
  have hin : i < (l.map MP.cells).length := (List.getElem?_eq_some_iff.1 hxc).1
  have HS := Lib.hid (RT.start h hxc)
  obtain ⟨c5, f5⟩ := RT.at_ h hxc (j := 5) rfl
  obtain ⟨c9, f9⟩ := RT.at_ h hxc (j := 9) rfl
  rw [show i * 13 + 9 = i * 13 + 5 + 4 by omega] at c9 f9
  obtain ⟨hpz, hrz, hpr⟩ := PT.lt h
  have HPR := Lib.hid hpr
  have HIN := Lib.hid hin
  have HO := Lib.hid ho
  obtain ⟨x0, x1, x2, x3, x4, x5, x6, x7, x8, x9, x10, x11, x12⟩ := x
  have H := Lib.hid h
  have HX := Lib.hid hx
  clear h hxc hx hpr hin ho
  go_enter Try.func85, Try.ntmps85
  go_wp2_with go_in
  go_end0
  refine ⟨rfl, PT.close ?_, ?_⟩
  · apply Exists.intro
    apply And.intro
    · (try simp only [Nat.add_assoc, Nat.reduceAdd])
      repeat (first | with_reducible exact HS.out | (with_reducible refine RT.al ?_ _) | ((with_reducible apply RT.step HIN.out); rotate_left; exact of_decide_eq_true rfl; rfl; rotate_left))
    · rfl
  · repeat (first | with_reducible exact Past.refl _ _ | (with_reducible refine Past.setCell ?_ _ _) | (with_reducible refine Past.alloc ?_ _))
set_option maxRecDepth 100000 in
set_option maxHeartbeats 4000000 in
theorem rest_eff (lo hi p rb : Nat) (l : List MP) (i : Nat) (x : MP) (t : Int) (w : World) (h : PT lo hi w p rb l) (hx : l[i]? = some x) (ho : Ok x) :
    Calls Try.prog 93 #[.pointer (some ⟨rb, i * 13, none⟩), .int .i64 t] w fun e w' => e = .returned (.tuple #[]) ∧ PT lo hi w' p rb (l.set i (restP x t)) ∧ Past rb w w' := by
  have hxc : (l.map MP.cells)[i]? = some x.cells := by simp [hx]
  have hin : i < (l.map MP.cells).length := (List.getElem?_eq_some_iff.1 hxc).1
  have HS := Lib.hid (RT.start h hxc)
  obtain ⟨c5, f5⟩ := RT.at_ h hxc (j := 5) rfl
  obtain ⟨c9, f9⟩ := RT.at_ h hxc (j := 9) rfl
  rw [show i * 13 + 9 = i * 13 + 5 + 4 by omega] at c9 f9
  obtain ⟨c10, f10⟩ := RT.at_ h hxc (j := 10) rfl
  obtain ⟨c11, f11⟩ := RT.at_ h hxc (j := 11) rfl
  rw [show i * 13 + 11 = i * 13 + 10 + 1 by omega] at c11 f11
  obtain ⟨c12, f12⟩ := RT.at_ h hxc (j := 12) rfl
  rw [show i * 13 + 12 = i * 13 + 10 + 2 by omega] at c12 f12
  obtain ⟨hpz, hrz, hpr⟩ := PT.lt h
  have HPR := Lib.hid hpr
  have HIN := Lib.hid hin
  have HO := Lib.hid ho
  obtain ⟨x0, x1, x2, x3, x4, x5, x6, x7, x8, x9, x10, x11, x12⟩ := x
  have H := Lib.hid h
  have HX := Lib.hid hx
  clear h hxc hx hpr hin ho
  go_enter Try.func93, Try.ntmps93
  go_wp2_with go_in
  go_end0
  refine ⟨rfl, PT.close ?_, ?_⟩
  · apply Exists.intro
    apply And.intro
    · (try simp only [Nat.add_assoc, Nat.reduceAdd])
      repeat (first | with_reducible exact HS.out | (with_reducible refine RT.al ?_ _) | ((with_reducible apply RT.step HIN.out); rotate_left; exact of_decide_eq_true rfl; rfl; rotate_left))
    · rfl
  · repeat (first | with_reducible exact Past.refl _ _ | (with_reducible refine Past.setCell ?_ _ _) | (with_reducible refine Past.alloc ?_ _))
set_option maxRecDepth 100000 in
set_option maxHeartbeats 4000000 in
theorem begin_eff (lo hi p rb : Nat) (l : List MP) (i : Nat) (x : MP) (t : Int) (w : World) (h : PT lo hi w p rb l) (hx : l[i]? = some x) (ho : Ok x) :
    Calls Try.prog 71 #[.pointer (some ⟨rb, i * 13, none⟩), .int .i64 t] w fun e w' => e = .returned (.tuple #[]) ∧ PT lo hi w' p rb (l.set i (beginP x t)) ∧ Past rb w w' := by
  have hxc : (l.map MP.cells)[i]? = some x.cells := by simp [hx]
  have hin : i < (l.map MP.cells).length := (List.getElem?_eq_some_iff.1 hxc).1
  have HS := Lib.hid (RT.start h hxc)
  obtain ⟨c5, f5⟩ := RT.at_ h hxc (j := 5) rfl
  obtain ⟨c9, f9⟩ := RT.at_ h hxc (j := 9) rfl
  rw [show i * 13 + 9 = i * 13 + 5 + 4 by omega] at c9 f9
  obtain ⟨c10, f10⟩ := RT.at_ h hxc (j := 10) rfl
  obtain ⟨c11, f11⟩ := RT.at_ h hxc (j := 11) rfl
  rw [show i * 13 + 11 = i * 13 + 10 + 1 by omega] at c11 f11
  obtain ⟨c12, f12⟩ := RT.at_ h hxc (j := 12) rfl
  rw [show i * 13 + 12 = i * 13 + 10 + 2 by omega] at c12 f12
  obtain ⟨hpz, hrz, hpr⟩ := PT.lt h
  have HPR := Lib.hid hpr
  have HIN := Lib.hid hin
  have HO := Lib.hid ho
  obtain ⟨x0, x1, x2, x3, x4, x5, x6, x7, x8, x9, x10, x11, x12⟩ := x
  have H := Lib.hid h
  have HX := Lib.hid hx
  clear h hxc hx hpr hin ho
  go_enter Try.func71, Try.ntmps71
  go_wp2_with (go_in)
  go_end0
  go_wp2_with (go_in)
  go_end0
  refine ⟨rfl, PT.close ?_, ?_⟩
  · apply Exists.intro
    apply And.intro
    · (try simp only [Nat.add_assoc, Nat.reduceAdd])
      repeat (first | with_reducible exact HS.out | (with_reducible refine RT.al ?_ _) | ((with_reducible apply RT.step HIN.out); rotate_left; exact of_decide_eq_true rfl; rfl; rotate_left))
    · rfl
  · repeat (first | with_reducible exact Past.refl _ _ | (with_reducible refine Past.setCell ?_ _ _) | (with_reducible refine Past.alloc ?_ _))
set_option maxRecDepth 100000 in
set_option maxHeartbeats 4000000 in
theorem start_eff (lo hi p rb : Nat) (l : List MP) (i : Nat) (x : MP) (t : Int) (w : World) (h : PT lo hi w p rb l) (hx : l[i]? = some x) (ho : Ok x) (ht : TK t) :
    Calls Try.prog 43 #[.pointer (some ⟨rb, i * 13, none⟩), .int .i64 t] w fun e w' => e = .returned (.tuple #[]) ∧ PT lo hi w' p rb (l.set i (startP x t)) ∧ Past rb w w' := by
  have hxc : (l.map MP.cells)[i]? = some x.cells := by simp [hx]
  have hin : i < (l.map MP.cells).length := (List.getElem?_eq_some_iff.1 hxc).1
  have HS := Lib.hid (RT.start h hxc)
  obtain ⟨c4, f4⟩ := RT.at_ h hxc (j := 4) rfl
  obtain ⟨hpz, hrz, hpr⟩ := PT.lt h
  have HPR := Lib.hid hpr
  have HIN := Lib.hid hin
  have HO := Lib.hid ho
  obtain ⟨x0, x1, x2, x3, x4, x5, x6, x7, x8, x9, x10, x11, x12⟩ := x
  have H := Lib.hid h
  have HX := Lib.hid hx
  clear h hxc hx hpr hin ho
  obtain ⟨ht1, ht2⟩ := ht
  obtain ⟨hq1, hq2⟩ := HO.out.off
  dsimp only at hq1 hq2
  go_enter Try.func43, Try.ntmps43
  by_cases hz : 0 < x4
  · have hd : decide (0 < x4) = true := by simpa using hz
    have HE : Hid (startP ⟨x0, x1, x2, x3, x4, x5, x6, x7, x8, x9, x10, x11, x12⟩ t = restP ⟨x0, x1, x2, x3, x4, x5, x6, x7, x8, x9, x10, x11, x12⟩ (t + x4)) := by unfold Hid startP; rw [if_pos hz]
    go_wp2_with fail
    refine (rest_eff lo hi p rb l i ⟨x0, x1, x2, x3, x4, x5, x6, x7, x8, x9, x10, x11, x12⟩ (t + x4) w H.out HX.out HO.out).mono ?_
    rintro e w1 ⟨rfl, hp1, hq1⟩
    go_wp2_with fail
    go_end0
    exact ⟨rfl, by rw [HE.out]; exact hp1, hq1⟩
  · have hd : decide (0 < x4) = false := by simpa using hz
    have HE : Hid (startP ⟨x0, x1, x2, x3, x4, x5, x6, x7, x8, x9, x10, x11, x12⟩ t = beginP ⟨x0, x1, x2, x3, x4, x5, x6, x7, x8, x9, x10, x11, x12⟩ t) := by unfold Hid startP; rw [if_neg hz]
    go_wp2_with fail
    refine (begin_eff lo hi p rb l i ⟨x0, x1, x2, x3, x4, x5, x6, x7, x8, x9, x10, x11, x12⟩ t w H.out HX.out HO.out).mono ?_
    rintro e w1 ⟨rfl, hp1, hq1⟩
    go_wp2_with fail
    go_end0
    exact ⟨rfl, by rw [HE.out]; exact hp1, hq1⟩
set_option maxRecDepth 100000 in
set_option maxHeartbeats 4000000 in
theorem done_eff (lo hi p rb : Nat) (l : List MP) (i : Nat) (x : MP) (t : Int) (w : World) (h : PT lo hi w p rb l) (hx : l[i]? = some x) (ho : Ok x) (ht : TK t) :
    Calls Try.prog 74 #[.pointer (some ⟨rb, i * 13, none⟩), .int .i64 t] w fun e w' => e = .returned (.int .i64 (doneN x)) ∧ PT lo hi w' p rb (l.set i (doneP x t)) ∧ Past rb w w' := by
  have hxc : (l.map MP.cells)[i]? = some x.cells := by simp [hx]
  have hin : i < (l.map MP.cells).length := (List.getElem?_eq_some_iff.1 hxc).1
  have HS := Lib.hid (RT.start h hxc)
  obtain ⟨c1, f1⟩ := RT.at_ h hxc (j := 1) rfl
  obtain ⟨c10, f10⟩ := RT.at_ h hxc (j := 10) rfl
  obtain ⟨hpz, hrz, hpr⟩ := PT.lt h
  have HPR := Lib.hid hpr
  have HIN := Lib.hid hin
  have HO := Lib.hid ho
  obtain ⟨x0, x1, x2, x3, x4, x5, x6, x7, x8, x9, x10, x11, x12⟩ := x
  have H := Lib.hid h
  have HX := Lib.hid hx
  clear h hxc hx hpr hin ho
  obtain ⟨ht1, ht2⟩ := ht
  obtain ⟨hq1, hq2⟩ := HO.out.per
  obtain ⟨hr1, hr2⟩ := HO.out.frm
  dsimp only at hq1 hq2 hr1 hr2
  go_enter Try.func74, Try.ntmps74
  by_cases hz : x1 = 0
  · subst hz
    go_wp2_with fail
    refine (stop_eff lo hi p rb l i ⟨x0, 0, x2, x3, x4, x5, x6, x7, x8, x9, x10, x11, x12⟩ w H.out HX.out HO.out).mono ?_
    rintro e w1 ⟨rfl, hp1, hq1⟩
    go_wp2_with fail
    go_ret
    exact ⟨rfl, hp1, hq1⟩
  · by_cases hy : x10 + x1 ≤ t
    · have HE : Hid (doneP ⟨x0, x1, x2, x3, x4, x5, x6, x7, x8, x9, x10, x11, x12⟩ t = beginP ⟨x0, x1, x2, x3, x4, x5, x6, x7, x8, x9, x10, x11, x12⟩ (x10 + x1)) := by unfold Hid doneP; rw [if_neg hz, if_pos hy]
      have HN : Hid (doneN ⟨x0, x1, x2, x3, x4, x5, x6, x7, x8, x9, x10, x11, x12⟩ = x10 + x1) := by unfold Hid doneN; rw [if_neg hz]
      go_wp2_with fail
      go_quiet (fail)
      go_wp2_with fail
      refine (begin_eff lo hi p rb l i ⟨x0, x1, x2, x3, x4, x5, x6, x7, x8, x9, x10, x11, x12⟩ (x10 + x1) _ (RT.below H.out (below_drewN (Below.refl _ _) nq)) HX.out HO.out).mono ?_
      rintro e w1 ⟨rfl, hp1, hq1⟩
      go_wp2_with fail
      go_ret
      exact ⟨by rw [HN.out]; rfl, by rw [HE.out]; exact hp1, (Past.drewN (Past.refl _ _) nq).trans hq1⟩
    · have HE : Hid (doneP ⟨x0, x1, x2, x3, x4, x5, x6, x7, x8, x9, x10, x11, x12⟩ t = restP ⟨x0, x1, x2, x3, x4, x5, x6, x7, x8, x9, x10, x11, x12⟩ (x10 + x1)) := by unfold Hid doneP; rw [if_neg hz, if_neg hy]
      have HN : Hid (doneN ⟨x0, x1, x2, x3, x4, x5, x6, x7, x8, x9, x10, x11, x12⟩ = x10 + x1) := by unfold Hid doneN; rw [if_neg hz]
      go_wp2_with fail
      go_quiet (fail)
      go_wp2_with fail
      refine (rest_eff lo hi p rb l i ⟨x0, x1, x2, x3, x4, x5, x6, x7, x8, x9, x10, x11, x12⟩ (x10 + x1) _ (RT.below H.out (below_drewN (Below.refl _ _) nq)) HX.out HO.out).mono ?_
      rintro e w1 ⟨rfl, hp1, hq1⟩
      go_wp2_with fail
      go_ret
      exact ⟨by rw [HN.out]; rfl, by rw [HE.out]; exact hp1, (Past.drewN (Past.refl _ _) nq).trans hq1⟩
set_option maxRecDepth 100000 in
set_option maxHeartbeats 4000000 in
theorem charge_eff (lo hi p rb : Nat) (l : List MP) (i : Nat) (x : MP) (n : Int) (w : World) (h : PT lo hi w p rb l) (hx : l[i]? = some x) (ho : Ok x) (ht : TK n) :
    Calls Try.prog 78 #[.pointer (some ⟨rb, i * 13, none⟩), .int .i64 n] w fun e w' => e = .returned (.tuple #[]) ∧ PT lo hi w' p rb (l.set i (chargeP x n)) ∧ Past rb w w' := by
  have hxc : (l.map MP.cells)[i]? = some x.cells := by simp [hx]
  have hin : i < (l.map MP.cells).length := (List.getElem?_eq_some_iff.1 hxc).1
  have HS := Lib.hid (RT.start h hxc)
  obtain ⟨c11, f11⟩ := RT.at_ h hxc (j := 11) rfl
  rw [show i * 13 + 11 = i * 13 + 10 + 1 by omega] at c11 f11
  obtain ⟨hpz, hrz, hpr⟩ := PT.lt h
  have HPR := Lib.hid hpr
  have HIN := Lib.hid hin
  have HO := Lib.hid ho
  obtain ⟨x0, x1, x2, x3, x4, x5, x6, x7, x8, x9, x10, x11, x12⟩ := x
  have H := Lib.hid h
  have HX := Lib.hid hx
  clear h hxc hx hpr hin ho
  obtain ⟨ht1, ht2⟩ := ht
  obtain ⟨hq1, hq2⟩ := HO.out.usd
  dsimp only at hq1 hq2
  go_enter Try.func78, Try.ntmps78
  go_wp2_with fail
  go_end0
  refine ⟨rfl, PT.close ?_, ?_⟩
  · apply Exists.intro
    apply And.intro
    · (try simp only [Nat.add_assoc, Nat.reduceAdd])
      repeat (first | with_reducible exact HS.out | (with_reducible refine RT.al ?_ _) | ((with_reducible apply RT.step HIN.out); rotate_left; exact of_decide_eq_true rfl; rfl; rotate_left))
    · rfl
  · repeat (first | with_reducible exact Past.refl _ _ | (with_reducible refine Past.setCell ?_ _ _) | (with_reducible refine Past.alloc ?_ _))
end Go.Proofs.Ytdabmbdikofhpaa.P
