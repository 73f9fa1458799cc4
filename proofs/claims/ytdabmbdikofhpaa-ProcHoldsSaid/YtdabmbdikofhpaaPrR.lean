/-
  Contracts of a table's methods that change one process. Each statement bears its own conditions.
-/
import Derived.Test.YtdabmbdikofhpaaPrD
namespace Go.Proofs.Ytdabmbdikofhpaa.P
open Go.RowKit
set_option linter.unusedVariables false
set_option linter.unusedSimpArgs false
set_option maxRecDepth 100000 in
set_option maxHeartbeats 4000000 in
theorem suspend_none (lo hi p rb : Nat) (l : List MP) (i : Int) (w : World) (h : PT lo hi w p rb l) (hn : ¬ (0 ≤ i ∧ i < l.length)) (hl : l.length ≤ 16) :
    Calls Try.prog 27 #[.pointer (some ⟨p, 0, none⟩), .int .i64 i] w fun e w' => e = .returned (.int .i64 9) ∧ Below w.heap.size w w' := by
  obtain ⟨cap, hc, hcap⟩ := RT.cell h
  obtain ⟨hpz, hrz, hpr⟩ := PT.lt h
  obtain ⟨n, hn'⟩ : ∃ n, (l.map MP.cells).length = n := ⟨_, rfl⟩
  have hln : l.length = n := by rw [← hn']; simp
  rw [hn'] at hc
  rw [hln] at hn hl
  clear h hn' hln hcap hpr
  by_cases h0 : 0 ≤ i
  · have hd : decide (0 ≤ i) = true := by simpa using h0
    have hd2 : decide (i < (n : Int)) = false := by simp; omega
    clear hn
    go_enter Try.func27, Try.ntmps27
    go_wp2_with (first | go_in | go_end0)
    all_goals go_ret
    all_goals exact ⟨rfl, (by first | exact Below.refl _ _ | exact (Below.refl _ _).alloc (Nat.le_refl _) _ | exact ((Below.refl _ _).alloc (Nat.le_refl _) _).alloc (by simp) _ | exact (((Below.refl _ _).alloc (Nat.le_refl _) _).alloc (by simp) _).setCell (by simp) _)⟩
  · have hd : decide (0 ≤ i) = false := by simpa using h0
    clear hn
    go_enter Try.func27, Try.ntmps27
    go_wp2_with (first | go_in | go_end0)
    all_goals go_ret
    all_goals exact ⟨rfl, (by first | exact Below.refl _ _ | exact (Below.refl _ _).alloc (Nat.le_refl _) _ | exact ((Below.refl _ _).alloc (Nat.le_refl _) _).alloc (by simp) _ | exact (((Below.refl _ _).alloc (Nat.le_refl _) _).alloc (by simp) _).setCell (by simp) _)⟩
set_option maxRecDepth 100000 in
set_option maxHeartbeats 4000000 in
theorem suspend_state (lo hi p rb : Nat) (l : List MP) (i : Nat) (x : MP) (w : World) (h : PT lo hi w p rb l) (hx : l[i]? = some x) (hl : l.length ≤ 16) (hb : freeB x = false) :
    Calls Try.prog 27 #[.pointer (some ⟨p, 0, none⟩), .int .i64 (i : Int)] w fun e w' => e = .returned (.int .i64 10) ∧ Below w.heap.size w w' := by
  obtain ⟨cap, hc, hcap⟩ := RT.cell h
  obtain ⟨hpz, hrz, hpr⟩ := PT.lt h
  obtain ⟨n, hn'⟩ : ∃ n, (l.map MP.cells).length = n := ⟨_, rfl⟩
  have hin : i < n := by rw [← hn']; simpa using (List.getElem?_eq_some_iff.1 hx).1
  have hnl : n ≤ 16 := by rw [← hn']; simpa using hl
  rw [hn'] at hc
  clear hn' hcap
  have CP := Lib.hid fun W (hb : Below w.heap.size w W) => isFree_any rb (i * 13) x W ((PT.at_ h hx).below hb)
  rw [hb] at CP
  have hm := fun W : World => meth_isFree rb (i * 13) W
  clear h hx hb
  go_enter Try.func27, Try.ntmps27
  go_wp2_with (first | (go_at_call 82; refine (CP.out _ (by first | exact Below.refl _ _ | exact (Below.refl _ _).alloc (Nat.le_refl _) _ | exact ((Below.refl _ _).alloc (Nat.le_refl _) _).alloc (by simp) _ | exact (((Below.refl _ _).alloc (Nat.le_refl _) _).alloc (by simp) _).setCell (by simp) _)).mono ?_; rintro e w1 ⟨rfl, rfl⟩) | go_in | go_end0)
  all_goals go_ret
  all_goals exact ⟨rfl, (by first | exact Below.refl _ _ | exact (Below.refl _ _).alloc (Nat.le_refl _) _ | exact ((Below.refl _ _).alloc (Nat.le_refl _) _).alloc (by simp) _ | exact (((Below.refl _ _).alloc (Nat.le_refl _) _).alloc (by simp) _).setCell (by simp) _)⟩
set_option maxRecDepth 100000 in
set_option maxHeartbeats 4000000 in
theorem suspend_ok (lo hi p rb : Nat) (l : List MP) (i : Nat) (x : MP) (w : World) (h : PT lo hi w p rb l) (hx : l[i]? = some x) (hl : l.length ≤ 16) (hb : freeB x = true) :
    Calls Try.prog 27 #[.pointer (some ⟨p, 0, none⟩), .int .i64 (i : Int)] w fun e w' => e = .returned (.int .i64 0) ∧ PT lo hi w' p rb (l.set i ({ x with hel := true })) ∧ Past rb w w' := by
  obtain ⟨cap, hc, hcap⟩ := RT.cell h
  obtain ⟨hpz, hrz, hpr⟩ := PT.lt h
  obtain ⟨n, hn'⟩ : ∃ n, (l.map MP.cells).length = n := ⟨_, rfl⟩
  have hin : i < n := by rw [← hn']; simpa using (List.getElem?_eq_some_iff.1 hx).1
  have hnl : n ≤ 16 := by rw [← hn']; simpa using hl
  rw [hn'] at hc
  clear hn' hcap
  have CP := Lib.hid fun W (hb : Below w.heap.size w W) => isFree_any rb (i * 13) x W ((PT.at_ h hx).below hb)
  rw [hb] at CP
  have hm := fun W : World => meth_isFree rb (i * 13) W
  have hxc : (l.map MP.cells)[i]? = some x.cells := by simp [hx]
  have HIN : Hid (i < (l.map MP.cells).length) := (List.getElem?_eq_some_iff.1 hxc).1
  have HS := Lib.hid (RT.start h hxc)
  obtain ⟨c6, f6⟩ := RT.at_ h hxc (j := 6) rfl
  rw [show i * 13 + 6 = i * 13 + 5 + 1 by omega] at c6 f6
  obtain ⟨x0, x1, x2, x3, x4, x5, x6, x7, x8, x9, x10, x11, x12⟩ := x
  clear h hx hb hxc
  go_enter Try.func27, Try.ntmps27
  go_wp2_with (first | (go_at_call 82; refine (CP.out _ (by first | exact Below.refl _ _ | exact (Below.refl _ _).alloc (Nat.le_refl _) _ | exact ((Below.refl _ _).alloc (Nat.le_refl _) _).alloc (by simp) _)).mono ?_; rintro e w1 ⟨rfl, rfl⟩) | go_in | go_end0)
  go_ret
  refine ⟨rfl, PT.close ?_, ?_⟩
  · apply Exists.intro
    apply And.intro
    · (try simp only [Nat.add_assoc, Nat.reduceAdd])
      repeat (first | with_reducible exact HS.out | (with_reducible refine RT.al ?_ _) | ((with_reducible apply RT.step HIN.out); rotate_left; exact of_decide_eq_true rfl; rfl; rotate_left))
    · rfl
  · repeat (first | with_reducible exact Past.refl _ _ | (with_reducible refine Past.setCell ?_ _ _) | (with_reducible refine Past.alloc ?_ _))
set_option maxRecDepth 100000 in
set_option maxHeartbeats 4000000 in
theorem resume_none (lo hi p rb : Nat) (l : List MP) (i : Int) (w : World) (h : PT lo hi w p rb l) (hn : ¬ (0 ≤ i ∧ i < l.length)) (hl : l.length ≤ 16) :
    Calls Try.prog 32 #[.pointer (some ⟨p, 0, none⟩), .int .i64 i] w fun e w' => e = .returned (.int .i64 9) ∧ Below w.heap.size w w' := by
  obtain ⟨cap, hc, hcap⟩ := RT.cell h
  obtain ⟨hpz, hrz, hpr⟩ := PT.lt h
  obtain ⟨n, hn'⟩ : ∃ n, (l.map MP.cells).length = n := ⟨_, rfl⟩
  have hln : l.length = n := by rw [← hn']; simp
  rw [hn'] at hc
  rw [hln] at hn hl
  clear h hn' hln hcap hpr
  by_cases h0 : 0 ≤ i
  · have hd : decide (0 ≤ i) = true := by simpa using h0
    have hd2 : decide (i < (n : Int)) = false := by simp; omega
    clear hn
    go_enter Try.func32, Try.ntmps32
    go_wp2_with (first | go_in | go_end0)
    all_goals go_ret
    all_goals exact ⟨rfl, (by first | exact Below.refl _ _ | exact (Below.refl _ _).alloc (Nat.le_refl _) _ | exact ((Below.refl _ _).alloc (Nat.le_refl _) _).alloc (by simp) _ | exact (((Below.refl _ _).alloc (Nat.le_refl _) _).alloc (by simp) _).setCell (by simp) _)⟩
  · have hd : decide (0 ≤ i) = false := by simpa using h0
    clear hn
    go_enter Try.func32, Try.ntmps32
    go_wp2_with (first | go_in | go_end0)
    all_goals go_ret
    all_goals exact ⟨rfl, (by first | exact Below.refl _ _ | exact (Below.refl _ _).alloc (Nat.le_refl _) _ | exact ((Below.refl _ _).alloc (Nat.le_refl _) _).alloc (by simp) _ | exact (((Below.refl _ _).alloc (Nat.le_refl _) _).alloc (by simp) _).setCell (by simp) _)⟩
set_option maxRecDepth 100000 in
set_option maxHeartbeats 4000000 in
theorem resume_state (lo hi p rb : Nat) (l : List MP) (i : Nat) (x : MP) (w : World) (h : PT lo hi w p rb l) (hx : l[i]? = some x) (hl : l.length ≤ 16) (hb : MP.hel x = false) :
    Calls Try.prog 32 #[.pointer (some ⟨p, 0, none⟩), .int .i64 (i : Int)] w fun e w' => e = .returned (.int .i64 10) ∧ Below w.heap.size w w' := by
  obtain ⟨cap, hc, hcap⟩ := RT.cell h
  obtain ⟨hpz, hrz, hpr⟩ := PT.lt h
  obtain ⟨n, hn'⟩ : ∃ n, (l.map MP.cells).length = n := ⟨_, rfl⟩
  have hin : i < n := by rw [← hn']; simpa using (List.getElem?_eq_some_iff.1 hx).1
  have hnl : n ≤ 16 := by rw [← hn']; simpa using hl
  rw [hn'] at hc
  clear hn' hcap
  have CP := Lib.hid fun W (hb : Below w.heap.size w W) => isHeld_any rb (i * 13) x W ((PT.at_ h hx).below hb)
  rw [hb] at CP
  have hm := fun W : World => meth_isHeld rb (i * 13) W
  clear h hx hb
  go_enter Try.func32, Try.ntmps32
  go_wp2_with (first | (go_at_call 90; refine (CP.out _ (by first | exact Below.refl _ _ | exact (Below.refl _ _).alloc (Nat.le_refl _) _ | exact ((Below.refl _ _).alloc (Nat.le_refl _) _).alloc (by simp) _ | exact (((Below.refl _ _).alloc (Nat.le_refl _) _).alloc (by simp) _).setCell (by simp) _)).mono ?_; rintro e w1 ⟨rfl, rfl⟩) | go_in | go_end0)
  all_goals go_ret
  all_goals exact ⟨rfl, (by first | exact Below.refl _ _ | exact (Below.refl _ _).alloc (Nat.le_refl _) _ | exact ((Below.refl _ _).alloc (Nat.le_refl _) _).alloc (by simp) _ | exact (((Below.refl _ _).alloc (Nat.le_refl _) _).alloc (by simp) _).setCell (by simp) _)⟩
set_option maxRecDepth 100000 in
set_option maxHeartbeats 4000000 in
theorem resume_ok (lo hi p rb : Nat) (l : List MP) (i : Nat) (x : MP) (w : World) (h : PT lo hi w p rb l) (hx : l[i]? = some x) (hl : l.length ≤ 16) (hb : MP.hel x = true) :
    Calls Try.prog 32 #[.pointer (some ⟨p, 0, none⟩), .int .i64 (i : Int)] w fun e w' => e = .returned (.int .i64 0) ∧ PT lo hi w' p rb (l.set i ({ x with hel := false })) ∧ Past rb w w' := by
  obtain ⟨cap, hc, hcap⟩ := RT.cell h
  obtain ⟨hpz, hrz, hpr⟩ := PT.lt h
  obtain ⟨n, hn'⟩ : ∃ n, (l.map MP.cells).length = n := ⟨_, rfl⟩
  have hin : i < n := by rw [← hn']; simpa using (List.getElem?_eq_some_iff.1 hx).1
  have hnl : n ≤ 16 := by rw [← hn']; simpa using hl
  rw [hn'] at hc
  clear hn' hcap
  have CP := Lib.hid fun W (hb : Below w.heap.size w W) => isHeld_any rb (i * 13) x W ((PT.at_ h hx).below hb)
  rw [hb] at CP
  have hm := fun W : World => meth_isHeld rb (i * 13) W
  have hxc : (l.map MP.cells)[i]? = some x.cells := by simp [hx]
  have HIN : Hid (i < (l.map MP.cells).length) := (List.getElem?_eq_some_iff.1 hxc).1
  have HS := Lib.hid (RT.start h hxc)
  obtain ⟨c6, f6⟩ := RT.at_ h hxc (j := 6) rfl
  rw [show i * 13 + 6 = i * 13 + 5 + 1 by omega] at c6 f6
  obtain ⟨x0, x1, x2, x3, x4, x5, x6, x7, x8, x9, x10, x11, x12⟩ := x
  clear h hx hb hxc
  go_enter Try.func32, Try.ntmps32
  go_wp2_with (first | (go_at_call 90; refine (CP.out _ (by first | exact Below.refl _ _ | exact (Below.refl _ _).alloc (Nat.le_refl _) _ | exact ((Below.refl _ _).alloc (Nat.le_refl _) _).alloc (by simp) _)).mono ?_; rintro e w1 ⟨rfl, rfl⟩) | go_in | go_end0)
  go_ret
  refine ⟨rfl, PT.close ?_, ?_⟩
  · apply Exists.intro
    apply And.intro
    · (try simp only [Nat.add_assoc, Nat.reduceAdd])
      repeat (first | with_reducible exact HS.out | (with_reducible refine RT.al ?_ _) | ((with_reducible apply RT.step HIN.out); rotate_left; exact of_decide_eq_true rfl; rfl; rotate_left))
    · rfl
  · repeat (first | with_reducible exact Past.refl _ _ | (with_reducible refine Past.setCell ?_ _ _) | (with_reducible refine Past.alloc ?_ _))
set_option maxRecDepth 100000 in
set_option maxHeartbeats 4000000 in
theorem setp_none (lo hi p rb : Nat) (l : List MP) (i : Int) (m : Int) (w : World) (h : PT lo hi w p rb l) (hn : ¬ (0 ≤ i ∧ i < l.length)) (hl : l.length ≤ 16) :
    Calls Try.prog 29 #[.pointer (some ⟨p, 0, none⟩), .int .i64 i, .int .i64 m] w fun e w' => e = .returned (.int .i64 9) ∧ Below w.heap.size w w' := by
  obtain ⟨cap, hc, hcap⟩ := RT.cell h
  obtain ⟨hpz, hrz, hpr⟩ := PT.lt h
  obtain ⟨n, hn'⟩ : ∃ n, (l.map MP.cells).length = n := ⟨_, rfl⟩
  have hln : l.length = n := by rw [← hn']; simp
  rw [hn'] at hc
  rw [hln] at hn hl
  clear h hn' hln hcap hpr
  by_cases h0 : 0 ≤ i
  · have hd : decide (0 ≤ i) = true := by simpa using h0
    have hd2 : decide (i < (n : Int)) = false := by simp; omega
    clear hn
    go_enter Try.func29, Try.ntmps29
    go_wp2_with (first | go_in | go_end0)
    all_goals go_ret
    all_goals exact ⟨rfl, (by first | exact Below.refl _ _ | exact (Below.refl _ _).alloc (Nat.le_refl _) _ | exact ((Below.refl _ _).alloc (Nat.le_refl _) _).alloc (by simp) _ | exact (((Below.refl _ _).alloc (Nat.le_refl _) _).alloc (by simp) _).setCell (by simp) _)⟩
  · have hd : decide (0 ≤ i) = false := by simpa using h0
    clear hn
    go_enter Try.func29, Try.ntmps29
    go_wp2_with (first | go_in | go_end0)
    all_goals go_ret
    all_goals exact ⟨rfl, (by first | exact Below.refl _ _ | exact (Below.refl _ _).alloc (Nat.le_refl _) _ | exact ((Below.refl _ _).alloc (Nat.le_refl _) _).alloc (by simp) _ | exact (((Below.refl _ _).alloc (Nat.le_refl _) _).alloc (by simp) _).setCell (by simp) _)⟩
set_option maxRecDepth 100000 in
set_option maxHeartbeats 4000000 in
theorem setp_range (lo hi p rb : Nat) (l : List MP) (i : Nat) (x : MP) (m : Int) (w : World) (h : PT lo hi w p rb l) (hx : l[i]? = some x) (hl : l.length ≤ 16) (hbad : ¬ PRI m) :
    Calls Try.prog 29 #[.pointer (some ⟨p, 0, none⟩), .int .i64 (i : Int), .int .i64 m] w fun e w' => e = .returned (.int .i64 2) ∧ Below w.heap.size w w' := by
  obtain ⟨cap, hc, hcap⟩ := RT.cell h
  obtain ⟨hpz, hrz, hpr⟩ := PT.lt h
  obtain ⟨n, hn'⟩ : ∃ n, (l.map MP.cells).length = n := ⟨_, rfl⟩
  have hin : i < n := by rw [← hn']; simpa using (List.getElem?_eq_some_iff.1 hx).1
  have hnl : n ≤ 16 := by rw [← hn']; simpa using hl
  rw [hn'] at hc
  clear hn' hcap
  clear h hx
  rcases (show m < 1 ∨ (1 ≤ m ∧ 63 < m) by unfold PRI at hbad; omega) with hk | hk
  · have hd : decide (1 ≤ m) = false := by simpa using hk
    clear hbad
    go_enter Try.func29, Try.ntmps29
    go_wp2_with (first | go_in | go_end0)
    all_goals go_ret
    all_goals exact ⟨rfl, (by first | exact Below.refl _ _ | exact (Below.refl _ _).alloc (Nat.le_refl _) _ | exact ((Below.refl _ _).alloc (Nat.le_refl _) _).alloc (by simp) _ | exact (((Below.refl _ _).alloc (Nat.le_refl _) _).alloc (by simp) _).setCell (by simp) _)⟩
  · have hd : decide (1 ≤ m) = true := by simpa using hk.1
    have hd2 : decide (m ≤ 63) = false := by simp; omega
    clear hbad
    go_enter Try.func29, Try.ntmps29
    go_wp2_with (first | go_in | go_end0)
    all_goals go_ret
    all_goals exact ⟨rfl, (by first | exact Below.refl _ _ | exact (Below.refl _ _).alloc (Nat.le_refl _) _ | exact ((Below.refl _ _).alloc (Nat.le_refl _) _).alloc (by simp) _ | exact (((Below.refl _ _).alloc (Nat.le_refl _) _).alloc (by simp) _).setCell (by simp) _)⟩
set_option maxRecDepth 100000 in
set_option maxHeartbeats 4000000 in
theorem setp_state (lo hi p rb : Nat) (l : List MP) (i : Nat) (x : MP) (m : Int) (w : World) (h : PT lo hi w p rb l) (hx : l[i]? = some x) (hl : l.length ≤ 16) (ht : PRI m) (hb : startedB x = false) :
    Calls Try.prog 29 #[.pointer (some ⟨p, 0, none⟩), .int .i64 (i : Int), .int .i64 m] w fun e w' => e = .returned (.int .i64 10) ∧ Below w.heap.size w w' := by
  obtain ⟨cap, hc, hcap⟩ := RT.cell h
  obtain ⟨hpz, hrz, hpr⟩ := PT.lt h
  obtain ⟨n, hn'⟩ : ∃ n, (l.map MP.cells).length = n := ⟨_, rfl⟩
  have hin : i < n := by rw [← hn']; simpa using (List.getElem?_eq_some_iff.1 hx).1
  have hnl : n ≤ 16 := by rw [← hn']; simpa using hl
  rw [hn'] at hc
  clear hn' hcap
  have CP := Lib.hid fun W (hb : Below w.heap.size w W) => isStarted_any rb (i * 13) x W ((PT.at_ h hx).below hb)
  rw [hb] at CP
  have hm := fun W : World => meth_isStarted rb (i * 13) W
  have hd : decide (1 ≤ m) = true := by simpa using ht.1
  have hd2 : decide (m ≤ 63) = true := by simpa using ht.2
  clear ht
  clear h hx hb
  go_enter Try.func29, Try.ntmps29
  go_wp2_with (first | (go_at_call 38; refine (CP.out _ (by first | exact Below.refl _ _ | exact (Below.refl _ _).alloc (Nat.le_refl _) _ | exact ((Below.refl _ _).alloc (Nat.le_refl _) _).alloc (by simp) _ | exact (((Below.refl _ _).alloc (Nat.le_refl _) _).alloc (by simp) _).setCell (by simp) _)).mono ?_; rintro e w1 ⟨rfl, rfl⟩) | go_in | go_end0)
  all_goals go_ret
  all_goals exact ⟨rfl, (by first | exact Below.refl _ _ | exact (Below.refl _ _).alloc (Nat.le_refl _) _ | exact ((Below.refl _ _).alloc (Nat.le_refl _) _).alloc (by simp) _ | exact (((Below.refl _ _).alloc (Nat.le_refl _) _).alloc (by simp) _).setCell (by simp) _)⟩
set_option maxRecDepth 100000 in
set_option maxHeartbeats 4000000 in
theorem setp_ok (lo hi p rb : Nat) (l : List MP) (i : Nat) (x : MP) (m : Int) (w : World) (h : PT lo hi w p rb l) (hx : l[i]? = some x) (hl : l.length ≤ 16) (ht : PRI m) (hb : startedB x = true) :
    Calls Try.prog 29 #[.pointer (some ⟨p, 0, none⟩), .int .i64 (i : Int), .int .i64 m] w fun e w' => e = .returned (.int .i64 0) ∧ PT lo hi w' p rb (l.set i ({ x with bas := m })) ∧ Past rb w w' := by
  obtain ⟨cap, hc, hcap⟩ := RT.cell h
  obtain ⟨hpz, hrz, hpr⟩ := PT.lt h
  obtain ⟨n, hn'⟩ : ∃ n, (l.map MP.cells).length = n := ⟨_, rfl⟩
  have hin : i < n := by rw [← hn']; simpa using (List.getElem?_eq_some_iff.1 hx).1
  have hnl : n ≤ 16 := by rw [← hn']; simpa using hl
  rw [hn'] at hc
  clear hn' hcap
  have CP := Lib.hid fun W (hb : Below w.heap.size w W) => isStarted_any rb (i * 13) x W ((PT.at_ h hx).below hb)
  rw [hb] at CP
  have hm := fun W : World => meth_isStarted rb (i * 13) W
  have hxc : (l.map MP.cells)[i]? = some x.cells := by simp [hx]
  have HIN : Hid (i < (l.map MP.cells).length) := (List.getElem?_eq_some_iff.1 hxc).1
  have HS := Lib.hid (RT.start h hxc)
  obtain ⟨c7, f7⟩ := RT.at_ h hxc (j := 7) rfl
  rw [show i * 13 + 7 = i * 13 + 5 + 2 by omega] at c7 f7
  obtain ⟨x0, x1, x2, x3, x4, x5, x6, x7, x8, x9, x10, x11, x12⟩ := x
  have hd : decide (1 ≤ m) = true := by simpa using ht.1
  have hd2 : decide (m ≤ 63) = true := by simpa using ht.2
  clear ht
  clear h hx hb hxc
  go_enter Try.func29, Try.ntmps29
  go_wp2_with (first | (go_at_call 38; refine (CP.out _ (by first | exact Below.refl _ _ | exact (Below.refl _ _).alloc (Nat.le_refl _) _ | exact ((Below.refl _ _).alloc (Nat.le_refl _) _).alloc (by simp) _)).mono ?_; rintro e w1 ⟨rfl, rfl⟩) | go_in | go_end0)
  go_ret
  refine ⟨rfl, PT.close ?_, ?_⟩
  · apply Exists.intro
    apply And.intro
    · (try simp only [Nat.add_assoc, Nat.reduceAdd])
      repeat (first | with_reducible exact HS.out | (with_reducible refine RT.al ?_ _) | ((with_reducible apply RT.step HIN.out); rotate_left; exact of_decide_eq_true rfl; rfl; rotate_left))
    · rfl
  · repeat (first | with_reducible exact Past.refl _ _ | (with_reducible refine Past.setCell ?_ _ _) | (with_reducible refine Past.alloc ?_ _))
set_option maxRecDepth 100000 in
set_option maxHeartbeats 4000000 in
theorem raise_none (lo hi p rb : Nat) (l : List MP) (i : Int) (m : Int) (w : World) (h : PT lo hi w p rb l) (hn : ¬ (0 ≤ i ∧ i < l.length)) (hl : l.length ≤ 16) :
    Calls Try.prog 30 #[.pointer (some ⟨p, 0, none⟩), .int .i64 i, .int .i64 m] w fun e w' => e = .returned (.int .i64 9) ∧ Below w.heap.size w w' := by
  obtain ⟨cap, hc, hcap⟩ := RT.cell h
  obtain ⟨hpz, hrz, hpr⟩ := PT.lt h
  obtain ⟨n, hn'⟩ : ∃ n, (l.map MP.cells).length = n := ⟨_, rfl⟩
  have hln : l.length = n := by rw [← hn']; simp
  rw [hn'] at hc
  rw [hln] at hn hl
  clear h hn' hln hcap hpr
  by_cases h0 : 0 ≤ i
  · have hd : decide (0 ≤ i) = true := by simpa using h0
    have hd2 : decide (i < (n : Int)) = false := by simp; omega
    clear hn
    go_enter Try.func30, Try.ntmps30
    go_wp2_with (first | go_in | go_end0)
    all_goals go_ret
    all_goals exact ⟨rfl, (by first | exact Below.refl _ _ | exact (Below.refl _ _).alloc (Nat.le_refl _) _ | exact ((Below.refl _ _).alloc (Nat.le_refl _) _).alloc (by simp) _ | exact (((Below.refl _ _).alloc (Nat.le_refl _) _).alloc (by simp) _).setCell (by simp) _)⟩
  · have hd : decide (0 ≤ i) = false := by simpa using h0
    clear hn
    go_enter Try.func30, Try.ntmps30
    go_wp2_with (first | go_in | go_end0)
    all_goals go_ret
    all_goals exact ⟨rfl, (by first | exact Below.refl _ _ | exact (Below.refl _ _).alloc (Nat.le_refl _) _ | exact ((Below.refl _ _).alloc (Nat.le_refl _) _).alloc (by simp) _ | exact (((Below.refl _ _).alloc (Nat.le_refl _) _).alloc (by simp) _).setCell (by simp) _)⟩
set_option maxRecDepth 100000 in
set_option maxHeartbeats 4000000 in
theorem raise_range (lo hi p rb : Nat) (l : List MP) (i : Nat) (x : MP) (m : Int) (w : World) (h : PT lo hi w p rb l) (hx : l[i]? = some x) (hl : l.length ≤ 16) (hbad : ¬ (m = 0 ∨ PRI m)) :
    Calls Try.prog 30 #[.pointer (some ⟨p, 0, none⟩), .int .i64 (i : Int), .int .i64 m] w fun e w' => e = .returned (.int .i64 2) ∧ Below w.heap.size w w' := by
  obtain ⟨cap, hc, hcap⟩ := RT.cell h
  obtain ⟨hpz, hrz, hpr⟩ := PT.lt h
  obtain ⟨n, hn'⟩ : ∃ n, (l.map MP.cells).length = n := ⟨_, rfl⟩
  have hin : i < n := by rw [← hn']; simpa using (List.getElem?_eq_some_iff.1 hx).1
  have hnl : n ≤ 16 := by rw [← hn']; simpa using hl
  rw [hn'] at hc
  clear hn' hcap
  clear h hx
  rcases (show m < 0 ∨ 63 < m by unfold PRI at hbad; omega) with hk | hk
  · have hd0 : (m == 0) = false := by simp; omega
    have hd : decide (1 ≤ m) = false := by simp; omega
    clear hbad
    go_enter Try.func30, Try.ntmps30
    go_wp2_with (first | go_in | go_end0)
    all_goals go_ret
    all_goals exact ⟨rfl, (by first | exact Below.refl _ _ | exact (Below.refl _ _).alloc (Nat.le_refl _) _ | exact ((Below.refl _ _).alloc (Nat.le_refl _) _).alloc (by simp) _ | exact (((Below.refl _ _).alloc (Nat.le_refl _) _).alloc (by simp) _).setCell (by simp) _)⟩
  · have hd0 : (m == 0) = false := by simp; omega
    have hd : decide (1 ≤ m) = true := by simp; omega
    have hd2 : decide (m ≤ 63) = false := by simp; omega
    clear hbad
    go_enter Try.func30, Try.ntmps30
    go_wp2_with (first | go_in | go_end0)
    all_goals go_ret
    all_goals exact ⟨rfl, (by first | exact Below.refl _ _ | exact (Below.refl _ _).alloc (Nat.le_refl _) _ | exact ((Below.refl _ _).alloc (Nat.le_refl _) _).alloc (by simp) _ | exact (((Below.refl _ _).alloc (Nat.le_refl _) _).alloc (by simp) _).setCell (by simp) _)⟩
set_option maxRecDepth 100000 in
set_option maxHeartbeats 4000000 in
theorem raise_state (lo hi p rb : Nat) (l : List MP) (i : Nat) (x : MP) (m : Int) (w : World) (h : PT lo hi w p rb l) (hx : l[i]? = some x) (hl : l.length ≤ 16) (ht : PRI m) (hb : startedB x = false) :
    Calls Try.prog 30 #[.pointer (some ⟨p, 0, none⟩), .int .i64 (i : Int), .int .i64 m] w fun e w' => e = .returned (.int .i64 10) ∧ Below w.heap.size w w' := by
  obtain ⟨cap, hc, hcap⟩ := RT.cell h
  obtain ⟨hpz, hrz, hpr⟩ := PT.lt h
  obtain ⟨n, hn'⟩ : ∃ n, (l.map MP.cells).length = n := ⟨_, rfl⟩
  have hin : i < n := by rw [← hn']; simpa using (List.getElem?_eq_some_iff.1 hx).1
  have hnl : n ≤ 16 := by rw [← hn']; simpa using hl
  rw [hn'] at hc
  clear hn' hcap
  have CP := Lib.hid fun W (hb : Below w.heap.size w W) => isStarted_any rb (i * 13) x W ((PT.at_ h hx).below hb)
  rw [hb] at CP
  have hm := fun W : World => meth_isStarted rb (i * 13) W
  have hd0 : (m == 0) = false := by have := ht.1; simp; omega
  have hd : decide (1 ≤ m) = true := by simpa using ht.1
  have hd2 : decide (m ≤ 63) = true := by simpa using ht.2
  clear ht
  clear h hx hb
  go_enter Try.func30, Try.ntmps30
  go_wp2_with (first | (go_at_call 38; refine (CP.out _ (by first | exact Below.refl _ _ | exact (Below.refl _ _).alloc (Nat.le_refl _) _ | exact ((Below.refl _ _).alloc (Nat.le_refl _) _).alloc (by simp) _ | exact (((Below.refl _ _).alloc (Nat.le_refl _) _).alloc (by simp) _).setCell (by simp) _)).mono ?_; rintro e w1 ⟨rfl, rfl⟩) | go_in | go_end0)
  all_goals go_ret
  all_goals exact ⟨rfl, (by first | exact Below.refl _ _ | exact (Below.refl _ _).alloc (Nat.le_refl _) _ | exact ((Below.refl _ _).alloc (Nat.le_refl _) _).alloc (by simp) _ | exact (((Below.refl _ _).alloc (Nat.le_refl _) _).alloc (by simp) _).setCell (by simp) _)⟩
set_option maxRecDepth 100000 in
set_option maxHeartbeats 4000000 in
theorem raise_ok (lo hi p rb : Nat) (l : List MP) (i : Nat) (x : MP) (m : Int) (w : World) (h : PT lo hi w p rb l) (hx : l[i]? = some x) (hl : l.length ≤ 16) (ht : PRI m) (hb : startedB x = true) :
    Calls Try.prog 30 #[.pointer (some ⟨p, 0, none⟩), .int .i64 (i : Int), .int .i64 m] w fun e w' => e = .returned (.int .i64 0) ∧ PT lo hi w' p rb (l.set i ({ x with rai := m })) ∧ Past rb w w' := by
  obtain ⟨cap, hc, hcap⟩ := RT.cell h
  obtain ⟨hpz, hrz, hpr⟩ := PT.lt h
  obtain ⟨n, hn'⟩ : ∃ n, (l.map MP.cells).length = n := ⟨_, rfl⟩
  have hin : i < n := by rw [← hn']; simpa using (List.getElem?_eq_some_iff.1 hx).1
  have hnl : n ≤ 16 := by rw [← hn']; simpa using hl
  rw [hn'] at hc
  clear hn' hcap
  have CP := Lib.hid fun W (hb : Below w.heap.size w W) => isStarted_any rb (i * 13) x W ((PT.at_ h hx).below hb)
  rw [hb] at CP
  have hm := fun W : World => meth_isStarted rb (i * 13) W
  have hxc : (l.map MP.cells)[i]? = some x.cells := by simp [hx]
  have HIN : Hid (i < (l.map MP.cells).length) := (List.getElem?_eq_some_iff.1 hxc).1
  have HS := Lib.hid (RT.start h hxc)
  obtain ⟨c8, f8⟩ := RT.at_ h hxc (j := 8) rfl
  rw [show i * 13 + 8 = i * 13 + 5 + 3 by omega] at c8 f8
  obtain ⟨x0, x1, x2, x3, x4, x5, x6, x7, x8, x9, x10, x11, x12⟩ := x
  have hd0 : (m == 0) = false := by have := ht.1; simp; omega
  have hd : decide (1 ≤ m) = true := by simpa using ht.1
  have hd2 : decide (m ≤ 63) = true := by simpa using ht.2
  clear ht
  clear h hx hb hxc
  go_enter Try.func30, Try.ntmps30
  go_wp2_with (first | (go_at_call 38; refine (CP.out _ (by first | exact Below.refl _ _ | exact (Below.refl _ _).alloc (Nat.le_refl _) _ | exact ((Below.refl _ _).alloc (Nat.le_refl _) _).alloc (by simp) _)).mono ?_; rintro e w1 ⟨rfl, rfl⟩) | go_in | go_end0)
  go_ret
  refine ⟨rfl, PT.close ?_, ?_⟩
  · apply Exists.intro
    apply And.intro
    · (try simp only [Nat.add_assoc, Nat.reduceAdd])
      repeat (first | with_reducible exact HS.out | (with_reducible refine RT.al ?_ _) | ((with_reducible apply RT.step HIN.out); rotate_left; exact of_decide_eq_true rfl; rfl; rotate_left))
    · rfl
  · repeat (first | with_reducible exact Past.refl _ _ | (with_reducible refine Past.setCell ?_ _ _) | (with_reducible refine Past.alloc ?_ _))
set_option maxRecDepth 100000 in
set_option maxHeartbeats 4000000 in
theorem raise0_state (lo hi p rb : Nat) (l : List MP) (i : Nat) (x : MP) (m : Int) (w : World) (h : PT lo hi w p rb l) (hx : l[i]? = some x) (hl : l.length ≤ 16) (ht : m = 0) (hb : startedB x = false) :
    Calls Try.prog 30 #[.pointer (some ⟨p, 0, none⟩), .int .i64 (i : Int), .int .i64 m] w fun e w' => e = .returned (.int .i64 10) ∧ Below w.heap.size w w' := by
  obtain ⟨cap, hc, hcap⟩ := RT.cell h
  obtain ⟨hpz, hrz, hpr⟩ := PT.lt h
  obtain ⟨n, hn'⟩ : ∃ n, (l.map MP.cells).length = n := ⟨_, rfl⟩
  have hin : i < n := by rw [← hn']; simpa using (List.getElem?_eq_some_iff.1 hx).1
  have hnl : n ≤ 16 := by rw [← hn']; simpa using hl
  rw [hn'] at hc
  clear hn' hcap
  have CP := Lib.hid fun W (hb : Below w.heap.size w W) => isStarted_any rb (i * 13) x W ((PT.at_ h hx).below hb)
  rw [hb] at CP
  have hm := fun W : World => meth_isStarted rb (i * 13) W
  subst ht
  clear h hx hb
  go_enter Try.func30, Try.ntmps30
  go_wp2_with (first | (go_at_call 38; refine (CP.out _ (by first | exact Below.refl _ _ | exact (Below.refl _ _).alloc (Nat.le_refl _) _ | exact ((Below.refl _ _).alloc (Nat.le_refl _) _).alloc (by simp) _ | exact (((Below.refl _ _).alloc (Nat.le_refl _) _).alloc (by simp) _).setCell (by simp) _)).mono ?_; rintro e w1 ⟨rfl, rfl⟩) | go_in | go_end0)
  all_goals go_ret
  all_goals exact ⟨rfl, (by first | exact Below.refl _ _ | exact (Below.refl _ _).alloc (Nat.le_refl _) _ | exact ((Below.refl _ _).alloc (Nat.le_refl _) _).alloc (by simp) _ | exact (((Below.refl _ _).alloc (Nat.le_refl _) _).alloc (by simp) _).setCell (by simp) _)⟩
set_option maxRecDepth 100000 in
set_option maxHeartbeats 4000000 in
theorem raise0_ok (lo hi p rb : Nat) (l : List MP) (i : Nat) (x : MP) (m : Int) (w : World) (h : PT lo hi w p rb l) (hx : l[i]? = some x) (hl : l.length ≤ 16) (ht : m = 0) (hb : startedB x = true) :
    Calls Try.prog 30 #[.pointer (some ⟨p, 0, none⟩), .int .i64 (i : Int), .int .i64 m] w fun e w' => e = .returned (.int .i64 0) ∧ PT lo hi w' p rb (l.set i ({ x with rai := m })) ∧ Past rb w w' := by
  obtain ⟨cap, hc, hcap⟩ := RT.cell h
  obtain ⟨hpz, hrz, hpr⟩ := PT.lt h
  obtain ⟨n, hn'⟩ : ∃ n, (l.map MP.cells).length = n := ⟨_, rfl⟩
  have hin : i < n := by rw [← hn']; simpa using (List.getElem?_eq_some_iff.1 hx).1
  have hnl : n ≤ 16 := by rw [← hn']; simpa using hl
  rw [hn'] at hc
  clear hn' hcap
  have CP := Lib.hid fun W (hb : Below w.heap.size w W) => isStarted_any rb (i * 13) x W ((PT.at_ h hx).below hb)
  rw [hb] at CP
  have hm := fun W : World => meth_isStarted rb (i * 13) W
  have hxc : (l.map MP.cells)[i]? = some x.cells := by simp [hx]
  have HIN : Hid (i < (l.map MP.cells).length) := (List.getElem?_eq_some_iff.1 hxc).1
  have HS := Lib.hid (RT.start h hxc)
  obtain ⟨c8, f8⟩ := RT.at_ h hxc (j := 8) rfl
  rw [show i * 13 + 8 = i * 13 + 5 + 3 by omega] at c8 f8
  obtain ⟨x0, x1, x2, x3, x4, x5, x6, x7, x8, x9, x10, x11, x12⟩ := x
  subst ht
  clear h hx hb hxc
  go_enter Try.func30, Try.ntmps30
  go_wp2_with (first | (go_at_call 38; refine (CP.out _ (by first | exact Below.refl _ _ | exact (Below.refl _ _).alloc (Nat.le_refl _) _ | exact ((Below.refl _ _).alloc (Nat.le_refl _) _).alloc (by simp) _)).mono ?_; rintro e w1 ⟨rfl, rfl⟩) | go_in | go_end0)
  go_ret
  refine ⟨rfl, PT.close ?_, ?_⟩
  · apply Exists.intro
    apply And.intro
    · (try simp only [Nat.add_assoc, Nat.reduceAdd])
      repeat (first | with_reducible exact HS.out | (with_reducible refine RT.al ?_ _) | ((with_reducible apply RT.step HIN.out); rotate_left; exact of_decide_eq_true rfl; rfl; rotate_left))
    · rfl
  · repeat (first | with_reducible exact Past.refl _ _ | (with_reducible refine Past.setCell ?_ _ _) | (with_reducible refine Past.alloc ?_ _))
end Go.Proofs.Ytdabmbdikofhpaa.P
