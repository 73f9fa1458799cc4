/-
  Contracts of a table's methods that change one process. Each statement bears its own conditions.
-/
import Derived.Test.YtdabmbdikofhpaaPrB
namespace Go.Proofs.Ytdabmbdikofhpaa.P
open Go.RowKit
set_option linter.unusedVariables false
set_option linter.unusedSimpArgs false
set_option maxRecDepth 100000 in
set_option maxHeartbeats 4000000 in
theorem start_none (lo hi p rb : Nat) (l : List MP) (i : Int) (now : Int) (w : World) (h : PT lo hi w p rb l) (hn : ¬ (0 ≤ i ∧ i < l.length)) (hl : l.length ≤ 16) :
    Calls Try.prog 14 #[.pointer (some ⟨p, 0, none⟩), .int .i64 i, .int .i64 now] w fun e w' => e = .returned (.int .i64 9) ∧ Below w.heap.size w w' := by
  obtain ⟨cap, hc, hcap⟩ := RT.cell h
  obtain ⟨hpz, hrz, hpr⟩ := PT.lt h
  obtain ⟨n, hn'⟩ : ∃ n, (l.map MP.cells).length = n := ⟨_, rfl⟩
  have hln : l.length = n := by rw [← hn']; simp
  rw [hn'] at hc
  rw [hln] at hn hl
  clear h hn' hln hcap hpr
  by_cases h0 : 0 ≤ i
  · have hd : decide (0 ≤ i) = true := by simpa using h0
    have hd2 : decide (i < (n : Int)) = false := by simp; omega
    clear hn
    go_enter Try.func14, Try.ntmps14
    go_wp2_with (first | go_in | go_end0)
    all_goals go_ret
    all_goals exact ⟨rfl, (by first | exact Below.refl _ _ | exact (Below.refl _ _).alloc (Nat.le_refl _) _ | exact ((Below.refl _ _).alloc (Nat.le_refl _) _).alloc (by simp) _ | exact (((Below.refl _ _).alloc (Nat.le_refl _) _).alloc (by simp) _).setCell (by simp) _)⟩
  · have hd : decide (0 ≤ i) = false := by simpa using h0
    clear hn
    go_enter Try.func14, Try.ntmps14
    go_wp2_with (first | go_in | go_end0)
    all_goals go_ret
    all_goals exact ⟨rfl, (by first | exact Below.refl _ _ | exact (Below.refl _ _).alloc (Nat.le_refl _) _ | exact ((Below.refl _ _).alloc (Nat.le_refl _) _).alloc (by simp) _ | exact (((Below.refl _ _).alloc (Nat.le_refl _) _).alloc (by simp) _).setCell (by simp) _)⟩
set_option maxRecDepth 100000 in
set_option maxHeartbeats 4000000 in
theorem start_range (lo hi p rb : Nat) (l : List MP) (i : Nat) (x : MP) (now : Int) (w : World) (h : PT lo hi w p rb l) (hx : l[i]? = some x) (hl : l.length ≤ 16) (hbad : ¬ TK now) :
    Calls Try.prog 14 #[.pointer (some ⟨p, 0, none⟩), .int .i64 (i : Int), .int .i64 now] w fun e w' => e = .returned (.int .i64 2) ∧ Below w.heap.size w w' := by
  obtain ⟨cap, hc, hcap⟩ := RT.cell h
  obtain ⟨hpz, hrz, hpr⟩ := PT.lt h
  obtain ⟨n, hn'⟩ : ∃ n, (l.map MP.cells).length = n := ⟨_, rfl⟩
  have hin : i < n := by rw [← hn']; simpa using (List.getElem?_eq_some_iff.1 hx).1
  have hnl : n ≤ 16 := by rw [← hn']; simpa using hl
  rw [hn'] at hc
  clear hn' hcap
  clear h hx
  rcases (show now < 0 ∨ (0 ≤ now ∧ 1099511627776 < now) by unfold TK at hbad; omega) with hk | hk
  · have hd : decide (0 ≤ now) = false := by simpa using hk
    clear hbad
    go_enter Try.func14, Try.ntmps14
    go_wp2_with (first | go_in | go_end0)
    all_goals go_ret
    all_goals exact ⟨rfl, (by first | exact Below.refl _ _ | exact (Below.refl _ _).alloc (Nat.le_refl _) _ | exact ((Below.refl _ _).alloc (Nat.le_refl _) _).alloc (by simp) _ | exact (((Below.refl _ _).alloc (Nat.le_refl _) _).alloc (by simp) _).setCell (by simp) _)⟩
  · have hd : decide (0 ≤ now) = true := by simpa using hk.1
    have hd2 : decide (now ≤ 1099511627776) = false := by simp; omega
    clear hbad
    go_enter Try.func14, Try.ntmps14
    go_wp2_with (first | go_in | go_end0)
    all_goals go_ret
    all_goals exact ⟨rfl, (by first | exact Below.refl _ _ | exact (Below.refl _ _).alloc (Nat.le_refl _) _ | exact ((Below.refl _ _).alloc (Nat.le_refl _) _).alloc (by simp) _ | exact (((Below.refl _ _).alloc (Nat.le_refl _) _).alloc (by simp) _).setCell (by simp) _)⟩
set_option maxRecDepth 100000 in
set_option maxHeartbeats 4000000 in
theorem start_state (lo hi p rb : Nat) (l : List MP) (i : Nat) (x : MP) (now : Int) (w : World) (h : PT lo hi w p rb l) (hx : l[i]? = some x) (hl : l.length ≤ 16) (ht : TK now) (hb : dormB x = false) :
    Calls Try.prog 14 #[.pointer (some ⟨p, 0, none⟩), .int .i64 (i : Int), .int .i64 now] w fun e w' => e = .returned (.int .i64 10) ∧ Below w.heap.size w w' := by
  obtain ⟨cap, hc, hcap⟩ := RT.cell h
  obtain ⟨hpz, hrz, hpr⟩ := PT.lt h
  obtain ⟨n, hn'⟩ : ∃ n, (l.map MP.cells).length = n := ⟨_, rfl⟩
  have hin : i < n := by rw [← hn']; simpa using (List.getElem?_eq_some_iff.1 hx).1
  have hnl : n ≤ 16 := by rw [← hn']; simpa using hl
  rw [hn'] at hc
  clear hn' hcap
  have CP := Lib.hid fun W (hb : Below w.heap.size w W) => isDormant_any rb (i * 13) x W ((PT.at_ h hx).below hb)
  rw [hb] at CP
  have hm := fun W : World => meth_isDormant rb (i * 13) W
  have hd : decide (0 ≤ now) = true := by simpa using ht.1
  have hd2 : decide (now ≤ 1099511627776) = true := by simpa using ht.2
  clear ht
  clear h hx hb
  go_enter Try.func14, Try.ntmps14
  go_wp2_with (first | (go_at_call 41; refine (CP.out _ (by first | exact Below.refl _ _ | exact (Below.refl _ _).alloc (Nat.le_refl _) _ | exact ((Below.refl _ _).alloc (Nat.le_refl _) _).alloc (by simp) _ | exact (((Below.refl _ _).alloc (Nat.le_refl _) _).alloc (by simp) _).setCell (by simp) _)).mono ?_; rintro e w1 ⟨rfl, rfl⟩) | go_in | go_end0)
  all_goals go_ret
  all_goals exact ⟨rfl, (by first | exact Below.refl _ _ | exact (Below.refl _ _).alloc (Nat.le_refl _) _ | exact ((Below.refl _ _).alloc (Nat.le_refl _) _).alloc (by simp) _ | exact (((Below.refl _ _).alloc (Nat.le_refl _) _).alloc (by simp) _).setCell (by simp) _)⟩
set_option maxRecDepth 100000 in
set_option maxHeartbeats 4000000 in
theorem start_ok (lo hi p rb : Nat) (l : List MP) (i : Nat) (x : MP) (now : Int) (w : World) (h : PT lo hi w p rb l) (hx : l[i]? = some x) (ho : Ok x) (hl : l.length ≤ 16) (ht : TK now) (hb : dormB x = true) :
    Calls Try.prog 14 #[.pointer (some ⟨p, 0, none⟩), .int .i64 (i : Int), .int .i64 now] w fun e w' => e = .returned (.int .i64 0) ∧ PT lo hi w' p rb (l.set i (startP x now)) ∧ Past rb w w' := by
  obtain ⟨cap, hc, hcap⟩ := RT.cell h
  obtain ⟨hpz, hrz, hpr⟩ := PT.lt h
  obtain ⟨n, hn'⟩ : ∃ n, (l.map MP.cells).length = n := ⟨_, rfl⟩
  have hin : i < n := by rw [← hn']; simpa using (List.getElem?_eq_some_iff.1 hx).1
  have hnl : n ≤ 16 := by rw [← hn']; simpa using hl
  rw [hn'] at hc
  clear hn' hcap
  have CP := Lib.hid fun W (hb : Below w.heap.size w W) => isDormant_any rb (i * 13) x W ((PT.at_ h hx).below hb)
  rw [hb] at CP
  have hm := fun W : World => meth_isDormant rb (i * 13) W
  have CE := Lib.hid fun W (hb : Below w.heap.size w W) => start_eff lo hi p rb l i x now W (h.below hb) hx ho ht
  have hd : decide (0 ≤ now) = true := by simpa using ht.1
  have hd2 : decide (now ≤ 1099511627776) = true := by simpa using ht.2
  clear ht
  clear h hx hb ho
  go_enter Try.func14, Try.ntmps14
  go_wp2_with (first | (go_at_call 41; refine (CP.out _ (by first | exact Below.refl _ _ | exact (Below.refl _ _).alloc (Nat.le_refl _) _ | exact ((Below.refl _ _).alloc (Nat.le_refl _) _).alloc (by simp) _)).mono ?_; rintro e w1 ⟨rfl, rfl⟩) | (go_at_call 43; refine (CE.out _ (by first | exact Below.refl _ _ | exact (Below.refl _ _).alloc (Nat.le_refl _) _ | exact ((Below.refl _ _).alloc (Nat.le_refl _) _).alloc (by simp) _)).mono ?_; rintro e w1 ⟨rfl, hp1, hq1⟩) | go_in | go_end0)
  go_ret
  exact ⟨rfl, hp1, (Past.of_below (by first | exact Below.refl _ _ | exact (Below.refl _ _).alloc (Nat.le_refl _) _ | exact ((Below.refl _ _).alloc (Nat.le_refl _) _).alloc (by simp) _)).trans hq1⟩
set_option maxRecDepth 100000 in
set_option maxHeartbeats 4000000 in
theorem stop_none (lo hi p rb : Nat) (l : List MP) (i : Int) (w : World) (h : PT lo hi w p rb l) (hn : ¬ (0 ≤ i ∧ i < l.length)) (hl : l.length ≤ 16) :
    Calls Try.prog 13 #[.pointer (some ⟨p, 0, none⟩), .int .i64 i] w fun e w' => e = .returned (.int .i64 9) ∧ Below w.heap.size w w' := by
  obtain ⟨cap, hc, hcap⟩ := RT.cell h
  obtain ⟨hpz, hrz, hpr⟩ := PT.lt h
  obtain ⟨n, hn'⟩ : ∃ n, (l.map MP.cells).length = n := ⟨_, rfl⟩
  have hln : l.length = n := by rw [← hn']; simp
  rw [hn'] at hc
  rw [hln] at hn hl
  clear h hn' hln hcap hpr
  by_cases h0 : 0 ≤ i
  · have hd : decide (0 ≤ i) = true := by simpa using h0
    have hd2 : decide (i < (n : Int)) = false := by simp; omega
    clear hn
    go_enter Try.func13, Try.ntmps13
    go_wp2_with (first | go_in | go_end0)
    all_goals go_ret
    all_goals exact ⟨rfl, (by first | exact Below.refl _ _ | exact (Below.refl _ _).alloc (Nat.le_refl _) _ | exact ((Below.refl _ _).alloc (Nat.le_refl _) _).alloc (by simp) _ | exact (((Below.refl _ _).alloc (Nat.le_refl _) _).alloc (by simp) _).setCell (by simp) _)⟩
  · have hd : decide (0 ≤ i) = false := by simpa using h0
    clear hn
    go_enter Try.func13, Try.ntmps13
    go_wp2_with (first | go_in | go_end0)
    all_goals go_ret
    all_goals exact ⟨rfl, (by first | exact Below.refl _ _ | exact (Below.refl _ _).alloc (Nat.le_refl _) _ | exact ((Below.refl _ _).alloc (Nat.le_refl _) _).alloc (by simp) _ | exact (((Below.refl _ _).alloc (Nat.le_refl _) _).alloc (by simp) _).setCell (by simp) _)⟩
set_option maxRecDepth 100000 in
set_option maxHeartbeats 4000000 in
theorem stop_state (lo hi p rb : Nat) (l : List MP) (i : Nat) (x : MP) (w : World) (h : PT lo hi w p rb l) (hx : l[i]? = some x) (hl : l.length ≤ 16) (hb : startedB x = false) :
    Calls Try.prog 13 #[.pointer (some ⟨p, 0, none⟩), .int .i64 (i : Int)] w fun e w' => e = .returned (.int .i64 10) ∧ Below w.heap.size w w' := by
  obtain ⟨cap, hc, hcap⟩ := RT.cell h
  obtain ⟨hpz, hrz, hpr⟩ := PT.lt h
  obtain ⟨n, hn'⟩ : ∃ n, (l.map MP.cells).length = n := ⟨_, rfl⟩
  have hin : i < n := by rw [← hn']; simpa using (List.getElem?_eq_some_iff.1 hx).1
  have hnl : n ≤ 16 := by rw [← hn']; simpa using hl
  rw [hn'] at hc
  clear hn' hcap
  have CP := Lib.hid fun W (hb : Below w.heap.size w W) => isStarted_any rb (i * 13) x W ((PT.at_ h hx).below hb)
  rw [hb] at CP
  have hm := fun W : World => meth_isStarted rb (i * 13) W
  clear h hx hb
  go_enter Try.func13, Try.ntmps13
  go_wp2_with (first | (go_at_call 38; refine (CP.out _ (by first | exact Below.refl _ _ | exact (Below.refl _ _).alloc (Nat.le_refl _) _ | exact ((Below.refl _ _).alloc (Nat.le_refl _) _).alloc (by simp) _ | exact (((Below.refl _ _).alloc (Nat.le_refl _) _).alloc (by simp) _).setCell (by simp) _)).mono ?_; rintro e w1 ⟨rfl, rfl⟩) | go_in | go_end0)
  all_goals go_ret
  all_goals exact ⟨rfl, (by first | exact Below.refl _ _ | exact (Below.refl _ _).alloc (Nat.le_refl _) _ | exact ((Below.refl _ _).alloc (Nat.le_refl _) _).alloc (by simp) _ | exact (((Below.refl _ _).alloc (Nat.le_refl _) _).alloc (by simp) _).setCell (by simp) _)⟩
set_option maxRecDepth 100000 in
set_option maxHeartbeats 4000000 in
theorem stop_ok (lo hi p rb : Nat) (l : List MP) (i : Nat) (x : MP) (w : World) (h : PT lo hi w p rb l) (hx : l[i]? = some x) (ho : Ok x) (hl : l.length ≤ 16) (hb : startedB x = true) :
    Calls Try.prog 13 #[.pointer (some ⟨p, 0, none⟩), .int .i64 (i : Int)] w fun e w' => e = .returned (.int .i64 0) ∧ PT lo hi w' p rb (l.set i (stopP x)) ∧ Past rb w w' := by
  obtain ⟨cap, hc, hcap⟩ := RT.cell h
  obtain ⟨hpz, hrz, hpr⟩ := PT.lt h
  obtain ⟨n, hn'⟩ : ∃ n, (l.map MP.cells).length = n := ⟨_, rfl⟩
  have hin : i < n := by rw [← hn']; simpa using (List.getElem?_eq_some_iff.1 hx).1
  have hnl : n ≤ 16 := by rw [← hn']; simpa using hl
  rw [hn'] at hc
  clear hn' hcap
  have CP := Lib.hid fun W (hb : Below w.heap.size w W) => isStarted_any rb (i * 13) x W ((PT.at_ h hx).below hb)
  rw [hb] at CP
  have hm := fun W : World => meth_isStarted rb (i * 13) W
  have CE := Lib.hid fun W (hb : Below w.heap.size w W) => stop_eff lo hi p rb l i x W (h.below hb) hx ho
  have hm2 := fun W : World => meth_stop rb (i * 13) W
  clear h hx hb ho
  go_enter Try.func13, Try.ntmps13
  go_wp2_with (first | (go_at_call 38; refine (CP.out _ (by first | exact Below.refl _ _ | exact (Below.refl _ _).alloc (Nat.le_refl _) _ | exact ((Below.refl _ _).alloc (Nat.le_refl _) _).alloc (by simp) _)).mono ?_; rintro e w1 ⟨rfl, rfl⟩) | (go_at_call 39; refine (CE.out _ (by first | exact Below.refl _ _ | exact (Below.refl _ _).alloc (Nat.le_refl _) _ | exact ((Below.refl _ _).alloc (Nat.le_refl _) _).alloc (by simp) _)).mono ?_; rintro e w1 ⟨rfl, hp1, hq1⟩) | go_in | go_end0)
  go_ret
  exact ⟨rfl, hp1, (Past.of_below (by first | exact Below.refl _ _ | exact (Below.refl _ _).alloc (Nat.le_refl _) _ | exact ((Below.refl _ _).alloc (Nat.le_refl _) _).alloc (by simp) _)).trans hq1⟩
set_option maxRecDepth 100000 in
set_option maxHeartbeats 4000000 in
theorem wake_none (lo hi p rb : Nat) (l : List MP) (i : Int) (w : World) (h : PT lo hi w p rb l) (hn : ¬ (0 ≤ i ∧ i < l.length)) (hl : l.length ≤ 16) :
    Calls Try.prog 28 #[.pointer (some ⟨p, 0, none⟩), .int .i64 i] w fun e w' => e = .returned (.int .i64 9) ∧ Below w.heap.size w w' := by
  obtain ⟨cap, hc, hcap⟩ := RT.cell h
  obtain ⟨hpz, hrz, hpr⟩ := PT.lt h
  obtain ⟨n, hn'⟩ : ∃ n, (l.map MP.cells).length = n := ⟨_, rfl⟩
  have hln : l.length = n := by rw [← hn']; simp
  rw [hn'] at hc
  rw [hln] at hn hl
  clear h hn' hln hcap hpr
  by_cases h0 : 0 ≤ i
  · have hd : decide (0 ≤ i) = true := by simpa using h0
    have hd2 : decide (i < (n : Int)) = false := by simp; omega
    clear hn
    go_enter Try.func28, Try.ntmps28
    go_wp2_with (first | go_in | go_end0)
    all_goals go_ret
    all_goals exact ⟨rfl, (by first | exact Below.refl _ _ | exact (Below.refl _ _).alloc (Nat.le_refl _) _ | exact ((Below.refl _ _).alloc (Nat.le_refl _) _).alloc (by simp) _ | exact (((Below.refl _ _).alloc (Nat.le_refl _) _).alloc (by simp) _).setCell (by simp) _)⟩
  · have hd : decide (0 ≤ i) = false := by simpa using h0
    clear hn
    go_enter Try.func28, Try.ntmps28
    go_wp2_with (first | go_in | go_end0)
    all_goals go_ret
    all_goals exact ⟨rfl, (by first | exact Below.refl _ _ | exact (Below.refl _ _).alloc (Nat.le_refl _) _ | exact ((Below.refl _ _).alloc (Nat.le_refl _) _).alloc (by simp) _ | exact (((Below.refl _ _).alloc (Nat.le_refl _) _).alloc (by simp) _).setCell (by simp) _)⟩
set_option maxRecDepth 100000 in
set_option maxHeartbeats 4000000 in
theorem wake_state (lo hi p rb : Nat) (l : List MP) (i : Nat) (x : MP) (w : World) (h : PT lo hi w p rb l) (hx : l[i]? = some x) (hl : l.length ≤ 16) (hb : waitB x = false) :
    Calls Try.prog 28 #[.pointer (some ⟨p, 0, none⟩), .int .i64 (i : Int)] w fun e w' => e = .returned (.int .i64 10) ∧ Below w.heap.size w w' := by
  obtain ⟨cap, hc, hcap⟩ := RT.cell h
  obtain ⟨hpz, hrz, hpr⟩ := PT.lt h
  obtain ⟨n, hn'⟩ : ∃ n, (l.map MP.cells).length = n := ⟨_, rfl⟩
  have hin : i < n := by rw [← hn']; simpa using (List.getElem?_eq_some_iff.1 hx).1
  have hnl : n ≤ 16 := by rw [← hn']; simpa using hl
  rw [hn'] at hc
  clear hn' hcap
  have CP := Lib.hid fun W (hb : Below w.heap.size w W) => isWaiting_any rb (i * 13) x W ((PT.at_ h hx).below hb)
  rw [hb] at CP
  have hm := fun W : World => meth_isWaiting rb (i * 13) W
  clear h hx hb
  go_enter Try.func28, Try.ntmps28
  go_wp2_with (first | (go_at_call 84; refine (CP.out _ (by first | exact Below.refl _ _ | exact (Below.refl _ _).alloc (Nat.le_refl _) _ | exact ((Below.refl _ _).alloc (Nat.le_refl _) _).alloc (by simp) _ | exact (((Below.refl _ _).alloc (Nat.le_refl _) _).alloc (by simp) _).setCell (by simp) _)).mono ?_; rintro e w1 ⟨rfl, rfl⟩) | go_in | go_end0)
  all_goals go_ret
  all_goals exact ⟨rfl, (by first | exact Below.refl _ _ | exact (Below.refl _ _).alloc (Nat.le_refl _) _ | exact ((Below.refl _ _).alloc (Nat.le_refl _) _).alloc (by simp) _ | exact (((Below.refl _ _).alloc (Nat.le_refl _) _).alloc (by simp) _).setCell (by simp) _)⟩
set_option maxRecDepth 100000 in
set_option maxHeartbeats 4000000 in
theorem wake_ok (lo hi p rb : Nat) (l : List MP) (i : Nat) (x : MP) (w : World) (h : PT lo hi w p rb l) (hx : l[i]? = some x) (ho : Ok x) (hl : l.length ≤ 16) (hb : waitB x = true) :
    Calls Try.prog 28 #[.pointer (some ⟨p, 0, none⟩), .int .i64 (i : Int)] w fun e w' => e = .returned (.int .i64 0) ∧ PT lo hi w' p rb (l.set i (goOnP x)) ∧ Past rb w w' := by
  obtain ⟨cap, hc, hcap⟩ := RT.cell h
  obtain ⟨hpz, hrz, hpr⟩ := PT.lt h
  obtain ⟨n, hn'⟩ : ∃ n, (l.map MP.cells).length = n := ⟨_, rfl⟩
  have hin : i < n := by rw [← hn']; simpa using (List.getElem?_eq_some_iff.1 hx).1
  have hnl : n ≤ 16 := by rw [← hn']; simpa using hl
  rw [hn'] at hc
  clear hn' hcap
  have CP := Lib.hid fun W (hb : Below w.heap.size w W) => isWaiting_any rb (i * 13) x W ((PT.at_ h hx).below hb)
  rw [hb] at CP
  have hm := fun W : World => meth_isWaiting rb (i * 13) W
  have CE := Lib.hid fun W (hb : Below w.heap.size w W) => goOn_eff lo hi p rb l i x W (h.below hb) hx ho
  have hm2 := fun W : World => meth_goOn rb (i * 13) W
  clear h hx hb ho
  go_enter Try.func28, Try.ntmps28
  go_wp2_with (first | (go_at_call 84; refine (CP.out _ (by first | exact Below.refl _ _ | exact (Below.refl _ _).alloc (Nat.le_refl _) _ | exact ((Below.refl _ _).alloc (Nat.le_refl _) _).alloc (by simp) _)).mono ?_; rintro e w1 ⟨rfl, rfl⟩) | (go_at_call 85; refine (CE.out _ (by first | exact Below.refl _ _ | exact (Below.refl _ _).alloc (Nat.le_refl _) _ | exact ((Below.refl _ _).alloc (Nat.le_refl _) _).alloc (by simp) _)).mono ?_; rintro e w1 ⟨rfl, hp1, hq1⟩) | go_in | go_end0)
  go_ret
  exact ⟨rfl, hp1, (Past.of_below (by first | exact Below.refl _ _ | exact (Below.refl _ _).alloc (Nat.le_refl _) _ | exact ((Below.refl _ _).alloc (Nat.le_refl _) _).alloc (by simp) _)).trans hq1⟩
end Go.Proofs.Ytdabmbdikofhpaa.P
