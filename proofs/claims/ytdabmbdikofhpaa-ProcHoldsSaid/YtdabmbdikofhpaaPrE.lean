/-
  Contracts of a table's methods that change one process. Each statement bears its own conditions.
-/
import Derived.Test.YtdabmbdikofhpaaPrD
namespace Go.Proofs.Ytdabmbdikofhpaa.P
open Go.RowKit
set_option linter.unusedVariables false
set_option linter.unusedSimpArgs false
set_option maxRecDepth 100000 in
set_option maxHeartbeats 4000000 in
theorem due_any (b o g : Nat) (x : MP) (now : Int) (w : World) (h : At w b o x) (hg : w.cell? ⟨g, 0, none⟩ = some (.int .i64 now)) :
    Calls Try.prog 68 #[.pointer (some ⟨b, o, none⟩), .pointer (some ⟨g, 0, none⟩)] w fun e w' => e = .returned (.bool (dueB x now)) ∧ ∃ n, w' = w.drewN n := by
  have HR := Lib.hid fun (n : Nat) => (isDue_any b o x now (w.drewN n) ⟨h.lt, h.ex⟩).mono (R' := fun e w' => e = .returned (.bool (dueB x now)) ∧ w' = w.drewN n) fun _ _ h => ⟨h.1, h.2.symm⟩
  have hlt := h.lt
  clear h
  go_enter Try.func68, Try.ntmps68
  go_wp2_with fail
  go_quiet ((go_at_call 69; exact Calls.quiet_of_same (HR.out _)))
  go_wp2_with fail
  go_ret
  exact ⟨rfl, _, rfl⟩
set_option maxRecDepth 100000 in
set_option maxHeartbeats 4000000 in
theorem release_none (lo hi p rb : Nat) (l : List MP) (i : Int) (now : Int) (w : World) (h : PT lo hi w p rb l) (hn : ¬ (0 ≤ i ∧ i < l.length)) (hl : l.length ≤ 16) :
    Calls Try.prog 21 #[.pointer (some ⟨p, 0, none⟩), .int .i64 i, .int .i64 now] w fun e w' => e = .returned (.int .i64 9) ∧ Below w.heap.size w w' := by
  obtain ⟨cap, hc, hcap⟩ := RT.cell h
  obtain ⟨hpz, hrz, hpr⟩ := PT.lt h
  obtain ⟨n, hn'⟩ : ∃ n, (l.map MP.cells).length = n := ⟨_, rfl⟩
  have hln : l.length = n := by rw [← hn']; simp
  rw [hn'] at hc
  rw [hln] at hn hl
  clear h hn' hln hcap hpr
  by_cases h0 : 0 ≤ i
  · have hd : decide (0 ≤ i) = true := by simpa using h0
    have hd2 : decide (i < (n : Int)) = false := by simp; omega
    clear hn
    go_enter Try.func21, Try.ntmps21
    go_wp2_with (first | go_in | go_end0)
    all_goals go_ret
    all_goals exact ⟨rfl, (by first | exact Below.refl _ _ | exact (Below.refl _ _).alloc (Nat.le_refl _) _ | exact ((Below.refl _ _).alloc (Nat.le_refl _) _).alloc (by simp) _ | exact (((Below.refl _ _).alloc (Nat.le_refl _) _).alloc (by simp) _).setCell (by simp) _)⟩
  · have hd : decide (0 ≤ i) = false := by simpa using h0
    clear hn
    go_enter Try.func21, Try.ntmps21
    go_wp2_with (first | go_in | go_end0)
    all_goals go_ret
    all_goals exact ⟨rfl, (by first | exact Below.refl _ _ | exact (Below.refl _ _).alloc (Nat.le_refl _) _ | exact ((Below.refl _ _).alloc (Nat.le_refl _) _).alloc (by simp) _ | exact (((Below.refl _ _).alloc (Nat.le_refl _) _).alloc (by simp) _).setCell (by simp) _)⟩
set_option maxRecDepth 100000 in
set_option maxHeartbeats 4000000 in
theorem release_range (lo hi p rb : Nat) (l : List MP) (i : Nat) (x : MP) (now : Int) (w : World) (h : PT lo hi w p rb l) (hx : l[i]? = some x) (hl : l.length ≤ 16) (hbad : ¬ TK now) :
    Calls Try.prog 21 #[.pointer (some ⟨p, 0, none⟩), .int .i64 (i : Int), .int .i64 now] w fun e w' => e = .returned (.int .i64 2) ∧ Below w.heap.size w w' := by
  obtain ⟨cap, hc, hcap⟩ := RT.cell h
  obtain ⟨hpz, hrz, hpr⟩ := PT.lt h
  obtain ⟨n, hn'⟩ : ∃ n, (l.map MP.cells).length = n := ⟨_, rfl⟩
  have hin : i < n := by rw [← hn']; simpa using (List.getElem?_eq_some_iff.1 hx).1
  have hnl : n ≤ 16 := by rw [← hn']; simpa using hl
  rw [hn'] at hc
  clear hn' hcap
  clear h hx
  rcases (show now < 0 ∨ (0 ≤ now ∧ 1099511627776 < now) by unfold TK at hbad; omega) with hk | hk
  · have hd : decide (0 ≤ now) = false := by simpa using hk
    clear hbad
    go_enter Try.func21, Try.ntmps21
    go_wp2_with (first | go_in | go_end0)
    all_goals go_ret
    all_goals exact ⟨rfl, (by first | exact Below.refl _ _ | exact (Below.refl _ _).alloc (Nat.le_refl _) _ | exact ((Below.refl _ _).alloc (Nat.le_refl _) _).alloc (by simp) _ | exact (((Below.refl _ _).alloc (Nat.le_refl _) _).alloc (by simp) _).setCell (by simp) _)⟩
  · have hd : decide (0 ≤ now) = true := by simpa using hk.1
    have hd2 : decide (now ≤ 1099511627776) = false := by simp; omega
    clear hbad
    go_enter Try.func21, Try.ntmps21
    go_wp2_with (first | go_in | go_end0)
    all_goals go_ret
    all_goals exact ⟨rfl, (by first | exact Below.refl _ _ | exact (Below.refl _ _).alloc (Nat.le_refl _) _ | exact ((Below.refl _ _).alloc (Nat.le_refl _) _).alloc (by simp) _ | exact (((Below.refl _ _).alloc (Nat.le_refl _) _).alloc (by simp) _).setCell (by simp) _)⟩
set_option maxRecDepth 100000 in
set_option maxHeartbeats 4000000 in
theorem release_state (lo hi p rb : Nat) (l : List MP) (i : Nat) (x : MP) (now : Int) (w : World) (h : PT lo hi w p rb l) (hx : l[i]? = some x) (ho : Ok x) (hl : l.length ≤ 16) (ht : TK now) (hb : dueB x now = false) :
    Calls Try.prog 21 #[.pointer (some ⟨p, 0, none⟩), .int .i64 (i : Int), .int .i64 now] w fun e w' => e = .returned (.int .i64 10) ∧ Below w.heap.size w w' := by
  obtain ⟨cap, hc, hcap⟩ := RT.cell h
  obtain ⟨hpz, hrz, hpr⟩ := PT.lt h
  obtain ⟨n, hn'⟩ : ∃ n, (l.map MP.cells).length = n := ⟨_, rfl⟩
  have hin : i < n := by rw [← hn']; simpa using (List.getElem?_eq_some_iff.1 hx).1
  have hnl : n ≤ 16 := by rw [← hn']; simpa using hl
  rw [hn'] at hc
  clear hn' hcap
  have CD := Lib.hid (due_any rb (i * 13) w.heap.size x now (w.alloc (.cells #[.int .i64 now] 3)) ((PT.at_ h hx).below ((Below.refl _ _).alloc (Nat.le_refl _) _)) (by simp))
  rw [hb] at CD
  have CB := Lib.hid fun W (hb : Below w.heap.size w W) => begin_eff lo hi p rb l i x x.unt W (h.below hb) hx ho
  have c9 := (PT.at_ h hx).ex 9 _ rfl
  rw [show i * 13 + 9 = i * 13 + 5 + 4 by omega] at c9
  have hd : decide (0 ≤ now) = true := by simpa using ht.1
  have hd2 : decide (now ≤ 1099511627776) = true := by simpa using ht.2
  clear ht
  clear h hx hb ho
  go_enter Try.func21, Try.ntmps21
  go_wp2_with (first | (go_at_call 68; refine CD.out.mono ?_; rintro e w1 ⟨rfl, nd, rfl⟩) | (go_at_call 71; refine (CB.out _ (below_drewN ((Below.refl _ _).alloc (Nat.le_refl _) _) nd)).mono ?_; rintro e w1 ⟨rfl, hp1, hq1⟩) | go_in | go_end0)
  go_ret
  exact ⟨rfl, by first | exact below_drewN ((Below.refl _ _).alloc (Nat.le_refl _) _) nd⟩
set_option maxRecDepth 100000 in
set_option maxHeartbeats 4000000 in
theorem release_ok (lo hi p rb : Nat) (l : List MP) (i : Nat) (x : MP) (now : Int) (w : World) (h : PT lo hi w p rb l) (hx : l[i]? = some x) (ho : Ok x) (hl : l.length ≤ 16) (ht : TK now) (hb : dueB x now = true) :
    Calls Try.prog 21 #[.pointer (some ⟨p, 0, none⟩), .int .i64 (i : Int), .int .i64 now] w fun e w' => e = .returned (.int .i64 0) ∧ PT lo hi w' p rb (l.set i (beginP x x.unt)) ∧ Past rb w w' := by
  obtain ⟨cap, hc, hcap⟩ := RT.cell h
  obtain ⟨hpz, hrz, hpr⟩ := PT.lt h
  obtain ⟨n, hn'⟩ : ∃ n, (l.map MP.cells).length = n := ⟨_, rfl⟩
  have hin : i < n := by rw [← hn']; simpa using (List.getElem?_eq_some_iff.1 hx).1
  have hnl : n ≤ 16 := by rw [← hn']; simpa using hl
  rw [hn'] at hc
  clear hn' hcap
  have CD := Lib.hid (due_any rb (i * 13) w.heap.size x now (w.alloc (.cells #[.int .i64 now] 3)) ((PT.at_ h hx).below ((Below.refl _ _).alloc (Nat.le_refl _) _)) (by simp))
  rw [hb] at CD
  have CB := Lib.hid fun W (hb : Below w.heap.size w W) => begin_eff lo hi p rb l i x x.unt W (h.below hb) hx ho
  have c9 := (PT.at_ h hx).ex 9 _ rfl
  rw [show i * 13 + 9 = i * 13 + 5 + 4 by omega] at c9
  have hd : decide (0 ≤ now) = true := by simpa using ht.1
  have hd2 : decide (now ≤ 1099511627776) = true := by simpa using ht.2
  clear ht
  clear h hx hb ho
  go_enter Try.func21, Try.ntmps21
  go_wp2_with (first | (go_at_call 68; refine CD.out.mono ?_; rintro e w1 ⟨rfl, nd, rfl⟩) | (go_at_call 71; refine (CB.out _ (below_drewN ((Below.refl _ _).alloc (Nat.le_refl _) _) nd)).mono ?_; rintro e w1 ⟨rfl, hp1, hq1⟩) | go_in | go_end0)
  go_ret
  exact ⟨rfl, hp1, (Past.of_below (below_drewN ((Below.refl _ _).alloc (Nat.le_refl _) _) nd)).trans hq1⟩
set_option maxRecDepth 100000 in
set_option maxHeartbeats 4000000 in
theorem charge_none (lo hi p rb : Nat) (l : List MP) (i : Int) (m : Int) (w : World) (h : PT lo hi w p rb l) (hn : ¬ (0 ≤ i ∧ i < l.length)) (hl : l.length ≤ 16) :
    Calls Try.prog 25 #[.pointer (some ⟨p, 0, none⟩), .int .i64 i, .int .i64 m] w fun e w' => e = .returned (.int .i64 9) ∧ Below w.heap.size w w' := by
  obtain ⟨cap, hc, hcap⟩ := RT.cell h
  obtain ⟨hpz, hrz, hpr⟩ := PT.lt h
  obtain ⟨n, hn'⟩ : ∃ n, (l.map MP.cells).length = n := ⟨_, rfl⟩
  have hln : l.length = n := by rw [← hn']; simp
  rw [hn'] at hc
  rw [hln] at hn hl
  clear h hn' hln hcap hpr
  by_cases h0 : 0 ≤ i
  · have hd : decide (0 ≤ i) = true := by simpa using h0
    have hd2 : decide (i < (n : Int)) = false := by simp; omega
    clear hn
    go_enter Try.func25, Try.ntmps25
    go_wp2_with (first | go_in | go_end0)
    all_goals go_ret
    all_goals exact ⟨rfl, (by first | exact Below.refl _ _ | exact (Below.refl _ _).alloc (Nat.le_refl _) _ | exact ((Below.refl _ _).alloc (Nat.le_refl _) _).alloc (by simp) _ | exact (((Below.refl _ _).alloc (Nat.le_refl _) _).alloc (by simp) _).setCell (by simp) _)⟩
  · have hd : decide (0 ≤ i) = false := by simpa using h0
    clear hn
    go_enter Try.func25, Try.ntmps25
    go_wp2_with (first | go_in | go_end0)
    all_goals go_ret
    all_goals exact ⟨rfl, (by first | exact Below.refl _ _ | exact (Below.refl _ _).alloc (Nat.le_refl _) _ | exact ((Below.refl _ _).alloc (Nat.le_refl _) _).alloc (by simp) _ | exact (((Below.refl _ _).alloc (Nat.le_refl _) _).alloc (by simp) _).setCell (by simp) _)⟩
set_option maxRecDepth 100000 in
set_option maxHeartbeats 4000000 in
theorem charge_range (lo hi p rb : Nat) (l : List MP) (i : Nat) (x : MP) (m : Int) (w : World) (h : PT lo hi w p rb l) (hx : l[i]? = some x) (hl : l.length ≤ 16) (hbad : ¬ TK m) :
    Calls Try.prog 25 #[.pointer (some ⟨p, 0, none⟩), .int .i64 (i : Int), .int .i64 m] w fun e w' => e = .returned (.int .i64 2) ∧ Below w.heap.size w w' := by
  obtain ⟨cap, hc, hcap⟩ := RT.cell h
  obtain ⟨hpz, hrz, hpr⟩ := PT.lt h
  obtain ⟨n, hn'⟩ : ∃ n, (l.map MP.cells).length = n := ⟨_, rfl⟩
  have hin : i < n := by rw [← hn']; simpa using (List.getElem?_eq_some_iff.1 hx).1
  have hnl : n ≤ 16 := by rw [← hn']; simpa using hl
  rw [hn'] at hc
  clear hn' hcap
  clear h hx
  rcases (show m < 0 ∨ (0 ≤ m ∧ 1099511627776 < m) by unfold TK at hbad; omega) with hk | hk
  · have hd : decide (0 ≤ m) = false := by simpa using hk
    clear hbad
    go_enter Try.func25, Try.ntmps25
    go_wp2_with (first | go_in | go_end0)
    all_goals go_ret
    all_goals exact ⟨rfl, (by first | exact Below.refl _ _ | exact (Below.refl _ _).alloc (Nat.le_refl _) _ | exact ((Below.refl _ _).alloc (Nat.le_refl _) _).alloc (by simp) _ | exact (((Below.refl _ _).alloc (Nat.le_refl _) _).alloc (by simp) _).setCell (by simp) _)⟩
  · have hd : decide (0 ≤ m) = true := by simpa using hk.1
    have hd2 : decide (m ≤ 1099511627776) = false := by simp; omega
    clear hbad
    go_enter Try.func25, Try.ntmps25
    go_wp2_with (first | go_in | go_end0)
    all_goals go_ret
    all_goals exact ⟨rfl, (by first | exact Below.refl _ _ | exact (Below.refl _ _).alloc (Nat.le_refl _) _ | exact ((Below.refl _ _).alloc (Nat.le_refl _) _).alloc (by simp) _ | exact (((Below.refl _ _).alloc (Nat.le_refl _) _).alloc (by simp) _).setCell (by simp) _)⟩
set_option maxRecDepth 100000 in
set_option maxHeartbeats 4000000 in
theorem charge_state (lo hi p rb : Nat) (l : List MP) (i : Nat) (x : MP) (m : Int) (w : World) (h : PT lo hi w p rb l) (hx : l[i]? = some x) (hl : l.length ≤ 16) (ht : TK m) (hb : hasB x = false) :
    Calls Try.prog 25 #[.pointer (some ⟨p, 0, none⟩), .int .i64 (i : Int), .int .i64 m] w fun e w' => e = .returned (.int .i64 10) ∧ Below w.heap.size w w' := by
  obtain ⟨cap, hc, hcap⟩ := RT.cell h
  obtain ⟨hpz, hrz, hpr⟩ := PT.lt h
  obtain ⟨n, hn'⟩ : ∃ n, (l.map MP.cells).length = n := ⟨_, rfl⟩
  have hin : i < n := by rw [← hn']; simpa using (List.getElem?_eq_some_iff.1 hx).1
  have hnl : n ≤ 16 := by rw [← hn']; simpa using hl
  rw [hn'] at hc
  clear hn' hcap
  have CP := Lib.hid fun W (hb : Below w.heap.size w W) => hasRelease_any rb (i * 13) x W ((PT.at_ h hx).below hb)
  rw [hb] at CP
  have hm := fun W : World => meth_hasRelease rb (i * 13) W
  have hd : decide (0 ≤ m) = true := by simpa using ht.1
  have hd2 : decide (m ≤ 1099511627776) = true := by simpa using ht.2
  clear ht
  clear h hx hb
  go_enter Try.func25, Try.ntmps25
  go_wp2_with (first | (go_at_call 76; refine (CP.out _ (by first | exact Below.refl _ _ | exact (Below.refl _ _).alloc (Nat.le_refl _) _ | exact ((Below.refl _ _).alloc (Nat.le_refl _) _).alloc (by simp) _ | exact (((Below.refl _ _).alloc (Nat.le_refl _) _).alloc (by simp) _).setCell (by simp) _)).mono ?_; rintro e w1 ⟨rfl, rfl⟩) | go_in | go_end0)
  all_goals go_ret
  all_goals exact ⟨rfl, (by first | exact Below.refl _ _ | exact (Below.refl _ _).alloc (Nat.le_refl _) _ | exact ((Below.refl _ _).alloc (Nat.le_refl _) _).alloc (by simp) _ | exact (((Below.refl _ _).alloc (Nat.le_refl _) _).alloc (by simp) _).setCell (by simp) _)⟩
set_option maxRecDepth 100000 in
set_option maxHeartbeats 4000000 in
theorem charge_over (lo hi p rb : Nat) (l : List MP) (i : Nat) (x : MP) (m : Int) (w : World) (h : PT lo hi w p rb l) (hx : l[i]? = some x) (ho : Ok x) (hl : l.length ≤ 16) (ht : TK m) (hb : hasB x = true) (hv : overB (chargeP x m) = true) :
    Calls Try.prog 25 #[.pointer (some ⟨p, 0, none⟩), .int .i64 (i : Int), .int .i64 m] w fun e w' => e = .returned (.int .i64 16) ∧ PT lo hi w' p rb (l.set i (chargeP x m)) ∧ Past rb w w' := by
  obtain ⟨cap, hc, hcap⟩ := RT.cell h
  obtain ⟨hpz, hrz, hpr⟩ := PT.lt h
  obtain ⟨n, hn'⟩ : ∃ n, (l.map MP.cells).length = n := ⟨_, rfl⟩
  have hin : i < n := by rw [← hn']; simpa using (List.getElem?_eq_some_iff.1 hx).1
  have hnl : n ≤ 16 := by rw [← hn']; simpa using hl
  rw [hn'] at hc
  clear hn' hcap
  have CP := Lib.hid fun W (hb : Below w.heap.size w W) => hasRelease_any rb (i * 13) x W ((PT.at_ h hx).below hb)
  rw [hb] at CP
  have HSZ := Lib.hid (PT.hs h)
  have CO := Lib.hid fun W (hp : PT lo hi W p rb (l.set i (chargeP x m))) => isOver_any rb (i * 13) (chargeP x m) W (PT.at_ hp (by simp [(List.getElem?_eq_some_iff.1 hx).1]))
  rw [hv] at CO
  have hm := fun W : World => meth_hasRelease rb (i * 13) W
  have CE := Lib.hid fun W (hb : Below w.heap.size w W) => charge_eff lo hi p rb l i x m W (h.below hb) hx ho ht
  have hd : decide (0 ≤ m) = true := by simpa using ht.1
  have hd2 : decide (m ≤ 1099511627776) = true := by simpa using ht.2
  clear ht
  clear h hx hb ho hv
  go_enter Try.func25, Try.ntmps25
  go_wp2_with (first | (go_at_call 76; refine (CP.out _ (by first | exact Below.refl _ _ | exact (Below.refl _ _).alloc (Nat.le_refl _) _ | exact ((Below.refl _ _).alloc (Nat.le_refl _) _).alloc (by simp) _)).mono ?_; rintro e w1 ⟨rfl, rfl⟩) | (go_at_call 78; refine (CE.out _ (by first | exact Below.refl _ _ | exact (Below.refl _ _).alloc (Nat.le_refl _) _ | exact ((Below.refl _ _).alloc (Nat.le_refl _) _).alloc (by simp) _)).mono ?_; rintro e w1 ⟨rfl, hp1, hq1⟩; have g1 : w1.cell? ⟨w.heap.size + 1, 0, none⟩ = some (.bool false) := cell_past hq1 (by simp) (by omega) (by simp); have g2 : w1.frozen? ⟨w.heap.size + 1, 0, none⟩ = false := (frz_past hq1 (by simp) (by omega)).trans (by simp)) | (go_at_call 79; refine (CO.out _ hp1).mono ?_; rintro e w2 ⟨rfl, no, rfl⟩) | go_in | go_end0)
  go_ret
  have hs := HSZ.out
  exact ⟨rfl, (hp1.drawn no).newc (by omega) _, past_new (Past.drewN ((Past.of_below (((Below.refl _ _).alloc (Nat.le_refl _) _).alloc (by simp) _)).trans hq1) no) (by omega) _⟩
set_option maxRecDepth 100000 in
set_option maxHeartbeats 4000000 in
theorem charge_fine (lo hi p rb : Nat) (l : List MP) (i : Nat) (x : MP) (m : Int) (w : World) (h : PT lo hi w p rb l) (hx : l[i]? = some x) (ho : Ok x) (hl : l.length ≤ 16) (ht : TK m) (hb : hasB x = true) (hv : overB (chargeP x m) = false) :
    Calls Try.prog 25 #[.pointer (some ⟨p, 0, none⟩), .int .i64 (i : Int), .int .i64 m] w fun e w' => e = .returned (.int .i64 0) ∧ PT lo hi w' p rb (l.set i (chargeP x m)) ∧ Past rb w w' := by
  obtain ⟨cap, hc, hcap⟩ := RT.cell h
  obtain ⟨hpz, hrz, hpr⟩ := PT.lt h
  obtain ⟨n, hn'⟩ : ∃ n, (l.map MP.cells).length = n := ⟨_, rfl⟩
  have hin : i < n := by rw [← hn']; simpa using (List.getElem?_eq_some_iff.1 hx).1
  have hnl : n ≤ 16 := by rw [← hn']; simpa using hl
  rw [hn'] at hc
  clear hn' hcap
  have CP := Lib.hid fun W (hb : Below w.heap.size w W) => hasRelease_any rb (i * 13) x W ((PT.at_ h hx).below hb)
  rw [hb] at CP
  have HSZ := Lib.hid (PT.hs h)
  have CO := Lib.hid fun W (hp : PT lo hi W p rb (l.set i (chargeP x m))) => isOver_any rb (i * 13) (chargeP x m) W (PT.at_ hp (by simp [(List.getElem?_eq_some_iff.1 hx).1]))
  rw [hv] at CO
  have hm := fun W : World => meth_hasRelease rb (i * 13) W
  have CE := Lib.hid fun W (hb : Below w.heap.size w W) => charge_eff lo hi p rb l i x m W (h.below hb) hx ho ht
  have hd : decide (0 ≤ m) = true := by simpa using ht.1
  have hd2 : decide (m ≤ 1099511627776) = true := by simpa using ht.2
  clear ht
  clear h hx hb ho hv
  go_enter Try.func25, Try.ntmps25
  go_wp2_with (first | (go_at_call 76; refine (CP.out _ (by first | exact Below.refl _ _ | exact (Below.refl _ _).alloc (Nat.le_refl _) _ | exact ((Below.refl _ _).alloc (Nat.le_refl _) _).alloc (by simp) _)).mono ?_; rintro e w1 ⟨rfl, rfl⟩) | (go_at_call 78; refine (CE.out _ (by first | exact Below.refl _ _ | exact (Below.refl _ _).alloc (Nat.le_refl _) _ | exact ((Below.refl _ _).alloc (Nat.le_refl _) _).alloc (by simp) _)).mono ?_; rintro e w1 ⟨rfl, hp1, hq1⟩; have g1 : w1.cell? ⟨w.heap.size + 1, 0, none⟩ = some (.bool false) := cell_past hq1 (by simp) (by omega) (by simp); have g2 : w1.frozen? ⟨w.heap.size + 1, 0, none⟩ = false := (frz_past hq1 (by simp) (by omega)).trans (by simp)) | (go_at_call 79; refine (CO.out _ hp1).mono ?_; rintro e w2 ⟨rfl, no, rfl⟩) | go_in | go_end0)
  go_ret
  have hs := HSZ.out
  exact ⟨rfl, (hp1.drawn no).newc (by omega) _, past_new (Past.drewN ((Past.of_below (((Below.refl _ _).alloc (Nat.le_refl _) _).alloc (by simp) _)).trans hq1) no) (by omega) _⟩
end Go.Proofs.Ytdabmbdikofhpaa.P
