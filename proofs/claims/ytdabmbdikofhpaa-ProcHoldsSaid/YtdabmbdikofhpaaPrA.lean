/-
  Contracts of what is asked of one process. Each statement bears its own conditions.
-/
import Derived.Test.YtdabmbdikofhpaaPrM
import Derived.Deep.QuietTactic
import Derived.BigQuiet
namespace Go.Proofs.Ytdabmbdikofhpaa.P
open Go.RowKit
set_option linter.unusedVariables false
set_option linter.unusedSimpArgs false
theorem meth_isDormant (rb o : Nat) (W : World) : (method 220 80 (.pointer (some ⟨rb, o, none⟩)) "monocoque/proc.isDormant").run Try.prog W = .ok (41, .pointer (some ⟨rb, o + 5, none⟩)) W := by kernel_rfl
theorem meth_isStarted (rb o : Nat) (W : World) : (method 220 80 (.pointer (some ⟨rb, o, none⟩)) "monocoque/proc.isStarted").run Try.prog W = .ok (38, .pointer (some ⟨rb, o + 5, none⟩)) W := by kernel_rfl
theorem meth_isFree (rb o : Nat) (W : World) : (method 220 80 (.pointer (some ⟨rb, o, none⟩)) "monocoque/proc.isFree").run Try.prog W = .ok (82, .pointer (some ⟨rb, o + 5, none⟩)) W := by kernel_rfl
theorem meth_isHeld (rb o : Nat) (W : World) : (method 220 80 (.pointer (some ⟨rb, o, none⟩)) "monocoque/proc.isHeld").run Try.prog W = .ok (90, .pointer (some ⟨rb, o + 5, none⟩)) W := by kernel_rfl
theorem meth_isReady (rb o : Nat) (W : World) : (method 220 80 (.pointer (some ⟨rb, o, none⟩)) "monocoque/proc.isReady").run Try.prog W = .ok (72, .pointer (some ⟨rb, o + 5, none⟩)) W := by kernel_rfl
theorem meth_isWaiting (rb o : Nat) (W : World) : (method 220 80 (.pointer (some ⟨rb, o, none⟩)) "monocoque/proc.isWaiting").run Try.prog W = .ok (84, .pointer (some ⟨rb, o + 5, none⟩)) W := by kernel_rfl
theorem meth_hasRelease (rb o : Nat) (W : World) : (method 220 80 (.pointer (some ⟨rb, o, none⟩)) "monocoque/proc.hasRelease").run Try.prog W = .ok (76, .pointer (some ⟨rb, o + 5, none⟩)) W := by kernel_rfl
theorem meth_goOn (rb o : Nat) (W : World) : (method 220 80 (.pointer (some ⟨rb, o, none⟩)) "monocoque/proc.goOn").run Try.prog W = .ok (85, .pointer (some ⟨rb, o + 5, none⟩)) W := by kernel_rfl
theorem meth_stop (rb o : Nat) (W : World) : (method 220 80 (.pointer (some ⟨rb, o, none⟩)) "monocoque/proc.stop").run Try.prog W = .ok (39, .pointer (some ⟨rb, o, none⟩)) W := by kernel_rfl
/-- A process stands at a place of memory. -/
structure At (w : World) (b o : Nat) (x : MP) : Prop where
  lt : b < w.heap.size
  ex : ∀ j u, x.cells[j]? = some u → w.cell? ⟨b, o + j, none⟩ = some u
theorem At.of {lo hi p rb : Nat} {w : World} {l : List MP} {i : Nat} {x : MP} (h : RT lo hi w p rb (l.map MP.cells)) (hx : l[i]? = some x) : At w rb (i * 13) x :=
  ⟨Nat.lt_of_lt_of_le h.hr.2 h.hs, fun j u hu => (h.at_ (c := x.cells) (by simp [hx]) hu).1⟩
theorem At.below {w w' : World} {b o : Nat} {x : MP} (h : At w b o x) (hb : Below w.heap.size w w') : At w' b o x :=
  ⟨Nat.lt_of_lt_of_le h.lt hb.size, fun j u hu => cell_later hb (h.ex j u hu)⟩
set_option maxRecDepth 100000 in
set_option maxHeartbeats 2000000 in
theorem isDormant_any (b o : Nat) (x : MP) (w : World) (h : At w b o x) : Calls Try.prog 41 #[.pointer (some ⟨b, o + 5, none⟩)] w fun e w' => e = .returned (.bool (dormB x)) ∧ w = w' := by
  have c5 := h.ex 5 _ rfl
  obtain ⟨x0, x1, x2, x3, x4, x5, x6, x7, x8, x9, x10, x11, x12⟩ := x
  have hlt := h.lt
  clear h
  go_enter Try.func41, Try.ntmps41
  go_wp2
  all_goals go_ret
  all_goals first | exact ⟨rfl, rfl⟩ | (refine ⟨bool_ret ?_, rfl⟩; simp only [dormB, startedB, freeB, readyB, waitB, hasB, dueB]; rw [Bool.eq_iff_iff]; simp [*]; done) | (refine ⟨bool_ret ?_, rfl⟩; simp only [dormB, startedB, freeB, readyB, waitB, hasB, dueB]; rw [Bool.eq_iff_iff]; simp; omega)
set_option maxRecDepth 100000 in
set_option maxHeartbeats 2000000 in
theorem isStarted_any (b o : Nat) (x : MP) (w : World) (h : At w b o x) : Calls Try.prog 38 #[.pointer (some ⟨b, o + 5, none⟩)] w fun e w' => e = .returned (.bool (startedB x)) ∧ w = w' := by
  have c5 := h.ex 5 _ rfl
  obtain ⟨x0, x1, x2, x3, x4, x5, x6, x7, x8, x9, x10, x11, x12⟩ := x
  have hlt := h.lt
  clear h
  go_enter Try.func38, Try.ntmps38
  go_wp2
  all_goals go_ret
  all_goals first | exact ⟨rfl, rfl⟩ | (refine ⟨bool_ret ?_, rfl⟩; simp only [dormB, startedB, freeB, readyB, waitB, hasB, dueB]; rw [Bool.eq_iff_iff]; simp [*]; done) | (refine ⟨bool_ret ?_, rfl⟩; simp only [dormB, startedB, freeB, readyB, waitB, hasB, dueB]; rw [Bool.eq_iff_iff]; simp; omega)
set_option maxRecDepth 100000 in
set_option maxHeartbeats 2000000 in
theorem isHeld_any (b o : Nat) (x : MP) (w : World) (h : At w b o x) : Calls Try.prog 90 #[.pointer (some ⟨b, o + 5, none⟩)] w fun e w' => e = .returned (.bool x.hel) ∧ w = w' := by
  have c6 := h.ex 6 _ rfl
  rw [show o + 6 = o + 5 + 1 by omega] at c6
  obtain ⟨x0, x1, x2, x3, x4, x5, x6, x7, x8, x9, x10, x11, x12⟩ := x
  have hlt := h.lt
  clear h
  go_enter Try.func90, Try.ntmps90
  go_wp2
  all_goals go_ret
  all_goals first | exact ⟨rfl, rfl⟩ | (refine ⟨bool_ret ?_, rfl⟩; simp only [dormB, startedB, freeB, readyB, waitB, hasB, dueB]; rw [Bool.eq_iff_iff]; simp [*]; done) | (refine ⟨bool_ret ?_, rfl⟩; simp only [dormB, startedB, freeB, readyB, waitB, hasB, dueB]; rw [Bool.eq_iff_iff]; simp; omega)
set_option maxRecDepth 100000 in
set_option maxHeartbeats 2000000 in
theorem isFree_any (b o : Nat) (x : MP) (w : World) (h : At w b o x) : Calls Try.prog 82 #[.pointer (some ⟨b, o + 5, none⟩)] w fun e w' => e = .returned (.bool (freeB x)) ∧ w = w' := by
  have c5 := h.ex 5 _ rfl
  have c6 := h.ex 6 _ rfl
  rw [show o + 6 = o + 5 + 1 by omega] at c6
  obtain ⟨x0, x1, x2, x3, x4, x5, x6, x7, x8, x9, x10, x11, x12⟩ := x
  have hlt := h.lt
  clear h
  go_enter Try.func82, Try.ntmps82
  go_wp2
  all_goals go_ret
  all_goals first | exact ⟨rfl, rfl⟩ | (refine ⟨bool_ret ?_, rfl⟩; simp only [dormB, startedB, freeB, readyB, waitB, hasB, dueB]; rw [Bool.eq_iff_iff]; simp [*]; done) | (refine ⟨bool_ret ?_, rfl⟩; simp only [dormB, startedB, freeB, readyB, waitB, hasB, dueB]; rw [Bool.eq_iff_iff]; simp; omega)
set_option maxRecDepth 100000 in
set_option maxHeartbeats 2000000 in
theorem isReady_any (b o : Nat) (x : MP) (w : World) (h : At w b o x) : Calls Try.prog 72 #[.pointer (some ⟨b, o + 5, none⟩)] w fun e w' => e = .returned (.bool (readyB x)) ∧ w = w' := by
  have c5 := h.ex 5 _ rfl
  have c6 := h.ex 6 _ rfl
  rw [show o + 6 = o + 5 + 1 by omega] at c6
  obtain ⟨x0, x1, x2, x3, x4, x5, x6, x7, x8, x9, x10, x11, x12⟩ := x
  have hlt := h.lt
  clear h
  go_enter Try.func72, Try.ntmps72
  go_wp2
  all_goals go_ret
  all_goals first | exact ⟨rfl, rfl⟩ | (refine ⟨bool_ret ?_, rfl⟩; simp only [dormB, startedB, freeB, readyB, waitB, hasB, dueB]; rw [Bool.eq_iff_iff]; simp [*]; done) | (refine ⟨bool_ret ?_, rfl⟩; simp only [dormB, startedB, freeB, readyB, waitB, hasB, dueB]; rw [Bool.eq_iff_iff]; simp; omega)
set_option maxRecDepth 100000 in
set_option maxHeartbeats 2000000 in
theorem isWaiting_any (b o : Nat) (x : MP) (w : World) (h : At w b o x) : Calls Try.prog 84 #[.pointer (some ⟨b, o + 5, none⟩)] w fun e w' => e = .returned (.bool (waitB x)) ∧ w = w' := by
  have c5 := h.ex 5 _ rfl
  obtain ⟨x0, x1, x2, x3, x4, x5, x6, x7, x8, x9, x10, x11, x12⟩ := x
  have hlt := h.lt
  clear h
  go_enter Try.func84, Try.ntmps84
  go_wp2
  all_goals go_ret
  all_goals first | exact ⟨rfl, rfl⟩ | (refine ⟨bool_ret ?_, rfl⟩; simp only [dormB, startedB, freeB, readyB, waitB, hasB, dueB]; rw [Bool.eq_iff_iff]; simp [*]; done) | (refine ⟨bool_ret ?_, rfl⟩; simp only [dormB, startedB, freeB, readyB, waitB, hasB, dueB]; rw [Bool.eq_iff_iff]; simp; omega)
set_option maxRecDepth 100000 in
set_option maxHeartbeats 2000000 in
theorem hasRelease_any (b o : Nat) (x : MP) (w : World) (h : At w b o x) : Calls Try.prog 76 #[.pointer (some ⟨b, o + 5, none⟩)] w fun e w' => e = .returned (.bool (hasB x)) ∧ w = w' := by
  have c5 := h.ex 5 _ rfl
  obtain ⟨x0, x1, x2, x3, x4, x5, x6, x7, x8, x9, x10, x11, x12⟩ := x
  have hlt := h.lt
  clear h
  go_enter Try.func76, Try.ntmps76
  go_wp2
  all_goals go_ret
  all_goals first | exact ⟨rfl, rfl⟩ | (refine ⟨bool_ret ?_, rfl⟩; simp only [dormB, startedB, freeB, readyB, waitB, hasB, dueB]; rw [Bool.eq_iff_iff]; simp [*]; done) | (refine ⟨bool_ret ?_, rfl⟩; simp only [dormB, startedB, freeB, readyB, waitB, hasB, dueB]; rw [Bool.eq_iff_iff]; simp; omega)
set_option maxRecDepth 100000 in
set_option maxHeartbeats 2000000 in
theorem reported_any (b o : Nat) (x : MP) (w : World) (h : At w b o x) : Calls Try.prog 67 #[.pointer (some ⟨b, o + 5, none⟩)] w fun e w' => e = .returned (.int .i64 (stateN x)) ∧ w = w' := by
  have c5 := h.ex 5 _ rfl
  have c6 := h.ex 6 _ rfl
  rw [show o + 6 = o + 5 + 1 by omega] at c6
  obtain ⟨x0, x1, x2, x3, x4, x5, x6, x7, x8, x9, x10, x11, x12⟩ := x
  have hlt := h.lt
  clear h
  go_enter Try.func67, Try.ntmps67
  cases x6
  all_goals
    go_wp2
    go_ret
    exact ⟨rfl, rfl⟩
set_option maxRecDepth 100000 in
set_option maxHeartbeats 2000000 in
theorem isDue_any (b o : Nat) (x : MP) (now : Int) (w : World) (h : At w b o x) : Calls Try.prog 69 #[.pointer (some ⟨b, o + 5, none⟩), .int .i64 now] w fun e w' => e = .returned (.bool (dueB x now)) ∧ w = w' := by
  have c5 := h.ex 5 _ rfl
  have c9 := h.ex 9 _ rfl
  rw [show o + 9 = o + 5 + 4 by omega] at c9
  obtain ⟨x0, x1, x2, x3, x4, x5, x6, x7, x8, x9, x10, x11, x12⟩ := x
  have hlt := h.lt
  clear h
  go_enter Try.func69, Try.ntmps69
  go_wp2
  all_goals go_ret
  all_goals first | exact ⟨rfl, rfl⟩ | (refine ⟨bool_ret ?_, rfl⟩; simp only [dormB, startedB, freeB, readyB, waitB, hasB, dueB]; rw [Bool.eq_iff_iff]; simp [*]; done) | (refine ⟨bool_ret ?_, rfl⟩; simp only [dormB, startedB, freeB, readyB, waitB, hasB, dueB]; rw [Bool.eq_iff_iff]; simp; omega)
set_option maxRecDepth 100000 in
set_option maxHeartbeats 2000000 in
theorem current_any (b o : Nat) (x : MP) (w : World) (h : At w b o x) : Calls Try.prog 96 #[.pointer (some ⟨b, o + 5, none⟩)] w fun e w' => e = .returned (.int .i64 (currentN x)) ∧ ∃ n, w' = w.drewN n := by
  have c7 := h.ex 7 _ rfl
  have c8 := h.ex 8 _ rfl
  rw [show o + 7 = o + 5 + 2 by omega] at c7
  rw [show o + 8 = o + 5 + 3 by omega] at c8
  obtain ⟨x0, x1, x2, x3, x4, x5, x6, x7, x8, x9, x10, x11, x12⟩ := x
  have hlt := h.lt
  clear h
  go_enter Try.func96, Try.ntmps96
  go_wp2
  go_quiet (fail)
  go_wp2
  go_ret
  exact ⟨rfl, _, rfl⟩
set_option maxRecDepth 100000 in
set_option maxHeartbeats 2000000 in
theorem isOver_any (b o : Nat) (x : MP) (w : World) (h : At w b o x) : Calls Try.prog 79 #[.pointer (some ⟨b, o, none⟩)] w fun e w' => e = .returned (.bool (overB x)) ∧ ∃ n, w' = w.drewN n := by
  have c2 := h.ex 2 _ rfl
  have c11 := h.ex 11 _ rfl
  rw [show o + 11 = o + 10 + 1 by omega] at c11
  obtain ⟨x0, x1, x2, x3, x4, x5, x6, x7, x8, x9, x10, x11, x12⟩ := x
  have hlt := h.lt
  clear h
  go_enter Try.func79, Try.ntmps79
  by_cases hc : 0 < x2
  · have hd : decide (0 < x2) = true := by simpa using hc
    go_wp2
    go_quiet (fail)
    go_wp2
    go_ret
    exact ⟨bool_ret (by simp [overB, hc]), _, rfl⟩
  · have hd : decide (0 < x2) = false := by simpa using hc
    go_wp2
    go_quiet (fail)
    go_wp2
    go_ret
    exact ⟨bool_ret (by simp [overB]; omega), _, rfl⟩
set_option maxRecDepth 100000 in
set_option maxHeartbeats 2000000 in
theorem left_any (b o : Nat) (x : MP) (w : World) (h : At w b o x) (ho : Ok x) : Calls Try.prog 81 #[.pointer (some ⟨b, o, none⟩)] w fun e w' => e = .returned (.int .i64 (leftN x)) ∧ ∃ n, w' = w.drewN n := by
  have c2 := h.ex 2 _ rfl
  have c11 := h.ex 11 _ rfl
  rw [show o + 11 = o + 10 + 1 by omega] at c11
  obtain ⟨x0, x1, x2, x3, x4, x5, x6, x7, x8, x9, x10, x11, x12⟩ := x
  have hlt := h.lt
  clear h
  obtain ⟨hq1, hq2⟩ := ho.cap
  obtain ⟨hr1, hr2⟩ := ho.usd
  clear ho
  dsimp only at hq1 hq2 hr1 hr2
  go_enter Try.func81, Try.ntmps81
  by_cases hc : x2 = 0
  · subst hc
    go_wp2
    go_ret
    exact ⟨rfl, 0, rfl⟩
  · go_wp2
    go_quiet (fail)
    go_wp2
    go_ret
    exact ⟨int_ret (by simp [leftN, hc]), _, rfl⟩
set_option maxRecDepth 100000 in
set_option maxHeartbeats 2000000 in
theorem isLate_any (b o : Nat) (x : MP) (now : Int) (w : World) (h : At w b o x) (ho : Ok x) : Calls Try.prog 75 #[.pointer (some ⟨b, o, none⟩), .int .i64 now] w fun e w' => e = .returned (.bool (lateB x now)) ∧ ∃ n, w' = w.drewN n := by
  have h' := h
  have c3 := h.ex 3 _ rfl
  have c5 := h.ex 5 _ rfl
  have c10 := h.ex 10 _ rfl
  have c12 := h.ex 12 _ rfl
  rw [show o + 12 = o + 10 + 2 by omega] at c12
  obtain ⟨x0, x1, x2, x3, x4, x5, x6, x7, x8, x9, x10, x11, x12⟩ := x
  have hlt := h.lt
  clear h
  obtain ⟨hq1, hq2⟩ := ho.dea
  obtain ⟨hr1, hr2⟩ := ho.frm
  dsimp only at hq1 hq2 hr1 hr2
  have hsum : IntKind.i64.wrap (x10 + x3) = x10 + x3 := wrap_ok (by omega) (by omega)
  have HR := Lib.hid fun (n : Nat) => (hasRelease_any b o ⟨x0, x1, x2, x3, x4, x5, x6, x7, x8, x9, x10, x11, x12⟩ (w.drewN n) ⟨h'.lt, h'.ex⟩).mono (R' := fun e w' => e = .returned (.bool (hasB ⟨x0, x1, x2, x3, x4, x5, x6, x7, x8, x9, x10, x11, x12⟩)) ∧ w' = w.drewN n) fun _ _ h => ⟨h.1, h.2.symm⟩
  clear ho h'
  obtain ⟨t, ht⟩ : ∃ t, hasB ⟨x0, x1, x2, x3, x4, x5, x6, x7, x8, x9, x10, x11, x12⟩ = t := ⟨_, rfl⟩
  have HT := Lib.hid ht
  rw [ht] at HR
  clear ht
  go_enter Try.func75, Try.ntmps75
  by_cases hc : 0 < x3
  · have hd : decide (0 < x3) = true := by simpa using hc
    cases t
    · go_wp2
      go_quiet ((go_at_call 76; exact Calls.quiet_of_same (HR.out _)))
      go_wp2
      go_ret
      exact ⟨bool_ret (by have h := HT.out; simp [hasB] at h; simp [lateB]; intros; omega), _, rfl⟩
    · cases x12
      · go_wp2
        go_quiet ((go_at_call 76; exact Calls.quiet_of_same (HR.out _)))
        go_wp2
        go_ret
        exact ⟨bool_ret (by have h := HT.out; simp [hasB] at h; simp [lateB, hc, h]), _, rfl⟩
      · go_wp2
        go_quiet ((go_at_call 76; exact Calls.quiet_of_same (HR.out _)))
        go_wp2
        go_ret
        exact ⟨bool_ret (by simp [lateB]), _, rfl⟩
  · have hd : decide (0 < x3) = false := by simpa using hc
    go_wp2
    go_quiet (fail)
    go_wp2
    go_ret
    exact ⟨bool_ret (by simp [lateB]; omega), _, rfl⟩
end Go.Proofs.Ytdabmbdikofhpaa.P
