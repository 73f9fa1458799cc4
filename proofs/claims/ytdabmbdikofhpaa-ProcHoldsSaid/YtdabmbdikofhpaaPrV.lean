/-
  Two tables of one process each, and what is done to the one or the other. Each statement bears its own conditions.
-/
import Derived.Test.YtdabmbdikofhpaaPrH
import Derived.Test.YtdabmbdikofhpaaPrP
import Derived.Test.YtdabmbdikofhpaaPrR
import Derived.Test.YtdabmbdikofhpaaPrT
import Derived.Test.YtdabmbdikofhpaaPrU
namespace Go.Proofs.Ytdabmbdikofhpaa.P
open Go.RowKit
set_option linter.unusedVariables false
set_option linter.unusedSimpArgs false
/-- What a method without a number does to a table of one process. -/
def Op0 (f : Nat) (x : MP) (z : Int) (y : MP) : Prop := ∀ (lo hi p rb : Nat) (w : World), PT lo hi w p rb [x] → Calls Try.prog f #[.pointer (some ⟨p, 0, none⟩), .int .i64 0] w fun e w' => e = .returned (.int .i64 z) ∧ PT lo hi w' p rb [y] ∧ Past rb w w'
/-- What a method with a number does to a table of one process. -/
def Op1 (f : Nat) (n : Int) (x : MP) (z : Int) (y : MP) : Prop := ∀ (lo hi p rb : Nat) (w : World), PT lo hi w p rb [x] → Calls Try.prog f #[.pointer (some ⟨p, 0, none⟩), .int .i64 0, .int .i64 n] w fun e w' => e = .returned (.int .i64 z) ∧ PT lo hi w' p rb [y] ∧ Past rb w w'
def wkE (x : MP) : Int := if waitB x then 0 else 10
def wkX (x : MP) : MP := if waitB x then goOnP x else x
def rlE (x : MP) (n : Int) : Int := if TK n then (if dueB x n then 0 else 10) else 2
def rlX (x : MP) (n : Int) : MP := if TK n then (if dueB x n then beginP x x.unt else x) else x
def chE (x : MP) (n : Int) : Int := if TK n then (if hasB x then (if overB (chargeP x n) then 16 else 0) else 10) else 2
def chX (x : MP) (n : Int) : MP := if TK n then (if hasB x then chargeP x n else x) else x
def spE (x : MP) (n : Int) : Int := if PRI n then (if startedB x then 0 else 10) else 2
def spX (x : MP) (n : Int) : MP := if PRI n then (if startedB x then { x with bas := n } else x) else x
def raE (x : MP) (n : Int) : Int := if n = 0 ∨ PRI n then (if startedB x then 0 else 10) else 2
def raX (x : MP) (n : Int) : MP := if n = 0 ∨ PRI n then (if startedB x then { x with rai := n } else x) else x
theorem wake_op (x : MP) (ho : Ok x) : Op0 28 x (wkE x) (wkX x) := by
  intro lo hi p rb w hp
  unfold wkE wkX
  rcases hb : waitB x with _ | _
  · exact (wake_state lo hi p rb [x] 0 x w hp rfl (by simp) hb).mono fun e w' q => ⟨q.1, hp.below q.2, Past.of_below q.2⟩
  · exact wake_ok lo hi p rb [x] 0 x w hp rfl ho (by simp) hb
theorem release_op (x : MP) (n : Int) (ho : Ok x) : Op1 21 n x (rlE x n) (rlX x n) := by
  intro lo hi p rb w hp
  unfold rlE rlX
  by_cases h : TK n
  · rw [if_pos h, if_pos h]
    rcases hb : dueB x n with _ | _
    · exact (release_state lo hi p rb [x] 0 x n w hp rfl ho (by simp) h hb).mono fun e w' q => ⟨q.1, hp.below q.2, Past.of_below q.2⟩
    · exact release_ok lo hi p rb [x] 0 x n w hp rfl ho (by simp) h hb
  · rw [if_neg h, if_neg h]
    exact (release_range lo hi p rb [x] 0 x n w hp rfl (by simp) h).mono fun e w' q => ⟨q.1, hp.below q.2, Past.of_below q.2⟩
theorem charge_op (x : MP) (n : Int) (ho : Ok x) : Op1 25 n x (chE x n) (chX x n) := by
  intro lo hi p rb w hp
  unfold chE chX
  by_cases h : TK n
  · rw [if_pos h, if_pos h]
    rcases hb : hasB x with _ | _
    · exact (charge_state lo hi p rb [x] 0 x n w hp rfl (by simp) h hb).mono fun e w' q => ⟨q.1, hp.below q.2, Past.of_below q.2⟩
    · rcases hv : overB (chargeP x n) with _ | _
      · exact charge_fine lo hi p rb [x] 0 x n w hp rfl ho (by simp) h hb hv
      · exact charge_over lo hi p rb [x] 0 x n w hp rfl ho (by simp) h hb hv
  · rw [if_neg h, if_neg h]
    exact (charge_range lo hi p rb [x] 0 x n w hp rfl (by simp) h).mono fun e w' q => ⟨q.1, hp.below q.2, Past.of_below q.2⟩
theorem setp_op (x : MP) (n : Int) (ho : Ok x) : Op1 29 n x (spE x n) (spX x n) := by
  intro lo hi p rb w hp
  unfold spE spX
  by_cases h : PRI n
  · rw [if_pos h, if_pos h]
    rcases hb : startedB x with _ | _
    · exact (setp_state lo hi p rb [x] 0 x n w hp rfl (by simp) h hb).mono fun e w' q => ⟨q.1, hp.below q.2, Past.of_below q.2⟩
    · exact setp_ok lo hi p rb [x] 0 x n w hp rfl (by simp) h hb
  · rw [if_neg h, if_neg h]
    exact (setp_range lo hi p rb [x] 0 x n w hp rfl (by simp) h).mono fun e w' q => ⟨q.1, hp.below q.2, Past.of_below q.2⟩
theorem raise_op (x : MP) (n : Int) (ho : Ok x) : Op1 30 n x (raE x n) (raX x n) := by
  intro lo hi p rb w hp
  unfold raE raX
  by_cases h : n = 0 ∨ PRI n
  · rw [if_pos h, if_pos h]
    rcases hb : startedB x with _ | _
    · rcases h with h | h
      · exact (raise0_state lo hi p rb [x] 0 x n w hp rfl (by simp) h hb).mono fun e w' q => ⟨q.1, hp.below q.2, Past.of_below q.2⟩
      · exact (raise_state lo hi p rb [x] 0 x n w hp rfl (by simp) h hb).mono fun e w' q => ⟨q.1, hp.below q.2, Past.of_below q.2⟩
    · rcases h with h | h
      · exact raise0_ok lo hi p rb [x] 0 x n w hp rfl (by simp) h hb
      · exact raise_ok lo hi p rb [x] 0 x n w hp rfl (by simp) h hb
  · rw [if_neg h, if_neg h]
    exact (raise_range lo hi p rb [x] 0 x n w hp rfl (by simp) h).mono fun e w' q => ⟨q.1, hp.below q.2, Past.of_below q.2⟩
theorem suspend_op (x : MP) (h : freeB x = true) : Op0 27 x 0 { x with hel := true } := fun lo hi p rb w hp => suspend_ok lo hi p rb [x] 0 x w hp rfl (by simp) h
theorem suspend_no (x : MP) (h : freeB x = false) : Op0 27 x 10 x := fun lo hi p rb w hp => (suspend_state lo hi p rb [x] 0 x w hp rfl (by simp) h).mono fun e w' q => ⟨q.1, hp.below q.2, Past.of_below q.2⟩
theorem resume_op (x : MP) (h : x.hel = true) : Op0 32 x 0 { x with hel := false } := fun lo hi p rb w hp => resume_ok lo hi p rb [x] 0 x w hp rfl (by simp) h
theorem wait_no (x : MP) (n : Int) (hn : TK n) (h : readyB x = false) : Op1 31 n x 10 x := fun lo hi p rb w hp => (wait_state lo hi p rb [x] 0 x n w hp rfl (by simp) hn h).mono fun e w' q => ⟨q.1, hp.below q.2, Past.of_below q.2⟩
theorem state_op (x : MP) : Op0 19 x (stateN x) x := fun lo hi p rb w hp => (state_ok lo hi p rb [x] 0 x w hp rfl (by simp)).mono fun e w' q => ⟨q.1, hp.below q.2, Past.of_below q.2⟩
/-- Two tables of one process each: the one made since w0, the other since there were m blocks. -/
structure T2 (w0 w : World) (p rb p' rb' m : Nat) (x x' : MP) : Prop where
  pt : PT w0.heap.size m w p rb [x]
  pc : ∃ hi, PT m hi w p' rb' [x']
  b : Below w0.heap.size w0 w
section
variable {w0 w w' : World} {p rb p' rb' m : Nat} {x x' y : MP}
theorem T2.le (h : T2 w0 w p rb p' rb' m x x') : w0.heap.size ≤ m := by have := h.pt.hp; omega
theorem T2.below (h : T2 w0 w p rb p' rb' m x x') (hb : Below w.heap.size w w') : T2 w0 w' p rb p' rb' m x x' := by
  obtain ⟨hi, hc⟩ := h.pc
  exact ⟨h.pt.below hb, ⟨hi, hc.below hb⟩, h.b.trans (hb.mono h.b.size)⟩
theorem T2.left (h : T2 w0 w p rb p' rb' m x x') (hp : PT w0.heap.size m w' p rb [y]) (hq : Past rb w w') : T2 w0 w' p rb p' rb' m y x' := by
  obtain ⟨hi, hc⟩ := h.pc
  exact ⟨hp, ⟨hi, hc.past hq (.inl h.pt.hr.2)⟩, h.b.trans (hq.below hp.hr.1 h.b.size)⟩
theorem T2.right {hi : Nat} (h : T2 w0 w p rb p' rb' m x x') (hp : PT m hi w' p' rb' [y]) (hq : Past rb' w w') : T2 w0 w' p rb p' rb' m x y := by
  refine ⟨h.pt.past hq (.inr hp.hr.1), ⟨hi, hp⟩, h.b.trans (hq.below (Nat.le_trans h.le hp.hr.1) h.b.size)⟩
theorem T2.cell (h : T2 w0 w p rb p' rb' m x x') {a : Addr} {v : Value} (hc : w0.cell? a = some v) : w.cell? a = some v := cell_later h.b hc
theorem T2.op0l {f : Nat} {z : Int} (h : T2 w0 w p rb p' rb' m x x') (ho : Op0 f x z y) : Calls Try.prog f #[.pointer (some ⟨p, 0, none⟩), .int .i64 0] w fun e w' => e = .returned (.int .i64 z) ∧ T2 w0 w' p rb p' rb' m y x' :=
  (ho _ _ _ _ _ h.pt).mono fun e w' q => ⟨q.1, h.left q.2.1 q.2.2⟩
theorem T2.op1l {f : Nat} {z n : Int} (h : T2 w0 w p rb p' rb' m x x') (ho : Op1 f n x z y) : Calls Try.prog f #[.pointer (some ⟨p, 0, none⟩), .int .i64 0, .int .i64 n] w fun e w' => e = .returned (.int .i64 z) ∧ T2 w0 w' p rb p' rb' m y x' :=
  (ho _ _ _ _ _ h.pt).mono fun e w' q => ⟨q.1, h.left q.2.1 q.2.2⟩
theorem T2.op0r {f : Nat} {z : Int} (h : T2 w0 w p rb p' rb' m x x') (ho : Op0 f x' z y) : Calls Try.prog f #[.pointer (some ⟨p', 0, none⟩), .int .i64 0] w fun e w' => e = .returned (.int .i64 z) ∧ T2 w0 w' p rb p' rb' m x y := by
  obtain ⟨hi, hc⟩ := h.pc
  exact (ho _ _ _ _ _ hc).mono fun e w' q => ⟨q.1, h.right q.2.1 q.2.2⟩
theorem T2.op1r {f : Nat} {z n : Int} (h : T2 w0 w p rb p' rb' m x x') (ho : Op1 f n x' z y) : Calls Try.prog f #[.pointer (some ⟨p', 0, none⟩), .int .i64 0, .int .i64 n] w fun e w' => e = .returned (.int .i64 z) ∧ T2 w0 w' p rb p' rb' m x y := by
  obtain ⟨hi, hc⟩ := h.pc
  exact (ho _ _ _ _ _ hc).mono fun e w' q => ⟨q.1, h.right q.2.1 q.2.2⟩
/-- Same, asked of the other one. -/
theorem T2.same_rl (h : T2 w0 w p rb p' rb' m x x') : Calls Try.prog 12 #[.pointer (some ⟨p', 0, none⟩), .pointer (some ⟨p, 0, none⟩)] w fun e w' => e = .returned (.bool (sameL [x'] [x])) ∧ T2 w0 w' p rb p' rb' m x x' := by
  obtain ⟨hi, hc⟩ := h.pc
  exact (same_any _ _ _ _ _ _ _ _ [x'] [x] w hc h.pt (by simp) (by simp)).mono fun e w' q => ⟨q.1, by obtain ⟨n, rfl⟩ := q.2; exact h.below (below_drewN (Below.refl _ _) n)⟩
theorem T2.same_lr (h : T2 w0 w p rb p' rb' m x x') : Calls Try.prog 12 #[.pointer (some ⟨p, 0, none⟩), .pointer (some ⟨p', 0, none⟩)] w fun e w' => e = .returned (.bool (sameL [x] [x'])) ∧ T2 w0 w' p rb p' rb' m x x' := by
  obtain ⟨hi, hc⟩ := h.pc
  exact (same_any _ _ _ _ _ _ _ _ [x] [x'] w h.pt hc (by simp) (by simp)).mono fun e w' q => ⟨q.1, by obtain ⟨n, rfl⟩ := q.2; exact h.below (below_drewN (Below.refl _ _) n)⟩
theorem T2.missed_l {t : Int} (h : T2 w0 w p rb p' rb' m x x') (ho : Ok x) : Calls Try.prog 23 #[.pointer (some ⟨p, 0, none⟩), .int .i64 t] w fun e w' => (∃ A c, e = .returned (.slice A (lateL t [x] 0).length c) ∧ w'.ownsRow w.heap.size 3 1 (.slice A (lateL t [x] 0).length c) (lateL t [x] 0).length (C (lateL t [x] 0))) ∧ T2 w0 w' p rb p' rb' m (missP x t) x' := by
  refine (missed_any _ _ p rb [x] t w h.pt (fun y hy => by simp at hy; subst hy; exact ho) (by simp)).mono fun e w' q => ?_
  obtain ⟨A, c, q1, q2, q3, q4⟩ := q
  exact ⟨⟨A, c, q1, q2⟩, h.left q3 q4⟩
theorem T2.missed_r {t : Int} (h : T2 w0 w p rb p' rb' m x x') (ho : Ok x') : Calls Try.prog 23 #[.pointer (some ⟨p', 0, none⟩), .int .i64 t] w fun e w' => (∃ A c, e = .returned (.slice A (lateL t [x'] 0).length c) ∧ w'.ownsRow w.heap.size 3 1 (.slice A (lateL t [x'] 0).length c) (lateL t [x'] 0).length (C (lateL t [x'] 0))) ∧ T2 w0 w' p rb p' rb' m x (missP x' t) ∧ Past rb' w w' := by
  obtain ⟨hi, hc⟩ := h.pc
  refine (missed_any _ _ p' rb' [x'] t w hc (fun y hy => by simp at hy; subst hy; exact ho) (by simp)).mono fun e w' q => ?_
  obtain ⟨A, c, q1, q2, q3, q4⟩ := q
  exact ⟨⟨A, c, q1, q2⟩, h.right q3 q4, q4⟩
end
/-- Held. -/
def hd (x : MP) : MP := { x with hel := true }
structure H1 (x : MP) : Prop where
  ok : Ok x
  hel : x.hel = false
  sta : x.sta ≠ 0
  unt : x.sta = 3 → 0 ≤ x.unt
theorem Ok.hd {x : MP} (h : Ok x) : Ok (hd x) := ⟨h.pri, h.per, h.cap, h.dea, h.off, h.sta, h.bas, h.rai, h.unt, h.frm, h.usd⟩
theorem wk_hd (x : MP) : wkX (hd x) = hd (wkX x) := by
  show (if waitB x then goOnP (hd x) else hd x) = hd (if waitB x then goOnP x else x)
  split <;> rfl
theorem rl_hd (x : MP) (n : Int) : rlX (hd x) n = hd (rlX x n) := by
  show (if TK n then (if dueB x n then beginP (hd x) x.unt else hd x) else hd x) = hd (if TK n then (if dueB x n then beginP x x.unt else x) else x)
  split
  · split <;> rfl
  · rfl
theorem ch_hd (x : MP) (n : Int) : chX (hd x) n = hd (chX x n) := by
  show (if TK n then (if hasB x then chargeP (hd x) n else hd x) else hd x) = hd (if TK n then (if hasB x then chargeP x n else x) else x)
  split
  · split <;> rfl
  · rfl
theorem sp_hd (x : MP) (n : Int) : spX (hd x) n = hd (spX x n) := by
  show (if PRI n then (if startedB x then { hd x with bas := n } else hd x) else hd x) = hd (if PRI n then (if startedB x then { x with bas := n } else x) else x)
  split
  · split <;> rfl
  · rfl
theorem ra_hd (x : MP) (n : Int) : raX (hd x) n = hd (raX x n) := by
  show (if n = 0 ∨ PRI n then (if startedB x then { hd x with rai := n } else hd x) else hd x) = hd (if n = 0 ∨ PRI n then (if startedB x then { x with rai := n } else x) else x)
  split
  · split <;> rfl
  · rfl
theorem ms_hd (x : MP) (n : Int) : missP (hd x) n = hd (missP x n) := by
  show (if lateB x n then { hd x with mis := true } else hd x) = hd (if lateB x n then { x with mis := true } else x)
  split <;> rfl
theorem H1.wk {x : MP} (h : H1 x) : H1 (wkX x) := by
  unfold wkX
  split
  · exact ⟨h.ok.goOn, h.hel, by simp [goOnP], fun _ => by simp [goOnP]⟩
  · exact h
theorem H1.rl {x : MP} (h : H1 x) (n : Int) : H1 (rlX x n) := by
  unfold rlX
  split
  next ht =>
    split
    next hd => exact ⟨h.ok.begin_ (TK.of_unt hd ht (h.unt (of_decide_eq_true hd).1)), h.hel, by simp [beginP], fun _ => by simp [beginP]⟩
    next => exact h
  next => exact h
theorem H1.ch {x : MP} (h : H1 x) (n : Int) : H1 (chX x n) := by
  unfold chX
  split
  next ht =>
    split
    · exact ⟨h.ok.charge ht, h.hel, h.sta, h.unt⟩
    · exact h
  next => exact h
theorem H1.sp {x : MP} (h : H1 x) (n : Int) : H1 (spX x n) := by
  unfold spX
  split
  next ht =>
    split
    · exact ⟨⟨h.ok.pri, h.ok.per, h.ok.cap, h.ok.dea, h.ok.off, h.ok.sta, ht, h.ok.rai, h.ok.unt, h.ok.frm, h.ok.usd⟩, h.hel, h.sta, h.unt⟩
    · exact h
  next => exact h
theorem H1.ra {x : MP} (h : H1 x) (n : Int) : H1 (raX x n) := by
  unfold raX
  split
  next ht =>
    have hr : 0 ≤ n ∧ n ≤ 63 := by
      rcases ht with h0 | h1
      · omega
      · exact ⟨by have := h1.1; omega, h1.2⟩
    split
    · exact ⟨⟨h.ok.pri, h.ok.per, h.ok.cap, h.ok.dea, h.ok.off, h.ok.sta, h.ok.bas, hr, h.ok.unt, h.ok.frm, h.ok.usd⟩, h.hel, h.sta, h.unt⟩
    · exact h
  next => exact h
theorem H1.ms {x : MP} (h : H1 x) (n : Int) : H1 (missP x n) := by
  refine ⟨h.ok.miss n, ?_, ?_, ?_⟩ <;> unfold missP <;> split
  · exact h.hel
  · exact h.hel
  · exact h.sta
  · exact h.sta
  · exact h.unt
  · exact h.unt
end Go.Proofs.Ytdabmbdikofhpaa.P
