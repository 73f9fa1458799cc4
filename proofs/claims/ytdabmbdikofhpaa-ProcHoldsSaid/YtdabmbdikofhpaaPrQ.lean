/-
  Missed of one process; which lists of numbers are the same. Each statement bears its own conditions.
-/
import Derived.Test.YtdabmbdikofhpaaPrH
import Derived.Test.YtdabmbdikofhpaaPrP
import Derived.BigQuiet
namespace Go.Proofs.Ytdabmbdikofhpaa.P
open Go.RowKit
set_option linter.unusedVariables false
set_option linter.unusedSimpArgs false
theorem missed1_no {w0 w : World} {p rb : Nat} {x : MP} {t : Int} (h : T1 w0 w p rb x) (hl : lateB x t = false) :
    Calls Try.prog 23 #[.pointer (some ⟨p, 0, none⟩), .int .i64 t] w fun e w' => (∃ A c, e = .returned (.slice A 0 c)) ∧ T1 w0 w' p rb x := by
  obtain ⟨hi, hp⟩ := h.pt
  refine (missed_any _ hi p rb [x] t w hp (fun y hy => by simp at hy; subst hy; exact h.ok) (by simp)).mono fun e w' q => ?_
  obtain ⟨A, c, q1, q2, q3, q4⟩ := q
  have e1 : lateL t [x] 0 = [] := by simp [lateL, hl]
  have e2 : missP x t = x := by unfold missP; rw [hl]; rfl
  rw [e1] at q1
  rw [List.map_cons, List.map_nil, e2] at q3
  exact ⟨⟨A, c, q1⟩, h.step q3 q4 h.ok⟩
theorem missed1_yes {w0 w : World} {p rb : Nat} {x : MP} {t : Int} (h : T1 w0 w p rb x) (hl : lateB x t = true) :
    Calls Try.prog 23 #[.pointer (some ⟨p, 0, none⟩), .int .i64 t] w fun e w' => (∃ g c, e = .returned (.slice (some ⟨g, 0, none⟩) 1 c) ∧ w'.cell? ⟨g, 0, none⟩ = some (.int .i64 0)) ∧ T1 w0 w' p rb { x with mis := true } := by
  obtain ⟨hi, hp⟩ := h.pt
  refine (missed_any _ hi p rb [x] t w hp (fun y hy => by simp at hy; subst hy; exact h.ok) (by simp)).mono fun e w' q => ?_
  obtain ⟨A, c, q1, q2, q3, q4⟩ := q
  have e1 : lateL t [x] 0 = [0] := by simp [lateL, hl]
  rw [e1] at q1 q2
  rw [List.map_cons, List.map_nil, miss_true hl] at q3
  have hk : Ok { x with mis := true } := by
    have := h.ok.miss t
    rwa [miss_true hl] at this
  obtain ⟨g, cap, hv, _, _⟩ := q2.form (by simp)
  have hA : A = some ⟨g, 0, none⟩ := by injection hv
  subst hA
  refine ⟨⟨g, c, q1, ?_⟩, h.step q3 q4 hk⟩
  have := q2.cells (g := g) rfl 0 (.int .i64 0) rfl
  rw [Addr.add_lit] at this
  simpa using this
set_option maxRecDepth 100000 in
set_option maxHeartbeats 4000000 in
theorem ieq_len (A B : Option Addr) (n m c d : Nat) (w : World) (hn : n ≤ 16) (hm : m ≤ 16) (h : n ≠ m) :
    Calls Try.prog 24 #[.slice A n c, .slice B m d] w fun e w' => e = .returned (.bool false) ∧ Below w.heap.size w w' := by
  have hd : ((n : Int) == (m : Int)) = false := by simp; omega
  have hd2 : ((n : Int) != (m : Int)) = true := by simp; omega
  go_enter Try.func24, Try.ntmps24
  go_wp2_with fail
  go_ret
  exact ⟨rfl, Below.refl _ _⟩
set_option maxRecDepth 100000 in
set_option maxHeartbeats 4000000 in
theorem ieq_nil (A B : Option Addr) (c d : Nat) (w : World) :
    Calls Try.prog 24 #[.slice A 0 c, .slice B 0 d] w fun e w' => e = .returned (.bool true) ∧ Below w.heap.size w w' := by
  go_enter Try.func24, Try.ntmps24
  go_wp2_with fail
  refine wp_loop_rounds 1 ?_
  rw [rounds_succ]
  go_wp2_with fail
  go_ret
  exact ⟨rfl, Below.refl _ _⟩
set_option maxRecDepth 100000 in
set_option maxHeartbeats 4000000 in
theorem ieq_one (g f : Nat) (x : Int) (c d : Nat) (w : World) (h1 : w.cell? ⟨g, 0, none⟩ = some (.int .i64 x)) (h2 : w.cell? ⟨f, 0, none⟩ = some (.int .i64 x)) :
    Calls Try.prog 24 #[.slice (some ⟨g, 0, none⟩) 1 c, .slice (some ⟨f, 0, none⟩) 1 d] w fun e w' => e = .returned (.bool true) ∧ Below w.heap.size w w' := by
  go_enter Try.func24, Try.ntmps24
  go_wp2_with fail
  refine wp_loop_rounds 2 ?_
  rw [rounds_succ]
  go_wp2_with fail
  go_quiet (fail)
  go_wp2_with fail
  rw [rounds_succ]
  go_wp2_with fail
  go_ret
  exact ⟨rfl, below_drewN (Below.refl _ _) nq⟩
end Go.Proofs.Ytdabmbdikofhpaa.P
