/-
  Contracts of a table's methods that change one process. Each statement bears its own conditions.
-/
import Derived.Test.YtdabmbdikofhpaaPrD
namespace Go.Proofs.Ytdabmbdikofhpaa.P
open Go.RowKit
set_option linter.unusedVariables false
set_option linter.unusedSimpArgs false
set_option maxRecDepth 100000 in
set_option maxHeartbeats 4000000 in
theorem wait_state (lo hi p rb : Nat) (l : List MP) (i : Nat) (x : MP) (m : Int) (w : World) (h : PT lo hi w p rb l) (hx : l[i]? = some x) (hl : l.length ≤ 16) (ht : TK m) (hb : readyB x = false) :
    Calls Try.prog 31 #[.pointer (some ⟨p, 0, none⟩), .int .i64 (i : Int), .int .i64 m] w fun e w' => e = .returned (.int .i64 10) ∧ Below w.heap.size w w' := by
  obtain ⟨cap, hc, hcap⟩ := RT.cell h
  obtain ⟨hpz, hrz, hpr⟩ := PT.lt h
  obtain ⟨n, hn'⟩ : ∃ n, (l.map MP.cells).length = n := ⟨_, rfl⟩
  have hin : i < n := by rw [← hn']; simpa using (List.getElem?_eq_some_iff.1 hx).1
  have hnl : n ≤ 16 := by rw [← hn']; simpa using hl
  rw [hn'] at hc
  clear hn' hcap
  have CP := Lib.hid fun W (hb : Below w.heap.size w W) => isReady_any rb (i * 13) x W ((PT.at_ h hx).below hb)
  rw [hb] at CP
  have hm := fun W : World => meth_isReady rb (i * 13) W
  have ht0 : 0 ≤ m := ht.1
  have hmx : max m (-1) = m := by omega
  have hd2 : decide (m ≤ 1099511627776) = true := by simpa using ht.2
  clear ht
  clear h hx hb
  go_enter Try.func31, Try.ntmps31
  go_wp2_with (first | (go_at_call 72; refine (CP.out _ (by first | exact Below.refl _ _ | exact (Below.refl _ _).alloc (Nat.le_refl _) _ | exact ((Below.refl _ _).alloc (Nat.le_refl _) _).alloc (by simp) _ | exact (((Below.refl _ _).alloc (Nat.le_refl _) _).alloc (by simp) _).setCell (by simp) _)).mono ?_; rintro e w1 ⟨rfl, rfl⟩) | go_in | go_end0)
  all_goals go_ret
  all_goals exact ⟨rfl, (by first | exact Below.refl _ _ | exact (Below.refl _ _).alloc (Nat.le_refl _) _ | exact ((Below.refl _ _).alloc (Nat.le_refl _) _).alloc (by simp) _ | exact (((Below.refl _ _).alloc (Nat.le_refl _) _).alloc (by simp) _).setCell (by simp) _)⟩
end Go.Proofs.Ytdabmbdikofhpaa.P
