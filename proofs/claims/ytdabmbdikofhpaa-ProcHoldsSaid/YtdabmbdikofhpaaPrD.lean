/-
  Contracts of a table's methods that change one process. Each statement bears its own conditions.
-/
import Derived.Test.YtdabmbdikofhpaaPrC
namespace Go.Proofs.Ytdabmbdikofhpaa.P
open Go.RowKit
set_option linter.unusedVariables false
set_option linter.unusedSimpArgs false
theorem frz_past {g : Nat} {w w' : World} {b o : Nat} (h : Past g w w') (hb : b < w.heap.size) (hg : b ≠ g) : w'.frozen? ⟨b, o, none⟩ = w.frozen? ⟨b, o, none⟩ := by simp [World.frozen?, h.block b hb hg]
theorem past_new {g k j : Nat} {a w : World} (h : Past g a w) (hk : a.heap.size ≤ k) (v : Value) : Past g a (w.setCell ⟨k, j, none⟩ v) :=
  ⟨h.os, h.tape, h.output, by simpa [World.setCell] using h.size, fun i hi hg => (Below.heap_setCell _ _ _ _ (by dsimp only; omega)).trans (h.block i hi hg)⟩
theorem PT.newc {lo hi p rb k j : Nat} {w : World} {l : List MP} (h : PT lo hi w p rb l) (hk : hi ≤ k) (v : Value) : PT lo hi (w.setCell ⟨k, j, none⟩ v) p rb l :=
  h.past (Past.setCell (Past.refl k _) _ _) (.inr hk)
theorem PT.hs {lo hi p rb : Nat} {w : World} {l : List MP} (h : PT lo hi w p rb l) : hi ≤ w.heap.size := RT.hs h
theorem PT.drawn {lo hi p rb : Nat} {w : World} {l : List MP} (h : PT lo hi w p rb l) (n : Nat) : PT lo hi (w.drewN n) p rb l := h.below (below_drewN (Below.refl _ _) n)
set_option maxRecDepth 100000 in
set_option maxHeartbeats 4000000 in
theorem done_none (lo hi p rb : Nat) (l : List MP) (i : Int) (now : Int) (w : World) (h : PT lo hi w p rb l) (hn : ¬ (0 ≤ i ∧ i < l.length)) (hl : l.length ≤ 16) :
    Calls Try.prog 22 #[.pointer (some ⟨p, 0, none⟩), .int .i64 i, .int .i64 now] w fun e w' => e = .returned (.tuple #[.int .i64 0, .int .i64 9]) ∧ Below w.heap.size w w' := by
  obtain ⟨cap, hc, hcap⟩ := RT.cell h
  obtain ⟨hpz, hrz, hpr⟩ := PT.lt h
  obtain ⟨n, hn'⟩ : ∃ n, (l.map MP.cells).length = n := ⟨_, rfl⟩
  have hln : l.length = n := by rw [← hn']; simp
  rw [hn'] at hc
  rw [hln] at hn hl
  clear h hn' hln hcap hpr
  by_cases h0 : 0 ≤ i
  · have hd : decide (0 ≤ i) = true := by simpa using h0
    have hd2 : decide (i < (n : Int)) = false := by simp; omega
    clear hn
    go_enter Try.func22, Try.ntmps22
    go_wp2_with (first | go_in | go_end0)
    all_goals (refine bodyPost_ret (v := .tuple #[.int .i64 0, .int .i64 9]) (by simp [results, Try.results22, go_sem]) rfl ?_)
    all_goals exact ⟨rfl, (by first | exact Below.refl _ _ | exact (Below.refl _ _).alloc (Nat.le_refl _) _ | exact ((Below.refl _ _).alloc (Nat.le_refl _) _).alloc (by simp) _ | exact (((Below.refl _ _).alloc (Nat.le_refl _) _).alloc (by simp) _).setCell (by simp) _)⟩
  · have hd : decide (0 ≤ i) = false := by simpa using h0
    clear hn
    go_enter Try.func22, Try.ntmps22
    go_wp2_with (first | go_in | go_end0)
    all_goals (refine bodyPost_ret (v := .tuple #[.int .i64 0, .int .i64 9]) (by simp [results, Try.results22, go_sem]) rfl ?_)
    all_goals exact ⟨rfl, (by first | exact Below.refl _ _ | exact (Below.refl _ _).alloc (Nat.le_refl _) _ | exact ((Below.refl _ _).alloc (Nat.le_refl _) _).alloc (by simp) _ | exact (((Below.refl _ _).alloc (Nat.le_refl _) _).alloc (by simp) _).setCell (by simp) _)⟩
set_option maxRecDepth 100000 in
set_option maxHeartbeats 4000000 in
theorem done_range (lo hi p rb : Nat) (l : List MP) (i : Nat) (x : MP) (now : Int) (w : World) (h : PT lo hi w p rb l) (hx : l[i]? = some x) (hl : l.length ≤ 16) (hbad : ¬ TK now) :
    Calls Try.prog 22 #[.pointer (some ⟨p, 0, none⟩), .int .i64 (i : Int), .int .i64 now] w fun e w' => e = .returned (.tuple #[.int .i64 0, .int .i64 2]) ∧ Below w.heap.size w w' := by
  obtain ⟨cap, hc, hcap⟩ := RT.cell h
  obtain ⟨hpz, hrz, hpr⟩ := PT.lt h
  obtain ⟨n, hn'⟩ : ∃ n, (l.map MP.cells).length = n := ⟨_, rfl⟩
  have hin : i < n := by rw [← hn']; simpa using (List.getElem?_eq_some_iff.1 hx).1
  have hnl : n ≤ 16 := by rw [← hn']; simpa using hl
  rw [hn'] at hc
  clear hn' hcap
  clear h hx
  rcases (show now < 0 ∨ (0 ≤ now ∧ 1099511627776 < now) by unfold TK at hbad; omega) with hk | hk
  · have hd : decide (0 ≤ now) = false := by simpa using hk
    clear hbad
    go_enter Try.func22, Try.ntmps22
    go_wp2_with (first | go_in | go_end0)
    all_goals (refine bodyPost_ret (v := .tuple #[.int .i64 0, .int .i64 2]) (by simp [results, Try.results22, go_sem]) rfl ?_)
    all_goals exact ⟨rfl, (by first | exact Below.refl _ _ | exact (Below.refl _ _).alloc (Nat.le_refl _) _ | exact ((Below.refl _ _).alloc (Nat.le_refl _) _).alloc (by simp) _ | exact (((Below.refl _ _).alloc (Nat.le_refl _) _).alloc (by simp) _).setCell (by simp) _)⟩
  · have hd : decide (0 ≤ now) = true := by simpa using hk.1
    have hd2 : decide (now ≤ 1099511627776) = false := by simp; omega
    clear hbad
    go_enter Try.func22, Try.ntmps22
    go_wp2_with (first | go_in | go_end0)
    all_goals (refine bodyPost_ret (v := .tuple #[.int .i64 0, .int .i64 2]) (by simp [results, Try.results22, go_sem]) rfl ?_)
    all_goals exact ⟨rfl, (by first | exact Below.refl _ _ | exact (Below.refl _ _).alloc (Nat.le_refl _) _ | exact ((Below.refl _ _).alloc (Nat.le_refl _) _).alloc (by simp) _ | exact (((Below.refl _ _).alloc (Nat.le_refl _) _).alloc (by simp) _).setCell (by simp) _)⟩
set_option maxRecDepth 100000 in
set_option maxHeartbeats 4000000 in
theorem done_state (lo hi p rb : Nat) (l : List MP) (i : Nat) (x : MP) (now : Int) (w : World) (h : PT lo hi w p rb l) (hx : l[i]? = some x) (hl : l.length ≤ 16) (ht : TK now) (hb : readyB x = false) :
    Calls Try.prog 22 #[.pointer (some ⟨p, 0, none⟩), .int .i64 (i : Int), .int .i64 now] w fun e w' => e = .returned (.tuple #[.int .i64 0, .int .i64 10]) ∧ Below w.heap.size w w' := by
  obtain ⟨cap, hc, hcap⟩ := RT.cell h
  obtain ⟨hpz, hrz, hpr⟩ := PT.lt h
  obtain ⟨n, hn'⟩ : ∃ n, (l.map MP.cells).length = n := ⟨_, rfl⟩
  have hin : i < n := by rw [← hn']; simpa using (List.getElem?_eq_some_iff.1 hx).1
  have hnl : n ≤ 16 := by rw [← hn']; simpa using hl
  rw [hn'] at hc
  clear hn' hcap
  have CP := Lib.hid fun W (hb : Below w.heap.size w W) => isReady_any rb (i * 13) x W ((PT.at_ h hx).below hb)
  rw [hb] at CP
  have hm := fun W : World => meth_isReady rb (i * 13) W
  have hd : decide (0 ≤ now) = true := by simpa using ht.1
  have hd2 : decide (now ≤ 1099511627776) = true := by simpa using ht.2
  clear ht
  clear h hx hb
  go_enter Try.func22, Try.ntmps22
  go_wp2_with (first | (go_at_call 72; refine (CP.out _ (by first | exact Below.refl _ _ | exact (Below.refl _ _).alloc (Nat.le_refl _) _ | exact ((Below.refl _ _).alloc (Nat.le_refl _) _).alloc (by simp) _ | exact (((Below.refl _ _).alloc (Nat.le_refl _) _).alloc (by simp) _).setCell (by simp) _)).mono ?_; rintro e w1 ⟨rfl, rfl⟩) | go_in | go_end0)
  all_goals (refine bodyPost_ret (v := .tuple #[.int .i64 0, .int .i64 10]) (by simp [results, Try.results22, go_sem]) rfl ?_)
  all_goals exact ⟨rfl, (by first | exact Below.refl _ _ | exact (Below.refl _ _).alloc (Nat.le_refl _) _ | exact ((Below.refl _ _).alloc (Nat.le_refl _) _).alloc (by simp) _ | exact (((Below.refl _ _).alloc (Nat.le_refl _) _).alloc (by simp) _).setCell (by simp) _)⟩
set_option maxRecDepth 100000 in
set_option maxHeartbeats 4000000 in
theorem done_ok (lo hi p rb : Nat) (l : List MP) (i : Nat) (x : MP) (now : Int) (w : World) (h : PT lo hi w p rb l) (hx : l[i]? = some x) (ho : Ok x) (hl : l.length ≤ 16) (ht : TK now) (hb : readyB x = true) :
    Calls Try.prog 22 #[.pointer (some ⟨p, 0, none⟩), .int .i64 (i : Int), .int .i64 now] w fun e w' => e = .returned (.tuple #[.int .i64 (doneN x), .int .i64 0]) ∧ PT lo hi w' p rb (l.set i (doneP x now)) ∧ Past rb w w' := by
  obtain ⟨cap, hc, hcap⟩ := RT.cell h
  obtain ⟨hpz, hrz, hpr⟩ := PT.lt h
  obtain ⟨n, hn'⟩ : ∃ n, (l.map MP.cells).length = n := ⟨_, rfl⟩
  have hin : i < n := by rw [← hn']; simpa using (List.getElem?_eq_some_iff.1 hx).1
  have hnl : n ≤ 16 := by rw [← hn']; simpa using hl
  rw [hn'] at hc
  clear hn' hcap
  have CP := Lib.hid fun W (hb : Below w.heap.size w W) => isReady_any rb (i * 13) x W ((PT.at_ h hx).below hb)
  rw [hb] at CP
  have HSZ := Lib.hid (PT.hs h)
  have hm := fun W : World => meth_isReady rb (i * 13) W
  have CE := Lib.hid fun W (hb : Below w.heap.size w W) => done_eff lo hi p rb l i x now W (h.below hb) hx ho ht
  have hd : decide (0 ≤ now) = true := by simpa using ht.1
  have hd2 : decide (now ≤ 1099511627776) = true := by simpa using ht.2
  clear ht
  clear h hx hb ho
  go_enter Try.func22, Try.ntmps22
  go_wp2_with (first | (go_at_call 72; refine (CP.out _ (by first | exact Below.refl _ _ | exact (Below.refl _ _).alloc (Nat.le_refl _) _ | exact ((Below.refl _ _).alloc (Nat.le_refl _) _).alloc (by simp) _)).mono ?_; rintro e w1 ⟨rfl, rfl⟩) | (go_at_call 74; refine (CE.out _ (by first | exact Below.refl _ _ | exact (Below.refl _ _).alloc (Nat.le_refl _) _ | exact ((Below.refl _ _).alloc (Nat.le_refl _) _).alloc (by simp) _)).mono ?_; rintro e w1 ⟨rfl, hp1, hq1⟩; have g1 : w1.cell? ⟨w.heap.size + 1, 0, none⟩ = some (.int .i64 0) := cell_past hq1 (by simp) (by omega) (by simp); have g2 : w1.frozen? ⟨w.heap.size + 1, 0, none⟩ = false := (frz_past hq1 (by simp) (by omega)).trans (by simp)) | go_in | go_end0)
  have gz : ((w1.setCell ⟨w.heap.size + 1, 0, none⟩ (.int .i64 (doneN x))).setCell ⟨w.heap.size + 1, 0, none⟩ (.int .i64 (doneN x))).cell? ⟨w.heap.size + 1, 0, none⟩ = some (.int .i64 (doneN x)) := World.cell?_setCell_same _ _ _ (World.cell?_setCell_same _ _ _ g1)
  refine bodyPost_ret (v := .tuple #[.int .i64 (doneN x), .int .i64 0]) (by simp [results, Try.results22, go_sem, gz]) rfl ?_
  have hs := HSZ.out
  exact ⟨rfl, (hp1.newc (by omega) _).newc (by omega) _, past_new (past_new ((Past.of_below (((Below.refl _ _).alloc (Nat.le_refl _) _).alloc (by simp) _)).trans hq1) (by omega) _) (by omega) _⟩
end Go.Proofs.Ytdabmbdikofhpaa.P
