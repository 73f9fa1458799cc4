/-
  Contracts of a table's methods that change one process. Each statement bears its own conditions.
-/
import Derived.Test.YtdabmbdikofhpaaPrD
namespace Go.Proofs.Ytdabmbdikofhpaa.P
open Go.RowKit
set_option linter.unusedVariables false
set_option linter.unusedSimpArgs false
theorem tup_ret {a b : Int} {c d : Bool} (h : a = b) (k : c = d) : Ending.returned (.tuple #[.int .i64 a, .bool c]) = .returned (.tuple #[.int .i64 b, .bool d]) := by rw [h, k]
def MP.val (x : MP) : Value := .agg #[.int .i64 x.pri, .int .i64 x.per, .int .i64 x.cap, .int .i64 x.dea, .int .i64 x.off, .int .i64 x.sta, .bool x.hel, .int .i64 x.bas, .int .i64 x.rai, .int .i64 x.unt, .int .i64 x.frm, .int .i64 x.usd, .bool x.mis]
set_option maxRecDepth 100000 in
set_option maxHeartbeats 4000000 in
theorem look_ok (lo hi p rb : Nat) (l : List MP) (i : Nat) (x : MP) (w : World) (h : PT lo hi w p rb l) (hx : l[i]? = some x) (hl : l.length ≤ 16) :
    Calls Try.prog 66 #[.pointer (some ⟨p, 0, none⟩), .int .i64 (i : Int)] w fun e w' => e = .returned x.val ∧ Below w.heap.size w w' := by
  obtain ⟨cap, hc, hcap⟩ := RT.cell h
  obtain ⟨hpz, hrz, hpr⟩ := PT.lt h
  obtain ⟨n, hn'⟩ : ∃ n, (l.map MP.cells).length = n := ⟨_, rfl⟩
  have hin : i < n := by rw [← hn']; simpa using (List.getElem?_eq_some_iff.1 hx).1
  have hnl : n ≤ 16 := by rw [← hn']; simpa using hl
  rw [hn'] at hc
  clear hn' hcap
  have hxc : (l.map MP.cells)[i]? = some x.cells := by simp [hx]
  obtain ⟨x0, x1, x2, x3, x4, x5, x6, x7, x8, x9, x10, x11, x12⟩ := x
  have c0 := (RT.at_ h hxc (j := 0) rfl).1
  have c1 := (RT.at_ h hxc (j := 1) rfl).1
  have c2 := (RT.at_ h hxc (j := 2) rfl).1
  have c3 := (RT.at_ h hxc (j := 3) rfl).1
  have c4 := (RT.at_ h hxc (j := 4) rfl).1
  have c5 := (RT.at_ h hxc (j := 5) rfl).1
  have c6 := (RT.at_ h hxc (j := 6) rfl).1
  have c7 := (RT.at_ h hxc (j := 7) rfl).1
  have c8 := (RT.at_ h hxc (j := 8) rfl).1
  have c9 := (RT.at_ h hxc (j := 9) rfl).1
  have c10 := (RT.at_ h hxc (j := 10) rfl).1
  have c11 := (RT.at_ h hxc (j := 11) rfl).1
  have c12 := (RT.at_ h hxc (j := 12) rfl).1
  rw [Nat.add_zero] at c0
  clear h hx hxc
  go_enter Try.func66, Try.ntmps66
  go_wp2_with go_in
  exact bodyPost_ret (v := .agg #[.int .i64 x0, .int .i64 x1, .int .i64 x2, .int .i64 x3, .int .i64 x4, .int .i64 x5, .bool x6, .int .i64 x7, .int .i64 x8, .int .i64 x9, .int .i64 x10, .int .i64 x11, .bool x12]) (by simp [results, Try.results66, go_sem]) rfl ⟨rfl, (Below.refl _ _).alloc (Nat.le_refl _) _⟩
set_option maxRecDepth 100000 in
set_option maxHeartbeats 4000000 in
theorem state_ok (lo hi p rb : Nat) (l : List MP) (i : Nat) (x : MP) (w : World) (h : PT lo hi w p rb l) (hx : l[i]? = some x) (hl : l.length ≤ 16) :
    Calls Try.prog 19 #[.pointer (some ⟨p, 0, none⟩), .int .i64 (i : Int)] w fun e w' => e = .returned (.int .i64 (stateN x)) ∧ Below w.heap.size w w' := by
  have CL := Lib.hid (look_ok lo hi p rb l i x w h hx hl)
  obtain ⟨hpz, hrz, hpr⟩ := PT.lt h
  obtain ⟨x0, x1, x2, x3, x4, x5, x6, x7, x8, x9, x10, x11, x12⟩ := x
  unfold MP.val at CL
  dsimp only at CL
  clear h hx
  cases x6
  all_goals
    go_enter Try.func19, Try.ntmps19
    go_wp2_with (first | (go_at_call 66; refine CL.out.mono ?_; rintro e w1 ⟨rfl, b1⟩) | go_in)
    go_ret
    exact ⟨rfl, b1.alloc b1.size _⟩
set_option maxRecDepth 100000 in
set_option maxHeartbeats 4000000 in
theorem base_ok (lo hi p rb : Nat) (l : List MP) (i : Nat) (x : MP) (w : World) (h : PT lo hi w p rb l) (hx : l[i]? = some x) (hl : l.length ≤ 16) :
    Calls Try.prog 60 #[.pointer (some ⟨p, 0, none⟩), .int .i64 (i : Int)] w fun e w' => e = .returned (.int .i64 x.bas) ∧ Below w.heap.size w w' := by
  have CL := Lib.hid (look_ok lo hi p rb l i x w h hx hl)
  obtain ⟨hpz, hrz, hpr⟩ := PT.lt h
  obtain ⟨x0, x1, x2, x3, x4, x5, x6, x7, x8, x9, x10, x11, x12⟩ := x
  unfold MP.val at CL
  dsimp only at CL
  clear h hx
  have hf1 : ∀ W : World, (Instr.field 73 (.agg #[.int .i64 x0, .int .i64 x1, .int .i64 x2, .int .i64 x3, .int .i64 x4, .int .i64 x5, .bool x6, .int .i64 x7, .int .i64 x8, .int .i64 x9, .int .i64 x10, .int .i64 x11, .bool x12]) 1).run Try.prog W = .ok (.agg #[.int .i64 x5, .bool x6, .int .i64 x7, .int .i64 x8, .int .i64 x9]) W := fun W => by kernel_rfl
  have hf2 : ∀ W : World, (Instr.field 69 (.agg #[.int .i64 x5, .bool x6, .int .i64 x7, .int .i64 x8, .int .i64 x9]) 2).run Try.prog W = .ok (.int .i64 x7) W := fun W => by kernel_rfl
  go_enter Try.func60, Try.ntmps60
  go_wp2_with (first | (go_at_call 66; refine CL.out.mono ?_; rintro e w1 ⟨rfl, b1⟩) | go_in)
  go_ret
  exact ⟨rfl, b1⟩
set_option maxRecDepth 100000 in
set_option maxHeartbeats 4000000 in
theorem current_ok (lo hi p rb : Nat) (l : List MP) (i : Nat) (x : MP) (w : World) (h : PT lo hi w p rb l) (hx : l[i]? = some x) (hl : l.length ≤ 16) :
    Calls Try.prog 57 #[.pointer (some ⟨p, 0, none⟩), .int .i64 (i : Int)] w fun e w' => e = .returned (.int .i64 (currentN x)) ∧ Below w.heap.size w w' := by
  have CL := Lib.hid (look_ok lo hi p rb l i x w h hx hl)
  obtain ⟨hpz, hrz, hpr⟩ := PT.lt h
  obtain ⟨x0, x1, x2, x3, x4, x5, x6, x7, x8, x9, x10, x11, x12⟩ := x
  unfold MP.val at CL
  dsimp only at CL
  have CC := Lib.hid fun (b : Nat) (W : World) (h : At W b 0 (⟨x0, x1, x2, x3, x4, x5, x6, x7, x8, x9, x10, x11, x12⟩ : MP)) => current_any b 0 _ W h
  simp only [Nat.zero_add] at CC
  clear h hx
  go_enter Try.func57, Try.ntmps57
  go_wp2_with (go_at_call 66; refine CL.out.mono ?_; rintro e w1 ⟨rfl, b1⟩)
  refine (CC.out _ _ ⟨by simp, fun j u hu => ?_⟩).mono ?_
  · have hj : j < 13 := (List.getElem?_eq_some_iff.1 hu).1
    simp only [MP.cells] at hu
    rw [Nat.zero_add]
    rw [(row_cell (heap_alloc_new w1 _) j).1]
    simpa using hu
  rintro e w2 ⟨rfl, nq, rfl⟩
  go_wp2_with fail
  go_ret
  exact ⟨rfl, below_drewN (b1.alloc b1.size _) nq⟩
set_option maxRecDepth 100000 in
set_option maxHeartbeats 4000000 in
theorem untl_ok (lo hi p rb : Nat) (l : List MP) (i : Nat) (x : MP) (w : World) (h : PT lo hi w p rb l) (hx : l[i]? = some x) (hl : l.length ≤ 16) :
    Calls Try.prog 20 #[.pointer (some ⟨p, 0, none⟩), .int .i64 (i : Int)] w fun e w' => e = .returned (.tuple #[.int .i64 (if (x.sta = 3 ∨ x.sta = 2) ∧ x.unt ≠ -1 then x.unt else 0), .bool (decide ((x.sta = 3 ∨ x.sta = 2) ∧ x.unt ≠ -1))]) ∧ Below w.heap.size w w' := by
  have CL := Lib.hid (look_ok lo hi p rb l i x w h hx hl)
  obtain ⟨hpz, hrz, hpr⟩ := PT.lt h
  obtain ⟨x0, x1, x2, x3, x4, x5, x6, x7, x8, x9, x10, x11, x12⟩ := x
  unfold MP.val at CL
  dsimp only at CL
  clear h hx
  by_cases h3 : x5 = 3
  · subst h3
    by_cases h9 : x9 = -1
    · subst h9
      go_enter Try.func20, Try.ntmps20
      go_wp2_with (first | (go_at_call 66; refine CL.out.mono ?_; rintro e w1 ⟨rfl, b1⟩) | go_in)
      all_goals go_ret2
      all_goals first | exact ⟨rfl, b1.alloc b1.size _⟩ | exact ⟨tup_ret (by simp [*]) (by simp [*]), b1.alloc b1.size _⟩ | (exfalso; simp_all; done)
    · have hd : (x9 == -1) = false := by simpa using h9
      go_enter Try.func20, Try.ntmps20
      go_wp2_with (first | (go_at_call 66; refine CL.out.mono ?_; rintro e w1 ⟨rfl, b1⟩) | go_in)
      all_goals go_ret2
      all_goals first | exact ⟨rfl, b1.alloc b1.size _⟩ | exact ⟨tup_ret (by simp [*]) (by simp [*]), b1.alloc b1.size _⟩ | (exfalso; simp_all; done)
  · by_cases h2 : x5 = 2
    · subst h2
      by_cases h9 : x9 = -1
      · subst h9
        go_enter Try.func20, Try.ntmps20
        go_wp2_with (first | (go_at_call 66; refine CL.out.mono ?_; rintro e w1 ⟨rfl, b1⟩) | go_in)
        all_goals go_ret2
        all_goals first | exact ⟨rfl, b1.alloc b1.size _⟩ | exact ⟨tup_ret (by simp [*]) (by simp [*]), b1.alloc b1.size _⟩ | (exfalso; simp_all; done)
      · have hd : (x9 == -1) = false := by simpa using h9
        go_enter Try.func20, Try.ntmps20
        go_wp2_with (first | (go_at_call 66; refine CL.out.mono ?_; rintro e w1 ⟨rfl, b1⟩) | go_in)
        all_goals go_ret2
        all_goals first | exact ⟨rfl, b1.alloc b1.size _⟩ | exact ⟨tup_ret (by simp [*]) (by simp [*]), b1.alloc b1.size _⟩ | (exfalso; simp_all; done)
    · have hd : (x5 != 3) = true := by simpa using h3
      have hd2 : (x5 != 2) = true := by simpa using h2
      go_enter Try.func20, Try.ntmps20
      go_wp2_with (first | (go_at_call 66; refine CL.out.mono ?_; rintro e w1 ⟨rfl, b1⟩) | go_in)
      all_goals go_ret2
      all_goals first | exact ⟨rfl, b1.alloc b1.size _⟩ | exact ⟨tup_ret (by simp [*]) (by simp [*]), b1.alloc b1.size _⟩ | (exfalso; simp_all; done)
set_option maxRecDepth 100000 in
set_option maxHeartbeats 4000000 in
theorem left_quiet (lo hi p rb : Nat) (l : List MP) (i : Nat) (x : MP) (w : World) (h : PT lo hi w p rb l) (hx : l[i]? = some x) (hl : l.length ≤ 16) (ho : Ok x) :
    Calls Try.prog 26 #[.pointer (some ⟨p, 0, none⟩), .int .i64 (i : Int)] w fun e w' => e = .returned (.int .i64 (leftN x)) ∧ ∃ n, w' = w.drewN n := by
  have CL := Lib.hid (look_ok lo hi p rb l i x w h hx hl)
  obtain ⟨hpz, hrz, hpr⟩ := PT.lt h
  obtain ⟨x0, x1, x2, x3, x4, x5, x6, x7, x8, x9, x10, x11, x12⟩ := x
  unfold MP.val at CL
  dsimp only at CL
  have CC := Lib.hid fun (W : World) (hb : Below w.heap.size w W) => left_any rb (i * 13) (⟨x0, x1, x2, x3, x4, x5, x6, x7, x8, x9, x10, x11, x12⟩ : MP) W ((PT.at_ h hx).below hb) ho
  obtain ⟨cap, hc, hcap⟩ := RT.cell h
  obtain ⟨n, hn'⟩ : ∃ n, (l.map MP.cells).length = n := ⟨_, rfl⟩
  have hin : i < n := by rw [← hn']; simpa using (List.getElem?_eq_some_iff.1 hx).1
  have hnl : n ≤ 16 := by rw [← hn']; simpa using hl
  rw [hn'] at hc
  clear h hx hn' hcap ho
  go_enter Try.func26, Try.ntmps26
  go_wp2_with (first | (go_at_call 81; refine (CC.out _ (Below.refl _ _)).mono ?_; rintro e w1 ⟨rfl, nq, rfl⟩) | go_in)
  go_ret
  exact ⟨rfl, nq, rfl⟩
set_option maxRecDepth 100000 in
set_option maxHeartbeats 4000000 in
theorem left_ok (lo hi p rb : Nat) (l : List MP) (i : Nat) (x : MP) (w : World) (h : PT lo hi w p rb l) (hx : l[i]? = some x) (hl : l.length ≤ 16) (ho : Ok x) :
    Calls Try.prog 26 #[.pointer (some ⟨p, 0, none⟩), .int .i64 (i : Int)] w fun e w' => e = .returned (.int .i64 (leftN x)) ∧ Below w.heap.size w w' := by
  have CL := Lib.hid (look_ok lo hi p rb l i x w h hx hl)
  obtain ⟨hpz, hrz, hpr⟩ := PT.lt h
  obtain ⟨x0, x1, x2, x3, x4, x5, x6, x7, x8, x9, x10, x11, x12⟩ := x
  unfold MP.val at CL
  dsimp only at CL
  have CC := Lib.hid fun (W : World) (hb : Below w.heap.size w W) => left_any rb (i * 13) (⟨x0, x1, x2, x3, x4, x5, x6, x7, x8, x9, x10, x11, x12⟩ : MP) W ((PT.at_ h hx).below hb) ho
  obtain ⟨cap, hc, hcap⟩ := RT.cell h
  obtain ⟨n, hn'⟩ : ∃ n, (l.map MP.cells).length = n := ⟨_, rfl⟩
  have hin : i < n := by rw [← hn']; simpa using (List.getElem?_eq_some_iff.1 hx).1
  have hnl : n ≤ 16 := by rw [← hn']; simpa using hl
  rw [hn'] at hc
  clear h hx hn' hcap ho
  go_enter Try.func26, Try.ntmps26
  go_wp2_with (first | (go_at_call 81; refine (CC.out _ (Below.refl _ _)).mono ?_; rintro e w1 ⟨rfl, nq, rfl⟩) | go_in)
  go_ret
  exact ⟨rfl, below_drewN (Below.refl _ _) nq⟩
end Go.Proofs.Ytdabmbdikofhpaa.P
