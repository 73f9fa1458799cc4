/-
  What a Life does. Each statement bears its own conditions.
-/
import Derived.Test.YtiellkodjhfhhaaLfM
namespace Go.Proofs.Ytiellkodjhfhhaa.Lf
open Go.RowKit Go.Proofs.Ytiellkodjhfhhaa.F 
set_option linter.unusedVariables false
set_option linter.unusedSimpArgs false
set_option maxRecDepth 100000 in
set_option maxHeartbeats 4000000 in
theorem restart_any (g : Nat) (m l st a : Int) (w : World) (h : LV w g ⟨m, l, st⟩) (ha : a = 4 ∨ a = 5) (hl : l ≠ 0) (hm : m ≠ 0) : Calls Try.prog 24 #[.pointer (some ⟨g, 0, none⟩), .int .i64 a] w fun e w' => e = .returned (.tuple #[]) ∧ LV w' g (doS ⟨m, l, st⟩ a) ∧ Fo (fun b => b = g) w w' := by
  have HO := Lib.hid (doS_ok h.ok a)
  have HD : Hid (doS ⟨m, l, st⟩ a = ⟨if a = 5 ∨ m = 1 then 1 else 2, l - 1, st + 1⟩) := by
    unfold Hid doS
    rw [if_neg (by unfold actI; omega), if_neg hm, if_neg (by omega), if_neg hl]
  have hp := h.hp
  have HP := Lib.hid hp
  have d0 : w.cell? ⟨g, 0, none⟩ = some (.int .i64 m) := by rw [(row_cell hp 0).1]; rfl
  have dz0 : w.frozen? ⟨g, 0, none⟩ = false := (row_cell hp 0).2
  have d1 : w.cell? ⟨g, 1, none⟩ = some (.int .i64 l) := by rw [(row_cell hp 1).1]; rfl
  have dz1 : w.frozen? ⟨g, 1, none⟩ = false := (row_cell hp 1).2
  have d2 : w.cell? ⟨g, 2, none⟩ = some (.int .i64 st) := by rw [(row_cell hp 2).1]; rfl
  have dz2 : w.frozen? ⟨g, 2, none⟩ = false := (row_cell hp 2).2
  have w1 : IntKind.i64.wrap (l - 1) = l - 1 := by have := h.ok.l0; have := h.ok.s0; have := h.ok.ls; simp only at *; rw [IntKind.wrap_i64]; omega
  have w2 : IntKind.i64.wrap (st + 1) = st + 1 := by have := h.ok.l0; have := h.ok.s0; have := h.ok.ls; simp only at *; rw [IntKind.wrap_i64]; omega
  clear hp h hl hm
  rw [HD.out] at HO ⊢
  clear HD
  rcases ha with rfl | rfl
  · by_cases h1 : m = 1
    · subst h1
      go_enter Try.func24, Try.ntmps24
      go_wp2_with (first | go_end0)
      try go_end0
      exact ⟨⟨set_at (set_at (set_at HP.out 1 _) 2 _) 0 _, HO.out⟩, (((Fo.refl (fun b => b = g) _).setCell (.inl rfl) _ _).setCell (.inl rfl) _ _).setCell (.inl rfl) _ _⟩
    · have n1 : (m == 1) = false := by simpa using h1
      rw [if_neg (by omega)] at HO ⊢
      go_enter Try.func24, Try.ntmps24
      go_wp2_with (first | go_end0)
      try go_end0
      exact ⟨⟨set_at (set_at (set_at HP.out 1 _) 2 _) 0 _, HO.out⟩, (((Fo.refl (fun b => b = g) _).setCell (.inl rfl) _ _).setCell (.inl rfl) _ _).setCell (.inl rfl) _ _⟩
  · rw [if_pos (.inl rfl)] at HO ⊢
    go_enter Try.func24, Try.ntmps24
    go_wp2_with (first | go_end0)
    try go_end0
    exact ⟨⟨set_at (set_at (set_at HP.out 1 _) 2 _) 0 _, HO.out⟩, (((Fo.refl (fun b => b = g) _).setCell (.inl rfl) _ _).setCell (.inl rfl) _ _).setCell (.inl rfl) _ _⟩
theorem do_bad {s : LS} {a : Int} (h : ¬ actI a) : doS s a = s ∧ doA s a = false ∧ doE s a = 1 := by unfold doS doA doE; rw [if_pos h, if_pos h, if_pos h]; exact ⟨rfl, rfl, rfl⟩
theorem do_idle {s : LS} {a : Int} (h : actI a) (h0 : s.mode = 0) : doS s a = s ∧ doA s a = false ∧ doE s a = 19 := by
  unfold doS doA doE
  simp only [h, h0, not_true, if_true, if_false, and_self]
theorem do_halt {s : LS} (h0 : s.mode ≠ 0) : doS s 6 = ⟨0, s.left, s.starts⟩ ∧ doA s 6 = false ∧ doE s 6 = 0 := by
  have h : actI 6 := by unfold actI; omega
  unfold doS doA doE
  simp only [h, h0, not_true, if_true, if_false, and_self]
theorem do_full {s : LS} {a : Int} (h : a = 4 ∨ a = 5) (h0 : s.mode ≠ 0) (hl : s.left = 0) : doS s a = ⟨0, s.left, s.starts⟩ ∧ doA s a = false ∧ doE s a = 8 := by
  have h1 : actI a := by unfold actI; omega
  have h2 : ¬ a = 6 := by omega
  unfold doS doA doE
  simp only [h1, h0, h2, hl, not_true, if_true, if_false, and_self]
theorem do_go {s : LS} {a : Int} (h : a = 4 ∨ a = 5) (h0 : s.mode ≠ 0) (hl : s.left ≠ 0) : doS s a = ⟨if a = 5 ∨ s.mode = 1 then 1 else 2, s.left - 1, s.starts + 1⟩ ∧ doA s a = true ∧ doE s a = 0 := by
  have h1 : actI a := by unfold actI; omega
  have h2 : ¬ a = 6 := by omega
  unfold doS doA doE
  simp only [h1, h0, h2, hl, not_true, if_true, if_false, and_self]
set_option maxRecDepth 100000 in
set_option maxHeartbeats 4000000 in
theorem do_any (g : Nat) (s : LS) (a : Int) (w : World) (h : LV w g s) : Calls Try.prog 15 #[.pointer (some ⟨g, 0, none⟩), .int .i64 a] w fun e w' => e = .returned (.tuple #[.int .i64 (doS s a).mode, .bool (doA s a), .int .i64 (doE s a)]) ∧ LV w' g (doS s a) ∧ Fo (fun b => b = g) w w' := by
  have HO := Lib.hid (doS_ok h.ok a)
  obtain ⟨m, l, st⟩ := s
  have hp := h.hp
  have HH := Lib.hid h
  have d0 : w.cell? ⟨g, 0, none⟩ = some (.int .i64 m) := by rw [(row_cell hp 0).1]; rfl
  have dz0 : w.frozen? ⟨g, 0, none⟩ = false := (row_cell hp 0).2
  have d1 : w.cell? ⟨g, 1, none⟩ = some (.int .i64 l) := by rw [(row_cell hp 1).1]; rfl
  have dz1 : w.frozen? ⟨g, 1, none⟩ = false := (row_cell hp 1).2
  have d2 : w.cell? ⟨g, 2, none⟩ = some (.int .i64 st) := by rw [(row_cell hp 2).1]; rfl
  have dz2 : w.frozen? ⟨g, 2, none⟩ = false := (row_cell hp 2).2
  have HP := Lib.hid hp
  clear hp h
  by_cases ha : actI a
  rotate_left
  · obtain ⟨e1, e2, e3⟩ := do_bad (s := ⟨m, l, st⟩) ha
    rw [e1, e2, e3]
    have n4 : (a != 4) = true := by simp; unfold actI at ha; omega
    have n5 : (a != 5) = true := by simp; unfold actI at ha; omega
    have n6 : (a != 6) = true := by simp; unfold actI at ha; omega
    clear ha e1 e2 e3
    go_enter Try.func15, Try.ntmps15
    go_wp2_with fail
    go_ret3
    exact ⟨rfl, HH.out, Fo.refl _ _⟩
  by_cases h0 : m = 0
  · subst h0
    obtain ⟨e1, e2, e3⟩ := do_idle (s := ⟨0, l, st⟩) ha rfl
    rw [e1, e2, e3]
    clear e1 e2 e3
    rcases ha with rfl | rfl | rfl
    · go_enter Try.func15, Try.ntmps15
      go_wp2_with fail
      go_ret3
      exact ⟨rfl, HH.out, Fo.refl _ _⟩
    · go_enter Try.func15, Try.ntmps15
      go_wp2_with fail
      go_ret3
      exact ⟨rfl, HH.out, Fo.refl _ _⟩
    · go_enter Try.func15, Try.ntmps15
      go_wp2_with fail
      go_ret3
      exact ⟨rfl, HH.out, Fo.refl _ _⟩
  have g0 : (m == 0) = false := by simpa using h0
  by_cases h6 : a = 6
  · subst h6
    obtain ⟨e1, e2, e3⟩ := do_halt (s := ⟨m, l, st⟩) h0
    rw [e1] at HO
    rw [e1, e2, e3]
    clear e1 e2 e3 ha h0
    go_enter Try.func15, Try.ntmps15
    go_wp2_with fail
    go_ret3
    exact ⟨rfl, ⟨set_at HP.out 0 _, HO.out⟩, (Fo.refl (fun b => b = g) _).setCell (.inl rfl) _ _⟩
  have h45 : a = 4 ∨ a = 5 := by unfold actI at ha; omega
  by_cases hl : l = 0
  · subst hl
    obtain ⟨e1, e2, e3⟩ := do_full (s := ⟨m, 0, st⟩) h45 h0 rfl
    rw [e1] at HO
    rw [e1, e2, e3]
    clear e1 e2 e3 ha h0 h6
    rcases h45 with rfl | rfl
    · go_enter Try.func15, Try.ntmps15
      go_wp2_with fail
      go_ret3
      exact ⟨rfl, ⟨set_at HP.out 0 _, HO.out⟩, (Fo.refl (fun b => b = g) _).setCell (.inl rfl) _ _⟩
    · go_enter Try.func15, Try.ntmps15
      go_wp2_with fail
      go_ret3
      exact ⟨rfl, ⟨set_at HP.out 0 _, HO.out⟩, (Fo.refl (fun b => b = g) _).setCell (.inl rfl) _ _⟩
  have gl : (l == 0) = false := by simpa using hl
  obtain ⟨_, e2, e3⟩ := do_go (s := ⟨m, l, st⟩) h45 h0 hl
  rw [e2, e3]
  have CR := Lib.hid (restart_any g m l st a w HH.out h45 hl h0)
  obtain ⟨sN, hsN⟩ : ∃ sN, doS ⟨m, l, st⟩ a = sN := ⟨_, rfl⟩
  rw [hsN] at CR ⊢
  clear e2 e3 ha h0 h6 hl hsN HO
  rcases h45 with rfl | rfl
  · go_enter Try.func15, Try.ntmps15
    go_wp2_with fail
    refine CR.out.mono ?_
    rintro e w1 ⟨rfl, q1, f1⟩
    obtain ⟨m2, l2, s2⟩ := sN
    have hp1 := q1.hp
    have Q1 := Lib.hid q1
    have F1 := Lib.hid f1
    have y0 : w1.cell? ⟨g, 0, none⟩ = some (.int .i64 m2) := by rw [(row_cell hp1 0).1]; rfl
    clear q1 f1 hp1 CR
    go_wp2_with fail
    go_ret3
    exact ⟨rfl, Q1.out, F1.out⟩
  · go_enter Try.func15, Try.ntmps15
    go_wp2_with fail
    refine CR.out.mono ?_
    rintro e w1 ⟨rfl, q1, f1⟩
    obtain ⟨m2, l2, s2⟩ := sN
    have hp1 := q1.hp
    have Q1 := Lib.hid q1
    have F1 := Lib.hid f1
    have y0 : w1.cell? ⟨g, 0, none⟩ = some (.int .i64 m2) := by rw [(row_cell hp1 0).1]; rfl
    clear q1 f1 hp1 CR
    go_wp2_with fail
    go_ret3
    exact ⟨rfl, Q1.out, F1.out⟩
def LS.eqB (a b : LS) : Bool := a.mode == b.mode && (a.left == b.left && a.starts == b.starts)
theorem LS.eqB_iff (a b : LS) : a.eqB b = true ↔ a = b := by
  obtain ⟨a0, a1, a2⟩ := a
  obtain ⟨b0, b1, b2⟩ := b
  unfold LS.eqB
  simp
set_option maxRecDepth 100000 in
set_option maxHeartbeats 4000000 in
theorem life_eql (a b : LS) (w : World) : (binOp .eql 48 (.agg #[.int .i64 a.mode, .int .i64 a.left, .int .i64 a.starts]) (.agg #[.int .i64 b.mode, .int .i64 b.left, .int .i64 b.starts])).run Try.prog w = .ok (.bool (a.eqB b)) w := by
  have u3 := Try.underlying3
  have a3 := Try.isAgg3
  have z3 := Try.sizeOf3
  have hS : Try.prog.underlying 48 = some (.struct (Try.prog.fieldsOf 48)) := by kernel_rfl
  have hp : Try.prog.stoodInHeld 48 = false := by kernel_rfl
  obtain ⟨a0, a1, a2⟩ := a
  obtain ⟨b0, b1, b2⟩ := b
  simp only [binOp, Op.equal, Op.maxDepth]
  rw [show (10000 : Nat) = 9999 + 1 from rfl]
  simp only [Sem.run_bind]
  rw [run_equalIn_agg w 9999 48 _ _ hS hp]
  simp only [Program.fieldsOf, Try.underlying48]
  go_simp
  unfold LS.eqB
  simp only
  by_cases h0 : a0 = b0
  rotate_left
  · simp [h0]
  by_cases h1 : a1 = b1
  rotate_left
  · simp [h0, h1]
  by_cases h2 : a2 = b2
  rotate_left
  · simp [h0, h1, h2]
  simp [h0, h1, h2]
set_option maxRecDepth 100000 in
set_option maxHeartbeats 4000000 in
theorem same_any (g g' : Nat) (s s' : LS) (w : World) (h : LV w g s) (h' : LV w g' s') : Calls Try.prog 21 #[.pointer (some ⟨g, 0, none⟩), .pointer (some ⟨g', 0, none⟩)] w fun e w' => e = .returned (.bool (s.eqB s')) ∧ Below w.heap.size w w' := by
  have d0 : w.cell? ⟨g, 0, none⟩ = some (.int .i64 s.mode) := by rw [(row_cell h.hp 0).1]; rfl
  have e0 : w.cell? ⟨g', 0, none⟩ = some (.int .i64 s'.mode) := by rw [(row_cell h'.hp 0).1]; rfl
  have d1 : w.cell? ⟨g, 1, none⟩ = some (.int .i64 s.left) := by rw [(row_cell h.hp 1).1]; rfl
  have e1 : w.cell? ⟨g', 1, none⟩ = some (.int .i64 s'.left) := by rw [(row_cell h'.hp 1).1]; rfl
  have d2 : w.cell? ⟨g, 2, none⟩ = some (.int .i64 s.starts) := by rw [(row_cell h.hp 2).1]; rfl
  have e2 : w.cell? ⟨g', 2, none⟩ = some (.int .i64 s'.starts) := by rw [(row_cell h'.hp 2).1]; rfl
  have hq := fun w => life_eql s s' w
  obtain ⟨b, hb⟩ : ∃ b, s.eqB s' = b := ⟨_, rfl⟩
  rw [hb] at hq ⊢
  clear h h' hb
  go_enter Try.func21, Try.ntmps21
  go_wp2_with fail
  refine wp_region_held_drew (S := (fun w' => Below w.heap.size w w' ∧ w'.cell? ⟨g, 0, none⟩ = some (.int .i64 s.mode) ∧ w'.cell? ⟨g, 1, none⟩ = some (.int .i64 s.left) ∧ w'.cell? ⟨g, 2, none⟩ = some (.int .i64 s.starts) ∧ w'.cell? ⟨g', 0, none⟩ = some (.int .i64 s'.mode) ∧ w'.cell? ⟨g', 1, none⟩ = some (.int .i64 s'.left) ∧ w'.cell? ⟨g', 2, none⟩ = some (.int .i64 s'.starts))) (by kernel_rfl) ?_ (fun hHeld => ?_)
  · exact ⟨(Below.refl _ _).drew, d0, d1, d2, e0, e1, e2⟩
  refine takeD (i := 0) (d := some 14) (v := ?_) _ rfl rfl (by kernel_rfl) (by kernel_rfl) (by kernel_rfl) (fun _ _ _ h => h) (by rfl) ?_ (by assumption) ?_
  rotate_left
  · (intro w hSw; (try dsimp only at hSw); go_simp) <;> with_reducible rfl
  try simp only [Act.put, List.setIfInBounds_toArray, List.set_cons_zero, List.set_cons_succ]
  refine takeD (i := 1) (d := some 15) (v := ?_) _ rfl rfl (by kernel_rfl) (by kernel_rfl) (by kernel_rfl) (fun _ _ _ h => h) (by rfl) ?_ (by assumption) ?_
  rotate_left
  · (intro w hSw; (try dsimp only at hSw); go_simp) <;> with_reducible rfl
  try simp only [Act.put, List.setIfInBounds_toArray, List.set_cons_zero, List.set_cons_succ]
  refine takeD (i := 2) (d := some 16) (v := ?_) _ rfl rfl (by kernel_rfl) (by kernel_rfl) (by kernel_rfl) (fun _ _ _ h => h) (by rfl) ?_ (by assumption) ?_
  rotate_left
  · (intro w hSw; (try dsimp only at hSw); go_simp) <;> with_reducible rfl
  try simp only [Act.put, List.setIfInBounds_toArray, List.set_cons_zero, List.set_cons_succ]
  refine takeD (i := 3) (d := some 17) (v := ?_) _ rfl rfl (by kernel_rfl) (by kernel_rfl) (by kernel_rfl) (fun _ _ _ h => h) (by rfl) ?_ (by assumption) ?_
  rotate_left
  · (intro w hSw; (try dsimp only at hSw); go_simp) <;> with_reducible rfl
  try simp only [Act.put, List.setIfInBounds_toArray, List.set_cons_zero, List.set_cons_succ]
  refine takeD (i := 4) (d := some 18) (v := ?_) _ rfl rfl (by kernel_rfl) (by kernel_rfl) (by kernel_rfl) (fun _ _ _ h => h) (by rfl) ?_ (by assumption) ?_
  rotate_left
  · (intro w hSw; (try dsimp only at hSw); go_simp) <;> with_reducible rfl
  try simp only [Act.put, List.setIfInBounds_toArray, List.set_cons_zero, List.set_cons_succ]
  refine takeD (i := 5) (d := some 19) (v := ?_) _ rfl rfl (by kernel_rfl) (by kernel_rfl) (by kernel_rfl) (fun _ _ _ h => h) (by rfl) ?_ (by assumption) ?_
  rotate_left
  · (intro w hSw; (try dsimp only at hSw); go_simp) <;> with_reducible rfl
  try simp only [Act.put, List.setIfInBounds_toArray, List.set_cons_zero, List.set_cons_succ]
  refine takeD (i := 6) (d := some 20) (v := ?_) _ rfl rfl (by kernel_rfl) (by kernel_rfl) (by kernel_rfl) (fun _ _ _ h => h) (by rfl) ?_ (by assumption) ?_
  rotate_left
  · (intro w hSw; (try dsimp only at hSw); go_simp) <;> with_reducible rfl
  try simp only [Act.put, List.setIfInBounds_toArray, List.set_cons_zero, List.set_cons_succ]
  refine takeD (i := 7) (d := some 4) (v := ?_) _ rfl rfl (by kernel_rfl) (by kernel_rfl) (by kernel_rfl) (fun _ _ _ h => h) (by rfl) ?_ (by assumption) ?_
  rotate_left
  · (intro w hSw; (try dsimp only at hSw); go_simp) <;> with_reducible rfl
  try simp only [Act.put, List.setIfInBounds_toArray, List.set_cons_zero, List.set_cons_succ]
  refine wpAnyH_done (by kernel_rfl) ?_ _
  have HB := Lib.hid hHeld.1
  clear hHeld
  go_wp2_with fail
  go_ret
  exact ⟨rfl, HB.out⟩
end Go.Proofs.Ytiellkodjhfhhaa.Lf
