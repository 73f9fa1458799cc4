/-
  A Life as a plain thing, and how it reads in memory. Each statement bears its own conditions.
-/
import Derived.Test.YtiellkodjhfhhaaFo
namespace Go.Proofs.Ytiellkodjhfhhaa.Lf
open Go.RowKit Go.Proofs.Ytiellkodjhfhhaa.F 
set_option linter.unusedVariables false
set_option linter.unusedSimpArgs false
structure LS where
  mode : Int
  left : Int
  starts : Int
structure LS.ok (s : LS) : Prop where
  m0 : 0 ≤ s.mode
  m3 : s.mode ≤ 3
  l0 : 0 ≤ s.left
  s0 : 0 ≤ s.starts
  ls : s.left + s.starts ≤ 1000
structure LV (w : World) (g : Nat) (s : LS) : Prop where
  hp : w.heap[g]? = some (.cells #[.int .i64 s.mode, .int .i64 s.left, .int .i64 s.starts] 48 (0, 0))
  ok : s.ok
section
variable {w w' : World} {g : Nat} {s : LS} {q : Nat → Prop}
theorem LV.lt (h : LV w g s) : g < w.heap.size := (Array.getElem?_eq_some_iff.1 h.hp).1
theorem LV.below (h : LV w g s) (hb : Below w.heap.size w w') : LV w' g s := ⟨(hb.block g h.lt).trans h.hp, h.ok⟩
theorem LV.fo (h : LV w g s) (hf : Fo q w w') (hd : ¬ q g) : LV w' g s := ⟨(hf.block g h.lt hd).trans h.hp, h.ok⟩
end
theorem _root_.Go.Proofs.Ytiellkodjhfhhaa.F.Fo.drew {p : Nat → Prop} {w w' : World} (h : Fo p w w') : Fo p w w'.drew := ⟨h.os, h.tape, h.output, h.size, h.block⟩
def newI (n : Int) : Prop := 0 ≤ n ∧ n ≤ 1000
instance (n : Int) : Decidable (newI n) := by unfold newI; exact inferInstance
def runS (s : LS) : LS := if s.mode = 1 ∨ s.mode = 2 then ⟨3, s.left, s.starts⟩ else s
def runE (s : LS) : Int := if s.mode = 1 ∨ s.mode = 2 then 0 else 19
def actI (a : Int) : Prop := a = 4 ∨ a = 5 ∨ a = 6
instance (a : Int) : Decidable (actI a) := by unfold actI; exact inferInstance
def doS (s : LS) (a : Int) : LS := if ¬ actI a then s else if s.mode = 0 then s else if a = 6 then ⟨0, s.left, s.starts⟩ else if s.left = 0 then ⟨0, s.left, s.starts⟩ else ⟨if a = 5 ∨ s.mode = 1 then 1 else 2, s.left - 1, s.starts + 1⟩
def doA (s : LS) (a : Int) : Bool := if ¬ actI a then false else if s.mode = 0 then false else if a = 6 then false else if s.left = 0 then false else true
def doE (s : LS) (a : Int) : Int := if ¬ actI a then 1 else if s.mode = 0 then 19 else if a = 6 then 0 else if s.left = 0 then 8 else 0
def resetS (s : LS) : LS := ⟨1, s.left + s.starts, 0⟩
theorem runS_ok {s : LS} (h : s.ok) : (runS s).ok := by
  unfold runS
  split
  · exact ⟨by simp, by simp, h.l0, h.s0, h.ls⟩
  · exact h
theorem resetS_ok {s : LS} (h : s.ok) : (resetS s).ok := ⟨by simp [resetS], by simp [resetS], by have := h.l0; have := h.s0; simp [resetS]; omega, by simp [resetS], by have := h.ls; simp [resetS]; omega⟩
theorem doS_ok {s : LS} (h : s.ok) (a : Int) : (doS s a).ok := by
  have h0 := h.l0
  have h1 := h.s0
  have h2 := h.ls
  unfold doS
  split
  · exact h
  split
  · exact h
  split
  · exact ⟨by simp, by simp, h0, h1, h2⟩
  split
  · exact ⟨by simp, by simp, h0, h1, h2⟩
  · refine ⟨?_, ?_, by simp only; omega, by simp only; omega, by simp only; omega⟩ <;> simp only <;> split <;> omega
theorem new_any (n : Int) (w : World) (h : newI n) : Calls Try.prog 9 #[.int .i64 n] w fun e w' => e = .returned (.tuple #[.pointer (some ⟨w.heap.size, 0, none⟩), .int .i64 0]) ∧ LV w' w.heap.size ⟨1, n, 0⟩ ∧ Below w.heap.size w w' := by
  have HO : Hid (LS.ok ⟨1, n, 0⟩) := ⟨by simp, by simp, h.1, by simp, by have := h.2; simpa using this⟩
  have e1 : decide (n < 0) = false := by have := h.1; simpa using this
  have e2 : decide (1000 < n) = false := by have := h.2; simpa using this
  clear h
  go_enter Try.func9, Try.ntmps9
  go_wp2_with fail
  go_ret2
  exact ⟨rfl, ⟨heap_alloc_new w _, HO.out⟩, (Below.refl _ _).alloc (Nat.le_refl _) _⟩
theorem new_bad (n : Int) (w : World) (h : ¬ newI n) : Calls Try.prog 9 #[.int .i64 n] w fun e w' => e = .returned (.tuple #[.pointer none, .int .i64 1]) ∧ w' = w := by
  by_cases h0 : n < 0
  · have e1 : decide (n < 0) = true := by simpa using h0
    clear h h0
    go_enter Try.func9, Try.ntmps9
    go_wp2_with fail
    go_ret2
    exact ⟨rfl, rfl⟩
  · have e1 : decide (n < 0) = false := by simpa using h0
    have e2 : decide (1000 < n) = true := by simp; unfold newI at h; omega
    clear h h0
    go_enter Try.func9, Try.ntmps9
    go_wp2_with fail
    go_ret2
    exact ⟨rfl, rfl⟩
theorem mode_any (g : Nat) (s : LS) (w : World) (h : LV w g s) : Calls Try.prog 16 #[.pointer (some ⟨g, 0, none⟩)] w fun e w' => e = .returned (.int .i64 s.mode) ∧ w' = w := by
  obtain ⟨m, l, st⟩ := s
  have hp := h.hp
  have d0 : w.cell? ⟨g, 0, none⟩ = some (.int .i64 m) := by rw [(row_cell hp 0).1]; rfl
  have dz0 : w.frozen? ⟨g, 0, none⟩ = false := (row_cell hp 0).2
  have d1 : w.cell? ⟨g, 1, none⟩ = some (.int .i64 l) := by rw [(row_cell hp 1).1]; rfl
  have dz1 : w.frozen? ⟨g, 1, none⟩ = false := (row_cell hp 1).2
  have d2 : w.cell? ⟨g, 2, none⟩ = some (.int .i64 st) := by rw [(row_cell hp 2).1]; rfl
  have dz2 : w.frozen? ⟨g, 2, none⟩ = false := (row_cell hp 2).2
  clear h hp
  go_enter Try.func16, Try.ntmps16
  go_wp2_with fail
  go_ret
  exact ⟨rfl, rfl⟩
theorem mode_nil (w : World) : Calls Try.prog 16 #[.pointer none] w fun e w' => e = .returned (.int .i64 0) ∧ w' = w := by
  go_enter Try.func16, Try.ntmps16
  go_wp2_with fail
  go_ret
  exact ⟨rfl, rfl⟩
theorem starts_any (g : Nat) (s : LS) (w : World) (h : LV w g s) : Calls Try.prog 17 #[.pointer (some ⟨g, 0, none⟩)] w fun e w' => e = .returned (.int .i64 s.starts) ∧ w' = w := by
  obtain ⟨m, l, st⟩ := s
  have hp := h.hp
  have d0 : w.cell? ⟨g, 0, none⟩ = some (.int .i64 m) := by rw [(row_cell hp 0).1]; rfl
  have dz0 : w.frozen? ⟨g, 0, none⟩ = false := (row_cell hp 0).2
  have d1 : w.cell? ⟨g, 1, none⟩ = some (.int .i64 l) := by rw [(row_cell hp 1).1]; rfl
  have dz1 : w.frozen? ⟨g, 1, none⟩ = false := (row_cell hp 1).2
  have d2 : w.cell? ⟨g, 2, none⟩ = some (.int .i64 st) := by rw [(row_cell hp 2).1]; rfl
  have dz2 : w.frozen? ⟨g, 2, none⟩ = false := (row_cell hp 2).2
  clear h hp
  go_enter Try.func17, Try.ntmps17
  go_wp2_with fail
  go_ret
  exact ⟨rfl, rfl⟩
theorem starts_nil (w : World) : Calls Try.prog 17 #[.pointer none] w fun e w' => e = .returned (.int .i64 0) ∧ w' = w := by
  go_enter Try.func17, Try.ntmps17
  go_wp2_with fail
  go_ret
  exact ⟨rfl, rfl⟩
theorem left_any (g : Nat) (s : LS) (w : World) (h : LV w g s) : Calls Try.prog 18 #[.pointer (some ⟨g, 0, none⟩)] w fun e w' => e = .returned (.int .i64 s.left) ∧ w' = w := by
  obtain ⟨m, l, st⟩ := s
  have hp := h.hp
  have d0 : w.cell? ⟨g, 0, none⟩ = some (.int .i64 m) := by rw [(row_cell hp 0).1]; rfl
  have dz0 : w.frozen? ⟨g, 0, none⟩ = false := (row_cell hp 0).2
  have d1 : w.cell? ⟨g, 1, none⟩ = some (.int .i64 l) := by rw [(row_cell hp 1).1]; rfl
  have dz1 : w.frozen? ⟨g, 1, none⟩ = false := (row_cell hp 1).2
  have d2 : w.cell? ⟨g, 2, none⟩ = some (.int .i64 st) := by rw [(row_cell hp 2).1]; rfl
  have dz2 : w.frozen? ⟨g, 2, none⟩ = false := (row_cell hp 2).2
  clear h hp
  go_enter Try.func18, Try.ntmps18
  go_wp2_with fail
  go_ret
  exact ⟨rfl, rfl⟩
theorem left_nil (w : World) : Calls Try.prog 18 #[.pointer none] w fun e w' => e = .returned (.int .i64 0) ∧ w' = w := by
  go_enter Try.func18, Try.ntmps18
  go_wp2_with fail
  go_ret
  exact ⟨rfl, rfl⟩
set_option maxRecDepth 100000 in
set_option maxHeartbeats 4000000 in
theorem run_any (g : Nat) (s : LS) (w : World) (h : LV w g s) : Calls Try.prog 14 #[.pointer (some ⟨g, 0, none⟩)] w fun e w' => e = .returned (.int .i64 (runE s)) ∧ LV w' g (runS s) ∧ Fo (fun b => b = g) w w' := by
  have HO := Lib.hid (runS_ok h.ok)
  obtain ⟨m, l, st⟩ := s
  have hp := h.hp
  have d0 : w.cell? ⟨g, 0, none⟩ = some (.int .i64 m) := by rw [(row_cell hp 0).1]; rfl
  have dz0 : w.frozen? ⟨g, 0, none⟩ = false := (row_cell hp 0).2
  have d1 : w.cell? ⟨g, 1, none⟩ = some (.int .i64 l) := by rw [(row_cell hp 1).1]; rfl
  have dz1 : w.frozen? ⟨g, 1, none⟩ = false := (row_cell hp 1).2
  have d2 : w.cell? ⟨g, 2, none⟩ = some (.int .i64 st) := by rw [(row_cell hp 2).1]; rfl
  have dz2 : w.frozen? ⟨g, 2, none⟩ = false := (row_cell hp 2).2
  have HP := Lib.hid h
  clear hp
  by_cases h1 : m = 1
  · subst h1
    clear h
    go_enter Try.func14, Try.ntmps14
    go_wp2_with fail
    go_ret
    exact ⟨rfl, ⟨set_at HP.out.hp 0 _, HO.out⟩, (Fo.refl (fun b => b = g) _).setCell (.inl rfl) _ _⟩
  by_cases h2 : m = 2
  · subst h2
    clear h
    go_enter Try.func14, Try.ntmps14
    go_wp2_with fail
    go_ret
    exact ⟨rfl, ⟨set_at HP.out.hp 0 _, HO.out⟩, (Fo.refl (fun b => b = g) _).setCell (.inl rfl) _ _⟩
  · have n1 : (m != 1) = true := by simpa using h1
    have n2 : (m != 2) = true := by simpa using h2
    have HE : Hid (runE ⟨m, l, st⟩ = 19 ∧ runS ⟨m, l, st⟩ = ⟨m, l, st⟩) := ⟨if_neg (by simp; omega), if_neg (by simp; omega)⟩
    clear h
    go_enter Try.func14, Try.ntmps14
    go_wp2_with fail
    go_ret
    exact ⟨by rw [HE.out.1]; rfl, by rw [HE.out.2]; exact HP.out, Fo.refl _ _⟩
theorem run_nil (w : World) : Calls Try.prog 14 #[.pointer none] w fun e w' => e = .returned (.int .i64 1) ∧ w' = w := by
  go_enter Try.func14, Try.ntmps14
  go_wp2_with fail
  go_ret
  exact ⟨rfl, rfl⟩
set_option maxRecDepth 100000 in
set_option maxHeartbeats 4000000 in
theorem reset_any (g : Nat) (s : LS) (w : World) (h : LV w g s) : Calls Try.prog 19 #[.pointer (some ⟨g, 0, none⟩)] w fun e w' => e = .returned (.tuple #[]) ∧ LV w' g (resetS s) ∧ Fo (fun b => b = g) w w' := by
  have HO := Lib.hid (resetS_ok h.ok)
  obtain ⟨m, l, st⟩ := s
  have hp := h.hp
  have d0 : w.cell? ⟨g, 0, none⟩ = some (.int .i64 m) := by rw [(row_cell hp 0).1]; rfl
  have dz0 : w.frozen? ⟨g, 0, none⟩ = false := (row_cell hp 0).2
  have d1 : w.cell? ⟨g, 1, none⟩ = some (.int .i64 l) := by rw [(row_cell hp 1).1]; rfl
  have dz1 : w.frozen? ⟨g, 1, none⟩ = false := (row_cell hp 1).2
  have d2 : w.cell? ⟨g, 2, none⟩ = some (.int .i64 st) := by rw [(row_cell hp 2).1]; rfl
  have dz2 : w.frozen? ⟨g, 2, none⟩ = false := (row_cell hp 2).2
  have HP := Lib.hid h
  have hw : IntKind.i64.wrap (l + st) = l + st := by have := h.ok.l0; have := h.ok.s0; have := h.ok.ls; simp only at *; rw [IntKind.wrap_i64]; omega
  clear hp h
  go_enter Try.func19, Try.ntmps19
  go_wp2_with fail
  have r1 : w.drew.cell? ⟨g, 1, none⟩ = some (.int .i64 l) := d1
  have r2 : w.drew.cell? ⟨g, 2, none⟩ = some (.int .i64 st) := d2
  have rz0 : w.drew.frozen? ⟨g, 0, none⟩ = false := dz0
  have rz1 : w.drew.frozen? ⟨g, 1, none⟩ = false := dz1
  have rz2 : w.drew.frozen? ⟨g, 2, none⟩ = false := dz2
  have r0 : w.drew.cell? ⟨g, 0, none⟩ = some (.int .i64 m) := d0
  refine wp_region_held_drew (S := (fun _ => True)) (by kernel_rfl) trivial (fun hHeld => ?_)
  clear hHeld
  refine takeD (i := 0) (d := some 4) (v := ?_) _ rfl rfl (by kernel_rfl) (by kernel_rfl) (by kernel_rfl) (fun _ _ _ h => h) (by rfl) ?_ trivial ?_
  rotate_left
  · (intro w hSw; (try dsimp only at hSw); go_simp) <;> with_reducible rfl
  try simp only [Act.put, List.setIfInBounds_toArray, List.set_cons_zero, List.set_cons_succ]
  refine takeD (i := 1) (d := some 5) (v := ?_) _ rfl rfl (by kernel_rfl) (by kernel_rfl) (by kernel_rfl) (fun _ _ _ h => h) (by rfl) ?_ trivial ?_
  rotate_left
  · (intro w hSw; (try dsimp only at hSw); go_simp) <;> with_reducible rfl
  try simp only [Act.put, List.setIfInBounds_toArray, List.set_cons_zero, List.set_cons_succ]
  refine takeD (i := 2) (d := some 6) (v := ?_) _ rfl rfl (by kernel_rfl) (by kernel_rfl) (by kernel_rfl) (fun _ _ _ h => h) (by rfl) ?_ trivial ?_
  rotate_left
  · (intro w hSw; (try dsimp only at hSw); go_simp) <;> with_reducible rfl
  try simp only [Act.put, List.setIfInBounds_toArray, List.set_cons_zero, List.set_cons_succ]
  refine takeD (i := 3) (d := some 7) (v := ?_) _ rfl rfl (by kernel_rfl) (by kernel_rfl) (by kernel_rfl) (fun _ _ _ h => h) (by rfl) ?_ trivial ?_
  rotate_left
  · (intro w hSw; (try dsimp only at hSw); go_simp) <;> with_reducible rfl
  try simp only [Act.put, List.setIfInBounds_toArray, List.set_cons_zero, List.set_cons_succ]
  refine takeD (i := 5) (d := some 9) (v := ?_) _ rfl rfl (by kernel_rfl) (by kernel_rfl) (by kernel_rfl) (fun _ _ _ h => h) (by rfl) ?_ trivial ?_
  rotate_left
  · (intro w hSw; (try dsimp only at hSw); go_simp) <;> with_reducible rfl
  try simp only [Act.put, List.setIfInBounds_toArray, List.set_cons_zero, List.set_cons_succ]
  refine takeD (i := 6) (d := some 10) (v := ?_) _ rfl rfl (by kernel_rfl) (by kernel_rfl) (by kernel_rfl) (fun _ _ _ h => h) (by rfl) ?_ trivial ?_
  rotate_left
  · (intro w hSw; (try dsimp only at hSw); go_simp) <;> with_reducible rfl
  try simp only [Act.put, List.setIfInBounds_toArray, List.set_cons_zero, List.set_cons_succ]
  refine takeD (i := 7) (d := some 11) (v := ?_) _ rfl rfl (by kernel_rfl) (by kernel_rfl) (by kernel_rfl) (fun _ _ _ h => h) (by rfl) ?_ trivial ?_
  rotate_left
  · (intro w hSw; (try dsimp only at hSw); go_simp) <;> with_reducible rfl
  try simp only [Act.put, List.setIfInBounds_toArray, List.set_cons_zero, List.set_cons_succ]
  refine wpAnyH_ready (rs := [4, 8]) (by kernel_rfl) (by simp) ?_
  refine AllReadyH.cons rfl (fun K hK => ?_) (AllReadyH.cons rfl (fun K hK => ?_) AllReadyH.nil)
  · try go_simp
    refine hK.out _ _ trivial (fun _ => ?_)
    clear hK K
    try simp only [Act.put, List.setIfInBounds_toArray, List.set_cons_zero, List.set_cons_succ]
    refine wpAnyH_ready (rs := [8]) (by kernel_rfl) (by simp) ?_
    refine AllReadyH.cons rfl (fun K hK => ?_) AllReadyH.nil
    try go_simp
    refine hK.out _ _ trivial (fun _ => ?_)
    clear hK K
    try simp only [Act.put, List.setIfInBounds_toArray, List.set_cons_zero, List.set_cons_succ]
    refine takeD (i := 9) (d := some 13) (v := ?_) _ rfl rfl (by kernel_rfl) (by kernel_rfl) (by kernel_rfl) (fun _ _ _ h => h) (by rfl) ?_ trivial ?_
    rotate_left
    · (intro w hSw; (try dsimp only at hSw); go_simp) <;> with_reducible rfl
    try simp only [Act.put, List.setIfInBounds_toArray, List.set_cons_zero, List.set_cons_succ]
    refine takeD (i := 10) (d := some 14) (v := ?_) _ rfl rfl (by kernel_rfl) (by kernel_rfl) (by kernel_rfl) (fun _ _ _ h => h) (by rfl) ?_ trivial ?_
    rotate_left
    · (intro w hSw; (try dsimp only at hSw); go_simp) <;> with_reducible rfl
    try simp only [Act.put, List.setIfInBounds_toArray, List.set_cons_zero, List.set_cons_succ]
    refine takeD (i := 11) (d := some 15) (v := ?_) _ rfl rfl (by kernel_rfl) (by kernel_rfl) (by kernel_rfl) (fun _ _ _ h => h) (by rfl) ?_ trivial ?_
    rotate_left
    · (intro w hSw; (try dsimp only at hSw); go_simp) <;> with_reducible rfl
    try simp only [Act.put, List.setIfInBounds_toArray, List.set_cons_zero, List.set_cons_succ]
    refine wpAnyH_ready (rs := [12]) (by kernel_rfl) (by simp) ?_
    refine AllReadyH.cons rfl (fun K hK => ?_) AllReadyH.nil
    try go_simp
    refine hK.out _ _ trivial (fun _ => ?_)
    clear hK K
    try simp only [Act.put, List.setIfInBounds_toArray, List.set_cons_zero, List.set_cons_succ]
    refine wpAnyH_done (by kernel_rfl) ?_ _
    first | go_end0 | (go_wp2_with (first | go_end0); try go_end0)
    exact ⟨rfl, ⟨set_at (set_at (set_at HP.out.hp 0 _) 1 _) 2 _, HO.out⟩, ((((Fo.refl (fun b => b = g) _).setCell (.inl rfl) _ _).setCell (.inl rfl) _ _).setCell (.inl rfl) _ _).drew⟩
  · try go_simp
    refine hK.out _ _ trivial (fun _ => ?_)
    clear hK K
    try simp only [Act.put, List.setIfInBounds_toArray, List.set_cons_zero, List.set_cons_succ]
    refine wpAnyH_ready (rs := [4]) (by kernel_rfl) (by simp) ?_
    refine AllReadyH.cons rfl (fun K hK => ?_) AllReadyH.nil
    try go_simp
    refine hK.out _ _ trivial (fun _ => ?_)
    clear hK K
    try simp only [Act.put, List.setIfInBounds_toArray, List.set_cons_zero, List.set_cons_succ]
    refine takeD (i := 9) (d := some 13) (v := ?_) _ rfl rfl (by kernel_rfl) (by kernel_rfl) (by kernel_rfl) (fun _ _ _ h => h) (by rfl) ?_ trivial ?_
    rotate_left
    · (intro w hSw; (try dsimp only at hSw); go_simp) <;> with_reducible rfl
    try simp only [Act.put, List.setIfInBounds_toArray, List.set_cons_zero, List.set_cons_succ]
    refine takeD (i := 10) (d := some 14) (v := ?_) _ rfl rfl (by kernel_rfl) (by kernel_rfl) (by kernel_rfl) (fun _ _ _ h => h) (by rfl) ?_ trivial ?_
    rotate_left
    · (intro w hSw; (try dsimp only at hSw); go_simp) <;> with_reducible rfl
    try simp only [Act.put, List.setIfInBounds_toArray, List.set_cons_zero, List.set_cons_succ]
    refine takeD (i := 11) (d := some 15) (v := ?_) _ rfl rfl (by kernel_rfl) (by kernel_rfl) (by kernel_rfl) (fun _ _ _ h => h) (by rfl) ?_ trivial ?_
    rotate_left
    · (intro w hSw; (try dsimp only at hSw); go_simp) <;> with_reducible rfl
    try simp only [Act.put, List.setIfInBounds_toArray, List.set_cons_zero, List.set_cons_succ]
    refine wpAnyH_ready (rs := [12]) (by kernel_rfl) (by simp) ?_
    refine AllReadyH.cons rfl (fun K hK => ?_) AllReadyH.nil
    try go_simp
    refine hK.out _ _ trivial (fun _ => ?_)
    clear hK K
    try simp only [Act.put, List.setIfInBounds_toArray, List.set_cons_zero, List.set_cons_succ]
    refine wpAnyH_done (by kernel_rfl) ?_ _
    first | go_end0 | (go_wp2_with (first | go_end0); try go_end0)
    exact ⟨rfl, ⟨set_at (set_at (set_at HP.out.hp 0 _) 1 _) 2 _, HO.out⟩, ((((Fo.refl (fun b => b = g) _).setCell (.inl rfl) _ _).setCell (.inl rfl) _ _).setCell (.inl rfl) _ _).drew⟩
theorem reset_nil (w : World) : Calls Try.prog 19 #[.pointer none] w fun e w' => e = .returned (.tuple #[]) ∧ w' = w := by
  go_enter Try.func19, Try.ntmps19
  go_wp2_with (first | go_end0)
  try go_end0
  all_goals first | exact ⟨rfl, rfl⟩ | rfl
set_option maxRecDepth 100000 in
set_option maxHeartbeats 4000000 in
theorem clone_any (g : Nat) (s : LS) (w : World) (h : LV w g s) : Calls Try.prog 20 #[.pointer (some ⟨g, 0, none⟩)] w fun e w' => e = .returned (.pointer (some ⟨w.heap.size, 0, none⟩)) ∧ LV w' w.heap.size s ∧ Below w.heap.size w w' := by
  obtain ⟨m, l, st⟩ := s
  have hp := h.hp
  have d0 : w.cell? ⟨g, 0, none⟩ = some (.int .i64 m) := by rw [(row_cell hp 0).1]; rfl
  have dz0 : w.frozen? ⟨g, 0, none⟩ = false := (row_cell hp 0).2
  have d1 : w.cell? ⟨g, 1, none⟩ = some (.int .i64 l) := by rw [(row_cell hp 1).1]; rfl
  have dz1 : w.frozen? ⟨g, 1, none⟩ = false := (row_cell hp 1).2
  have d2 : w.cell? ⟨g, 2, none⟩ = some (.int .i64 st) := by rw [(row_cell hp 2).1]; rfl
  have dz2 : w.frozen? ⟨g, 2, none⟩ = false := (row_cell hp 2).2
  have HP := Lib.hid h
  clear hp h
  go_enter Try.func20, Try.ntmps20
  go_wp2_with fail
  go_ret
  exact ⟨rfl, ⟨heap_alloc_new w _, HP.out.ok⟩, (Below.refl _ _).alloc (Nat.le_refl _) _⟩
theorem clone_nil (w : World) : Calls Try.prog 20 #[.pointer none] w fun e w' => e = .returned (.pointer none) ∧ w' = w := by
  go_enter Try.func20, Try.ntmps20
  go_wp2_with fail
  go_ret
  exact ⟨rfl, rfl⟩
theorem same_nil (w : World) : Calls Try.prog 21 #[.pointer none, .pointer none] w fun e w' => e = .returned (.bool true) ∧ w' = w := by
  go_enter Try.func21, Try.ntmps21
  go_wp2_with fail
  go_ret
  exact ⟨rfl, rfl⟩
theorem same_nil_l (g : Nat) (w : World) : Calls Try.prog 21 #[.pointer none, .pointer (some ⟨g, 0, none⟩)] w fun e w' => e = .returned (.bool false) ∧ w' = w := by
  have he : ∀ w : World, (binOp .eql 24 (.pointer none) (.pointer (some ⟨g, 0, none⟩))).run Try.prog w = .ok (.bool false) w := fun _ => rfl
  go_enter Try.func21, Try.ntmps21
  go_wp2_with fail
  go_ret
  exact ⟨rfl, rfl⟩
theorem same_nil_r (g : Nat) (w : World) : Calls Try.prog 21 #[.pointer (some ⟨g, 0, none⟩), .pointer none] w fun e w' => e = .returned (.bool false) ∧ w' = w := by
  have he : ∀ w : World, (binOp .eql 24 (.pointer (some ⟨g, 0, none⟩)) (.pointer none)).run Try.prog w = .ok (.bool false) w := fun _ => rfl
  go_enter Try.func21, Try.ntmps21
  go_wp2_with fail
  go_ret
  exact ⟨rfl, rfl⟩
theorem do_nil (a : Int) (w : World) : Calls Try.prog 15 #[.pointer none, .int .i64 a] w fun e w' => e = .returned (.tuple #[.int .i64 0, .bool false, .int .i64 1]) ∧ w' = w := by
  go_enter Try.func15, Try.ntmps15
  go_wp2_with fail
  go_ret3
  exact ⟨rfl, rfl⟩
end Go.Proofs.Ytiellkodjhfhhaa.Lf
