/-
  What the reference answers. Each statement bears its own conditions.
-/
import Derived.Test.YtiellkodjhfhhaaLfA
namespace Go.Proofs.Ytiellkodjhfhhaa.Lf
open Go.RowKit Go.Proofs.Ytiellkodjhfhhaa.F 
set_option linter.unusedVariables false
set_option linter.unusedSimpArgs false
theorem results_cell_tmp {P : Program} {fn : Func} {p q : Tmp} {ty : TypeId} (h : fn.results = #[.cell p ty, .tmp q]) (tmps : Array Value) (w : World) (g : Nat) (cs : List Value) (d : TypeDesc)
    (hp : tmps.getD p undef = .pointer (some ⟨g, 0, none⟩)) (hc : w.rangeAt g 0 cs)
    (hu : P.underlying ty = some d) (hd : d.isRow = true) (hi : (P.info? ty).map (·.size) = some cs.length) :
    (results fn tmps).run P w = .ok (.tuple #[.agg cs.toArray, tmps.getD q undef]) w := by
  have hp' : tmps[p]?.getD undef = .pointer (some ⟨g, 0, none⟩) := by simpa using hp
  simp [results, h, hp', asAddr, run_loadVar_mid w g 0 ty cs d hc hu hd hi]
theorem results_cell_two {P : Program} {fn : Func} {p q s : Tmp} {ty : TypeId} (h : fn.results = #[.cell p ty, .tmp q, .tmp s]) (tmps : Array Value) (w : World) (g : Nat) (cs : List Value) (d : TypeDesc)
    (hp : tmps.getD p undef = .pointer (some ⟨g, 0, none⟩)) (hc : w.rangeAt g 0 cs)
    (hu : P.underlying ty = some d) (hd : d.isRow = true) (hi : (P.info? ty).map (·.size) = some cs.length) :
    (results fn tmps).run P w = .ok (.tuple #[.agg cs.toArray, tmps.getD q undef, tmps.getD s undef]) w := by
  have hp' : tmps[p]?.getD undef = .pointer (some ⟨g, 0, none⟩) := by simpa using hp
  simp [results, h, hp', asAddr, run_loadVar_mid w g 0 ty cs d hc hu hd hi]
theorem results_cell_one {P : Program} {fn : Func} {p : Tmp} {ty : TypeId} (h : fn.results = #[.cell p ty]) (tmps : Array Value) (w : World) (g : Nat) (cs : List Value) (d : TypeDesc)
    (hp : tmps.getD p undef = .pointer (some ⟨g, 0, none⟩)) (hc : w.rangeAt g 0 cs)
    (hu : P.underlying ty = some d) (hd : d.isRow = true) (hi : (P.info? ty).map (·.size) = some cs.length) :
    (results fn tmps).run P w = .ok (.agg cs.toArray) w := by
  have hp' : tmps[p]?.getD undef = .pointer (some ⟨g, 0, none⟩) := by simpa using hp
  simp [results, h, hp', asAddr, run_loadVar_mid w g 0 ty cs d hc hu hd hi]
theorem set_four {w : World} {g : Nat} {c0 c1 c2 c3 : Value} {t : TypeId} (h : w.heap[g]? = some (.cells #[c0, c1, c2, c3] t (0, 0))) (a b c d : Value) : ((((w.setCell ⟨g, 0, none⟩ a).setCell ⟨g, 1, none⟩ b).setCell ⟨g, 2, none⟩ c).setCell ⟨g, 3, none⟩ d).rangeAt g 0 [a, b, c, d] := by
  have h1 := set_at (set_at (set_at (set_at h 0 a) 1 b) 2 c) 3 d
  intro j v hv
  rw [Nat.zero_add, (row_cell h1 j).1]
  simpa using hv
/-- The reference's Life. -/
def RA (s : LS) (f : Int) : Value := .agg #[.int .i64 s.mode, .int .i64 s.starts, .int .i64 s.left, .int .i64 f]
theorem rnew_any (n : Int) (w : World) : Calls Try.prog 11 #[.int .i64 n] w fun e w' => e = .returned (RA ⟨1, n, 0⟩ n) ∧ Below w.heap.size w w' := by
  obtain ⟨X, hX⟩ : ∃ X, w.heap.size = X := ⟨_, rfl⟩
  obtain ⟨W0, hW0⟩ : ∃ W0, w.alloc (.cells #[.int .i64 0, .int .i64 0, .int .i64 0, .int .i64 0] 30) = W0 := ⟨_, rfl⟩
  have B0 : Hid (Below X w W0) := by rw [← hW0, ← hX]; exact (Below.refl _ _).alloc (Nat.le_refl _) _
  have HX0 : Hid (W0.heap[X]? = some (.cells #[.int .i64 0, .int .i64 0, .int .i64 0, .int .i64 0] 30 (0, 0))) := by rw [← hW0, ← hX]; exact heap_alloc_new _ _
  have x0 : W0.cell? ⟨X, 0, none⟩ = some (.int .i64 0) := by rw [(row_cell HX0.out 0).1]; rfl
  have x1 : W0.cell? ⟨X, 1, none⟩ = some (.int .i64 0) := by rw [(row_cell HX0.out 1).1]; rfl
  have x2 : W0.cell? ⟨X, 2, none⟩ = some (.int .i64 0) := by rw [(row_cell HX0.out 2).1]; rfl
  have x3 : W0.cell? ⟨X, 3, none⟩ = some (.int .i64 0) := by rw [(row_cell HX0.out 3).1]; rfl
  have z0 : W0.frozen? ⟨X, 0, none⟩ = false := (row_cell HX0.out 0).2
  have z1 : W0.frozen? ⟨X, 1, none⟩ = false := (row_cell HX0.out 1).2
  have z2 : W0.frozen? ⟨X, 2, none⟩ = false := (row_cell HX0.out 2).2
  have z3 : W0.frozen? ⟨X, 3, none⟩ = false := (row_cell HX0.out 3).2
  rw [hX]
  go_enter Try.func11, Try.ntmps11
  go_wp2_with fail
  refine bodyPost_ret (results_cell_one rfl _ _ X _ _ rfl (set_four HX0.out _ _ _ _) Try.underlying30 rfl (by kernel_rfl)) rfl ?_
  exact ⟨rfl, (((B0.out.setCell (Nat.le_refl _) _).setCell (Nat.le_refl _) _).setCell (Nat.le_refl _) _).setCell (Nat.le_refl _) _⟩
set_option maxRecDepth 100000 in
set_option maxHeartbeats 4000000 in
theorem rrun_go (st l f m : Int) (hm : m = 1 ∨ m = 2) (w : World) : Calls Try.prog 22 #[.agg #[.int .i64 m, .int .i64 st, .int .i64 l, .int .i64 f]] w fun e w' => e = .returned (.tuple #[.agg #[.int .i64 3, .int .i64 st, .int .i64 l, .int .i64 f], .int .i64 0]) ∧ Below w.heap.size w w' := by
  obtain ⟨X, hX⟩ : ∃ X, w.heap.size = X := ⟨_, rfl⟩
  obtain ⟨W0, hW0⟩ : ∃ W0, (w.alloc (.cells #[.int .i64 m, .int .i64 st, .int .i64 l, .int .i64 f] 30)).alloc (.cells #[.int .i64 0, .int .i64 0, .int .i64 0, .int .i64 0] 30) = W0 := ⟨_, rfl⟩
  have B0 : Hid (Below X w W0) := by rw [← hW0, ← hX]; exact (((Below.refl _ _).alloc (Nat.le_refl _) _).alloc (by simp) _)
  have HX0 : Hid (W0.heap[X]? = some (.cells #[.int .i64 m, .int .i64 st, .int .i64 l, .int .i64 f] 30 (0, 0))) := by
    rw [← hW0, ← hX]; exact (((Below.refl _ _).alloc (Nat.le_refl _) _).block _ (by simp)).trans (heap_alloc_new _ _)
  have HY0 : Hid (W0.heap[X + 1]? = some (.cells #[.int .i64 0, .int .i64 0, .int .i64 0, .int .i64 0] 30 (0, 0))) := by
    rw [← hW0, ← hX]; have := heap_alloc_new (w.alloc (.cells #[.int .i64 m, .int .i64 st, .int .i64 l, .int .i64 f] 30)) (.cells #[.int .i64 0, .int .i64 0, .int .i64 0, .int .i64 0] 30); unfold Hid; simpa using this
  rw [hX]
  have x0 : W0.cell? ⟨X, 0, none⟩ = some (.int .i64 m) := by rw [(row_cell HX0.out 0).1]; rfl
  have xz0 : W0.frozen? ⟨X, 0, none⟩ = false := (row_cell HX0.out 0).2
  have y0 : W0.cell? ⟨X + 1, 0, none⟩ = some (.int .i64 0) := by rw [(row_cell HY0.out 0).1]; rfl
  have yz0 : W0.frozen? ⟨X + 1, 0, none⟩ = false := (row_cell HY0.out 0).2
  have x1 : W0.cell? ⟨X, 1, none⟩ = some (.int .i64 st) := by rw [(row_cell HX0.out 1).1]; rfl
  have xz1 : W0.frozen? ⟨X, 1, none⟩ = false := (row_cell HX0.out 1).2
  have y1 : W0.cell? ⟨X + 1, 1, none⟩ = some (.int .i64 0) := by rw [(row_cell HY0.out 1).1]; rfl
  have yz1 : W0.frozen? ⟨X + 1, 1, none⟩ = false := (row_cell HY0.out 1).2
  have x2 : W0.cell? ⟨X, 2, none⟩ = some (.int .i64 l) := by rw [(row_cell HX0.out 2).1]; rfl
  have xz2 : W0.frozen? ⟨X, 2, none⟩ = false := (row_cell HX0.out 2).2
  have y2 : W0.cell? ⟨X + 1, 2, none⟩ = some (.int .i64 0) := by rw [(row_cell HY0.out 2).1]; rfl
  have yz2 : W0.frozen? ⟨X + 1, 2, none⟩ = false := (row_cell HY0.out 2).2
  have x3 : W0.cell? ⟨X, 3, none⟩ = some (.int .i64 f) := by rw [(row_cell HX0.out 3).1]; rfl
  have xz3 : W0.frozen? ⟨X, 3, none⟩ = false := (row_cell HX0.out 3).2
  have y3 : W0.cell? ⟨X + 1, 3, none⟩ = some (.int .i64 0) := by rw [(row_cell HY0.out 3).1]; rfl
  have yz3 : W0.frozen? ⟨X + 1, 3, none⟩ = false := (row_cell HY0.out 3).2
  obtain ⟨W3, hW3⟩ : ∃ W3, (W0.setCell ⟨X, 0, none⟩ (Value.int IntKind.i64 (3))) = W3 := ⟨_, rfl⟩
  have X3 : Hid (W3.heap[X]? = some (.cells #[.int .i64 3, .int .i64 st, .int .i64 l, .int .i64 f] 30 (0, 0))) := by rw [← hW3]; exact set_at (HX0.out) 0 _
  have Y3 : Hid (W3.heap[X + 1]? = some (.cells #[.int .i64 0, .int .i64 0, .int .i64 0, .int .i64 0] 30 (0, 0))) := by rw [← hW3]; exact (set_far 0 _ (by omega)).trans (HY0.out)
  have B3 : Hid (Below X w W3) := by rw [← hW3]; exact (B0.out).setCell (Nat.le_refl _) _
  have r0 : W3.cell? ⟨X, 0, none⟩ = some (.int .i64 (3)) := by rw [(row_cell X3.out 0).1]; rfl
  have s0 : W3.cell? ⟨X + 1, 0, none⟩ = some (.int .i64 0) := by rw [(row_cell Y3.out 0).1]; rfl
  have sz0 : W3.frozen? ⟨X + 1, 0, none⟩ = false := (row_cell Y3.out 0).2
  have r1 : W3.cell? ⟨X, 1, none⟩ = some (.int .i64 (st)) := by rw [(row_cell X3.out 1).1]; rfl
  have s1 : W3.cell? ⟨X + 1, 1, none⟩ = some (.int .i64 0) := by rw [(row_cell Y3.out 1).1]; rfl
  have sz1 : W3.frozen? ⟨X + 1, 1, none⟩ = false := (row_cell Y3.out 1).2
  have r2 : W3.cell? ⟨X, 2, none⟩ = some (.int .i64 (l)) := by rw [(row_cell X3.out 2).1]; rfl
  have s2 : W3.cell? ⟨X + 1, 2, none⟩ = some (.int .i64 0) := by rw [(row_cell Y3.out 2).1]; rfl
  have sz2 : W3.frozen? ⟨X + 1, 2, none⟩ = false := (row_cell Y3.out 2).2
  have r3 : W3.cell? ⟨X, 3, none⟩ = some (.int .i64 (f)) := by rw [(row_cell X3.out 3).1]; rfl
  have s3 : W3.cell? ⟨X + 1, 3, none⟩ = some (.int .i64 0) := by rw [(row_cell Y3.out 3).1]; rfl
  have sz3 : W3.frozen? ⟨X + 1, 3, none⟩ = false := (row_cell Y3.out 3).2
  rcases hm with rfl | rfl
  · go_enter Try.func22, Try.ntmps22
    go_wp2_with fail
    refine bodyPost_ret (results_cell_tmp rfl _ _ (X + 1) _ _ rfl (set_four Y3.out _ _ _ _) Try.underlying30 rfl (by kernel_rfl)) rfl ?_
    exact ⟨rfl, ((((B3.out).setCell (by exact Nat.le_succ _) _).setCell (by exact Nat.le_succ _) _).setCell (by exact Nat.le_succ _) _).setCell (by exact Nat.le_succ _) _⟩
  · go_enter Try.func22, Try.ntmps22
    go_wp2_with fail
    refine bodyPost_ret (results_cell_tmp rfl _ _ (X + 1) _ _ rfl (set_four Y3.out _ _ _ _) Try.underlying30 rfl (by kernel_rfl)) rfl ?_
    exact ⟨rfl, ((((B3.out).setCell (by exact Nat.le_succ _) _).setCell (by exact Nat.le_succ _) _).setCell (by exact Nat.le_succ _) _).setCell (by exact Nat.le_succ _) _⟩
set_option maxRecDepth 100000 in
set_option maxHeartbeats 4000000 in
theorem rrun_no (st l f m : Int) (h1 : m ≠ 1) (h2 : m ≠ 2) (w : World) : Calls Try.prog 22 #[.agg #[.int .i64 m, .int .i64 st, .int .i64 l, .int .i64 f]] w fun e w' => e = .returned (.tuple #[.agg #[.int .i64 m, .int .i64 st, .int .i64 l, .int .i64 f], .int .i64 19]) ∧ Below w.heap.size w w' := by
  obtain ⟨X, hX⟩ : ∃ X, w.heap.size = X := ⟨_, rfl⟩
  obtain ⟨W0, hW0⟩ : ∃ W0, (w.alloc (.cells #[.int .i64 m, .int .i64 st, .int .i64 l, .int .i64 f] 30)).alloc (.cells #[.int .i64 0, .int .i64 0, .int .i64 0, .int .i64 0] 30) = W0 := ⟨_, rfl⟩
  have B0 : Hid (Below X w W0) := by rw [← hW0, ← hX]; exact (((Below.refl _ _).alloc (Nat.le_refl _) _).alloc (by simp) _)
  have HX0 : Hid (W0.heap[X]? = some (.cells #[.int .i64 m, .int .i64 st, .int .i64 l, .int .i64 f] 30 (0, 0))) := by
    rw [← hW0, ← hX]; exact (((Below.refl _ _).alloc (Nat.le_refl _) _).block _ (by simp)).trans (heap_alloc_new _ _)
  have HY0 : Hid (W0.heap[X + 1]? = some (.cells #[.int .i64 0, .int .i64 0, .int .i64 0, .int .i64 0] 30 (0, 0))) := by
    rw [← hW0, ← hX]; have := heap_alloc_new (w.alloc (.cells #[.int .i64 m, .int .i64 st, .int .i64 l, .int .i64 f] 30)) (.cells #[.int .i64 0, .int .i64 0, .int .i64 0, .int .i64 0] 30); unfold Hid; simpa using this
  rw [hX]
  have x0 : W0.cell? ⟨X, 0, none⟩ = some (.int .i64 m) := by rw [(row_cell HX0.out 0).1]; rfl
  have xz0 : W0.frozen? ⟨X, 0, none⟩ = false := (row_cell HX0.out 0).2
  have y0 : W0.cell? ⟨X + 1, 0, none⟩ = some (.int .i64 0) := by rw [(row_cell HY0.out 0).1]; rfl
  have yz0 : W0.frozen? ⟨X + 1, 0, none⟩ = false := (row_cell HY0.out 0).2
  have x1 : W0.cell? ⟨X, 1, none⟩ = some (.int .i64 st) := by rw [(row_cell HX0.out 1).1]; rfl
  have xz1 : W0.frozen? ⟨X, 1, none⟩ = false := (row_cell HX0.out 1).2
  have y1 : W0.cell? ⟨X + 1, 1, none⟩ = some (.int .i64 0) := by rw [(row_cell HY0.out 1).1]; rfl
  have yz1 : W0.frozen? ⟨X + 1, 1, none⟩ = false := (row_cell HY0.out 1).2
  have x2 : W0.cell? ⟨X, 2, none⟩ = some (.int .i64 l) := by rw [(row_cell HX0.out 2).1]; rfl
  have xz2 : W0.frozen? ⟨X, 2, none⟩ = false := (row_cell HX0.out 2).2
  have y2 : W0.cell? ⟨X + 1, 2, none⟩ = some (.int .i64 0) := by rw [(row_cell HY0.out 2).1]; rfl
  have yz2 : W0.frozen? ⟨X + 1, 2, none⟩ = false := (row_cell HY0.out 2).2
  have x3 : W0.cell? ⟨X, 3, none⟩ = some (.int .i64 f) := by rw [(row_cell HX0.out 3).1]; rfl
  have xz3 : W0.frozen? ⟨X, 3, none⟩ = false := (row_cell HX0.out 3).2
  have y3 : W0.cell? ⟨X + 1, 3, none⟩ = some (.int .i64 0) := by rw [(row_cell HY0.out 3).1]; rfl
  have yz3 : W0.frozen? ⟨X + 1, 3, none⟩ = false := (row_cell HY0.out 3).2
  have n1 : (m != 1) = true := by simpa using h1
  have n2 : (m != 2) = true := by simpa using h2
  clear h1 h2
  go_enter Try.func22, Try.ntmps22
  go_wp2_with fail
  refine bodyPost_ret (results_cell_tmp rfl _ _ (X + 1) _ _ rfl (set_four HY0.out _ _ _ _) Try.underlying30 rfl (by kernel_rfl)) rfl ?_
  exact ⟨rfl, ((((B0.out).setCell (by exact Nat.le_succ _) _).setCell (by exact Nat.le_succ _) _).setCell (by exact Nat.le_succ _) _).setCell (by exact Nat.le_succ _) _⟩
theorem rrun_any (s : LS) (f : Int) (w : World) : Calls Try.prog 22 #[RA s f] w fun e w' => e = .returned (.tuple #[RA (runS s) f, .int .i64 (runE s)]) ∧ Below w.heap.size w w' := by
  obtain ⟨m, l, st⟩ := s
  by_cases h : m = 1 ∨ m = 2
  · have e1 : runS ⟨m, l, st⟩ = ⟨3, l, st⟩ := if_pos h
    have e2 : runE ⟨m, l, st⟩ = 0 := if_pos h
    rw [e1, e2]
    exact rrun_go st l f m h w
  · have e1 : runS ⟨m, l, st⟩ = ⟨m, l, st⟩ := if_neg h
    have e2 : runE ⟨m, l, st⟩ = 19 := if_neg h
    rw [e1, e2]
    exact rrun_no st l f m (fun e => h (.inl e)) (fun e => h (.inr e)) w
set_option maxRecDepth 100000 in
set_option maxHeartbeats 4000000 in
theorem rdo_bad (m st l f a : Int) (h : ¬ actI a) (w : World) : Calls Try.prog 23 #[.agg #[.int .i64 m, .int .i64 st, .int .i64 l, .int .i64 f], .int .i64 a] w fun e w' => e = .returned (.tuple #[.agg #[.int .i64 m, .int .i64 st, .int .i64 l, .int .i64 f], .bool false, .int .i64 1]) ∧ Below w.heap.size w w' := by
  obtain ⟨X, hX⟩ : ∃ X, w.heap.size = X := ⟨_, rfl⟩
  obtain ⟨W0, hW0⟩ : ∃ W0, (w.alloc (.cells #[.int .i64 m, .int .i64 st, .int .i64 l, .int .i64 f] 30)).alloc (.cells #[.int .i64 0, .int .i64 0, .int .i64 0, .int .i64 0] 30) = W0 := ⟨_, rfl⟩
  have B0 : Hid (Below X w W0) := by rw [← hW0, ← hX]; exact (((Below.refl _ _).alloc (Nat.le_refl _) _).alloc (by simp) _)
  have HX0 : Hid (W0.heap[X]? = some (.cells #[.int .i64 m, .int .i64 st, .int .i64 l, .int .i64 f] 30 (0, 0))) := by
    rw [← hW0, ← hX]; exact (((Below.refl _ _).alloc (Nat.le_refl _) _).block _ (by simp)).trans (heap_alloc_new _ _)
  have HY0 : Hid (W0.heap[X + 1]? = some (.cells #[.int .i64 0, .int .i64 0, .int .i64 0, .int .i64 0] 30 (0, 0))) := by
    rw [← hW0, ← hX]; have := heap_alloc_new (w.alloc (.cells #[.int .i64 m, .int .i64 st, .int .i64 l, .int .i64 f] 30)) (.cells #[.int .i64 0, .int .i64 0, .int .i64 0, .int .i64 0] 30); unfold Hid; simpa using this
  rw [hX]
  have x0 : W0.cell? ⟨X, 0, none⟩ = some (.int .i64 m) := by rw [(row_cell HX0.out 0).1]; rfl
  have xz0 : W0.frozen? ⟨X, 0, none⟩ = false := (row_cell HX0.out 0).2
  have y0 : W0.cell? ⟨X + 1, 0, none⟩ = some (.int .i64 0) := by rw [(row_cell HY0.out 0).1]; rfl
  have yz0 : W0.frozen? ⟨X + 1, 0, none⟩ = false := (row_cell HY0.out 0).2
  have x1 : W0.cell? ⟨X, 1, none⟩ = some (.int .i64 st) := by rw [(row_cell HX0.out 1).1]; rfl
  have xz1 : W0.frozen? ⟨X, 1, none⟩ = false := (row_cell HX0.out 1).2
  have y1 : W0.cell? ⟨X + 1, 1, none⟩ = some (.int .i64 0) := by rw [(row_cell HY0.out 1).1]; rfl
  have yz1 : W0.frozen? ⟨X + 1, 1, none⟩ = false := (row_cell HY0.out 1).2
  have x2 : W0.cell? ⟨X, 2, none⟩ = some (.int .i64 l) := by rw [(row_cell HX0.out 2).1]; rfl
  have xz2 : W0.frozen? ⟨X, 2, none⟩ = false := (row_cell HX0.out 2).2
  have y2 : W0.cell? ⟨X + 1, 2, none⟩ = some (.int .i64 0) := by rw [(row_cell HY0.out 2).1]; rfl
  have yz2 : W0.frozen? ⟨X + 1, 2, none⟩ = false := (row_cell HY0.out 2).2
  have x3 : W0.cell? ⟨X, 3, none⟩ = some (.int .i64 f) := by rw [(row_cell HX0.out 3).1]; rfl
  have xz3 : W0.frozen? ⟨X, 3, none⟩ = false := (row_cell HX0.out 3).2
  have y3 : W0.cell? ⟨X + 1, 3, none⟩ = some (.int .i64 0) := by rw [(row_cell HY0.out 3).1]; rfl
  have yz3 : W0.frozen? ⟨X + 1, 3, none⟩ = false := (row_cell HY0.out 3).2
  by_cases h1 : a < 4
  · have g1 : decide (a < 4) = true := by simpa using h1
    clear h
    go_enter Try.func23, Try.ntmps23
    go_wp2_with fail
    refine bodyPost_ret (results_cell_two rfl _ _ (X + 1) _ _ rfl (set_four HY0.out _ _ _ _) Try.underlying30 rfl (by kernel_rfl)) rfl ?_
    exact ⟨rfl, ((((B0.out).setCell (by exact Nat.le_succ _) _).setCell (by exact Nat.le_succ _) _).setCell (by exact Nat.le_succ _) _).setCell (by exact Nat.le_succ _) _⟩
  · have g1 : decide (a < 4) = false := by simpa using h1
    have h2 : 6 < a := by unfold actI at h; omega
    have g2 : decide (6 < a) = true := by simpa using h2
    clear h
    go_enter Try.func23, Try.ntmps23
    go_wp2_with fail
    refine bodyPost_ret (results_cell_two rfl _ _ (X + 1) _ _ rfl (set_four HY0.out _ _ _ _) Try.underlying30 rfl (by kernel_rfl)) rfl ?_
    exact ⟨rfl, ((((B0.out).setCell (by exact Nat.le_succ _) _).setCell (by exact Nat.le_succ _) _).setCell (by exact Nat.le_succ _) _).setCell (by exact Nat.le_succ _) _⟩
set_option maxRecDepth 100000 in
set_option maxHeartbeats 4000000 in
theorem rdo_idle (m st l f a : Int) (h : actI a) (h0 : m = 0) (w : World) : Calls Try.prog 23 #[.agg #[.int .i64 m, .int .i64 st, .int .i64 l, .int .i64 f], .int .i64 a] w fun e w' => e = .returned (.tuple #[.agg #[.int .i64 m, .int .i64 st, .int .i64 l, .int .i64 f], .bool false, .int .i64 19]) ∧ Below w.heap.size w w' := by
  obtain ⟨X, hX⟩ : ∃ X, w.heap.size = X := ⟨_, rfl⟩
  obtain ⟨W0, hW0⟩ : ∃ W0, (w.alloc (.cells #[.int .i64 m, .int .i64 st, .int .i64 l, .int .i64 f] 30)).alloc (.cells #[.int .i64 0, .int .i64 0, .int .i64 0, .int .i64 0] 30) = W0 := ⟨_, rfl⟩
  have B0 : Hid (Below X w W0) := by rw [← hW0, ← hX]; exact (((Below.refl _ _).alloc (Nat.le_refl _) _).alloc (by simp) _)
  have HX0 : Hid (W0.heap[X]? = some (.cells #[.int .i64 m, .int .i64 st, .int .i64 l, .int .i64 f] 30 (0, 0))) := by
    rw [← hW0, ← hX]; exact (((Below.refl _ _).alloc (Nat.le_refl _) _).block _ (by simp)).trans (heap_alloc_new _ _)
  have HY0 : Hid (W0.heap[X + 1]? = some (.cells #[.int .i64 0, .int .i64 0, .int .i64 0, .int .i64 0] 30 (0, 0))) := by
    rw [← hW0, ← hX]; have := heap_alloc_new (w.alloc (.cells #[.int .i64 m, .int .i64 st, .int .i64 l, .int .i64 f] 30)) (.cells #[.int .i64 0, .int .i64 0, .int .i64 0, .int .i64 0] 30); unfold Hid; simpa using this
  rw [hX]
  have x0 : W0.cell? ⟨X, 0, none⟩ = some (.int .i64 m) := by rw [(row_cell HX0.out 0).1]; rfl
  have xz0 : W0.frozen? ⟨X, 0, none⟩ = false := (row_cell HX0.out 0).2
  have y0 : W0.cell? ⟨X + 1, 0, none⟩ = some (.int .i64 0) := by rw [(row_cell HY0.out 0).1]; rfl
  have yz0 : W0.frozen? ⟨X + 1, 0, none⟩ = false := (row_cell HY0.out 0).2
  have x1 : W0.cell? ⟨X, 1, none⟩ = some (.int .i64 st) := by rw [(row_cell HX0.out 1).1]; rfl
  have xz1 : W0.frozen? ⟨X, 1, none⟩ = false := (row_cell HX0.out 1).2
  have y1 : W0.cell? ⟨X + 1, 1, none⟩ = some (.int .i64 0) := by rw [(row_cell HY0.out 1).1]; rfl
  have yz1 : W0.frozen? ⟨X + 1, 1, none⟩ = false := (row_cell HY0.out 1).2
  have x2 : W0.cell? ⟨X, 2, none⟩ = some (.int .i64 l) := by rw [(row_cell HX0.out 2).1]; rfl
  have xz2 : W0.frozen? ⟨X, 2, none⟩ = false := (row_cell HX0.out 2).2
  have y2 : W0.cell? ⟨X + 1, 2, none⟩ = some (.int .i64 0) := by rw [(row_cell HY0.out 2).1]; rfl
  have yz2 : W0.frozen? ⟨X + 1, 2, none⟩ = false := (row_cell HY0.out 2).2
  have x3 : W0.cell? ⟨X, 3, none⟩ = some (.int .i64 f) := by rw [(row_cell HX0.out 3).1]; rfl
  have xz3 : W0.frozen? ⟨X, 3, none⟩ = false := (row_cell HX0.out 3).2
  have y3 : W0.cell? ⟨X + 1, 3, none⟩ = some (.int .i64 0) := by rw [(row_cell HY0.out 3).1]; rfl
  have yz3 : W0.frozen? ⟨X + 1, 3, none⟩ = false := (row_cell HY0.out 3).2
  subst h0
  rcases h with rfl | rfl | rfl
  · go_enter Try.func23, Try.ntmps23
    go_wp2_with fail
    refine bodyPost_ret (results_cell_two rfl _ _ (X + 1) _ _ rfl (set_four HY0.out _ _ _ _) Try.underlying30 rfl (by kernel_rfl)) rfl ?_
    exact ⟨rfl, ((((B0.out).setCell (by exact Nat.le_succ _) _).setCell (by exact Nat.le_succ _) _).setCell (by exact Nat.le_succ _) _).setCell (by exact Nat.le_succ _) _⟩
  · go_enter Try.func23, Try.ntmps23
    go_wp2_with fail
    refine bodyPost_ret (results_cell_two rfl _ _ (X + 1) _ _ rfl (set_four HY0.out _ _ _ _) Try.underlying30 rfl (by kernel_rfl)) rfl ?_
    exact ⟨rfl, ((((B0.out).setCell (by exact Nat.le_succ _) _).setCell (by exact Nat.le_succ _) _).setCell (by exact Nat.le_succ _) _).setCell (by exact Nat.le_succ _) _⟩
  · go_enter Try.func23, Try.ntmps23
    go_wp2_with fail
    refine bodyPost_ret (results_cell_two rfl _ _ (X + 1) _ _ rfl (set_four HY0.out _ _ _ _) Try.underlying30 rfl (by kernel_rfl)) rfl ?_
    exact ⟨rfl, ((((B0.out).setCell (by exact Nat.le_succ _) _).setCell (by exact Nat.le_succ _) _).setCell (by exact Nat.le_succ _) _).setCell (by exact Nat.le_succ _) _⟩
set_option maxRecDepth 100000 in
set_option maxHeartbeats 4000000 in
theorem rdo_halt (m st l f a : Int) (h : a = 6) (h0 : m ≠ 0) (w : World) : Calls Try.prog 23 #[.agg #[.int .i64 m, .int .i64 st, .int .i64 l, .int .i64 f], .int .i64 a] w fun e w' => e = .returned (.tuple #[.agg #[.int .i64 0, .int .i64 st, .int .i64 l, .int .i64 f], .bool false, .int .i64 0]) ∧ Below w.heap.size w w' := by
  obtain ⟨X, hX⟩ : ∃ X, w.heap.size = X := ⟨_, rfl⟩
  obtain ⟨W0, hW0⟩ : ∃ W0, (w.alloc (.cells #[.int .i64 m, .int .i64 st, .int .i64 l, .int .i64 f] 30)).alloc (.cells #[.int .i64 0, .int .i64 0, .int .i64 0, .int .i64 0] 30) = W0 := ⟨_, rfl⟩
  have B0 : Hid (Below X w W0) := by rw [← hW0, ← hX]; exact (((Below.refl _ _).alloc (Nat.le_refl _) _).alloc (by simp) _)
  have HX0 : Hid (W0.heap[X]? = some (.cells #[.int .i64 m, .int .i64 st, .int .i64 l, .int .i64 f] 30 (0, 0))) := by
    rw [← hW0, ← hX]; exact (((Below.refl _ _).alloc (Nat.le_refl _) _).block _ (by simp)).trans (heap_alloc_new _ _)
  have HY0 : Hid (W0.heap[X + 1]? = some (.cells #[.int .i64 0, .int .i64 0, .int .i64 0, .int .i64 0] 30 (0, 0))) := by
    rw [← hW0, ← hX]; have := heap_alloc_new (w.alloc (.cells #[.int .i64 m, .int .i64 st, .int .i64 l, .int .i64 f] 30)) (.cells #[.int .i64 0, .int .i64 0, .int .i64 0, .int .i64 0] 30); unfold Hid; simpa using this
  rw [hX]
  have x0 : W0.cell? ⟨X, 0, none⟩ = some (.int .i64 m) := by rw [(row_cell HX0.out 0).1]; rfl
  have xz0 : W0.frozen? ⟨X, 0, none⟩ = false := (row_cell HX0.out 0).2
  have y0 : W0.cell? ⟨X + 1, 0, none⟩ = some (.int .i64 0) := by rw [(row_cell HY0.out 0).1]; rfl
  have yz0 : W0.frozen? ⟨X + 1, 0, none⟩ = false := (row_cell HY0.out 0).2
  have x1 : W0.cell? ⟨X, 1, none⟩ = some (.int .i64 st) := by rw [(row_cell HX0.out 1).1]; rfl
  have xz1 : W0.frozen? ⟨X, 1, none⟩ = false := (row_cell HX0.out 1).2
  have y1 : W0.cell? ⟨X + 1, 1, none⟩ = some (.int .i64 0) := by rw [(row_cell HY0.out 1).1]; rfl
  have yz1 : W0.frozen? ⟨X + 1, 1, none⟩ = false := (row_cell HY0.out 1).2
  have x2 : W0.cell? ⟨X, 2, none⟩ = some (.int .i64 l) := by rw [(row_cell HX0.out 2).1]; rfl
  have xz2 : W0.frozen? ⟨X, 2, none⟩ = false := (row_cell HX0.out 2).2
  have y2 : W0.cell? ⟨X + 1, 2, none⟩ = some (.int .i64 0) := by rw [(row_cell HY0.out 2).1]; rfl
  have yz2 : W0.frozen? ⟨X + 1, 2, none⟩ = false := (row_cell HY0.out 2).2
  have x3 : W0.cell? ⟨X, 3, none⟩ = some (.int .i64 f) := by rw [(row_cell HX0.out 3).1]; rfl
  have xz3 : W0.frozen? ⟨X, 3, none⟩ = false := (row_cell HX0.out 3).2
  have y3 : W0.cell? ⟨X + 1, 3, none⟩ = some (.int .i64 0) := by rw [(row_cell HY0.out 3).1]; rfl
  have yz3 : W0.frozen? ⟨X + 1, 3, none⟩ = false := (row_cell HY0.out 3).2
  subst h
  have g0 : (m == 0) = false := by simpa using h0
  obtain ⟨W3, hW3⟩ : ∃ W3, (W0.setCell ⟨X, 0, none⟩ (Value.int IntKind.i64 (0))) = W3 := ⟨_, rfl⟩
  have X3 : Hid (W3.heap[X]? = some (.cells #[.int .i64 0, .int .i64 st, .int .i64 l, .int .i64 f] 30 (0, 0))) := by rw [← hW3]; exact set_at (HX0.out) 0 _
  have Y3 : Hid (W3.heap[X + 1]? = some (.cells #[.int .i64 0, .int .i64 0, .int .i64 0, .int .i64 0] 30 (0, 0))) := by rw [← hW3]; exact (set_far 0 _ (by omega)).trans (HY0.out)
  have B3 : Hid (Below X w W3) := by rw [← hW3]; exact (B0.out).setCell (Nat.le_refl _) _
  have r0 : W3.cell? ⟨X, 0, none⟩ = some (.int .i64 (0)) := by rw [(row_cell X3.out 0).1]; rfl
  have s0 : W3.cell? ⟨X + 1, 0, none⟩ = some (.int .i64 0) := by rw [(row_cell Y3.out 0).1]; rfl
  have sz0 : W3.frozen? ⟨X + 1, 0, none⟩ = false := (row_cell Y3.out 0).2
  have r1 : W3.cell? ⟨X, 1, none⟩ = some (.int .i64 (st)) := by rw [(row_cell X3.out 1).1]; rfl
  have s1 : W3.cell? ⟨X + 1, 1, none⟩ = some (.int .i64 0) := by rw [(row_cell Y3.out 1).1]; rfl
  have sz1 : W3.frozen? ⟨X + 1, 1, none⟩ = false := (row_cell Y3.out 1).2
  have r2 : W3.cell? ⟨X, 2, none⟩ = some (.int .i64 (l)) := by rw [(row_cell X3.out 2).1]; rfl
  have s2 : W3.cell? ⟨X + 1, 2, none⟩ = some (.int .i64 0) := by rw [(row_cell Y3.out 2).1]; rfl
  have sz2 : W3.frozen? ⟨X + 1, 2, none⟩ = false := (row_cell Y3.out 2).2
  have r3 : W3.cell? ⟨X, 3, none⟩ = some (.int .i64 (f)) := by rw [(row_cell X3.out 3).1]; rfl
  have s3 : W3.cell? ⟨X + 1, 3, none⟩ = some (.int .i64 0) := by rw [(row_cell Y3.out 3).1]; rfl
  have sz3 : W3.frozen? ⟨X + 1, 3, none⟩ = false := (row_cell Y3.out 3).2
  clear h0
  go_enter Try.func23, Try.ntmps23
  go_wp2_with fail
  refine bodyPost_ret (results_cell_two rfl _ _ (X + 1) _ _ rfl (set_four Y3.out _ _ _ _) Try.underlying30 rfl (by kernel_rfl)) rfl ?_
  exact ⟨rfl, ((((B3.out).setCell (by exact Nat.le_succ _) _).setCell (by exact Nat.le_succ _) _).setCell (by exact Nat.le_succ _) _).setCell (by exact Nat.le_succ _) _⟩
set_option maxRecDepth 100000 in
set_option maxHeartbeats 4000000 in
theorem rdo_full (m st l f a : Int) (h : a = 4 ∨ a = 5) (h0 : m ≠ 0) (hl : l = 0) (w : World) : Calls Try.prog 23 #[.agg #[.int .i64 m, .int .i64 st, .int .i64 l, .int .i64 f], .int .i64 a] w fun e w' => e = .returned (.tuple #[.agg #[.int .i64 0, .int .i64 st, .int .i64 l, .int .i64 f], .bool false, .int .i64 8]) ∧ Below w.heap.size w w' := by
  obtain ⟨X, hX⟩ : ∃ X, w.heap.size = X := ⟨_, rfl⟩
  obtain ⟨W0, hW0⟩ : ∃ W0, (w.alloc (.cells #[.int .i64 m, .int .i64 st, .int .i64 l, .int .i64 f] 30)).alloc (.cells #[.int .i64 0, .int .i64 0, .int .i64 0, .int .i64 0] 30) = W0 := ⟨_, rfl⟩
  have B0 : Hid (Below X w W0) := by rw [← hW0, ← hX]; exact (((Below.refl _ _).alloc (Nat.le_refl _) _).alloc (by simp) _)
  have HX0 : Hid (W0.heap[X]? = some (.cells #[.int .i64 m, .int .i64 st, .int .i64 l, .int .i64 f] 30 (0, 0))) := by
    rw [← hW0, ← hX]; exact (((Below.refl _ _).alloc (Nat.le_refl _) _).block _ (by simp)).trans (heap_alloc_new _ _)
  have HY0 : Hid (W0.heap[X + 1]? = some (.cells #[.int .i64 0, .int .i64 0, .int .i64 0, .int .i64 0] 30 (0, 0))) := by
    rw [← hW0, ← hX]; have := heap_alloc_new (w.alloc (.cells #[.int .i64 m, .int .i64 st, .int .i64 l, .int .i64 f] 30)) (.cells #[.int .i64 0, .int .i64 0, .int .i64 0, .int .i64 0] 30); unfold Hid; simpa using this
  rw [hX]
  have x0 : W0.cell? ⟨X, 0, none⟩ = some (.int .i64 m) := by rw [(row_cell HX0.out 0).1]; rfl
  have xz0 : W0.frozen? ⟨X, 0, none⟩ = false := (row_cell HX0.out 0).2
  have y0 : W0.cell? ⟨X + 1, 0, none⟩ = some (.int .i64 0) := by rw [(row_cell HY0.out 0).1]; rfl
  have yz0 : W0.frozen? ⟨X + 1, 0, none⟩ = false := (row_cell HY0.out 0).2
  have x1 : W0.cell? ⟨X, 1, none⟩ = some (.int .i64 st) := by rw [(row_cell HX0.out 1).1]; rfl
  have xz1 : W0.frozen? ⟨X, 1, none⟩ = false := (row_cell HX0.out 1).2
  have y1 : W0.cell? ⟨X + 1, 1, none⟩ = some (.int .i64 0) := by rw [(row_cell HY0.out 1).1]; rfl
  have yz1 : W0.frozen? ⟨X + 1, 1, none⟩ = false := (row_cell HY0.out 1).2
  have x2 : W0.cell? ⟨X, 2, none⟩ = some (.int .i64 l) := by rw [(row_cell HX0.out 2).1]; rfl
  have xz2 : W0.frozen? ⟨X, 2, none⟩ = false := (row_cell HX0.out 2).2
  have y2 : W0.cell? ⟨X + 1, 2, none⟩ = some (.int .i64 0) := by rw [(row_cell HY0.out 2).1]; rfl
  have yz2 : W0.frozen? ⟨X + 1, 2, none⟩ = false := (row_cell HY0.out 2).2
  have x3 : W0.cell? ⟨X, 3, none⟩ = some (.int .i64 f) := by rw [(row_cell HX0.out 3).1]; rfl
  have xz3 : W0.frozen? ⟨X, 3, none⟩ = false := (row_cell HX0.out 3).2
  have y3 : W0.cell? ⟨X + 1, 3, none⟩ = some (.int .i64 0) := by rw [(row_cell HY0.out 3).1]; rfl
  have yz3 : W0.frozen? ⟨X + 1, 3, none⟩ = false := (row_cell HY0.out 3).2
  have g0 : (m == 0) = false := by simpa using h0
  subst hl
  obtain ⟨W3, hW3⟩ : ∃ W3, (W0.setCell ⟨X, 0, none⟩ (Value.int IntKind.i64 (0))) = W3 := ⟨_, rfl⟩
  have X3 : Hid (W3.heap[X]? = some (.cells #[.int .i64 0, .int .i64 st, .int .i64 0, .int .i64 f] 30 (0, 0))) := by rw [← hW3]; exact set_at (HX0.out) 0 _
  have Y3 : Hid (W3.heap[X + 1]? = some (.cells #[.int .i64 0, .int .i64 0, .int .i64 0, .int .i64 0] 30 (0, 0))) := by rw [← hW3]; exact (set_far 0 _ (by omega)).trans (HY0.out)
  have B3 : Hid (Below X w W3) := by rw [← hW3]; exact (B0.out).setCell (Nat.le_refl _) _
  have r0 : W3.cell? ⟨X, 0, none⟩ = some (.int .i64 (0)) := by rw [(row_cell X3.out 0).1]; rfl
  have s0 : W3.cell? ⟨X + 1, 0, none⟩ = some (.int .i64 0) := by rw [(row_cell Y3.out 0).1]; rfl
  have sz0 : W3.frozen? ⟨X + 1, 0, none⟩ = false := (row_cell Y3.out 0).2
  have r1 : W3.cell? ⟨X, 1, none⟩ = some (.int .i64 (st)) := by rw [(row_cell X3.out 1).1]; rfl
  have s1 : W3.cell? ⟨X + 1, 1, none⟩ = some (.int .i64 0) := by rw [(row_cell Y3.out 1).1]; rfl
  have sz1 : W3.frozen? ⟨X + 1, 1, none⟩ = false := (row_cell Y3.out 1).2
  have r2 : W3.cell? ⟨X, 2, none⟩ = some (.int .i64 (0)) := by rw [(row_cell X3.out 2).1]; rfl
  have s2 : W3.cell? ⟨X + 1, 2, none⟩ = some (.int .i64 0) := by rw [(row_cell Y3.out 2).1]; rfl
  have sz2 : W3.frozen? ⟨X + 1, 2, none⟩ = false := (row_cell Y3.out 2).2
  have r3 : W3.cell? ⟨X, 3, none⟩ = some (.int .i64 (f)) := by rw [(row_cell X3.out 3).1]; rfl
  have s3 : W3.cell? ⟨X + 1, 3, none⟩ = some (.int .i64 0) := by rw [(row_cell Y3.out 3).1]; rfl
  have sz3 : W3.frozen? ⟨X + 1, 3, none⟩ = false := (row_cell Y3.out 3).2
  clear h0
  rcases h with rfl | rfl
  · go_enter Try.func23, Try.ntmps23
    go_wp2_with fail
    refine bodyPost_ret (results_cell_two rfl _ _ (X + 1) _ _ rfl (set_four Y3.out _ _ _ _) Try.underlying30 rfl (by kernel_rfl)) rfl ?_
    exact ⟨rfl, ((((B3.out).setCell (by exact Nat.le_succ _) _).setCell (by exact Nat.le_succ _) _).setCell (by exact Nat.le_succ _) _).setCell (by exact Nat.le_succ _) _⟩
  · go_enter Try.func23, Try.ntmps23
    go_wp2_with fail
    refine bodyPost_ret (results_cell_two rfl _ _ (X + 1) _ _ rfl (set_four Y3.out _ _ _ _) Try.underlying30 rfl (by kernel_rfl)) rfl ?_
    exact ⟨rfl, ((((B3.out).setCell (by exact Nat.le_succ _) _).setCell (by exact Nat.le_succ _) _).setCell (by exact Nat.le_succ _) _).setCell (by exact Nat.le_succ _) _⟩
set_option maxRecDepth 100000 in
set_option maxHeartbeats 4000000 in
theorem rdo_go (m st l f a : Int) (h : a = 4 ∨ a = 5) (h0 : m ≠ 0) (hl : l ≠ 0) (hl0 : 0 ≤ l ∧ l ≤ 1000) (hs : 0 ≤ st ∧ st ≤ 1000) (w : World) : Calls Try.prog 23 #[.agg #[.int .i64 m, .int .i64 st, .int .i64 l, .int .i64 f], .int .i64 a] w fun e w' => e = .returned (.tuple #[.agg #[.int .i64 (if a = 5 ∨ m = 1 then 1 else 2), .int .i64 (st + 1), .int .i64 (l - 1), .int .i64 f], .bool true, .int .i64 0]) ∧ Below w.heap.size w w' := by
  obtain ⟨X, hX⟩ : ∃ X, w.heap.size = X := ⟨_, rfl⟩
  obtain ⟨W0, hW0⟩ : ∃ W0, (w.alloc (.cells #[.int .i64 m, .int .i64 st, .int .i64 l, .int .i64 f] 30)).alloc (.cells #[.int .i64 0, .int .i64 0, .int .i64 0, .int .i64 0] 30) = W0 := ⟨_, rfl⟩
  have B0 : Hid (Below X w W0) := by rw [← hW0, ← hX]; exact (((Below.refl _ _).alloc (Nat.le_refl _) _).alloc (by simp) _)
  have HX0 : Hid (W0.heap[X]? = some (.cells #[.int .i64 m, .int .i64 st, .int .i64 l, .int .i64 f] 30 (0, 0))) := by
    rw [← hW0, ← hX]; exact (((Below.refl _ _).alloc (Nat.le_refl _) _).block _ (by simp)).trans (heap_alloc_new _ _)
  have HY0 : Hid (W0.heap[X + 1]? = some (.cells #[.int .i64 0, .int .i64 0, .int .i64 0, .int .i64 0] 30 (0, 0))) := by
    rw [← hW0, ← hX]; have := heap_alloc_new (w.alloc (.cells #[.int .i64 m, .int .i64 st, .int .i64 l, .int .i64 f] 30)) (.cells #[.int .i64 0, .int .i64 0, .int .i64 0, .int .i64 0] 30); unfold Hid; simpa using this
  rw [hX]
  have x0 : W0.cell? ⟨X, 0, none⟩ = some (.int .i64 m) := by rw [(row_cell HX0.out 0).1]; rfl
  have xz0 : W0.frozen? ⟨X, 0, none⟩ = false := (row_cell HX0.out 0).2
  have y0 : W0.cell? ⟨X + 1, 0, none⟩ = some (.int .i64 0) := by rw [(row_cell HY0.out 0).1]; rfl
  have yz0 : W0.frozen? ⟨X + 1, 0, none⟩ = false := (row_cell HY0.out 0).2
  have x1 : W0.cell? ⟨X, 1, none⟩ = some (.int .i64 st) := by rw [(row_cell HX0.out 1).1]; rfl
  have xz1 : W0.frozen? ⟨X, 1, none⟩ = false := (row_cell HX0.out 1).2
  have y1 : W0.cell? ⟨X + 1, 1, none⟩ = some (.int .i64 0) := by rw [(row_cell HY0.out 1).1]; rfl
  have yz1 : W0.frozen? ⟨X + 1, 1, none⟩ = false := (row_cell HY0.out 1).2
  have x2 : W0.cell? ⟨X, 2, none⟩ = some (.int .i64 l) := by rw [(row_cell HX0.out 2).1]; rfl
  have xz2 : W0.frozen? ⟨X, 2, none⟩ = false := (row_cell HX0.out 2).2
  have y2 : W0.cell? ⟨X + 1, 2, none⟩ = some (.int .i64 0) := by rw [(row_cell HY0.out 2).1]; rfl
  have yz2 : W0.frozen? ⟨X + 1, 2, none⟩ = false := (row_cell HY0.out 2).2
  have x3 : W0.cell? ⟨X, 3, none⟩ = some (.int .i64 f) := by rw [(row_cell HX0.out 3).1]; rfl
  have xz3 : W0.frozen? ⟨X, 3, none⟩ = false := (row_cell HX0.out 3).2
  have y3 : W0.cell? ⟨X + 1, 3, none⟩ = some (.int .i64 0) := by rw [(row_cell HY0.out 3).1]; rfl
  have yz3 : W0.frozen? ⟨X + 1, 3, none⟩ = false := (row_cell HY0.out 3).2
  have g0 : (m == 0) = false := by simpa using h0
  have gl : (l == 0) = false := by simpa using hl
  have w1 : IntKind.i64.wrap (l - 1) = l - 1 := by rw [IntKind.wrap_i64]; omega
  have w2 : IntKind.i64.wrap (st + 1) = st + 1 := by rw [IntKind.wrap_i64]; omega
  obtain ⟨mm, hmm⟩ : ∃ mm : Int, (if a = 5 ∨ m = 1 then 1 else 2) = mm := ⟨_, rfl⟩
  rw [hmm]
  obtain ⟨W3, hW3⟩ : ∃ W3, (((W0.setCell ⟨X, 2, none⟩ (Value.int IntKind.i64 (l - 1))).setCell ⟨X, 1, none⟩ (Value.int IntKind.i64 (st + 1))).setCell ⟨X, 0, none⟩ (Value.int IntKind.i64 (mm))) = W3 := ⟨_, rfl⟩
  have X3 : Hid (W3.heap[X]? = some (.cells #[.int .i64 mm, .int .i64 (st + 1), .int .i64 (l - 1), .int .i64 f] 30 (0, 0))) := by rw [← hW3]; exact set_at (set_at (set_at (HX0.out) 2 _) 1 _) 0 _
  have Y3 : Hid (W3.heap[X + 1]? = some (.cells #[.int .i64 0, .int .i64 0, .int .i64 0, .int .i64 0] 30 (0, 0))) := by rw [← hW3]; exact (set_far 0 _ (by omega)).trans ((set_far 1 _ (by omega)).trans ((set_far 2 _ (by omega)).trans (HY0.out)))
  have B3 : Hid (Below X w W3) := by rw [← hW3]; exact (((B0.out).setCell (Nat.le_refl _) _).setCell (Nat.le_refl _) _).setCell (Nat.le_refl _) _
  have r0 : W3.cell? ⟨X, 0, none⟩ = some (.int .i64 (mm)) := by rw [(row_cell X3.out 0).1]; rfl
  have s0 : W3.cell? ⟨X + 1, 0, none⟩ = some (.int .i64 0) := by rw [(row_cell Y3.out 0).1]; rfl
  have sz0 : W3.frozen? ⟨X + 1, 0, none⟩ = false := (row_cell Y3.out 0).2
  have r1 : W3.cell? ⟨X, 1, none⟩ = some (.int .i64 ((st + 1))) := by rw [(row_cell X3.out 1).1]; rfl
  have s1 : W3.cell? ⟨X + 1, 1, none⟩ = some (.int .i64 0) := by rw [(row_cell Y3.out 1).1]; rfl
  have sz1 : W3.frozen? ⟨X + 1, 1, none⟩ = false := (row_cell Y3.out 1).2
  have r2 : W3.cell? ⟨X, 2, none⟩ = some (.int .i64 ((l - 1))) := by rw [(row_cell X3.out 2).1]; rfl
  have s2 : W3.cell? ⟨X + 1, 2, none⟩ = some (.int .i64 0) := by rw [(row_cell Y3.out 2).1]; rfl
  have sz2 : W3.frozen? ⟨X + 1, 2, none⟩ = false := (row_cell Y3.out 2).2
  have r3 : W3.cell? ⟨X, 3, none⟩ = some (.int .i64 (f)) := by rw [(row_cell X3.out 3).1]; rfl
  have s3 : W3.cell? ⟨X + 1, 3, none⟩ = some (.int .i64 0) := by rw [(row_cell Y3.out 3).1]; rfl
  have sz3 : W3.frozen? ⟨X + 1, 3, none⟩ = false := (row_cell Y3.out 3).2
  clear h0 hl
  rcases h with rfl | rfl
  · by_cases h1 : m = 1
    · subst h1
      rw [if_pos (.inr rfl)] at hmm
      subst hmm
      go_enter Try.func23, Try.ntmps23
      go_wp2_with fail
      refine bodyPost_ret (results_cell_two rfl _ _ (X + 1) _ _ rfl (set_four Y3.out _ _ _ _) Try.underlying30 rfl (by kernel_rfl)) rfl ?_
      exact ⟨rfl, ((((B3.out).setCell (by exact Nat.le_succ _) _).setCell (by exact Nat.le_succ _) _).setCell (by exact Nat.le_succ _) _).setCell (by exact Nat.le_succ _) _⟩
    · have n1 : (m != 1) = true := by simpa using h1
      rw [if_neg (by omega)] at hmm
      subst hmm
      go_enter Try.func23, Try.ntmps23
      go_wp2_with fail
      refine bodyPost_ret (results_cell_two rfl _ _ (X + 1) _ _ rfl (set_four Y3.out _ _ _ _) Try.underlying30 rfl (by kernel_rfl)) rfl ?_
      exact ⟨rfl, ((((B3.out).setCell (by exact Nat.le_succ _) _).setCell (by exact Nat.le_succ _) _).setCell (by exact Nat.le_succ _) _).setCell (by exact Nat.le_succ _) _⟩
  · rw [if_pos (.inl rfl)] at hmm
    subst hmm
    go_enter Try.func23, Try.ntmps23
    go_wp2_with fail
    refine bodyPost_ret (results_cell_two rfl _ _ (X + 1) _ _ rfl (set_four Y3.out _ _ _ _) Try.underlying30 rfl (by kernel_rfl)) rfl ?_
    exact ⟨rfl, ((((B3.out).setCell (by exact Nat.le_succ _) _).setCell (by exact Nat.le_succ _) _).setCell (by exact Nat.le_succ _) _).setCell (by exact Nat.le_succ _) _⟩
theorem rdo_any (s : LS) (f a : Int) (w : World) (h : s.ok) : Calls Try.prog 23 #[RA s f, .int .i64 a] w fun e w' => e = .returned (.tuple #[RA (doS s a) f, .bool (doA s a), .int .i64 (doE s a)]) ∧ Below w.heap.size w w' := by
  obtain ⟨m, l, st⟩ := s
  by_cases ha : actI a
  rotate_left
  · obtain ⟨e1, e2, e3⟩ := do_bad (s := ⟨m, l, st⟩) ha
    rw [e1, e2, e3]
    exact rdo_bad m st l f a ha w
  by_cases h0 : m = 0
  · obtain ⟨e1, e2, e3⟩ := do_idle (s := ⟨m, l, st⟩) ha h0
    rw [e1, e2, e3]
    exact rdo_idle m st l f a ha h0 w
  by_cases h6 : a = 6
  · subst h6
    obtain ⟨e1, e2, e3⟩ := do_halt (s := ⟨m, l, st⟩) h0
    rw [e1, e2, e3]
    exact rdo_halt m st l f 6 rfl h0 w
  have h45 : a = 4 ∨ a = 5 := by unfold actI at ha; omega
  by_cases hl : l = 0
  · obtain ⟨e1, e2, e3⟩ := do_full (s := ⟨m, l, st⟩) h45 h0 hl
    rw [e1, e2, e3]
    exact rdo_full m st l f a h45 h0 hl w
  obtain ⟨e1, e2, e3⟩ := do_go (s := ⟨m, l, st⟩) h45 h0 hl
  rw [e1, e2, e3]
  have h1 := h.l0
  have h2 := h.s0
  have h3 := h.ls
  simp only at h1 h2 h3
  exact rdo_go m st l f a h45 h0 hl ⟨h1, by omega⟩ ⟨h2, by omega⟩ w
end Go.Proofs.Ytiellkodjhfhhaa.Lf
