/-
  The reference's New, Reset, Same. Each statement bears its own conditions.
-/
import Derived.Test.YtehbcoopggpmjaaBgV
namespace Go.Proofs.Ytehbcoopggpmjaa.Bg
open Go.RowKit Go.Proofs.Ytehbcoopggpmjaa.F
set_option linter.unusedVariables false
set_option linter.unusedSimpArgs false
theorem results_cell_tmp {P : Program} {fn : Func} {p q : Tmp} {ty : TypeId} (h : fn.results = #[.cell p ty, .tmp q]) (tmps : Array Value) (w : World) (g : Nat) (cs : List Value) (d : TypeDesc)
    (hp : tmps.getD p undef = .pointer (some ⟨g, 0, none⟩)) (hc : w.rangeAt g 0 cs)
    (hu : P.underlying ty = some d) (hd : d.isRow = true) (hi : (P.info? ty).map (·.size) = some cs.length) :
    (results fn tmps).run P w = .ok (.tuple #[.agg cs.toArray, tmps.getD q undef]) w := by
  have hp' : tmps[p]?.getD undef = .pointer (some ⟨g, 0, none⟩) := by simpa using hp
  simp [results, h, hp', asAddr, run_loadVar_mid w g 0 ty cs d hc hu hd hi]
theorem results_cell_one {P : Program} {fn : Func} {p : Tmp} {ty : TypeId} (h : fn.results = #[.cell p ty]) (tmps : Array Value) (w : World) (g : Nat) (cs : List Value) (d : TypeDesc)
    (hp : tmps.getD p undef = .pointer (some ⟨g, 0, none⟩)) (hc : w.rangeAt g 0 cs)
    (hu : P.underlying ty = some d) (hd : d.isRow = true) (hi : (P.info? ty).map (·.size) = some cs.length) :
    (results fn tmps).run P w = .ok (.agg cs.toArray) w := by
  have hp' : tmps[p]?.getD undef = .pointer (some ⟨g, 0, none⟩) := by simpa using hp
  simp [results, h, hp', asAddr, run_loadVar_mid w g 0 ty cs d hc hu hd hi]
set_option maxRecDepth 100000 in
set_option maxHeartbeats 16000000 in
theorem rnew_ok (z p : Int) (w : World) (h : newI z p) : Calls Try.prog 10 #[.int .i64 z, .int .i64 p] w fun e w' => e = .returned (.tuple #[.agg #[.int .i64 z, .int .i64 p, .int .i64 0, .slice none 0 0], .int .i64 0]) ∧ Below w.heap.size w w' := by
  obtain ⟨h1, h2, h3⟩ := h
  have k0 : decide (p < 1) = false := by simp; omega
  have k1 : decide (1048576 < p) = false := by simp; omega
  have k2 : decide (z < 1) = false := by simp; omega
  have k3 : decide (p < z) = false := by simp; omega
  clear h1 h2 h3
  obtain ⟨X, hX⟩ : ∃ X, w.heap.size = X := ⟨_, rfl⟩
  obtain ⟨W0, hW0⟩ : ∃ W, w.alloc (.cells #[.int .i64 0, .int .i64 0, .int .i64 0, .slice none 0 0] 29) = W := ⟨_, rfl⟩
  have B0 : Hid (Below X w W0) := by rw [← hW0, ← hX]; exact (Below.refl _ _).alloc (Nat.le_refl _) _
  have HX0 : Hid (W0.heap[X]? = some (.cells #[.int .i64 0, .int .i64 0, .int .i64 0, .slice none 0 0] 29 (0, 0))) := by rw [← hW0, ← hX]; exact heap_alloc_new _ _
  have x0 : W0.cell? ⟨X, 0, none⟩ = some (.int .i64 0) := by rw [(row_cell HX0.out 0).1]; rfl
  have xz0 : W0.frozen? ⟨X, 0, none⟩ = false := (row_cell HX0.out 0).2
  have x1 : W0.cell? ⟨X, 1, none⟩ = some (.int .i64 0) := by rw [(row_cell HX0.out 1).1]; rfl
  have xz1 : W0.frozen? ⟨X, 1, none⟩ = false := (row_cell HX0.out 1).2
  have x2 : W0.cell? ⟨X, 2, none⟩ = some (.int .i64 0) := by rw [(row_cell HX0.out 2).1]; rfl
  have xz2 : W0.frozen? ⟨X, 2, none⟩ = false := (row_cell HX0.out 2).2
  have x3 : W0.cell? ⟨X, 3, none⟩ = some (.slice none 0 0) := by rw [(row_cell HX0.out 3).1]; rfl
  have xz3 : W0.frozen? ⟨X, 3, none⟩ = false := (row_cell HX0.out 3).2
  simp only [hX]
  go_enter Try.func10, Try.ntmps10
  go_wp2_with fail
  refine bodyPost_ret (results_cell_tmp rfl _ _ X _ _ rfl (set_four HX0.out _ _ _ _) Try.underlying29 rfl (by kernel_rfl)) rfl ?_
  exact ⟨rfl, (((B0.out.setCell (Nat.le_refl _) _).setCell (Nat.le_refl _) _).setCell (Nat.le_refl _) _).setCell (Nat.le_refl _) _⟩
theorem rnew_bad (z p : Int) (w : World) (h : ¬ newI z p) : Calls Try.prog 10 #[.int .i64 z, .int .i64 p] w fun e w' => e = .returned (.tuple #[.agg #[.int .i64 0, .int .i64 0, .int .i64 0, .slice none 0 0], .int .i64 2]) ∧ Below w.heap.size w w' := by
  obtain ⟨X, hX⟩ : ∃ X, w.heap.size = X := ⟨_, rfl⟩
  obtain ⟨W0, hW0⟩ : ∃ W, w.alloc (.cells #[.int .i64 0, .int .i64 0, .int .i64 0, .slice none 0 0] 29) = W := ⟨_, rfl⟩
  have B0 : Hid (Below X w W0) := by rw [← hW0, ← hX]; exact (Below.refl _ _).alloc (Nat.le_refl _) _
  have HX0 : Hid (W0.heap[X]? = some (.cells #[.int .i64 0, .int .i64 0, .int .i64 0, .slice none 0 0] 29 (0, 0))) := by rw [← hW0, ← hX]; exact heap_alloc_new _ _
  have x0 : W0.cell? ⟨X, 0, none⟩ = some (.int .i64 0) := by rw [(row_cell HX0.out 0).1]; rfl
  have xz0 : W0.frozen? ⟨X, 0, none⟩ = false := (row_cell HX0.out 0).2
  have x1 : W0.cell? ⟨X, 1, none⟩ = some (.int .i64 0) := by rw [(row_cell HX0.out 1).1]; rfl
  have xz1 : W0.frozen? ⟨X, 1, none⟩ = false := (row_cell HX0.out 1).2
  have x2 : W0.cell? ⟨X, 2, none⟩ = some (.int .i64 0) := by rw [(row_cell HX0.out 2).1]; rfl
  have xz2 : W0.frozen? ⟨X, 2, none⟩ = false := (row_cell HX0.out 2).2
  have x3 : W0.cell? ⟨X, 3, none⟩ = some (.slice none 0 0) := by rw [(row_cell HX0.out 3).1]; rfl
  have xz3 : W0.frozen? ⟨X, 3, none⟩ = false := (row_cell HX0.out 3).2
  simp only [hX]
  by_cases h0 : p < 1
  · have k0 : decide (p < 1) = true := by simp only [h0, decide_true]
    clear h h0
    go_enter Try.func10, Try.ntmps10
    go_wp2_with fail
    refine bodyPost_ret (results_cell_tmp rfl _ _ X _ _ rfl (set_four HX0.out _ _ _ _) Try.underlying29 rfl (by kernel_rfl)) rfl ?_
    exact ⟨rfl, (((B0.out.setCell (Nat.le_refl _) _).setCell (Nat.le_refl _) _).setCell (Nat.le_refl _) _).setCell (Nat.le_refl _) _⟩
  have k0 : decide (p < 1) = false := by simp only [h0, decide_false]
  by_cases h1 : 1048576 < p
  · have k1 : decide (1048576 < p) = true := by simp only [h1, decide_true]
    clear h h0 h1
    go_enter Try.func10, Try.ntmps10
    go_wp2_with fail
    refine bodyPost_ret (results_cell_tmp rfl _ _ X _ _ rfl (set_four HX0.out _ _ _ _) Try.underlying29 rfl (by kernel_rfl)) rfl ?_
    exact ⟨rfl, (((B0.out.setCell (Nat.le_refl _) _).setCell (Nat.le_refl _) _).setCell (Nat.le_refl _) _).setCell (Nat.le_refl _) _⟩
  have k1 : decide (1048576 < p) = false := by simp only [h1, decide_false]
  by_cases h2 : z < 1
  · have k2 : decide (z < 1) = true := by simp only [h2, decide_true]
    clear h h0 h1 h2
    go_enter Try.func10, Try.ntmps10
    go_wp2_with fail
    refine bodyPost_ret (results_cell_tmp rfl _ _ X _ _ rfl (set_four HX0.out _ _ _ _) Try.underlying29 rfl (by kernel_rfl)) rfl ?_
    exact ⟨rfl, (((B0.out.setCell (Nat.le_refl _) _).setCell (Nat.le_refl _) _).setCell (Nat.le_refl _) _).setCell (Nat.le_refl _) _⟩
  have k2 : decide (z < 1) = false := by simp only [h2, decide_false]
  have k3 : decide (p < z) = true := by unfold newI at h; simp; omega
  clear h h0 h1 h2
  go_enter Try.func10, Try.ntmps10
  go_wp2_with fail
  refine bodyPost_ret (results_cell_tmp rfl _ _ X _ _ rfl (set_four HX0.out _ _ _ _) Try.underlying29 rfl (by kernel_rfl)) rfl ?_
  exact ⟨rfl, (((B0.out.setCell (Nat.le_refl _) _).setCell (Nat.le_refl _) _).setCell (Nat.le_refl _) _).setCell (Nat.le_refl _) _⟩
set_option maxRecDepth 100000 in
set_option maxHeartbeats 16000000 in
theorem rreset_no (Z P F t : Int) (A : Option Addr) (c : Nat) (L : List (Int × Int)) (w : World) (h : ¬ (0 ≤ t ∧ t ≤ 1099511627776)) : Calls Try.prog 19 #[.agg #[.int .i64 Z, .int .i64 P, .int .i64 F, .slice A L.length c], .int .i64 t] w fun e w' => e = .returned (.agg #[.int .i64 Z, .int .i64 P, .int .i64 F, .slice A L.length c]) ∧ Below w.heap.size w w' := by
  obtain ⟨X, hX⟩ : ∃ X, w.heap.size = X := ⟨_, rfl⟩
  obtain ⟨W0, hW0⟩ : ∃ W0, (w.alloc (.cells #[.int .i64 Z, .int .i64 P, .int .i64 F, .slice A L.length c] 29)).alloc (.cells #[.int .i64 0, .int .i64 0, .int .i64 0, .slice none 0 0] 29) = W0 := ⟨_, rfl⟩
  have B0 : Hid (Below X w W0) := by rw [← hW0, ← hX]; exact ((Below.refl _ _).alloc (Nat.le_refl _) _).alloc (by simp) _
  have HX0 : Hid (W0.heap[X]? = some (.cells #[.int .i64 Z, .int .i64 P, .int .i64 F, .slice A L.length c] 29 (0, 0))) := by
    unfold Hid; rw [← hW0, ← hX]; exact (((Below.refl _ _).alloc (by simp) _).block (B := (w.alloc (.cells #[.int .i64 Z, .int .i64 P, .int .i64 F, .slice A L.length c] 29)).heap.size) _ (by simp)).trans (heap_alloc_new _ _)
  have HY0 : Hid (W0.heap[X + 1]? = some (.cells #[.int .i64 0, .int .i64 0, .int .i64 0, .slice none 0 0] 29 (0, 0))) := by
    unfold Hid; rw [← hW0, ← hX]; have := heap_alloc_new (w.alloc (.cells #[.int .i64 Z, .int .i64 P, .int .i64 F, .slice A L.length c] 29)) (.cells #[.int .i64 0, .int .i64 0, .int .i64 0, .slice none 0 0] 29); simpa using this
  have x0 : W0.cell? ⟨X, 0, none⟩ = some (.int .i64 Z) := by rw [(row_cell HX0.out 0).1]; rfl
  have xz0 : W0.frozen? ⟨X, 0, none⟩ = false := (row_cell HX0.out 0).2
  have x1 : W0.cell? ⟨X, 1, none⟩ = some (.int .i64 P) := by rw [(row_cell HX0.out 1).1]; rfl
  have xz1 : W0.frozen? ⟨X, 1, none⟩ = false := (row_cell HX0.out 1).2
  have x2 : W0.cell? ⟨X, 2, none⟩ = some (.int .i64 F) := by rw [(row_cell HX0.out 2).1]; rfl
  have xz2 : W0.frozen? ⟨X, 2, none⟩ = false := (row_cell HX0.out 2).2
  have x3 : W0.cell? ⟨X, 3, none⟩ = some (.slice A L.length c) := by rw [(row_cell HX0.out 3).1]; rfl
  have xz3 : W0.frozen? ⟨X, 3, none⟩ = false := (row_cell HX0.out 3).2
  have y0 : W0.cell? ⟨X + 1, 0, none⟩ = some (.int .i64 0) := by rw [(row_cell HY0.out 0).1]; rfl
  have yz0 : W0.frozen? ⟨X + 1, 0, none⟩ = false := (row_cell HY0.out 0).2
  have y1 : W0.cell? ⟨X + 1, 1, none⟩ = some (.int .i64 0) := by rw [(row_cell HY0.out 1).1]; rfl
  have yz1 : W0.frozen? ⟨X + 1, 1, none⟩ = false := (row_cell HY0.out 1).2
  have y2 : W0.cell? ⟨X + 1, 2, none⟩ = some (.int .i64 0) := by rw [(row_cell HY0.out 2).1]; rfl
  have yz2 : W0.frozen? ⟨X + 1, 2, none⟩ = false := (row_cell HY0.out 2).2
  have y3 : W0.cell? ⟨X + 1, 3, none⟩ = some (.slice none 0 0) := by rw [(row_cell HY0.out 3).1]; rfl
  have yz3 : W0.frozen? ⟨X + 1, 3, none⟩ = false := (row_cell HY0.out 3).2
  simp only [hX]
  generalize L.length = ln at *
  by_cases h0 : t < 0
  · have k0 : decide (t < 0) = true := by simp only [h0, decide_true]
    clear h h0
    go_enter Try.func19, Try.ntmps19
    go_wp2_with fail
    refine bodyPost_ret (results_cell_one rfl _ _ (X + 1) _ _ rfl (set_four HY0.out _ _ _ _) Try.underlying29 rfl (by kernel_rfl)) rfl ?_
    exact ⟨rfl, (((B0.out.setCell (by exact Nat.le_succ _) _).setCell (by exact Nat.le_succ _) _).setCell (by exact Nat.le_succ _) _).setCell (by exact Nat.le_succ _) _⟩
  have k0 : decide (t < 0) = false := by simp only [h0, decide_false]
  have k1 : decide (1099511627776 < t) = true := by simp; omega
  clear h h0
  go_enter Try.func19, Try.ntmps19
  go_wp2_with fail
  refine bodyPost_ret (results_cell_one rfl _ _ (X + 1) _ _ rfl (set_four HY0.out _ _ _ _) Try.underlying29 rfl (by kernel_rfl)) rfl ?_
  exact ⟨rfl, (((B0.out.setCell (by exact Nat.le_succ _) _).setCell (by exact Nat.le_succ _) _).setCell (by exact Nat.le_succ _) _).setCell (by exact Nat.le_succ _) _⟩
set_option maxRecDepth 100000 in
set_option maxHeartbeats 16000000 in
theorem rreset_ok (Z P F t : Int) (A : Option Addr) (c : Nat) (L : List (Int × Int)) (w : World) (h : 0 ≤ t ∧ t ≤ 1099511627776) : Calls Try.prog 19 #[.agg #[.int .i64 Z, .int .i64 P, .int .i64 F, .slice A L.length c], .int .i64 t] w fun e w' => e = .returned (.agg #[.int .i64 Z, .int .i64 P, .int .i64 t, .slice none 0 0]) ∧ Below w.heap.size w w' := by
  obtain ⟨X, hX⟩ : ∃ X, w.heap.size = X := ⟨_, rfl⟩
  obtain ⟨W0, hW0⟩ : ∃ W0, (w.alloc (.cells #[.int .i64 Z, .int .i64 P, .int .i64 F, .slice A L.length c] 29)).alloc (.cells #[.int .i64 0, .int .i64 0, .int .i64 0, .slice none 0 0] 29) = W0 := ⟨_, rfl⟩
  have B0 : Hid (Below X w W0) := by rw [← hW0, ← hX]; exact ((Below.refl _ _).alloc (Nat.le_refl _) _).alloc (by simp) _
  have HX0 : Hid (W0.heap[X]? = some (.cells #[.int .i64 Z, .int .i64 P, .int .i64 F, .slice A L.length c] 29 (0, 0))) := by
    unfold Hid; rw [← hW0, ← hX]; exact (((Below.refl _ _).alloc (by simp) _).block (B := (w.alloc (.cells #[.int .i64 Z, .int .i64 P, .int .i64 F, .slice A L.length c] 29)).heap.size) _ (by simp)).trans (heap_alloc_new _ _)
  have HY0 : Hid (W0.heap[X + 1]? = some (.cells #[.int .i64 0, .int .i64 0, .int .i64 0, .slice none 0 0] 29 (0, 0))) := by
    unfold Hid; rw [← hW0, ← hX]; have := heap_alloc_new (w.alloc (.cells #[.int .i64 Z, .int .i64 P, .int .i64 F, .slice A L.length c] 29)) (.cells #[.int .i64 0, .int .i64 0, .int .i64 0, .slice none 0 0] 29); simpa using this
  have x0 : W0.cell? ⟨X, 0, none⟩ = some (.int .i64 Z) := by rw [(row_cell HX0.out 0).1]; rfl
  have xz0 : W0.frozen? ⟨X, 0, none⟩ = false := (row_cell HX0.out 0).2
  have x1 : W0.cell? ⟨X, 1, none⟩ = some (.int .i64 P) := by rw [(row_cell HX0.out 1).1]; rfl
  have xz1 : W0.frozen? ⟨X, 1, none⟩ = false := (row_cell HX0.out 1).2
  have x2 : W0.cell? ⟨X, 2, none⟩ = some (.int .i64 F) := by rw [(row_cell HX0.out 2).1]; rfl
  have xz2 : W0.frozen? ⟨X, 2, none⟩ = false := (row_cell HX0.out 2).2
  have x3 : W0.cell? ⟨X, 3, none⟩ = some (.slice A L.length c) := by rw [(row_cell HX0.out 3).1]; rfl
  have xz3 : W0.frozen? ⟨X, 3, none⟩ = false := (row_cell HX0.out 3).2
  have y0 : W0.cell? ⟨X + 1, 0, none⟩ = some (.int .i64 0) := by rw [(row_cell HY0.out 0).1]; rfl
  have yz0 : W0.frozen? ⟨X + 1, 0, none⟩ = false := (row_cell HY0.out 0).2
  have y1 : W0.cell? ⟨X + 1, 1, none⟩ = some (.int .i64 0) := by rw [(row_cell HY0.out 1).1]; rfl
  have yz1 : W0.frozen? ⟨X + 1, 1, none⟩ = false := (row_cell HY0.out 1).2
  have y2 : W0.cell? ⟨X + 1, 2, none⟩ = some (.int .i64 0) := by rw [(row_cell HY0.out 2).1]; rfl
  have yz2 : W0.frozen? ⟨X + 1, 2, none⟩ = false := (row_cell HY0.out 2).2
  have y3 : W0.cell? ⟨X + 1, 3, none⟩ = some (.slice none 0 0) := by rw [(row_cell HY0.out 3).1]; rfl
  have yz3 : W0.frozen? ⟨X + 1, 3, none⟩ = false := (row_cell HY0.out 3).2
  simp only [hX]
  obtain ⟨h0, h1⟩ := h
  have k0 : decide (t < 0) = false := by simp; omega
  have k1 : decide (1099511627776 < t) = false := by simp; omega
  clear h0 h1
  go_enter Try.func19, Try.ntmps19
  go_upto_region 4 with fail
  obtain ⟨W1, hW1⟩ : ∃ W, (W0.setCell ⟨X, 2, none⟩ (.int .i64 t)).setCell ⟨X, 3, none⟩ (.slice none 0 0) = W := ⟨_, rfl⟩
  rw [hW1]
  have HX1 : Hid (W1.heap[X]? = some (.cells #[.int .i64 Z, .int .i64 P, .int .i64 t, .slice none 0 0] 29 (0, 0))) := by unfold Hid; rw [← hW1]; exact set_at (set_at HX0.out 2 _) 3 _
  have HY1 : Hid (W1.heap[X + 1]? = some (.cells #[.int .i64 0, .int .i64 0, .int .i64 0, .slice none 0 0] 29 (0, 0))) := by unfold Hid; rw [← hW1]; exact (set_far _ _ (by omega)).trans ((set_far _ _ (by omega)).trans HY0.out)
  have B1 : Hid (Below X w W1) := by rw [← hW1]; exact (B0.out.setCell (Nat.le_refl _) _).setCell (Nat.le_refl _) _
  clear hW1 hW0 x0 xz0 y0 yz0 x1 xz1 y1 yz1 x2 xz2 y2 yz2 x3 xz3 y3 yz3
  have x0 : W1.cell? ⟨X, 0, none⟩ = some (.int .i64 Z) := by rw [(row_cell HX1.out 0).1]; rfl
  have x1 : W1.cell? ⟨X, 1, none⟩ = some (.int .i64 P) := by rw [(row_cell HX1.out 1).1]; rfl
  have x2 : W1.cell? ⟨X, 2, none⟩ = some (.int .i64 t) := by rw [(row_cell HX1.out 2).1]; rfl
  have x3 : W1.cell? ⟨X, 3, none⟩ = some (.slice none 0 0) := by rw [(row_cell HX1.out 3).1]; rfl
  have y0 : W1.cell? ⟨X + 1, 0, none⟩ = some (.int .i64 0) := by rw [(row_cell HY1.out 0).1]; rfl
  have yz0 : W1.frozen? ⟨X + 1, 0, none⟩ = false := (row_cell HY1.out 0).2
  have y1 : W1.cell? ⟨X + 1, 1, none⟩ = some (.int .i64 0) := by rw [(row_cell HY1.out 1).1]; rfl
  have yz1 : W1.frozen? ⟨X + 1, 1, none⟩ = false := (row_cell HY1.out 1).2
  have y2 : W1.cell? ⟨X + 1, 2, none⟩ = some (.int .i64 0) := by rw [(row_cell HY1.out 2).1]; rfl
  have yz2 : W1.frozen? ⟨X + 1, 2, none⟩ = false := (row_cell HY1.out 2).2
  have y3 : W1.cell? ⟨X + 1, 3, none⟩ = some (.slice none 0 0) := by rw [(row_cell HY1.out 3).1]; rfl
  have yz3 : W1.frozen? ⟨X + 1, 3, none⟩ = false := (row_cell HY1.out 3).2
  go_wp2_with fail
  refine bodyPost_ret (results_cell_one rfl _ _ (X + 1) _ _ rfl (set_four HY1.out _ _ _ _) Try.underlying29 rfl (by kernel_rfl)) rfl ?_
  exact ⟨rfl, (((B1.out.setCell (by exact Nat.le_succ _) _).setCell (by exact Nat.le_succ _) _).setCell (by exact Nat.le_succ _) _).setCell (by exact Nat.le_succ _) _⟩
structure SmR (Y : Nat) (L : List (Int × Int)) (w1 : World) (iv : Value) (wr : World) : Prop where
  ex : ∃ j : Nat, j ≤ L.length ∧ iv = .int .i64 (j : Int) ∧ wr.heap[Y]? = some (.cells #[.int .i64 ((L.take j).foldl fl (0, 0)).1, .int .i64 ((L.take j).foldl fl (0, 0)).2] 65 (0, 0)) ∧ Fo (fun b => b = Y) w1 wr
theorem c_eql (a0 a1 b0 b1 : Int) (w : World) : (binOp .eql 65 (.agg #[.int .i64 a0, .int .i64 a1]) (.agg #[.int .i64 b0, .int .i64 b1])).run Try.prog w = .ok (.bool (a0 == b0 && a1 == b1)) w := by
  have u3 := Try.underlying3
  have a3 := Try.isAgg3
  have z3 := Try.sizeOf3
  have hS : Try.prog.underlying 65 = some (.struct (Try.prog.fieldsOf 65)) := by kernel_rfl
  have hp : Try.prog.stoodInHeld 65 = false := by kernel_rfl
  simp only [binOp, Op.equal, Op.maxDepth]
  rw [show (10000 : Nat) = 9999 + 1 from rfl]
  simp only [Sem.run_bind]
  rw [run_equalIn_agg w 9999 65 _ _ hS hp]
  simp only [Program.fieldsOf, Try.underlying65]
  go_simp
  by_cases h0 : a0 = b0
  rotate_left
  · simp [h0]
  by_cases h1 : a1 = b1
  rotate_left
  · simp [h0, h1]
  simp [h0, h1]
end Go.Proofs.Ytehbcoopggpmjaa.Bg
