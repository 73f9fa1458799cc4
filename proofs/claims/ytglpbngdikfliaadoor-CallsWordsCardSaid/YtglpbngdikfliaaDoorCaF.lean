/-
  The reference's rows. Each statement bears its own conditions.
-/
import Derived.Test.YtglpbngdikfliaaDoorCaE
namespace Go.Proofs.YtglpbngdikfliaaDoor.Ca
open Go.RowKit Go.Proofs.YtglpbngdikfliaaDoor.F
set_option linter.unusedVariables false
set_option linter.unusedSimpArgs false
def rowL (n : Int) : List Value := [wordV n.toNat, .bool (oB n), .bool (aB n), .bool (wB n), .bool (tB n), .int .i64 (priceL.getD n.toNat 0)]
def rowQ (n : Int) : Value := if is n then .agg #[wordV n.toNat, .bool (oB n), .bool (aB n), .bool (wB n), .bool (tB n), .int .i64 (priceL.getD n.toNat 0)] else .agg #[.string ⟨#[]⟩, .bool false, .bool false, .bool false, .bool false, .int .i64 0]
def big : Array Value := #[.string ⟨#[110, 111, 119]⟩, .bool false, .bool false, .bool false, .bool false, .int .i64 1, .string ⟨#[115, 101, 108, 102]⟩, .bool false, .bool false, .bool false, .bool false, .int .i64 1, .string ⟨#[119, 97, 105, 116]⟩, .bool false, .bool false, .bool false, .bool true, .int .i64 2, .string ⟨#[100, 111, 110, 101]⟩, .bool false, .bool false, .bool false, .bool false, .int .i64 1, .string ⟨#[115, 116, 97, 114, 116]⟩, .bool true, .bool false, .bool false, .bool false, .int .i64 3, .string ⟨#[115, 116, 111, 112]⟩, .bool true, .bool false, .bool false, .bool false, .int .i64 3, .string ⟨#[115, 117, 115, 112, 101, 110, 100]⟩, .bool true, .bool false, .bool false, .bool false, .int .i64 2, .string ⟨#[114, 101, 115, 117, 109, 101]⟩, .bool true, .bool false, .bool false, .bool false, .int .i64 2, .string ⟨#[112, 114, 105, 111, 114, 105, 116, 121]⟩, .bool true, .bool true, .bool false, .bool false, .int .i64 2, .string ⟨#[116, 97, 107, 101]⟩, .bool true, .bool false, .bool false, .bool true, .int .i64 3, .string ⟨#[103, 105, 118, 101]⟩, .bool true, .bool false, .bool false, .bool false, .int .i64 3, .string ⟨#[100, 111, 119, 110]⟩, .bool true, .bool false, .bool false, .bool true, .int .i64 2, .string ⟨#[117, 112]⟩, .bool true, .bool false, .bool false, .bool false, .int .i64 2, .string ⟨#[114, 97, 105, 115, 101]⟩, .bool true, .bool false, .bool false, .bool false, .int .i64 2, .string ⟨#[108, 111, 119, 101, 114]⟩, .bool true, .bool false, .bool false, .bool false, .int .i64 1, .string ⟨#[97, 119, 97, 105, 116]⟩, .bool true, .bool false, .bool false, .bool true, .int .i64 2, .string ⟨#[115, 104, 111, 119]⟩, .bool true, .bool true, .bool true, .bool false, .int .i64 2, .string ⟨#[104, 105, 100, 101]⟩, .bool true, .bool false, .bool false, .bool false, .int .i64 1, .string ⟨#[108, 111, 111, 107]⟩, .bool true, .bool true, .bool false, .bool true, .int .i64 6, .string ⟨#[115, 101, 110, 100]⟩, .bool true, .bool true, .bool true, .bool true, .int .i64 3, .string ⟨#[114, 101, 99, 101, 105, 118, 101]⟩, .bool true, .bool true, .bool false, .bool true, .int .i64 6, .string ⟨#[119, 114, 105, 116, 101]⟩, .bool true, .bool true, .bool true, .bool false, .int .i64 2, .string ⟨#[114, 101, 97, 100]⟩, .bool true, .bool true, .bool false, .bool false, .int .i64 6, .string ⟨#[112, 117, 116]⟩, .bool true, .bool true, .bool true, .bool false, .int .i64 3, .string ⟨#[103, 101, 116]⟩, .bool true, .bool true, .bool false, .bool false, .int .i64 6, .string ⟨#[114, 101, 112, 111, 114, 116]⟩, .bool false, .bool true, .bool true, .bool false, .int .i64 2, .string ⟨#[102, 97, 105, 108]⟩, .bool false, .bool true, .bool false, .bool false, .int .i64 1, .string ⟨#[110, 111, 114, 109, 97, 108]⟩, .bool false, .bool false, .bool false, .bool false, .int .i64 1]
theorem big_row (k : Nat) (hk : k < 28) : (big.toList.drop (k * 6)).take 6 = rowL (k : Int)   := by
  match k, hk with
  | 0, _ => exact (by kernel_rfl : (big.toList.drop (0 * 6)).take 6 = rowL ((0 : Nat) : Int))
  | 1, _ => exact (by kernel_rfl : (big.toList.drop (1 * 6)).take 6 = rowL ((1 : Nat) : Int))
  | 2, _ => exact (by kernel_rfl : (big.toList.drop (2 * 6)).take 6 = rowL ((2 : Nat) : Int))
  | 3, _ => exact (by kernel_rfl : (big.toList.drop (3 * 6)).take 6 = rowL ((3 : Nat) : Int))
  | 4, _ => exact (by kernel_rfl : (big.toList.drop (4 * 6)).take 6 = rowL ((4 : Nat) : Int))
  | 5, _ => exact (by kernel_rfl : (big.toList.drop (5 * 6)).take 6 = rowL ((5 : Nat) : Int))
  | 6, _ => exact (by kernel_rfl : (big.toList.drop (6 * 6)).take 6 = rowL ((6 : Nat) : Int))
  | 7, _ => exact (by kernel_rfl : (big.toList.drop (7 * 6)).take 6 = rowL ((7 : Nat) : Int))
  | 8, _ => exact (by kernel_rfl : (big.toList.drop (8 * 6)).take 6 = rowL ((8 : Nat) : Int))
  | 9, _ => exact (by kernel_rfl : (big.toList.drop (9 * 6)).take 6 = rowL ((9 : Nat) : Int))
  | 10, _ => exact (by kernel_rfl : (big.toList.drop (10 * 6)).take 6 = rowL ((10 : Nat) : Int))
  | 11, _ => exact (by kernel_rfl : (big.toList.drop (11 * 6)).take 6 = rowL ((11 : Nat) : Int))
  | 12, _ => exact (by kernel_rfl : (big.toList.drop (12 * 6)).take 6 = rowL ((12 : Nat) : Int))
  | 13, _ => exact (by kernel_rfl : (big.toList.drop (13 * 6)).take 6 = rowL ((13 : Nat) : Int))
  | 14, _ => exact (by kernel_rfl : (big.toList.drop (14 * 6)).take 6 = rowL ((14 : Nat) : Int))
  | 15, _ => exact (by kernel_rfl : (big.toList.drop (15 * 6)).take 6 = rowL ((15 : Nat) : Int))
  | 16, _ => exact (by kernel_rfl : (big.toList.drop (16 * 6)).take 6 = rowL ((16 : Nat) : Int))
  | 17, _ => exact (by kernel_rfl : (big.toList.drop (17 * 6)).take 6 = rowL ((17 : Nat) : Int))
  | 18, _ => exact (by kernel_rfl : (big.toList.drop (18 * 6)).take 6 = rowL ((18 : Nat) : Int))
  | 19, _ => exact (by kernel_rfl : (big.toList.drop (19 * 6)).take 6 = rowL ((19 : Nat) : Int))
  | 20, _ => exact (by kernel_rfl : (big.toList.drop (20 * 6)).take 6 = rowL ((20 : Nat) : Int))
  | 21, _ => exact (by kernel_rfl : (big.toList.drop (21 * 6)).take 6 = rowL ((21 : Nat) : Int))
  | 22, _ => exact (by kernel_rfl : (big.toList.drop (22 * 6)).take 6 = rowL ((22 : Nat) : Int))
  | 23, _ => exact (by kernel_rfl : (big.toList.drop (23 * 6)).take 6 = rowL ((23 : Nat) : Int))
  | 24, _ => exact (by kernel_rfl : (big.toList.drop (24 * 6)).take 6 = rowL ((24 : Nat) : Int))
  | 25, _ => exact (by kernel_rfl : (big.toList.drop (25 * 6)).take 6 = rowL ((25 : Nat) : Int))
  | 26, _ => exact (by kernel_rfl : (big.toList.drop (26 * 6)).take 6 = rowL ((26 : Nat) : Int))
  | 27, _ => exact (by kernel_rfl : (big.toList.drop (27 * 6)).take 6 = rowL ((27 : Nat) : Int))
  | n + 28, h => omega
theorem big_at (k : Nat) (hk : k < 28) (j : Nat) (hj : j < 6) : big[k * 6 + j]? = (rowL (k : Int))[j]? := by
  rw [← big_row k hk, List.getElem?_take_of_lt hj, List.getElem?_drop]
  simp
theorem set_six {w : World} {g : Nat} {c0 c1 c2 c3 c4 c5 : Value} {t : TypeId} (h : w.heap[g]? = some (.cells #[c0, c1, c2, c3, c4, c5] t (0, 0))) (a b c d e f : Value) : ((((((w.setCell ⟨g, 0, none⟩ a).setCell ⟨g, 1, none⟩ b).setCell ⟨g, 2, none⟩ c).setCell ⟨g, 3, none⟩ d).setCell ⟨g, 4, none⟩ e).setCell ⟨g, 5, none⟩ f).rangeAt g 0 [a, b, c, d, e, f] := by
  have h1 := set_at (set_at (set_at (set_at (set_at (set_at h 0 a) 1 b) 2 c) 3 d) 4 e) 5 f
  intro j v hv
  rw [Nat.zero_add, (row_cell h1 j).1]
  simpa using hv
def partsL : Array (Nat × Value) := #[(0, Value.agg #[.string ⟨#[110, 111, 119]⟩, .bool false, .bool false, .bool false, .bool false, .int .i64 1]), (1, Value.agg #[.string ⟨#[115, 101, 108, 102]⟩, .bool false, .bool false, .bool false, .bool false, .int .i64 1]), (2, Value.agg #[.string ⟨#[119, 97, 105, 116]⟩, .bool false, .bool false, .bool false, .bool true, .int .i64 2]), (3, Value.agg #[.string ⟨#[100, 111, 110, 101]⟩, .bool false, .bool false, .bool false, .bool false, .int .i64 1]), (4, Value.agg #[.string ⟨#[115, 116, 97, 114, 116]⟩, .bool true, .bool false, .bool false, .bool false, .int .i64 3]), (5, Value.agg #[.string ⟨#[115, 116, 111, 112]⟩, .bool true, .bool false, .bool false, .bool false, .int .i64 3]), (6, Value.agg #[.string ⟨#[115, 117, 115, 112, 101, 110, 100]⟩, .bool true, .bool false, .bool false, .bool false, .int .i64 2]), (7, Value.agg #[.string ⟨#[114, 101, 115, 117, 109, 101]⟩, .bool true, .bool false, .bool false, .bool false, .int .i64 2]), (8, Value.agg #[.string ⟨#[112, 114, 105, 111, 114, 105, 116, 121]⟩, .bool true, .bool true, .bool false, .bool false, .int .i64 2]), (9, Value.agg #[.string ⟨#[116, 97, 107, 101]⟩, .bool true, .bool false, .bool false, .bool true, .int .i64 3]), (10, Value.agg #[.string ⟨#[103, 105, 118, 101]⟩, .bool true, .bool false, .bool false, .bool false, .int .i64 3]), (11, Value.agg #[.string ⟨#[100, 111, 119, 110]⟩, .bool true, .bool false, .bool false, .bool true, .int .i64 2]), (12, Value.agg #[.string ⟨#[117, 112]⟩, .bool true, .bool false, .bool false, .bool false, .int .i64 2]), (13, Value.agg #[.string ⟨#[114, 97, 105, 115, 101]⟩, .bool true, .bool false, .bool false, .bool false, .int .i64 2]), (14, Value.agg #[.string ⟨#[108, 111, 119, 101, 114]⟩, .bool true, .bool false, .bool false, .bool false, .int .i64 1]), (15, Value.agg #[.string ⟨#[97, 119, 97, 105, 116]⟩, .bool true, .bool false, .bool false, .bool true, .int .i64 2]), (16, Value.agg #[.string ⟨#[115, 104, 111, 119]⟩, .bool true, .bool true, .bool true, .bool false, .int .i64 2]), (17, Value.agg #[.string ⟨#[104, 105, 100, 101]⟩, .bool true, .bool false, .bool false, .bool false, .int .i64 1]), (18, Value.agg #[.string ⟨#[108, 111, 111, 107]⟩, .bool true, .bool true, .bool false, .bool true, .int .i64 6]), (19, Value.agg #[.string ⟨#[115, 101, 110, 100]⟩, .bool true, .bool true, .bool true, .bool true, .int .i64 3]), (20, Value.agg #[.string ⟨#[114, 101, 99, 101, 105, 118, 101]⟩, .bool true, .bool true, .bool false, .bool true, .int .i64 6]), (21, Value.agg #[.string ⟨#[119, 114, 105, 116, 101]⟩, .bool true, .bool true, .bool true, .bool false, .int .i64 2]), (22, Value.agg #[.string ⟨#[114, 101, 97, 100]⟩, .bool true, .bool true, .bool false, .bool false, .int .i64 6]), (23, Value.agg #[.string ⟨#[112, 117, 116]⟩, .bool true, .bool true, .bool true, .bool false, .int .i64 3]), (24, Value.agg #[.string ⟨#[103, 101, 116]⟩, .bool true, .bool true, .bool false, .bool false, .int .i64 6]), (25, Value.agg #[.string ⟨#[114, 101, 112, 111, 114, 116]⟩, .bool false, .bool true, .bool true, .bool false, .int .i64 2]), (26, Value.agg #[.string ⟨#[102, 97, 105, 108]⟩, .bool false, .bool true, .bool false, .bool false, .int .i64 1]), (27, Value.agg #[.string ⟨#[110, 111, 114, 109, 97, 108]⟩, .bool false, .bool false, .bool false, .bool false, .int .i64 1])]
theorem fill_big : Instr.fill (fun i => some (i * 6, 6)) ((Array.range (28 * 6)).map (fun i => (Value.agg #[.string ⟨#[]⟩, .bool false, .bool false, .bool false, .bool false, .int .i64 0]).cells[i % (Value.agg #[.string ⟨#[]⟩, .bool false, .bool false, .bool false, .bool false, .int .i64 0]).cells.size]!)) partsL.toList = some big := by kernel_rfl
theorem wpList_bigslice {P : Program} {ops : Array Oper} {rest : List Oper} {o : Oper} {a : Act} {w : World} {Q : Exit → Act → World → Prop} (hgd : o.guard = none) (t : TypeId) (n : Nat) (parts : Array (Nat × Operand)) (ho : o.op = .buildSlice t n parts) (ps : Array (Nat × Value)) (hp : parts.map (fun (i, x) => (i, a.eval x)) = ps)
    (v : Value) (w2 : World) (hr : (Instr.buildSlice t n ps).run P w = .ok v w2) (h : wpList P ops Q rest (a.put o.dst v) w2) : wpList P ops Q (o :: rest) a w :=
  wpList_plain hgd fun _ hK => by
    unfold Oper.wp execOp
    simp only [ho]
    have e : (Array.map (fun x => (x.1, a.eval x.2)) parts) = ps := hp
    simp only [e, Sem.run_bind, hr, Result.andThen_ok, Sem.run_pure]
    exact hK _ _ h
set_option maxRecDepth 100000 in
set_option maxHeartbeats 8000000 in
theorem run_big (W : World) : (Instr.buildSlice 63 28 partsL).run Tryd.prog W = .ok (.slice (some ⟨W.heap.size, 0, none⟩) 28 28) (W.alloc (.cells big 46)) := by
  have hz : (zeroValue 46).run Tryd.prog W = .ok (.agg #[.string ⟨#[]⟩, .bool false, .bool false, .bool false, .bool false, .int .i64 0]) W := (zero_of_info (P := Tryd.prog) (t := 46) (v := .agg #[.string ⟨#[]⟩, .bool false, .bool false, .bool false, .bool false, .int .i64 0]) (n := 6) (by kernel_rfl)).1 W
  have hf := fill_big
  have h6 : (sizeOf 46).run Tryd.prog W = .ok 6 W := by kernel_rfl
  have hu : (underlying 63).run Tryd.prog W = .ok (.slice 46) W := by kernel_rfl
  generalize partsL = ps at hf ⊢
  generalize big = bb at hf ⊢
  have g1 : ¬ (28 * 6 > 2 ^ 24) := by decide
  have g2 : ¬ (28 * 6 = 0) := by decide
  simp only [Instr.buildSlice, Sem.run_bind, hu, h6, Result.andThen_ok]
  rw [if_neg g1, if_neg g2]
  simp only [Sem.run_bind, hz, Result.andThen_ok, Sem.run_pure]
  rw [hf]
  simp [newRow, go_sem]
set_option maxRecDepth 100000 in
set_option maxHeartbeats 32000000 in
theorem of_any (n : Int) (w : World) : Calls Tryd.prog 19 #[.int .i64 n] w fun e w' => e = .returned (.tuple #[rowQ n, .bool (is n)]) ∧ Below w.heap.size w w' := by
  obtain ⟨X, hX⟩ : ∃ X, w.heap.size = X := ⟨_, rfl⟩
  simp only [hX]
  obtain ⟨v, hv⟩ : ∃ v, is n = v := ⟨_, rfl⟩
  have HV := Lib.hid hv
  have HQ : Hid (rowQ n = if v then .agg #[wordV n.toNat, .bool (oB n), .bool (aB n), .bool (wB n), .bool (tB n), .int .i64 (priceL.getD n.toNat 0)] else .agg #[.string ⟨#[]⟩, .bool false, .bool false, .bool false, .bool false, .int .i64 0]) := by unfold Hid rowQ; rw [hv]
  go_enter Tryd.func19, Tryd.ntmps19
  go_upto_region 2 with (refine wpList_bigslice rfl 63 28 _ rfl partsL (by kernel_rfl) _ _ (run_big _) ?_)
  obtain ⟨W0, hW0⟩ : ∃ W0, (w.alloc (.cells #[.string ⟨#[]⟩, .bool false, .bool false, .bool false, .bool false, .int .i64 0] 46)).alloc (.cells big 46) = W0 := ⟨_, rfl⟩
  rw [hW0]
  have B0 : Hid (Below X w W0) := by rw [← hW0, ← hX]; exact ((Below.refl _ _).alloc (Nat.le_refl _) _).alloc (by simp) _
  have HX0 : Hid (W0.heap[X]? = some (.cells #[.string ⟨#[]⟩, .bool false, .bool false, .bool false, .bool false, .int .i64 0] 46 (0, 0))) := by
    rw [← hW0, ← hX]; exact (((Below.refl _ _).alloc (Nat.le_refl _) _).block _ (by simp)).trans (heap_alloc_new _ _)
  have HY0 : Hid (W0.heap[X + 1]? = some (.cells big 46 (0, 0))) := by
    rw [← hW0, ← hX]; have := heap_alloc_new (w.alloc (.cells #[.string ⟨#[]⟩, .bool false, .bool false, .bool false, .bool false, .int .i64 0] 46)) (.cells big 46); unfold Hid; simpa using this
  clear hW0 hX
  have x0 : W0.cell? ⟨X, 0, none⟩ = some (.string ⟨#[]⟩) := by rw [(row_cell HX0.out 0).1]; rfl
  have xz0 : W0.frozen? ⟨X, 0, none⟩ = false := (row_cell HX0.out 0).2
  have x1 : W0.cell? ⟨X, 1, none⟩ = some (.bool false) := by rw [(row_cell HX0.out 1).1]; rfl
  have xz1 : W0.frozen? ⟨X, 1, none⟩ = false := (row_cell HX0.out 1).2
  have x2 : W0.cell? ⟨X, 2, none⟩ = some (.bool false) := by rw [(row_cell HX0.out 2).1]; rfl
  have xz2 : W0.frozen? ⟨X, 2, none⟩ = false := (row_cell HX0.out 2).2
  have x3 : W0.cell? ⟨X, 3, none⟩ = some (.bool false) := by rw [(row_cell HX0.out 3).1]; rfl
  have xz3 : W0.frozen? ⟨X, 3, none⟩ = false := (row_cell HX0.out 3).2
  have x4 : W0.cell? ⟨X, 4, none⟩ = some (.bool false) := by rw [(row_cell HX0.out 4).1]; rfl
  have xz4 : W0.frozen? ⟨X, 4, none⟩ = false := (row_cell HX0.out 4).2
  have x5 : W0.cell? ⟨X, 5, none⟩ = some (.int .i64 0) := by rw [(row_cell HX0.out 5).1]; rfl
  have xz5 : W0.frozen? ⟨X, 5, none⟩ = false := (row_cell HX0.out 5).2
  by_cases h0 : n < 0
  · have k0 : decide (n < 0) = true := by simpa using h0
    have hvf : v = false := by rw [← hv]; unfold is; rw [decide_eq_false (by omega)]
    subst hvf
    clear h0 hv
    go_wp2_with fail
    refine bodyPost_ret (results_cell_tmp rfl _ _ X _ _ rfl (set_six HX0.out _ _ _ _ _ _) Tryd.underlying46 rfl (by kernel_rfl)) rfl ?_
    exact ⟨by rw [HQ.out, HV.out]; rfl, ((((((B0.out).setCell (Nat.le_refl _) _).setCell (Nat.le_refl _) _).setCell (Nat.le_refl _) _).setCell (Nat.le_refl _) _).setCell (Nat.le_refl _) _).setCell (Nat.le_refl _) _⟩
  have k0 : decide (n < 0) = false := by simpa using h0
  by_cases h1 : 28 ≤ n
  · have k1 : decide (28 ≤ n) = true := by simpa using h1
    have hvf : v = false := by rw [← hv]; unfold is; rw [decide_eq_false (by omega)]
    subst hvf
    clear h0 hv
    go_wp2_with fail
    refine bodyPost_ret (results_cell_tmp rfl _ _ X _ _ rfl (set_six HX0.out _ _ _ _ _ _) Tryd.underlying46 rfl (by kernel_rfl)) rfl ?_
    exact ⟨by rw [HQ.out, HV.out]; rfl, ((((((B0.out).setCell (Nat.le_refl _) _).setCell (Nat.le_refl _) _).setCell (Nat.le_refl _) _).setCell (Nat.le_refl _) _).setCell (Nat.le_refl _) _).setCell (Nat.le_refl _) _⟩
  have k1 : decide (28 ≤ n) = false := by simpa using h1
  have hvt : v = true := by rw [← hv]; unfold is; rw [decide_eq_true (by omega)]
  subst hvt
  obtain ⟨k, rfl⟩ : ∃ k : Nat, n = (k : Int) := ⟨n.toNat, by omega⟩
  have hk : k < 28 := by omega
  have hkI : (k : Int) < 28 := by omega
  have y0 : W0.cell? ⟨X + 1, k * 6, none⟩ = some (wordV k) := by rw [(row_cell HY0.out (k * 6)).1]; exact big_at k hk 0 (by omega)
  have y1 : W0.cell? ⟨X + 1, k * 6 + 1, none⟩ = some (.bool (oB (k : Int))) := by rw [(row_cell HY0.out _).1]; exact big_at k hk 1 (by omega)
  have y2 : W0.cell? ⟨X + 1, k * 6 + 2, none⟩ = some (.bool (aB (k : Int))) := by rw [(row_cell HY0.out _).1]; exact big_at k hk 2 (by omega)
  have y3 : W0.cell? ⟨X + 1, k * 6 + 3, none⟩ = some (.bool (wB (k : Int))) := by rw [(row_cell HY0.out _).1]; exact big_at k hk 3 (by omega)
  have y4 : W0.cell? ⟨X + 1, k * 6 + 4, none⟩ = some (.bool (tB (k : Int))) := by rw [(row_cell HY0.out _).1]; exact big_at k hk 4 (by omega)
  have y5 : W0.cell? ⟨X + 1, k * 6 + 5, none⟩ = some (.int .i64 (priceL.getD k 0)) := by rw [(row_cell HY0.out _).1]; exact big_at k hk 5 (by omega)
  have HQ2 : Hid (rowQ (k : Int) = .agg #[wordV k, .bool (oB (k : Int)), .bool (aB (k : Int)), .bool (wB (k : Int)), .bool (tB (k : Int)), .int .i64 (priceL.getD k 0)]) := HQ.out
  clear HQ
  generalize priceL.getD k 0 = p at y5 HQ2
  generalize oB (k : Int) = bo at y1 HQ2
  generalize aB (k : Int) = ba at y2 HQ2
  generalize wB (k : Int) = bw at y3 HQ2
  generalize tB (k : Int) = bt at y4 HQ2
  unfold wordV at y0 HQ2
  generalize byteL.getD k #[] = by_ at y0 HQ2
  clear h0 h1 hv
  go_wp2_with fail
  refine bodyPost_ret (results_cell_tmp rfl _ _ X _ _ rfl (set_six HX0.out _ _ _ _ _ _) Tryd.underlying46 rfl (by kernel_rfl)) rfl ?_
  exact ⟨by rw [HQ2.out, HV.out]; rfl, ((((((B0.out).setCell (Nat.le_refl _) _).setCell (Nat.le_refl _) _).setCell (Nat.le_refl _) _).setCell (Nat.le_refl _) _).setCell (Nat.le_refl _) _).setCell (Nat.le_refl _) _⟩
end Go.Proofs.YtglpbngdikfliaaDoor.Ca
