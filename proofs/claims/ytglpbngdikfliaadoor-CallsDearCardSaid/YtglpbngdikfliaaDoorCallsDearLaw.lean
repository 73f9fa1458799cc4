/-
  CallsDear's walk. Each statement bears its own conditions.
-/
import Derived.Test.YtglpbngdikfliaaDoorCaK
namespace Go.Proofs.YtglpbngdikfliaaDoor.Ca
open Go.RowKit Go.Proofs.YtglpbngdikfliaaDoor.F
set_option linter.unusedVariables false
set_option linter.unusedSimpArgs false
theorem price_le_most (q : Rq) : 0 ≤ priceV q ∧ priceV q ≤ mostV q.call ∧ priceV q ≤ 100 := by
  cases hv : validV q with
  | true =>
    obtain ⟨h1, h2⟩ := price_bounds hv
    have h3 : mostV q.call ≤ 38 := by
      obtain ⟨g1, _, _⟩ := valid_fits hv
      obtain ⟨k, hk, hk2⟩ := is_nat g1
      have hp := price_le k hk2
      unfold mostV
      rw [if_pos g1, hk, show ((k : Int).toNat) = k from rfl]
      split <;> omega
    omega
  | false =>
    have e : priceV q = 0 := by unfold priceV; rw [if_neg (by rw [hv]; simp)]
    have h : 0 ≤ mostV q.call := by
      unfold mostV
      split
      · rename_i h1
        obtain ⟨k, hk, hk2⟩ := is_nat h1
        have hp := price_le k hk2
        rw [hk, show ((k : Int).toNat) = k from rfl]
        split <;> omega
      · omega
    omega
theorem price_pos {q : Rq} (h : 0 < priceV q) : validV q = true ∧ priceV q = priceL.getD q.call.toNat 0 + q.wds ∧ 0 ≤ q.wds ∧ q.wds ≤ 32 := by
  cases hv : validV q with
  | true =>
    obtain ⟨_, h2, _⟩ := valid_fits hv
    have hb := fits_wds h2
    exact ⟨rfl, by unfold priceV; rw [if_pos hv], hb.2.2.1, hb.2.2.2.1⟩
  | false => unfold priceV at h; rw [if_neg (by rw [hv]; simp)] at h; omega
theorem most_range : ((List.range 28).all fun k => decide (1 ≤ mostV (k : Int) ∧ mostV (k : Int) ≤ 35)) = true := by kernel_rfl
theorem most_le (k : Nat) (hk : k < 28) : 1 ≤ mostV (k : Int) ∧ mostV (k : Int) ≤ 35 := by
  have h := List.all_eq_true.1 most_range k (by simpa using hk)
  simpa using h
structure DR (X : Nat) (w0 : World) (iv : Value) (wr : World) : Prop where
  ex : ∃ j : Nat, j ≤ 28 ∧ iv = .int .i64 (j : Int) ∧ Below X w0 wr ∧ X ≤ wr.heap.size
set_option maxRecDepth 100000 in
set_option maxHeartbeats 32000000 in
theorem dear_walk (n o a ws t n2 o2 a2 ws2 t2 : Int) (w : World) (hL : Laid w) : Calls Tryd.prog 8 #[.agg #[.int .i64 n, .int .i64 o, .int .u32 a, .int .i64 ws, .int .i64 t], .agg #[.int .i64 n2, .int .i64 o2, .int .u32 a2, .int .i64 ws2, .int .i64 t2]] w fun e w' => e = .returned (.bool true) ∧ Below w.heap.size w w' := by
  have HLw := Lib.hid hL
  obtain ⟨X, hX⟩ : ∃ X, w.heap.size = X := ⟨_, rfl⟩
  obtain ⟨W0, hW0⟩ : ∃ W0, (w.alloc (.cells #[.int .i64 n, .int .i64 o, .int .u32 a, .int .i64 ws, .int .i64 t] 25)).alloc (.cells #[.int .i64 n2, .int .i64 o2, .int .u32 a2, .int .i64 ws2, .int .i64 t2] 25) = W0 := ⟨_, rfl⟩
  have B0 : Hid (Below X w W0) := by rw [← hW0, ← hX]; exact ((Below.refl _ _).alloc (Nat.le_refl _) _).alloc (by simp) _
  have HX0 : Hid (W0.heap[X]? = some (.cells #[.int .i64 n, .int .i64 o, .int .u32 a, .int .i64 ws, .int .i64 t] 25 (0, 0))) := by
    unfold Hid; rw [← hW0, ← hX]; exact (((Below.refl _ _).alloc (by simp) _).block (B := (w.alloc (.cells #[.int .i64 n, .int .i64 o, .int .u32 a, .int .i64 ws, .int .i64 t] 25)).heap.size) _ (by simp)).trans (heap_alloc_new _ _)
  have HY0 : Hid (W0.heap[X + 1]? = some (.cells #[.int .i64 n2, .int .i64 o2, .int .u32 a2, .int .i64 ws2, .int .i64 t2] 25 (0, 0))) := by
    unfold Hid; rw [← hW0, ← hX]; have := heap_alloc_new (w.alloc (.cells #[.int .i64 n, .int .i64 o, .int .u32 a, .int .i64 ws, .int .i64 t] 25)) (.cells #[.int .i64 n2, .int .i64 o2, .int .u32 a2, .int .i64 ws2, .int .i64 t2] 25); simpa using this
  have S0 : Hid (W0.heap.size = X + 2) := by rw [← hW0, ← hX]; unfold Hid; simp
  have HL0 : Hid (Laid W0) := hL.below (by rw [hX]; exact B0.out)
  obtain ⟨A, hA⟩ : ∃ A, priceV ⟨n, o, a, ws, t⟩ = A := ⟨_, rfl⟩
  obtain ⟨Bp, hBp⟩ : ∃ A, priceV ⟨n2, o2, a2, ws2, t2⟩ = A := ⟨_, rfl⟩
  obtain ⟨Cp, hCp⟩ : ∃ A, priceV ⟨n, o2, a2, ws, t2⟩ = A := ⟨_, rfl⟩
  obtain ⟨M, hM⟩ : ∃ A, mostV n = A := ⟨_, rfl⟩
  have p1 := price_le_most ⟨n, o, a, ws, t⟩
  have p2 := price_le_most ⟨n2, o2, a2, ws2, t2⟩
  have p3 := price_le_most ⟨n, o2, a2, ws, t2⟩
  rw [show ((⟨n, o, a, ws, t⟩ : Rq).call) = n from rfl, hM, hA] at p1
  rw [hBp] at p2
  rw [hCp] at p3
  have HA := Lib.hid (And.intro hA (And.intro hBp hCp))
  have CP1 : Hid (∀ W, Below W0.heap.size W0 W → Calls Tryd.prog 13 #[.agg #[.int .i64 n, .int .i64 o, .int .u32 a, .int .i64 ws, .int .i64 t]] W fun e w' => e = .returned (.int .i64 A) ∧ Below W.heap.size W w') := fun W hb => by rw [← hA]; exact price_any ⟨n, o, a, ws, t⟩ W (HL0.out.below hb)
  have CP2 : Hid (∀ W, Below W0.heap.size W0 W → Calls Tryd.prog 13 #[.agg #[.int .i64 n2, .int .i64 o2, .int .u32 a2, .int .i64 ws2, .int .i64 t2]] W fun e w' => e = .returned (.int .i64 Bp) ∧ Below W.heap.size W w') := fun W hb => by rw [← hBp]; exact price_any ⟨n2, o2, a2, ws2, t2⟩ W (HL0.out.below hb)
  have CP3 : Hid (∀ W, Laid W → Calls Tryd.prog 13 #[.agg #[.int .i64 n, .int .i64 o2, .int .u32 a2, .int .i64 ws, .int .i64 t2]] W fun e w' => e = .returned (.int .i64 Cp) ∧ Below W.heap.size W w') := fun W hb => by rw [← hCp]; exact price_any ⟨n, o2, a2, ws, t2⟩ W hb
  have CM : Hid (∀ W, Laid W → Calls Tryd.prog 15 #[.int .i64 n] W fun e w' => e = .returned (.int .i64 M) ∧ Below W.heap.size W w') := fun W hb => by rw [← hM]; exact most_any n W hb
  have x0 : W0.cell? ⟨X, 0, none⟩ = some (.int .i64 n) := by rw [(row_cell HX0.out 0).1]; rfl
  have x1 : W0.cell? ⟨X, 1, none⟩ = some (.int .i64 o) := by rw [(row_cell HX0.out 1).1]; rfl
  have x2 : W0.cell? ⟨X, 2, none⟩ = some (.int .u32 a) := by rw [(row_cell HX0.out 2).1]; rfl
  have x3 : W0.cell? ⟨X, 3, none⟩ = some (.int .i64 ws) := by rw [(row_cell HX0.out 3).1]; rfl
  have x4 : W0.cell? ⟨X, 4, none⟩ = some (.int .i64 t) := by rw [(row_cell HX0.out 4).1]; rfl
  have y0 : W0.cell? ⟨X + 1, 0, none⟩ = some (.int .i64 n2) := by rw [(row_cell HY0.out 0).1]; rfl
  have y1 : W0.cell? ⟨X + 1, 1, none⟩ = some (.int .i64 o2) := by rw [(row_cell HY0.out 1).1]; rfl
  have y2 : W0.cell? ⟨X + 1, 2, none⟩ = some (.int .u32 a2) := by rw [(row_cell HY0.out 2).1]; rfl
  have y3 : W0.cell? ⟨X + 1, 3, none⟩ = some (.int .i64 ws2) := by rw [(row_cell HY0.out 3).1]; rfl
  have y4 : W0.cell? ⟨X + 1, 4, none⟩ = some (.int .i64 t2) := by rw [(row_cell HY0.out 4).1]; rfl
  clear hL hA hBp hCp hM
  have P1 : Hid (0 ≤ A ∧ A ≤ M ∧ A ≤ 100) := p1
  have P2 : Hid (0 ≤ Bp ∧ Bp ≤ 100) := ⟨p2.1, p2.2.2⟩
  have P3 : Hid (0 ≤ Cp ∧ Cp ≤ 100) := ⟨p3.1, p3.2.2⟩
  clear p1 p2 p3
  simp only [hX]
  go_enter Tryd.func8, Tryd.ntmps8
  go_upto_region 1 with fail
  clear hW0
  refine wp_region_held_drew (S := (fun w' => Below W0.heap.size W0 w' ∧ w'.cell? ⟨X, 0, none⟩ = some (.int .i64 n) ∧ w'.cell? ⟨X, 1, none⟩ = some (.int .i64 o) ∧ w'.cell? ⟨X, 2, none⟩ = some (.int .u32 a) ∧ w'.cell? ⟨X, 3, none⟩ = some (.int .i64 ws) ∧ w'.cell? ⟨X, 4, none⟩ = some (.int .i64 t) ∧ w'.cell? ⟨X + 1, 0, none⟩ = some (.int .i64 n2) ∧ w'.cell? ⟨X + 1, 1, none⟩ = some (.int .i64 o2) ∧ w'.cell? ⟨X + 1, 2, none⟩ = some (.int .u32 a2) ∧ w'.cell? ⟨X + 1, 3, none⟩ = some (.int .i64 ws2) ∧ w'.cell? ⟨X + 1, 4, none⟩ = some (.int .i64 t2))) (by kernel_rfl) ⟨(Below.refl _ _).drew, x0, x1, x2, x3, x4, y0, y1, y2, y3, y4⟩ (fun hHeld => ?_)
  clear x0 y0 x1 y1 x2 y2 x3 y3 x4 y4
  refine takeD (i := 0) (d := some 10) (v := ?_) _ rfl rfl (by kernel_rfl) (by kernel_rfl) (by kernel_rfl) (fun _ _ _ h => h) (by rfl) ?_ (by assumption) ?_
  rotate_left
  · (intro w hSw; (try dsimp only at hSw); go_simp) <;> with_reducible rfl
  try simp only [Act.put, List.setIfInBounds_toArray, List.set_cons_zero, List.set_cons_succ]
  refine takeD (i := 2) (d := some 12) (v := ?_) _ rfl rfl (by kernel_rfl) (by kernel_rfl) (by kernel_rfl) (fun _ _ _ h => h) (by rfl) ?_ (by assumption) ?_
  rotate_left
  · (intro w hSw; (try dsimp only at hSw); go_simp) <;> with_reducible rfl
  try simp only [Act.put, List.setIfInBounds_toArray, List.set_cons_zero, List.set_cons_succ]
  refine wpAnyH_ready (rs := [1]) (by kernel_rfl) (by simp) ?_
  refine AllReadyH.cons rfl (fun K hK => ?_) AllReadyH.nil
  (go_simp; go_at_call 13; refine (CP1.out _ hHeld.1).mono ?_; rintro e wt ⟨rfl, hbt⟩; try go_wp2_with fail)
  refine hK.out _ _ ?_ (fun hHeld => ?_)
  · exact ⟨hHeld.1.trans (hbt.mono hHeld.1.size), cell_later hbt hHeld.2.1, cell_later hbt hHeld.2.2.1, cell_later hbt hHeld.2.2.2.1, cell_later hbt hHeld.2.2.2.2.1, cell_later hbt hHeld.2.2.2.2.2.1, cell_later hbt hHeld.2.2.2.2.2.2.1, cell_later hbt hHeld.2.2.2.2.2.2.2.1, cell_later hbt hHeld.2.2.2.2.2.2.2.2.1, cell_later hbt hHeld.2.2.2.2.2.2.2.2.2.1, cell_later hbt hHeld.2.2.2.2.2.2.2.2.2.2⟩
  clear hK K
  try simp only [Act.put, List.setIfInBounds_toArray, List.set_cons_zero, List.set_cons_succ]
  refine wpAnyH_ready (rs := [3]) (by kernel_rfl) (by simp) ?_
  refine AllReadyH.cons rfl (fun K hK => ?_) AllReadyH.nil
  (go_simp; go_at_call 13; refine (CP2.out _ hHeld.1).mono ?_; rintro e wt ⟨rfl, hbt⟩; try go_wp2_with fail)
  refine hK.out _ _ ?_ (fun hHeld => ?_)
  · exact ⟨hHeld.1.trans (hbt.mono hHeld.1.size), cell_later hbt hHeld.2.1, cell_later hbt hHeld.2.2.1, cell_later hbt hHeld.2.2.2.1, cell_later hbt hHeld.2.2.2.2.1, cell_later hbt hHeld.2.2.2.2.2.1, cell_later hbt hHeld.2.2.2.2.2.2.1, cell_later hbt hHeld.2.2.2.2.2.2.2.1, cell_later hbt hHeld.2.2.2.2.2.2.2.2.1, cell_later hbt hHeld.2.2.2.2.2.2.2.2.2.1, cell_later hbt hHeld.2.2.2.2.2.2.2.2.2.2⟩
  clear hK K
  try simp only [Act.put, List.setIfInBounds_toArray, List.set_cons_zero, List.set_cons_succ]
  refine takeD (i := 4) (d := some 5) (v := ?_) _ rfl rfl (by kernel_rfl) (by kernel_rfl) (by kernel_rfl) (fun _ _ _ h => h) (by rfl) ?_ (by assumption) ?_
  rotate_left
  · (intro w hSw; (try dsimp only at hSw); go_simp) <;> with_reducible rfl
  try simp only [Act.put, List.setIfInBounds_toArray, List.set_cons_zero, List.set_cons_succ]
  refine takeD (i := 5) (d := some 6) (v := ?_) _ rfl rfl (by kernel_rfl) (by kernel_rfl) (by kernel_rfl) (fun _ _ _ h => h) (by rfl) ?_ (by assumption) ?_
  rotate_left
  · (intro w hSw; (try dsimp only at hSw); go_simp) <;> with_reducible rfl
  try simp only [Act.put, List.setIfInBounds_toArray, List.set_cons_zero, List.set_cons_succ]
  refine wpAnyH_done (by kernel_rfl) ?_ _
  obtain ⟨w1, hw1⟩ : ∃ W, W = wt := ⟨_, rfl⟩
  have hb : Below W0.heap.size W0 w1 := by rw [hw1]; exact hHeld.1
  have HX1 : Hid (w1.heap[X]? = some (.cells #[.int .i64 n, .int .i64 o, .int .u32 a, .int .i64 ws, .int .i64 t] 25 (0, 0))) := (hb.block X (by have := S0.out; omega)).trans HX0.out
  have HY1 : Hid (w1.heap[X + 1]? = some (.cells #[.int .i64 n2, .int .i64 o2, .int .u32 a2, .int .i64 ws2, .int .i64 t2] 25 (0, 0))) := (hb.block (X + 1) (by have := S0.out; omega)).trans HY0.out
  have B1 : Hid (Below X w w1) := B0.out.trans (hb.mono (by have := S0.out; omega))
  have HL1 : Hid (Laid w1) := HLw.out.below (by rw [hX]; exact B1.out)
  have S1 : Hid (X + 2 ≤ w1.heap.size) := by have := S0.out; have := hb.size; unfold Hid; omega
  simp only [← hw1]
  clear hb hHeld hw1 HX0 HY0 S0 B0 HL0 CP1 CP2
  have k0 : decide (A < 0) = false := by have := P1.out; simp; omega
  have k1 : decide (Bp < 0) = false := by have := P2.out; simp; omega
  have k2 : decide (M < A) = false := by have := P1.out; simp; omega
  have x0 : w1.cell? ⟨X, 0, none⟩ = some (.int .i64 n) := by rw [(row_cell HX1.out 0).1]; rfl
  have x1 : w1.cell? ⟨X, 1, none⟩ = some (.int .i64 o) := by rw [(row_cell HX1.out 1).1]; rfl
  have x2 : w1.cell? ⟨X, 2, none⟩ = some (.int .u32 a) := by rw [(row_cell HX1.out 2).1]; rfl
  have x3 : w1.cell? ⟨X, 3, none⟩ = some (.int .i64 ws) := by rw [(row_cell HX1.out 3).1]; rfl
  have x4 : w1.cell? ⟨X, 4, none⟩ = some (.int .i64 t) := by rw [(row_cell HX1.out 4).1]; rfl
  have y0 : w1.cell? ⟨X + 1, 0, none⟩ = some (.int .i64 n2) := by rw [(row_cell HY1.out 0).1]; rfl
  have y1 : w1.cell? ⟨X + 1, 1, none⟩ = some (.int .i64 o2) := by rw [(row_cell HY1.out 1).1]; rfl
  have y2 : w1.cell? ⟨X + 1, 2, none⟩ = some (.int .u32 a2) := by rw [(row_cell HY1.out 2).1]; rfl
  have y3 : w1.cell? ⟨X + 1, 3, none⟩ = some (.int .i64 ws2) := by rw [(row_cell HY1.out 3).1]; rfl
  have y4 : w1.cell? ⟨X + 1, 4, none⟩ = some (.int .i64 t2) := by rw [(row_cell HY1.out 4).1]; rfl
  go_wp2_with fail
  refine (CM.out w1 HL1.out).mono ?_
  rintro e w2 ⟨rfl, hb⟩
  have HX2 : Hid (w2.heap[X]? = some (.cells #[.int .i64 n, .int .i64 o, .int .u32 a, .int .i64 ws, .int .i64 t] 25 (0, 0))) := (hb.block X (by have := S1.out; omega)).trans HX1.out
  have HY2 : Hid (w2.heap[X + 1]? = some (.cells #[.int .i64 n2, .int .i64 o2, .int .u32 a2, .int .i64 ws2, .int .i64 t2] 25 (0, 0))) := (hb.block (X + 1) (by have := S1.out; omega)).trans HY1.out
  have B2 : Hid (Below X w w2) := B1.out.trans (hb.mono (by have := S1.out; omega))
  have S2 : Hid (X + 2 ≤ w2.heap.size) := by have := S1.out; have := hb.size; unfold Hid; omega
  clear hb HX1 HY1 S1 B1 HL1 CM x0 y0 x1 y1 x2 y2 x3 y3 x4 y4
  go_upto_region 4 with fail
  go_cut [5, 6, 54] (fun av bv cv wx => av = .int .i64 A ∧ bv = .int .i64 Bp ∧ cv = .bool false ∧ wx = w2)
  case first =>
    have x0 : w2.cell? ⟨X, 0, none⟩ = some (.int .i64 n) := by rw [(row_cell HX2.out 0).1]; rfl
    have x1 : w2.cell? ⟨X, 1, none⟩ = some (.int .i64 o) := by rw [(row_cell HX2.out 1).1]; rfl
    have x2 : w2.cell? ⟨X, 2, none⟩ = some (.int .u32 a) := by rw [(row_cell HX2.out 2).1]; rfl
    have x3 : w2.cell? ⟨X, 3, none⟩ = some (.int .i64 ws) := by rw [(row_cell HX2.out 3).1]; rfl
    have x4 : w2.cell? ⟨X, 4, none⟩ = some (.int .i64 t) := by rw [(row_cell HX2.out 4).1]; rfl
    have y0 : w2.cell? ⟨X + 1, 0, none⟩ = some (.int .i64 n2) := by rw [(row_cell HY2.out 0).1]; rfl
    have y1 : w2.cell? ⟨X + 1, 1, none⟩ = some (.int .i64 o2) := by rw [(row_cell HY2.out 1).1]; rfl
    have y2 : w2.cell? ⟨X + 1, 2, none⟩ = some (.int .u32 a2) := by rw [(row_cell HY2.out 2).1]; rfl
    have y3 : w2.cell? ⟨X + 1, 3, none⟩ = some (.int .i64 ws2) := by rw [(row_cell HY2.out 3).1]; rfl
    have y4 : w2.cell? ⟨X + 1, 4, none⟩ = some (.int .i64 t2) := by rw [(row_cell HY2.out 4).1]; rfl
    by_cases h0 : 0 < A
    rotate_left
    · have l0 : decide (0 < A) = false := by simp only [h0, decide_false]
      clear h0
      go_wp2_with fail
      go_meet
      exact ⟨rfl, rfl, rfl, rfl⟩
    have l0 : decide (0 < A) = true := by simp only [h0, decide_true]
    by_cases h1 : 0 < Bp
    rotate_left
    · have l1 : decide (0 < Bp) = false := by simp only [h1, decide_false]
      clear h0 h1
      go_wp2_with fail
      go_meet
      exact ⟨rfl, rfl, rfl, rfl⟩
    have l1 : decide (0 < Bp) = true := by simp only [h1, decide_true]
    by_cases h2 : n = n2
    rotate_left
    · have l2 : (n == n2) = false := by simpa using h2
      clear h0 h1 h2
      go_wp2_with fail
      go_meet
      exact ⟨rfl, rfl, rfl, rfl⟩
    have l2 : (n == n2) = true := by simpa using h2
    obtain ⟨_, q1, q2, q3⟩ := price_pos (q := ⟨n, o, a, ws, t⟩) (by rw [HA.out.1]; exact h0)
    obtain ⟨_, r1, r2, r3⟩ := price_pos (q := ⟨n2, o2, a2, ws2, t2⟩) (by rw [HA.out.2.1]; exact h1)
    rw [HA.out.1] at q1
    rw [HA.out.2.1] at r1
    replace q1 : A = priceL.getD n.toNat 0 + ws := q1
    replace r1 : Bp = priceL.getD n2.toNat 0 + ws2 := r1
    replace q2 : 0 ≤ ws := q2
    replace q3 : ws ≤ 32 := q3
    replace r2 : 0 ≤ ws2 := r2
    replace r3 : ws2 ≤ 32 := r3
    rw [← h2] at r1
    have e1 : IntKind.i64.wrap (A - Bp) = A - Bp := by rw [IntKind.wrap_i64]; have := P1.out; have := P2.out; omega
    have e2 : IntKind.i64.wrap (ws - ws2) = ws - ws2 := by rw [IntKind.wrap_i64]; omega
    have l3 : (A - Bp != ws - ws2) = false := by simp; omega
    clear q1 r1 q2 q3 r2 r3 h0 h1 h2
    go_wp2_with fail
    go_meet
    exact ⟨rfl, rfl, rfl, rfl⟩
  case rest =>
    obtain ⟨w3, hw3⟩ : ∃ w', w' = wc := ⟨_, rfl⟩
    subst hw3
    obtain ⟨rfl, rfl, rfl, rfl⟩ := hcut
    obtain ⟨Z, hZ⟩ : ∃ Z, w3.heap.size = Z := ⟨_, rfl⟩
    have hXZ : Hid (X + 1 < Z) := by have := S2.out; unfold Hid; omega
    have x0 : w3.cell? ⟨X, 0, none⟩ = some (.int .i64 n) := by rw [(row_cell HX2.out 0).1]; rfl
    have x1 : w3.cell? ⟨X, 1, none⟩ = some (.int .i64 o) := by rw [(row_cell HX2.out 1).1]; rfl
    have x2 : w3.cell? ⟨X, 2, none⟩ = some (.int .u32 a) := by rw [(row_cell HX2.out 2).1]; rfl
    have x3 : w3.cell? ⟨X, 3, none⟩ = some (.int .i64 ws) := by rw [(row_cell HX2.out 3).1]; rfl
    have x4 : w3.cell? ⟨X, 4, none⟩ = some (.int .i64 t) := by rw [(row_cell HX2.out 4).1]; rfl
    go_upto_region 7 with fail
    obtain ⟨w4, hw4⟩ : ∃ W, w3.alloc (.cells #[.int .i64 n, .int .i64 o, .int .u32 a, .int .i64 ws, .int .i64 t] 25) = W := ⟨_, rfl⟩
    rw [hw4]
    have b4 : Below w3.heap.size w3 w4 := by rw [← hw4]; exact (Below.refl _ _).alloc (Nat.le_refl _) _
    have HY4 : Hid (w4.heap[X + 1]? = some (.cells #[.int .i64 n2, .int .i64 o2, .int .u32 a2, .int .i64 ws2, .int .i64 t2] 25 (0, 0))) := (b4.block (X + 1) (by rw [hZ]; exact hXZ.out)).trans HY2.out
    have HZ4 : Hid (w4.heap[Z]? = some (.cells #[.int .i64 n, .int .i64 o, .int .u32 a, .int .i64 ws, .int .i64 t] 25 (0, 0))) := by unfold Hid; rw [← hw4, ← hZ]; exact heap_alloc_new _ _
    have B4 : Hid (Below X w w4) := B2.out.trans (b4.mono (by have := hXZ.out; omega))
    clear hw4 b4 hZ HX2 HY2 B2 S2 x0 x1 x2 x3 x4
    have y1 : w4.cell? ⟨X + 1, 1, none⟩ = some (.int .i64 o2) := by rw [(row_cell HY4.out 1).1]; rfl
    have y2 : w4.cell? ⟨X + 1, 2, none⟩ = some (.int .u32 a2) := by rw [(row_cell HY4.out 2).1]; rfl
    have y4 : w4.cell? ⟨X + 1, 4, none⟩ = some (.int .i64 t2) := by rw [(row_cell HY4.out 4).1]; rfl
    refine wp_region_held_drew (S := (fun w' => w'.cell? ⟨X + 1, 1, none⟩ = some (.int .i64 o2) ∧ w'.cell? ⟨X + 1, 2, none⟩ = some (.int .u32 a2) ∧ w'.cell? ⟨X + 1, 4, none⟩ = some (.int .i64 t2))) (by kernel_rfl) ⟨y1, y2, y4⟩ (fun hHeld => ?_)
    clear y1 y2 y4 HY4
    refine takeD (i := 0) (d := some 56) (v := ?_) _ rfl rfl (by kernel_rfl) (by kernel_rfl) (by kernel_rfl) (fun _ _ _ h => h) (by rfl) ?_ (by assumption) ?_
    rotate_left
    · (intro w hSw; (try dsimp only at hSw); go_simp) <;> with_reducible rfl
    try simp only [Act.put, List.setIfInBounds_toArray, List.set_cons_zero, List.set_cons_succ]
    refine takeD (i := 1) (d := some 57) (v := ?_) _ rfl rfl (by kernel_rfl) (by kernel_rfl) (by kernel_rfl) (fun _ _ _ h => h) (by rfl) ?_ (by assumption) ?_
    rotate_left
    · (intro w hSw; (try dsimp only at hSw); go_simp) <;> with_reducible rfl
    try simp only [Act.put, List.setIfInBounds_toArray, List.set_cons_zero, List.set_cons_succ]
    refine takeD (i := 2) (d := some 58) (v := ?_) _ rfl rfl (by kernel_rfl) (by kernel_rfl) (by kernel_rfl) (fun _ _ _ h => h) (by rfl) ?_ (by assumption) ?_
    rotate_left
    · (intro w hSw; (try dsimp only at hSw); go_simp) <;> with_reducible rfl
    try simp only [Act.put, List.setIfInBounds_toArray, List.set_cons_zero, List.set_cons_succ]
    refine takeD (i := 3) (d := some 59) (v := ?_) _ rfl rfl (by kernel_rfl) (by kernel_rfl) (by kernel_rfl) (fun _ _ _ h => h) (by rfl) ?_ (by assumption) ?_
    rotate_left
    · (intro w hSw; (try dsimp only at hSw); go_simp) <;> with_reducible rfl
    try simp only [Act.put, List.setIfInBounds_toArray, List.set_cons_zero, List.set_cons_succ]
    refine takeD (i := 4) (d := some 60) (v := ?_) _ rfl rfl (by kernel_rfl) (by kernel_rfl) (by kernel_rfl) (fun _ _ _ h => h) (by rfl) ?_ (by assumption) ?_
    rotate_left
    · (intro w hSw; (try dsimp only at hSw); go_simp) <;> with_reducible rfl
    try simp only [Act.put, List.setIfInBounds_toArray, List.set_cons_zero, List.set_cons_succ]
    refine takeD (i := 5) (d := some 61) (v := ?_) _ rfl rfl (by kernel_rfl) (by kernel_rfl) (by kernel_rfl) (fun _ _ _ h => h) (by rfl) ?_ (by assumption) ?_
    rotate_left
    · (intro w hSw; (try dsimp only at hSw); go_simp) <;> with_reducible rfl
    try simp only [Act.put, List.setIfInBounds_toArray, List.set_cons_zero, List.set_cons_succ]
    refine takeD (i := 6) (d := some 62) (v := ?_) _ rfl rfl (by kernel_rfl) (by kernel_rfl) (by kernel_rfl) (fun _ _ _ h => h) (by rfl) ?_ (by assumption) ?_
    rotate_left
    · (intro w hSw; (try dsimp only at hSw); go_simp) <;> with_reducible rfl
    try simp only [Act.put, List.setIfInBounds_toArray, List.set_cons_zero, List.set_cons_succ]
    obtain ⟨V0, hV0⟩ : ∃ V, w4.drew = V := ⟨_, rfl⟩
    have HZV0 : Hid (V0.heap[Z]? = some (.cells #[.int .i64 n, .int .i64 o, .int .u32 a, .int .i64 ws, .int .i64 t] 25 (0, 0))) := by rw [← hV0]; exact HZ4.out
    have BV0 : Hid (Below X w V0) := by rw [← hV0]; exact B4.out.drew
    simp only [hV0] at hHeld ⊢
    clear hV0 HZ4 B4
    have z0 : V0.cell? ⟨Z, 0, none⟩ = some (.int .i64 n) := by rw [(row_cell HZV0.out 0).1]; rfl
    have zz0 : V0.frozen? ⟨Z, 0, none⟩ = false := (row_cell HZV0.out 0).2
    have z1 : V0.cell? ⟨Z, 1, none⟩ = some (.int .i64 o) := by rw [(row_cell HZV0.out 1).1]; rfl
    have zz1 : V0.frozen? ⟨Z, 1, none⟩ = false := (row_cell HZV0.out 1).2
    have z2 : V0.cell? ⟨Z, 2, none⟩ = some (.int .u32 a) := by rw [(row_cell HZV0.out 2).1]; rfl
    have zz2 : V0.frozen? ⟨Z, 2, none⟩ = false := (row_cell HZV0.out 2).2
    have z3 : V0.cell? ⟨Z, 3, none⟩ = some (.int .i64 ws) := by rw [(row_cell HZV0.out 3).1]; rfl
    have zz3 : V0.frozen? ⟨Z, 3, none⟩ = false := (row_cell HZV0.out 3).2
    have z4 : V0.cell? ⟨Z, 4, none⟩ = some (.int .i64 t) := by rw [(row_cell HZV0.out 4).1]; rfl
    have zz4 : V0.frozen? ⟨Z, 4, none⟩ = false := (row_cell HZV0.out 4).2
    refine wpAnyH_ready (rs := [7]) (by kernel_rfl) (by simp) ?_
    refine AllReadyH.cons rfl (fun K hK => ?_) AllReadyH.nil
    try go_simp
    obtain ⟨V1, hV1⟩ : ∃ W, V0.setCell ⟨Z, 2, none⟩ (.int .u32 a2) = W := ⟨_, rfl⟩
    have HZV1 : Hid (V1.heap[Z]? = some (.cells #[.int .i64 n, .int .i64 o, .int .u32 a2, .int .i64 ws, .int .i64 t] 25 (0, 0))) := by rw [← hV1]; exact set_at HZV0.out 2 _
    have BV1 : Hid (Below X w V1) := by rw [← hV1]; exact BV0.out.setCell (by show X ≤ Z; have := hXZ.out; omega) _
    have SV : V1.cell? ⟨X + 1, 1, none⟩ = some (.int .i64 o2) ∧ V1.cell? ⟨X + 1, 2, none⟩ = some (.int .u32 a2) ∧ V1.cell? ⟨X + 1, 4, none⟩ = some (.int .i64 t2) := by
      have hne : X + 1 ≠ Z := by have := hXZ.out; omega
      rw [← hV1]
      refine ⟨(World.cell?_setCell_other _ _ _ _ (by simp [hne])).trans hHeld.1, (World.cell?_setCell_other _ _ _ _ (by simp [hne])).trans hHeld.2.1, (World.cell?_setCell_other _ _ _ _ (by simp [hne])).trans hHeld.2.2⟩
    try rw [hV1]
    refine hK.out _ _ SV (fun hHeld => ?_)
    clear hK K SV hV1 z0 zz0 z1 zz1 z2 zz2 z3 zz3 z4 zz4
    try simp only [Act.put, List.setIfInBounds_toArray, List.set_cons_zero, List.set_cons_succ]
    refine takeD (i := 8) (d := some 63) (v := ?_) _ rfl rfl (by kernel_rfl) (by kernel_rfl) (by kernel_rfl) (fun _ _ _ h => h) (by rfl) ?_ (by assumption) ?_
    rotate_left
    · (intro w hSw; (try dsimp only at hSw); go_simp) <;> with_reducible rfl
    try simp only [Act.put, List.setIfInBounds_toArray, List.set_cons_zero, List.set_cons_succ]
    have z0 : V1.cell? ⟨Z, 0, none⟩ = some (.int .i64 n) := by rw [(row_cell HZV1.out 0).1]; rfl
    have zz0 : V1.frozen? ⟨Z, 0, none⟩ = false := (row_cell HZV1.out 0).2
    have z1 : V1.cell? ⟨Z, 1, none⟩ = some (.int .i64 o) := by rw [(row_cell HZV1.out 1).1]; rfl
    have zz1 : V1.frozen? ⟨Z, 1, none⟩ = false := (row_cell HZV1.out 1).2
    have z2 : V1.cell? ⟨Z, 2, none⟩ = some (.int .u32 a2) := by rw [(row_cell HZV1.out 2).1]; rfl
    have zz2 : V1.frozen? ⟨Z, 2, none⟩ = false := (row_cell HZV1.out 2).2
    have z3 : V1.cell? ⟨Z, 3, none⟩ = some (.int .i64 ws) := by rw [(row_cell HZV1.out 3).1]; rfl
    have zz3 : V1.frozen? ⟨Z, 3, none⟩ = false := (row_cell HZV1.out 3).2
    have z4 : V1.cell? ⟨Z, 4, none⟩ = some (.int .i64 t) := by rw [(row_cell HZV1.out 4).1]; rfl
    have zz4 : V1.frozen? ⟨Z, 4, none⟩ = false := (row_cell HZV1.out 4).2
    refine wpAnyH_ready (rs := [9]) (by kernel_rfl) (by simp) ?_
    refine AllReadyH.cons rfl (fun K hK => ?_) AllReadyH.nil
    try go_simp
    obtain ⟨V2, hV2⟩ : ∃ W, V1.setCell ⟨Z, 1, none⟩ (.int .i64 o2) = W := ⟨_, rfl⟩
    have HZV2 : Hid (V2.heap[Z]? = some (.cells #[.int .i64 n, .int .i64 o2, .int .u32 a2, .int .i64 ws, .int .i64 t] 25 (0, 0))) := by rw [← hV2]; exact set_at HZV1.out 1 _
    have BV2 : Hid (Below X w V2) := by rw [← hV2]; exact BV1.out.setCell (by show X ≤ Z; have := hXZ.out; omega) _
    have SV : V2.cell? ⟨X + 1, 1, none⟩ = some (.int .i64 o2) ∧ V2.cell? ⟨X + 1, 2, none⟩ = some (.int .u32 a2) ∧ V2.cell? ⟨X + 1, 4, none⟩ = some (.int .i64 t2) := by
      have hne : X + 1 ≠ Z := by have := hXZ.out; omega
      rw [← hV2]
      refine ⟨(World.cell?_setCell_other _ _ _ _ (by simp [hne])).trans hHeld.1, (World.cell?_setCell_other _ _ _ _ (by simp [hne])).trans hHeld.2.1, (World.cell?_setCell_other _ _ _ _ (by simp [hne])).trans hHeld.2.2⟩
    try rw [hV2]
    refine hK.out _ _ SV (fun hHeld => ?_)
    clear hK K SV hV2 z0 zz0 z1 zz1 z2 zz2 z3 zz3 z4 zz4
    try simp only [Act.put, List.setIfInBounds_toArray, List.set_cons_zero, List.set_cons_succ]
    refine takeD (i := 10) (d := some 64) (v := ?_) _ rfl rfl (by kernel_rfl) (by kernel_rfl) (by kernel_rfl) (fun _ _ _ h => h) (by rfl) ?_ (by assumption) ?_
    rotate_left
    · (intro w hSw; (try dsimp only at hSw); go_simp) <;> with_reducible rfl
    try simp only [Act.put, List.setIfInBounds_toArray, List.set_cons_zero, List.set_cons_succ]
    have z0 : V2.cell? ⟨Z, 0, none⟩ = some (.int .i64 n) := by rw [(row_cell HZV2.out 0).1]; rfl
    have zz0 : V2.frozen? ⟨Z, 0, none⟩ = false := (row_cell HZV2.out 0).2
    have z1 : V2.cell? ⟨Z, 1, none⟩ = some (.int .i64 o2) := by rw [(row_cell HZV2.out 1).1]; rfl
    have zz1 : V2.frozen? ⟨Z, 1, none⟩ = false := (row_cell HZV2.out 1).2
    have z2 : V2.cell? ⟨Z, 2, none⟩ = some (.int .u32 a2) := by rw [(row_cell HZV2.out 2).1]; rfl
    have zz2 : V2.frozen? ⟨Z, 2, none⟩ = false := (row_cell HZV2.out 2).2
    have z3 : V2.cell? ⟨Z, 3, none⟩ = some (.int .i64 ws) := by rw [(row_cell HZV2.out 3).1]; rfl
    have zz3 : V2.frozen? ⟨Z, 3, none⟩ = false := (row_cell HZV2.out 3).2
    have z4 : V2.cell? ⟨Z, 4, none⟩ = some (.int .i64 t) := by rw [(row_cell HZV2.out 4).1]; rfl
    have zz4 : V2.frozen? ⟨Z, 4, none⟩ = false := (row_cell HZV2.out 4).2
    refine wpAnyH_ready (rs := [11]) (by kernel_rfl) (by simp) ?_
    refine AllReadyH.cons rfl (fun K hK => ?_) AllReadyH.nil
    try go_simp
    obtain ⟨V3, hV3⟩ : ∃ W, V2.setCell ⟨Z, 4, none⟩ (.int .i64 t2) = W := ⟨_, rfl⟩
    have HZV3 : Hid (V3.heap[Z]? = some (.cells #[.int .i64 n, .int .i64 o2, .int .u32 a2, .int .i64 ws, .int .i64 t2] 25 (0, 0))) := by rw [← hV3]; exact set_at HZV2.out 4 _
    have BV3 : Hid (Below X w V3) := by rw [← hV3]; exact BV2.out.setCell (by show X ≤ Z; have := hXZ.out; omega) _
    have SV : V3.cell? ⟨X + 1, 1, none⟩ = some (.int .i64 o2) ∧ V3.cell? ⟨X + 1, 2, none⟩ = some (.int .u32 a2) ∧ V3.cell? ⟨X + 1, 4, none⟩ = some (.int .i64 t2) := by
      have hne : X + 1 ≠ Z := by have := hXZ.out; omega
      rw [← hV3]
      refine ⟨(World.cell?_setCell_other _ _ _ _ (by simp [hne])).trans hHeld.1, (World.cell?_setCell_other _ _ _ _ (by simp [hne])).trans hHeld.2.1, (World.cell?_setCell_other _ _ _ _ (by simp [hne])).trans hHeld.2.2⟩
    try rw [hV3]
    refine hK.out _ _ SV (fun hHeld => ?_)
    clear hK K SV hV3 z0 zz0 z1 zz1 z2 zz2 z3 zz3 z4 zz4
    try simp only [Act.put, List.setIfInBounds_toArray, List.set_cons_zero, List.set_cons_succ]
    refine wpAnyH_done (by kernel_rfl) ?_ _
    clear hHeld HZV0 HZV1 HZV2 BV0 BV1 BV2
    have HL4 : Hid (Laid V3) := HLw.out.below (by rw [hX]; exact BV3.out)
    have z0 : V3.cell? ⟨Z, 0, none⟩ = some (.int .i64 n) := by rw [(row_cell HZV3.out 0).1]; rfl
    have z1 : V3.cell? ⟨Z, 1, none⟩ = some (.int .i64 o2) := by rw [(row_cell HZV3.out 1).1]; rfl
    have z2 : V3.cell? ⟨Z, 2, none⟩ = some (.int .u32 a2) := by rw [(row_cell HZV3.out 2).1]; rfl
    have z3 : V3.cell? ⟨Z, 3, none⟩ = some (.int .i64 ws) := by rw [(row_cell HZV3.out 3).1]; rfl
    have z4 : V3.cell? ⟨Z, 4, none⟩ = some (.int .i64 t2) := by rw [(row_cell HZV3.out 4).1]; rfl
    go_wp2_with fail
    refine (CP3.out V3 HL4.out).mono ?_
    rintro e w5 ⟨rfl, hb⟩
    have B5 : Hid (Below X w w5) := BV3.out.trans (hb.mono (by have := (Array.getElem?_eq_some_iff.1 HZV3.out).1; have := hXZ.out; omega))
    have S5 : Hid (X ≤ w5.heap.size) := by have := hb.size; have := (Array.getElem?_eq_some_iff.1 HZV3.out).1; have := hXZ.out; unfold Hid; omega
    clear hb HL4 CP3 HZV3 BV3 z0 z1 z2 z3 z4
    go_upto_region 9 with fail
    go_cut [5, 77] (fun av cv wx => av = .int .i64 A ∧ cv = .bool false ∧ wx = w5)
    case first =>
      by_cases h0 : 0 < A
      rotate_left
      · have l0 : decide (0 < A) = false := by simp only [h0, decide_false]
        clear h0
        go_wp2_with fail
        go_meet
        exact ⟨rfl, rfl, rfl⟩
      have l0 : decide (0 < A) = true := by simp only [h0, decide_true]
      by_cases h1 : 0 < Cp
      rotate_left
      · have l1 : decide (0 < Cp) = false := by simp only [h1, decide_false]
        clear h0 h1
        go_wp2_with fail
        go_meet
        exact ⟨rfl, rfl, rfl⟩
      have l1 : decide (0 < Cp) = true := by simp only [h1, decide_true]
      obtain ⟨_, q1, _⟩ := price_pos (q := ⟨n, o, a, ws, t⟩) (by rw [HA.out.1]; exact h0)
      obtain ⟨_, r1, _⟩ := price_pos (q := ⟨n, o2, a2, ws, t2⟩) (by rw [HA.out.2.2]; exact h1)
      rw [HA.out.1] at q1
      rw [HA.out.2.2] at r1
      have l2 : (A != Cp) = false := by simp only [bne_eq_false_iff_eq]; rw [q1, r1]
      clear q1 r1 h0 h1
      go_wp2_with fail
      go_meet
      exact ⟨rfl, rfl, rfl⟩
    case rest =>
      obtain ⟨w6, hw6⟩ : ∃ w', w' = wc := ⟨_, rfl⟩
      subst hw6
      obtain ⟨rfl, rfl, rfl⟩ := hcut
      clear P1 P2 P3 HA hXZ
      go_wp2_with fail
      go_loopw [9] (fun iv wr => DR X w iv wr) (fun i _ => 28 - (intOf i).toNat)
      case atStart => exact ⟨⟨0, Nat.zero_le _, rfl, B5.out, S5.out⟩⟩
      case round =>
        clear B5 S5
        obtain ⟨⟨j, hj, rfl, hb, hs⟩⟩ := hrel
        have HB := Lib.hid hb
        have HS := Lib.hid hs
        have HLr : Hid (Laid wr) := HLw.out.below (by rw [hX]; exact hb)
        clear hb hs
        by_cases hlt : j < 28
        rotate_left
        · have hjI : ¬ (j : Int) < 28 := by omega
          have KN := Lib.hid (known_any wr HLr.out)
          clear hlt hj
          go_wp2_with fail
          refine KN.out.mono ?_
          rintro e w7 ⟨rfl, hb⟩
          have B7 : Hid (Below X w w7) := HB.out.trans (hb.mono HS.out)
          clear hb KN
          go_wp2_with fail
          go_ret
          exact ⟨rfl, B7.out⟩
        have hjI : (j : Int) < 28 := by omega
        have HJ : Hid (j < 28) := hlt
        have ml := most_le j hlt
        obtain ⟨m, hm⟩ : ∃ m, mostV (j : Int) = m := ⟨_, rfl⟩
        rw [hm] at ml
        have M1 : Hid (∀ W, Laid W → Calls Tryd.prog 15 #[.int .i64 (j : Int)] W fun e w' => e = .returned (.int .i64 m) ∧ Below W.heap.size W w') := fun W h => by rw [← hm]; exact most_any (j : Int) W h
        have l0 : decide (m < 1) = false := by simp; omega
        have l1 : decide (35 < m) = false := by simp; omega
        clear hlt hj ml hm
        go_wp2_with fail
        refine (M1.out wr HLr.out).mono ?_
        rintro e w7 ⟨rfl, hb⟩
        have B7 : Hid (Below X w w7) := HB.out.trans (hb.mono HS.out)
        have S7 : Hid (X ≤ w7.heap.size) := Nat.le_trans HS.out hb.size
        have HL7 : Hid (Laid w7) := HLr.out.below hb
        clear hb HB HS HLr
        go_wp2_with fail
        refine (M1.out w7 HL7.out).mono ?_
        rintro e w8 ⟨rfl, hb⟩
        have B8 : Hid (Below X w w8) := B7.out.trans (hb.mono S7.out)
        have S8 : Hid (X ≤ w8.heap.size) := Nat.le_trans S7.out hb.size
        clear hb B7 S7 HL7
        go_wp2_with fail
        go_roundw
        case rel =>
          have Q : DR X w (.int .i64 ((j : Int) + 1)) w8 := ⟨⟨j + 1, HJ.out, by go_num, B8.out, S8.out⟩⟩
          first | exact Q | ((repeat apply Exists.intro); exact ⟨Q, rfl⟩)
        case measure => have := HJ.out; simp [intOf]; omega
end Go.Proofs.YtglpbngdikfliaaDoor.Ca
