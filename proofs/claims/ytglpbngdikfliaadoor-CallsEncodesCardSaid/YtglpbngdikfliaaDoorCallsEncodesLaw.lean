/-
  CallsEncodes' walk. Each statement bears its own conditions.
-/
import Derived.Test.YtglpbngdikfliaaDoorCaK
namespace Go.Proofs.YtglpbngdikfliaaDoor.Ca
open Go.RowKit Go.Proofs.YtglpbngdikfliaaDoor.F
set_option linter.unusedVariables false
set_option linter.unusedSimpArgs false
theorem exec_neq16 {op : Oper} {a : Act} {w : World} {D : List Int} (x y : Operand) (ty : TypeId) (ho : op.op = .binOp .neq 23 x y ty) (hx : a.eval x = .agg (RG D)) (hy : a.eval y = .agg (RG D)) (hC : Regs D) : (execOp a.eval op).run Tryd.prog w = .ok (.value (.bool false)) w := by
  unfold execOp
  simp only [ho, hx, hy, Sem.run_bind, run_eqGuard_agg (P := Tryd.prog) w .neq 23 x y _ _ (by kernel_rfl), run_neq16 D D hC hC w, all16, Result.andThen_ok, Sem.run_pure, Bool.not_true]
theorem list16 {l : List Int} (h : l.length = 16) : ∃ z0 z1 z2 z3 z4 z5 z6 z7 z8 z9 z10 z11 z12 z13 z14 z15 : Int, l = [z0, z1, z2, z3, z4, z5, z6, z7, z8, z9, z10, z11, z12, z13, z14, z15] := by
  match l, h with
  | [z0, z1, z2, z3, z4, z5, z6, z7, z8, z9, z10, z11, z12, z13, z14, z15], _ => exact ⟨z0, z1, z2, z3, z4, z5, z6, z7, z8, z9, z10, z11, z12, z13, z14, z15, rfl⟩
theorem eqi16 (D : List Int) (hD : Regs D) (w : World) : (Op.equalIn 10000 23 (.agg (RG D)) (.agg (RG D))).run Tryd.prog w = .ok true w := by
  have := eq_array (P := Tryd.prog) (w := w) 9999 23 22 16 1 (RG D) (RG D) Tryd.underlying23 (by kernel_rfl) (fun i => D.getD i 0 == D.getD i 0) (fun i hi => ⟨_, _, run_part_int Tryd.underlying22 w (by rw [Nat.mul_one]; exact RG_at (by rw [hD.len]; exact hi)), run_part_int Tryd.underlying22 w (by rw [Nat.mul_one]; exact RG_at (by rw [hD.len]; exact hi)), run_equalIn_int w 9998 _ _ _ _ _ Tryd.underlying22⟩)
  rw [all16] at this
  exact this
theorem enc_bad {q : Rq} {r : List Int} (h : validV q = false) : encV q r = r ∧ priceV q = 0 := by
  unfold encV priceV
  rw [if_neg (by rw [h]; simp), if_neg (by rw [h]; simp)]
  exact ⟨rfl, rfl⟩
theorem enc_all {q : Rq} {r : List Int} (ha : 0 ≤ q.at_ ∧ q.at_ ≤ 4294967295) (hr : Regs r) : Regs (encV q r) := by
  cases hv : validV q with
  | true => exact enc_regs hv ha hr
  | false => rw [(enc_bad hv).1]; exact hr
set_option maxRecDepth 100000 in
set_option maxHeartbeats 32000000 in
theorem encodes_walk (n o a ws t : Int) (r : List Int) (ha : U32 a) (hr : Regs r) (w : World) (hL : Laid w) : Calls Tryd.prog 4 #[.agg #[.int .i64 n, .int .i64 o, .int .u32 a, .int .i64 ws, .int .i64 t], .agg (RG r)] w fun e w' => e = .returned (.bool true) ∧ Below w.heap.size w w' := by
  have hsr := hr.size
  have HR := Lib.hid hr
  obtain ⟨X, hX⟩ : ∃ X, w.heap.size = X := ⟨_, rfl⟩
  obtain ⟨W0, hW0⟩ : ∃ W0, (w.alloc (.cells #[.int .i64 n, .int .i64 o, .int .u32 a, .int .i64 ws, .int .i64 t] 25)).alloc (.cells (RG r) 23) = W0 := ⟨_, rfl⟩
  have B_W0 : Hid (Below X w W0) := by rw [← hW0, ← hX]; exact ((Below.refl _ _).alloc (Nat.le_refl _) _).alloc (by simp) _
  have HX_W0 : Hid (W0.heap[X]? = some (.cells #[.int .i64 n, .int .i64 o, .int .u32 a, .int .i64 ws, .int .i64 t] 25 (0, 0))) := by
    unfold Hid; rw [← hW0, ← hX]; exact (((Below.refl _ _).alloc (by simp) _).block (B := (w.alloc (.cells #[.int .i64 n, .int .i64 o, .int .u32 a, .int .i64 ws, .int .i64 t] 25)).heap.size) _ (by simp)).trans (heap_alloc_new _ _)
  have HY_W0 : Hid (W0.heap[X + 1]? = some (.cells (RG r) 23 (0, 0))) := by
    unfold Hid; rw [← hW0, ← hX]; have := heap_alloc_new (w.alloc (.cells #[.int .i64 n, .int .i64 o, .int .u32 a, .int .i64 ws, .int .i64 t] 25)) (.cells (RG r) 23); simpa using this
  have S_W0 : Hid (X ≤ W0.heap.size) := by rw [← hW0, ← hX]; unfold Hid; simp; omega
  have HLw := Lib.hid hL
  have L_W0 : Hid (Laid W0) := hL.below (by rw [hX]; exact B_W0.out)
  obtain ⟨x, hx⟩ : ∃ x, encV ⟨n, o, a, ws, t⟩ r = x := ⟨_, rfl⟩
  have hxr : Regs x := by rw [← hx]; exact enc_all ha hr
  have hsx := hxr.size
  have HG := Lib.hid hxr
  obtain ⟨P, hP⟩ : ∃ P, priceV ⟨n, o, a, ws, t⟩ = P := ⟨_, rfl⟩
  obtain ⟨v, hv⟩ : ∃ v, validV ⟨n, o, a, ws, t⟩ = v := ⟨_, rfl⟩
  have CE : Hid (∀ W, Laid W → Calls Tryd.prog 12 #[.agg #[.int .i64 n, .int .i64 o, .int .u32 a, .int .i64 ws, .int .i64 t], .agg (RG r)] W fun e w' => e = .returned (.agg (RG x)) ∧ Below W.heap.size W w') := fun W h => by rw [← hx]; exact encode_any ⟨n, o, a, ws, t⟩ r hr ha W h
  have CR : Hid (∀ W, Calls Tryd.prog 16 #[.agg #[.int .i64 n, .int .i64 o, .int .u32 a, .int .i64 ws, .int .i64 t], .agg (RG r)] W fun e w' => e = .returned (.agg (RG x)) ∧ Below W.heap.size W w') := fun W => by rw [← hx]; exact rencode_any ⟨n, o, a, ws, t⟩ r hr ha W
  have CP : Hid (∀ W, Laid W → Calls Tryd.prog 13 #[.agg #[.int .i64 n, .int .i64 o, .int .u32 a, .int .i64 ws, .int .i64 t]] W fun e w' => e = .returned (.int .i64 P) ∧ Below W.heap.size W w') := fun W h => by rw [← hP]; exact price_any ⟨n, o, a, ws, t⟩ W h
  have CRP : Hid (∀ W, Calls Tryd.prog 14 #[.agg #[.int .i64 n, .int .i64 o, .int .u32 a, .int .i64 ws, .int .i64 t]] W fun e w' => e = .returned (.int .i64 P) ∧ Below W.heap.size W w') := fun W => by rw [← hP]; exact rprice_any ⟨n, o, a, ws, t⟩ W
  have CV : Hid (∀ W, Calls Tryd.prog 17 #[.agg #[.int .i64 n, .int .i64 o, .int .u32 a, .int .i64 ws, .int .i64 t]] W fun e w' => e = .returned (.bool v) ∧ Below W.heap.size W w') := fun W => by rw [← hv]; exact rright_any ⟨n, o, a, ws, t⟩ W
  have HBAD : Hid (v = false → x = r ∧ P = 0) := fun h => by rw [← hx, ← hP]; exact enc_bad (hv.trans h)
  have CD : Hid (v = true → ∀ W, Laid W → Calls Tryd.prog 9 #[.int .i64 n, .agg (RG x)] W fun e w' => e = .returned (.tuple #[.agg #[.int .i64 n, .int .i64 o, .int .u32 a, .int .i64 ws, .int .i64 t], .int .i64 0]) ∧ Below W.heap.size W w') := fun h W hl => by
    have h1 := decode_any n x hxr W hl
    obtain ⟨b1, b2⟩ := back_dec (q := ⟨n, o, a, ws, t⟩) (hv.trans h) hr
    replace b1 : decE n (encV ⟨n, o, a, ws, t⟩ r) = 0 := b1
    replace b2 : decQ n (encV ⟨n, o, a, ws, t⟩ r) = ⟨n, o, a, ws, t⟩ := b2
    rw [hx] at b1 b2
    rw [b1, b2] at h1
    exact h1
  clear hx hP hv hr hL ha hxr
  simp only [hX]
  go_enter Tryd.func4, Tryd.ntmps4
  have x0 : W0.cell? ⟨X, 0, none⟩ = some (.int .i64 n) := by rw [(row_cell HX_W0.out 0).1]; rfl
  have x1 : W0.cell? ⟨X, 1, none⟩ = some (.int .i64 o) := by rw [(row_cell HX_W0.out 1).1]; rfl
  have x2 : W0.cell? ⟨X, 2, none⟩ = some (.int .u32 a) := by rw [(row_cell HX_W0.out 2).1]; rfl
  have x3 : W0.cell? ⟨X, 3, none⟩ = some (.int .i64 ws) := by rw [(row_cell HX_W0.out 3).1]; rfl
  have x4 : W0.cell? ⟨X, 4, none⟩ = some (.int .i64 t) := by rw [(row_cell HX_W0.out 4).1]; rfl
  go_wp2_with (refine wpList_load_row rfl 23 _ rfl (X + 1) rfl 23 _ (0, 0) _ HY_W0.out Tryd.underlying23 rfl (by rw [hsr]; exact size16) ?_)
  clear hW0 x0 x1 x2 x3 x4
  refine (CE.out W0 L_W0.out).mono ?_
  rintro e w1 ⟨rfl, hb⟩
  have HX_w1 : Hid (w1.heap[X]? = some (.cells #[.int .i64 n, .int .i64 o, .int .u32 a, .int .i64 ws, .int .i64 t] 25 (0, 0))) := (hb.block (X) (Array.getElem?_eq_some_iff.1 HX_W0.out).1).trans HX_W0.out
  have HY_w1 : Hid (w1.heap[X + 1]? = some (.cells (RG r) 23 (0, 0))) := (hb.block (X + 1) (Array.getElem?_eq_some_iff.1 HY_W0.out).1).trans HY_W0.out
  have B_w1 : Hid (Below X w w1) := B_W0.out.trans (hb.mono S_W0.out)
  have S_w1 : Hid (X ≤ w1.heap.size) := Nat.le_trans S_W0.out hb.size
  have L_w1 : Hid (Laid w1) := HLw.out.below (by rw [hX]; exact B_w1.out)
  clear HX_W0 HY_W0 B_W0 S_W0 L_W0
  clear hb
  obtain ⟨T3, hT3⟩ : ∃ T, w1.heap.size = T := ⟨_, rfl⟩
  have hza : (w1.alloc (.cells #[.int .u32 0, .int .u32 0, .int .u32 0, .int .u32 0, .int .u32 0, .int .u32 0, .int .u32 0, .int .u32 0, .int .u32 0, .int .u32 0, .int .u32 0, .int .u32 0, .int .u32 0, .int .u32 0, .int .u32 0, .int .u32 0] 23)).heap[T3]? = some (.cells #[.int .u32 0, .int .u32 0, .int .u32 0, .int .u32 0, .int .u32 0, .int .u32 0, .int .u32 0, .int .u32 0, .int .u32 0, .int .u32 0, .int .u32 0, .int .u32 0, .int .u32 0, .int .u32 0, .int .u32 0, .int .u32 0] 23 (0, 0)) := by rw [← hT3]; exact heap_alloc_new _ _
  have hst := store16 hza (by rfl) HG.out
  obtain ⟨v1, hv1⟩ : ∃ W, (w1.alloc (.cells #[.int .u32 0, .int .u32 0, .int .u32 0, .int .u32 0, .int .u32 0, .int .u32 0, .int .u32 0, .int .u32 0, .int .u32 0, .int .u32 0, .int .u32 0, .int .u32 0, .int .u32 0, .int .u32 0, .int .u32 0, .int .u32 0] 23)).setRow T3 (RG x) = W := ⟨_, rfl⟩
  have hb1 : Below w1.heap.size w1 v1 := by rw [← hv1]; exact below_setRow ((Below.refl _ _).alloc (Nat.le_refl _) _) (by rw [hT3]; exact Nat.le_refl _) _
  have HBK_v1 : Hid (v1.heap[T3]? = some (.cells (RG x) 23 (0, 0))) := by unfold Hid; rw [← hv1]; exact setRow_heap _ _ _ _ _ _ hza
  rw [hv1] at hst
  clear hza hv1
  have HX_v1 : Hid (v1.heap[X]? = some (.cells #[.int .i64 n, .int .i64 o, .int .u32 a, .int .i64 ws, .int .i64 t] 25 (0, 0))) := (hb1.block (X) (Array.getElem?_eq_some_iff.1 HX_w1.out).1).trans HX_w1.out
  have HY_v1 : Hid (v1.heap[X + 1]? = some (.cells (RG r) 23 (0, 0))) := (hb1.block (X + 1) (Array.getElem?_eq_some_iff.1 HY_w1.out).1).trans HY_w1.out
  have B_v1 : Hid (Below X w v1) := B_w1.out.trans (hb1.mono S_w1.out)
  have S_v1 : Hid (X ≤ v1.heap.size) := Nat.le_trans S_w1.out hb1.size
  have L_v1 : Hid (Laid v1) := HLw.out.below (by rw [hX]; exact B_v1.out)
  clear HX_w1 HY_w1 B_w1 S_w1 L_w1
  clear hb1
  go_upto_region 2 with fail
  clear hst hT3
  have x0 : v1.cell? ⟨X, 0, none⟩ = some (.int .i64 n) := by rw [(row_cell HX_v1.out 0).1]; rfl
  have x1 : v1.cell? ⟨X, 1, none⟩ = some (.int .i64 o) := by rw [(row_cell HX_v1.out 1).1]; rfl
  have x2 : v1.cell? ⟨X, 2, none⟩ = some (.int .u32 a) := by rw [(row_cell HX_v1.out 2).1]; rfl
  have x3 : v1.cell? ⟨X, 3, none⟩ = some (.int .i64 ws) := by rw [(row_cell HX_v1.out 3).1]; rfl
  have x4 : v1.cell? ⟨X, 4, none⟩ = some (.int .i64 t) := by rw [(row_cell HX_v1.out 4).1]; rfl
  have HRX : Hid (∀ W, Below v1.heap.size v1 W → W.heap[T3]? = some (.cells (RG x) 23 (0, 0))) := fun W hb => (hb.block _ (Array.getElem?_eq_some_iff.1 HBK_v1.out).1).trans HBK_v1.out
  have HRY : Hid (∀ W, Below v1.heap.size v1 W → W.heap[X + 1]? = some (.cells (RG r) 23 (0, 0))) := fun W hb => (hb.block _ (Array.getElem?_eq_some_iff.1 HY_v1.out).1).trans HY_v1.out
  have HRL : Hid (∀ W, Below v1.heap.size v1 W → Laid W) := fun W hb => HLw.out.below (by rw [hX]; exact B_v1.out.trans (hb.mono S_v1.out))
  refine wp_region_held_drew (S := (fun w' => Below v1.heap.size v1 w' ∧ w'.cell? ⟨X, 0, none⟩ = some (.int .i64 n) ∧ w'.cell? ⟨X, 1, none⟩ = some (.int .i64 o) ∧ w'.cell? ⟨X, 2, none⟩ = some (.int .u32 a) ∧ w'.cell? ⟨X, 3, none⟩ = some (.int .i64 ws) ∧ w'.cell? ⟨X, 4, none⟩ = some (.int .i64 t))) (by kernel_rfl) ⟨(Below.refl _ _).drew, x0, x1, x2, x3, x4⟩ (fun hHeld => ?_)
  clear x0 x1 x2 x3 x4
  refine takeD (i := 0) (d := some 11) (v := ?_) _ rfl rfl (by kernel_rfl) (by kernel_rfl) (by kernel_rfl) (fun _ _ _ h => h) (by rfl) ?_ (by assumption) ?_
  rotate_left
  · intro w hSw
    have hl := load16 (HRX.out w hSw.1) HG.out
    have hL : (Instr.loadAt 23 (.pointer (some ⟨T3, 0, none⟩))).run Tryd.prog w = .ok (.agg (RG x)) w := by simp only [Instr.loadAt, Instr.sureAddr, Sem.run_bind, Sem.run_pure, Result.andThen_ok, hl]
    change Sem.run Tryd.prog (Instr.loadAt 23 (.pointer (some ⟨T3, 0, none⟩)) >>= fun v => pure (Next.value v)) w = _
    rw [Sem.run_bind, hL]
    rfl
  try simp only [Act.put, List.setIfInBounds_toArray, List.set_cons_zero, List.set_cons_succ]
  refine takeD (i := 1) (d := some 12) (v := ?_) _ rfl rfl (by kernel_rfl) (by kernel_rfl) (by kernel_rfl) (fun _ _ _ h => h) (by rfl) ?_ (by assumption) ?_
  rotate_left
  · (intro w hSw; (try dsimp only at hSw); go_simp) <;> with_reducible rfl
  try simp only [Act.put, List.setIfInBounds_toArray, List.set_cons_zero, List.set_cons_succ]
  refine takeD (i := 2) (d := some 13) (v := ?_) _ rfl rfl (by kernel_rfl) (by kernel_rfl) (by kernel_rfl) (fun _ _ _ h => h) (by rfl) ?_ (by assumption) ?_
  rotate_left
  · intro w hSw
    have hl := load16 (HRY.out w hSw.1) HR.out
    have hL : (Instr.loadAt 23 (.pointer (some ⟨X + 1, 0, none⟩))).run Tryd.prog w = .ok (.agg (RG r)) w := by simp only [Instr.loadAt, Instr.sureAddr, Sem.run_bind, Sem.run_pure, Result.andThen_ok, hl]
    change Sem.run Tryd.prog (Instr.loadAt 23 (.pointer (some ⟨X + 1, 0, none⟩)) >>= fun v => pure (Next.value v)) w = _
    rw [Sem.run_bind, hL]
    rfl
  try simp only [Act.put, List.setIfInBounds_toArray, List.set_cons_zero, List.set_cons_succ]
  refine wpAnyH_ready (rs := [3]) (by kernel_rfl) (by simp) ?_
  refine AllReadyH.cons rfl (fun K hK => ?_) AllReadyH.nil
  (go_simp; go_at_call 16; refine (CR.out _).mono ?_; rintro e wt ⟨rfl, hbt⟩; try go_wp2_with fail)
  refine hK.out _ _ ?_ (fun hHeld => ?_)
  · exact ⟨hHeld.1.trans (hbt.mono hHeld.1.size), cell_later hbt hHeld.2.1, cell_later hbt hHeld.2.2.1, cell_later hbt hHeld.2.2.2.1, cell_later hbt hHeld.2.2.2.2.1, cell_later hbt hHeld.2.2.2.2.2⟩
  clear hK K
  try simp only [Act.put, List.setIfInBounds_toArray, List.set_cons_zero, List.set_cons_succ]
  refine takeD (i := 4) (d := some 15) (v := .bool false) _ rfl rfl (by kernel_rfl) (by kernel_rfl) (by kernel_rfl) (fun _ _ _ h => h) (by rfl) ?_ (by assumption) ?_
  · intro w hSw; exact exec_neq16 (.tmp 11) (.tmp 14) _ rfl rfl rfl HG.out
  try simp only [Act.put, List.setIfInBounds_toArray, List.set_cons_zero, List.set_cons_succ]
  refine takeD (i := 5) (d := some 16) (v := ?_) _ rfl rfl (by kernel_rfl) (by kernel_rfl) (by kernel_rfl) (fun _ _ _ h => h) (by rfl) ?_ (by assumption) ?_
  rotate_left
  · (intro w hSw; (try dsimp only at hSw); go_simp) <;> with_reducible rfl
  try simp only [Act.put, List.setIfInBounds_toArray, List.set_cons_zero, List.set_cons_succ]
  refine takeD (i := 6) (d := some 17) (v := ?_) _ rfl rfl (by kernel_rfl) (by kernel_rfl) (by kernel_rfl) (fun _ _ _ h => h) (by rfl) ?_ (by assumption) ?_
  rotate_left
  · (intro w hSw; (try dsimp only at hSw); go_simp) <;> with_reducible rfl
  try simp only [Act.put, List.setIfInBounds_toArray, List.set_cons_zero, List.set_cons_succ]
  refine takeD (i := 8) (d := some 19) (v := ?_) _ rfl rfl (by kernel_rfl) (by kernel_rfl) (by kernel_rfl) (fun _ _ _ h => h) (by rfl) ?_ (by assumption) ?_
  rotate_left
  · (intro w hSw; (try dsimp only at hSw); go_simp) <;> with_reducible rfl
  try simp only [Act.put, List.setIfInBounds_toArray, List.set_cons_zero, List.set_cons_succ]
  refine wpAnyH_ready (rs := [7]) (by kernel_rfl) (by simp) ?_
  refine AllReadyH.cons rfl (fun K hK => ?_) AllReadyH.nil
  (go_simp; go_at_call 13; refine (CP.out _ (HRL.out _ hHeld.1)).mono ?_; rintro e wt ⟨rfl, hbt⟩; try go_wp2_with fail)
  refine hK.out _ _ ?_ (fun hHeld => ?_)
  · exact ⟨hHeld.1.trans (hbt.mono hHeld.1.size), cell_later hbt hHeld.2.1, cell_later hbt hHeld.2.2.1, cell_later hbt hHeld.2.2.2.1, cell_later hbt hHeld.2.2.2.2.1, cell_later hbt hHeld.2.2.2.2.2⟩
  clear hK K
  try simp only [Act.put, List.setIfInBounds_toArray, List.set_cons_zero, List.set_cons_succ]
  refine wpAnyH_ready (rs := [9]) (by kernel_rfl) (by simp) ?_
  refine AllReadyH.cons rfl (fun K hK => ?_) AllReadyH.nil
  (go_simp; go_at_call 14; refine (CRP.out _).mono ?_; rintro e wt ⟨rfl, hbt⟩; try go_wp2_with fail)
  refine hK.out _ _ ?_ (fun hHeld => ?_)
  · exact ⟨hHeld.1.trans (hbt.mono hHeld.1.size), cell_later hbt hHeld.2.1, cell_later hbt hHeld.2.2.1, cell_later hbt hHeld.2.2.2.1, cell_later hbt hHeld.2.2.2.2.1, cell_later hbt hHeld.2.2.2.2.2⟩
  clear hK K
  try simp only [Act.put, List.setIfInBounds_toArray, List.set_cons_zero, List.set_cons_succ]
  refine takeD (i := 10) (d := some 21) (v := ?_) _ rfl rfl (by kernel_rfl) (by kernel_rfl) (by kernel_rfl) (fun _ _ _ h => h) (by rfl) ?_ (by assumption) ?_
  rotate_left
  · (intro w hSw; (try dsimp only at hSw); go_simp) <;> with_reducible rfl
  try simp only [Act.put, List.setIfInBounds_toArray, List.set_cons_zero, List.set_cons_succ]
  refine takeD (i := 11) (d := some 22) (v := ?_) _ rfl rfl (by kernel_rfl) (by kernel_rfl) (by kernel_rfl) (fun _ _ _ h => h) (by rfl) ?_ (by assumption) ?_
  rotate_left
  · (intro w hSw; (try dsimp only at hSw); go_simp) <;> with_reducible rfl
  try simp only [Act.put, List.setIfInBounds_toArray, List.set_cons_zero, List.set_cons_succ]
  refine wpAnyH_done (by kernel_rfl) ?_ _
  obtain ⟨v2, hv2⟩ : ∃ W, W = wt := ⟨_, rfl⟩
  have hb2 : Below v1.heap.size v1 v2 := by rw [hv2]; exact hHeld.1
  simp only [← hv2]
  clear hHeld hv2 HRX HRY HRL CRP
  have HX_v2 : Hid (v2.heap[X]? = some (.cells #[.int .i64 n, .int .i64 o, .int .u32 a, .int .i64 ws, .int .i64 t] 25 (0, 0))) := (hb2.block (X) (Array.getElem?_eq_some_iff.1 HX_v1.out).1).trans HX_v1.out
  have HY_v2 : Hid (v2.heap[X + 1]? = some (.cells (RG r) 23 (0, 0))) := (hb2.block (X + 1) (Array.getElem?_eq_some_iff.1 HY_v1.out).1).trans HY_v1.out
  have HBK_v2 : Hid (v2.heap[T3]? = some (.cells (RG x) 23 (0, 0))) := (hb2.block (T3) (Array.getElem?_eq_some_iff.1 HBK_v1.out).1).trans HBK_v1.out
  have B_v2 : Hid (Below X w v2) := B_v1.out.trans (hb2.mono S_v1.out)
  have S_v2 : Hid (X ≤ v2.heap.size) := Nat.le_trans S_v1.out hb2.size
  have L_v2 : Hid (Laid v2) := HLw.out.below (by rw [hX]; exact B_v2.out)
  clear HX_v1 HY_v1 HBK_v1 B_v1 S_v1 L_v1
  clear hb2
  have x0 : v2.cell? ⟨X, 0, none⟩ = some (.int .i64 n) := by rw [(row_cell HX_v2.out 0).1]; rfl
  have x1 : v2.cell? ⟨X, 1, none⟩ = some (.int .i64 o) := by rw [(row_cell HX_v2.out 1).1]; rfl
  have x2 : v2.cell? ⟨X, 2, none⟩ = some (.int .u32 a) := by rw [(row_cell HX_v2.out 2).1]; rfl
  have x3 : v2.cell? ⟨X, 3, none⟩ = some (.int .i64 ws) := by rw [(row_cell HX_v2.out 3).1]; rfl
  have x4 : v2.cell? ⟨X, 4, none⟩ = some (.int .i64 t) := by rw [(row_cell HX_v2.out 4).1]; rfl
  go_wp2_with fail
  clear x0 x1 x2 x3 x4
  refine (CV.out v2).mono ?_
  rintro e w21 ⟨rfl, hb⟩
  have HX_w21 : Hid (w21.heap[X]? = some (.cells #[.int .i64 n, .int .i64 o, .int .u32 a, .int .i64 ws, .int .i64 t] 25 (0, 0))) := (hb.block (X) (Array.getElem?_eq_some_iff.1 HX_v2.out).1).trans HX_v2.out
  have HY_w21 : Hid (w21.heap[X + 1]? = some (.cells (RG r) 23 (0, 0))) := (hb.block (X + 1) (Array.getElem?_eq_some_iff.1 HY_v2.out).1).trans HY_v2.out
  have HBK_w21 : Hid (w21.heap[T3]? = some (.cells (RG x) 23 (0, 0))) := (hb.block (T3) (Array.getElem?_eq_some_iff.1 HBK_v2.out).1).trans HBK_v2.out
  have B_w21 : Hid (Below X w w21) := B_v2.out.trans (hb.mono S_v2.out)
  have S_w21 : Hid (X ≤ w21.heap.size) := Nat.le_trans S_v2.out hb.size
  have L_w21 : Hid (Laid w21) := HLw.out.below (by rw [hX]; exact B_w21.out)
  clear HX_v2 HY_v2 HBK_v2 B_v2 S_v2 L_v2
  clear hb
  cases v
  · obtain ⟨rfl, rfl⟩ := HBAD.out (by simp)
    go_wp2_with fail
    refine (known_any w21 L_w21.out).mono ?_
    rintro e w22 ⟨rfl, hb⟩
    have HX_w22 : Hid (w22.heap[X]? = some (.cells #[.int .i64 n, .int .i64 o, .int .u32 a, .int .i64 ws, .int .i64 t] 25 (0, 0))) := (hb.block (X) (Array.getElem?_eq_some_iff.1 HX_w21.out).1).trans HX_w21.out
    have HY_w22 : Hid (w22.heap[X + 1]? = some (.cells (RG x) 23 (0, 0))) := (hb.block (X + 1) (Array.getElem?_eq_some_iff.1 HY_w21.out).1).trans HY_w21.out
    have HBK_w22 : Hid (w22.heap[T3]? = some (.cells (RG x) 23 (0, 0))) := (hb.block (T3) (Array.getElem?_eq_some_iff.1 HBK_w21.out).1).trans HBK_w21.out
    have B_w22 : Hid (Below X w w22) := B_w21.out.trans (hb.mono S_w21.out)
    have S_w22 : Hid (X ≤ w22.heap.size) := Nat.le_trans S_w21.out hb.size
    have L_w22 : Hid (Laid w22) := HLw.out.below (by rw [hX]; exact B_w22.out)
    clear HX_w21 HY_w21 HBK_w21 B_w21 S_w21 L_w21
    clear hb
    have EQL0 : (binOp .eql 23 (.agg (RG x)) (.agg (RG x))).run Tryd.prog w22 = .ok (.bool true) w22 := by rw [run_eql16 x x HG.out HG.out, all16]
    have EQI0 := eqi16 x HG.out w22
    have HBX := HBK_w22.out
    have HYX := HY_w22.out
    obtain ⟨z0, z1, z2, z3, z4, z5, z6, z7, z8, z9, z10, z11, z12, z13, z14, z15, hxz⟩ := list16 HG.out.len
    rw [hxz] at EQL0 EQI0 HBX HYX
    have EQL : (binOp .eql 23 (.agg #[.int .u32 z0, .int .u32 z1, .int .u32 z2, .int .u32 z3, .int .u32 z4, .int .u32 z5, .int .u32 z6, .int .u32 z7, .int .u32 z8, .int .u32 z9, .int .u32 z10, .int .u32 z11, .int .u32 z12, .int .u32 z13, .int .u32 z14, .int .u32 z15]) (.agg #[.int .u32 z0, .int .u32 z1, .int .u32 z2, .int .u32 z3, .int .u32 z4, .int .u32 z5, .int .u32 z6, .int .u32 z7, .int .u32 z8, .int .u32 z9, .int .u32 z10, .int .u32 z11, .int .u32 z12, .int .u32 z13, .int .u32 z14, .int .u32 z15])).run Tryd.prog w22 = .ok (.bool true) w22 := EQL0
    have EQI : (Op.equalIn 10000 23 (.agg #[.int .u32 z0, .int .u32 z1, .int .u32 z2, .int .u32 z3, .int .u32 z4, .int .u32 z5, .int .u32 z6, .int .u32 z7, .int .u32 z8, .int .u32 z9, .int .u32 z10, .int .u32 z11, .int .u32 z12, .int .u32 z13, .int .u32 z14, .int .u32 z15]) (.agg #[.int .u32 z0, .int .u32 z1, .int .u32 z2, .int .u32 z3, .int .u32 z4, .int .u32 z5, .int .u32 z6, .int .u32 z7, .int .u32 z8, .int .u32 z9, .int .u32 z10, .int .u32 z11, .int .u32 z12, .int .u32 z13, .int .u32 z14, .int .u32 z15])).run Tryd.prog w22 = .ok true w22 := EQI0
    have p0 : w22.cell? ⟨T3, 0, none⟩ = some (.int .u32 z0) := by rw [(row_cell HBX 0).1]; rfl
    have r0 : w22.cell? ⟨X + 1, 0, none⟩ = some (.int .u32 z0) := by rw [(row_cell HYX 0).1]; rfl
    have p1 : w22.cell? ⟨T3, 1, none⟩ = some (.int .u32 z1) := by rw [(row_cell HBX 1).1]; rfl
    have r1 : w22.cell? ⟨X + 1, 1, none⟩ = some (.int .u32 z1) := by rw [(row_cell HYX 1).1]; rfl
    have p2 : w22.cell? ⟨T3, 2, none⟩ = some (.int .u32 z2) := by rw [(row_cell HBX 2).1]; rfl
    have r2 : w22.cell? ⟨X + 1, 2, none⟩ = some (.int .u32 z2) := by rw [(row_cell HYX 2).1]; rfl
    have p3 : w22.cell? ⟨T3, 3, none⟩ = some (.int .u32 z3) := by rw [(row_cell HBX 3).1]; rfl
    have r3 : w22.cell? ⟨X + 1, 3, none⟩ = some (.int .u32 z3) := by rw [(row_cell HYX 3).1]; rfl
    have p4 : w22.cell? ⟨T3, 4, none⟩ = some (.int .u32 z4) := by rw [(row_cell HBX 4).1]; rfl
    have r4 : w22.cell? ⟨X + 1, 4, none⟩ = some (.int .u32 z4) := by rw [(row_cell HYX 4).1]; rfl
    have p5 : w22.cell? ⟨T3, 5, none⟩ = some (.int .u32 z5) := by rw [(row_cell HBX 5).1]; rfl
    have r5 : w22.cell? ⟨X + 1, 5, none⟩ = some (.int .u32 z5) := by rw [(row_cell HYX 5).1]; rfl
    have p6 : w22.cell? ⟨T3, 6, none⟩ = some (.int .u32 z6) := by rw [(row_cell HBX 6).1]; rfl
    have r6 : w22.cell? ⟨X + 1, 6, none⟩ = some (.int .u32 z6) := by rw [(row_cell HYX 6).1]; rfl
    have p7 : w22.cell? ⟨T3, 7, none⟩ = some (.int .u32 z7) := by rw [(row_cell HBX 7).1]; rfl
    have r7 : w22.cell? ⟨X + 1, 7, none⟩ = some (.int .u32 z7) := by rw [(row_cell HYX 7).1]; rfl
    have p8 : w22.cell? ⟨T3, 8, none⟩ = some (.int .u32 z8) := by rw [(row_cell HBX 8).1]; rfl
    have r8 : w22.cell? ⟨X + 1, 8, none⟩ = some (.int .u32 z8) := by rw [(row_cell HYX 8).1]; rfl
    have p9 : w22.cell? ⟨T3, 9, none⟩ = some (.int .u32 z9) := by rw [(row_cell HBX 9).1]; rfl
    have r9 : w22.cell? ⟨X + 1, 9, none⟩ = some (.int .u32 z9) := by rw [(row_cell HYX 9).1]; rfl
    have p10 : w22.cell? ⟨T3, 10, none⟩ = some (.int .u32 z10) := by rw [(row_cell HBX 10).1]; rfl
    have r10 : w22.cell? ⟨X + 1, 10, none⟩ = some (.int .u32 z10) := by rw [(row_cell HYX 10).1]; rfl
    have p11 : w22.cell? ⟨T3, 11, none⟩ = some (.int .u32 z11) := by rw [(row_cell HBX 11).1]; rfl
    have r11 : w22.cell? ⟨X + 1, 11, none⟩ = some (.int .u32 z11) := by rw [(row_cell HYX 11).1]; rfl
    have p12 : w22.cell? ⟨T3, 12, none⟩ = some (.int .u32 z12) := by rw [(row_cell HBX 12).1]; rfl
    have r12 : w22.cell? ⟨X + 1, 12, none⟩ = some (.int .u32 z12) := by rw [(row_cell HYX 12).1]; rfl
    have p13 : w22.cell? ⟨T3, 13, none⟩ = some (.int .u32 z13) := by rw [(row_cell HBX 13).1]; rfl
    have r13 : w22.cell? ⟨X + 1, 13, none⟩ = some (.int .u32 z13) := by rw [(row_cell HYX 13).1]; rfl
    have p14 : w22.cell? ⟨T3, 14, none⟩ = some (.int .u32 z14) := by rw [(row_cell HBX 14).1]; rfl
    have r14 : w22.cell? ⟨X + 1, 14, none⟩ = some (.int .u32 z14) := by rw [(row_cell HYX 14).1]; rfl
    have p15 : w22.cell? ⟨T3, 15, none⟩ = some (.int .u32 z15) := by rw [(row_cell HBX 15).1]; rfl
    have r15 : w22.cell? ⟨X + 1, 15, none⟩ = some (.int .u32 z15) := by rw [(row_cell HYX 15).1]; rfl
    have x0 : w22.cell? ⟨X, 0, none⟩ = some (.int .i64 n) := by rw [(row_cell HX_w22.out 0).1]; rfl
    have x1 : w22.cell? ⟨X, 1, none⟩ = some (.int .i64 o) := by rw [(row_cell HX_w22.out 1).1]; rfl
    have x2 : w22.cell? ⟨X, 2, none⟩ = some (.int .u32 a) := by rw [(row_cell HX_w22.out 2).1]; rfl
    have x3 : w22.cell? ⟨X, 3, none⟩ = some (.int .i64 ws) := by rw [(row_cell HX_w22.out 3).1]; rfl
    have x4 : w22.cell? ⟨X, 4, none⟩ = some (.int .i64 t) := by rw [(row_cell HX_w22.out 4).1]; rfl
    clear EQL0 EQI0 HBX HYX hxz
    go_wp2_with fail
    clear x0 x1 x2 x3 x4 EQL EQI p0 r0 p1 r1 p2 r2 p3 r3 p4 r4 p5 r5 p6 r6 p7 r7 p8 r8 p9 r9 p10 r10 p11 r11 p12 r12 p13 r13 p14 r14 p15 r15
    refine (CP.out w22 L_w22.out).mono ?_
    rintro e w23 ⟨rfl, hb⟩
    have HX_w23 : Hid (w23.heap[X]? = some (.cells #[.int .i64 n, .int .i64 o, .int .u32 a, .int .i64 ws, .int .i64 t] 25 (0, 0))) := (hb.block (X) (Array.getElem?_eq_some_iff.1 HX_w22.out).1).trans HX_w22.out
    have HY_w23 : Hid (w23.heap[X + 1]? = some (.cells (RG x) 23 (0, 0))) := (hb.block (X + 1) (Array.getElem?_eq_some_iff.1 HY_w22.out).1).trans HY_w22.out
    have HBK_w23 : Hid (w23.heap[T3]? = some (.cells (RG x) 23 (0, 0))) := (hb.block (T3) (Array.getElem?_eq_some_iff.1 HBK_w22.out).1).trans HBK_w22.out
    have B_w23 : Hid (Below X w w23) := B_w22.out.trans (hb.mono S_w22.out)
    have S_w23 : Hid (X ≤ w23.heap.size) := Nat.le_trans S_w22.out hb.size
    have L_w23 : Hid (Laid w23) := HLw.out.below (by rw [hX]; exact B_w23.out)
    clear HX_w22 HY_w22 HBK_w22 B_w22 S_w22 L_w22
    clear hb
    go_wp2_with fail
    go_ret
    exact ⟨rfl, B_w23.out⟩
  · have x0 : w21.cell? ⟨X, 0, none⟩ = some (.int .i64 n) := by rw [(row_cell HX_w21.out 0).1]; rfl
    have x1 : w21.cell? ⟨X, 1, none⟩ = some (.int .i64 o) := by rw [(row_cell HX_w21.out 1).1]; rfl
    have x2 : w21.cell? ⟨X, 2, none⟩ = some (.int .u32 a) := by rw [(row_cell HX_w21.out 2).1]; rfl
    have x3 : w21.cell? ⟨X, 3, none⟩ = some (.int .i64 ws) := by rw [(row_cell HX_w21.out 3).1]; rfl
    have x4 : w21.cell? ⟨X, 4, none⟩ = some (.int .i64 t) := by rw [(row_cell HX_w21.out 4).1]; rfl
    go_wp2_with (refine wpList_load_row rfl 23 _ rfl (T3) rfl 23 _ (0, 0) _ HBK_w21.out Tryd.underlying23 rfl (by rw [hsx]; exact size16) ?_)
    clear x0 x1 x2 x3 x4
    refine (CD.out (by simp) w21 L_w21.out).mono ?_
    rintro e w22 ⟨rfl, hb⟩
    have HX_w22 : Hid (w22.heap[X]? = some (.cells #[.int .i64 n, .int .i64 o, .int .u32 a, .int .i64 ws, .int .i64 t] 25 (0, 0))) := (hb.block (X) (Array.getElem?_eq_some_iff.1 HX_w21.out).1).trans HX_w21.out
    have HY_w22 : Hid (w22.heap[X + 1]? = some (.cells (RG r) 23 (0, 0))) := (hb.block (X + 1) (Array.getElem?_eq_some_iff.1 HY_w21.out).1).trans HY_w21.out
    have HBK_w22 : Hid (w22.heap[T3]? = some (.cells (RG x) 23 (0, 0))) := (hb.block (T3) (Array.getElem?_eq_some_iff.1 HBK_w21.out).1).trans HBK_w21.out
    have B_w22 : Hid (Below X w w22) := B_w21.out.trans (hb.mono S_w21.out)
    have S_w22 : Hid (X ≤ w22.heap.size) := Nat.le_trans S_w21.out hb.size
    have L_w22 : Hid (Laid w22) := HLw.out.below (by rw [hX]; exact B_w22.out)
    clear HX_w21 HY_w21 HBK_w21 B_w21 S_w21 L_w21
    clear hb
    obtain ⟨T4, hT4⟩ : ∃ Z, w22.heap.size = Z := ⟨_, rfl⟩
    go_upto_region 7 with fail
    obtain ⟨w23, hw23⟩ : ∃ W, w22.alloc (.cells #[.int .i64 n, .int .i64 o, .int .u32 a, .int .i64 ws, .int .i64 t] 25) = W := ⟨_, rfl⟩
    rw [hw23]
    have hb : Below w22.heap.size w22 w23 := by rw [← hw23]; exact (Below.refl _ _).alloc (Nat.le_refl _) _
    have HQ_w23 : Hid (w23.heap[T4]? = some (.cells #[.int .i64 n, .int .i64 o, .int .u32 a, .int .i64 ws, .int .i64 t] 25 (0, 0))) := by unfold Hid; rw [← hw23, ← hT4]; exact heap_alloc_new _ _
    have HX_w23 : Hid (w23.heap[X]? = some (.cells #[.int .i64 n, .int .i64 o, .int .u32 a, .int .i64 ws, .int .i64 t] 25 (0, 0))) := (hb.block (X) (Array.getElem?_eq_some_iff.1 HX_w22.out).1).trans HX_w22.out
    have HY_w23 : Hid (w23.heap[X + 1]? = some (.cells (RG r) 23 (0, 0))) := (hb.block (X + 1) (Array.getElem?_eq_some_iff.1 HY_w22.out).1).trans HY_w22.out
    have HBK_w23 : Hid (w23.heap[T3]? = some (.cells (RG x) 23 (0, 0))) := (hb.block (T3) (Array.getElem?_eq_some_iff.1 HBK_w22.out).1).trans HBK_w22.out
    have B_w23 : Hid (Below X w w23) := B_w22.out.trans (hb.mono S_w22.out)
    have S_w23 : Hid (X ≤ w23.heap.size) := Nat.le_trans S_w22.out hb.size
    have L_w23 : Hid (Laid w23) := HLw.out.below (by rw [hX]; exact B_w23.out)
    clear HX_w22 HY_w22 HBK_w22 B_w22 S_w22 L_w22
    clear hb hw23 hT4
    go_wp2_with fail
    refine (known_any w23 L_w23.out).mono ?_
    rintro e w24 ⟨rfl, hb⟩
    have HX_w24 : Hid (w24.heap[X]? = some (.cells #[.int .i64 n, .int .i64 o, .int .u32 a, .int .i64 ws, .int .i64 t] 25 (0, 0))) := (hb.block (X) (Array.getElem?_eq_some_iff.1 HX_w23.out).1).trans HX_w23.out
    have HY_w24 : Hid (w24.heap[X + 1]? = some (.cells (RG r) 23 (0, 0))) := (hb.block (X + 1) (Array.getElem?_eq_some_iff.1 HY_w23.out).1).trans HY_w23.out
    have HBK_w24 : Hid (w24.heap[T3]? = some (.cells (RG x) 23 (0, 0))) := (hb.block (T3) (Array.getElem?_eq_some_iff.1 HBK_w23.out).1).trans HBK_w23.out
    have HQ_w24 : Hid (w24.heap[T4]? = some (.cells #[.int .i64 n, .int .i64 o, .int .u32 a, .int .i64 ws, .int .i64 t] 25 (0, 0))) := (hb.block (T4) (Array.getElem?_eq_some_iff.1 HQ_w23.out).1).trans HQ_w23.out
    have B_w24 : Hid (Below X w w24) := B_w23.out.trans (hb.mono S_w23.out)
    have S_w24 : Hid (X ≤ w24.heap.size) := Nat.le_trans S_w23.out hb.size
    have L_w24 : Hid (Laid w24) := HLw.out.below (by rw [hX]; exact B_w24.out)
    clear HX_w23 HY_w23 HBK_w23 HQ_w23 B_w23 S_w23 L_w23
    clear hb
    have EQL : ∀ W, (binOp .eql 25 (.agg #[.int .i64 n, .int .i64 o, .int .u32 a, .int .i64 ws, .int .i64 t]) (.agg #[.int .i64 n, .int .i64 o, .int .u32 a, .int .i64 ws, .int .i64 t])).run Tryd.prog W = .ok (.bool true) W := fun W => by have := req_eql ⟨n, o, a, ws, t⟩ ⟨n, o, a, ws, t⟩ W; rw [sameB_self] at this; exact this
    have x0 : w24.cell? ⟨X, 0, none⟩ = some (.int .i64 n) := by rw [(row_cell HX_w24.out 0).1]; rfl
    have x1 : w24.cell? ⟨X, 1, none⟩ = some (.int .i64 o) := by rw [(row_cell HX_w24.out 1).1]; rfl
    have x2 : w24.cell? ⟨X, 2, none⟩ = some (.int .u32 a) := by rw [(row_cell HX_w24.out 2).1]; rfl
    have x3 : w24.cell? ⟨X, 3, none⟩ = some (.int .i64 ws) := by rw [(row_cell HX_w24.out 3).1]; rfl
    have x4 : w24.cell? ⟨X, 4, none⟩ = some (.int .i64 t) := by rw [(row_cell HX_w24.out 4).1]; rfl
    have y0 : w24.cell? ⟨T4, 0, none⟩ = some (.int .i64 n) := by rw [(row_cell HQ_w24.out 0).1]; rfl
    have y1 : w24.cell? ⟨T4, 1, none⟩ = some (.int .i64 o) := by rw [(row_cell HQ_w24.out 1).1]; rfl
    have y2 : w24.cell? ⟨T4, 2, none⟩ = some (.int .u32 a) := by rw [(row_cell HQ_w24.out 2).1]; rfl
    have y3 : w24.cell? ⟨T4, 3, none⟩ = some (.int .i64 ws) := by rw [(row_cell HQ_w24.out 3).1]; rfl
    have y4 : w24.cell? ⟨T4, 4, none⟩ = some (.int .i64 t) := by rw [(row_cell HQ_w24.out 4).1]; rfl
    go_wp2_with fail
    go_ret
    exact ⟨rfl, B_w24.out⟩
end Go.Proofs.YtglpbngdikfliaaDoor.Ca
