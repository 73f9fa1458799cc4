/-
  Sixteen registers in memory; what is asked of registers. Each statement bears its own conditions.
-/
import Derived.Test.YtglpbngdikfliaaDoorCaC
import Derived.Laws.Rows
import Derived.Deep.WholeRow
import Derived.Laws.CopyOwn
namespace Go.Proofs.YtglpbngdikfliaaDoor.Ca
open Go.RowKit Go.Proofs.YtglpbngdikfliaaDoor.F
set_option linter.unusedVariables false
set_option linter.unusedSimpArgs false
/-- Sixteen registers. -/
structure Regs (r : List Int) : Prop where
  len : r.length = 16
  bd : ∀ x ∈ r, 0 ≤ x ∧ x ≤ 4294967295
def RG (r : List Int) : Array Value := (CU r).toArray
theorem RG_size (r : List Int) : (RG r).size = r.length := by simp [RG, CU_len]
theorem Regs.size {r : List Int} (h : Regs r) : (RG r).size = 16 := by rw [RG_size, h.len]
theorem RG_at {r : List Int} {i : Nat} (h : i < r.length) : (RG r)[i]? = some (.int .u32 (r.getD i 0)) := by
  have e : r[i]? = some (r.getD i 0) := by rw [List.getD_eq_getElem?_getD, List.getElem?_eq_getElem h]; rfl
  have := CU_at e
  simpa [RG] using this
theorem RG_set (r : List Int) (i : Nat) (x : Int) : RG (r.set i x) = (RG r).setIfInBounds i (.int .u32 x) := by simp [RG, CU_set]
theorem RG_one (r : List Int) : (RG r).all (·.oneCell') = true := by
  rw [Array.all_eq_true]
  intro i hi
  have hi' : i < r.length := by rw [← RG_size]; exact hi
  have e : (RG r)[i]? = some (RG r)[i] := Array.getElem?_eq_getElem hi
  rw [RG_at hi'] at e
  rw [← Option.some.inj e]
  rfl
theorem Regs.set {r : List Int} (h : Regs r) (i : Nat) {x : Int} (hx : 0 ≤ x ∧ x ≤ 4294967295) : Regs (r.set i x) :=
  ⟨by rw [List.length_set]; exact h.len, fun y hy => by
    rcases List.mem_or_eq_of_mem_set hy with h1 | h1
    · exact h.bd y h1
    · rw [h1]; exact hx⟩
theorem Regs.at_ {r : List Int} (h : Regs r) {i : Nat} (hi : i < 16) : 0 ≤ r.getD i 0 ∧ r.getD i 0 ≤ 4294967295 := by
  have hl : i < r.length := by rw [h.len]; exact hi
  have e : r.getD i 0 = r[i] := by rw [List.getD_eq_getElem?_getD, List.getElem?_eq_getElem hl]; rfl
  rw [e]
  exact h.bd _ (List.getElem_mem hl)
theorem getD_set (r : List Int) (i j : Nat) (x : Int) (h : i < r.length) : (r.set i x).getD j 0 = if j = i then x else r.getD j 0 := by
  rw [List.getD_eq_getElem?_getD, List.getElem?_set, List.getD_eq_getElem?_getD]
  by_cases e : i = j
  · subst e; rw [if_pos rfl, if_pos h, if_pos rfl]; rfl
  · rw [if_neg e, if_neg (fun h => e h.symm)]
theorem size16 : (Tryd.prog.info? 23).map (·.size) = some 16 := by kernel_rfl
section
variable {w : World} {g : Nat} {r : List Int}
theorem reg_at (hg : w.heap[g]? = some (.cells (RG r) 23 (0, 0))) (hr : Regs r) {i : Nat} (hi : i < 16) : w.cell? ⟨g, i, none⟩ = some (.int .u32 (r.getD i 0)) ∧ w.frozen? ⟨g, i, none⟩ = false :=
  ⟨by rw [(row_cell hg i).1]; exact RG_at (by rw [hr.len]; exact hi), (row_cell hg i).2⟩
theorem reg_set (hg : w.heap[g]? = some (.cells (RG r) 23 (0, 0))) (i : Nat) (x : Int) : (w.setCell ⟨g, i, none⟩ (.int .u32 x)).heap[g]? = some (.cells (RG (r.set i x)) 23 (0, 0)) := by rw [RG_set]; exact set_at hg i _
theorem load16 (hg : w.heap[g]? = some (.cells (RG r) 23 (0, 0))) (hr : Regs r) : (loadVar 23 ⟨g, 0, none⟩).run Tryd.prog w = .ok (.agg (RG r)) w :=
  run_loadVar_row w g 23 23 (RG r) (0, 0) _ hg (Tryd.underlying23) rfl (by rw [hr.size]; exact size16)
theorem store16 {C : Array Value} (hg : w.heap[g]? = some (.cells C 23 (0, 0))) (hs : C.size = 16) (hr : Regs r) : (storeCells ⟨g, 0, none⟩ (RG r).toList 0).run Tryd.prog w = .ok () (w.setRow g (RG r)) := by
  have := run_storeVar_row (P := Tryd.prog) w g 23 23 C (RG r) hg (by rw [hr.size]; exact size16) (by rw [hs, hr.size]) (RG_one r)
  have h0 := size16
  cases hq : Tryd.prog.info? 23 with
  | none => rw [hq] at h0; simp at h0
  | some i =>
    rw [hq] at h0
    have hs : (RG r).size = i.size := by rw [hr.size]; simpa using h0.symm
    simpa [storeVar, sizeOf, typeInfo, hq, Value.cells, hs] using this
end
def tickV (x : Int) : Int := if x = 4294967295 then -1 else x
def askQ (n : Int) (r : List Int) : Rq := ⟨n, r.getD 0 0, r.getD 1 0, r.getD 2 0, tickV (r.getD 3 0)⟩
def zeroQ : Rq := ⟨0, 0, 0, 0, 0⟩
def decQ (n : Int) (r : List Int) : Rq := if is n then if fitsV (ownV (askQ n r)) then ownV (askQ n r) else zeroQ else zeroQ
def decE (n : Int) (r : List Int) : Int := if is n then if fitsV (ownV (askQ n r)) then 0 else 2 else 9
set_option maxRecDepth 100000 in
set_option maxHeartbeats 8000000 in
theorem decode_any (n : Int) (r : List Int) (hr : Regs r) (w : World) (hL : Laid w) : Calls Tryd.prog 9 #[.int .i64 n, .agg (RG r)] w fun e w' => e = .returned (.tuple #[(decQ n r).val, .int .i64 (decE n r)]) ∧ Below w.heap.size w w' := by
  obtain ⟨X, hX⟩ : ∃ X, w.heap.size = X := ⟨_, rfl⟩
  obtain ⟨W0, hW0⟩ : ∃ W0, (w.alloc (.cells (RG r) 23)).alloc (.cells #[.int .i64 0, .int .i64 0, .int .u32 0, .int .i64 0, .int .i64 0] 25) = W0 := ⟨_, rfl⟩
  have B0 : Hid (Below X w W0) := by rw [← hW0, ← hX]; exact ((Below.refl _ _).alloc (Nat.le_refl _) _).alloc (by simp) _
  have HX0 : Hid (W0.heap[X]? = some (.cells (RG r) 23 (0, 0))) := by
    unfold Hid; rw [← hW0, ← hX]; exact (((Below.refl _ _).alloc (by simp) _).block (B := (w.alloc (.cells (RG r) 23)).heap.size) _ (by simp)).trans (heap_alloc_new _ _)
  have HY0 : Hid (W0.heap[X + 1]? = some (.cells #[.int .i64 0, .int .i64 0, .int .u32 0, .int .i64 0, .int .i64 0] 25 (0, 0))) := by
    unfold Hid; rw [← hW0, ← hX]; have := heap_alloc_new (w.alloc (.cells (RG r) 23)) (.cells #[.int .i64 0, .int .i64 0, .int .u32 0, .int .i64 0, .int .i64 0] 25); simpa using this
  have S0 : Hid (W0.heap.size = X + 2) := by rw [← hW0, ← hX]; unfold Hid; simp
  have HL0 : Hid (Laid W0) := hL.below (by rw [hX]; exact B0.out)
  have CX := Lib.hid (exists_any n W0)
  obtain ⟨v, hv⟩ : ∃ v, is n = v := ⟨_, rfl⟩
  have HP : Hid (decQ n r = (if v then if fitsV (ownV (askQ n r)) then ownV (askQ n r) else zeroQ else zeroQ) ∧ decE n r = if v then if fitsV (ownV (askQ n r)) then 0 else 2 else 9) := by unfold Hid decQ decE; rw [hv]; exact ⟨rfl, rfl⟩
  rw [hv] at CX
  have HR := Lib.hid hr
  have HLw := Lib.hid hL
  clear hL hr
  simp only [hX]
  go_enter Tryd.func9, Tryd.ntmps9
  go_wp2_with fail
  refine CX.out.mono ?_
  rintro e w1 ⟨rfl, hb⟩
  have HX1 : Hid (w1.heap[X]? = some (.cells (RG r) 23 (0, 0))) := (hb.block X (by have := S0.out; omega)).trans HX0.out
  have HY1 : Hid (w1.heap[X + 1]? = some (.cells #[.int .i64 0, .int .i64 0, .int .u32 0, .int .i64 0, .int .i64 0] 25 (0, 0))) := (hb.block (X + 1) (by have := S0.out; omega)).trans HY0.out
  have B1 : Hid (Below X w w1) := B0.out.trans (hb.mono (by have := S0.out; omega))
  have HL1 : Hid (Laid w1) := HL0.out.below hb
  have S1 : Hid (X + 2 ≤ w1.heap.size) := by have := S0.out; have := hb.size; unfold Hid; omega
  clear hb hW0 CX HL0 HX0 HY0 B0 S0
  cases v
  · have y0 : w1.cell? ⟨X + 1, 0, none⟩ = some (.int .i64 0) := by rw [(row_cell HY1.out 0).1]; rfl
    have yz0 : w1.frozen? ⟨X + 1, 0, none⟩ = false := (row_cell HY1.out 0).2
    have y1 : w1.cell? ⟨X + 1, 1, none⟩ = some (.int .i64 0) := by rw [(row_cell HY1.out 1).1]; rfl
    have yz1 : w1.frozen? ⟨X + 1, 1, none⟩ = false := (row_cell HY1.out 1).2
    have y2 : w1.cell? ⟨X + 1, 2, none⟩ = some (.int .u32 0) := by rw [(row_cell HY1.out 2).1]; rfl
    have yz2 : w1.frozen? ⟨X + 1, 2, none⟩ = false := (row_cell HY1.out 2).2
    have y3 : w1.cell? ⟨X + 1, 3, none⟩ = some (.int .i64 0) := by rw [(row_cell HY1.out 3).1]; rfl
    have yz3 : w1.frozen? ⟨X + 1, 3, none⟩ = false := (row_cell HY1.out 3).2
    have y4 : w1.cell? ⟨X + 1, 4, none⟩ = some (.int .i64 0) := by rw [(row_cell HY1.out 4).1]; rfl
    have yz4 : w1.frozen? ⟨X + 1, 4, none⟩ = false := (row_cell HY1.out 4).2
    go_wp2_with fail
    refine bodyPost_ret (results_cell_tmp rfl _ _ (X + 1) _ _ rfl (set_five HY1.out _ _ _ _ _) Tryd.underlying25 rfl (by kernel_rfl)) rfl ?_
    exact ⟨by rw [HP.out.1, HP.out.2]; rfl, ((((B1.out.setCell (by exact Nat.le_succ _) _).setCell (by exact Nat.le_succ _) _).setCell (by exact Nat.le_succ _) _).setCell (by exact Nat.le_succ _) _).setCell (by exact Nat.le_succ _) _⟩
  obtain ⟨r0, h0⟩ : ∃ x, r.getD 0 0 = x := ⟨_, rfl⟩
  obtain ⟨r1, h1⟩ : ∃ x, r.getD 1 0 = x := ⟨_, rfl⟩
  obtain ⟨r2, h2⟩ : ∃ x, r.getD 2 0 = x := ⟨_, rfl⟩
  obtain ⟨r3, h3⟩ : ∃ x, r.getD 3 0 = x := ⟨_, rfl⟩
  have x0 : w1.cell? ⟨X, 0, none⟩ = some (.int .u32 r0) := by rw [← h0]; exact (reg_at HX1.out HR.out (by omega)).1
  have d0 := HR.out.at_ (i := 0) (by omega)
  rw [h0] at d0
  have x1 : w1.cell? ⟨X, 1, none⟩ = some (.int .u32 r1) := by rw [← h1]; exact (reg_at HX1.out HR.out (by omega)).1
  have d1 := HR.out.at_ (i := 1) (by omega)
  rw [h1] at d1
  have x2 : w1.cell? ⟨X, 2, none⟩ = some (.int .u32 r2) := by rw [← h2]; exact (reg_at HX1.out HR.out (by omega)).1
  have d2 := HR.out.at_ (i := 2) (by omega)
  rw [h2] at d2
  have x3 : w1.cell? ⟨X, 3, none⟩ = some (.int .u32 r3) := by rw [← h3]; exact (reg_at HX1.out HR.out (by omega)).1
  have d3 := HR.out.at_ (i := 3) (by omega)
  rw [h3] at d3
  obtain ⟨tt, htt⟩ : ∃ x, tickV r3 = x := ⟨_, rfl⟩
  obtain ⟨u, hu⟩ : ∃ x, IntKind.u32.wrap (r3 + 1) = x := ⟨_, rfl⟩
  have hu1 : u = tt + 1 ∧ -1 ≤ tt ∧ tt ≤ 4294967294 := by
    rw [← htt, ← hu]
    unfold tickV
    split
    · rename_i e; subst e; decide
    · rw [show IntKind.u32.wrap (r3 + 1) = r3 + 1 from IntWalk.u32_in _ ⟨by omega, by omega⟩]; omega
  have e3 : IntKind.i64.wrap (u - 1) = tt := by rw [IntKind.wrap_i64]; omega
  have e4 : IntKind.i64.wrap u = u := by rw [IntKind.wrap_i64]; omega
  have ASK : Hid (askQ n r = ⟨n, r0, r1, r2, tt⟩) := by unfold Hid askQ; rw [h0, h1, h2, h3, htt]
  have f0 : IntKind.i64.wrap r0 = r0 := by rw [IntKind.wrap_i64]; omega
  have f2 : IntKind.i64.wrap r2 = r2 := by rw [IntKind.wrap_i64]; omega
  obtain ⟨Z, hZ⟩ : ∃ Z, w1.heap.size = Z := ⟨_, rfl⟩
  clear h0 h1 h2 h3 htt hu1 d0 d1 d2 d3
  go_upto_region 4 with fail
  obtain ⟨w2, hw2⟩ : ∃ W, w1.alloc (.cells #[.int .i64 n, .int .i64 r0, .int .u32 r1, .int .i64 r2, .int .i64 0] 25) = W := ⟨_, rfl⟩
  rw [hw2]
  have hZ1 : X + 2 ≤ Z := by rw [← hZ]; exact S1.out
  have HZB := Lib.hid hZ1
  have b2 : Below w1.heap.size w1 w2 := by rw [← hw2]; exact (Below.refl _ _).alloc (Nat.le_refl _) _
  have HZ2 : Hid (w2.heap[Z]? = some (.cells #[.int .i64 n, .int .i64 r0, .int .u32 r1, .int .i64 r2, .int .i64 0] 25 (0, 0))) := by unfold Hid; rw [← hw2, ← hZ]; exact heap_alloc_new _ _
  have hx2 := (b2.block X (by omega)).trans HX1.out
  have hy2 := (b2.block (X + 1) (by omega)).trans HY1.out
  have B2 : Hid (Below X w w2) := B1.out.trans (b2.mono (by omega))
  have S2 : Hid (w2.heap.size = Z + 1) := by unfold Hid; rw [← hw2, ← hZ]; simp
  replace x3 : w2.cell? ⟨X, 3, none⟩ = some (.int .u32 r3) := cell_later b2 x3
  have z4 : w2.cell? ⟨Z, 4, none⟩ = some (.int .i64 0) := by rw [(row_cell HZ2.out 4).1]; rfl
  have zf := (row_cell HZ2.out 4).2
  have HY2 := Lib.hid hy2
  have HL2 : Hid (Laid w2) := HL1.out.below b2
  clear x0 x1 x2 b2 hx2 hy2 hw2 hZ hZ1 S1 HX1 HY1 B1 HL1
  go_upto_region 5 with fail
  obtain ⟨w3, hw3⟩ : ∃ W, w2.setCell ⟨Z, 4, none⟩ (.int .i64 tt) = W := ⟨_, rfl⟩
  rw [hw3]
  have HZ3 : Hid (w3.heap[Z]? = some (.cells #[.int .i64 n, .int .i64 r0, .int .u32 r1, .int .i64 r2, .int .i64 tt] 25 (0, 0))) := by unfold Hid; rw [← hw3]; exact set_at HZ2.out 4 _
  have HY3 : Hid (w3.heap[X + 1]? = some (.cells #[.int .i64 0, .int .i64 0, .int .u32 0, .int .i64 0, .int .i64 0] 25 (0, 0))) := by unfold Hid; rw [← hw3, set_far _ _ (by have := HZB.out; omega)]; exact HY2.out
  have B3 : Hid (Below X w w3) := by rw [← hw3]; exact B2.out.setCell (by show X ≤ Z; have := HZB.out; omega) _
  have S3 : Hid (w3.heap.size = Z + 1) := by unfold Hid; rw [← hw3]; simpa using S2.out
  have HL3 : Hid (Laid w3) := HLw.out.below (by rw [hX]; exact B3.out)
  clear hw3 zf z4 x3 S2 B2 HY2 HL2 HZ2
  obtain ⟨Q, hQ⟩ : ∃ Q, ownV ⟨n, r0, r1, r2, tt⟩ = Q := ⟨_, rfl⟩
  have CO := Lib.hid (own_any ⟨n, r0, r1, r2, tt⟩ hv w3 HL3.out)
  rw [hQ] at CO
  have HP2 : Hid (decQ n r = (if fitsV Q then Q else zeroQ) ∧ decE n r = if fitsV Q then 0 else 2) := by unfold Hid; rw [HP.out.1, HP.out.2, ASK.out, hQ]; exact ⟨rfl, rfl⟩
  clear hQ HP ASK
  obtain ⟨qn, qo, qa, qw, qt⟩ := Q
  have z0 : w3.cell? ⟨Z, 0, none⟩ = some (.int .i64 n) := by rw [(row_cell HZ3.out 0).1]; rfl
  have z1 : w3.cell? ⟨Z, 1, none⟩ = some (.int .i64 r0) := by rw [(row_cell HZ3.out 1).1]; rfl
  have z2 : w3.cell? ⟨Z, 2, none⟩ = some (.int .u32 r1) := by rw [(row_cell HZ3.out 2).1]; rfl
  have z3 : w3.cell? ⟨Z, 3, none⟩ = some (.int .i64 r2) := by rw [(row_cell HZ3.out 3).1]; rfl
  have z4 : w3.cell? ⟨Z, 4, none⟩ = some (.int .i64 tt) := by rw [(row_cell HZ3.out 4).1]; rfl
  go_wp2_with fail
  refine CO.out.mono ?_
  rintro e w4 ⟨rfl, hb⟩
  have HZ4 : Hid (w4.heap[Z]? = some (.cells #[.int .i64 n, .int .i64 r0, .int .u32 r1, .int .i64 r2, .int .i64 tt] 25 (0, 0))) := (hb.block Z (by have := S3.out; omega)).trans HZ3.out
  have HY4 : Hid (w4.heap[X + 1]? = some (.cells #[.int .i64 0, .int .i64 0, .int .u32 0, .int .i64 0, .int .i64 0] 25 (0, 0))) := (hb.block (X + 1) (by have := S3.out; have := HZB.out; omega)).trans HY3.out
  have B4 : Hid (Below X w w4) := B3.out.trans (hb.mono (by have := S3.out; have := HZB.out; omega))
  have S4 : Hid (Z < w4.heap.size) := by have := S3.out; have := hb.size; unfold Hid; omega
  clear hb CO z0 z1 z2 z3 z4 HZ3 HY3 B3 S3 HL3
  have z0 : w4.cell? ⟨Z, 0, none⟩ = some (.int .i64 n) := by rw [(row_cell HZ4.out 0).1]; rfl
  have zz0 : w4.frozen? ⟨Z, 0, none⟩ = false := (row_cell HZ4.out 0).2
  have z1 : w4.cell? ⟨Z, 1, none⟩ = some (.int .i64 r0) := by rw [(row_cell HZ4.out 1).1]; rfl
  have zz1 : w4.frozen? ⟨Z, 1, none⟩ = false := (row_cell HZ4.out 1).2
  have z2 : w4.cell? ⟨Z, 2, none⟩ = some (.int .u32 r1) := by rw [(row_cell HZ4.out 2).1]; rfl
  have zz2 : w4.frozen? ⟨Z, 2, none⟩ = false := (row_cell HZ4.out 2).2
  have z3 : w4.cell? ⟨Z, 3, none⟩ = some (.int .i64 r2) := by rw [(row_cell HZ4.out 3).1]; rfl
  have zz3 : w4.frozen? ⟨Z, 3, none⟩ = false := (row_cell HZ4.out 3).2
  have z4 : w4.cell? ⟨Z, 4, none⟩ = some (.int .i64 tt) := by rw [(row_cell HZ4.out 4).1]; rfl
  have zz4 : w4.frozen? ⟨Z, 4, none⟩ = false := (row_cell HZ4.out 4).2
  simp only [Rq.val]
  go_upto_region 6 with fail
  obtain ⟨w5, hw5⟩ : ∃ W, (((((w4.setCell ⟨Z, 0, none⟩ (.int .i64 qn)).setCell ⟨Z, 1, none⟩ (.int .i64 qo)).setCell ⟨Z, 2, none⟩ (.int .u32 qa)).setCell ⟨Z, 3, none⟩ (.int .i64 qw)).setCell ⟨Z, 4, none⟩ (.int .i64 qt)) = W := ⟨_, rfl⟩
  rw [hw5]
  have HZ5 : Hid (w5.heap[Z]? = some (.cells #[.int .i64 qn, .int .i64 qo, .int .u32 qa, .int .i64 qw, .int .i64 qt] 25 (0, 0))) := by unfold Hid; rw [← hw5]; exact set_at (set_at (set_at (set_at (set_at HZ4.out 0 _) 1 _) 2 _) 3 _) 4 _
  have f5 : Fo (fun b => b = Z) w4 w5 := by rw [← hw5]; exact (((((Fo.refl (fun b => b = Z) w4).setCell (.inl rfl) 0 _).setCell (.inl rfl) 1 _).setCell (.inl rfl) 2 _).setCell (.inl rfl) 3 _).setCell (.inl rfl) 4 _
  have HY5 : Hid (w5.heap[X + 1]? = some (.cells #[.int .i64 0, .int .i64 0, .int .u32 0, .int .i64 0, .int .i64 0] 25 (0, 0))) := (f5.block (X + 1) (by have := HZB.out; have := S4.out; omega) (by have := HZB.out; omega)).trans HY4.out
  have B5 : Hid (Below X w w5) := B4.out.trans (f5.below (fun b hb => by have := HZB.out; omega) (by have := HZB.out; have := S4.out; omega))
  have S5 : Hid (Z < w5.heap.size) := by have := f5.size; have := S4.out; unfold Hid; omega
  have CF := Lib.hid (fits_any ⟨qn, qo, qa, qw, qt⟩ w5)
  obtain ⟨f, hf⟩ : ∃ f, fitsV ⟨qn, qo, qa, qw, qt⟩ = f := ⟨_, rfl⟩
  rw [hf] at CF HP2
  clear hf hw5 f5 HZ4 HY4 B4 S4 z0 zz0 z1 zz1 z2 zz2 z3 zz3 z4 zz4
  have z0 : w5.cell? ⟨Z, 0, none⟩ = some (.int .i64 qn) := by rw [(row_cell HZ5.out 0).1]; rfl
  have z1 : w5.cell? ⟨Z, 1, none⟩ = some (.int .i64 qo) := by rw [(row_cell HZ5.out 1).1]; rfl
  have z2 : w5.cell? ⟨Z, 2, none⟩ = some (.int .u32 qa) := by rw [(row_cell HZ5.out 2).1]; rfl
  have z3 : w5.cell? ⟨Z, 3, none⟩ = some (.int .i64 qw) := by rw [(row_cell HZ5.out 3).1]; rfl
  have z4 : w5.cell? ⟨Z, 4, none⟩ = some (.int .i64 qt) := by rw [(row_cell HZ5.out 4).1]; rfl
  go_wp2_with fail
  refine CF.out.mono ?_
  rintro e w6 ⟨rfl, hb⟩
  have HZ6 : Hid (w6.heap[Z]? = some (.cells #[.int .i64 qn, .int .i64 qo, .int .u32 qa, .int .i64 qw, .int .i64 qt] 25 (0, 0))) := (hb.block Z S5.out).trans HZ5.out
  have HY6 : Hid (w6.heap[X + 1]? = some (.cells #[.int .i64 0, .int .i64 0, .int .u32 0, .int .i64 0, .int .i64 0] 25 (0, 0))) := (hb.block (X + 1) (by have := S5.out; have := HZB.out; omega)).trans HY5.out
  have B6 : Hid (Below X w w6) := B5.out.trans (hb.mono (by have := S5.out; have := HZB.out; omega))
  clear hb CF z0 z1 z2 z3 z4 HZ5 HY5 B5 S5
  have z0 : w6.cell? ⟨Z, 0, none⟩ = some (.int .i64 qn) := by rw [(row_cell HZ6.out 0).1]; rfl
  have z1 : w6.cell? ⟨Z, 1, none⟩ = some (.int .i64 qo) := by rw [(row_cell HZ6.out 1).1]; rfl
  have z2 : w6.cell? ⟨Z, 2, none⟩ = some (.int .u32 qa) := by rw [(row_cell HZ6.out 2).1]; rfl
  have z3 : w6.cell? ⟨Z, 3, none⟩ = some (.int .i64 qw) := by rw [(row_cell HZ6.out 3).1]; rfl
  have z4 : w6.cell? ⟨Z, 4, none⟩ = some (.int .i64 qt) := by rw [(row_cell HZ6.out 4).1]; rfl
  have y0 : w6.cell? ⟨X + 1, 0, none⟩ = some (.int .i64 0) := by rw [(row_cell HY6.out 0).1]; rfl
  have yz0 : w6.frozen? ⟨X + 1, 0, none⟩ = false := (row_cell HY6.out 0).2
  have y1 : w6.cell? ⟨X + 1, 1, none⟩ = some (.int .i64 0) := by rw [(row_cell HY6.out 1).1]; rfl
  have yz1 : w6.frozen? ⟨X + 1, 1, none⟩ = false := (row_cell HY6.out 1).2
  have y2 : w6.cell? ⟨X + 1, 2, none⟩ = some (.int .u32 0) := by rw [(row_cell HY6.out 2).1]; rfl
  have yz2 : w6.frozen? ⟨X + 1, 2, none⟩ = false := (row_cell HY6.out 2).2
  have y3 : w6.cell? ⟨X + 1, 3, none⟩ = some (.int .i64 0) := by rw [(row_cell HY6.out 3).1]; rfl
  have yz3 : w6.frozen? ⟨X + 1, 3, none⟩ = false := (row_cell HY6.out 3).2
  have y4 : w6.cell? ⟨X + 1, 4, none⟩ = some (.int .i64 0) := by rw [(row_cell HY6.out 4).1]; rfl
  have yz4 : w6.frozen? ⟨X + 1, 4, none⟩ = false := (row_cell HY6.out 4).2
  cases f
  · go_wp2_with fail
    refine bodyPost_ret (results_cell_tmp rfl _ _ (X + 1) _ _ rfl (set_five HY6.out _ _ _ _ _) Tryd.underlying25 rfl (by kernel_rfl)) rfl ?_
    exact ⟨by rw [HP2.out.1, HP2.out.2]; rfl, ((((B6.out.setCell (by exact Nat.le_succ _) _).setCell (by exact Nat.le_succ _) _).setCell (by exact Nat.le_succ _) _).setCell (by exact Nat.le_succ _) _).setCell (by exact Nat.le_succ _) _⟩
  · go_wp2_with fail
    refine bodyPost_ret (results_cell_tmp rfl _ _ (X + 1) _ _ rfl (set_five HY6.out _ _ _ _ _) Tryd.underlying25 rfl (by kernel_rfl)) rfl ?_
    exact ⟨by rw [HP2.out.1, HP2.out.2]; rfl, ((((B6.out.setCell (by exact Nat.le_succ _) _).setCell (by exact Nat.le_succ _) _).setCell (by exact Nat.le_succ _) _).setCell (by exact Nat.le_succ _) _).setCell (by exact Nat.le_succ _) _⟩
end Go.Proofs.YtglpbngdikfliaaDoor.Ca
