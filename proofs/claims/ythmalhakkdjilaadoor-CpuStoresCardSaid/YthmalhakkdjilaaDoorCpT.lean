/-
  Without a memory nothing is done: the law. Each statement bears its own conditions.
-/
import Derived.Test.YthmalhakkdjilaaDoorCpS
namespace Go.Proofs.YthmalhakkdjilaaDoor
open Go.RowKit
set_option linter.unusedVariables false
set_option linter.unusedSimpArgs false
section
variable {ops : Array Oper} {rest : List Oper} {op : Oper} {a : Act} {w : World} {Q : Exit → Act → World → Prop} {g : Nat} {r : List Int} {tl : List Value} {t : TypeId}
theorem wpList_wanted {P : Program} (hw : Region.wanted op (yielded ops a.tmps) = true) (h : ∀ K : Act → World → Prop, (∀ a w, wpList P ops Q rest a w → K a w) → op.wp P a w K Q) : wpList P ops Q (op :: rest) a w :=
  wpList_step fun K hK => by rw [if_pos hw]; exact h K hK
theorem wpList_loadg (x : Operand) (hw : Region.wanted op (yielded ops a.tmps) = true) (ho : op.op = .load 28 x) (hx : a.eval x = .pointer (some ⟨g, 0, none⟩)) (h : RB w g r tl t) (hl : r.length = 45)
    (K : wpList Tryd.prog ops Q rest (a.put op.dst (.agg (cells r).toArray)) w) : wpList Tryd.prog ops Q (op :: rest) a w := by
  refine wpList_wanted hw fun _ hK => ?_
  exact wp_load_mid 28 x ho g 0 hx (cells r) _ h.range Tryd.underlying28 rfl (by rw [cells_len, hl]; exact regs_info) (hK _ _ K)
theorem wpList_eqlg {p q : List Int} {t : Bool} (x y : Operand) (ty : TypeId) (hw : Region.wanted op (yielded ops a.tmps) = true) (ho : op.op = .binOp .eql 28 x y ty) (hx : a.eval x = .agg (cells p).toArray) (hy : a.eval y = .agg (cells q).toArray) (hp : p.length = 45) (hq : q.length = 45) (ht : decide (p = q) = t)
    (K : wpList Tryd.prog ops Q rest (a.put op.dst (.bool t)) w) : wpList Tryd.prog ops Q (op :: rest) a w := by
  refine wpList_wanted hw fun _ hK => ?_
  unfold Oper.wp execOp
  simp only [ho, hx, hy, Sem.run_bind, run_eqGuard_agg (P := Tryd.prog) w .eql 28 x y _ _ (by kernel_rfl), run_eql_regs p q w hp hq, ht, Result.andThen_ok, Sem.run_pure]
  exact hK _ _ K
end
theorem nil_run (r : List Int) (μ : MS) (most : Int) : runGo stNil most most.toNat (RS.start r μ) = if most < 1 then ⟨r, μ, 0, 0, 0, -1, 0⟩ else ⟨r, ⟨μ.W, μ.code, μ.st⟩, 1, 0, 0, -1, 1⟩ := by
  by_cases h : most < 1
  · rw [if_pos h, runGo_stop (by unfold RS.start; dsimp only; omega)]; rfl
  · rw [if_neg h]
    obtain ⟨n, hn⟩ : ∃ n, most.toNat = n + 1 := ⟨most.toNat - 1, by omega⟩
    rw [hn, runGo, if_pos ⟨by unfold RS.start; dsimp only; omega, rfl, rfl⟩, runGo_stop (by unfold RS.next stNil; dsimp only; simp)]
    rfl
theorem ok_nil (most : Int) : ∀ (n : Nat) (s : RS), okGo stNil (fun _ _ => True) most n s
  | 0, s => trivial
  | n + 1, s => fun _ => ⟨trivial, ok_nil most n _⟩
set_option maxRecDepth 100000 in
set_option maxHeartbeats 16000000 in
theorem nil_less (r : List Int) (most : Int) (w : World) (hr : RegOk r) (hmb : -9223372036854775808 ≤ most ∧ most ≤ 9223372036854775807) (hm1 : most < 1) (hL : Laid w) : Calls Tryd.prog 7 #[.agg (cells r).toArray, .int .i64 most] w fun e w' => e = .returned (.bool true) ∧ Below w.heap.size w w' := by
  have C1 := Lib.hid fun (W : World) (hb : Below w.heap.size w W) => step_any (mv := .nilIface) domNil scNil r ⟨[], 0, 0⟩ W (fun _ => False) hr trivial trivial (fun _ h => h.elim) (hL.below hb) (fun _ h => h.elim) (fun h => h)
  have C2 := Lib.hid fun (W : World) (hb : Below w.heap.size w W) => run_any (mv := .nilIface) domNil scNil r ⟨[], 0, 0⟩ most W (fun _ => False) hr (ok_nil most _ _) trivial (fun _ h => h.elim) (hL.below hb) (fun _ h => h.elim) (fun h => h) hmb
  rw [nil_run, if_pos hm1] at C2
  have C3 := Lib.hid fun (W : World) (hb : Below w.heap.size w W) => known_any W (hL.below hb)
  obtain ⟨V0, hV0⟩ : ∃ W1, w.alloc (.cells (cells r).toArray 28) = W1 := ⟨_, rfl⟩
  obtain ⟨g2, hg2⟩ : ∃ g2, w.heap.size = g2 := ⟨_, rfl⟩
  have h1 : RB V0 g2 r [] 28 := by rw [← hV0, ← hg2]; exact RB.new _ _ _
  have HB0 : Hid (Below w.heap.size w V0) := by rw [← hV0]; exact (Below.refl _ _).alloc (Nat.le_refl _) _
  have H2 := Lib.hid h1
  have HL := Lib.hid hr.len
  have hmd : decide (most < 1) = true := by simpa using hm1
  clear h1 hL hr hmb hm1
  go_enter Tryd.func7, Tryd.ntmps7
  go_upto_region 1 with (fail)
  clear hV0 hg2
  go_wp2_with (refine wpList_load_regs rfl _ rfl rfl H2.out HL.out ?_)
  refine (C1.out V0 HB0.out).mono ?_
  rintro e V1 ⟨rfl, _, hps⟩
  have b : Below V0.heap.size V0 V1 := hps.below (fun _ h => h.elim) (Nat.le_refl _)
  clear hps
  have HB1 : Hid (Below w.heap.size w V1) := HB0.out.trans (b.mono HB0.out.size)
  have H2 : Hid (RB V1 g2 r [] 28) := H2.out.below b
  clear b
  unfold stNil SR.val
  dsimp only
  obtain ⟨V2, hV2⟩ : ∃ V, V1.alloc (.cells #[.int .u32 0, .int .u32 0, .int .u32 0, .int .u32 0, .int .u32 0, .int .u32 0, .int .u32 0, .int .u32 0, .int .u32 0, .int .u32 0, .int .u32 0, .int .u32 0, .int .u32 0, .int .u32 0, .int .u32 0, .int .u32 0, .int .u32 0, .int .u32 0, .int .u32 0, .int .u32 0, .int .u32 0, .int .u32 0, .int .i64 0, .int .u32 0, .int .u32 0, .int .i64 0, .int .u32 0, .int .u32 0, .int .i64 0, .int .u32 0, .int .u32 0, .int .i64 0, .int .u32 0, .int .u32 0, .int .i64 0, .int .u32 0, .int .u32 0, .int .i64 0, .int .u32 0, .int .u32 0, .int .i64 0, .int .u32 0, .int .u32 0, .int .i64 0, .int .i64 0] 28) = V := ⟨_, rfl⟩
  obtain ⟨p1, hp1⟩ : ∃ p, V1.heap.size = p := ⟨_, rfl⟩
  have z : RB V2 p1 R0 [] 28 := by rw [← hV2, ← hp1]; exact RB.zero _ _
  have b : Below V1.heap.size V1 V2 := by rw [← hV2]; exact (Below.refl _ _).alloc (Nat.le_refl _) _
  obtain ⟨V3, hV3⟩ : ∃ V, V2.alloc (.cells #[.int .i64 0, .int .i64 0, .int .i64 0] 35) = V := ⟨_, rfl⟩
  obtain ⟨q1, hq1⟩ : ∃ p, V2.heap.size = p := ⟨_, rfl⟩
  have y : V3.heap[q1]? = some (.cells #[.int .i64 0, .int .i64 0, .int .i64 0] 35 (0, 0)) := by rw [← hV3, ← hq1]; exact heap_alloc_new _ _
  have b2 : Below V2.heap.size V2 V3 := by rw [← hV3]; exact (Below.refl _ _).alloc (Nat.le_refl _) _
  have z2 := z.below b2
  have bb : Below w.heap.size w V3 := (HB1.out.trans (b.mono HB1.out.size)).trans (b2.mono (by have := HB1.out.size; have := b.size; omega))
  obtain ⟨V4, hV4⟩ : ∃ V, V3.setCells p1 0 (cells r) = V := ⟨_, rfl⟩
  have p3 : Past p1 V3 V4 := by rw [← hV4]; exact past_setCells _ _ _ _
  have hlt : p1 < q1 := by rw [← hq1]; exact z.lt
  have hwp : w.heap.size ≤ p1 := by rw [← hp1]; exact HB1.out.size
  have z3 : RB V4 p1 r [] 28 := by rw [← hV4]; exact z2.store _ (by rw [r0_len]; exact HL.out)
  have y3 := (p3.block q1 (Array.getElem?_eq_some_iff.1 y).1 (by omega)).trans y
  have e0 := (row_cell y3 0).1
  have e1 := (row_cell y3 1).1
  have e2 := (row_cell y3 2).1
  have e3 := (row_cell y3 0).2
  have e4 := (row_cell y3 1).2
  have e5 := (row_cell y3 2).2
  simp at e0 e1 e2
  have p4 := set3_past (Past.refl q1 V4) (.int .i64 0) (.int .i64 (-1)) (.int .i64 (1))
  have y4 := set3_heap y3 (.int .i64 0) (.int .i64 (-1)) (.int .i64 (1))
  have z4 := z3.keep (p4.block p1 z3.lt (by omega))
  have bc := bb.trans ((p3.below hwp bb.size).trans (p4.below (by omega) (by have := bb.size; have := p3.size; omega)))
  have lzH2 : g2 < p1 := by rw [← hp1]; exact H2.out.lt
  have zaH2 := (H2.out.below b).below b2
  have H2' := Lib.hid ((zaH2.keep (p3.block g2 zaH2.lt (by omega))).keep (p4.block g2 (Nat.lt_of_lt_of_le zaH2.lt p3.size) (by omega)))
  clear lzH2 zaH2 H2
  have Z2 := Lib.hid z2
  have E3 := Lib.hid hV4
  have HY1 := Lib.hid y4
  have HZ1 := Lib.hid z4
  have HB5 := Lib.hid bc
  clear z b y b2 z2 bb p3 hlt hwp z3 y3 p4 y4 z4 bc hV4
  go_upto_region 2 with (refine wpList_store_regs rfl _ _ rfl rfl rfl Z2.out r0_len HL.out ?_; rw [E3.out]; dsimp only [Act.put])
  clear hV2 hV3 hp1 hq1 e0 e1 e2 e3 e4 e5 Z2 E3
  generalize ((V4.setCell ⟨q1, 0, none⟩ (.int .i64 0)).setCell ⟨q1, 1, none⟩ (.int .i64 (-1))).setCell ⟨q1, 2, none⟩ (.int .i64 (1)) = V5 at HY1 HZ1 HB5 H2' ⊢
  have H2 := H2'
  clear H2'
  go_wp2_with (refine wpList_load_regs rfl _ rfl rfl H2.out HL.out ?_)
  refine (C2.out V5 HB5.out).mono ?_
  rintro e V6 ⟨rfl, _, hps⟩
  have b : Below V5.heap.size V5 V6 := hps.below (fun _ h => h.elim) (Nat.le_refl _)
  clear hps
  have HB6 : Hid (Below w.heap.size w V6) := HB5.out.trans (b.mono HB5.out.size)
  have H2 : Hid (RB V6 g2 r [] 28) := H2.out.below b
  have HY1 : Hid (V6.heap[q1]? = some (.cells #[.int .i64 0, .int .i64 (-1), .int .i64 (1)] 35 (0, 0))) := heap_keep b HY1.out
  have HZ1 : Hid (RB V6 p1 r [] 28) := HZ1.out.below b
  clear b
  unfold RS.val
  dsimp only
  obtain ⟨V7, hV7⟩ : ∃ V, V6.alloc (.cells #[.int .u32 0, .int .u32 0, .int .u32 0, .int .u32 0, .int .u32 0, .int .u32 0, .int .u32 0, .int .u32 0, .int .u32 0, .int .u32 0, .int .u32 0, .int .u32 0, .int .u32 0, .int .u32 0, .int .u32 0, .int .u32 0, .int .u32 0, .int .u32 0, .int .u32 0, .int .u32 0, .int .u32 0, .int .u32 0, .int .i64 0, .int .u32 0, .int .u32 0, .int .i64 0, .int .u32 0, .int .u32 0, .int .i64 0, .int .u32 0, .int .u32 0, .int .i64 0, .int .u32 0, .int .u32 0, .int .i64 0, .int .u32 0, .int .u32 0, .int .i64 0, .int .u32 0, .int .u32 0, .int .i64 0, .int .u32 0, .int .u32 0, .int .i64 0, .int .i64 0] 28) = V := ⟨_, rfl⟩
  obtain ⟨p2, hp2⟩ : ∃ p, V6.heap.size = p := ⟨_, rfl⟩
  have z : RB V7 p2 R0 [] 28 := by rw [← hV7, ← hp2]; exact RB.zero _ _
  have b : Below V6.heap.size V6 V7 := by rw [← hV7]; exact (Below.refl _ _).alloc (Nat.le_refl _) _
  obtain ⟨V8, hV8⟩ : ∃ V, V7.alloc (.cells #[.int .i64 0, .int .i64 0, .int .i64 0] 35) = V := ⟨_, rfl⟩
  obtain ⟨q2, hq2⟩ : ∃ p, V7.heap.size = p := ⟨_, rfl⟩
  have y : V8.heap[q2]? = some (.cells #[.int .i64 0, .int .i64 0, .int .i64 0] 35 (0, 0)) := by rw [← hV8, ← hq2]; exact heap_alloc_new _ _
  have b2 : Below V7.heap.size V7 V8 := by rw [← hV8]; exact (Below.refl _ _).alloc (Nat.le_refl _) _
  have z2 := z.below b2
  have bb : Below w.heap.size w V8 := (HB6.out.trans (b.mono HB6.out.size)).trans (b2.mono (by have := HB6.out.size; have := b.size; omega))
  obtain ⟨V9, hV9⟩ : ∃ V, V8.setCells p2 0 (cells r) = V := ⟨_, rfl⟩
  have p3 : Past p2 V8 V9 := by rw [← hV9]; exact past_setCells _ _ _ _
  have hlt : p2 < q2 := by rw [← hq2]; exact z.lt
  have hwp : w.heap.size ≤ p2 := by rw [← hp2]; exact HB6.out.size
  have z3 : RB V9 p2 r [] 28 := by rw [← hV9]; exact z2.store _ (by rw [r0_len]; exact HL.out)
  have y3 := (p3.block q2 (Array.getElem?_eq_some_iff.1 y).1 (by omega)).trans y
  have e0 := (row_cell y3 0).1
  have e1 := (row_cell y3 1).1
  have e2 := (row_cell y3 2).1
  have e3 := (row_cell y3 0).2
  have e4 := (row_cell y3 1).2
  have e5 := (row_cell y3 2).2
  simp at e0 e1 e2
  have p4 := set3_past (Past.refl q2 V9) (.int .i64 0) (.int .i64 (-1)) (.int .i64 (0))
  have y4 := set3_heap y3 (.int .i64 0) (.int .i64 (-1)) (.int .i64 (0))
  have z4 := z3.keep (p4.block p2 z3.lt (by omega))
  have bc := bb.trans ((p3.below hwp bb.size).trans (p4.below (by omega) (by have := bb.size; have := p3.size; omega)))
  have lzH2 : g2 < p2 := by rw [← hp2]; exact H2.out.lt
  have zaH2 := (H2.out.below b).below b2
  have H2' := Lib.hid ((zaH2.keep (p3.block g2 zaH2.lt (by omega))).keep (p4.block g2 (Nat.lt_of_lt_of_le zaH2.lt p3.size) (by omega)))
  clear lzH2 zaH2 H2
  have lzHY1 : q1 < p2 := by rw [← hp2]; exact (Array.getElem?_eq_some_iff.1 HY1.out).1
  have zaHY1 := heap_keep b2 (heap_keep b HY1.out)
  have HY1' := Lib.hid ((p4.block q1 (Nat.lt_of_lt_of_le (Array.getElem?_eq_some_iff.1 zaHY1).1 p3.size) (by omega)).trans ((p3.block q1 (Array.getElem?_eq_some_iff.1 zaHY1).1 (by omega)).trans zaHY1))
  clear lzHY1 zaHY1 HY1
  have lzHZ1 : p1 < p2 := by rw [← hp2]; exact HZ1.out.lt
  have zaHZ1 := (HZ1.out.below b).below b2
  have HZ1' := Lib.hid ((zaHZ1.keep (p3.block p1 zaHZ1.lt (by omega))).keep (p4.block p1 (Nat.lt_of_lt_of_le zaHZ1.lt p3.size) (by omega)))
  clear lzHZ1 zaHZ1 HZ1
  have Z2 := Lib.hid z2
  have E3 := Lib.hid hV9
  have HY2 := Lib.hid y4
  have HZ2 := Lib.hid z4
  have HB10 := Lib.hid bc
  clear z b y b2 z2 bb p3 hlt hwp z3 y3 p4 y4 z4 bc hV9
  go_upto_region 3 with (refine wpList_store_regs rfl _ _ rfl rfl rfl Z2.out r0_len HL.out ?_; rw [E3.out]; dsimp only [Act.put])
  clear hV7 hV8 hp2 hq2 e0 e1 e2 e3 e4 e5 Z2 E3
  generalize ((V9.setCell ⟨q2, 0, none⟩ (.int .i64 0)).setCell ⟨q2, 1, none⟩ (.int .i64 (-1))).setCell ⟨q2, 2, none⟩ (.int .i64 (0)) = V10 at HY2 HZ2 HB10 H2' HY1' HZ1' ⊢
  have H2 := H2'
  clear H2'
  have HY1 := HY1'
  clear HY1'
  have HZ1 := HZ1'
  clear HZ1'
  go_upto_region 4 with (fail)
  obtain ⟨V11, hV11⟩ : ∃ V, V10.alloc (.cells #[.int .i64 0, .int .i64 (-1), .int .i64 1] 35) = V := ⟨_, rfl⟩
  obtain ⟨g11, hg11⟩ : ∃ p, V10.heap.size = p := ⟨_, rfl⟩
  simp only [hV11, hg11]
  have b : Below V10.heap.size V10 V11 := by rw [← hV11]; exact (Below.refl _ _).alloc (Nat.le_refl _) _
  have HE : Hid (V11.heap[g11]? = some (.cells #[.int .i64 0, .int .i64 (-1), .int .i64 (1)] 35 (0, 0))) := by rw [← hV11, ← hg11]; exact heap_alloc_new _ _
  have HB11 : Hid (Below w.heap.size w V11) := HB10.out.trans (b.mono HB10.out.size)
  have H2 : Hid (RB V11 g2 r [] 28) := H2.out.below b
  have HY1 : Hid (V11.heap[q1]? = some (.cells #[.int .i64 0, .int .i64 (-1), .int .i64 (1)] 35 (0, 0))) := heap_keep b HY1.out
  have HZ1 : Hid (RB V11 p1 r [] 28) := HZ1.out.below b
  have HY2 : Hid (V11.heap[q2]? = some (.cells #[.int .i64 0, .int .i64 (-1), .int .i64 (0)] 35 (0, 0))) := heap_keep b HY2.out
  have HZ2 : Hid (RB V11 p2 r [] 28) := HZ2.out.below b
  clear b hV11 hg11
  go_wp2_with fail
  refine (C3.out V11 HB11.out).mono ?_
  rintro e V12 ⟨rfl, b⟩
  have HB12 : Hid (Below w.heap.size w V12) := HB11.out.trans (b.mono HB11.out.size)
  have H2 : Hid (RB V12 g2 r [] 28) := H2.out.below b
  have HY1 : Hid (V12.heap[q1]? = some (.cells #[.int .i64 0, .int .i64 (-1), .int .i64 (1)] 35 (0, 0))) := heap_keep b HY1.out
  have HZ1 : Hid (RB V12 p1 r [] 28) := HZ1.out.below b
  have HY2 : Hid (V12.heap[q2]? = some (.cells #[.int .i64 0, .int .i64 (-1), .int .i64 (0)] 35 (0, 0))) := heap_keep b HY2.out
  have HZ2 : Hid (RB V12 p2 r [] 28) := HZ2.out.below b
  have HE : Hid (V12.heap[g11]? = some (.cells #[.int .i64 0, .int .i64 (-1), .int .i64 (1)] 35 (0, 0))) := heap_keep b HE.out
  clear b
  have a0 := (row_cell HY1.out 0).1
  have a1 := (row_cell HY1.out 1).1
  have a2 := (row_cell HY1.out 2).1
  simp at a0 a1 a2
  have c0 := (row_cell HY2.out 0).1
  have c1 := (row_cell HY2.out 1).1
  have c2 := (row_cell HY2.out 2).1
  simp at c0 c1 c2
  have d0 := (row_cell HE.out 0).1
  have d1 := (row_cell HE.out 1).1
  have d2 := (row_cell HE.out 2).1
  simp at d0 d1 d2
  dsimp only
  go_wp2_with (first | ((with_reducible refine wpList_loadg (.tmp 5) ?_ ?_ ?_ HZ1.out HL.out ?_); rfl; rfl; rfl) | ((with_reducible refine wpList_loadg (.tmp 2) ?_ ?_ ?_ H2.out HL.out ?_); rfl; rfl; rfl) | ((with_reducible refine wpList_loadg (.tmp 7) ?_ ?_ ?_ HZ2.out HL.out ?_); rfl; rfl; rfl) | ((with_reducible refine wpList_eqlg (.tmp 30) (.tmp 31) 28 ?_ ?_ ?_ ?_ HL.out HL.out (decide_eq_true rfl) ?_); rfl; rfl; rfl; rfl) | ((with_reducible refine wpList_eqlg (.tmp 40) (.tmp 41) 28 ?_ ?_ ?_ ?_ HL.out HL.out (decide_eq_true rfl) ?_); rfl; rfl; rfl; rfl))
  go_ret
  exact ⟨rfl, HB12.out⟩
set_option maxRecDepth 100000 in
set_option maxHeartbeats 16000000 in
theorem nil_more (r : List Int) (most : Int) (w : World) (hr : RegOk r) (hmb : -9223372036854775808 ≤ most ∧ most ≤ 9223372036854775807) (hm1 : ¬ most < 1) (hL : Laid w) : Calls Tryd.prog 7 #[.agg (cells r).toArray, .int .i64 most] w fun e w' => e = .returned (.bool true) ∧ Below w.heap.size w w' := by
  have C1 := Lib.hid fun (W : World) (hb : Below w.heap.size w W) => step_any (mv := .nilIface) domNil scNil r ⟨[], 0, 0⟩ W (fun _ => False) hr trivial trivial (fun _ h => h.elim) (hL.below hb) (fun _ h => h.elim) (fun h => h)
  have C2 := Lib.hid fun (W : World) (hb : Below w.heap.size w W) => run_any (mv := .nilIface) domNil scNil r ⟨[], 0, 0⟩ most W (fun _ => False) hr (ok_nil most _ _) trivial (fun _ h => h.elim) (hL.below hb) (fun _ h => h.elim) (fun h => h) hmb
  rw [nil_run, if_neg hm1] at C2
  have C3 := Lib.hid fun (W : World) (hb : Below w.heap.size w W) => known_any W (hL.below hb)
  obtain ⟨V0, hV0⟩ : ∃ W1, w.alloc (.cells (cells r).toArray 28) = W1 := ⟨_, rfl⟩
  obtain ⟨g2, hg2⟩ : ∃ g2, w.heap.size = g2 := ⟨_, rfl⟩
  have h1 : RB V0 g2 r [] 28 := by rw [← hV0, ← hg2]; exact RB.new _ _ _
  have HB0 : Hid (Below w.heap.size w V0) := by rw [← hV0]; exact (Below.refl _ _).alloc (Nat.le_refl _) _
  have H2 := Lib.hid h1
  have HL := Lib.hid hr.len
  have hmd : decide (most < 1) = false := by simpa using hm1
  clear h1 hL hr hmb hm1
  go_enter Tryd.func7, Tryd.ntmps7
  go_upto_region 1 with (fail)
  clear hV0 hg2
  go_wp2_with (refine wpList_load_regs rfl _ rfl rfl H2.out HL.out ?_)
  refine (C1.out V0 HB0.out).mono ?_
  rintro e V1 ⟨rfl, _, hps⟩
  have b : Below V0.heap.size V0 V1 := hps.below (fun _ h => h.elim) (Nat.le_refl _)
  clear hps
  have HB1 : Hid (Below w.heap.size w V1) := HB0.out.trans (b.mono HB0.out.size)
  have H2 : Hid (RB V1 g2 r [] 28) := H2.out.below b
  clear b
  unfold stNil SR.val
  dsimp only
  obtain ⟨V2, hV2⟩ : ∃ V, V1.alloc (.cells #[.int .u32 0, .int .u32 0, .int .u32 0, .int .u32 0, .int .u32 0, .int .u32 0, .int .u32 0, .int .u32 0, .int .u32 0, .int .u32 0, .int .u32 0, .int .u32 0, .int .u32 0, .int .u32 0, .int .u32 0, .int .u32 0, .int .u32 0, .int .u32 0, .int .u32 0, .int .u32 0, .int .u32 0, .int .u32 0, .int .i64 0, .int .u32 0, .int .u32 0, .int .i64 0, .int .u32 0, .int .u32 0, .int .i64 0, .int .u32 0, .int .u32 0, .int .i64 0, .int .u32 0, .int .u32 0, .int .i64 0, .int .u32 0, .int .u32 0, .int .i64 0, .int .u32 0, .int .u32 0, .int .i64 0, .int .u32 0, .int .u32 0, .int .i64 0, .int .i64 0] 28) = V := ⟨_, rfl⟩
  obtain ⟨p1, hp1⟩ : ∃ p, V1.heap.size = p := ⟨_, rfl⟩
  have z : RB V2 p1 R0 [] 28 := by rw [← hV2, ← hp1]; exact RB.zero _ _
  have b : Below V1.heap.size V1 V2 := by rw [← hV2]; exact (Below.refl _ _).alloc (Nat.le_refl _) _
  obtain ⟨V3, hV3⟩ : ∃ V, V2.alloc (.cells #[.int .i64 0, .int .i64 0, .int .i64 0] 35) = V := ⟨_, rfl⟩
  obtain ⟨q1, hq1⟩ : ∃ p, V2.heap.size = p := ⟨_, rfl⟩
  have y : V3.heap[q1]? = some (.cells #[.int .i64 0, .int .i64 0, .int .i64 0] 35 (0, 0)) := by rw [← hV3, ← hq1]; exact heap_alloc_new _ _
  have b2 : Below V2.heap.size V2 V3 := by rw [← hV3]; exact (Below.refl _ _).alloc (Nat.le_refl _) _
  have z2 := z.below b2
  have bb : Below w.heap.size w V3 := (HB1.out.trans (b.mono HB1.out.size)).trans (b2.mono (by have := HB1.out.size; have := b.size; omega))
  obtain ⟨V4, hV4⟩ : ∃ V, V3.setCells p1 0 (cells r) = V := ⟨_, rfl⟩
  have p3 : Past p1 V3 V4 := by rw [← hV4]; exact past_setCells _ _ _ _
  have hlt : p1 < q1 := by rw [← hq1]; exact z.lt
  have hwp : w.heap.size ≤ p1 := by rw [← hp1]; exact HB1.out.size
  have z3 : RB V4 p1 r [] 28 := by rw [← hV4]; exact z2.store _ (by rw [r0_len]; exact HL.out)
  have y3 := (p3.block q1 (Array.getElem?_eq_some_iff.1 y).1 (by omega)).trans y
  have e0 := (row_cell y3 0).1
  have e1 := (row_cell y3 1).1
  have e2 := (row_cell y3 2).1
  have e3 := (row_cell y3 0).2
  have e4 := (row_cell y3 1).2
  have e5 := (row_cell y3 2).2
  simp at e0 e1 e2
  have p4 := set3_past (Past.refl q1 V4) (.int .i64 0) (.int .i64 (-1)) (.int .i64 (1))
  have y4 := set3_heap y3 (.int .i64 0) (.int .i64 (-1)) (.int .i64 (1))
  have z4 := z3.keep (p4.block p1 z3.lt (by omega))
  have bc := bb.trans ((p3.below hwp bb.size).trans (p4.below (by omega) (by have := bb.size; have := p3.size; omega)))
  have lzH2 : g2 < p1 := by rw [← hp1]; exact H2.out.lt
  have zaH2 := (H2.out.below b).below b2
  have H2' := Lib.hid ((zaH2.keep (p3.block g2 zaH2.lt (by omega))).keep (p4.block g2 (Nat.lt_of_lt_of_le zaH2.lt p3.size) (by omega)))
  clear lzH2 zaH2 H2
  have Z2 := Lib.hid z2
  have E3 := Lib.hid hV4
  have HY1 := Lib.hid y4
  have HZ1 := Lib.hid z4
  have HB5 := Lib.hid bc
  clear z b y b2 z2 bb p3 hlt hwp z3 y3 p4 y4 z4 bc hV4
  go_upto_region 2 with (refine wpList_store_regs rfl _ _ rfl rfl rfl Z2.out r0_len HL.out ?_; rw [E3.out]; dsimp only [Act.put])
  clear hV2 hV3 hp1 hq1 e0 e1 e2 e3 e4 e5 Z2 E3
  generalize ((V4.setCell ⟨q1, 0, none⟩ (.int .i64 0)).setCell ⟨q1, 1, none⟩ (.int .i64 (-1))).setCell ⟨q1, 2, none⟩ (.int .i64 (1)) = V5 at HY1 HZ1 HB5 H2' ⊢
  have H2 := H2'
  clear H2'
  go_wp2_with (refine wpList_load_regs rfl _ rfl rfl H2.out HL.out ?_)
  refine (C2.out V5 HB5.out).mono ?_
  rintro e V6 ⟨rfl, _, hps⟩
  have b : Below V5.heap.size V5 V6 := hps.below (fun _ h => h.elim) (Nat.le_refl _)
  clear hps
  have HB6 : Hid (Below w.heap.size w V6) := HB5.out.trans (b.mono HB5.out.size)
  have H2 : Hid (RB V6 g2 r [] 28) := H2.out.below b
  have HY1 : Hid (V6.heap[q1]? = some (.cells #[.int .i64 0, .int .i64 (-1), .int .i64 (1)] 35 (0, 0))) := heap_keep b HY1.out
  have HZ1 : Hid (RB V6 p1 r [] 28) := HZ1.out.below b
  clear b
  unfold RS.val
  dsimp only
  obtain ⟨V7, hV7⟩ : ∃ V, V6.alloc (.cells #[.int .u32 0, .int .u32 0, .int .u32 0, .int .u32 0, .int .u32 0, .int .u32 0, .int .u32 0, .int .u32 0, .int .u32 0, .int .u32 0, .int .u32 0, .int .u32 0, .int .u32 0, .int .u32 0, .int .u32 0, .int .u32 0, .int .u32 0, .int .u32 0, .int .u32 0, .int .u32 0, .int .u32 0, .int .u32 0, .int .i64 0, .int .u32 0, .int .u32 0, .int .i64 0, .int .u32 0, .int .u32 0, .int .i64 0, .int .u32 0, .int .u32 0, .int .i64 0, .int .u32 0, .int .u32 0, .int .i64 0, .int .u32 0, .int .u32 0, .int .i64 0, .int .u32 0, .int .u32 0, .int .i64 0, .int .u32 0, .int .u32 0, .int .i64 0, .int .i64 0] 28) = V := ⟨_, rfl⟩
  obtain ⟨p2, hp2⟩ : ∃ p, V6.heap.size = p := ⟨_, rfl⟩
  have z : RB V7 p2 R0 [] 28 := by rw [← hV7, ← hp2]; exact RB.zero _ _
  have b : Below V6.heap.size V6 V7 := by rw [← hV7]; exact (Below.refl _ _).alloc (Nat.le_refl _) _
  obtain ⟨V8, hV8⟩ : ∃ V, V7.alloc (.cells #[.int .i64 0, .int .i64 0, .int .i64 0] 35) = V := ⟨_, rfl⟩
  obtain ⟨q2, hq2⟩ : ∃ p, V7.heap.size = p := ⟨_, rfl⟩
  have y : V8.heap[q2]? = some (.cells #[.int .i64 0, .int .i64 0, .int .i64 0] 35 (0, 0)) := by rw [← hV8, ← hq2]; exact heap_alloc_new _ _
  have b2 : Below V7.heap.size V7 V8 := by rw [← hV8]; exact (Below.refl _ _).alloc (Nat.le_refl _) _
  have z2 := z.below b2
  have bb : Below w.heap.size w V8 := (HB6.out.trans (b.mono HB6.out.size)).trans (b2.mono (by have := HB6.out.size; have := b.size; omega))
  obtain ⟨V9, hV9⟩ : ∃ V, V8.setCells p2 0 (cells r) = V := ⟨_, rfl⟩
  have p3 : Past p2 V8 V9 := by rw [← hV9]; exact past_setCells _ _ _ _
  have hlt : p2 < q2 := by rw [← hq2]; exact z.lt
  have hwp : w.heap.size ≤ p2 := by rw [← hp2]; exact HB6.out.size
  have z3 : RB V9 p2 r [] 28 := by rw [← hV9]; exact z2.store _ (by rw [r0_len]; exact HL.out)
  have y3 := (p3.block q2 (Array.getElem?_eq_some_iff.1 y).1 (by omega)).trans y
  have e0 := (row_cell y3 0).1
  have e1 := (row_cell y3 1).1
  have e2 := (row_cell y3 2).1
  have e3 := (row_cell y3 0).2
  have e4 := (row_cell y3 1).2
  have e5 := (row_cell y3 2).2
  simp at e0 e1 e2
  have p4 := set3_past (Past.refl q2 V9) (.int .i64 0) (.int .i64 (-1)) (.int .i64 (1))
  have y4 := set3_heap y3 (.int .i64 0) (.int .i64 (-1)) (.int .i64 (1))
  have z4 := z3.keep (p4.block p2 z3.lt (by omega))
  have bc := bb.trans ((p3.below hwp bb.size).trans (p4.below (by omega) (by have := bb.size; have := p3.size; omega)))
  have lzH2 : g2 < p2 := by rw [← hp2]; exact H2.out.lt
  have zaH2 := (H2.out.below b).below b2
  have H2' := Lib.hid ((zaH2.keep (p3.block g2 zaH2.lt (by omega))).keep (p4.block g2 (Nat.lt_of_lt_of_le zaH2.lt p3.size) (by omega)))
  clear lzH2 zaH2 H2
  have lzHY1 : q1 < p2 := by rw [← hp2]; exact (Array.getElem?_eq_some_iff.1 HY1.out).1
  have zaHY1 := heap_keep b2 (heap_keep b HY1.out)
  have HY1' := Lib.hid ((p4.block q1 (Nat.lt_of_lt_of_le (Array.getElem?_eq_some_iff.1 zaHY1).1 p3.size) (by omega)).trans ((p3.block q1 (Array.getElem?_eq_some_iff.1 zaHY1).1 (by omega)).trans zaHY1))
  clear lzHY1 zaHY1 HY1
  have lzHZ1 : p1 < p2 := by rw [← hp2]; exact HZ1.out.lt
  have zaHZ1 := (HZ1.out.below b).below b2
  have HZ1' := Lib.hid ((zaHZ1.keep (p3.block p1 zaHZ1.lt (by omega))).keep (p4.block p1 (Nat.lt_of_lt_of_le zaHZ1.lt p3.size) (by omega)))
  clear lzHZ1 zaHZ1 HZ1
  have Z2 := Lib.hid z2
  have E3 := Lib.hid hV9
  have HY2 := Lib.hid y4
  have HZ2 := Lib.hid z4
  have HB10 := Lib.hid bc
  clear z b y b2 z2 bb p3 hlt hwp z3 y3 p4 y4 z4 bc hV9
  go_upto_region 3 with (refine wpList_store_regs rfl _ _ rfl rfl rfl Z2.out r0_len HL.out ?_; rw [E3.out]; dsimp only [Act.put])
  clear hV7 hV8 hp2 hq2 e0 e1 e2 e3 e4 e5 Z2 E3
  generalize ((V9.setCell ⟨q2, 0, none⟩ (.int .i64 0)).setCell ⟨q2, 1, none⟩ (.int .i64 (-1))).setCell ⟨q2, 2, none⟩ (.int .i64 (1)) = V10 at HY2 HZ2 HB10 H2' HY1' HZ1' ⊢
  have H2 := H2'
  clear H2'
  have HY1 := HY1'
  clear HY1'
  have HZ1 := HZ1'
  clear HZ1'
  go_upto_region 4 with (fail)
  obtain ⟨V11, hV11⟩ : ∃ V, V10.alloc (.cells #[.int .i64 0, .int .i64 (-1), .int .i64 1] 35) = V := ⟨_, rfl⟩
  obtain ⟨g11, hg11⟩ : ∃ p, V10.heap.size = p := ⟨_, rfl⟩
  simp only [hV11, hg11]
  have b : Below V10.heap.size V10 V11 := by rw [← hV11]; exact (Below.refl _ _).alloc (Nat.le_refl _) _
  have HE : Hid (V11.heap[g11]? = some (.cells #[.int .i64 0, .int .i64 (-1), .int .i64 (1)] 35 (0, 0))) := by rw [← hV11, ← hg11]; exact heap_alloc_new _ _
  have HB11 : Hid (Below w.heap.size w V11) := HB10.out.trans (b.mono HB10.out.size)
  have H2 : Hid (RB V11 g2 r [] 28) := H2.out.below b
  have HY1 : Hid (V11.heap[q1]? = some (.cells #[.int .i64 0, .int .i64 (-1), .int .i64 (1)] 35 (0, 0))) := heap_keep b HY1.out
  have HZ1 : Hid (RB V11 p1 r [] 28) := HZ1.out.below b
  have HY2 : Hid (V11.heap[q2]? = some (.cells #[.int .i64 0, .int .i64 (-1), .int .i64 (1)] 35 (0, 0))) := heap_keep b HY2.out
  have HZ2 : Hid (RB V11 p2 r [] 28) := HZ2.out.below b
  clear b hV11 hg11
  go_wp2_with fail
  refine (C3.out V11 HB11.out).mono ?_
  rintro e V12 ⟨rfl, b⟩
  have HB12 : Hid (Below w.heap.size w V12) := HB11.out.trans (b.mono HB11.out.size)
  have H2 : Hid (RB V12 g2 r [] 28) := H2.out.below b
  have HY1 : Hid (V12.heap[q1]? = some (.cells #[.int .i64 0, .int .i64 (-1), .int .i64 (1)] 35 (0, 0))) := heap_keep b HY1.out
  have HZ1 : Hid (RB V12 p1 r [] 28) := HZ1.out.below b
  have HY2 : Hid (V12.heap[q2]? = some (.cells #[.int .i64 0, .int .i64 (-1), .int .i64 (1)] 35 (0, 0))) := heap_keep b HY2.out
  have HZ2 : Hid (RB V12 p2 r [] 28) := HZ2.out.below b
  have HE : Hid (V12.heap[g11]? = some (.cells #[.int .i64 0, .int .i64 (-1), .int .i64 (1)] 35 (0, 0))) := heap_keep b HE.out
  clear b
  have a0 := (row_cell HY1.out 0).1
  have a1 := (row_cell HY1.out 1).1
  have a2 := (row_cell HY1.out 2).1
  simp at a0 a1 a2
  have c0 := (row_cell HY2.out 0).1
  have c1 := (row_cell HY2.out 1).1
  have c2 := (row_cell HY2.out 2).1
  simp at c0 c1 c2
  have d0 := (row_cell HE.out 0).1
  have d1 := (row_cell HE.out 1).1
  have d2 := (row_cell HE.out 2).1
  simp at d0 d1 d2
  dsimp only
  go_wp2_with (first | ((with_reducible refine wpList_loadg (.tmp 5) ?_ ?_ ?_ HZ1.out HL.out ?_); rfl; rfl; rfl) | ((with_reducible refine wpList_loadg (.tmp 2) ?_ ?_ ?_ H2.out HL.out ?_); rfl; rfl; rfl) | ((with_reducible refine wpList_loadg (.tmp 7) ?_ ?_ ?_ HZ2.out HL.out ?_); rfl; rfl; rfl) | ((with_reducible refine wpList_eqlg (.tmp 59) (.tmp 60) 28 ?_ ?_ ?_ ?_ HL.out HL.out (decide_eq_true rfl) ?_); rfl; rfl; rfl; rfl) | ((with_reducible refine wpList_eqlg (.tmp 69) (.tmp 70) 28 ?_ ?_ ?_ ?_ HL.out HL.out (decide_eq_true rfl) ?_); rfl; rfl; rfl; rfl))
  go_ret
  exact ⟨rfl, HB12.out⟩
theorem nil_walk (r : List Int) (most : Int) (w : World) (hr : RegOk r) (hmb : -9223372036854775808 ≤ most ∧ most ≤ 9223372036854775807) (hL : Laid w) : Calls Tryd.prog 7 #[.agg (cells r).toArray, .int .i64 most] w fun e w' => e = .returned (.bool true) ∧ Below w.heap.size w w' := by
  by_cases h : most < 1
  · exact nil_less r most w hr hmb h hL
  · exact nil_more r most w hr hmb h hL
end Go.Proofs.YthmalhakkdjilaaDoor
