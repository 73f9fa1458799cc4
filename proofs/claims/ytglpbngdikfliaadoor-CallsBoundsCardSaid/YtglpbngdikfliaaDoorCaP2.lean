/-
  A field of a call's request. Each statement bears its own conditions.
-/
import Derived.Test.YtglpbngdikfliaaDoorCaP
namespace Go.Proofs.YtglpbngdikfliaaDoor.Ca
open Go.RowKit Go.Proofs.YtglpbngdikfliaaDoor.F
set_option linter.unusedVariables false
set_option linter.unusedSimpArgs false
set_option maxRecDepth 100000 in
set_option maxHeartbeats 32000000 in
theorem bounds_2 (n fld v : Int) (hv : U32 v) (hn : is n = true) (hf : (IntKind.u64.wrap fld).tmod 4 = 2) (w : World) (hL : Laid w) : Calls Tryd.prog 7 #[.int .i64 n, .int .i64 fld, .int .u32 v] w fun e w' => e = .returned (.bool true) ∧ Below w.heap.size w w' := by
  have hrl : Regs [0, 1, v, 0, 0, 0, 0, 0, 0, 0, 0, 0, 0, 0, 0, 0] := ⟨rfl, fun x hx => by obtain ⟨h1, h2⟩ := hv; simp at hx; omega⟩
  obtain ⟨DV1, DV2⟩ := dec_val (n := n) (r0 := 0) (r1 := 1) (r2 := v) (r3 := 0) hrl hn rfl rfl rfl rfl
  obtain ⟨X, hX⟩ : ∃ X, w.heap.size = X := ⟨_, rfl⟩
  have HLw := Lib.hid hL
  have B_w : Hid (Below X w w) := by rw [← hX]; exact Below.refl _ _
  have S_w : Hid (X ≤ w.heap.size) := by rw [hX]; exact Nat.le_refl _
  have L_w := Lib.hid hL
  have CO := Lib.hid (of_any n w)
  rw [hn] at CO
  obtain ⟨bo, hbo⟩ : ∃ x, oB n = x := ⟨_, rfl⟩
  obtain ⟨ba, hba⟩ : ∃ x, aB n = x := ⟨_, rfl⟩
  obtain ⟨bw, hbw⟩ : ∃ x, wB n = x := ⟨_, rfl⟩
  obtain ⟨bt, hbt⟩ : ∃ x, tB n = x := ⟨_, rfl⟩
  obtain ⟨p, hp⟩ : ∃ x, priceL.getD n.toNat 0 = x := ⟨_, rfl⟩
  obtain ⟨wd, hwd⟩ : ∃ x, byteL.getD n.toNat #[] = x := ⟨_, rfl⟩
  have HQ : rowQ n = .agg #[.string ⟨wd⟩, .bool bo, .bool ba, .bool bw, .bool bt, .int .i64 p] := by unfold rowQ wordV; rw [hn, hbo, hba, hbw, hbt, hp, hwd]; rfl
  rw [HQ] at CO
  obtain ⟨Q, hQ⟩ : ∃ Q, decQ n [0, 1, v, 0, 0, 0, 0, 0, 0, 0, 0, 0, 0, 0, 0, 0] = Q := ⟨_, rfl⟩
  obtain ⟨E, hE⟩ : ∃ E, decE n [0, 1, v, 0, 0, 0, 0, 0, 0, 0, 0, 0, 0, 0, 0, 0] = E := ⟨_, rfl⟩
  have CD : Hid (∀ W, Laid W → Calls Tryd.prog 9 #[.int .i64 n, .agg #[.int .u32 0, .int .u32 1, .int .u32 v, .int .u32 0, .int .u32 0, .int .u32 0, .int .u32 0, .int .u32 0, .int .u32 0, .int .u32 0, .int .u32 0, .int .u32 0, .int .u32 0, .int .u32 0, .int .u32 0, .int .u32 0]] W fun e w' => e = .returned (.tuple #[Q.val, .int .i64 E]) ∧ Below W.heap.size W w') := fun W h => by rw [← hQ, ← hE]; exact decode_any n [0, 1, v, 0, 0, 0, 0, 0, 0, 0, 0, 0, 0, 0, 0, 0] hrl W h
  rw [hQ, hE] at DV1 DV2
  rw [hbo, hbw] at DV2
  rw [hbo, hba, hbw, hbt] at DV1
  have D1 := Lib.hid DV1
  have D2 := Lib.hid DV2
  have H26 : Hid (n = 26 → ba = true) := fun h => by rw [← hba, h]; rfl
  have hu : (IntKind.u64.wrap fld).tmod 4 = 2 := hf
  have hu2 : wrap64 (2 : Int) = 2 := IntWalk.wrap64_in _ ⟨by decide, by decide⟩
  have HVB := Lib.hid hv
  clear HQ hbo hba hbw hbt hp hwd hn hQ hE DV1 DV2 hrl hL hf hv
  simp only [hX]
  go_enter Tryd.func7, Tryd.ntmps7
  go_wp2_with fail
  refine (CO.out).mono ?_
  rintro e w1 ⟨rfl, hb⟩
  have B_w1 : Hid (Below X w w1) := B_w.out.trans (hb.mono S_w.out)
  have S_w1 : Hid (X ≤ w1.heap.size) := Nat.le_trans S_w.out hb.size
  have L_w1 : Hid (Laid w1) := HLw.out.below (by rw [hX]; exact B_w1.out)
  clear  B_w S_w L_w
  clear hb
  obtain ⟨T0, hT0⟩ : ∃ Z, w1.heap.size = Z := ⟨_, rfl⟩
  go_upto_region 2 with fail
  obtain ⟨w2, hw2⟩ : ∃ W, w1.alloc (.cells #[.string ⟨wd⟩, .bool bo, .bool ba, .bool bw, .bool bt, .int .i64 p] 46) = W := ⟨_, rfl⟩
  rw [hw2]
  have hb : Below w1.heap.size w1 w2 := by rw [← hw2]; exact (Below.refl _ _).alloc (Nat.le_refl _) _
  have HR_w2 : Hid (w2.heap[T0]? = some (.cells #[.string ⟨wd⟩, .bool bo, .bool ba, .bool bw, .bool bt, .int .i64 p] 46 (0, 0))) := by unfold Hid; rw [← hw2, ← hT0]; exact heap_alloc_new _ _
  have B_w2 : Hid (Below X w w2) := B_w1.out.trans (hb.mono S_w1.out)
  have S_w2 : Hid (X ≤ w2.heap.size) := Nat.le_trans S_w1.out hb.size
  have L_w2 : Hid (Laid w2) := HLw.out.below (by rw [hX]; exact B_w2.out)
  clear  B_w1 S_w1 L_w1
  clear hb hw2 hT0
  obtain ⟨T1, hT1⟩ : ∃ Z, w2.heap.size = Z := ⟨_, rfl⟩
  have hTT : Hid (T0 < T1 ∧ X ≤ T1) := ⟨by rw [← hT1]; exact (Array.getElem?_eq_some_iff.1 HR_w2.out).1, by rw [← hT1]; exact S_w2.out⟩
  go_upto_region 7 with fail
  obtain ⟨w3, hw3⟩ : ∃ W, w2.alloc (.cells #[.int .u32 0, .int .u32 1, .int .u32 0, .int .u32 0, .int .u32 0, .int .u32 0, .int .u32 0, .int .u32 0, .int .u32 0, .int .u32 0, .int .u32 0, .int .u32 0, .int .u32 0, .int .u32 0, .int .u32 0, .int .u32 0] 23) = W := ⟨_, rfl⟩
  rw [hw3]
  have hb : Below w2.heap.size w2 w3 := by rw [← hw3]; exact (Below.refl _ _).alloc (Nat.le_refl _) _
  have HG_w3 : Hid (w3.heap[T1]? = some (.cells #[.int .u32 0, .int .u32 1, .int .u32 0, .int .u32 0, .int .u32 0, .int .u32 0, .int .u32 0, .int .u32 0, .int .u32 0, .int .u32 0, .int .u32 0, .int .u32 0, .int .u32 0, .int .u32 0, .int .u32 0, .int .u32 0] 23 (0, 0))) := by unfold Hid; rw [← hw3, ← hT1]; exact heap_alloc_new _ _
  have HR_w3 : Hid (w3.heap[T0]? = some (.cells #[.string ⟨wd⟩, .bool bo, .bool ba, .bool bw, .bool bt, .int .i64 p] 46 (0, 0))) := (hb.block (T0) (Array.getElem?_eq_some_iff.1 HR_w2.out).1).trans HR_w2.out
  have B_w3 : Hid (Below X w w3) := B_w2.out.trans (hb.mono S_w2.out)
  have S_w3 : Hid (X ≤ w3.heap.size) := Nat.le_trans S_w2.out hb.size
  have L_w3 : Hid (Laid w3) := HLw.out.below (by rw [hX]; exact B_w3.out)
  clear HR_w2 B_w2 S_w2 L_w2
  clear hb hw3 hT1
  have z0 : w3.cell? ⟨T1, 0, none⟩ = some (.int .u32 0) := by rw [(row_cell HG_w3.out 0).1]; rfl
  have zz0 : w3.frozen? ⟨T1, 0, none⟩ = false := (row_cell HG_w3.out 0).2
  have z1 : w3.cell? ⟨T1, 1, none⟩ = some (.int .u32 1) := by rw [(row_cell HG_w3.out 1).1]; rfl
  have zz1 : w3.frozen? ⟨T1, 1, none⟩ = false := (row_cell HG_w3.out 1).2
  have z2 : w3.cell? ⟨T1, 2, none⟩ = some (.int .u32 0) := by rw [(row_cell HG_w3.out 2).1]; rfl
  have zz2 : w3.frozen? ⟨T1, 2, none⟩ = false := (row_cell HG_w3.out 2).2
  have z3 : w3.cell? ⟨T1, 3, none⟩ = some (.int .u32 0) := by rw [(row_cell HG_w3.out 3).1]; rfl
  have zz3 : w3.frozen? ⟨T1, 3, none⟩ = false := (row_cell HG_w3.out 3).2
  have z4 : w3.cell? ⟨T1, 4, none⟩ = some (.int .u32 0) := by rw [(row_cell HG_w3.out 4).1]; rfl
  have zz4 : w3.frozen? ⟨T1, 4, none⟩ = false := (row_cell HG_w3.out 4).2
  have z5 : w3.cell? ⟨T1, 5, none⟩ = some (.int .u32 0) := by rw [(row_cell HG_w3.out 5).1]; rfl
  have zz5 : w3.frozen? ⟨T1, 5, none⟩ = false := (row_cell HG_w3.out 5).2
  have z6 : w3.cell? ⟨T1, 6, none⟩ = some (.int .u32 0) := by rw [(row_cell HG_w3.out 6).1]; rfl
  have zz6 : w3.frozen? ⟨T1, 6, none⟩ = false := (row_cell HG_w3.out 6).2
  have z7 : w3.cell? ⟨T1, 7, none⟩ = some (.int .u32 0) := by rw [(row_cell HG_w3.out 7).1]; rfl
  have zz7 : w3.frozen? ⟨T1, 7, none⟩ = false := (row_cell HG_w3.out 7).2
  have z8 : w3.cell? ⟨T1, 8, none⟩ = some (.int .u32 0) := by rw [(row_cell HG_w3.out 8).1]; rfl
  have zz8 : w3.frozen? ⟨T1, 8, none⟩ = false := (row_cell HG_w3.out 8).2
  have z9 : w3.cell? ⟨T1, 9, none⟩ = some (.int .u32 0) := by rw [(row_cell HG_w3.out 9).1]; rfl
  have zz9 : w3.frozen? ⟨T1, 9, none⟩ = false := (row_cell HG_w3.out 9).2
  have z10 : w3.cell? ⟨T1, 10, none⟩ = some (.int .u32 0) := by rw [(row_cell HG_w3.out 10).1]; rfl
  have zz10 : w3.frozen? ⟨T1, 10, none⟩ = false := (row_cell HG_w3.out 10).2
  have z11 : w3.cell? ⟨T1, 11, none⟩ = some (.int .u32 0) := by rw [(row_cell HG_w3.out 11).1]; rfl
  have zz11 : w3.frozen? ⟨T1, 11, none⟩ = false := (row_cell HG_w3.out 11).2
  have z12 : w3.cell? ⟨T1, 12, none⟩ = some (.int .u32 0) := by rw [(row_cell HG_w3.out 12).1]; rfl
  have zz12 : w3.frozen? ⟨T1, 12, none⟩ = false := (row_cell HG_w3.out 12).2
  have z13 : w3.cell? ⟨T1, 13, none⟩ = some (.int .u32 0) := by rw [(row_cell HG_w3.out 13).1]; rfl
  have zz13 : w3.frozen? ⟨T1, 13, none⟩ = false := (row_cell HG_w3.out 13).2
  have z14 : w3.cell? ⟨T1, 14, none⟩ = some (.int .u32 0) := by rw [(row_cell HG_w3.out 14).1]; rfl
  have zz14 : w3.frozen? ⟨T1, 14, none⟩ = false := (row_cell HG_w3.out 14).2
  have z15 : w3.cell? ⟨T1, 15, none⟩ = some (.int .u32 0) := by rw [(row_cell HG_w3.out 15).1]; rfl
  have zz15 : w3.frozen? ⟨T1, 15, none⟩ = false := (row_cell HG_w3.out 15).2
  go_upto_region 8 with fail
  obtain ⟨w4, hw4⟩ : ∃ W, w3.setCell ⟨T1, 2, none⟩ (.int .u32 v) = W := ⟨_, rfl⟩
  rw [hw4]
  have hfo : Fo (fun b => b = T1) w3 w4 := by rw [← hw4]; exact (Fo.refl (fun b => b = T1) w3).setCell (.inl rfl) 2 _
  have HG_w4 : Hid (w4.heap[T1]? = some (.cells #[.int .u32 0, .int .u32 1, .int .u32 v, .int .u32 0, .int .u32 0, .int .u32 0, .int .u32 0, .int .u32 0, .int .u32 0, .int .u32 0, .int .u32 0, .int .u32 0, .int .u32 0, .int .u32 0, .int .u32 0, .int .u32 0] 23 (0, 0))) := by unfold Hid; rw [← hw4]; exact set_at HG_w3.out 2 _
  have HR_w4 : Hid (w4.heap[T0]? = some (.cells #[.string ⟨wd⟩, .bool bo, .bool ba, .bool bw, .bool bt, .int .i64 p] 46 (0, 0))) := (hfo.block T0 (Array.getElem?_eq_some_iff.1 HR_w3.out).1 (by have := hTT.out; omega)).trans HR_w3.out
  have B_w4 : Hid (Below X w w4) := by rw [← hw4]; exact B_w3.out.setCell (by show X ≤ T1; have := hTT.out; omega) _
  have S_w4 : Hid (X ≤ w4.heap.size) := Nat.le_trans S_w3.out hfo.size
  have L_w4 : Hid (Laid w4) := HLw.out.below (by rw [hX]; exact B_w4.out)
  clear hfo hw4 HG_w3 HR_w3 B_w3 S_w3 L_w3 z0 zz0 z1 zz1 z2 zz2 z3 zz3 z4 zz4 z5 zz5 z6 zz6 z7 zz7 z8 zz8 z9 zz9 z10 zz10 z11 zz11 z12 zz12 z13 zz13 z14 zz14 z15 zz15
  have z0 : w4.cell? ⟨T1, 0, none⟩ = some (.int .u32 0) := by rw [(row_cell HG_w4.out 0).1]; rfl
  have z1 : w4.cell? ⟨T1, 1, none⟩ = some (.int .u32 1) := by rw [(row_cell HG_w4.out 1).1]; rfl
  have z2 : w4.cell? ⟨T1, 2, none⟩ = some (.int .u32 v) := by rw [(row_cell HG_w4.out 2).1]; rfl
  have z3 : w4.cell? ⟨T1, 3, none⟩ = some (.int .u32 0) := by rw [(row_cell HG_w4.out 3).1]; rfl
  have z4 : w4.cell? ⟨T1, 4, none⟩ = some (.int .u32 0) := by rw [(row_cell HG_w4.out 4).1]; rfl
  have z5 : w4.cell? ⟨T1, 5, none⟩ = some (.int .u32 0) := by rw [(row_cell HG_w4.out 5).1]; rfl
  have z6 : w4.cell? ⟨T1, 6, none⟩ = some (.int .u32 0) := by rw [(row_cell HG_w4.out 6).1]; rfl
  have z7 : w4.cell? ⟨T1, 7, none⟩ = some (.int .u32 0) := by rw [(row_cell HG_w4.out 7).1]; rfl
  have z8 : w4.cell? ⟨T1, 8, none⟩ = some (.int .u32 0) := by rw [(row_cell HG_w4.out 8).1]; rfl
  have z9 : w4.cell? ⟨T1, 9, none⟩ = some (.int .u32 0) := by rw [(row_cell HG_w4.out 9).1]; rfl
  have z10 : w4.cell? ⟨T1, 10, none⟩ = some (.int .u32 0) := by rw [(row_cell HG_w4.out 10).1]; rfl
  have z11 : w4.cell? ⟨T1, 11, none⟩ = some (.int .u32 0) := by rw [(row_cell HG_w4.out 11).1]; rfl
  have z12 : w4.cell? ⟨T1, 12, none⟩ = some (.int .u32 0) := by rw [(row_cell HG_w4.out 12).1]; rfl
  have z13 : w4.cell? ⟨T1, 13, none⟩ = some (.int .u32 0) := by rw [(row_cell HG_w4.out 13).1]; rfl
  have z14 : w4.cell? ⟨T1, 14, none⟩ = some (.int .u32 0) := by rw [(row_cell HG_w4.out 14).1]; rfl
  have z15 : w4.cell? ⟨T1, 15, none⟩ = some (.int .u32 0) := by rw [(row_cell HG_w4.out 15).1]; rfl
  go_wp2_with fail
  clear z0 z1 z2 z3 z4 z5 z6 z7 z8 z9 z10 z11 z12 z13 z14 z15
  refine (CD.out _ L_w4.out).mono ?_
  rintro e w5 ⟨rfl, hb⟩
  have HG_w5 : Hid (w5.heap[T1]? = some (.cells #[.int .u32 0, .int .u32 1, .int .u32 v, .int .u32 0, .int .u32 0, .int .u32 0, .int .u32 0, .int .u32 0, .int .u32 0, .int .u32 0, .int .u32 0, .int .u32 0, .int .u32 0, .int .u32 0, .int .u32 0, .int .u32 0] 23 (0, 0))) := (hb.block (T1) (Array.getElem?_eq_some_iff.1 HG_w4.out).1).trans HG_w4.out
  have HR_w5 : Hid (w5.heap[T0]? = some (.cells #[.string ⟨wd⟩, .bool bo, .bool ba, .bool bw, .bool bt, .int .i64 p] 46 (0, 0))) := (hb.block (T0) (Array.getElem?_eq_some_iff.1 HR_w4.out).1).trans HR_w4.out
  have B_w5 : Hid (Below X w w5) := B_w4.out.trans (hb.mono S_w4.out)
  have S_w5 : Hid (X ≤ w5.heap.size) := Nat.le_trans S_w4.out hb.size
  have L_w5 : Hid (Laid w5) := HLw.out.below (by rw [hX]; exact B_w5.out)
  clear HG_w4 HR_w4 B_w4 S_w4 L_w4
  clear hb
  obtain ⟨qc, qo, qa, qw, qt⟩ := Q
  simp only [Rq.val]
  obtain ⟨T2, hT2⟩ : ∃ Z, w5.heap.size = Z := ⟨_, rfl⟩
  go_upto_region 9 with fail
  obtain ⟨w6, hw6⟩ : ∃ W, w5.alloc (.cells #[.int .i64 qc, .int .i64 qo, .int .u32 qa, .int .i64 qw, .int .i64 qt] 25) = W := ⟨_, rfl⟩
  rw [hw6]
  have hb : Below w5.heap.size w5 w6 := by rw [← hw6]; exact (Below.refl _ _).alloc (Nat.le_refl _) _
  have HQ_w6 : Hid (w6.heap[T2]? = some (.cells #[.int .i64 qc, .int .i64 qo, .int .u32 qa, .int .i64 qw, .int .i64 qt] 25 (0, 0))) := by unfold Hid; rw [← hw6, ← hT2]; exact heap_alloc_new _ _
  have HG_w6 : Hid (w6.heap[T1]? = some (.cells #[.int .u32 0, .int .u32 1, .int .u32 v, .int .u32 0, .int .u32 0, .int .u32 0, .int .u32 0, .int .u32 0, .int .u32 0, .int .u32 0, .int .u32 0, .int .u32 0, .int .u32 0, .int .u32 0, .int .u32 0, .int .u32 0] 23 (0, 0))) := (hb.block (T1) (Array.getElem?_eq_some_iff.1 HG_w5.out).1).trans HG_w5.out
  have HR_w6 : Hid (w6.heap[T0]? = some (.cells #[.string ⟨wd⟩, .bool bo, .bool ba, .bool bw, .bool bt, .int .i64 p] 46 (0, 0))) := (hb.block (T0) (Array.getElem?_eq_some_iff.1 HR_w5.out).1).trans HR_w5.out
  have B_w6 : Hid (Below X w w6) := B_w5.out.trans (hb.mono S_w5.out)
  have S_w6 : Hid (X ≤ w6.heap.size) := Nat.le_trans S_w5.out hb.size
  have L_w6 : Hid (Laid w6) := HLw.out.below (by rw [hX]; exact B_w6.out)
  clear HG_w5 HR_w5 B_w5 S_w5 L_w5
  clear hb hw6 hT2
  cases bw
  · obtain ⟨rfl, hq⟩ := D1.out (⟨(fun _ => by omega), (fun h => by cases h), (fun _ => by omega)⟩)
    have hq1 : qc = n ∧ qo = (if bo = true then 0 else 0) ∧ qa = (if ba = true then 1 else 0) ∧ qw = 0 ∧ qt = (if bt = true then tickV 0 else 0) := by injection hq with a1 a2 a3 a4 a5; exact ⟨a1, a2, a3, a4, a5⟩
    clear hq
    obtain ⟨q1, q2, q3, q4, q5⟩ := hq1
    have HQV := Lib.hid (And.intro q1 (And.intro q2 (And.intro q3 (And.intro q4 q5))))
    clear q1 q2 q3 q4 q5
    have t0 : w6.cell? ⟨T0, 0, none⟩ = some (.string ⟨wd⟩) := by rw [(row_cell HR_w6.out 0).1]; rfl
    have t1 : w6.cell? ⟨T0, 1, none⟩ = some (.bool bo) := by rw [(row_cell HR_w6.out 1).1]; rfl
    have t2 : w6.cell? ⟨T0, 2, none⟩ = some (.bool ba) := by rw [(row_cell HR_w6.out 2).1]; rfl
    have t3 : w6.cell? ⟨T0, 3, none⟩ = some (.bool false) := by rw [(row_cell HR_w6.out 3).1]; rfl
    have t4 : w6.cell? ⟨T0, 4, none⟩ = some (.bool bt) := by rw [(row_cell HR_w6.out 4).1]; rfl
    have t5 : w6.cell? ⟨T0, 5, none⟩ = some (.int .i64 p) := by rw [(row_cell HR_w6.out 5).1]; rfl
    have x0 : w6.cell? ⟨T2, 0, none⟩ = some (.int .i64 qc) := by rw [(row_cell HQ_w6.out 0).1]; rfl
    have x1 : w6.cell? ⟨T2, 1, none⟩ = some (.int .i64 qo) := by rw [(row_cell HQ_w6.out 1).1]; rfl
    have x2 : w6.cell? ⟨T2, 2, none⟩ = some (.int .u32 qa) := by rw [(row_cell HQ_w6.out 2).1]; rfl
    have x3 : w6.cell? ⟨T2, 3, none⟩ = some (.int .i64 qw) := by rw [(row_cell HQ_w6.out 3).1]; rfl
    have x4 : w6.cell? ⟨T2, 4, none⟩ = some (.int .i64 qt) := by rw [(row_cell HQ_w6.out 4).1]; rfl
    obtain ⟨g0, hg0⟩ : ∃ x, IntKind.u32.wrap qo = x := ⟨_, rfl⟩
    obtain ⟨g2, hg2⟩ : ∃ x, IntKind.u32.wrap qw = x := ⟨_, rfl⟩
    obtain ⟨g3, hg3⟩ : ∃ x, IntKind.u32.wrap qt = x := ⟨_, rfl⟩
    have HGG := Lib.hid (And.intro hg0 (And.intro hg2 hg3))
    obtain ⟨T3, hT3⟩ : ∃ Z, w6.heap.size = Z := ⟨_, rfl⟩
    go_upto_region 13 with fail
    obtain ⟨w7, hw7⟩ : ∃ W, w6.alloc (.cells #[.bool bo, .bool ba, .bool false, .bool bt] 4) = W := ⟨_, rfl⟩
    rw [hw7]
    have hb : Below w6.heap.size w6 w7 := by rw [← hw7]; exact (Below.refl _ _).alloc (Nat.le_refl _) _
    have HS1_w7 : Hid (w7.heap[T3]? = some (.cells #[.bool bo, .bool ba, .bool false, .bool bt] 4 (0, 0))) := by unfold Hid; rw [← hw7, ← hT3]; exact heap_alloc_new _ _
    have HG_w7 : Hid (w7.heap[T1]? = some (.cells #[.int .u32 0, .int .u32 1, .int .u32 v, .int .u32 0, .int .u32 0, .int .u32 0, .int .u32 0, .int .u32 0, .int .u32 0, .int .u32 0, .int .u32 0, .int .u32 0, .int .u32 0, .int .u32 0, .int .u32 0, .int .u32 0] 23 (0, 0))) := (hb.block (T1) (Array.getElem?_eq_some_iff.1 HG_w6.out).1).trans HG_w6.out
    have HR_w7 : Hid (w7.heap[T0]? = some (.cells #[.string ⟨wd⟩, .bool bo, .bool ba, .bool false, .bool bt, .int .i64 p] 46 (0, 0))) := (hb.block (T0) (Array.getElem?_eq_some_iff.1 HR_w6.out).1).trans HR_w6.out
    have HQ_w7 : Hid (w7.heap[T2]? = some (.cells #[.int .i64 qc, .int .i64 qo, .int .u32 qa, .int .i64 qw, .int .i64 qt] 25 (0, 0))) := (hb.block (T2) (Array.getElem?_eq_some_iff.1 HQ_w6.out).1).trans HQ_w6.out
    have B_w7 : Hid (Below X w w7) := B_w6.out.trans (hb.mono S_w6.out)
    have S_w7 : Hid (X ≤ w7.heap.size) := Nat.le_trans S_w6.out hb.size
    have L_w7 : Hid (Laid w7) := HLw.out.below (by rw [hX]; exact B_w7.out)
    clear HG_w6 HR_w6 HQ_w6 B_w6 S_w6 L_w6
    clear hb hw7 hT3
    clear t0 t1 t2 t3 t4 t5 x0 x1 x2 x3 x4
    have x0 : w7.cell? ⟨T2, 0, none⟩ = some (.int .i64 qc) := by rw [(row_cell HQ_w7.out 0).1]; rfl
    have x1 : w7.cell? ⟨T2, 1, none⟩ = some (.int .i64 qo) := by rw [(row_cell HQ_w7.out 1).1]; rfl
    have x2 : w7.cell? ⟨T2, 2, none⟩ = some (.int .u32 qa) := by rw [(row_cell HQ_w7.out 2).1]; rfl
    have x3 : w7.cell? ⟨T2, 3, none⟩ = some (.int .i64 qw) := by rw [(row_cell HQ_w7.out 3).1]; rfl
    have x4 : w7.cell? ⟨T2, 4, none⟩ = some (.int .i64 qt) := by rw [(row_cell HQ_w7.out 4).1]; rfl
    obtain ⟨T4, hT4⟩ : ∃ Z, w7.heap.size = Z := ⟨_, rfl⟩
    go_upto_region 14 with fail
    obtain ⟨w8, hw8⟩ : ∃ W, w7.alloc (.cells #[.int .u32 g0, .int .u32 qa, .int .u32 g2, .int .u32 g3] 22) = W := ⟨_, rfl⟩
    rw [hw8]
    have hb : Below w7.heap.size w7 w8 := by rw [← hw8]; exact (Below.refl _ _).alloc (Nat.le_refl _) _
    have HS2_w8 : Hid (w8.heap[T4]? = some (.cells #[.int .u32 g0, .int .u32 qa, .int .u32 g2, .int .u32 g3] 22 (0, 0))) := by unfold Hid; rw [← hw8, ← hT4]; exact heap_alloc_new _ _
    have HG_w8 : Hid (w8.heap[T1]? = some (.cells #[.int .u32 0, .int .u32 1, .int .u32 v, .int .u32 0, .int .u32 0, .int .u32 0, .int .u32 0, .int .u32 0, .int .u32 0, .int .u32 0, .int .u32 0, .int .u32 0, .int .u32 0, .int .u32 0, .int .u32 0, .int .u32 0] 23 (0, 0))) := (hb.block (T1) (Array.getElem?_eq_some_iff.1 HG_w7.out).1).trans HG_w7.out
    have HR_w8 : Hid (w8.heap[T0]? = some (.cells #[.string ⟨wd⟩, .bool bo, .bool ba, .bool false, .bool bt, .int .i64 p] 46 (0, 0))) := (hb.block (T0) (Array.getElem?_eq_some_iff.1 HR_w7.out).1).trans HR_w7.out
    have HQ_w8 : Hid (w8.heap[T2]? = some (.cells #[.int .i64 qc, .int .i64 qo, .int .u32 qa, .int .i64 qw, .int .i64 qt] 25 (0, 0))) := (hb.block (T2) (Array.getElem?_eq_some_iff.1 HQ_w7.out).1).trans HQ_w7.out
    have HS1_w8 : Hid (w8.heap[T3]? = some (.cells #[.bool bo, .bool ba, .bool false, .bool bt] 4 (0, 0))) := (hb.block (T3) (Array.getElem?_eq_some_iff.1 HS1_w7.out).1).trans HS1_w7.out
    have B_w8 : Hid (Below X w w8) := B_w7.out.trans (hb.mono S_w7.out)
    have S_w8 : Hid (X ≤ w8.heap.size) := Nat.le_trans S_w7.out hb.size
    have L_w8 : Hid (Laid w8) := HLw.out.below (by rw [hX]; exact B_w8.out)
    clear HG_w7 HR_w7 HQ_w7 HS1_w7 B_w7 S_w7 L_w7
    clear hb hw8 hT4
    clear x0 x1 x2 x3 x4
    clear hg0 hg2 hg3
    have t0 : w8.cell? ⟨T3, 0, none⟩ = some (.bool bo) := by rw [(row_cell HS1_w8.out 0).1]; rfl
    have t1 : w8.cell? ⟨T3, 1, none⟩ = some (.bool ba) := by rw [(row_cell HS1_w8.out 1).1]; rfl
    have t2 : w8.cell? ⟨T3, 2, none⟩ = some (.bool false) := by rw [(row_cell HS1_w8.out 2).1]; rfl
    have t3 : w8.cell? ⟨T3, 3, none⟩ = some (.bool bt) := by rw [(row_cell HS1_w8.out 3).1]; rfl
    go_wp2_with fail
    clear t0 t1 t2 t3
    refine (known_any w8 L_w8.out).mono ?_
    rintro e w9 ⟨rfl, hb⟩
    have HG_w9 : Hid (w9.heap[T1]? = some (.cells #[.int .u32 0, .int .u32 1, .int .u32 v, .int .u32 0, .int .u32 0, .int .u32 0, .int .u32 0, .int .u32 0, .int .u32 0, .int .u32 0, .int .u32 0, .int .u32 0, .int .u32 0, .int .u32 0, .int .u32 0, .int .u32 0] 23 (0, 0))) := (hb.block (T1) (Array.getElem?_eq_some_iff.1 HG_w8.out).1).trans HG_w8.out
    have HR_w9 : Hid (w9.heap[T0]? = some (.cells #[.string ⟨wd⟩, .bool bo, .bool ba, .bool false, .bool bt, .int .i64 p] 46 (0, 0))) := (hb.block (T0) (Array.getElem?_eq_some_iff.1 HR_w8.out).1).trans HR_w8.out
    have HQ_w9 : Hid (w9.heap[T2]? = some (.cells #[.int .i64 qc, .int .i64 qo, .int .u32 qa, .int .i64 qw, .int .i64 qt] 25 (0, 0))) := (hb.block (T2) (Array.getElem?_eq_some_iff.1 HQ_w8.out).1).trans HQ_w8.out
    have HS1_w9 : Hid (w9.heap[T3]? = some (.cells #[.bool bo, .bool ba, .bool false, .bool bt] 4 (0, 0))) := (hb.block (T3) (Array.getElem?_eq_some_iff.1 HS1_w8.out).1).trans HS1_w8.out
    have HS2_w9 : Hid (w9.heap[T4]? = some (.cells #[.int .u32 g0, .int .u32 qa, .int .u32 g2, .int .u32 g3] 22 (0, 0))) := (hb.block (T4) (Array.getElem?_eq_some_iff.1 HS2_w8.out).1).trans HS2_w8.out
    have B_w9 : Hid (Below X w w9) := B_w8.out.trans (hb.mono S_w8.out)
    have S_w9 : Hid (X ≤ w9.heap.size) := Nat.le_trans S_w8.out hb.size
    have L_w9 : Hid (Laid w9) := HLw.out.below (by rw [hX]; exact B_w9.out)
    clear HG_w8 HR_w8 HQ_w8 HS1_w8 HS2_w8 B_w8 S_w8 L_w8
    clear hb
    have x0 : w9.cell? ⟨T2, 0, none⟩ = some (.int .i64 qc) := by rw [(row_cell HQ_w9.out 0).1]; rfl
    have x1 : w9.cell? ⟨T2, 1, none⟩ = some (.int .i64 qo) := by rw [(row_cell HQ_w9.out 1).1]; rfl
    have x2 : w9.cell? ⟨T2, 2, none⟩ = some (.int .u32 qa) := by rw [(row_cell HQ_w9.out 2).1]; rfl
    have x3 : w9.cell? ⟨T2, 3, none⟩ = some (.int .i64 qw) := by rw [(row_cell HQ_w9.out 3).1]; rfl
    have x4 : w9.cell? ⟨T2, 4, none⟩ = some (.int .i64 qt) := by rw [(row_cell HQ_w9.out 4).1]; rfl
    have t0 : w9.cell? ⟨T4, 0, none⟩ = some (.int .u32 g0) := by rw [(row_cell HS2_w9.out 0).1]; rfl
    have t1 : w9.cell? ⟨T4, 1, none⟩ = some (.int .u32 qa) := by rw [(row_cell HS2_w9.out 1).1]; rfl
    have t2 : w9.cell? ⟨T4, 2, none⟩ = some (.int .u32 g2) := by rw [(row_cell HS2_w9.out 2).1]; rfl
    have t3 : w9.cell? ⟨T4, 3, none⟩ = some (.int .u32 g3) := by rw [(row_cell HS2_w9.out 3).1]; rfl
    have kc : (qc == n) = true := by simpa using HQV.out.1
    have kg : (g2 == 0) = true := by rw [← HGG.out.2.1, HQV.out.2.2.2.1]; rfl
    go_wp2_with fail
    go_ret
    exact ⟨rfl, B_w9.out⟩
  · by_cases h15 : 32 < v
    · have k15 : decide (32 < v) = true := by simp only [h15, decide_true]
      obtain ⟨rfl, hq⟩ := D2.out (fun h => by have := h.2.1 rfl; omega)
      have hq1 : qc = 0 ∧ qo = 0 ∧ qa = 0 ∧ qw = 0 ∧ qt = 0 := by unfold zeroQ at hq; injection hq with a1 a2 a3 a4 a5; exact ⟨a1, a2, a3, a4, a5⟩
      obtain ⟨rfl, rfl, rfl, rfl, rfl⟩ := hq1
      have EQL : ∀ W, (binOp .eql 25 (.agg #[.int .i64 0, .int .i64 0, .int .u32 0, .int .i64 0, .int .i64 0]) (.agg #[.int .i64 0, .int .i64 0, .int .u32 0, .int .i64 0, .int .i64 0])).run Tryd.prog W = .ok (.bool true) W := fun W => req_eql zeroQ zeroQ W
      clear hq
      have t0 : w6.cell? ⟨T0, 0, none⟩ = some (.string ⟨wd⟩) := by rw [(row_cell HR_w6.out 0).1]; rfl
      have t1 : w6.cell? ⟨T0, 1, none⟩ = some (.bool bo) := by rw [(row_cell HR_w6.out 1).1]; rfl
      have t2 : w6.cell? ⟨T0, 2, none⟩ = some (.bool ba) := by rw [(row_cell HR_w6.out 2).1]; rfl
      have t3 : w6.cell? ⟨T0, 3, none⟩ = some (.bool true) := by rw [(row_cell HR_w6.out 3).1]; rfl
      have t4 : w6.cell? ⟨T0, 4, none⟩ = some (.bool bt) := by rw [(row_cell HR_w6.out 4).1]; rfl
      have t5 : w6.cell? ⟨T0, 5, none⟩ = some (.int .i64 p) := by rw [(row_cell HR_w6.out 5).1]; rfl
      go_wp2_with fail
      clear t0 t1 t2 t3 t4 t5
      refine (known_any w6 L_w6.out).mono ?_
      rintro e w7 ⟨rfl, hb⟩
      have HG_w7 : Hid (w7.heap[T1]? = some (.cells #[.int .u32 0, .int .u32 1, .int .u32 v, .int .u32 0, .int .u32 0, .int .u32 0, .int .u32 0, .int .u32 0, .int .u32 0, .int .u32 0, .int .u32 0, .int .u32 0, .int .u32 0, .int .u32 0, .int .u32 0, .int .u32 0] 23 (0, 0))) := (hb.block (T1) (Array.getElem?_eq_some_iff.1 HG_w6.out).1).trans HG_w6.out
      have HR_w7 : Hid (w7.heap[T0]? = some (.cells #[.string ⟨wd⟩, .bool bo, .bool ba, .bool true, .bool bt, .int .i64 p] 46 (0, 0))) := (hb.block (T0) (Array.getElem?_eq_some_iff.1 HR_w6.out).1).trans HR_w6.out
      have HQ_w7 : Hid (w7.heap[T2]? = some (.cells #[.int .i64 0, .int .i64 0, .int .u32 0, .int .i64 0, .int .i64 0] 25 (0, 0))) := (hb.block (T2) (Array.getElem?_eq_some_iff.1 HQ_w6.out).1).trans HQ_w6.out
      have B_w7 : Hid (Below X w w7) := B_w6.out.trans (hb.mono S_w6.out)
      have S_w7 : Hid (X ≤ w7.heap.size) := Nat.le_trans S_w6.out hb.size
      have L_w7 : Hid (Laid w7) := HLw.out.below (by rw [hX]; exact B_w7.out)
      clear HG_w6 HR_w6 HQ_w6 B_w6 S_w6 L_w6
      clear hb
      have x0 : w7.cell? ⟨T2, 0, none⟩ = some (.int .i64 0) := by rw [(row_cell HQ_w7.out 0).1]; rfl
      have x1 : w7.cell? ⟨T2, 1, none⟩ = some (.int .i64 0) := by rw [(row_cell HQ_w7.out 1).1]; rfl
      have x2 : w7.cell? ⟨T2, 2, none⟩ = some (.int .u32 0) := by rw [(row_cell HQ_w7.out 2).1]; rfl
      have x3 : w7.cell? ⟨T2, 3, none⟩ = some (.int .i64 0) := by rw [(row_cell HQ_w7.out 3).1]; rfl
      have x4 : w7.cell? ⟨T2, 4, none⟩ = some (.int .i64 0) := by rw [(row_cell HQ_w7.out 4).1]; rfl
      go_wp2_with fail
      go_ret
      exact ⟨rfl, B_w7.out⟩
    · have k15 : decide (32 < v) = false := by simp only [h15, decide_false]
      obtain ⟨rfl, hq⟩ := D1.out (⟨(fun _ => by omega), (fun _ => by omega), (fun _ => by omega)⟩)
      have hq1 : qc = n ∧ qo = (if bo = true then 0 else 0) ∧ qa = (if ba = true then 1 else 0) ∧ qw = v ∧ qt = (if bt = true then tickV 0 else 0) := by injection hq with a1 a2 a3 a4 a5; exact ⟨a1, a2, a3, a4, a5⟩
      clear hq
      obtain ⟨q1, q2, q3, q4, q5⟩ := hq1
      have HQV := Lib.hid (And.intro q1 (And.intro q2 (And.intro q3 (And.intro q4 q5))))
      clear q1 q2 q3 q4 q5
      have t0 : w6.cell? ⟨T0, 0, none⟩ = some (.string ⟨wd⟩) := by rw [(row_cell HR_w6.out 0).1]; rfl
      have t1 : w6.cell? ⟨T0, 1, none⟩ = some (.bool bo) := by rw [(row_cell HR_w6.out 1).1]; rfl
      have t2 : w6.cell? ⟨T0, 2, none⟩ = some (.bool ba) := by rw [(row_cell HR_w6.out 2).1]; rfl
      have t3 : w6.cell? ⟨T0, 3, none⟩ = some (.bool true) := by rw [(row_cell HR_w6.out 3).1]; rfl
      have t4 : w6.cell? ⟨T0, 4, none⟩ = some (.bool bt) := by rw [(row_cell HR_w6.out 4).1]; rfl
      have t5 : w6.cell? ⟨T0, 5, none⟩ = some (.int .i64 p) := by rw [(row_cell HR_w6.out 5).1]; rfl
      have x0 : w6.cell? ⟨T2, 0, none⟩ = some (.int .i64 qc) := by rw [(row_cell HQ_w6.out 0).1]; rfl
      have x1 : w6.cell? ⟨T2, 1, none⟩ = some (.int .i64 qo) := by rw [(row_cell HQ_w6.out 1).1]; rfl
      have x2 : w6.cell? ⟨T2, 2, none⟩ = some (.int .u32 qa) := by rw [(row_cell HQ_w6.out 2).1]; rfl
      have x3 : w6.cell? ⟨T2, 3, none⟩ = some (.int .i64 qw) := by rw [(row_cell HQ_w6.out 3).1]; rfl
      have x4 : w6.cell? ⟨T2, 4, none⟩ = some (.int .i64 qt) := by rw [(row_cell HQ_w6.out 4).1]; rfl
      obtain ⟨g0, hg0⟩ : ∃ x, IntKind.u32.wrap qo = x := ⟨_, rfl⟩
      obtain ⟨g2, hg2⟩ : ∃ x, IntKind.u32.wrap qw = x := ⟨_, rfl⟩
      obtain ⟨g3, hg3⟩ : ∃ x, IntKind.u32.wrap qt = x := ⟨_, rfl⟩
      have HGG := Lib.hid (And.intro hg0 (And.intro hg2 hg3))
      obtain ⟨T3, hT3⟩ : ∃ Z, w6.heap.size = Z := ⟨_, rfl⟩
      go_upto_region 13 with fail
      obtain ⟨w7, hw7⟩ : ∃ W, w6.alloc (.cells #[.bool bo, .bool ba, .bool true, .bool bt] 4) = W := ⟨_, rfl⟩
      rw [hw7]
      have hb : Below w6.heap.size w6 w7 := by rw [← hw7]; exact (Below.refl _ _).alloc (Nat.le_refl _) _
      have HS1_w7 : Hid (w7.heap[T3]? = some (.cells #[.bool bo, .bool ba, .bool true, .bool bt] 4 (0, 0))) := by unfold Hid; rw [← hw7, ← hT3]; exact heap_alloc_new _ _
      have HG_w7 : Hid (w7.heap[T1]? = some (.cells #[.int .u32 0, .int .u32 1, .int .u32 v, .int .u32 0, .int .u32 0, .int .u32 0, .int .u32 0, .int .u32 0, .int .u32 0, .int .u32 0, .int .u32 0, .int .u32 0, .int .u32 0, .int .u32 0, .int .u32 0, .int .u32 0] 23 (0, 0))) := (hb.block (T1) (Array.getElem?_eq_some_iff.1 HG_w6.out).1).trans HG_w6.out
      have HR_w7 : Hid (w7.heap[T0]? = some (.cells #[.string ⟨wd⟩, .bool bo, .bool ba, .bool true, .bool bt, .int .i64 p] 46 (0, 0))) := (hb.block (T0) (Array.getElem?_eq_some_iff.1 HR_w6.out).1).trans HR_w6.out
      have HQ_w7 : Hid (w7.heap[T2]? = some (.cells #[.int .i64 qc, .int .i64 qo, .int .u32 qa, .int .i64 qw, .int .i64 qt] 25 (0, 0))) := (hb.block (T2) (Array.getElem?_eq_some_iff.1 HQ_w6.out).1).trans HQ_w6.out
      have B_w7 : Hid (Below X w w7) := B_w6.out.trans (hb.mono S_w6.out)
      have S_w7 : Hid (X ≤ w7.heap.size) := Nat.le_trans S_w6.out hb.size
      have L_w7 : Hid (Laid w7) := HLw.out.below (by rw [hX]; exact B_w7.out)
      clear HG_w6 HR_w6 HQ_w6 B_w6 S_w6 L_w6
      clear hb hw7 hT3
      clear t0 t1 t2 t3 t4 t5 x0 x1 x2 x3 x4
      have x0 : w7.cell? ⟨T2, 0, none⟩ = some (.int .i64 qc) := by rw [(row_cell HQ_w7.out 0).1]; rfl
      have x1 : w7.cell? ⟨T2, 1, none⟩ = some (.int .i64 qo) := by rw [(row_cell HQ_w7.out 1).1]; rfl
      have x2 : w7.cell? ⟨T2, 2, none⟩ = some (.int .u32 qa) := by rw [(row_cell HQ_w7.out 2).1]; rfl
      have x3 : w7.cell? ⟨T2, 3, none⟩ = some (.int .i64 qw) := by rw [(row_cell HQ_w7.out 3).1]; rfl
      have x4 : w7.cell? ⟨T2, 4, none⟩ = some (.int .i64 qt) := by rw [(row_cell HQ_w7.out 4).1]; rfl
      obtain ⟨T4, hT4⟩ : ∃ Z, w7.heap.size = Z := ⟨_, rfl⟩
      go_upto_region 14 with fail
      obtain ⟨w8, hw8⟩ : ∃ W, w7.alloc (.cells #[.int .u32 g0, .int .u32 qa, .int .u32 g2, .int .u32 g3] 22) = W := ⟨_, rfl⟩
      rw [hw8]
      have hb : Below w7.heap.size w7 w8 := by rw [← hw8]; exact (Below.refl _ _).alloc (Nat.le_refl _) _
      have HS2_w8 : Hid (w8.heap[T4]? = some (.cells #[.int .u32 g0, .int .u32 qa, .int .u32 g2, .int .u32 g3] 22 (0, 0))) := by unfold Hid; rw [← hw8, ← hT4]; exact heap_alloc_new _ _
      have HG_w8 : Hid (w8.heap[T1]? = some (.cells #[.int .u32 0, .int .u32 1, .int .u32 v, .int .u32 0, .int .u32 0, .int .u32 0, .int .u32 0, .int .u32 0, .int .u32 0, .int .u32 0, .int .u32 0, .int .u32 0, .int .u32 0, .int .u32 0, .int .u32 0, .int .u32 0] 23 (0, 0))) := (hb.block (T1) (Array.getElem?_eq_some_iff.1 HG_w7.out).1).trans HG_w7.out
      have HR_w8 : Hid (w8.heap[T0]? = some (.cells #[.string ⟨wd⟩, .bool bo, .bool ba, .bool true, .bool bt, .int .i64 p] 46 (0, 0))) := (hb.block (T0) (Array.getElem?_eq_some_iff.1 HR_w7.out).1).trans HR_w7.out
      have HQ_w8 : Hid (w8.heap[T2]? = some (.cells #[.int .i64 qc, .int .i64 qo, .int .u32 qa, .int .i64 qw, .int .i64 qt] 25 (0, 0))) := (hb.block (T2) (Array.getElem?_eq_some_iff.1 HQ_w7.out).1).trans HQ_w7.out
      have HS1_w8 : Hid (w8.heap[T3]? = some (.cells #[.bool bo, .bool ba, .bool true, .bool bt] 4 (0, 0))) := (hb.block (T3) (Array.getElem?_eq_some_iff.1 HS1_w7.out).1).trans HS1_w7.out
      have B_w8 : Hid (Below X w w8) := B_w7.out.trans (hb.mono S_w7.out)
      have S_w8 : Hid (X ≤ w8.heap.size) := Nat.le_trans S_w7.out hb.size
      have L_w8 : Hid (Laid w8) := HLw.out.below (by rw [hX]; exact B_w8.out)
      clear HG_w7 HR_w7 HQ_w7 HS1_w7 B_w7 S_w7 L_w7
      clear hb hw8 hT4
      clear x0 x1 x2 x3 x4
      clear hg0 hg2 hg3
      have t0 : w8.cell? ⟨T3, 0, none⟩ = some (.bool bo) := by rw [(row_cell HS1_w8.out 0).1]; rfl
      have t1 : w8.cell? ⟨T3, 1, none⟩ = some (.bool ba) := by rw [(row_cell HS1_w8.out 1).1]; rfl
      have t2 : w8.cell? ⟨T3, 2, none⟩ = some (.bool true) := by rw [(row_cell HS1_w8.out 2).1]; rfl
      have t3 : w8.cell? ⟨T3, 3, none⟩ = some (.bool bt) := by rw [(row_cell HS1_w8.out 3).1]; rfl
      go_wp2_with fail
      clear t0 t1 t2 t3
      refine (known_any w8 L_w8.out).mono ?_
      rintro e w9 ⟨rfl, hb⟩
      have HG_w9 : Hid (w9.heap[T1]? = some (.cells #[.int .u32 0, .int .u32 1, .int .u32 v, .int .u32 0, .int .u32 0, .int .u32 0, .int .u32 0, .int .u32 0, .int .u32 0, .int .u32 0, .int .u32 0, .int .u32 0, .int .u32 0, .int .u32 0, .int .u32 0, .int .u32 0] 23 (0, 0))) := (hb.block (T1) (Array.getElem?_eq_some_iff.1 HG_w8.out).1).trans HG_w8.out
      have HR_w9 : Hid (w9.heap[T0]? = some (.cells #[.string ⟨wd⟩, .bool bo, .bool ba, .bool true, .bool bt, .int .i64 p] 46 (0, 0))) := (hb.block (T0) (Array.getElem?_eq_some_iff.1 HR_w8.out).1).trans HR_w8.out
      have HQ_w9 : Hid (w9.heap[T2]? = some (.cells #[.int .i64 qc, .int .i64 qo, .int .u32 qa, .int .i64 qw, .int .i64 qt] 25 (0, 0))) := (hb.block (T2) (Array.getElem?_eq_some_iff.1 HQ_w8.out).1).trans HQ_w8.out
      have HS1_w9 : Hid (w9.heap[T3]? = some (.cells #[.bool bo, .bool ba, .bool true, .bool bt] 4 (0, 0))) := (hb.block (T3) (Array.getElem?_eq_some_iff.1 HS1_w8.out).1).trans HS1_w8.out
      have HS2_w9 : Hid (w9.heap[T4]? = some (.cells #[.int .u32 g0, .int .u32 qa, .int .u32 g2, .int .u32 g3] 22 (0, 0))) := (hb.block (T4) (Array.getElem?_eq_some_iff.1 HS2_w8.out).1).trans HS2_w8.out
      have B_w9 : Hid (Below X w w9) := B_w8.out.trans (hb.mono S_w8.out)
      have S_w9 : Hid (X ≤ w9.heap.size) := Nat.le_trans S_w8.out hb.size
      have L_w9 : Hid (Laid w9) := HLw.out.below (by rw [hX]; exact B_w9.out)
      clear HG_w8 HR_w8 HQ_w8 HS1_w8 HS2_w8 B_w8 S_w8 L_w8
      clear hb
      have x0 : w9.cell? ⟨T2, 0, none⟩ = some (.int .i64 qc) := by rw [(row_cell HQ_w9.out 0).1]; rfl
      have x1 : w9.cell? ⟨T2, 1, none⟩ = some (.int .i64 qo) := by rw [(row_cell HQ_w9.out 1).1]; rfl
      have x2 : w9.cell? ⟨T2, 2, none⟩ = some (.int .u32 qa) := by rw [(row_cell HQ_w9.out 2).1]; rfl
      have x3 : w9.cell? ⟨T2, 3, none⟩ = some (.int .i64 qw) := by rw [(row_cell HQ_w9.out 3).1]; rfl
      have x4 : w9.cell? ⟨T2, 4, none⟩ = some (.int .i64 qt) := by rw [(row_cell HQ_w9.out 4).1]; rfl
      have t0 : w9.cell? ⟨T4, 0, none⟩ = some (.int .u32 g0) := by rw [(row_cell HS2_w9.out 0).1]; rfl
      have t1 : w9.cell? ⟨T4, 1, none⟩ = some (.int .u32 qa) := by rw [(row_cell HS2_w9.out 1).1]; rfl
      have t2 : w9.cell? ⟨T4, 2, none⟩ = some (.int .u32 g2) := by rw [(row_cell HS2_w9.out 2).1]; rfl
      have t3 : w9.cell? ⟨T4, 3, none⟩ = some (.int .u32 g3) := by rw [(row_cell HS2_w9.out 3).1]; rfl
      have kc : (qc == n) = true := by simpa using HQV.out.1
      have kg : (g2 == v) = true := by rw [← HGG.out.2.1, HQV.out.2.2.2.1, IntWalk.u32_in v HVB.out]; simp
      go_wp2_with fail
      go_ret
      exact ⟨rfl, B_w9.out⟩
end Go.Proofs.YtglpbngdikfliaaDoor.Ca
