/-
  The chapter's examples hold. Each statement bears its own conditions.
-/
import Derived.Test.YthmalhakkdjilaaDoorCpR
namespace Go.Proofs.YthmalhakkdjilaaDoor
open Go.RowKit
set_option linter.unusedVariables false
set_option linter.unusedSimpArgs false
set_option maxRecDepth 100000 in
set_option maxHeartbeats 16000000 in
theorem known_any (w : World) (hL : Laid w) : Calls Tryd.prog 12 #[] w fun e w' => e = .returned (.bool true) ∧ Below w.heap.size w w' := by
  have HL := Lib.hid hL
  have HB0 : Hid (Below w.heap.size w w) := Below.refl _ _
  clear hL
  go_enter Tryd.func12, Tryd.ntmps12
  go_wp2_with fail
  refine (encode_lit 1 1 0 5 142606341 _ (by decide) (by decide) (by decide) (by decide) (by decide)).mono ?_
  rintro e V1 ⟨rfl, b⟩
  have HB1 : Hid (Below w.heap.size w V1) := HB0.out.trans (b.mono HB0.out.size)
  clear b
  go_wp2_with fail
  refine (encode_lit 6 1 1 0 814219264 _ (by decide) (by decide) (by decide) (by decide) (by decide)).mono ?_
  rintro e V2 ⟨rfl, b⟩
  have HB2 : Hid (Below w.heap.size w V2) := HB1.out.trans (b.mono HB1.out.size)
  clear b
  go_wp2_with fail
  refine (encode_lit 23 0 0 9 3087007753 _ (by decide) (by decide) (by decide) (by decide) (by decide)).mono ?_
  rintro e V3 ⟨rfl, b⟩
  have HB3 : Hid (Below w.heap.size w V3) := HB2.out.trans (b.mono HB2.out.size)
  clear b
  go_wp2_with fail
  obtain ⟨V4, hV4⟩ : ∃ V, V3.alloc (.cells #[.int .u32 142606341, .int .u32 814219264, .int .u32 3087007753] 22) = V := ⟨_, rfl⟩
  have hr := creads_lit ws1 22 V3
  have hl : V3.alloc (.cells (CW ws1).toArray 22) = V4 := hV4
  rw [hl] at hr
  have b : Below V3.heap.size V3 V4 := by rw [← hV4]; exact (Below.refl _ _).alloc (Nat.le_refl _) _
  have HB4 : Hid (Below w.heap.size w V4) := HB3.out.trans (b.mono HB3.out.size)
  simp only [hV4]
  clear hV4 hl b
  refine (new_small _ none 3 0 3 0 ws1 [] _ hr Reads.none_ (by decide) (by decide) (by decide) (by decide) (by unfold maxLen; decide) (by unfold maxLen; decide) (by decide) (by simp)).mono ?_
  rintro e V5 ⟨gm1, rfl, hg1, hg2, b, hmm⟩
  have HB5 : Hid (Below w.heap.size w V5) := HB4.out.trans (b.mono HB4.out.size)
  have HM1 := Lib.hid (hmm (fun _ => False) (fun _ h => h.elim))
  have HG1 : Hid (w.heap.size ≤ gm1) := by have := HB4.out.size; unfold Hid; omega
  clear b hmm hg1 hg2 hr
  go_wp2_with fail
  refine (fresh_any 0 0 0 _).mono ?_
  rintro e V6 ⟨rfl, b⟩
  have HB6 : Hid (Below w.heap.size w V6) := HB5.out.trans (b.mono HB5.out.size)
  have HN1 := Lib.hid (HM1.out.below b)
  clear b HM1
  go_wp2_with fail
  refine (x1_any gm1 V6 HN1.out (HL.out.below HB6.out) (by have := HG1.out; have := HL.out.lt; omega)).mono ?_
  rintro e V7 ⟨rfl, hp⟩
  have b : Below w.heap.size V6 V7 := hp.below (fun q hq => by rw [hq]; exact HG1.out) HB6.out.size
  have HB7 : Hid (Below w.heap.size w V7) := HB6.out.trans b
  clear b hp HN1
  obtain ⟨V8, hV8⟩ : ∃ V, V7.alloc (.cells #[.int .u32 0, .int .u32 0, .int .u32 0, .int .u32 0, .int .u32 0, .int .u32 0, .int .u32 0, .int .u32 0, .int .u32 0, .int .u32 0, .int .u32 0, .int .u32 0, .int .u32 0, .int .u32 0, .int .u32 0, .int .u32 0, .int .u32 0, .int .u32 0, .int .u32 0, .int .u32 0, .int .u32 0, .int .u32 0, .int .i64 0, .int .u32 0, .int .u32 0, .int .i64 0, .int .u32 0, .int .u32 0, .int .i64 0, .int .u32 0, .int .u32 0, .int .i64 0, .int .u32 0, .int .u32 0, .int .i64 0, .int .u32 0, .int .u32 0, .int .i64 0, .int .u32 0, .int .u32 0, .int .i64 0, .int .u32 0, .int .u32 0, .int .i64 0, .int .i64 0] 28) = V := ⟨_, rfl⟩
  obtain ⟨p1, hp1⟩ : ∃ p, V7.heap.size = p := ⟨_, rfl⟩
  have z : RB V8 p1 R0 [] 28 := by rw [← hV8, ← hp1]; exact RB.zero _ _
  have b : Below V7.heap.size V7 V8 := by rw [← hV8]; exact (Below.refl _ _).alloc (Nat.le_refl _) _
  obtain ⟨V9, hV9⟩ : ∃ V, V8.alloc (.cells #[.int .i64 0, .int .i64 0, .int .i64 0] 35) = V := ⟨_, rfl⟩
  obtain ⟨q1, hq1⟩ : ∃ p, V8.heap.size = p := ⟨_, rfl⟩
  have y : V9.heap[q1]? = some (.cells #[.int .i64 0, .int .i64 0, .int .i64 0] 35 (0, 0)) := by rw [← hV9, ← hq1]; exact heap_alloc_new _ _
  have b2 : Below V8.heap.size V8 V9 := by rw [← hV9]; exact (Below.refl _ _).alloc (Nat.le_refl _) _
  have z2 := z.below b2
  have bb : Below w.heap.size w V9 := (HB7.out.trans (b.mono HB7.out.size)).trans (b2.mono (by have := HB7.out.size; have := b.size; omega))
  obtain ⟨V10, hV10⟩ : ∃ V, V9.setCells p1 0 (cells KR1) = V := ⟨_, rfl⟩
  have p3 : Past p1 V9 V10 := by rw [← hV10]; exact past_setCells _ _ _ _
  have hlt : p1 < q1 := by rw [← hq1]; exact z.lt
  have hwp : w.heap.size ≤ p1 := by rw [← hp1]; exact HB7.out.size
  have z3 : RB V10 p1 KR1 [] 28 := by rw [← hV10]; exact z2.store _ (by rw [r0_len]; rfl)
  have y3 := (p3.block q1 (Array.getElem?_eq_some_iff.1 y).1 (by omega)).trans y
  have e0 := (row_cell y3 0).1
  have e1 := (row_cell y3 1).1
  have e2 := (row_cell y3 2).1
  have e3 := (row_cell y3 0).2
  have e4 := (row_cell y3 1).2
  have e5 := (row_cell y3 2).2
  simp at e0 e1 e2
  have p4 := set3_past (Past.refl q1 V10) (.int .i64 1) (.int .i64 (9)) (.int .i64 0)
  have y4 := set3_heap y3 (.int .i64 1) (.int .i64 (9)) (.int .i64 0)
  have z4 := z3.keep (p4.block p1 z3.lt (by omega))
  have bc := bb.trans ((p3.below hwp bb.size).trans (p4.below (by omega) (by have := bb.size; have := p3.size; omega)))
  have Z2 := Lib.hid z2
  have E3 := Lib.hid hV10
  have Y4 := Lib.hid y4
  have Z4 := Lib.hid z4
  have BC := Lib.hid bc
  clear z b y b2 z2 bb p3 hlt hwp z3 y3 p4 y4 z4 bc hV10
  go_upto_region 3 with (refine wpList_store_regs rfl _ _ rfl rfl rfl Z2.out r0_len rfl ?_; rw [E3.out]; dsimp only [Act.put])
  clear hV8 hV9 hp1 hq1 e0 e1 e2 e3 e4 e5 Z2 E3
  generalize ((V10.setCell ⟨q1, 0, none⟩ (.int .i64 1)).setCell ⟨q1, 1, none⟩ (.int .i64 (9))).setCell ⟨q1, 2, none⟩ (.int .i64 0) = V11 at Y4 Z4 BC ⊢
  have HY1 := Y4
  have HZ1 := Z4
  have HB11 := BC
  clear Y4 Z4 BC
  go_wp2_with fail
  refine (encode_lit 18 0 1 3 2416443395 _ (by decide) (by decide) (by decide) (by decide) (by decide)).mono ?_
  rintro e V12 ⟨rfl, b⟩
  have HB12 : Hid (Below w.heap.size w V12) := HB11.out.trans (b.mono HB11.out.size)
  have HY1 : Hid (V12.heap[q1]? = some (.cells #[.int .i64 1, .int .i64 9, .int .i64 0] 35 (0, 0))) := heap_keep b HY1.out
  have HZ1 : Hid (RB V12 p1 KR1 [] 28) := HZ1.out.below b
  clear b
  go_wp2_with fail
  refine (encode_lit 4 2 0 2 553648130 _ (by decide) (by decide) (by decide) (by decide) (by decide)).mono ?_
  rintro e V13 ⟨rfl, b⟩
  have HB13 : Hid (Below w.heap.size w V13) := HB12.out.trans (b.mono HB12.out.size)
  have HY1 : Hid (V13.heap[q1]? = some (.cells #[.int .i64 1, .int .i64 9, .int .i64 0] 35 (0, 0))) := heap_keep b HY1.out
  have HZ1 : Hid (RB V13 p1 KR1 [] 28) := HZ1.out.below b
  clear b
  go_wp2_with fail
  obtain ⟨V14, hV14⟩ : ∃ V, V13.alloc (.cells #[.int .u32 2416443395, .int .u32 553648130] 22) = V := ⟨_, rfl⟩
  have hr := creads_lit ws2 22 V13
  have hl : V13.alloc (.cells (CW ws2).toArray 22) = V14 := hV14
  rw [hl] at hr
  have b : Below V13.heap.size V13 V14 := by rw [← hV14]; exact (Below.refl _ _).alloc (Nat.le_refl _) _
  have HB14 : Hid (Below w.heap.size w V14) := HB13.out.trans (b.mono HB13.out.size)
  have HY1 : Hid (V14.heap[q1]? = some (.cells #[.int .i64 1, .int .i64 9, .int .i64 0] 35 (0, 0))) := heap_keep b HY1.out
  have HZ1 : Hid (RB V14 p1 KR1 [] 28) := HZ1.out.below b
  have HY1n := HY1
  have HZ1n := HZ1
  simp only [hV14]
  clear hV14 hl b
  refine (new_small _ none 2 0 2 0 ws2 [] _ hr Reads.none_ (by decide) (by decide) (by decide) (by decide) (by unfold maxLen; decide) (by unfold maxLen; decide) (by decide) (by simp)).mono ?_
  rintro e V15 ⟨gm2, rfl, hg1, hg2, b, hmm⟩
  have HB15 : Hid (Below w.heap.size w V15) := HB14.out.trans (b.mono HB14.out.size)
  have HY1 : Hid (V15.heap[q1]? = some (.cells #[.int .i64 1, .int .i64 9, .int .i64 0] 35 (0, 0))) := heap_keep b HY1.out
  have HZ1 : Hid (RB V15 p1 KR1 [] 28) := HZ1.out.below b
  have HM2 := Lib.hid (hmm (fun _ => False) (fun _ h => h.elim))
  have HG2' : Hid (V14.heap.size ≤ gm2) := hg1
  have HG2 : Hid (w.heap.size ≤ gm2) := by have := HB14.out.size; unfold Hid; omega
  clear b hmm hg1 hg2 hr
  go_wp2_with fail
  refine (fresh_any 0 0 0 _).mono ?_
  rintro e V16 ⟨rfl, b⟩
  have HB16 : Hid (Below w.heap.size w V16) := HB15.out.trans (b.mono HB15.out.size)
  have HY1 : Hid (V16.heap[q1]? = some (.cells #[.int .i64 1, .int .i64 9, .int .i64 0] 35 (0, 0))) := heap_keep b HY1.out
  have HZ1 : Hid (RB V16 p1 KR1 [] 28) := HZ1.out.below b
  have HN2 := Lib.hid (HM2.out.below b)
  clear b HM2
  go_wp2_with fail
  refine (x2_any gm2 V16 HN2.out (HL.out.below HB16.out) (by have := HG2.out; have := HL.out.lt; omega)).mono ?_
  rintro e V17 ⟨rfl, hp⟩
  have b : Below w.heap.size V16 V17 := hp.below (fun q hq => by rw [hq]; exact HG2.out) HB16.out.size
  have HB17 : Hid (Below w.heap.size w V17) := HB16.out.trans b
  have HY1 : Hid (V17.heap[q1]? = some (.cells #[.int .i64 1, .int .i64 9, .int .i64 0] 35 (0, 0))) := (hp.block q1 (Array.getElem?_eq_some_iff.1 HY1.out).1 (by have := HG2'.out; have := (Array.getElem?_eq_some_iff.1 HY1n.out).1; omega)).trans HY1.out
  have HZ1 : Hid (RB V17 p1 KR1 [] 28) := HZ1.out.keep (hp.block p1 HZ1.out.lt (by have := HG2'.out; have := HZ1n.out.lt; omega))
  clear b hp HN2
  obtain ⟨V18, hV18⟩ : ∃ V, V17.alloc (.cells #[.int .u32 0, .int .u32 0, .int .u32 0, .int .u32 0, .int .u32 0, .int .u32 0, .int .u32 0, .int .u32 0, .int .u32 0, .int .u32 0, .int .u32 0, .int .u32 0, .int .u32 0, .int .u32 0, .int .u32 0, .int .u32 0, .int .u32 0, .int .u32 0, .int .u32 0, .int .u32 0, .int .u32 0, .int .u32 0, .int .i64 0, .int .u32 0, .int .u32 0, .int .i64 0, .int .u32 0, .int .u32 0, .int .i64 0, .int .u32 0, .int .u32 0, .int .i64 0, .int .u32 0, .int .u32 0, .int .i64 0, .int .u32 0, .int .u32 0, .int .i64 0, .int .u32 0, .int .u32 0, .int .i64 0, .int .u32 0, .int .u32 0, .int .i64 0, .int .i64 0] 28) = V := ⟨_, rfl⟩
  obtain ⟨p2, hp2⟩ : ∃ p, V17.heap.size = p := ⟨_, rfl⟩
  have z : RB V18 p2 R0 [] 28 := by rw [← hV18, ← hp2]; exact RB.zero _ _
  have b : Below V17.heap.size V17 V18 := by rw [← hV18]; exact (Below.refl _ _).alloc (Nat.le_refl _) _
  obtain ⟨V19, hV19⟩ : ∃ V, V18.alloc (.cells #[.int .i64 0, .int .i64 0, .int .i64 0] 35) = V := ⟨_, rfl⟩
  obtain ⟨q2, hq2⟩ : ∃ p, V18.heap.size = p := ⟨_, rfl⟩
  have y : V19.heap[q2]? = some (.cells #[.int .i64 0, .int .i64 0, .int .i64 0] 35 (0, 0)) := by rw [← hV19, ← hq2]; exact heap_alloc_new _ _
  have b2 : Below V18.heap.size V18 V19 := by rw [← hV19]; exact (Below.refl _ _).alloc (Nat.le_refl _) _
  have z2 := z.below b2
  have bb : Below w.heap.size w V19 := (HB17.out.trans (b.mono HB17.out.size)).trans (b2.mono (by have := HB17.out.size; have := b.size; omega))
  obtain ⟨V20, hV20⟩ : ∃ V, V19.setCells p2 0 (cells KR2) = V := ⟨_, rfl⟩
  have p3 : Past p2 V19 V20 := by rw [← hV20]; exact past_setCells _ _ _ _
  have hlt : p2 < q2 := by rw [← hq2]; exact z.lt
  have hwp : w.heap.size ≤ p2 := by rw [← hp2]; exact HB17.out.size
  have z3 : RB V20 p2 KR2 [] 28 := by rw [← hV20]; exact z2.store _ (by rw [r0_len]; rfl)
  have y3 := (p3.block q2 (Array.getElem?_eq_some_iff.1 y).1 (by omega)).trans y
  have e0 := (row_cell y3 0).1
  have e1 := (row_cell y3 1).1
  have e2 := (row_cell y3 2).1
  have e3 := (row_cell y3 0).2
  have e4 := (row_cell y3 1).2
  have e5 := (row_cell y3 2).2
  simp at e0 e1 e2
  have p4 := set3_past (Past.refl q2 V20) (.int .i64 1) (.int .i64 (-1)) (.int .i64 0)
  have y4 := set3_heap y3 (.int .i64 1) (.int .i64 (-1)) (.int .i64 0)
  have z4 := z3.keep (p4.block p2 z3.lt (by omega))
  have bc := bb.trans ((p3.below hwp bb.size).trans (p4.below (by omega) (by have := bb.size; have := p3.size; omega)))
  have y1a := heap_keep b2 (heap_keep b HY1.out)
  have z1a := (HZ1.out.below b).below b2
  have ly := (Array.getElem?_eq_some_iff.1 HY1.out).1
  have lz := HZ1.out.lt
  have y1b := (p4.block q1 (Nat.lt_of_lt_of_le (Array.getElem?_eq_some_iff.1 y1a).1 p3.size) (by omega)).trans ((p3.block q1 (Array.getElem?_eq_some_iff.1 y1a).1 (by omega)).trans y1a)
  have z1b := (z1a.keep (p3.block p1 z1a.lt (by omega))).keep (p4.block p1 (Nat.lt_of_lt_of_le z1a.lt p3.size) (by omega))
  have Y1 := Lib.hid y1b
  have Z1 := Lib.hid z1b
  clear y1a z1a y1b z1b ly lz HY1 HZ1
  have Z2 := Lib.hid z2
  have E3 := Lib.hid hV20
  have Y4 := Lib.hid y4
  have Z4 := Lib.hid z4
  have BC := Lib.hid bc
  clear z b y b2 z2 bb p3 hlt hwp z3 y3 p4 y4 z4 bc hV20
  go_upto_region 5 with (refine wpList_store_regs rfl _ _ rfl rfl rfl Z2.out r0_len rfl ?_; rw [E3.out]; dsimp only [Act.put])
  clear hV18 hV19 hp2 hq2 e0 e1 e2 e3 e4 e5 Z2 E3
  generalize ((V20.setCell ⟨q2, 0, none⟩ (.int .i64 1)).setCell ⟨q2, 1, none⟩ (.int .i64 (-1))).setCell ⟨q2, 2, none⟩ (.int .i64 0) = V21 at Y4 Z4 BC Y1 Z1 ⊢
  have HY2 := Y4
  have HZ2 := Z4
  have HB21 := BC
  clear Y4 Z4 BC
  have d1 := (row_cell Y1.out 0).1
  have d2 := (row_cell Y1.out 1).1
  have d3 := (row_cell Y1.out 2).1
  have d4 := (row_cell HY2.out 0).1
  have d5 := (row_cell HY2.out 1).1
  have d6 := (row_cell HY2.out 2).1
  simp at d1 d2 d3 d4 d5 d6
  have r1 : _ = some (Value.int .u32 25) := Z1.out.cellk (k := .u32) (o := 1) (by decide) rfl
  have r2 : _ = some (Value.int .u32 6) := HZ2.out.cellk (k := .u32) (o := 2) (by decide) rfl
  have r3 : _ = some (Value.int .u32 2) := HZ2.out.cellk (k := .u32) (o := 16) (by decide) rfl
  have r4 : _ = some (Value.int .i64 0) := HZ2.out.cellk (k := .i64) (o := 44) (by decide) rfl
  go_wp2_with fail
  go_ret
  exact ⟨rfl, HB21.out⟩
end Go.Proofs.YthmalhakkdjilaaDoor
