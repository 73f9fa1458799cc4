/-
  Contract of step where an instruction is executed. Each statement bears its own conditions.
-/
import Derived.Test.YthmalhakkdjilaaDoorCpH
namespace Go.Proofs.YthmalhakkdjilaaDoor
open Go.RowKit
set_option linter.unusedVariables false
set_option linter.unusedSimpArgs false
theorem build_state (r : List Int) (hl : r.length = 45) (t : Nat) (v : Value) (c : Int) (W : World) : (Instr.build 70 #[(0, .agg (cells r).toArray), (1, .iface t v), (2, .int .i64 c)]).run Tryd.prog W = .ok (.agg (cells r ++ [Value.iface t v, Value.int .i64 c]).toArray) W := by
  obtain ⟨x0, x1, x2, x3, x4, x5, x6, x7, x8, x9, x10, x11, x12, x13, x14, x15, x16, x17, x18, x19, x20, x21, x22, x23, x24, x25, x26, x27, x28, x29, x30, x31, x32, x33, x34, x35, x36, x37, x38, x39, x40, x41, x42, x43, x44, rfl⟩ : ∃ x0 x1 x2 x3 x4 x5 x6 x7 x8 x9 x10 x11 x12 x13 x14 x15 x16 x17 x18 x19 x20 x21 x22 x23 x24 x25 x26 x27 x28 x29 x30 x31 x32 x33 x34 x35 x36 x37 x38 x39 x40 x41 x42 x43 x44 : Int, r = [x0, x1, x2, x3, x4, x5, x6, x7, x8, x9, x10, x11, x12, x13, x14, x15, x16, x17, x18, x19, x20, x21, x22, x23, x24, x25, x26, x27, x28, x29, x30, x31, x32, x33, x34, x35, x36, x37, x38, x39, x40, x41, x42, x43, x44] := by
    have key : ∀ (n : Nat) (l : List Int), l.length = n + 1 → ∃ y q, l = y :: q ∧ q.length = n := by
      intro n l h
      cases l with
      | nil => simp at h
      | cons y q => exact ⟨y, q, rfl, by simpa using h⟩
    obtain ⟨x0, q1, rfl, h1⟩ := key _ r hl
    obtain ⟨x1, q2, rfl, h2⟩ := key _ q1 h1
    obtain ⟨x2, q3, rfl, h3⟩ := key _ q2 h2
    obtain ⟨x3, q4, rfl, h4⟩ := key _ q3 h3
    obtain ⟨x4, q5, rfl, h5⟩ := key _ q4 h4
    obtain ⟨x5, q6, rfl, h6⟩ := key _ q5 h5
    obtain ⟨x6, q7, rfl, h7⟩ := key _ q6 h6
    obtain ⟨x7, q8, rfl, h8⟩ := key _ q7 h7
    obtain ⟨x8, q9, rfl, h9⟩ := key _ q8 h8
    obtain ⟨x9, q10, rfl, h10⟩ := key _ q9 h9
    obtain ⟨x10, q11, rfl, h11⟩ := key _ q10 h10
    obtain ⟨x11, q12, rfl, h12⟩ := key _ q11 h11
    obtain ⟨x12, q13, rfl, h13⟩ := key _ q12 h12
    obtain ⟨x13, q14, rfl, h14⟩ := key _ q13 h13
    obtain ⟨x14, q15, rfl, h15⟩ := key _ q14 h14
    obtain ⟨x15, q16, rfl, h16⟩ := key _ q15 h15
    obtain ⟨x16, q17, rfl, h17⟩ := key _ q16 h16
    obtain ⟨x17, q18, rfl, h18⟩ := key _ q17 h17
    obtain ⟨x18, q19, rfl, h19⟩ := key _ q18 h18
    obtain ⟨x19, q20, rfl, h20⟩ := key _ q19 h19
    obtain ⟨x20, q21, rfl, h21⟩ := key _ q20 h20
    obtain ⟨x21, q22, rfl, h22⟩ := key _ q21 h21
    obtain ⟨x22, q23, rfl, h23⟩ := key _ q22 h22
    obtain ⟨x23, q24, rfl, h24⟩ := key _ q23 h23
    obtain ⟨x24, q25, rfl, h25⟩ := key _ q24 h24
    obtain ⟨x25, q26, rfl, h26⟩ := key _ q25 h25
    obtain ⟨x26, q27, rfl, h27⟩ := key _ q26 h26
    obtain ⟨x27, q28, rfl, h28⟩ := key _ q27 h27
    obtain ⟨x28, q29, rfl, h29⟩ := key _ q28 h28
    obtain ⟨x29, q30, rfl, h30⟩ := key _ q29 h29
    obtain ⟨x30, q31, rfl, h31⟩ := key _ q30 h30
    obtain ⟨x31, q32, rfl, h32⟩ := key _ q31 h31
    obtain ⟨x32, q33, rfl, h33⟩ := key _ q32 h32
    obtain ⟨x33, q34, rfl, h34⟩ := key _ q33 h33
    obtain ⟨x34, q35, rfl, h35⟩ := key _ q34 h34
    obtain ⟨x35, q36, rfl, h36⟩ := key _ q35 h35
    obtain ⟨x36, q37, rfl, h37⟩ := key _ q36 h36
    obtain ⟨x37, q38, rfl, h38⟩ := key _ q37 h37
    obtain ⟨x38, q39, rfl, h39⟩ := key _ q38 h38
    obtain ⟨x39, q40, rfl, h40⟩ := key _ q39 h39
    obtain ⟨x40, q41, rfl, h41⟩ := key _ q40 h40
    obtain ⟨x41, q42, rfl, h42⟩ := key _ q41 h41
    obtain ⟨x42, q43, rfl, h43⟩ := key _ q42 h42
    obtain ⟨x43, q44, rfl, h44⟩ := key _ q43 h43
    obtain ⟨x44, q45, rfl, h45⟩ := key _ q44 h44
    obtain rfl : q45 = [] := List.eq_nil_of_length_eq_zero h45
    exact ⟨x0, x1, x2, x3, x4, x5, x6, x7, x8, x9, x10, x11, x12, x13, x14, x15, x16, x17, x18, x19, x20, x21, x22, x23, x24, x25, x26, x27, x28, x29, x30, x31, x32, x33, x34, x35, x36, x37, x38, x39, x40, x41, x42, x43, x44, rfl⟩
  kernel_rfl
theorem state_info : (Tryd.prog.info? 70).map (·.size) = some 47 := by kernel_rfl
theorem ST.zero (w : World) : RB (w.alloc (.cells #[.int .u32 0, .int .u32 0, .int .u32 0, .int .u32 0, .int .u32 0, .int .u32 0, .int .u32 0, .int .u32 0, .int .u32 0, .int .u32 0, .int .u32 0, .int .u32 0, .int .u32 0, .int .u32 0, .int .u32 0, .int .u32 0, .int .u32 0, .int .u32 0, .int .u32 0, .int .u32 0, .int .u32 0, .int .u32 0, .int .i64 0, .int .u32 0, .int .u32 0, .int .i64 0, .int .u32 0, .int .u32 0, .int .i64 0, .int .u32 0, .int .u32 0, .int .i64 0, .int .u32 0, .int .u32 0, .int .i64 0, .int .u32 0, .int .u32 0, .int .i64 0, .int .u32 0, .int .u32 0, .int .i64 0, .int .u32 0, .int .u32 0, .int .i64 0, .int .i64 0, .nilIface, .int .i64 0] 70)) w.heap.size R0 [.nilIface, .int .i64 0] 70 := by
  have : (cells R0 ++ [Value.nilIface, Value.int .i64 0]).toArray = (#[.int .u32 0, .int .u32 0, .int .u32 0, .int .u32 0, .int .u32 0, .int .u32 0, .int .u32 0, .int .u32 0, .int .u32 0, .int .u32 0, .int .u32 0, .int .u32 0, .int .u32 0, .int .u32 0, .int .u32 0, .int .u32 0, .int .u32 0, .int .u32 0, .int .u32 0, .int .u32 0, .int .u32 0, .int .u32 0, .int .i64 0, .int .u32 0, .int .u32 0, .int .i64 0, .int .u32 0, .int .u32 0, .int .i64 0, .int .u32 0, .int .u32 0, .int .i64 0, .int .u32 0, .int .u32 0, .int .i64 0, .int .u32 0, .int .u32 0, .int .i64 0, .int .u32 0, .int .u32 0, .int .i64 0, .int .u32 0, .int .u32 0, .int .i64 0, .int .i64 0, .nilIface, .int .i64 0] : Array Value) := by rfl
  unfold RB
  rw [this]
  exact heap_alloc_new _ _
theorem RB.all {w : World} {g : Nat} {r0 : List Int} {tl0 : List Value} {t : TypeId} (h : RB w g r0 tl0 t) (r : List Int) (tl : List Value) (hl : r.length = r0.length) (ht : tl.length = tl0.length) : RB (w.setCells g 0 (cells r ++ tl)) g r tl t := by
  unfold RB at h ⊢
  rw [heap_setCells _ _ _ _ h, setL_eq _ _ _ (by simp [cells_len]; omega)]
  simp [cells_len, hl, ht]
theorem RB.there2 {w : World} {g : Nat} {r : List Int} {tl : List Value} {t : TypeId} (h : RB w g r tl t) : w.there g 0 (r.length + tl.length) := by
  intro j hj
  rw [Nat.zero_add]
  refine ⟨?_, h.frozen j⟩
  by_cases hj' : j < r.length
  · rw [h.cell hj']; rfl
  · obtain ⟨q, rfl⟩ : ∃ q, j = r.length + q := ⟨j - r.length, by omega⟩
    rw [h.tail q, List.getElem?_eq_getElem (by omega)]; rfl
section
variable {ops : Array Oper} {rest : List Oper} {op : Oper} {a : Act} {w : World} {Q : Exit → Act → World → Prop} {g : Nat} {r r0 : List Int} {tl tl0 : List Value} {t : TypeId}
theorem wpList_build_state {ty : Nat} {v : Value} {c : Int} (hgd : op.guard = none) (x y z : Operand) (ho : op.op = .build 70 #[(0, x), (1, y), (2, z)]) (hx : a.eval x = .agg (cells r).toArray) (hy : a.eval y = .iface ty v) (hz : a.eval z = .int .i64 c) (hl : r.length = 45)
    (K : wpList Tryd.prog ops Q rest (a.put op.dst (.agg (cells r ++ [Value.iface ty v, Value.int .i64 c]).toArray)) w) : wpList Tryd.prog ops Q (op :: rest) a w := by
  refine wpList_plain hgd fun _ hK => ?_
  unfold Oper.wp execOp
  simp only [ho, List.map_toArray, List.map_cons, List.map_nil, hx, hy, hz, Sem.run_bind, build_state r hl, Result.andThen_ok, Sem.run_pure]
  exact hK _ _ K
theorem wpList_store_state (hgd : op.guard = none) (x y : Operand) (ho : op.op = .store 70 x y) (hx : a.eval x = .pointer (some ⟨g, 0, none⟩)) (hy : a.eval y = .agg (cells r ++ tl).toArray) (h : RB w g r0 tl0 t) (h0 : r0.length = 45) (hl : r.length = 45) (ht0 : tl0.length = 2) (ht : tl.length = 2) (h1 : ∀ v ∈ tl, v.oneCell' = true)
    (K : wpList Tryd.prog ops Q rest (a.put op.dst undef) (w.setCells g 0 (cells r ++ tl))) : wpList Tryd.prog ops Q (op :: rest) a w := by
  have hs : (cells r ++ tl).toArray.size = 47 := by rw [List.size_toArray, List.length_append, cells_len, hl, ht]
  refine wpList_store_mid hgd 70 x y ho g 0 (cells r ++ tl).toArray hx hy (by rw [hs]; have := h.there2; rw [h0, ht0] at this; exact this) (by rw [hs]; exact state_info) (all_oneCell_toArray (fun v hv => ?_)) ?_
  · rcases List.mem_append.1 hv with h | h
    · exact cells_one r v h
    · exact h1 v h
  · simpa using K
theorem wp_store_regs {K : Act → World → Prop} (x y : Operand) (ho : op.op = .store 28 x y) (hx : a.eval x = .pointer (some ⟨g, 0, none⟩)) (hy : a.eval y = .agg (cells r).toArray) (h : RB w g r0 tl t) (h0 : r0.length = 45) (hl : r.length = 45)
    (hK : K (a.put op.dst undef) (w.setCells g 0 (cells r))) : op.wp Tryd.prog a w K Q := by
  refine wp_store_mid 28 x y ho g 0 (cells r).toArray hx hy (by rw [List.size_toArray, cells_len, hl, ← h0]; exact h.there) (by rw [List.size_toArray, cells_len, hl]; exact regs_info) (all_oneCell_toArray (cells_one r)) ?_
  simpa using hK
theorem exec_load_regs {ρ : Operand → Value} (x : Operand) (ho : op.op = .load 28 x) (hx : ρ x = .pointer (some ⟨g, 0, none⟩)) (h : RB w g r tl t) (hl : r.length = 45) : (execOp ρ op).run Tryd.prog w = .ok (.value (.agg (cells r).toArray)) w := by
  unfold execOp
  simp only [ho, hx, Sem.run_bind, h.run_load hl, Result.andThen_ok, Sem.run_pure]
theorem wpList_look {k : Nat} {v em : Value} (hgd : op.guard = none) (m x : Operand) (ho : op.op = .lookup 57 m x false) (hm : a.eval m = em) (hx : a.eval x = .int .i64 (k : Int)) (h : (Instr.lookup 57 em (.int .i64 (k : Int)) false).run Tryd.prog w = .ok v w)
    (K : wpList Tryd.prog ops Q rest (a.put op.dst v) w) : wpList Tryd.prog ops Q (op :: rest) a w := by
  refine wpList_plain hgd fun _ hK => ?_
  unfold Oper.wp execOp
  simp only [ho, hm, hx, Sem.run_bind, h, Result.andThen_ok, Sem.run_pure]
  exact hK _ _ K
end
theorem Past.trans_new {g h : Nat} {a b c : World} (p : Past g a b) (q : Past h b c) (hh : a.heap.size ≤ h) : Past g a c :=
  ⟨q.os.trans p.os, q.tape.trans p.tape, q.output.trans p.output, Nat.le_trans p.size q.size, fun i hi hn => (q.block i (Nat.lt_of_lt_of_le hi p.size) (by omega)).trans (p.block i hi hn)⟩
theorem settled_ok {r : List Int} (hr : RegOk r) (hd : DepOk r) : (settledV r).length = 45 := by
  have h := (hr.lefts 8 hd).1.len
  unfold settledV
  show (if endsV (leftsV 8 r) = true then _ else leftsV 8 r).length = 45
  split
  · simp; exact h
  · exact h
def stepVal (r : List Int) (t : Int) (y : ER) : Value := if y.e = 0 then .tuple #[.agg (cells (settledV y.r)).toArray, .agg #[.int .i64 t, .int .i64 y.c, .int .i64 0]] else .tuple #[.agg (cells r).toArray, .agg #[.int .i64 t, .int .i64 (-1), .int .i64 y.e]]
set_option maxRecDepth 100000 in
set_option maxHeartbeats 16000000 in
theorem step_go (r : List Int) (mv em : Value) (x : NX) (k gm Bm : Nat) (μ : MS) (f : Int → Int → Int → List Int → MS → ER) (w : World) (hr : RegOk r) (hd : DepOk r) (hx : x.e = 0) (hk : x.o = (k : Int)) (hk24 : k < 24) (hi : InOk x.a x.b x.n) (ng : Nat → Prop) (hm : MM w gm mv μ ng) (hng : ∀ b, ng b → b < w.heap.size) (hE : Eff w Bm em) (hBm : gm < Bm) (EC : EffC k f)
    (hy : (f x.a x.b x.n (r.set 16 (IntKind.u32.wrap (r.getD 16 0 + 1))) μ).e = 0 → RegOk (f x.a x.b x.n (r.set 16 (IntKind.u32.wrap (r.getD 16 0 + 1))) μ).r ∧ DepOk (f x.a x.b x.n (r.set 16 (IntKind.u32.wrap (r.getD 16 0 + 1))) μ).r)
    (CN : ∀ W, Below w.heap.size w W → Calls Tryd.prog 45 #[.agg (cells r).toArray, mv] W fun e w' => e = .returned x.val ∧ Below W.heap.size W w') :
    Calls Tryd.prog 17 #[.agg (cells r).toArray, mv, em] w fun e w' => e = .returned (stepVal r x.t (f x.a x.b x.n (r.set 16 (IntKind.u32.wrap (r.getD 16 0 + 1))) μ)) ∧ MM w' gm mv (f x.a x.b x.n (r.set 16 (IntKind.u32.wrap (r.getD 16 0 + 1))) μ).μ ng ∧ Past gm w w' := by
  obtain ⟨y, hye⟩ : ∃ y, f x.a x.b x.n (r.set 16 (IntKind.u32.wrap (r.getD 16 0 + 1))) μ = y := ⟨_, rfl⟩
  rw [hye] at hy ⊢
  have HY := Lib.hid hy
  have HYE := Lib.hid hye
  have HRO := Lib.hid (And.intro hr hd)
  have HI := Lib.hid hi
  have HM := Lib.hid hm
  have HNG := Lib.hid hng
  have HE := Lib.hid hE
  have HGM := Lib.hid hBm
  have HEC := Lib.hid EC
  have HK := Lib.hid (And.intro hk hk24)
  obtain ⟨mt, mp, hmv⟩ : ∃ t p, mv = .iface t p := by obtain ⟨v, h0, _⟩ := hm.ex; exact ⟨_, _, h0⟩
  subst hmv
  clear hy hye hd hi hm hng hE hBm EC hk hk24
  obtain ⟨B, hB⟩ : ∃ B, w.heap.size = B := ⟨_, rfl⟩
  obtain ⟨W1, hW1⟩ : ∃ W1, w.alloc (.cells (cells r).toArray 28) = W1 := ⟨_, rfl⟩
  have h1 : RB W1 B r [] 28 := by rw [← hW1, ← hB]; exact RB.new _ _ _
  have b1 : Below B w W1 := by rw [← hW1, ← hB]; exact (Below.refl _ _).alloc (Nat.le_refl _) _
  obtain ⟨W2, hW2⟩ : ∃ W2, W1.alloc (.cells #[.int .u32 0, .int .u32 0, .int .u32 0, .int .u32 0, .int .u32 0, .int .u32 0, .int .u32 0, .int .u32 0, .int .u32 0, .int .u32 0, .int .u32 0, .int .u32 0, .int .u32 0, .int .u32 0, .int .u32 0, .int .u32 0, .int .u32 0, .int .u32 0, .int .u32 0, .int .u32 0, .int .u32 0, .int .u32 0, .int .i64 0, .int .u32 0, .int .u32 0, .int .i64 0, .int .u32 0, .int .u32 0, .int .i64 0, .int .u32 0, .int .u32 0, .int .i64 0, .int .u32 0, .int .u32 0, .int .i64 0, .int .u32 0, .int .u32 0, .int .i64 0, .int .u32 0, .int .u32 0, .int .i64 0, .int .u32 0, .int .u32 0, .int .i64 0, .int .i64 0] 28) = W2 := ⟨_, rfl⟩
  obtain ⟨g6, hg6⟩ : ∃ g6, W1.heap.size = g6 := ⟨_, rfl⟩
  have h62 : RB W2 g6 R0 [] 28 := by rw [← hW2, ← hg6]; exact RB.zero _ _
  have b2 : Below W1.heap.size W1 W2 := by rw [← hW2]; exact (Below.refl _ _).alloc (Nat.le_refl _) _
  have h12 := h1.below b2
  obtain ⟨W3, hW3⟩ : ∃ W3, W2.alloc (.cells #[.int .i64 0, .int .i64 0, .int .i64 0] 35) = W3 := ⟨_, rfl⟩
  obtain ⟨g7, hg7⟩ : ∃ g7, W2.heap.size = g7 := ⟨_, rfl⟩
  have h73 : W3.heap[g7]? = some (.cells #[.int .i64 0, .int .i64 0, .int .i64 0] 35 (0, 0)) := by rw [← hW3, ← hg7]; exact heap_alloc_new _ _
  have b3 : Below W2.heap.size W2 W3 := by rw [← hW3]; exact (Below.refl _ _).alloc (Nat.le_refl _) _
  have h13 := h12.below b3
  have h63 := h62.below b3
  have l1 : B < g6 := by have := h1.lt; omega
  have l2 : g6 < g7 := by have := h62.lt; omega
  have HBW : Hid (Below w.heap.size w W3) := by rw [hB]; exact (b1.trans (b2.mono (by omega))).trans (b3.mono (by omega))
  have H1 := Lib.hid h13
  have H6 := Lib.hid h63
  have H7 := Lib.hid h73
  have HLT := Lib.hid (And.intro l1 l2)
  have HB := Lib.hid hB
  have HL := Lib.hid hr.len
  have C := Lib.hid (CN W3 HBW.out)
  unfold NX.val at C
  clear h1 b1 h62 b2 h12 h73 b3 h13 h63 l1 l2
  go_enter Tryd.func17, Tryd.ntmps17
  go_upto_region 1 with (fail)
  go_wp2_with (refine wpList_load_regs rfl _ rfl rfl H1.out HL.out ?_)
  clear hW1 hW2 hW3 hg6 hg7
  refine C.out.mono ?_
  rintro e W4 ⟨rfl, b4⟩
  have k1 := H1.out.below b4
  have k6 := H6.out.below b4
  have k7 := heap_keep b4 H7.out
  have HB4 : Hid (Below w.heap.size w W4) := HBW.out.trans (b4.mono HBW.out.size)
  clear b4 C H1 H6 H7 HBW
  obtain ⟨W5, hW5⟩ : ∃ W5, W4.alloc (.cells #[.int .i64 x.o, .int .i64 x.a, .int .i64 x.b, .int .i64 x.n] 66) = W5 := ⟨_, rfl⟩
  obtain ⟨g8, hg8⟩ : ∃ g8, W4.heap.size = g8 := ⟨_, rfl⟩
  have b5 : Below W4.heap.size W4 W5 := by rw [← hW5]; exact (Below.refl _ _).alloc (Nat.le_refl _) _
  have h8 : W5.heap[g8]? = some (.cells #[.int .i64 x.o, .int .i64 x.a, .int .i64 x.b, .int .i64 x.n] 66 (0, 0)) := by rw [← hW5, ← hg8]; exact heap_alloc_new _ _
  have l3 : g7 < g8 := by rw [← hg8]; exact (Array.getElem?_eq_some_iff.1 k7).1
  have k1 := k1.below b5
  have k6 := k6.below b5
  have k7 := heap_keep b5 k7
  have HB5 : Hid (Below w.heap.size w W5) := HB4.out.trans (b5.mono HB4.out.size)
  have HL3 := Lib.hid l3
  have H8 := Lib.hid h8
  clear b5 h8 l3 HB4
  have hx' : (x.e == 0) = true := by simpa using hx
  have HXE := Lib.hid hx
  obtain ⟨W6, hW6⟩ : ∃ W6, W5.alloc (.cells #[.int .u32 0, .int .u32 0, .int .u32 0, .int .u32 0, .int .u32 0, .int .u32 0, .int .u32 0, .int .u32 0, .int .u32 0, .int .u32 0, .int .u32 0, .int .u32 0, .int .u32 0, .int .u32 0, .int .u32 0, .int .u32 0, .int .u32 0, .int .u32 0, .int .u32 0, .int .u32 0, .int .u32 0, .int .u32 0, .int .i64 0, .int .u32 0, .int .u32 0, .int .i64 0, .int .u32 0, .int .u32 0, .int .i64 0, .int .u32 0, .int .u32 0, .int .i64 0, .int .u32 0, .int .u32 0, .int .i64 0, .int .u32 0, .int .u32 0, .int .i64 0, .int .u32 0, .int .u32 0, .int .i64 0, .int .u32 0, .int .u32 0, .int .i64 0, .int .i64 0, .nilIface, .int .i64 0] 70) = W6 := ⟨_, rfl⟩
  obtain ⟨g11, hg11⟩ : ∃ g11, W5.heap.size = g11 := ⟨_, rfl⟩
  have b6 : Below W5.heap.size W5 W6 := by rw [← hW6]; exact (Below.refl _ _).alloc (Nat.le_refl _) _
  have m11 : RB W6 g11 R0 [.nilIface, .int .i64 0] 70 := by rw [← hW6, ← hg11]; exact ST.zero _
  have l4 : g8 < g11 := by rw [← hg11]; exact (Array.getElem?_eq_some_iff.1 H8.out).1
  have HB6 : Hid (Below w.heap.size w W6) := HB5.out.trans (b6.mono HB5.out.size)
  have m1 := k1.below b6
  have m6 := k6.below b6
  have m7 := heap_keep b6 k7
  have m8 := heap_keep b6 H8.out
  obtain ⟨W7, hW7⟩ : ∃ W7, W6.setCells g11 0 (cells r ++ [Value.iface mt mp, Value.int .i64 (-1)]) = W7 := ⟨_, rfl⟩
  have p7 : Past g11 W6 W7 := by rw [← hW7]; exact past_setCells _ _ _ _
  have n11 : RB W7 g11 r [.iface mt mp, .int .i64 (-1)] 70 := by rw [← hW7]; exact m11.all r _ HL.out rfl
  obtain ⟨pc, hpc⟩ : ∃ pc, r.getD 16 0 = pc := ⟨_, rfl⟩
  obtain ⟨pn, hpn⟩ : ∃ pn, IntKind.u32.wrap (pc + 1) = pn := ⟨_, rfl⟩
  have hll := HL.out
  have c16 := n11.cellk (k := .u32) (o := 16) (by omega) (kd_reg (by omega))
  have d16 := n11.frozen 16
  rw [hpc] at c16
  obtain ⟨W8, hW8⟩ : ∃ W8, W7.setCell ⟨g11, 16, none⟩ (.int .u32 pn) = W8 := ⟨_, rfl⟩
  have q11 : ST W8 g11 (r.set 16 pn) (.iface mt mp) (-1) := by rw [← hW8]; exact n11.set (by omega) (kd_reg (by omega)) _
  have p8 : Past g11 W6 W8 := p7.trans (by rw [← hW8]; exact (Past.refl _ _).setCell _ _)
  have l1 := HLT.out
  have l3 := HL3.out
  have lB := HB.out
  have q1 := m1.keep (p8.block B m1.lt (by omega))
  have q6 := m6.keep (p8.block g6 m6.lt (by omega))
  have q7 := (p8.block g7 (Array.getElem?_eq_some_iff.1 m7).1 (by omega)).trans m7
  have q8 := (p8.block g8 (Array.getElem?_eq_some_iff.1 m8).1 (by omega)).trans m8
  have HB8 : Hid (Below w.heap.size w W8) := HB6.out.trans (p8.below (by omega) (by have := HB6.out.size; omega))
  have hEff8 := HE.out.below HB8.out
  have hMM8 := HM.out.more HB8.out W8.heap.size
  have l11 : g11 < W8.heap.size := RB.lt q11
  have hRO8 : RegOk (r.set 16 pn) ∧ DepOk (r.set 16 pn) := by
    refine ⟨HRO.out.1.set 16 pn (by rw [kd_reg (by omega)]; rw [← hpn, IntKind.wrap_u32]; exact ⟨by omega, by omega⟩), ?_⟩
    have := HRO.out.2
    unfold DepOk at this ⊢
    rw [getD_set_ne _ (by omega)]; exact this
  obtain ⟨mb, v, hv1, hv2⟩ := hEff8.lookup HK.out.2
  obtain ⟨K, cap, rfl, hRF, hC⟩ := HEC.out Bm mb v W8 g11 gm (r.set 16 pn) (.iface mt mp) μ (fun b => ng b ∨ (w.heap.size ≤ b ∧ b < W8.heap.size)) x.a x.b x.n hv1 q11 hMM8 (Or.inr ⟨by omega, l11⟩) (fun b h => by
    rcases h with h | h
    · have := HNG.out b h; have := HB8.out.size; omega
    · exact h.2) hRO8.1 hRO8.2 HI.out
  have hye2 : f x.a x.b x.n (r.set 16 pn) μ = y := by rw [← HYE.out, hpc, hpn]
  rw [hye2] at hC
  have hko := HK.out.1
  rw [hko] at q8
  have hcf := hRF (#[.pointer (some ⟨g11, 0, none⟩), .agg #[.int .i64 (k : Int), .int .i64 x.a, .int .i64 x.b, .int .i64 x.n]] ++ cap) W8
  have CE := Lib.hid hC
  have HCF := Lib.hid hcf
  have HV2 := Lib.hid hv2
  have K1 := Lib.hid k1
  have M11 := Lib.hid m11
  have E7 := Lib.hid hW7
  have Q1 := Lib.hid q1
  have Q6 := Lib.hid q6
  have Q7 := Lib.hid q7
  have Q8 := Lib.hid q8
  have HL8 : Hid (g6 < W8.heap.size ∧ g7 < W8.heap.size ∧ g11 < W8.heap.size) := ⟨q6.lt, (Array.getElem?_eq_some_iff.1 q7).1, l11⟩
  have HLT4 := Lib.hid (And.intro l1 (And.intro l3 (And.intro l4 lB)))
  have HGB : Hid (gm < w.heap.size) := HM.out.lt
  have s0 := (row_cell q8 0).1
  have s1 := (row_cell q8 1).1
  have s2 := (row_cell q8 2).1
  have s3 := (row_cell q8 3).1
  simp at s0 s1 s2 s3
  have HPN := Lib.hid hpn
  clear l11 k1 k6 k7 b6 m11 l4 m1 m6 m7 m8 p7 n11 hpc hll q11 p8 l1 l3 lB q1 q6 q7 q8 hEff8 hMM8 hRO8 hv1 hv2 hRF hC hye2 hko hcf hW7 hx hr HB5 H8 HB6 HM HE HEC HGM HI CN
  go_upto_region 4 with (fail)
  clear hW5 hg8
  go_upto_region 5 with (first | (refine wpList_load_regs rfl _ rfl rfl K1.out HL.out ?_) | (refine wpList_build_state rfl _ _ _ rfl rfl rfl rfl HL.out ?_) | (refine wpList_store_state rfl _ _ rfl rfl rfl M11.out r0_len HL.out rfl rfl (by simp [Value.oneCell']) ?_; rw [E7.out]; dsimp only [Act.put]))
  go_upto_region 6 with (fail)
  go_wp2_with (at_lookup; refine wpList_look rfl _ _ rfl rfl rfl HV2.out ?_)
  rw [HCF.out, Oper.upon_enter]
  refine CE.out.mono ?_
  rintro e W9 hpost
  obtain ⟨rfl, hst, hmm, hp2⟩ := hpost
  obtain ⟨l1, l3, l4, lB⟩ := HLT4.out
  have hgb := HGB.out
  have t1 := Q1.out.keep (hp2.block B Q1.out.lt (by omega) (by omega))
  have t6 := Q6.out.keep (hp2.block g6 Q6.out.lt (by omega) (by omega))
  have t7 := (hp2.block g7 (Array.getElem?_eq_some_iff.1 Q7.out).1 (by omega) (by omega)).trans Q7.out
  have HPW : Hid (Past gm w W9) := P2.past HB8.out hp2 (by omega)
  have HMW := Lib.hid hmm
  clear Q1 Q6 Q7 Q8 s0 s1 s2 s3 HV2 HCF CE hp2 hmm c16 d16 HB8 K1 M11 E7
  obtain ⟨ye, yr, yc, yμ⟩ := y
  dsimp only at hst HY ⊢
  have T1 := Lib.hid t1
  have T6 := Lib.hid t6
  have T7 := Lib.hid t7
  have HST := Lib.hid hst
  clear t1 t6 t7 hst l1 l3 l4 lB hgb
  by_cases hz : ye = 0
  · subst hz
    have HRY := Lib.hid (HY.out rfl)
    have HLY := Lib.hid HRY.out.1.len
    have HLS := Lib.hid (settled_ok HRY.out.1 HRY.out.2)
    have HSV : Hid (stepVal r x.t ⟨0, yr, yc, yμ⟩ = .tuple #[.agg (cells (settledV yr)).toArray, .agg #[.int .i64 x.t, .int .i64 yc, .int .i64 0]]) := by unfold Hid stepVal; rfl
    have CS := Lib.hid fun (W : World) => settled_any yr W HRY.out.1 HRY.out.2
    obtain ⟨ys, hys⟩ : ∃ ys, settledV yr = ys := ⟨_, rfl⟩
    rw [hys] at HSV HLS CS
    clear hys HY HRY
    go_upto_region 9 with (fail)
    refine wp_region_held_drew (S := fun w' => RB w' g11 yr [Value.iface mt mp, Value.int .i64 yc] 70 ∧ w'.cell? ⟨g11, 46, none⟩ = some (.int .i64 yc)) (by kernel_rfl) ?_ (fun hHeld => ?_)
    · exact ⟨HST.out.keep rfl, by have := RB.tail HST.out 1; rw [HLY.out] at this; simpa using this⟩
    refine takeD (i := 0) (d := some 47) (v := ?_) _ rfl rfl (by kernel_rfl) (by kernel_rfl) (by kernel_rfl) (fun _ _ _ h => h) (by rfl) ?_ (by assumption) ?_
    rotate_left
    · (intro w hSw; (try dsimp only at hSw); go_simp) <;> with_reducible rfl
    try simp only [Act.put, List.setIfInBounds_toArray, List.set_cons_zero, List.set_cons_succ]
    refine takeD (i := 1) (d := some 48) (v := .agg (cells yr).toArray) _ rfl rfl (by kernel_rfl) (by kernel_rfl) (by kernel_rfl) (fun _ _ _ h => h) (by rfl) ?_ (by assumption) ?_
    · intro w hSw; exact exec_load_regs (.tmp 47) rfl rfl hSw.1 HLY.out
    try simp only [Act.put, List.setIfInBounds_toArray, List.set_cons_zero, List.set_cons_succ]
    refine takeD (i := 3) (d := some 50) (v := ?_) _ rfl rfl (by kernel_rfl) (by kernel_rfl) (by kernel_rfl) (fun _ _ _ h => h) (by rfl) ?_ (by assumption) ?_
    rotate_left
    · (intro w hSw; (try dsimp only at hSw); go_simp) <;> with_reducible rfl
    try simp only [Act.put, List.setIfInBounds_toArray, List.set_cons_zero, List.set_cons_succ]
    refine takeD (i := 4) (d := some 51) (v := ?_) _ rfl rfl (by kernel_rfl) (by kernel_rfl) (by kernel_rfl) (fun _ _ _ h => h) (by rfl) ?_ (by assumption) ?_
    rotate_left
    · (intro w hSw; (try dsimp only at hSw); go_simp) <;> with_reducible rfl
    try simp only [Act.put, List.setIfInBounds_toArray, List.set_cons_zero, List.set_cons_succ]
    refine takeD (i := 5) (d := some 52) (v := ?_) _ rfl rfl (by kernel_rfl) (by kernel_rfl) (by kernel_rfl) (fun _ _ _ h => h) (by rfl) ?_ (by assumption) ?_
    rotate_left
    · (intro w hSw; (try dsimp only at hSw); go_simp) <;> with_reducible rfl
    try simp only [Act.put, List.setIfInBounds_toArray, List.set_cons_zero, List.set_cons_succ]
    refine takeD (i := 6) (d := some 53) (v := ?_) _ rfl rfl (by kernel_rfl) (by kernel_rfl) (by kernel_rfl) (fun _ _ _ h => h) (by rfl) ?_ (by assumption) ?_
    rotate_left
    · (intro w hSw; (try dsimp only at hSw); go_simp) <;> with_reducible rfl
    try simp only [Act.put, List.setIfInBounds_toArray, List.set_cons_zero, List.set_cons_succ]
    refine wpAnyH_ready (rs := [2]) (by kernel_rfl) (by simp) ?_
    refine AllReadyH.cons rfl (fun K hK => ?_) AllReadyH.nil
    go_simp
    go_at_call 46
    refine (CS.out _).mono ?_
    rintro e wt ⟨rfl, hbt⟩
    try go_wp2_with fail
    have hbt := ((Below.refl W9.heap.size W9).drew).trans hbt
    have u11 := RB.below HST.out (w' := wt) hbt
    have u6 := RB.below T6.out (w' := wt) hbt
    have u7 := heap_keep (w := W9) (w1 := wt) hbt T7.out
    have um := MM.below HMW.out (w' := wt) hbt
    have up : Past gm w wt := HPW.out.trans (Past.of_below (w := W9) hbt)
    obtain ⟨W11, hW11⟩ : ∃ W11, wt.setCells g6 0 (cells ys) = W11 := ⟨_, rfl⟩
    have lt4 := HLT4.out
    have hgb := HGB.out
    have p11 : Past g6 wt W11 := by rw [← hW11]; exact past_setCells _ _ _ _
    have v6 : RB W11 g6 ys [] 28 := by rw [← hW11]; exact u6.store _ (by rw [HLS.out]; exact r0_len.symm)
    have v7 := (p11.block g7 (Array.getElem?_eq_some_iff.1 u7).1 (by omega)).trans u7
    have v11 := u11.keep (p11.block g11 u11.lt (by omega))
    have U6 := Lib.hid v6
    have U7 := Lib.hid v7
    have UT6 := Lib.hid u6
    have UE := Lib.hid hW11
    have hl8 := HL8.out
    have UM : Hid (MM W11 gm (.iface mt mp) yμ (fun b => ng b ∨ (w.heap.size ≤ b ∧ b < W8.heap.size))) := um.past p11 (Or.inr ⟨by omega, by omega⟩)
    have UP : Hid (Past gm w W11) := up.trans_new p11 (by omega)
    have UH : Hid (RB W11 g11 yr [Value.iface mt mp, Value.int .i64 yc] 70 ∧ W11.cell? ⟨g11, 46, none⟩ = some (.int .i64 yc)) := ⟨v11, by have := v11.tail 1; rw [HLY.out] at this; simpa using this⟩
    refine hK.out _ _ ⟨u11, by have := u11.tail 1; rw [HLY.out] at this; simpa using this⟩ (fun hHeld => ?_)
    clear hK K u11 u6 u7 um up hW11 lt4 hgb p11 v6 v7 v11 hl8
    try simp only [Act.put, List.setIfInBounds_toArray, List.set_cons_zero, List.set_cons_succ]
    refine wpAnyH_ready (rs := [7]) (by kernel_rfl) (by simp) ?_
    refine AllReadyH.cons rfl (fun K hK => ?_) AllReadyH.nil
    refine wp_store_regs (g := g6) (r := ys) (r0 := R0) _ _ rfl rfl rfl UT6.out r0_len HLS.out ?_
    rw [UE.out]
    refine hK.out _ _ UH.out (fun hHeld => ?_)
    clear hK K
    try simp only [Act.put, List.setIfInBounds_toArray, List.set_cons_zero, List.set_cons_succ]
    have e0 := (row_cell U7.out 0).1
    have e1 := (row_cell U7.out 1).1
    have e2 := (row_cell U7.out 2).1
    have e3 := (row_cell U7.out 0).2
    have e4 := (row_cell U7.out 1).2
    have e5 := (row_cell U7.out 2).2
    simp at e0 e1 e2
    refine wpAnyH_ready (rs := [8]) (by kernel_rfl) (by simp) ?_
    refine AllReadyH.cons rfl (fun K hK => ?_) AllReadyH.nil
    have HQ := Lib.hid hHeld
    clear hHeld
    go_simp
    refine hK.out _ _ ?_ (fun hHeld => ?_)
    · have hp := set3_past (Past.refl g7 W11) (.int .i64 x.t) (.int .i64 yc) (.int .i64 0)
      have h1 := RB.keep HQ.out.1 (hp.block g11 HQ.out.1.lt (by have := HLT4.out; omega))
      exact ⟨h1, by have := h1.tail 1; rw [HLY.out] at this; simpa using this⟩
    clear hK K e0 e1 e2 e3 e4 e5 HQ
    try simp only [Act.put, List.setIfInBounds_toArray, List.set_cons_zero, List.set_cons_succ]
    refine wpAnyH_done (by kernel_rfl) ?_ _
    have HH := Lib.hid hHeld
    clear hHeld
    go_wp2_with fail
    have hp3 := set3_past (Past.refl g7 W11) (.int .i64 x.t) (.int .i64 yc) (.int .i64 0)
    have h63 := RB.keep U6.out (hp3.block g6 U6.out.lt (by have := HLT4.out; omega))
    refine bodyPost_ret (results_step rfl rfl h63 HLS.out (set3_heap U7.out _ _ _)) rfl ⟨?_, ?_, ?_⟩
    · rw [HSV.out]
    · exact (UM.out.past hp3 (Or.inr ⟨by have := HLT4.out; omega, by have := HL8.out; omega⟩)).less
    · exact UP.out.trans_new hp3 (by have := HLT4.out; omega)
  · have hz' : (ye == 0) = false := by simpa using hz
    have HSV : Hid (stepVal r x.t ⟨ye, yr, yc, yμ⟩ = .tuple #[.agg (cells r).toArray, .agg #[.int .i64 x.t, .int .i64 (-1), .int .i64 ye]]) := by unfold Hid stepVal; rw [if_neg hz]
    obtain ⟨W11, hW11⟩ : ∃ W11, W9.setCells g6 0 (cells r) = W11 := ⟨_, rfl⟩
    have lt4 := HLT4.out
    have hgb := HGB.out
    have hl8 := HL8.out
    have p11 : Past g6 W9 W11 := by rw [← hW11]; exact past_setCells _ _ _ _
    have v6 : RB W11 g6 r [] 28 := by rw [← hW11]; exact T6.out.store _ HL.out
    have v7 := (p11.block g7 (Array.getElem?_eq_some_iff.1 T7.out).1 (by omega)).trans T7.out
    have e0 := (row_cell v7 0).1
    have e1 := (row_cell v7 1).1
    have e2 := (row_cell v7 2).1
    have e3 := (row_cell v7 0).2
    have e4 := (row_cell v7 1).2
    have e5 := (row_cell v7 2).2
    simp at e0 e1 e2
    have UE := Lib.hid hW11
    have U6 := Lib.hid v6
    have U7 := Lib.hid v7
    have UM : Hid (MM W11 gm (.iface mt mp) yμ (fun b => ng b ∨ (w.heap.size ≤ b ∧ b < W8.heap.size))) := HMW.out.past p11 (Or.inr ⟨by omega, by omega⟩)
    have UP : Hid (Past gm w W11) := HPW.out.trans_new p11 (by omega)
    clear hz hW11 lt4 hgb hl8 p11 v6 v7
    go_upto_region 8 with (fail)
    go_wp2_with (first | (refine wpList_load_regs rfl _ rfl rfl T1.out HL.out ?_) | (refine wpList_store_regs rfl _ _ rfl rfl rfl T6.out r0_len HL.out ?_; rw [UE.out]; dsimp only [Act.put]))
    have hp3 := set3_past (Past.refl g7 W11) (.int .i64 x.t) (.int .i64 (-1)) (.int .i64 ye)
    have h63 := RB.keep U6.out (hp3.block g6 U6.out.lt (by have := HLT4.out; omega))
    refine bodyPost_ret (results_step rfl rfl h63 HL.out (set3_heap U7.out _ _ _)) rfl ⟨?_, ?_, ?_⟩
    · rw [HSV.out]
    · exact (UM.out.past hp3 (Or.inr ⟨by have := HLT4.out; omega, by have := HL8.out; omega⟩)).less
    · exact UP.out.trans_new hp3 (by have := HLT4.out; omega)
end Go.Proofs.YthmalhakkdjilaaDoor
