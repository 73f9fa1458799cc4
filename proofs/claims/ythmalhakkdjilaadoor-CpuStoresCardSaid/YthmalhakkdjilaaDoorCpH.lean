/-
  Contract of step. Each statement bears its own conditions.
-/
import Derived.Test.YthmalhakkdjilaaDoorCpD
import Derived.Test.YthmalhakkdjilaaDoorCpG
namespace Go.Proofs.YthmalhakkdjilaaDoor
open Go.RowKit
set_option linter.unusedVariables false
set_option linter.unusedSimpArgs false
/-- All stays but two blocks. -/
structure P2 (g h : Nat) (w w' : World) : Prop where
  os : w'.os = w.os
  tape : w'.tape = w.tape
  output : w'.output = w.output
  size : w.heap.size ≤ w'.heap.size
  block : ∀ k, k < w.heap.size → k ≠ g → k ≠ h → w'.heap[k]? = w.heap[k]?
theorem P2.of_past {g h : Nat} {w w' : World} (p : Past g w w') : P2 g h w w' := ⟨p.os, p.tape, p.output, p.size, fun k hk hg _ => p.block k hk hg⟩
theorem P2.of_past' {g h : Nat} {w w' : World} (p : Past h w w') : P2 g h w w' := ⟨p.os, p.tape, p.output, p.size, fun k hk _ hg => p.block k hk hg⟩
theorem P2.trans {g h : Nat} {a b c : World} (p : P2 g h a b) (q : P2 g h b c) : P2 g h a c :=
  ⟨q.os.trans p.os, q.tape.trans p.tape, q.output.trans p.output, Nat.le_trans p.size q.size, fun i hi h1 h2 => (q.block i (Nat.lt_of_lt_of_le hi p.size) h1 h2).trans (p.block i hi h1 h2)⟩
/-- .. of which one is new. -/
theorem P2.past {g h : Nat} {a b c : World} (hb : Below a.heap.size a b) (p : P2 g h b c) (hg : a.heap.size ≤ g) : Past h a c :=
  ⟨p.os.trans hb.os, p.tape.trans hb.tape, p.output.trans hb.output, Nat.le_trans hb.size p.size, fun i hi hn => (p.block i (Nat.lt_of_lt_of_le hi hb.size) (by omega) hn).trans (hb.block i hi)⟩
/-- What an effect leaves behind: the error, registers, the call, the memory. -/
structure ER where
  e : Int
  r : List Int
  c : Int
  μ : MS
structure EPost (w w' : World) (g gm : Nat) (mv : Value) (ng : Nat → Prop) (x : ER) (e : Ending) : Prop where
  e : e = .returned (.int .i64 x.e)
  st : ST w' g x.r mv x.c
  mm : MM w' gm mv x.μ ng
  p : P2 g gm w w'
/-- An operation's effect does what is said. -/
def EffC (k : Nat) (f : Int → Int → Int → List Int → MS → ER) : Prop := ∀ (B mb : Nat) (v : Value) (w : World) (g gm : Nat) (r : List Int) (mv : Value) (μ : MS) (ng : Nat → Prop) (a b n : Int),
  IsEff w B mb (effT.getD k (0, 0)) v → ST w g r mv (-1) → MM w gm mv μ ng → ng g → (∀ q, ng q → q < w.heap.size) → RegOk r → DepOk r → InOk a b n →
  ∃ K cap, v = .func (.func K) #[] cap ∧ (∀ (args : Array Value) (W : World), (callFunc K args).run Tryd.prog W = .ok (.enter K args) W) ∧
    Calls Tryd.prog K (#[.pointer (some ⟨g, 0, none⟩), .agg #[.int .i64 (k : Int), .int .i64 a, .int .i64 b, .int .i64 n]] ++ cap) w fun e w' => EPost w w' g gm mv ng (f a b n r μ) e
theorem results_two_cells {P : Program} {fn : Func} {p q : Tmp} {ty tz : TypeId} (h : fn.results = #[.cell p ty, .cell q tz]) (tmps : Array Value) (w : World) (g k : Nat) (cs ds : List Value) (d e : TypeDesc)
    (hp : tmps.getD p undef = .pointer (some ⟨g, 0, none⟩)) (hq : tmps.getD q undef = .pointer (some ⟨k, 0, none⟩)) (hc : w.rangeAt g 0 cs) (hd' : w.rangeAt k 0 ds)
    (hu : P.underlying ty = some d) (hd : d.isRow = true) (hi : (P.info? ty).map (·.size) = some cs.length) (hu' : P.underlying tz = some e) (he : e.isRow = true) (hi' : (P.info? tz).map (·.size) = some ds.length) :
    (results fn tmps).run P w = .ok (.tuple #[.agg cs.toArray, .agg ds.toArray]) w := by
  have hp' : tmps[p]?.getD undef = .pointer (some ⟨g, 0, none⟩) := by simpa using hp
  have hq' : tmps[q]?.getD undef = .pointer (some ⟨k, 0, none⟩) := by simpa using hq
  simp [results, h, hp', hq', asAddr, run_loadVar_mid w g 0 ty cs d hc hu hd hi, run_loadVar_mid w k 0 tz ds e hd' hu' he hi']
theorem range_three {w : World} {g : Nat} {c0 c1 c2 : Value} {t : TypeId} (h : w.heap[g]? = some (.cells #[c0, c1, c2] t (0, 0))) : w.rangeAt g 0 [c0, c1, c2] := by
  intro j v hv
  rw [Nat.zero_add, (row_cell h j).1]
  simpa using hv
theorem set3_heap {w : World} {g : Nat} {c0 c1 c2 : Value} {t : TypeId} (h : w.heap[g]? = some (.cells #[c0, c1, c2] t (0, 0))) (a b c : Value) : (((w.setCell ⟨g, 0, none⟩ a).setCell ⟨g, 1, none⟩ b).setCell ⟨g, 2, none⟩ c).heap[g]? = some (.cells #[a, b, c] t (0, 0)) := by
  have h1 := set_at (set_at (set_at h 0 a) 1 b) 2 c
  simpa using h1
theorem set3_past {a w : World} {g : Nat} (h : Past g a w) (p q r : Value) : Past g a (((w.setCell ⟨g, 0, none⟩ p).setCell ⟨g, 1, none⟩ q).setCell ⟨g, 2, none⟩ r) := ((h.setCell 0 p).setCell 1 q).setCell 2 r
theorem results_step {tmps : Array Value} {w : World} {g k : Nat} {r : List Int} {x y z : Value} {t : TypeId} (hp : tmps.getD 6 undef = .pointer (some ⟨g, 0, none⟩)) (hq : tmps.getD 7 undef = .pointer (some ⟨k, 0, none⟩)) (h1 : RB w g r [] t) (hl : r.length = 45) (h2 : w.heap[k]? = some (.cells #[x, y, z] 35 (0, 0))) :
    (results Tryd.f17 tmps).run Tryd.prog w = .ok (.tuple #[.agg (cells r).toArray, .agg #[x, y, z]]) w :=
  results_two_cells (ty := 28) (tz := 35) rfl tmps w g k (cells r) [x, y, z] _ _ hp hq h1.range (range_three h2) Tryd.underlying28 rfl (by rw [cells_len, hl]; exact regs_info) Tryd.underlying35 rfl (by kernel_rfl)
set_option maxRecDepth 100000 in
set_option maxHeartbeats 8000000 in
theorem step_err (r : List Int) (mv em : Value) (x : NX) (w : World) (hr : RegOk r) (hx : ¬ x.e = 0) (CN : ∀ W, Below w.heap.size w W → Calls Tryd.prog 45 #[.agg (cells r).toArray, mv] W fun e w' => e = .returned x.val ∧ Below W.heap.size W w') :
    Calls Tryd.prog 17 #[.agg (cells r).toArray, mv, em] w fun e w' => e = .returned (.tuple #[.agg (cells r).toArray, .agg #[.int .i64 x.t, .int .i64 (-1), .int .i64 x.e]]) ∧ Below w.heap.size w w' := by
  obtain ⟨B, hB⟩ : ∃ B, w.heap.size = B := ⟨_, rfl⟩
  obtain ⟨W1, hW1⟩ : ∃ W1, w.alloc (.cells (cells r).toArray 28) = W1 := ⟨_, rfl⟩
  have h1 : RB W1 B r [] 28 := by rw [← hW1, ← hB]; exact RB.new _ _ _
  have b1 : Below B w W1 := by rw [← hW1, ← hB]; exact (Below.refl _ _).alloc (Nat.le_refl _) _
  obtain ⟨W2, hW2⟩ : ∃ W2, W1.alloc (.cells #[.int .u32 0, .int .u32 0, .int .u32 0, .int .u32 0, .int .u32 0, .int .u32 0, .int .u32 0, .int .u32 0, .int .u32 0, .int .u32 0, .int .u32 0, .int .u32 0, .int .u32 0, .int .u32 0, .int .u32 0, .int .u32 0, .int .u32 0, .int .u32 0, .int .u32 0, .int .u32 0, .int .u32 0, .int .u32 0, .int .i64 0, .int .u32 0, .int .u32 0, .int .i64 0, .int .u32 0, .int .u32 0, .int .i64 0, .int .u32 0, .int .u32 0, .int .i64 0, .int .u32 0, .int .u32 0, .int .i64 0, .int .u32 0, .int .u32 0, .int .i64 0, .int .u32 0, .int .u32 0, .int .i64 0, .int .u32 0, .int .u32 0, .int .i64 0, .int .i64 0] 28) = W2 := ⟨_, rfl⟩
  obtain ⟨g6, hg6⟩ : ∃ g6, W1.heap.size = g6 := ⟨_, rfl⟩
  have h62 : RB W2 g6 R0 [] 28 := by rw [← hW2, ← hg6]; exact RB.zero _ _
  have b2 : Below W1.heap.size W1 W2 := by rw [← hW2]; exact (Below.refl _ _).alloc (Nat.le_refl _) _
  have h12 := h1.below b2
  obtain ⟨W3, hW3⟩ : ∃ W3, W2.alloc (.cells #[.int .i64 0, .int .i64 0, .int .i64 0] 35) = W3 := ⟨_, rfl⟩
  obtain ⟨g7, hg7⟩ : ∃ g7, W2.heap.size = g7 := ⟨_, rfl⟩
  have h73 : W3.heap[g7]? = some (.cells #[.int .i64 0, .int .i64 0, .int .i64 0] 35 (0, 0)) := by rw [← hW3, ← hg7]; exact heap_alloc_new _ _
  have b3 : Below W2.heap.size W2 W3 := by rw [← hW3]; exact (Below.refl _ _).alloc (Nat.le_refl _) _
  have h13 := h12.below b3
  have h63 := h62.below b3
  have l1 : B < g6 := by have := h1.lt; omega
  have l2 : g6 < g7 := by have := h62.lt; omega
  have HBW : Hid (Below w.heap.size w W3) := by rw [hB]; exact (b1.trans (b2.mono (by omega))).trans (b3.mono (by omega))
  have H1 := Lib.hid h13
  have H6 := Lib.hid h63
  have H7 := Lib.hid h73
  have HLT := Lib.hid (And.intro l1 l2)
  have HB := Lib.hid hB
  have HL := Lib.hid hr.len
  have C := Lib.hid (CN W3 HBW.out)
  unfold NX.val at C
  clear h1 b1 h62 b2 h12 h73 b3 h13 h63 l1 l2
  go_enter Tryd.func17, Tryd.ntmps17
  go_upto_region 1 with (fail)
  go_wp2_with (refine wpList_load_regs rfl _ rfl rfl H1.out HL.out ?_)
  clear hW1 hW2 hW3 hg6 hg7
  refine C.out.mono ?_
  rintro e W4 ⟨rfl, b4⟩
  have k1 := H1.out.below b4
  have k6 := H6.out.below b4
  have k7 := heap_keep b4 H7.out
  have HB4 : Hid (Below w.heap.size w W4) := HBW.out.trans (b4.mono HBW.out.size)
  clear b4 C H1 H6 H7 HBW
  obtain ⟨W5, hW5⟩ : ∃ W5, W4.alloc (.cells #[.int .i64 x.o, .int .i64 x.a, .int .i64 x.b, .int .i64 x.n] 66) = W5 := ⟨_, rfl⟩
  obtain ⟨g8, hg8⟩ : ∃ g8, W4.heap.size = g8 := ⟨_, rfl⟩
  have b5 : Below W4.heap.size W4 W5 := by rw [← hW5]; exact (Below.refl _ _).alloc (Nat.le_refl _) _
  have h8 : W5.heap[g8]? = some (.cells #[.int .i64 x.o, .int .i64 x.a, .int .i64 x.b, .int .i64 x.n] 66 (0, 0)) := by rw [← hW5, ← hg8]; exact heap_alloc_new _ _
  have l3 : g7 < g8 := by rw [← hg8]; exact (Array.getElem?_eq_some_iff.1 k7).1
  have k1 := k1.below b5
  have k6 := k6.below b5
  have k7 := heap_keep b5 k7
  have HB5 : Hid (Below w.heap.size w W5) := HB4.out.trans (b5.mono HB4.out.size)
  have HL3 := Lib.hid l3
  have H8 := Lib.hid h8
  clear b5 h8 l3 HB4
  have hx' : (x.e == 0) = false := by simpa using hx
  obtain ⟨W6, hW6⟩ : ∃ W6, W5.setCells g6 0 (cells r) = W6 := ⟨_, rfl⟩
  have p6 : Past g6 W5 W6 := by rw [← hW6]; exact past_setCells _ _ _ _
  have m6 : RB W6 g6 r [] 28 := by rw [← hW6]; exact k6.store _ HL.out
  have m7 := (p6.block g7 (Array.getElem?_eq_some_iff.1 k7).1 (by have := HLT.out; omega)).trans k7
  have K1 := Lib.hid k1
  have K6 := Lib.hid k6
  have E6 := Lib.hid hW6
  have e0 := (row_cell m7 0).1
  have e1 := (row_cell m7 1).1
  have e2 := (row_cell m7 2).1
  have e3 := (row_cell m7 0).2
  have e4 := (row_cell m7 1).2
  have e5 := (row_cell m7 2).2
  simp at e0 e1 e2
  have HX7 := Lib.hid (set3_heap m7 (.int .i64 x.t) (.int .i64 (-1)) (.int .i64 x.e))
  have HP7 := Lib.hid (set3_past (Past.refl g7 W6) (.int .i64 x.t) (.int .i64 (-1)) (.int .i64 x.e))
  have HX6 : Hid (RB (((W6.setCell ⟨g7, 0, none⟩ (.int .i64 x.t)).setCell ⟨g7, 1, none⟩ (.int .i64 (-1))).setCell ⟨g7, 2, none⟩ (.int .i64 x.e)) g6 r [] 28) := m6.keep (HP7.out.block g6 m6.lt (by have := HLT.out; omega))
  have HBE : Hid (Below w.heap.size w W6) := HB5.out.trans (p6.below (by have := HLT.out; have := HB.out; omega) (by have := HB.out; have := k1.lt; omega))
  have HZ : Hid (w.heap.size ≤ g7 ∧ w.heap.size ≤ W6.heap.size) := ⟨by have := HLT.out; have := HB.out; omega, HBE.out.size⟩
  clear k1 k6 k7 p6 m6 m7 hW6 hx HB5 H8
  go_upto_region 3 with (fail)
  go_wp2_with (first | (refine wpList_load_regs rfl _ rfl rfl K1.out HL.out ?_) | (refine wpList_store_regs rfl _ _ rfl rfl rfl K6.out r0_len HL.out ?_; rw [E6.out]; dsimp only [Act.put]))
  refine bodyPost_ret (results_step rfl rfl HX6.out HL.out HX7.out) rfl ⟨rfl, ?_⟩
  exact HBE.out.trans (HP7.out.below HZ.out.1 HZ.out.2)
end Go.Proofs.YthmalhakkdjilaaDoor
