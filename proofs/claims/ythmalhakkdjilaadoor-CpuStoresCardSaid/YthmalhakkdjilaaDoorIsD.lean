/-
  Contract of Decode. Each statement bears its own conditions.
-/
import Derived.Test.YthmalhakkdjilaaDoorIsC
namespace Go.Proofs.YthmalhakkdjilaaDoor
open Go.RowKit
set_option linter.unusedVariables false
set_option linter.unusedSimpArgs false
theorem results_cell_tmp {P : Program} {fn : Func} {p q : Tmp} {ty : TypeId} (h : fn.results = #[.cell p ty, .tmp q]) (tmps : Array Value) (w : World) (g : Nat) (cs : List Value) (d : TypeDesc)
    (hp : tmps.getD p undef = .pointer (some ⟨g, 0, none⟩)) (hc : w.rangeAt g 0 cs)
    (hu : P.underlying ty = some d) (hd : d.isRow = true) (hi : (P.info? ty).map (·.size) = some cs.length) :
    (results fn tmps).run P w = .ok (.tuple #[.agg cs.toArray, tmps.getD q undef]) w := by
  have hp' : tmps[p]?.getD undef = .pointer (some ⟨g, 0, none⟩) := by simpa using hp
  simp [results, h, hp', asAddr, run_loadVar_mid w g 0 ty cs d hc hu hd hi]
theorem set_at {w : World} {g : Nat} {C : Array Value} {t : TypeId} {fr : Nat × Nat} (h : w.heap[g]? = some (.cells C t fr)) (o : Nat) (v : Value) : (w.setCell ⟨g, o, none⟩ v).heap[g]? = some (.cells (C.setIfInBounds o v) t fr) := by
  have hl : g < w.heap.size := by
    by_cases hlt : g < w.heap.size
    · exact hlt
    · rw [Array.getElem?_eq_none (by omega)] at h; cases h
  simp [World.setCell, h, Array.getElem?_modify]
theorem set_far {w : World} {g k : Nat} (o : Nat) (v : Value) (h : k ≠ g) : (w.setCell ⟨g, o, none⟩ v).heap[k]? = w.heap[k]? := Below.heap_setCell _ _ _ _ h
theorem set_four {w : World} {g : Nat} {c0 c1 c2 c3 : Value} {t : TypeId} (h : w.heap[g]? = some (.cells #[c0, c1, c2, c3] t (0, 0))) (a b c d : Value) : ((((w.setCell ⟨g, 0, none⟩ a).setCell ⟨g, 1, none⟩ b).setCell ⟨g, 2, none⟩ c).setCell ⟨g, 3, none⟩ d).rangeAt g 0 [a, b, c, d] := by
  have h1 := set_at (set_at (set_at (set_at h 0 a) 1 b) 2 c) 3 d
  intro j v hv
  rw [Nat.zero_add, (row_cell h1 j).1]
  simpa using hv
theorem heap_keep {w w1 : World} {b : Nat} {o : Obj} (hb : Below w.heap.size w w1) (h : w.heap[b]? = some o) : w1.heap[b]? = some o := (hb.block _ (Array.getElem?_eq_some_iff.1 h).1).trans h
/-- The field of a number, with its sign. -/
def sgn19 (x : Int) : Int := if 262143 < x % 524288 then x % 524288 - 524288 else x % 524288
set_option maxRecDepth 100000 in
set_option maxHeartbeats 8000000 in
theorem decode_any (x : Int) (w : World) (hL : Laid w) (hx : 0 ≤ x ∧ x < 4294967296) : Calls Tryd.prog 52 #[.int .u32 x] w fun e w' =>
    e = .returned (if validV (x / 134217728) (x / 8388608 % 16) (x / 524288 % 16) (sgn19 x) = true then .tuple #[.agg #[.int .i64 (x / 134217728), .int .i64 (x / 8388608 % 16), .int .i64 (x / 524288 % 16), .int .i64 (sgn19 x)], .int .i64 0] else .tuple #[.agg #[.int .i64 0, .int .i64 0, .int .i64 0, .int .i64 0], .int .i64 12]) ∧ Below w.heap.size w w' := by
  obtain ⟨hx0, hx1⟩ := hx
  have e1 : bits .and .u32 (x / 8388608) 15 = x / 8388608 % 16 := by
    have := and32 4 (by omega) (x / 8388608) (by omega) (by omega)
    have h2 : (((2 ^ 4 - 1 : Nat) : Int)) = 15 := by decide
    rw [h2] at this
    rw [this]; omega
  have e2 : bits .and .u32 (x / 524288) 15 = x / 524288 % 16 := by
    have := and32 4 (by omega) (x / 524288) (by omega) (by omega)
    have h2 : (((2 ^ 4 - 1 : Nat) : Int)) = 15 := by decide
    rw [h2] at this
    rw [this]; omega
  have e3 : bits .and .u32 x 524287 = x % 524288 := by
    have := and32 19 (by omega) x (by omega) (by omega)
    have h2 : (((2 ^ 19 - 1 : Nat) : Int)) = 524287 := by decide
    rw [h2] at this
    rw [this]; omega
  obtain ⟨s, hs⟩ : ∃ s, sgn19 x = s := ⟨_, rfl⟩
  rw [hs]
  obtain ⟨X, hX⟩ : ∃ X, (w.alloc (.cells #[.int .i64 0, .int .i64 0, .int .i64 0, .int .i64 0] 66)).alloc (.cells #[.int .i64 (x / 134217728), .int .i64 (x / 8388608 % 16), .int .i64 (x / 524288 % 16), .int .i64 s] 66) = X := ⟨_, rfl⟩
  have HX0 : Hid (X.heap[w.heap.size]? = some (.cells #[.int .i64 0, .int .i64 0, .int .i64 0, .int .i64 0] 66 (0, 0))) := by
    rw [← hX]; exact heap_keep ((Below.refl _ _).alloc (Nat.le_refl _) _) (heap_alloc_new _ _)
  have HX1 : Hid (X.heap[w.heap.size + 1]? = some (.cells #[.int .i64 (x / 134217728), .int .i64 (x / 8388608 % 16), .int .i64 (x / 524288 % 16), .int .i64 s] 66 (0, 0))) := by
    have h1 := heap_alloc_new (w.alloc (.cells #[.int .i64 0, .int .i64 0, .int .i64 0, .int .i64 0] 66)) (.cells #[.int .i64 (x / 134217728), .int .i64 (x / 8388608 % 16), .int .i64 (x / 524288 % 16), .int .i64 s] 66)
    rw [← hX]; unfold Hid; simpa using h1
  have HBX : Hid (Below w.heap.size w X) := by
    rw [← hX]; exact ((Below.refl w.heap.size w).alloc (Nat.le_refl _) _).alloc (by simp) _
  have CV := Lib.hid (valid_any (x / 134217728) (x / 8388608 % 16) (x / 524288 % 16) s X (hL.below HBX.out))
  have HXX := Lib.hid hX
  have HSS := Lib.hid hs
  clear hL hX hs
  by_cases h19 : 262143 < x % 524288
  · have HSG : Hid (x % 524288 - 524288 = s) := by rw [← HSS.out]; unfold Hid sgn19; rw [if_pos h19]
    go_enter Tryd.func52, Tryd.ntmps52
    go_wp2_with fail
    try simp only [HSG.out]
    try simp only [HXX.out]
    cases hv : validV (x / 134217728) (x / 8388608 % 16) (x / 524288 % 16) s with
    | false =>
      rw [hv] at CV
      refine CV.out.mono ?_
      rintro e V1 ⟨rfl, v1⟩
      have h0 := heap_keep v1 HX0.out
      have h1 := heap_keep v1 HX1.out
      have HB1 : Hid (Below w.heap.size w V1) := HBX.out.trans (v1.mono HBX.out.size)
      have i0 := (row_cell h1 0).1
      have i1 := (row_cell h1 1).1
      have i2 := (row_cell h1 2).1
      have i3 := (row_cell h1 3).1
      have z0 := (row_cell h0 0).1
      have z1 := (row_cell h0 1).1
      have z2 := (row_cell h0 2).1
      have z3 := (row_cell h0 3).1
      have f0 := (row_cell h0 0).2
      have f1 := (row_cell h0 1).2
      have f2 := (row_cell h0 2).2
      have f3 := (row_cell h0 3).2
      simp at i0 i1 i2 i3 z0 z1 z2 z3
      have H0 := Lib.hid h0
      clear h0 h1 v1 CV HX0 HX1
      go_wp2_with fail
      all_goals refine bodyPost_ret (results_cell_tmp rfl _ _ w.heap.size _ _ rfl (set_four H0.out _ _ _ _) Tryd.underlying66 rfl (by kernel_rfl)) rfl ?_
      all_goals exact ⟨rfl, (((HB1.out.setCell (by exact Nat.le_refl _) _).setCell (by exact Nat.le_refl _) _).setCell (by exact Nat.le_refl _) _).setCell (by exact Nat.le_refl _) _⟩
    | true =>
      rw [hv] at CV
      refine CV.out.mono ?_
      rintro e V1 ⟨rfl, v1⟩
      have h0 := heap_keep v1 HX0.out
      have h1 := heap_keep v1 HX1.out
      have HB1 : Hid (Below w.heap.size w V1) := HBX.out.trans (v1.mono HBX.out.size)
      have i0 := (row_cell h1 0).1
      have i1 := (row_cell h1 1).1
      have i2 := (row_cell h1 2).1
      have i3 := (row_cell h1 3).1
      have z0 := (row_cell h0 0).1
      have z1 := (row_cell h0 1).1
      have z2 := (row_cell h0 2).1
      have z3 := (row_cell h0 3).1
      have f0 := (row_cell h0 0).2
      have f1 := (row_cell h0 1).2
      have f2 := (row_cell h0 2).2
      have f3 := (row_cell h0 3).2
      simp at i0 i1 i2 i3 z0 z1 z2 z3
      have H0 := Lib.hid h0
      clear h0 h1 v1 CV HX0 HX1
      go_wp2_with fail
      all_goals refine bodyPost_ret (results_cell_tmp rfl _ _ w.heap.size _ _ rfl (set_four H0.out _ _ _ _) Tryd.underlying66 rfl (by kernel_rfl)) rfl ?_
      all_goals exact ⟨rfl, (((HB1.out.setCell (by exact Nat.le_refl _) _).setCell (by exact Nat.le_refl _) _).setCell (by exact Nat.le_refl _) _).setCell (by exact Nat.le_refl _) _⟩
  · have HSG : Hid (x % 524288 = s) := by rw [← HSS.out]; unfold Hid sgn19; rw [if_neg h19]
    go_enter Tryd.func52, Tryd.ntmps52
    go_wp2_with fail
    try simp only [HSG.out]
    try simp only [HXX.out]
    cases hv : validV (x / 134217728) (x / 8388608 % 16) (x / 524288 % 16) s with
    | false =>
      rw [hv] at CV
      refine CV.out.mono ?_
      rintro e V1 ⟨rfl, v1⟩
      have h0 := heap_keep v1 HX0.out
      have h1 := heap_keep v1 HX1.out
      have HB1 : Hid (Below w.heap.size w V1) := HBX.out.trans (v1.mono HBX.out.size)
      have i0 := (row_cell h1 0).1
      have i1 := (row_cell h1 1).1
      have i2 := (row_cell h1 2).1
      have i3 := (row_cell h1 3).1
      have z0 := (row_cell h0 0).1
      have z1 := (row_cell h0 1).1
      have z2 := (row_cell h0 2).1
      have z3 := (row_cell h0 3).1
      have f0 := (row_cell h0 0).2
      have f1 := (row_cell h0 1).2
      have f2 := (row_cell h0 2).2
      have f3 := (row_cell h0 3).2
      simp at i0 i1 i2 i3 z0 z1 z2 z3
      have H0 := Lib.hid h0
      clear h0 h1 v1 CV HX0 HX1
      go_wp2_with fail
      all_goals refine bodyPost_ret (results_cell_tmp rfl _ _ w.heap.size _ _ rfl (set_four H0.out _ _ _ _) Tryd.underlying66 rfl (by kernel_rfl)) rfl ?_
      all_goals exact ⟨rfl, (((HB1.out.setCell (by exact Nat.le_refl _) _).setCell (by exact Nat.le_refl _) _).setCell (by exact Nat.le_refl _) _).setCell (by exact Nat.le_refl _) _⟩
    | true =>
      rw [hv] at CV
      refine CV.out.mono ?_
      rintro e V1 ⟨rfl, v1⟩
      have h0 := heap_keep v1 HX0.out
      have h1 := heap_keep v1 HX1.out
      have HB1 : Hid (Below w.heap.size w V1) := HBX.out.trans (v1.mono HBX.out.size)
      have i0 := (row_cell h1 0).1
      have i1 := (row_cell h1 1).1
      have i2 := (row_cell h1 2).1
      have i3 := (row_cell h1 3).1
      have z0 := (row_cell h0 0).1
      have z1 := (row_cell h0 1).1
      have z2 := (row_cell h0 2).1
      have z3 := (row_cell h0 3).1
      have f0 := (row_cell h0 0).2
      have f1 := (row_cell h0 1).2
      have f2 := (row_cell h0 2).2
      have f3 := (row_cell h0 3).2
      simp at i0 i1 i2 i3 z0 z1 z2 z3
      have H0 := Lib.hid h0
      clear h0 h1 v1 CV HX0 HX1
      go_wp2_with fail
      all_goals refine bodyPost_ret (results_cell_tmp rfl _ _ w.heap.size _ _ rfl (set_four H0.out _ _ _ _) Tryd.underlying66 rfl (by kernel_rfl)) rfl ?_
      all_goals exact ⟨rfl, (((HB1.out.setCell (by exact Nat.le_refl _) _).setCell (by exact Nat.le_refl _) _).setCell (by exact Nat.le_refl _) _).setCell (by exact Nat.le_refl _) _⟩
end Go.Proofs.YthmalhakkdjilaaDoor
