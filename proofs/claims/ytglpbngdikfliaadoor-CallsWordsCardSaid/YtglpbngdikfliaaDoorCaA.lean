/-
  What a request has by its call; whether it is valid. Each statement bears its own conditions.
-/
import Derived.Test.YtglpbngdikfliaaDoorCaM
namespace Go.Proofs.YtglpbngdikfliaaDoor.Ca
open Go.RowKit Go.Proofs.YtglpbngdikfliaaDoor.F
set_option linter.unusedVariables false
set_option linter.unusedSimpArgs false
theorem results_cell_tmp {P : Program} {fn : Func} {p q : Tmp} {ty : TypeId} (h : fn.results = #[.cell p ty, .tmp q]) (tmps : Array Value) (w : World) (g : Nat) (cs : List Value) (d : TypeDesc)
    (hp : tmps.getD p undef = .pointer (some ⟨g, 0, none⟩)) (hc : w.rangeAt g 0 cs)
    (hu : P.underlying ty = some d) (hd : d.isRow = true) (hi : (P.info? ty).map (·.size) = some cs.length) :
    (results fn tmps).run P w = .ok (.tuple #[.agg cs.toArray, tmps.getD q undef]) w := by
  have hp' : tmps[p]?.getD undef = .pointer (some ⟨g, 0, none⟩) := by simpa using hp
  simp [results, h, hp', asAddr, run_loadVar_mid w g 0 ty cs d hc hu hd hi]
theorem results_cell_two {P : Program} {fn : Func} {p q s : Tmp} {ty : TypeId} (h : fn.results = #[.cell p ty, .tmp q, .tmp s]) (tmps : Array Value) (w : World) (g : Nat) (cs : List Value) (d : TypeDesc)
    (hp : tmps.getD p undef = .pointer (some ⟨g, 0, none⟩)) (hc : w.rangeAt g 0 cs)
    (hu : P.underlying ty = some d) (hd : d.isRow = true) (hi : (P.info? ty).map (·.size) = some cs.length) :
    (results fn tmps).run P w = .ok (.tuple #[.agg cs.toArray, tmps.getD q undef, tmps.getD s undef]) w := by
  have hp' : tmps[p]?.getD undef = .pointer (some ⟨g, 0, none⟩) := by simpa using hp
  simp [results, h, hp', asAddr, run_loadVar_mid w g 0 ty cs d hc hu hd hi]
theorem results_cell_one {P : Program} {fn : Func} {p : Tmp} {ty : TypeId} (h : fn.results = #[.cell p ty]) (tmps : Array Value) (w : World) (g : Nat) (cs : List Value) (d : TypeDesc)
    (hp : tmps.getD p undef = .pointer (some ⟨g, 0, none⟩)) (hc : w.rangeAt g 0 cs)
    (hu : P.underlying ty = some d) (hd : d.isRow = true) (hi : (P.info? ty).map (·.size) = some cs.length) :
    (results fn tmps).run P w = .ok (.agg cs.toArray) w := by
  have hp' : tmps[p]?.getD undef = .pointer (some ⟨g, 0, none⟩) := by simpa using hp
  simp [results, h, hp', asAddr, run_loadVar_mid w g 0 ty cs d hc hu hd hi]
theorem set_four {w : World} {g : Nat} {c0 c1 c2 c3 : Value} {t : TypeId} (h : w.heap[g]? = some (.cells #[c0, c1, c2, c3] t (0, 0))) (a b c d : Value) : ((((w.setCell ⟨g, 0, none⟩ a).setCell ⟨g, 1, none⟩ b).setCell ⟨g, 2, none⟩ c).setCell ⟨g, 3, none⟩ d).rangeAt g 0 [a, b, c, d] := by
  have h1 := set_at (set_at (set_at (set_at h 0 a) 1 b) 2 c) 3 d
  intro j v hv
  rw [Nat.zero_add, (row_cell h1 j).1]
  simpa using hv
theorem set_five {w : World} {g : Nat} {c0 c1 c2 c3 c4 : Value} {t : TypeId} (h : w.heap[g]? = some (.cells #[c0, c1, c2, c3, c4] t (0, 0))) (a b c d e : Value) : (((((w.setCell ⟨g, 0, none⟩ a).setCell ⟨g, 1, none⟩ b).setCell ⟨g, 2, none⟩ c).setCell ⟨g, 3, none⟩ d).setCell ⟨g, 4, none⟩ e).rangeAt g 0 [a, b, c, d, e] := by
  have h1 := set_at (set_at (set_at (set_at (set_at h 0 a) 1 b) 2 c) 3 d) 4 e
  intro j v hv
  rw [Nat.zero_add, (row_cell h1 j).1]
  simpa using hv
def ownV (q : Rq) : Rq := ⟨q.call, if oB q.call then q.obj else 0, if aB q.call then q.at_ else 0, if wB q.call then q.wds else 0, if tB q.call then q.tks else 0⟩
def fitsV (q : Rq) : Bool := decide (0 ≤ q.obj ∧ q.obj ≤ 15 ∧ 0 ≤ q.wds ∧ q.wds ≤ 32 ∧ -1 ≤ q.tks ∧ q.tks ≤ 4294967294 ∧ (q.call = 26 → 1 ≤ q.at_ ∧ q.at_ ≤ 27))
set_option maxRecDepth 100000 in
set_option maxHeartbeats 8000000 in
theorem own_any (q : Rq) (hn : is q.call = true) (w : World) (hL : Laid w) : Calls Tryd.prog 24 #[q.val] w fun e w' => e = .returned (ownV q).val ∧ Below w.heap.size w w' := by
  obtain ⟨n, o, a, ws, t⟩ := q
  show Calls Tryd.prog 24 #[.agg #[.int .i64 n, .int .i64 o, .int .u32 a, .int .i64 ws, .int .i64 t]] w _
  replace hn : is n = true := hn
  obtain ⟨X, hX⟩ : ∃ X, w.heap.size = X := ⟨_, rfl⟩
  simp only [hX]
  go_enter Tryd.func24, Tryd.ntmps24
  go_upto_region 2 with fail
  obtain ⟨W0, hW0⟩ : ∃ W0, ((w.alloc (.cells #[.int .i64 n, .int .i64 o, .int .u32 a, .int .i64 ws, .int .i64 t] 25)).alloc (.cells #[.int .i64 0, .int .i64 0, .int .u32 0, .int .i64 0, .int .i64 0] 25)).alloc (.cells #[.int .i64 n, .int .i64 0, .int .u32 0, .int .i64 0, .int .i64 0] 25) = W0 := ⟨_, rfl⟩
  rw [hW0]
  have B0 : Hid (Below X w W0) := by rw [← hW0, ← hX]; exact ((((Below.refl _ _).alloc (Nat.le_refl _) _).alloc (by simp) _).alloc (by simp; omega) _)
  have HX0 : Hid (W0.heap[X]? = some (.cells #[.int .i64 n, .int .i64 o, .int .u32 a, .int .i64 ws, .int .i64 t] 25 (0, 0))) := by
    rw [← hW0, ← hX]; exact (((Below.refl _ _).alloc (Nat.le_refl _) _).alloc (by simp) _).block _ (by simp) |>.trans (heap_alloc_new _ _)
  have HY0 : Hid (W0.heap[X + 1]? = some (.cells #[.int .i64 0, .int .i64 0, .int .u32 0, .int .i64 0, .int .i64 0] 25 (0, 0))) := by
    rw [← hW0, ← hX]; exact (((Below.refl _ _).alloc (Nat.le_refl _) _).block _ (by simp)).trans (by have := heap_alloc_new (w.alloc (.cells #[.int .i64 n, .int .i64 o, .int .u32 a, .int .i64 ws, .int .i64 t] 25)) (.cells #[.int .i64 0, .int .i64 0, .int .u32 0, .int .i64 0, .int .i64 0] 25); simpa using this)
  have HZ0 : Hid (W0.heap[X + 1 + 1]? = some (.cells #[.int .i64 n, .int .i64 0, .int .u32 0, .int .i64 0, .int .i64 0] 25 (0, 0))) := by
    rw [← hW0, ← hX]; have := heap_alloc_new ((w.alloc (.cells #[.int .i64 n, .int .i64 o, .int .u32 a, .int .i64 ws, .int .i64 t] 25)).alloc (.cells #[.int .i64 0, .int .i64 0, .int .u32 0, .int .i64 0, .int .i64 0] 25)) (.cells #[.int .i64 n, .int .i64 0, .int .u32 0, .int .i64 0, .int .i64 0] 25); unfold Hid; simpa using this
  have S0 : Hid (X + 3 ≤ W0.heap.size) := by rw [← hW0, ← hX]; unfold Hid; simp
  have HL0 : Hid (Laid W0) := hL.below (by rw [hX]; exact B0.out)
  clear hW0
  have x00 : W0.cell? ⟨X, 0, none⟩ = some (.int .i64 n) := by rw [(row_cell HX0.out 0).1]; rfl
  have x01 : W0.cell? ⟨X, 1, none⟩ = some (.int .i64 o) := by rw [(row_cell HX0.out 1).1]; rfl
  have x02 : W0.cell? ⟨X, 2, none⟩ = some (.int .u32 a) := by rw [(row_cell HX0.out 2).1]; rfl
  have x03 : W0.cell? ⟨X, 3, none⟩ = some (.int .i64 ws) := by rw [(row_cell HX0.out 3).1]; rfl
  have x04 : W0.cell? ⟨X, 4, none⟩ = some (.int .i64 t) := by rw [(row_cell HX0.out 4).1]; rfl
  go_wp2_with fail
  refine (has_any n o a ws t 1 hn (.inl rfl) _ HL0.out).mono ?_
  rintro e V0 ⟨rfl, hb⟩
  have hX0c : Hid (V0.heap[X]? = _) := (hb.block X (by have := S0.out; omega)).trans HX0.out
  have hY0c : Hid (V0.heap[X + 1]? = _) := (hb.block (X + 1) (by have := S0.out; omega)).trans HY0.out
  have hZ0c : Hid (V0.heap[X + 1 + 1]? = _) := (hb.block (X + 1 + 1) (by have := S0.out; omega)).trans HZ0.out
  have hL0c : Hid (Laid V0) := HL0.out.below hb
  have hS0c : Hid (X + 3 ≤ V0.heap.size) := Nat.le_trans S0.out hb.size
  have hB0c : Hid (Below X w V0) := B0.out.trans (hb.mono (by have := S0.out; omega))
  clear hb HX0 HY0 HZ0 HL0 B0 S0 x00 x01 x02 x03 x04
  rw [show hasV n 1 = oB n from rfl]
  rcases Bool.eq_false_or_eq_true (oB n) with hB0 | hB0
  · rw [hB0]
    have x00 : V0.cell? ⟨X, 0, none⟩ = some (.int .i64 n) := by rw [(row_cell hX0c.out 0).1]; rfl
    have x01 : V0.cell? ⟨X, 1, none⟩ = some (.int .i64 o) := by rw [(row_cell hX0c.out 1).1]; rfl
    have x02 : V0.cell? ⟨X, 2, none⟩ = some (.int .u32 a) := by rw [(row_cell hX0c.out 2).1]; rfl
    have x03 : V0.cell? ⟨X, 3, none⟩ = some (.int .i64 ws) := by rw [(row_cell hX0c.out 3).1]; rfl
    have x04 : V0.cell? ⟨X, 4, none⟩ = some (.int .i64 t) := by rw [(row_cell hX0c.out 4).1]; rfl
    have z00 : V0.cell? ⟨X + 1 + 1, 0, none⟩ = some (.int .i64 n) := by rw [(row_cell hZ0c.out 0).1]; rfl
    have z0z0 : V0.frozen? ⟨X + 1 + 1, 0, none⟩ = false := (row_cell hZ0c.out 0).2
    have z01 : V0.cell? ⟨X + 1 + 1, 1, none⟩ = some (.int .i64 0) := by rw [(row_cell hZ0c.out 1).1]; rfl
    have z0z1 : V0.frozen? ⟨X + 1 + 1, 1, none⟩ = false := (row_cell hZ0c.out 1).2
    have z02 : V0.cell? ⟨X + 1 + 1, 2, none⟩ = some (.int .u32 0) := by rw [(row_cell hZ0c.out 2).1]; rfl
    have z0z2 : V0.frozen? ⟨X + 1 + 1, 2, none⟩ = false := (row_cell hZ0c.out 2).2
    have z03 : V0.cell? ⟨X + 1 + 1, 3, none⟩ = some (.int .i64 0) := by rw [(row_cell hZ0c.out 3).1]; rfl
    have z0z3 : V0.frozen? ⟨X + 1 + 1, 3, none⟩ = false := (row_cell hZ0c.out 3).2
    have z04 : V0.cell? ⟨X + 1 + 1, 4, none⟩ = some (.int .i64 0) := by rw [(row_cell hZ0c.out 4).1]; rfl
    have z0z4 : V0.frozen? ⟨X + 1 + 1, 4, none⟩ = false := (row_cell hZ0c.out 4).2
    go_upto_region 4 with fail
    obtain ⟨W01, hW01⟩ : ∃ W, V0.setCell ⟨X + 1 + 1, 1, none⟩ (.int .i64 o) = W := ⟨_, rfl⟩
    rw [hW01]
    have HX01 : Hid (W01.heap[X]? = some (.cells #[.int .i64 n, .int .i64 o, .int .u32 a, .int .i64 ws, .int .i64 t] 25 (0, 0))) := by rw [← hW01]; exact (set_far _ _ (by omega)).trans hX0c.out
    have HY01 : Hid (W01.heap[X + 1]? = some (.cells #[.int .i64 0, .int .i64 0, .int .u32 0, .int .i64 0, .int .i64 0] 25 (0, 0))) := by rw [← hW01]; exact (set_far _ _ (by omega)).trans hY0c.out
    have HZ01 : Hid (W01.heap[X + 1 + 1]? = some (.cells #[.int .i64 n, .int .i64 o, .int .u32 0, .int .i64 0, .int .i64 0] 25 (0, 0))) := by rw [← hW01]; exact set_at hZ0c.out 1 _
    have B01 : Hid (Below X w W01) := by rw [← hW01]; exact hB0c.out.setCell (by show X ≤ X + 1 + 1; omega) _
    have HL01 : Hid (Laid W01) := hL.below (by rw [hX]; exact B01.out)
    have S01 : Hid (X + 3 ≤ W01.heap.size) := by rw [← hW01]; simpa [Hid] using hS0c.out
    clear hW01 hX0c hY0c hZ0c hL0c hS0c hB0c x00 z00 z0z0 x01 z01 z0z1 x02 z02 z0z2 x03 z03 z0z3 x04 z04 z0z4
    have x010 : W01.cell? ⟨X, 0, none⟩ = some (.int .i64 n) := by rw [(row_cell HX01.out 0).1]; rfl
    have x011 : W01.cell? ⟨X, 1, none⟩ = some (.int .i64 o) := by rw [(row_cell HX01.out 1).1]; rfl
    have x012 : W01.cell? ⟨X, 2, none⟩ = some (.int .u32 a) := by rw [(row_cell HX01.out 2).1]; rfl
    have x013 : W01.cell? ⟨X, 3, none⟩ = some (.int .i64 ws) := by rw [(row_cell HX01.out 3).1]; rfl
    have x014 : W01.cell? ⟨X, 4, none⟩ = some (.int .i64 t) := by rw [(row_cell HX01.out 4).1]; rfl
    go_wp2_with fail
    refine (has_any n o a ws t 2 hn (.inr (.inl rfl)) _ HL01.out).mono ?_
    rintro e V01 ⟨rfl, hb⟩
    have hX01c : Hid (V01.heap[X]? = _) := (hb.block X (by have := S01.out; omega)).trans HX01.out
    have hY01c : Hid (V01.heap[X + 1]? = _) := (hb.block (X + 1) (by have := S01.out; omega)).trans HY01.out
    have hZ01c : Hid (V01.heap[X + 1 + 1]? = _) := (hb.block (X + 1 + 1) (by have := S01.out; omega)).trans HZ01.out
    have hL01c : Hid (Laid V01) := HL01.out.below hb
    have hS01c : Hid (X + 3 ≤ V01.heap.size) := Nat.le_trans S01.out hb.size
    have hB01c : Hid (Below X w V01) := B01.out.trans (hb.mono (by have := S01.out; omega))
    clear hb HX01 HY01 HZ01 HL01 B01 S01 x010 x011 x012 x013 x014
    rw [show hasV n 2 = aB n from rfl]
    rcases Bool.eq_false_or_eq_true (aB n) with hB1 | hB1
    · rw [hB1]
      have x010 : V01.cell? ⟨X, 0, none⟩ = some (.int .i64 n) := by rw [(row_cell hX01c.out 0).1]; rfl
      have x011 : V01.cell? ⟨X, 1, none⟩ = some (.int .i64 o) := by rw [(row_cell hX01c.out 1).1]; rfl
      have x012 : V01.cell? ⟨X, 2, none⟩ = some (.int .u32 a) := by rw [(row_cell hX01c.out 2).1]; rfl
      have x013 : V01.cell? ⟨X, 3, none⟩ = some (.int .i64 ws) := by rw [(row_cell hX01c.out 3).1]; rfl
      have x014 : V01.cell? ⟨X, 4, none⟩ = some (.int .i64 t) := by rw [(row_cell hX01c.out 4).1]; rfl
      have z010 : V01.cell? ⟨X + 1 + 1, 0, none⟩ = some (.int .i64 n) := by rw [(row_cell hZ01c.out 0).1]; rfl
      have z01z0 : V01.frozen? ⟨X + 1 + 1, 0, none⟩ = false := (row_cell hZ01c.out 0).2
      have z011 : V01.cell? ⟨X + 1 + 1, 1, none⟩ = some (.int .i64 o) := by rw [(row_cell hZ01c.out 1).1]; rfl
      have z01z1 : V01.frozen? ⟨X + 1 + 1, 1, none⟩ = false := (row_cell hZ01c.out 1).2
      have z012 : V01.cell? ⟨X + 1 + 1, 2, none⟩ = some (.int .u32 0) := by rw [(row_cell hZ01c.out 2).1]; rfl
      have z01z2 : V01.frozen? ⟨X + 1 + 1, 2, none⟩ = false := (row_cell hZ01c.out 2).2
      have z013 : V01.cell? ⟨X + 1 + 1, 3, none⟩ = some (.int .i64 0) := by rw [(row_cell hZ01c.out 3).1]; rfl
      have z01z3 : V01.frozen? ⟨X + 1 + 1, 3, none⟩ = false := (row_cell hZ01c.out 3).2
      have z014 : V01.cell? ⟨X + 1 + 1, 4, none⟩ = some (.int .i64 0) := by rw [(row_cell hZ01c.out 4).1]; rfl
      have z01z4 : V01.frozen? ⟨X + 1 + 1, 4, none⟩ = false := (row_cell hZ01c.out 4).2
      go_upto_region 6 with fail
      obtain ⟨W011, hW011⟩ : ∃ W, V01.setCell ⟨X + 1 + 1, 2, none⟩ (.int .u32 a) = W := ⟨_, rfl⟩
      rw [hW011]
      have HX011 : Hid (W011.heap[X]? = some (.cells #[.int .i64 n, .int .i64 o, .int .u32 a, .int .i64 ws, .int .i64 t] 25 (0, 0))) := by rw [← hW011]; exact (set_far _ _ (by omega)).trans hX01c.out
      have HY011 : Hid (W011.heap[X + 1]? = some (.cells #[.int .i64 0, .int .i64 0, .int .u32 0, .int .i64 0, .int .i64 0] 25 (0, 0))) := by rw [← hW011]; exact (set_far _ _ (by omega)).trans hY01c.out
      have HZ011 : Hid (W011.heap[X + 1 + 1]? = some (.cells #[.int .i64 n, .int .i64 o, .int .u32 a, .int .i64 0, .int .i64 0] 25 (0, 0))) := by rw [← hW011]; exact set_at hZ01c.out 2 _
      have B011 : Hid (Below X w W011) := by rw [← hW011]; exact hB01c.out.setCell (by show X ≤ X + 1 + 1; omega) _
      have HL011 : Hid (Laid W011) := hL.below (by rw [hX]; exact B011.out)
      have S011 : Hid (X + 3 ≤ W011.heap.size) := by rw [← hW011]; simpa [Hid] using hS01c.out
      clear hW011 hX01c hY01c hZ01c hL01c hS01c hB01c x010 z010 z01z0 x011 z011 z01z1 x012 z012 z01z2 x013 z013 z01z3 x014 z014 z01z4
      have x0110 : W011.cell? ⟨X, 0, none⟩ = some (.int .i64 n) := by rw [(row_cell HX011.out 0).1]; rfl
      have x0111 : W011.cell? ⟨X, 1, none⟩ = some (.int .i64 o) := by rw [(row_cell HX011.out 1).1]; rfl
      have x0112 : W011.cell? ⟨X, 2, none⟩ = some (.int .u32 a) := by rw [(row_cell HX011.out 2).1]; rfl
      have x0113 : W011.cell? ⟨X, 3, none⟩ = some (.int .i64 ws) := by rw [(row_cell HX011.out 3).1]; rfl
      have x0114 : W011.cell? ⟨X, 4, none⟩ = some (.int .i64 t) := by rw [(row_cell HX011.out 4).1]; rfl
      go_wp2_with fail
      refine (has_any n o a ws t 4 hn (.inr (.inr (.inl rfl))) _ HL011.out).mono ?_
      rintro e V011 ⟨rfl, hb⟩
      have hX011c : Hid (V011.heap[X]? = _) := (hb.block X (by have := S011.out; omega)).trans HX011.out
      have hY011c : Hid (V011.heap[X + 1]? = _) := (hb.block (X + 1) (by have := S011.out; omega)).trans HY011.out
      have hZ011c : Hid (V011.heap[X + 1 + 1]? = _) := (hb.block (X + 1 + 1) (by have := S011.out; omega)).trans HZ011.out
      have hL011c : Hid (Laid V011) := HL011.out.below hb
      have hS011c : Hid (X + 3 ≤ V011.heap.size) := Nat.le_trans S011.out hb.size
      have hB011c : Hid (Below X w V011) := B011.out.trans (hb.mono (by have := S011.out; omega))
      clear hb HX011 HY011 HZ011 HL011 B011 S011 x0110 x0111 x0112 x0113 x0114
      rw [show hasV n 4 = wB n from rfl]
      rcases Bool.eq_false_or_eq_true (wB n) with hB2 | hB2
      · rw [hB2]
        have x0110 : V011.cell? ⟨X, 0, none⟩ = some (.int .i64 n) := by rw [(row_cell hX011c.out 0).1]; rfl
        have x0111 : V011.cell? ⟨X, 1, none⟩ = some (.int .i64 o) := by rw [(row_cell hX011c.out 1).1]; rfl
        have x0112 : V011.cell? ⟨X, 2, none⟩ = some (.int .u32 a) := by rw [(row_cell hX011c.out 2).1]; rfl
        have x0113 : V011.cell? ⟨X, 3, none⟩ = some (.int .i64 ws) := by rw [(row_cell hX011c.out 3).1]; rfl
        have x0114 : V011.cell? ⟨X, 4, none⟩ = some (.int .i64 t) := by rw [(row_cell hX011c.out 4).1]; rfl
        have z0110 : V011.cell? ⟨X + 1 + 1, 0, none⟩ = some (.int .i64 n) := by rw [(row_cell hZ011c.out 0).1]; rfl
        have z011z0 : V011.frozen? ⟨X + 1 + 1, 0, none⟩ = false := (row_cell hZ011c.out 0).2
        have z0111 : V011.cell? ⟨X + 1 + 1, 1, none⟩ = some (.int .i64 o) := by rw [(row_cell hZ011c.out 1).1]; rfl
        have z011z1 : V011.frozen? ⟨X + 1 + 1, 1, none⟩ = false := (row_cell hZ011c.out 1).2
        have z0112 : V011.cell? ⟨X + 1 + 1, 2, none⟩ = some (.int .u32 a) := by rw [(row_cell hZ011c.out 2).1]; rfl
        have z011z2 : V011.frozen? ⟨X + 1 + 1, 2, none⟩ = false := (row_cell hZ011c.out 2).2
        have z0113 : V011.cell? ⟨X + 1 + 1, 3, none⟩ = some (.int .i64 0) := by rw [(row_cell hZ011c.out 3).1]; rfl
        have z011z3 : V011.frozen? ⟨X + 1 + 1, 3, none⟩ = false := (row_cell hZ011c.out 3).2
        have z0114 : V011.cell? ⟨X + 1 + 1, 4, none⟩ = some (.int .i64 0) := by rw [(row_cell hZ011c.out 4).1]; rfl
        have z011z4 : V011.frozen? ⟨X + 1 + 1, 4, none⟩ = false := (row_cell hZ011c.out 4).2
        go_upto_region 8 with fail
        obtain ⟨W0111, hW0111⟩ : ∃ W, V011.setCell ⟨X + 1 + 1, 3, none⟩ (.int .i64 ws) = W := ⟨_, rfl⟩
        rw [hW0111]
        have HX0111 : Hid (W0111.heap[X]? = some (.cells #[.int .i64 n, .int .i64 o, .int .u32 a, .int .i64 ws, .int .i64 t] 25 (0, 0))) := by rw [← hW0111]; exact (set_far _ _ (by omega)).trans hX011c.out
        have HY0111 : Hid (W0111.heap[X + 1]? = some (.cells #[.int .i64 0, .int .i64 0, .int .u32 0, .int .i64 0, .int .i64 0] 25 (0, 0))) := by rw [← hW0111]; exact (set_far _ _ (by omega)).trans hY011c.out
        have HZ0111 : Hid (W0111.heap[X + 1 + 1]? = some (.cells #[.int .i64 n, .int .i64 o, .int .u32 a, .int .i64 ws, .int .i64 0] 25 (0, 0))) := by rw [← hW0111]; exact set_at hZ011c.out 3 _
        have B0111 : Hid (Below X w W0111) := by rw [← hW0111]; exact hB011c.out.setCell (by show X ≤ X + 1 + 1; omega) _
        have HL0111 : Hid (Laid W0111) := hL.below (by rw [hX]; exact B0111.out)
        have S0111 : Hid (X + 3 ≤ W0111.heap.size) := by rw [← hW0111]; simpa [Hid] using hS011c.out
        clear hW0111 hX011c hY011c hZ011c hL011c hS011c hB011c x0110 z0110 z011z0 x0111 z0111 z011z1 x0112 z0112 z011z2 x0113 z0113 z011z3 x0114 z0114 z011z4
        have x01110 : W0111.cell? ⟨X, 0, none⟩ = some (.int .i64 n) := by rw [(row_cell HX0111.out 0).1]; rfl
        have x01111 : W0111.cell? ⟨X, 1, none⟩ = some (.int .i64 o) := by rw [(row_cell HX0111.out 1).1]; rfl
        have x01112 : W0111.cell? ⟨X, 2, none⟩ = some (.int .u32 a) := by rw [(row_cell HX0111.out 2).1]; rfl
        have x01113 : W0111.cell? ⟨X, 3, none⟩ = some (.int .i64 ws) := by rw [(row_cell HX0111.out 3).1]; rfl
        have x01114 : W0111.cell? ⟨X, 4, none⟩ = some (.int .i64 t) := by rw [(row_cell HX0111.out 4).1]; rfl
        go_wp2_with fail
        refine (has_any n o a ws t 8 hn (.inr (.inr (.inr rfl))) _ HL0111.out).mono ?_
        rintro e V0111 ⟨rfl, hb⟩
        have hX0111c : Hid (V0111.heap[X]? = _) := (hb.block X (by have := S0111.out; omega)).trans HX0111.out
        have hY0111c : Hid (V0111.heap[X + 1]? = _) := (hb.block (X + 1) (by have := S0111.out; omega)).trans HY0111.out
        have hZ0111c : Hid (V0111.heap[X + 1 + 1]? = _) := (hb.block (X + 1 + 1) (by have := S0111.out; omega)).trans HZ0111.out
        have hL0111c : Hid (Laid V0111) := HL0111.out.below hb
        have hS0111c : Hid (X + 3 ≤ V0111.heap.size) := Nat.le_trans S0111.out hb.size
        have hB0111c : Hid (Below X w V0111) := B0111.out.trans (hb.mono (by have := S0111.out; omega))
        clear hb HX0111 HY0111 HZ0111 HL0111 B0111 S0111 x01110 x01111 x01112 x01113 x01114
        rw [show hasV n 8 = tB n from rfl]
        rcases Bool.eq_false_or_eq_true (tB n) with hB3 | hB3
        · rw [hB3]
          have x01110 : V0111.cell? ⟨X, 0, none⟩ = some (.int .i64 n) := by rw [(row_cell hX0111c.out 0).1]; rfl
          have x01111 : V0111.cell? ⟨X, 1, none⟩ = some (.int .i64 o) := by rw [(row_cell hX0111c.out 1).1]; rfl
          have x01112 : V0111.cell? ⟨X, 2, none⟩ = some (.int .u32 a) := by rw [(row_cell hX0111c.out 2).1]; rfl
          have x01113 : V0111.cell? ⟨X, 3, none⟩ = some (.int .i64 ws) := by rw [(row_cell hX0111c.out 3).1]; rfl
          have x01114 : V0111.cell? ⟨X, 4, none⟩ = some (.int .i64 t) := by rw [(row_cell hX0111c.out 4).1]; rfl
          have z01110 : V0111.cell? ⟨X + 1 + 1, 0, none⟩ = some (.int .i64 n) := by rw [(row_cell hZ0111c.out 0).1]; rfl
          have z0111z0 : V0111.frozen? ⟨X + 1 + 1, 0, none⟩ = false := (row_cell hZ0111c.out 0).2
          have z01111 : V0111.cell? ⟨X + 1 + 1, 1, none⟩ = some (.int .i64 o) := by rw [(row_cell hZ0111c.out 1).1]; rfl
          have z0111z1 : V0111.frozen? ⟨X + 1 + 1, 1, none⟩ = false := (row_cell hZ0111c.out 1).2
          have z01112 : V0111.cell? ⟨X + 1 + 1, 2, none⟩ = some (.int .u32 a) := by rw [(row_cell hZ0111c.out 2).1]; rfl
          have z0111z2 : V0111.frozen? ⟨X + 1 + 1, 2, none⟩ = false := (row_cell hZ0111c.out 2).2
          have z01113 : V0111.cell? ⟨X + 1 + 1, 3, none⟩ = some (.int .i64 ws) := by rw [(row_cell hZ0111c.out 3).1]; rfl
          have z0111z3 : V0111.frozen? ⟨X + 1 + 1, 3, none⟩ = false := (row_cell hZ0111c.out 3).2
          have z01114 : V0111.cell? ⟨X + 1 + 1, 4, none⟩ = some (.int .i64 0) := by rw [(row_cell hZ0111c.out 4).1]; rfl
          have z0111z4 : V0111.frozen? ⟨X + 1 + 1, 4, none⟩ = false := (row_cell hZ0111c.out 4).2
          go_upto_region 10 with fail
          obtain ⟨W01111, hW01111⟩ : ∃ W, V0111.setCell ⟨X + 1 + 1, 4, none⟩ (.int .i64 t) = W := ⟨_, rfl⟩
          rw [hW01111]
          have HX01111 : Hid (W01111.heap[X]? = some (.cells #[.int .i64 n, .int .i64 o, .int .u32 a, .int .i64 ws, .int .i64 t] 25 (0, 0))) := by rw [← hW01111]; exact (set_far _ _ (by omega)).trans hX0111c.out
          have HY01111 : Hid (W01111.heap[X + 1]? = some (.cells #[.int .i64 0, .int .i64 0, .int .u32 0, .int .i64 0, .int .i64 0] 25 (0, 0))) := by rw [← hW01111]; exact (set_far _ _ (by omega)).trans hY0111c.out
          have HZ01111 : Hid (W01111.heap[X + 1 + 1]? = some (.cells #[.int .i64 n, .int .i64 o, .int .u32 a, .int .i64 ws, .int .i64 t] 25 (0, 0))) := by rw [← hW01111]; exact set_at hZ0111c.out 4 _
          have B01111 : Hid (Below X w W01111) := by rw [← hW01111]; exact hB0111c.out.setCell (by show X ≤ X + 1 + 1; omega) _
          have HL01111 : Hid (Laid W01111) := hL.below (by rw [hX]; exact B01111.out)
          have S01111 : Hid (X + 3 ≤ W01111.heap.size) := by rw [← hW01111]; simpa [Hid] using hS0111c.out
          clear hW01111 hX0111c hY0111c hZ0111c hL0111c hS0111c hB0111c x01110 z01110 z0111z0 x01111 z01111 z0111z1 x01112 z01112 z0111z2 x01113 z01113 z0111z3 x01114 z01114 z0111z4
          have z011110 : W01111.cell? ⟨X + 1 + 1, 0, none⟩ = some (.int .i64 n) := by rw [(row_cell HZ01111.out 0).1]; rfl
          have z011111 : W01111.cell? ⟨X + 1 + 1, 1, none⟩ = some (.int .i64 o) := by rw [(row_cell HZ01111.out 1).1]; rfl
          have z011112 : W01111.cell? ⟨X + 1 + 1, 2, none⟩ = some (.int .u32 a) := by rw [(row_cell HZ01111.out 2).1]; rfl
          have z011113 : W01111.cell? ⟨X + 1 + 1, 3, none⟩ = some (.int .i64 ws) := by rw [(row_cell HZ01111.out 3).1]; rfl
          have z011114 : W01111.cell? ⟨X + 1 + 1, 4, none⟩ = some (.int .i64 t) := by rw [(row_cell HZ01111.out 4).1]; rfl
          have y011110 : W01111.cell? ⟨X + 1, 0, none⟩ = some (.int .i64 0) := by rw [(row_cell HY01111.out 0).1]; rfl
          have y01111z0 : W01111.frozen? ⟨X + 1, 0, none⟩ = false := (row_cell HY01111.out 0).2
          have y011111 : W01111.cell? ⟨X + 1, 1, none⟩ = some (.int .i64 0) := by rw [(row_cell HY01111.out 1).1]; rfl
          have y01111z1 : W01111.frozen? ⟨X + 1, 1, none⟩ = false := (row_cell HY01111.out 1).2
          have y011112 : W01111.cell? ⟨X + 1, 2, none⟩ = some (.int .u32 0) := by rw [(row_cell HY01111.out 2).1]; rfl
          have y01111z2 : W01111.frozen? ⟨X + 1, 2, none⟩ = false := (row_cell HY01111.out 2).2
          have y011113 : W01111.cell? ⟨X + 1, 3, none⟩ = some (.int .i64 0) := by rw [(row_cell HY01111.out 3).1]; rfl
          have y01111z3 : W01111.frozen? ⟨X + 1, 3, none⟩ = false := (row_cell HY01111.out 3).2
          have y011114 : W01111.cell? ⟨X + 1, 4, none⟩ = some (.int .i64 0) := by rw [(row_cell HY01111.out 4).1]; rfl
          have y01111z4 : W01111.frozen? ⟨X + 1, 4, none⟩ = false := (row_cell HY01111.out 4).2
          go_wp2_with fail
          refine bodyPost_ret (results_cell_one rfl _ _ (X + 1) _ _ rfl (set_five HY01111.out _ _ _ _ _) Tryd.underlying25 rfl (by kernel_rfl)) rfl ?_
          exact ⟨by unfold ownV Rq.val; simp only [hB0, hB1, hB2, hB3, if_true, if_false, Bool.false_eq_true], ((((B01111.out.setCell (by exact Nat.le_succ _) _).setCell (by exact Nat.le_succ _) _).setCell (by exact Nat.le_succ _) _).setCell (by exact Nat.le_succ _) _).setCell (by exact Nat.le_succ _) _⟩
        · rw [hB3]
          go_upto_region 10 with fail
          obtain ⟨W01110, hW01110⟩ : ∃ W, W = V0111 := ⟨_, rfl⟩
          subst hW01110
          have HX01110 := hX0111c
          have HY01110 := hY0111c
          have HZ01110 := hZ0111c
          have HL01110 := hL0111c
          have S01110 := hS0111c
          have B01110 := hB0111c
          clear hX0111c hY0111c hZ0111c hL0111c hS0111c hB0111c
          have z011100 : W01110.cell? ⟨X + 1 + 1, 0, none⟩ = some (.int .i64 n) := by rw [(row_cell HZ01110.out 0).1]; rfl
          have z011101 : W01110.cell? ⟨X + 1 + 1, 1, none⟩ = some (.int .i64 o) := by rw [(row_cell HZ01110.out 1).1]; rfl
          have z011102 : W01110.cell? ⟨X + 1 + 1, 2, none⟩ = some (.int .u32 a) := by rw [(row_cell HZ01110.out 2).1]; rfl
          have z011103 : W01110.cell? ⟨X + 1 + 1, 3, none⟩ = some (.int .i64 ws) := by rw [(row_cell HZ01110.out 3).1]; rfl
          have z011104 : W01110.cell? ⟨X + 1 + 1, 4, none⟩ = some (.int .i64 0) := by rw [(row_cell HZ01110.out 4).1]; rfl
          have y011100 : W01110.cell? ⟨X + 1, 0, none⟩ = some (.int .i64 0) := by rw [(row_cell HY01110.out 0).1]; rfl
          have y01110z0 : W01110.frozen? ⟨X + 1, 0, none⟩ = false := (row_cell HY01110.out 0).2
          have y011101 : W01110.cell? ⟨X + 1, 1, none⟩ = some (.int .i64 0) := by rw [(row_cell HY01110.out 1).1]; rfl
          have y01110z1 : W01110.frozen? ⟨X + 1, 1, none⟩ = false := (row_cell HY01110.out 1).2
          have y011102 : W01110.cell? ⟨X + 1, 2, none⟩ = some (.int .u32 0) := by rw [(row_cell HY01110.out 2).1]; rfl
          have y01110z2 : W01110.frozen? ⟨X + 1, 2, none⟩ = false := (row_cell HY01110.out 2).2
          have y011103 : W01110.cell? ⟨X + 1, 3, none⟩ = some (.int .i64 0) := by rw [(row_cell HY01110.out 3).1]; rfl
          have y01110z3 : W01110.frozen? ⟨X + 1, 3, none⟩ = false := (row_cell HY01110.out 3).2
          have y011104 : W01110.cell? ⟨X + 1, 4, none⟩ = some (.int .i64 0) := by rw [(row_cell HY01110.out 4).1]; rfl
          have y01110z4 : W01110.frozen? ⟨X + 1, 4, none⟩ = false := (row_cell HY01110.out 4).2
          go_wp2_with fail
          refine bodyPost_ret (results_cell_one rfl _ _ (X + 1) _ _ rfl (set_five HY01110.out _ _ _ _ _) Tryd.underlying25 rfl (by kernel_rfl)) rfl ?_
          exact ⟨by unfold ownV Rq.val; simp only [hB0, hB1, hB2, hB3, if_true, if_false, Bool.false_eq_true], ((((B01110.out.setCell (by exact Nat.le_succ _) _).setCell (by exact Nat.le_succ _) _).setCell (by exact Nat.le_succ _) _).setCell (by exact Nat.le_succ _) _).setCell (by exact Nat.le_succ _) _⟩
      · rw [hB2]
        go_upto_region 8 with fail
        obtain ⟨W0110, hW0110⟩ : ∃ W, W = V011 := ⟨_, rfl⟩
        subst hW0110
        have HX0110 := hX011c
        have HY0110 := hY011c
        have HZ0110 := hZ011c
        have HL0110 := hL011c
        have S0110 := hS011c
        have B0110 := hB011c
        clear hX011c hY011c hZ011c hL011c hS011c hB011c
        have x01100 : W0110.cell? ⟨X, 0, none⟩ = some (.int .i64 n) := by rw [(row_cell HX0110.out 0).1]; rfl
        have x01101 : W0110.cell? ⟨X, 1, none⟩ = some (.int .i64 o) := by rw [(row_cell HX0110.out 1).1]; rfl
        have x01102 : W0110.cell? ⟨X, 2, none⟩ = some (.int .u32 a) := by rw [(row_cell HX0110.out 2).1]; rfl
        have x01103 : W0110.cell? ⟨X, 3, none⟩ = some (.int .i64 ws) := by rw [(row_cell HX0110.out 3).1]; rfl
        have x01104 : W0110.cell? ⟨X, 4, none⟩ = some (.int .i64 t) := by rw [(row_cell HX0110.out 4).1]; rfl
        go_wp2_with fail
        refine (has_any n o a ws t 8 hn (.inr (.inr (.inr rfl))) _ HL0110.out).mono ?_
        rintro e V0110 ⟨rfl, hb⟩
        have hX0110c : Hid (V0110.heap[X]? = _) := (hb.block X (by have := S0110.out; omega)).trans HX0110.out
        have hY0110c : Hid (V0110.heap[X + 1]? = _) := (hb.block (X + 1) (by have := S0110.out; omega)).trans HY0110.out
        have hZ0110c : Hid (V0110.heap[X + 1 + 1]? = _) := (hb.block (X + 1 + 1) (by have := S0110.out; omega)).trans HZ0110.out
        have hL0110c : Hid (Laid V0110) := HL0110.out.below hb
        have hS0110c : Hid (X + 3 ≤ V0110.heap.size) := Nat.le_trans S0110.out hb.size
        have hB0110c : Hid (Below X w V0110) := B0110.out.trans (hb.mono (by have := S0110.out; omega))
        clear hb HX0110 HY0110 HZ0110 HL0110 B0110 S0110 x01100 x01101 x01102 x01103 x01104
        rw [show hasV n 8 = tB n from rfl]
        rcases Bool.eq_false_or_eq_true (tB n) with hB3 | hB3
        · rw [hB3]
          have x01100 : V0110.cell? ⟨X, 0, none⟩ = some (.int .i64 n) := by rw [(row_cell hX0110c.out 0).1]; rfl
          have x01101 : V0110.cell? ⟨X, 1, none⟩ = some (.int .i64 o) := by rw [(row_cell hX0110c.out 1).1]; rfl
          have x01102 : V0110.cell? ⟨X, 2, none⟩ = some (.int .u32 a) := by rw [(row_cell hX0110c.out 2).1]; rfl
          have x01103 : V0110.cell? ⟨X, 3, none⟩ = some (.int .i64 ws) := by rw [(row_cell hX0110c.out 3).1]; rfl
          have x01104 : V0110.cell? ⟨X, 4, none⟩ = some (.int .i64 t) := by rw [(row_cell hX0110c.out 4).1]; rfl
          have z01100 : V0110.cell? ⟨X + 1 + 1, 0, none⟩ = some (.int .i64 n) := by rw [(row_cell hZ0110c.out 0).1]; rfl
          have z0110z0 : V0110.frozen? ⟨X + 1 + 1, 0, none⟩ = false := (row_cell hZ0110c.out 0).2
          have z01101 : V0110.cell? ⟨X + 1 + 1, 1, none⟩ = some (.int .i64 o) := by rw [(row_cell hZ0110c.out 1).1]; rfl
          have z0110z1 : V0110.frozen? ⟨X + 1 + 1, 1, none⟩ = false := (row_cell hZ0110c.out 1).2
          have z01102 : V0110.cell? ⟨X + 1 + 1, 2, none⟩ = some (.int .u32 a) := by rw [(row_cell hZ0110c.out 2).1]; rfl
          have z0110z2 : V0110.frozen? ⟨X + 1 + 1, 2, none⟩ = false := (row_cell hZ0110c.out 2).2
          have z01103 : V0110.cell? ⟨X + 1 + 1, 3, none⟩ = some (.int .i64 0) := by rw [(row_cell hZ0110c.out 3).1]; rfl
          have z0110z3 : V0110.frozen? ⟨X + 1 + 1, 3, none⟩ = false := (row_cell hZ0110c.out 3).2
          have z01104 : V0110.cell? ⟨X + 1 + 1, 4, none⟩ = some (.int .i64 0) := by rw [(row_cell hZ0110c.out 4).1]; rfl
          have z0110z4 : V0110.frozen? ⟨X + 1 + 1, 4, none⟩ = false := (row_cell hZ0110c.out 4).2
          go_upto_region 10 with fail
          obtain ⟨W01101, hW01101⟩ : ∃ W, V0110.setCell ⟨X + 1 + 1, 4, none⟩ (.int .i64 t) = W := ⟨_, rfl⟩
          rw [hW01101]
          have HX01101 : Hid (W01101.heap[X]? = some (.cells #[.int .i64 n, .int .i64 o, .int .u32 a, .int .i64 ws, .int .i64 t] 25 (0, 0))) := by rw [← hW01101]; exact (set_far _ _ (by omega)).trans hX0110c.out
          have HY01101 : Hid (W01101.heap[X + 1]? = some (.cells #[.int .i64 0, .int .i64 0, .int .u32 0, .int .i64 0, .int .i64 0] 25 (0, 0))) := by rw [← hW01101]; exact (set_far _ _ (by omega)).trans hY0110c.out
          have HZ01101 : Hid (W01101.heap[X + 1 + 1]? = some (.cells #[.int .i64 n, .int .i64 o, .int .u32 a, .int .i64 0, .int .i64 t] 25 (0, 0))) := by rw [← hW01101]; exact set_at hZ0110c.out 4 _
          have B01101 : Hid (Below X w W01101) := by rw [← hW01101]; exact hB0110c.out.setCell (by show X ≤ X + 1 + 1; omega) _
          have HL01101 : Hid (Laid W01101) := hL.below (by rw [hX]; exact B01101.out)
          have S01101 : Hid (X + 3 ≤ W01101.heap.size) := by rw [← hW01101]; simpa [Hid] using hS0110c.out
          clear hW01101 hX0110c hY0110c hZ0110c hL0110c hS0110c hB0110c x01100 z01100 z0110z0 x01101 z01101 z0110z1 x01102 z01102 z0110z2 x01103 z01103 z0110z3 x01104 z01104 z0110z4
          have z011010 : W01101.cell? ⟨X + 1 + 1, 0, none⟩ = some (.int .i64 n) := by rw [(row_cell HZ01101.out 0).1]; rfl
          have z011011 : W01101.cell? ⟨X + 1 + 1, 1, none⟩ = some (.int .i64 o) := by rw [(row_cell HZ01101.out 1).1]; rfl
          have z011012 : W01101.cell? ⟨X + 1 + 1, 2, none⟩ = some (.int .u32 a) := by rw [(row_cell HZ01101.out 2).1]; rfl
          have z011013 : W01101.cell? ⟨X + 1 + 1, 3, none⟩ = some (.int .i64 0) := by rw [(row_cell HZ01101.out 3).1]; rfl
          have z011014 : W01101.cell? ⟨X + 1 + 1, 4, none⟩ = some (.int .i64 t) := by rw [(row_cell HZ01101.out 4).1]; rfl
          have y011010 : W01101.cell? ⟨X + 1, 0, none⟩ = some (.int .i64 0) := by rw [(row_cell HY01101.out 0).1]; rfl
          have y01101z0 : W01101.frozen? ⟨X + 1, 0, none⟩ = false := (row_cell HY01101.out 0).2
          have y011011 : W01101.cell? ⟨X + 1, 1, none⟩ = some (.int .i64 0) := by rw [(row_cell HY01101.out 1).1]; rfl
          have y01101z1 : W01101.frozen? ⟨X + 1, 1, none⟩ = false := (row_cell HY01101.out 1).2
          have y011012 : W01101.cell? ⟨X + 1, 2, none⟩ = some (.int .u32 0) := by rw [(row_cell HY01101.out 2).1]; rfl
          have y01101z2 : W01101.frozen? ⟨X + 1, 2, none⟩ = false := (row_cell HY01101.out 2).2
          have y011013 : W01101.cell? ⟨X + 1, 3, none⟩ = some (.int .i64 0) := by rw [(row_cell HY01101.out 3).1]; rfl
          have y01101z3 : W01101.frozen? ⟨X + 1, 3, none⟩ = false := (row_cell HY01101.out 3).2
          have y011014 : W01101.cell? ⟨X + 1, 4, none⟩ = some (.int .i64 0) := by rw [(row_cell HY01101.out 4).1]; rfl
          have y01101z4 : W01101.frozen? ⟨X + 1, 4, none⟩ = false := (row_cell HY01101.out 4).2
          go_wp2_with fail
          refine bodyPost_ret (results_cell_one rfl _ _ (X + 1) _ _ rfl (set_five HY01101.out _ _ _ _ _) Tryd.underlying25 rfl (by kernel_rfl)) rfl ?_
          exact ⟨by unfold ownV Rq.val; simp only [hB0, hB1, hB2, hB3, if_true, if_false, Bool.false_eq_true], ((((B01101.out.setCell (by exact Nat.le_succ _) _).setCell (by exact Nat.le_succ _) _).setCell (by exact Nat.le_succ _) _).setCell (by exact Nat.le_succ _) _).setCell (by exact Nat.le_succ _) _⟩
        · rw [hB3]
          go_upto_region 10 with fail
          obtain ⟨W01100, hW01100⟩ : ∃ W, W = V0110 := ⟨_, rfl⟩
          subst hW01100
          have HX01100 := hX0110c
          have HY01100 := hY0110c
          have HZ01100 := hZ0110c
          have HL01100 := hL0110c
          have S01100 := hS0110c
          have B01100 := hB0110c
          clear hX0110c hY0110c hZ0110c hL0110c hS0110c hB0110c
          have z011000 : W01100.cell? ⟨X + 1 + 1, 0, none⟩ = some (.int .i64 n) := by rw [(row_cell HZ01100.out 0).1]; rfl
          have z011001 : W01100.cell? ⟨X + 1 + 1, 1, none⟩ = some (.int .i64 o) := by rw [(row_cell HZ01100.out 1).1]; rfl
          have z011002 : W01100.cell? ⟨X + 1 + 1, 2, none⟩ = some (.int .u32 a) := by rw [(row_cell HZ01100.out 2).1]; rfl
          have z011003 : W01100.cell? ⟨X + 1 + 1, 3, none⟩ = some (.int .i64 0) := by rw [(row_cell HZ01100.out 3).1]; rfl
          have z011004 : W01100.cell? ⟨X + 1 + 1, 4, none⟩ = some (.int .i64 0) := by rw [(row_cell HZ01100.out 4).1]; rfl
          have y011000 : W01100.cell? ⟨X + 1, 0, none⟩ = some (.int .i64 0) := by rw [(row_cell HY01100.out 0).1]; rfl
          have y01100z0 : W01100.frozen? ⟨X + 1, 0, none⟩ = false := (row_cell HY01100.out 0).2
          have y011001 : W01100.cell? ⟨X + 1, 1, none⟩ = some (.int .i64 0) := by rw [(row_cell HY01100.out 1).1]; rfl
          have y01100z1 : W01100.frozen? ⟨X + 1, 1, none⟩ = false := (row_cell HY01100.out 1).2
          have y011002 : W01100.cell? ⟨X + 1, 2, none⟩ = some (.int .u32 0) := by rw [(row_cell HY01100.out 2).1]; rfl
          have y01100z2 : W01100.frozen? ⟨X + 1, 2, none⟩ = false := (row_cell HY01100.out 2).2
          have y011003 : W01100.cell? ⟨X + 1, 3, none⟩ = some (.int .i64 0) := by rw [(row_cell HY01100.out 3).1]; rfl
          have y01100z3 : W01100.frozen? ⟨X + 1, 3, none⟩ = false := (row_cell HY01100.out 3).2
          have y011004 : W01100.cell? ⟨X + 1, 4, none⟩ = some (.int .i64 0) := by rw [(row_cell HY01100.out 4).1]; rfl
          have y01100z4 : W01100.frozen? ⟨X + 1, 4, none⟩ = false := (row_cell HY01100.out 4).2
          go_wp2_with fail
          refine bodyPost_ret (results_cell_one rfl _ _ (X + 1) _ _ rfl (set_five HY01100.out _ _ _ _ _) Tryd.underlying25 rfl (by kernel_rfl)) rfl ?_
          exact ⟨by unfold ownV Rq.val; simp only [hB0, hB1, hB2, hB3, if_true, if_false, Bool.false_eq_true], ((((B01100.out.setCell (by exact Nat.le_succ _) _).setCell (by exact Nat.le_succ _) _).setCell (by exact Nat.le_succ _) _).setCell (by exact Nat.le_succ _) _).setCell (by exact Nat.le_succ _) _⟩
    · rw [hB1]
      go_upto_region 6 with fail
      obtain ⟨W010, hW010⟩ : ∃ W, W = V01 := ⟨_, rfl⟩
      subst hW010
      have HX010 := hX01c
      have HY010 := hY01c
      have HZ010 := hZ01c
      have HL010 := hL01c
      have S010 := hS01c
      have B010 := hB01c
      clear hX01c hY01c hZ01c hL01c hS01c hB01c
      have x0100 : W010.cell? ⟨X, 0, none⟩ = some (.int .i64 n) := by rw [(row_cell HX010.out 0).1]; rfl
      have x0101 : W010.cell? ⟨X, 1, none⟩ = some (.int .i64 o) := by rw [(row_cell HX010.out 1).1]; rfl
      have x0102 : W010.cell? ⟨X, 2, none⟩ = some (.int .u32 a) := by rw [(row_cell HX010.out 2).1]; rfl
      have x0103 : W010.cell? ⟨X, 3, none⟩ = some (.int .i64 ws) := by rw [(row_cell HX010.out 3).1]; rfl
      have x0104 : W010.cell? ⟨X, 4, none⟩ = some (.int .i64 t) := by rw [(row_cell HX010.out 4).1]; rfl
      go_wp2_with fail
      refine (has_any n o a ws t 4 hn (.inr (.inr (.inl rfl))) _ HL010.out).mono ?_
      rintro e V010 ⟨rfl, hb⟩
      have hX010c : Hid (V010.heap[X]? = _) := (hb.block X (by have := S010.out; omega)).trans HX010.out
      have hY010c : Hid (V010.heap[X + 1]? = _) := (hb.block (X + 1) (by have := S010.out; omega)).trans HY010.out
      have hZ010c : Hid (V010.heap[X + 1 + 1]? = _) := (hb.block (X + 1 + 1) (by have := S010.out; omega)).trans HZ010.out
      have hL010c : Hid (Laid V010) := HL010.out.below hb
      have hS010c : Hid (X + 3 ≤ V010.heap.size) := Nat.le_trans S010.out hb.size
      have hB010c : Hid (Below X w V010) := B010.out.trans (hb.mono (by have := S010.out; omega))
      clear hb HX010 HY010 HZ010 HL010 B010 S010 x0100 x0101 x0102 x0103 x0104
      rw [show hasV n 4 = wB n from rfl]
      rcases Bool.eq_false_or_eq_true (wB n) with hB2 | hB2
      · rw [hB2]
        have x0100 : V010.cell? ⟨X, 0, none⟩ = some (.int .i64 n) := by rw [(row_cell hX010c.out 0).1]; rfl
        have x0101 : V010.cell? ⟨X, 1, none⟩ = some (.int .i64 o) := by rw [(row_cell hX010c.out 1).1]; rfl
        have x0102 : V010.cell? ⟨X, 2, none⟩ = some (.int .u32 a) := by rw [(row_cell hX010c.out 2).1]; rfl
        have x0103 : V010.cell? ⟨X, 3, none⟩ = some (.int .i64 ws) := by rw [(row_cell hX010c.out 3).1]; rfl
        have x0104 : V010.cell? ⟨X, 4, none⟩ = some (.int .i64 t) := by rw [(row_cell hX010c.out 4).1]; rfl
        have z0100 : V010.cell? ⟨X + 1 + 1, 0, none⟩ = some (.int .i64 n) := by rw [(row_cell hZ010c.out 0).1]; rfl
        have z010z0 : V010.frozen? ⟨X + 1 + 1, 0, none⟩ = false := (row_cell hZ010c.out 0).2
        have z0101 : V010.cell? ⟨X + 1 + 1, 1, none⟩ = some (.int .i64 o) := by rw [(row_cell hZ010c.out 1).1]; rfl
        have z010z1 : V010.frozen? ⟨X + 1 + 1, 1, none⟩ = false := (row_cell hZ010c.out 1).2
        have z0102 : V010.cell? ⟨X + 1 + 1, 2, none⟩ = some (.int .u32 0) := by rw [(row_cell hZ010c.out 2).1]; rfl
        have z010z2 : V010.frozen? ⟨X + 1 + 1, 2, none⟩ = false := (row_cell hZ010c.out 2).2
        have z0103 : V010.cell? ⟨X + 1 + 1, 3, none⟩ = some (.int .i64 0) := by rw [(row_cell hZ010c.out 3).1]; rfl
        have z010z3 : V010.frozen? ⟨X + 1 + 1, 3, none⟩ = false := (row_cell hZ010c.out 3).2
        have z0104 : V010.cell? ⟨X + 1 + 1, 4, none⟩ = some (.int .i64 0) := by rw [(row_cell hZ010c.out 4).1]; rfl
        have z010z4 : V010.frozen? ⟨X + 1 + 1, 4, none⟩ = false := (row_cell hZ010c.out 4).2
        go_upto_region 8 with fail
        obtain ⟨W0101, hW0101⟩ : ∃ W, V010.setCell ⟨X + 1 + 1, 3, none⟩ (.int .i64 ws) = W := ⟨_, rfl⟩
        rw [hW0101]
        have HX0101 : Hid (W0101.heap[X]? = some (.cells #[.int .i64 n, .int .i64 o, .int .u32 a, .int .i64 ws, .int .i64 t] 25 (0, 0))) := by rw [← hW0101]; exact (set_far _ _ (by omega)).trans hX010c.out
        have HY0101 : Hid (W0101.heap[X + 1]? = some (.cells #[.int .i64 0, .int .i64 0, .int .u32 0, .int .i64 0, .int .i64 0] 25 (0, 0))) := by rw [← hW0101]; exact (set_far _ _ (by omega)).trans hY010c.out
        have HZ0101 : Hid (W0101.heap[X + 1 + 1]? = some (.cells #[.int .i64 n, .int .i64 o, .int .u32 0, .int .i64 ws, .int .i64 0] 25 (0, 0))) := by rw [← hW0101]; exact set_at hZ010c.out 3 _
        have B0101 : Hid (Below X w W0101) := by rw [← hW0101]; exact hB010c.out.setCell (by show X ≤ X + 1 + 1; omega) _
        have HL0101 : Hid (Laid W0101) := hL.below (by rw [hX]; exact B0101.out)
        have S0101 : Hid (X + 3 ≤ W0101.heap.size) := by rw [← hW0101]; simpa [Hid] using hS010c.out
        clear hW0101 hX010c hY010c hZ010c hL010c hS010c hB010c x0100 z0100 z010z0 x0101 z0101 z010z1 x0102 z0102 z010z2 x0103 z0103 z010z3 x0104 z0104 z010z4
        have x01010 : W0101.cell? ⟨X, 0, none⟩ = some (.int .i64 n) := by rw [(row_cell HX0101.out 0).1]; rfl
        have x01011 : W0101.cell? ⟨X, 1, none⟩ = some (.int .i64 o) := by rw [(row_cell HX0101.out 1).1]; rfl
        have x01012 : W0101.cell? ⟨X, 2, none⟩ = some (.int .u32 a) := by rw [(row_cell HX0101.out 2).1]; rfl
        have x01013 : W0101.cell? ⟨X, 3, none⟩ = some (.int .i64 ws) := by rw [(row_cell HX0101.out 3).1]; rfl
        have x01014 : W0101.cell? ⟨X, 4, none⟩ = some (.int .i64 t) := by rw [(row_cell HX0101.out 4).1]; rfl
        go_wp2_with fail
        refine (has_any n o a ws t 8 hn (.inr (.inr (.inr rfl))) _ HL0101.out).mono ?_
        rintro e V0101 ⟨rfl, hb⟩
        have hX0101c : Hid (V0101.heap[X]? = _) := (hb.block X (by have := S0101.out; omega)).trans HX0101.out
        have hY0101c : Hid (V0101.heap[X + 1]? = _) := (hb.block (X + 1) (by have := S0101.out; omega)).trans HY0101.out
        have hZ0101c : Hid (V0101.heap[X + 1 + 1]? = _) := (hb.block (X + 1 + 1) (by have := S0101.out; omega)).trans HZ0101.out
        have hL0101c : Hid (Laid V0101) := HL0101.out.below hb
        have hS0101c : Hid (X + 3 ≤ V0101.heap.size) := Nat.le_trans S0101.out hb.size
        have hB0101c : Hid (Below X w V0101) := B0101.out.trans (hb.mono (by have := S0101.out; omega))
        clear hb HX0101 HY0101 HZ0101 HL0101 B0101 S0101 x01010 x01011 x01012 x01013 x01014
        rw [show hasV n 8 = tB n from rfl]
        rcases Bool.eq_false_or_eq_true (tB n) with hB3 | hB3
        · rw [hB3]
          have x01010 : V0101.cell? ⟨X, 0, none⟩ = some (.int .i64 n) := by rw [(row_cell hX0101c.out 0).1]; rfl
          have x01011 : V0101.cell? ⟨X, 1, none⟩ = some (.int .i64 o) := by rw [(row_cell hX0101c.out 1).1]; rfl
          have x01012 : V0101.cell? ⟨X, 2, none⟩ = some (.int .u32 a) := by rw [(row_cell hX0101c.out 2).1]; rfl
          have x01013 : V0101.cell? ⟨X, 3, none⟩ = some (.int .i64 ws) := by rw [(row_cell hX0101c.out 3).1]; rfl
          have x01014 : V0101.cell? ⟨X, 4, none⟩ = some (.int .i64 t) := by rw [(row_cell hX0101c.out 4).1]; rfl
          have z01010 : V0101.cell? ⟨X + 1 + 1, 0, none⟩ = some (.int .i64 n) := by rw [(row_cell hZ0101c.out 0).1]; rfl
          have z0101z0 : V0101.frozen? ⟨X + 1 + 1, 0, none⟩ = false := (row_cell hZ0101c.out 0).2
          have z01011 : V0101.cell? ⟨X + 1 + 1, 1, none⟩ = some (.int .i64 o) := by rw [(row_cell hZ0101c.out 1).1]; rfl
          have z0101z1 : V0101.frozen? ⟨X + 1 + 1, 1, none⟩ = false := (row_cell hZ0101c.out 1).2
          have z01012 : V0101.cell? ⟨X + 1 + 1, 2, none⟩ = some (.int .u32 0) := by rw [(row_cell hZ0101c.out 2).1]; rfl
          have z0101z2 : V0101.frozen? ⟨X + 1 + 1, 2, none⟩ = false := (row_cell hZ0101c.out 2).2
          have z01013 : V0101.cell? ⟨X + 1 + 1, 3, none⟩ = some (.int .i64 ws) := by rw [(row_cell hZ0101c.out 3).1]; rfl
          have z0101z3 : V0101.frozen? ⟨X + 1 + 1, 3, none⟩ = false := (row_cell hZ0101c.out 3).2
          have z01014 : V0101.cell? ⟨X + 1 + 1, 4, none⟩ = some (.int .i64 0) := by rw [(row_cell hZ0101c.out 4).1]; rfl
          have z0101z4 : V0101.frozen? ⟨X + 1 + 1, 4, none⟩ = false := (row_cell hZ0101c.out 4).2
          go_upto_region 10 with fail
          obtain ⟨W01011, hW01011⟩ : ∃ W, V0101.setCell ⟨X + 1 + 1, 4, none⟩ (.int .i64 t) = W := ⟨_, rfl⟩
          rw [hW01011]
          have HX01011 : Hid (W01011.heap[X]? = some (.cells #[.int .i64 n, .int .i64 o, .int .u32 a, .int .i64 ws, .int .i64 t] 25 (0, 0))) := by rw [← hW01011]; exact (set_far _ _ (by omega)).trans hX0101c.out
          have HY01011 : Hid (W01011.heap[X + 1]? = some (.cells #[.int .i64 0, .int .i64 0, .int .u32 0, .int .i64 0, .int .i64 0] 25 (0, 0))) := by rw [← hW01011]; exact (set_far _ _ (by omega)).trans hY0101c.out
          have HZ01011 : Hid (W01011.heap[X + 1 + 1]? = some (.cells #[.int .i64 n, .int .i64 o, .int .u32 0, .int .i64 ws, .int .i64 t] 25 (0, 0))) := by rw [← hW01011]; exact set_at hZ0101c.out 4 _
          have B01011 : Hid (Below X w W01011) := by rw [← hW01011]; exact hB0101c.out.setCell (by show X ≤ X + 1 + 1; omega) _
          have HL01011 : Hid (Laid W01011) := hL.below (by rw [hX]; exact B01011.out)
          have S01011 : Hid (X + 3 ≤ W01011.heap.size) := by rw [← hW01011]; simpa [Hid] using hS0101c.out
          clear hW01011 hX0101c hY0101c hZ0101c hL0101c hS0101c hB0101c x01010 z01010 z0101z0 x01011 z01011 z0101z1 x01012 z01012 z0101z2 x01013 z01013 z0101z3 x01014 z01014 z0101z4
          have z010110 : W01011.cell? ⟨X + 1 + 1, 0, none⟩ = some (.int .i64 n) := by rw [(row_cell HZ01011.out 0).1]; rfl
          have z010111 : W01011.cell? ⟨X + 1 + 1, 1, none⟩ = some (.int .i64 o) := by rw [(row_cell HZ01011.out 1).1]; rfl
          have z010112 : W01011.cell? ⟨X + 1 + 1, 2, none⟩ = some (.int .u32 0) := by rw [(row_cell HZ01011.out 2).1]; rfl
          have z010113 : W01011.cell? ⟨X + 1 + 1, 3, none⟩ = some (.int .i64 ws) := by rw [(row_cell HZ01011.out 3).1]; rfl
          have z010114 : W01011.cell? ⟨X + 1 + 1, 4, none⟩ = some (.int .i64 t) := by rw [(row_cell HZ01011.out 4).1]; rfl
          have y010110 : W01011.cell? ⟨X + 1, 0, none⟩ = some (.int .i64 0) := by rw [(row_cell HY01011.out 0).1]; rfl
          have y01011z0 : W01011.frozen? ⟨X + 1, 0, none⟩ = false := (row_cell HY01011.out 0).2
          have y010111 : W01011.cell? ⟨X + 1, 1, none⟩ = some (.int .i64 0) := by rw [(row_cell HY01011.out 1).1]; rfl
          have y01011z1 : W01011.frozen? ⟨X + 1, 1, none⟩ = false := (row_cell HY01011.out 1).2
          have y010112 : W01011.cell? ⟨X + 1, 2, none⟩ = some (.int .u32 0) := by rw [(row_cell HY01011.out 2).1]; rfl
          have y01011z2 : W01011.frozen? ⟨X + 1, 2, none⟩ = false := (row_cell HY01011.out 2).2
          have y010113 : W01011.cell? ⟨X + 1, 3, none⟩ = some (.int .i64 0) := by rw [(row_cell HY01011.out 3).1]; rfl
          have y01011z3 : W01011.frozen? ⟨X + 1, 3, none⟩ = false := (row_cell HY01011.out 3).2
          have y010114 : W01011.cell? ⟨X + 1, 4, none⟩ = some (.int .i64 0) := by rw [(row_cell HY01011.out 4).1]; rfl
          have y01011z4 : W01011.frozen? ⟨X + 1, 4, none⟩ = false := (row_cell HY01011.out 4).2
          go_wp2_with fail
          refine bodyPost_ret (results_cell_one rfl _ _ (X + 1) _ _ rfl (set_five HY01011.out _ _ _ _ _) Tryd.underlying25 rfl (by kernel_rfl)) rfl ?_
          exact ⟨by unfold ownV Rq.val; simp only [hB0, hB1, hB2, hB3, if_true, if_false, Bool.false_eq_true], ((((B01011.out.setCell (by exact Nat.le_succ _) _).setCell (by exact Nat.le_succ _) _).setCell (by exact Nat.le_succ _) _).setCell (by exact Nat.le_succ _) _).setCell (by exact Nat.le_succ _) _⟩
        · rw [hB3]
          go_upto_region 10 with fail
          obtain ⟨W01010, hW01010⟩ : ∃ W, W = V0101 := ⟨_, rfl⟩
          subst hW01010
          have HX01010 := hX0101c
          have HY01010 := hY0101c
          have HZ01010 := hZ0101c
          have HL01010 := hL0101c
          have S01010 := hS0101c
          have B01010 := hB0101c
          clear hX0101c hY0101c hZ0101c hL0101c hS0101c hB0101c
          have z010100 : W01010.cell? ⟨X + 1 + 1, 0, none⟩ = some (.int .i64 n) := by rw [(row_cell HZ01010.out 0).1]; rfl
          have z010101 : W01010.cell? ⟨X + 1 + 1, 1, none⟩ = some (.int .i64 o) := by rw [(row_cell HZ01010.out 1).1]; rfl
          have z010102 : W01010.cell? ⟨X + 1 + 1, 2, none⟩ = some (.int .u32 0) := by rw [(row_cell HZ01010.out 2).1]; rfl
          have z010103 : W01010.cell? ⟨X + 1 + 1, 3, none⟩ = some (.int .i64 ws) := by rw [(row_cell HZ01010.out 3).1]; rfl
          have z010104 : W01010.cell? ⟨X + 1 + 1, 4, none⟩ = some (.int .i64 0) := by rw [(row_cell HZ01010.out 4).1]; rfl
          have y010100 : W01010.cell? ⟨X + 1, 0, none⟩ = some (.int .i64 0) := by rw [(row_cell HY01010.out 0).1]; rfl
          have y01010z0 : W01010.frozen? ⟨X + 1, 0, none⟩ = false := (row_cell HY01010.out 0).2
          have y010101 : W01010.cell? ⟨X + 1, 1, none⟩ = some (.int .i64 0) := by rw [(row_cell HY01010.out 1).1]; rfl
          have y01010z1 : W01010.frozen? ⟨X + 1, 1, none⟩ = false := (row_cell HY01010.out 1).2
          have y010102 : W01010.cell? ⟨X + 1, 2, none⟩ = some (.int .u32 0) := by rw [(row_cell HY01010.out 2).1]; rfl
          have y01010z2 : W01010.frozen? ⟨X + 1, 2, none⟩ = false := (row_cell HY01010.out 2).2
          have y010103 : W01010.cell? ⟨X + 1, 3, none⟩ = some (.int .i64 0) := by rw [(row_cell HY01010.out 3).1]; rfl
          have y01010z3 : W01010.frozen? ⟨X + 1, 3, none⟩ = false := (row_cell HY01010.out 3).2
          have y010104 : W01010.cell? ⟨X + 1, 4, none⟩ = some (.int .i64 0) := by rw [(row_cell HY01010.out 4).1]; rfl
          have y01010z4 : W01010.frozen? ⟨X + 1, 4, none⟩ = false := (row_cell HY01010.out 4).2
          go_wp2_with fail
          refine bodyPost_ret (results_cell_one rfl _ _ (X + 1) _ _ rfl (set_five HY01010.out _ _ _ _ _) Tryd.underlying25 rfl (by kernel_rfl)) rfl ?_
          exact ⟨by unfold ownV Rq.val; simp only [hB0, hB1, hB2, hB3, if_true, if_false, Bool.false_eq_true], ((((B01010.out.setCell (by exact Nat.le_succ _) _).setCell (by exact Nat.le_succ _) _).setCell (by exact Nat.le_succ _) _).setCell (by exact Nat.le_succ _) _).setCell (by exact Nat.le_succ _) _⟩
      · rw [hB2]
        go_upto_region 8 with fail
        obtain ⟨W0100, hW0100⟩ : ∃ W, W = V010 := ⟨_, rfl⟩
        subst hW0100
        have HX0100 := hX010c
        have HY0100 := hY010c
        have HZ0100 := hZ010c
        have HL0100 := hL010c
        have S0100 := hS010c
        have B0100 := hB010c
        clear hX010c hY010c hZ010c hL010c hS010c hB010c
        have x01000 : W0100.cell? ⟨X, 0, none⟩ = some (.int .i64 n) := by rw [(row_cell HX0100.out 0).1]; rfl
        have x01001 : W0100.cell? ⟨X, 1, none⟩ = some (.int .i64 o) := by rw [(row_cell HX0100.out 1).1]; rfl
        have x01002 : W0100.cell? ⟨X, 2, none⟩ = some (.int .u32 a) := by rw [(row_cell HX0100.out 2).1]; rfl
        have x01003 : W0100.cell? ⟨X, 3, none⟩ = some (.int .i64 ws) := by rw [(row_cell HX0100.out 3).1]; rfl
        have x01004 : W0100.cell? ⟨X, 4, none⟩ = some (.int .i64 t) := by rw [(row_cell HX0100.out 4).1]; rfl
        go_wp2_with fail
        refine (has_any n o a ws t 8 hn (.inr (.inr (.inr rfl))) _ HL0100.out).mono ?_
        rintro e V0100 ⟨rfl, hb⟩
        have hX0100c : Hid (V0100.heap[X]? = _) := (hb.block X (by have := S0100.out; omega)).trans HX0100.out
        have hY0100c : Hid (V0100.heap[X + 1]? = _) := (hb.block (X + 1) (by have := S0100.out; omega)).trans HY0100.out
        have hZ0100c : Hid (V0100.heap[X + 1 + 1]? = _) := (hb.block (X + 1 + 1) (by have := S0100.out; omega)).trans HZ0100.out
        have hL0100c : Hid (Laid V0100) := HL0100.out.below hb
        have hS0100c : Hid (X + 3 ≤ V0100.heap.size) := Nat.le_trans S0100.out hb.size
        have hB0100c : Hid (Below X w V0100) := B0100.out.trans (hb.mono (by have := S0100.out; omega))
        clear hb HX0100 HY0100 HZ0100 HL0100 B0100 S0100 x01000 x01001 x01002 x01003 x01004
        rw [show hasV n 8 = tB n from rfl]
        rcases Bool.eq_false_or_eq_true (tB n) with hB3 | hB3
        · rw [hB3]
          have x01000 : V0100.cell? ⟨X, 0, none⟩ = some (.int .i64 n) := by rw [(row_cell hX0100c.out 0).1]; rfl
          have x01001 : V0100.cell? ⟨X, 1, none⟩ = some (.int .i64 o) := by rw [(row_cell hX0100c.out 1).1]; rfl
          have x01002 : V0100.cell? ⟨X, 2, none⟩ = some (.int .u32 a) := by rw [(row_cell hX0100c.out 2).1]; rfl
          have x01003 : V0100.cell? ⟨X, 3, none⟩ = some (.int .i64 ws) := by rw [(row_cell hX0100c.out 3).1]; rfl
          have x01004 : V0100.cell? ⟨X, 4, none⟩ = some (.int .i64 t) := by rw [(row_cell hX0100c.out 4).1]; rfl
          have z01000 : V0100.cell? ⟨X + 1 + 1, 0, none⟩ = some (.int .i64 n) := by rw [(row_cell hZ0100c.out 0).1]; rfl
          have z0100z0 : V0100.frozen? ⟨X + 1 + 1, 0, none⟩ = false := (row_cell hZ0100c.out 0).2
          have z01001 : V0100.cell? ⟨X + 1 + 1, 1, none⟩ = some (.int .i64 o) := by rw [(row_cell hZ0100c.out 1).1]; rfl
          have z0100z1 : V0100.frozen? ⟨X + 1 + 1, 1, none⟩ = false := (row_cell hZ0100c.out 1).2
          have z01002 : V0100.cell? ⟨X + 1 + 1, 2, none⟩ = some (.int .u32 0) := by rw [(row_cell hZ0100c.out 2).1]; rfl
          have z0100z2 : V0100.frozen? ⟨X + 1 + 1, 2, none⟩ = false := (row_cell hZ0100c.out 2).2
          have z01003 : V0100.cell? ⟨X + 1 + 1, 3, none⟩ = some (.int .i64 0) := by rw [(row_cell hZ0100c.out 3).1]; rfl
          have z0100z3 : V0100.frozen? ⟨X + 1 + 1, 3, none⟩ = false := (row_cell hZ0100c.out 3).2
          have z01004 : V0100.cell? ⟨X + 1 + 1, 4, none⟩ = some (.int .i64 0) := by rw [(row_cell hZ0100c.out 4).1]; rfl
          have z0100z4 : V0100.frozen? ⟨X + 1 + 1, 4, none⟩ = false := (row_cell hZ0100c.out 4).2
          go_upto_region 10 with fail
          obtain ⟨W01001, hW01001⟩ : ∃ W, V0100.setCell ⟨X + 1 + 1, 4, none⟩ (.int .i64 t) = W := ⟨_, rfl⟩
          rw [hW01001]
          have HX01001 : Hid (W01001.heap[X]? = some (.cells #[.int .i64 n, .int .i64 o, .int .u32 a, .int .i64 ws, .int .i64 t] 25 (0, 0))) := by rw [← hW01001]; exact (set_far _ _ (by omega)).trans hX0100c.out
          have HY01001 : Hid (W01001.heap[X + 1]? = some (.cells #[.int .i64 0, .int .i64 0, .int .u32 0, .int .i64 0, .int .i64 0] 25 (0, 0))) := by rw [← hW01001]; exact (set_far _ _ (by omega)).trans hY0100c.out
          have HZ01001 : Hid (W01001.heap[X + 1 + 1]? = some (.cells #[.int .i64 n, .int .i64 o, .int .u32 0, .int .i64 0, .int .i64 t] 25 (0, 0))) := by rw [← hW01001]; exact set_at hZ0100c.out 4 _
          have B01001 : Hid (Below X w W01001) := by rw [← hW01001]; exact hB0100c.out.setCell (by show X ≤ X + 1 + 1; omega) _
          have HL01001 : Hid (Laid W01001) := hL.below (by rw [hX]; exact B01001.out)
          have S01001 : Hid (X + 3 ≤ W01001.heap.size) := by rw [← hW01001]; simpa [Hid] using hS0100c.out
          clear hW01001 hX0100c hY0100c hZ0100c hL0100c hS0100c hB0100c x01000 z01000 z0100z0 x01001 z01001 z0100z1 x01002 z01002 z0100z2 x01003 z01003 z0100z3 x01004 z01004 z0100z4
          have z010010 : W01001.cell? ⟨X + 1 + 1, 0, none⟩ = some (.int .i64 n) := by rw [(row_cell HZ01001.out 0).1]; rfl
          have z010011 : W01001.cell? ⟨X + 1 + 1, 1, none⟩ = some (.int .i64 o) := by rw [(row_cell HZ01001.out 1).1]; rfl
          have z010012 : W01001.cell? ⟨X + 1 + 1, 2, none⟩ = some (.int .u32 0) := by rw [(row_cell HZ01001.out 2).1]; rfl
          have z010013 : W01001.cell? ⟨X + 1 + 1, 3, none⟩ = some (.int .i64 0) := by rw [(row_cell HZ01001.out 3).1]; rfl
          have z010014 : W01001.cell? ⟨X + 1 + 1, 4, none⟩ = some (.int .i64 t) := by rw [(row_cell HZ01001.out 4).1]; rfl
          have y010010 : W01001.cell? ⟨X + 1, 0, none⟩ = some (.int .i64 0) := by rw [(row_cell HY01001.out 0).1]; rfl
          have y01001z0 : W01001.frozen? ⟨X + 1, 0, none⟩ = false := (row_cell HY01001.out 0).2
          have y010011 : W01001.cell? ⟨X + 1, 1, none⟩ = some (.int .i64 0) := by rw [(row_cell HY01001.out 1).1]; rfl
          have y01001z1 : W01001.frozen? ⟨X + 1, 1, none⟩ = false := (row_cell HY01001.out 1).2
          have y010012 : W01001.cell? ⟨X + 1, 2, none⟩ = some (.int .u32 0) := by rw [(row_cell HY01001.out 2).1]; rfl
          have y01001z2 : W01001.frozen? ⟨X + 1, 2, none⟩ = false := (row_cell HY01001.out 2).2
          have y010013 : W01001.cell? ⟨X + 1, 3, none⟩ = some (.int .i64 0) := by rw [(row_cell HY01001.out 3).1]; rfl
          have y01001z3 : W01001.frozen? ⟨X + 1, 3, none⟩ = false := (row_cell HY01001.out 3).2
          have y010014 : W01001.cell? ⟨X + 1, 4, none⟩ = some (.int .i64 0) := by rw [(row_cell HY01001.out 4).1]; rfl
          have y01001z4 : W01001.frozen? ⟨X + 1, 4, none⟩ = false := (row_cell HY01001.out 4).2
          go_wp2_with fail
          refine bodyPost_ret (results_cell_one rfl _ _ (X + 1) _ _ rfl (set_five HY01001.out _ _ _ _ _) Tryd.underlying25 rfl (by kernel_rfl)) rfl ?_
          exact ⟨by unfold ownV Rq.val; simp only [hB0, hB1, hB2, hB3, if_true, if_false, Bool.false_eq_true], ((((B01001.out.setCell (by exact Nat.le_succ _) _).setCell (by exact Nat.le_succ _) _).setCell (by exact Nat.le_succ _) _).setCell (by exact Nat.le_succ _) _).setCell (by exact Nat.le_succ _) _⟩
        · rw [hB3]
          go_upto_region 10 with fail
          obtain ⟨W01000, hW01000⟩ : ∃ W, W = V0100 := ⟨_, rfl⟩
          subst hW01000
          have HX01000 := hX0100c
          have HY01000 := hY0100c
          have HZ01000 := hZ0100c
          have HL01000 := hL0100c
          have S01000 := hS0100c
          have B01000 := hB0100c
          clear hX0100c hY0100c hZ0100c hL0100c hS0100c hB0100c
          have z010000 : W01000.cell? ⟨X + 1 + 1, 0, none⟩ = some (.int .i64 n) := by rw [(row_cell HZ01000.out 0).1]; rfl
          have z010001 : W01000.cell? ⟨X + 1 + 1, 1, none⟩ = some (.int .i64 o) := by rw [(row_cell HZ01000.out 1).1]; rfl
          have z010002 : W01000.cell? ⟨X + 1 + 1, 2, none⟩ = some (.int .u32 0) := by rw [(row_cell HZ01000.out 2).1]; rfl
          have z010003 : W01000.cell? ⟨X + 1 + 1, 3, none⟩ = some (.int .i64 0) := by rw [(row_cell HZ01000.out 3).1]; rfl
          have z010004 : W01000.cell? ⟨X + 1 + 1, 4, none⟩ = some (.int .i64 0) := by rw [(row_cell HZ01000.out 4).1]; rfl
          have y010000 : W01000.cell? ⟨X + 1, 0, none⟩ = some (.int .i64 0) := by rw [(row_cell HY01000.out 0).1]; rfl
          have y01000z0 : W01000.frozen? ⟨X + 1, 0, none⟩ = false := (row_cell HY01000.out 0).2
          have y010001 : W01000.cell? ⟨X + 1, 1, none⟩ = some (.int .i64 0) := by rw [(row_cell HY01000.out 1).1]; rfl
          have y01000z1 : W01000.frozen? ⟨X + 1, 1, none⟩ = false := (row_cell HY01000.out 1).2
          have y010002 : W01000.cell? ⟨X + 1, 2, none⟩ = some (.int .u32 0) := by rw [(row_cell HY01000.out 2).1]; rfl
          have y01000z2 : W01000.frozen? ⟨X + 1, 2, none⟩ = false := (row_cell HY01000.out 2).2
          have y010003 : W01000.cell? ⟨X + 1, 3, none⟩ = some (.int .i64 0) := by rw [(row_cell HY01000.out 3).1]; rfl
          have y01000z3 : W01000.frozen? ⟨X + 1, 3, none⟩ = false := (row_cell HY01000.out 3).2
          have y010004 : W01000.cell? ⟨X + 1, 4, none⟩ = some (.int .i64 0) := by rw [(row_cell HY01000.out 4).1]; rfl
          have y01000z4 : W01000.frozen? ⟨X + 1, 4, none⟩ = false := (row_cell HY01000.out 4).2
          go_wp2_with fail
          refine bodyPost_ret (results_cell_one rfl _ _ (X + 1) _ _ rfl (set_five HY01000.out _ _ _ _ _) Tryd.underlying25 rfl (by kernel_rfl)) rfl ?_
          exact ⟨by unfold ownV Rq.val; simp only [hB0, hB1, hB2, hB3, if_true, if_false, Bool.false_eq_true], ((((B01000.out.setCell (by exact Nat.le_succ _) _).setCell (by exact Nat.le_succ _) _).setCell (by exact Nat.le_succ _) _).setCell (by exact Nat.le_succ _) _).setCell (by exact Nat.le_succ _) _⟩
  · rw [hB0]
    go_upto_region 4 with fail
    obtain ⟨W00, hW00⟩ : ∃ W, W = V0 := ⟨_, rfl⟩
    subst hW00
    have HX00 := hX0c
    have HY00 := hY0c
    have HZ00 := hZ0c
    have HL00 := hL0c
    have S00 := hS0c
    have B00 := hB0c
    clear hX0c hY0c hZ0c hL0c hS0c hB0c
    have x000 : W00.cell? ⟨X, 0, none⟩ = some (.int .i64 n) := by rw [(row_cell HX00.out 0).1]; rfl
    have x001 : W00.cell? ⟨X, 1, none⟩ = some (.int .i64 o) := by rw [(row_cell HX00.out 1).1]; rfl
    have x002 : W00.cell? ⟨X, 2, none⟩ = some (.int .u32 a) := by rw [(row_cell HX00.out 2).1]; rfl
    have x003 : W00.cell? ⟨X, 3, none⟩ = some (.int .i64 ws) := by rw [(row_cell HX00.out 3).1]; rfl
    have x004 : W00.cell? ⟨X, 4, none⟩ = some (.int .i64 t) := by rw [(row_cell HX00.out 4).1]; rfl
    go_wp2_with fail
    refine (has_any n o a ws t 2 hn (.inr (.inl rfl)) _ HL00.out).mono ?_
    rintro e V00 ⟨rfl, hb⟩
    have hX00c : Hid (V00.heap[X]? = _) := (hb.block X (by have := S00.out; omega)).trans HX00.out
    have hY00c : Hid (V00.heap[X + 1]? = _) := (hb.block (X + 1) (by have := S00.out; omega)).trans HY00.out
    have hZ00c : Hid (V00.heap[X + 1 + 1]? = _) := (hb.block (X + 1 + 1) (by have := S00.out; omega)).trans HZ00.out
    have hL00c : Hid (Laid V00) := HL00.out.below hb
    have hS00c : Hid (X + 3 ≤ V00.heap.size) := Nat.le_trans S00.out hb.size
    have hB00c : Hid (Below X w V00) := B00.out.trans (hb.mono (by have := S00.out; omega))
    clear hb HX00 HY00 HZ00 HL00 B00 S00 x000 x001 x002 x003 x004
    rw [show hasV n 2 = aB n from rfl]
    rcases Bool.eq_false_or_eq_true (aB n) with hB1 | hB1
    · rw [hB1]
      have x000 : V00.cell? ⟨X, 0, none⟩ = some (.int .i64 n) := by rw [(row_cell hX00c.out 0).1]; rfl
      have x001 : V00.cell? ⟨X, 1, none⟩ = some (.int .i64 o) := by rw [(row_cell hX00c.out 1).1]; rfl
      have x002 : V00.cell? ⟨X, 2, none⟩ = some (.int .u32 a) := by rw [(row_cell hX00c.out 2).1]; rfl
      have x003 : V00.cell? ⟨X, 3, none⟩ = some (.int .i64 ws) := by rw [(row_cell hX00c.out 3).1]; rfl
      have x004 : V00.cell? ⟨X, 4, none⟩ = some (.int .i64 t) := by rw [(row_cell hX00c.out 4).1]; rfl
      have z000 : V00.cell? ⟨X + 1 + 1, 0, none⟩ = some (.int .i64 n) := by rw [(row_cell hZ00c.out 0).1]; rfl
      have z00z0 : V00.frozen? ⟨X + 1 + 1, 0, none⟩ = false := (row_cell hZ00c.out 0).2
      have z001 : V00.cell? ⟨X + 1 + 1, 1, none⟩ = some (.int .i64 0) := by rw [(row_cell hZ00c.out 1).1]; rfl
      have z00z1 : V00.frozen? ⟨X + 1 + 1, 1, none⟩ = false := (row_cell hZ00c.out 1).2
      have z002 : V00.cell? ⟨X + 1 + 1, 2, none⟩ = some (.int .u32 0) := by rw [(row_cell hZ00c.out 2).1]; rfl
      have z00z2 : V00.frozen? ⟨X + 1 + 1, 2, none⟩ = false := (row_cell hZ00c.out 2).2
      have z003 : V00.cell? ⟨X + 1 + 1, 3, none⟩ = some (.int .i64 0) := by rw [(row_cell hZ00c.out 3).1]; rfl
      have z00z3 : V00.frozen? ⟨X + 1 + 1, 3, none⟩ = false := (row_cell hZ00c.out 3).2
      have z004 : V00.cell? ⟨X + 1 + 1, 4, none⟩ = some (.int .i64 0) := by rw [(row_cell hZ00c.out 4).1]; rfl
      have z00z4 : V00.frozen? ⟨X + 1 + 1, 4, none⟩ = false := (row_cell hZ00c.out 4).2
      go_upto_region 6 with fail
      obtain ⟨W001, hW001⟩ : ∃ W, V00.setCell ⟨X + 1 + 1, 2, none⟩ (.int .u32 a) = W := ⟨_, rfl⟩
      rw [hW001]
      have HX001 : Hid (W001.heap[X]? = some (.cells #[.int .i64 n, .int .i64 o, .int .u32 a, .int .i64 ws, .int .i64 t] 25 (0, 0))) := by rw [← hW001]; exact (set_far _ _ (by omega)).trans hX00c.out
      have HY001 : Hid (W001.heap[X + 1]? = some (.cells #[.int .i64 0, .int .i64 0, .int .u32 0, .int .i64 0, .int .i64 0] 25 (0, 0))) := by rw [← hW001]; exact (set_far _ _ (by omega)).trans hY00c.out
      have HZ001 : Hid (W001.heap[X + 1 + 1]? = some (.cells #[.int .i64 n, .int .i64 0, .int .u32 a, .int .i64 0, .int .i64 0] 25 (0, 0))) := by rw [← hW001]; exact set_at hZ00c.out 2 _
      have B001 : Hid (Below X w W001) := by rw [← hW001]; exact hB00c.out.setCell (by show X ≤ X + 1 + 1; omega) _
      have HL001 : Hid (Laid W001) := hL.below (by rw [hX]; exact B001.out)
      have S001 : Hid (X + 3 ≤ W001.heap.size) := by rw [← hW001]; simpa [Hid] using hS00c.out
      clear hW001 hX00c hY00c hZ00c hL00c hS00c hB00c x000 z000 z00z0 x001 z001 z00z1 x002 z002 z00z2 x003 z003 z00z3 x004 z004 z00z4
      have x0010 : W001.cell? ⟨X, 0, none⟩ = some (.int .i64 n) := by rw [(row_cell HX001.out 0).1]; rfl
      have x0011 : W001.cell? ⟨X, 1, none⟩ = some (.int .i64 o) := by rw [(row_cell HX001.out 1).1]; rfl
      have x0012 : W001.cell? ⟨X, 2, none⟩ = some (.int .u32 a) := by rw [(row_cell HX001.out 2).1]; rfl
      have x0013 : W001.cell? ⟨X, 3, none⟩ = some (.int .i64 ws) := by rw [(row_cell HX001.out 3).1]; rfl
      have x0014 : W001.cell? ⟨X, 4, none⟩ = some (.int .i64 t) := by rw [(row_cell HX001.out 4).1]; rfl
      go_wp2_with fail
      refine (has_any n o a ws t 4 hn (.inr (.inr (.inl rfl))) _ HL001.out).mono ?_
      rintro e V001 ⟨rfl, hb⟩
      have hX001c : Hid (V001.heap[X]? = _) := (hb.block X (by have := S001.out; omega)).trans HX001.out
      have hY001c : Hid (V001.heap[X + 1]? = _) := (hb.block (X + 1) (by have := S001.out; omega)).trans HY001.out
      have hZ001c : Hid (V001.heap[X + 1 + 1]? = _) := (hb.block (X + 1 + 1) (by have := S001.out; omega)).trans HZ001.out
      have hL001c : Hid (Laid V001) := HL001.out.below hb
      have hS001c : Hid (X + 3 ≤ V001.heap.size) := Nat.le_trans S001.out hb.size
      have hB001c : Hid (Below X w V001) := B001.out.trans (hb.mono (by have := S001.out; omega))
      clear hb HX001 HY001 HZ001 HL001 B001 S001 x0010 x0011 x0012 x0013 x0014
      rw [show hasV n 4 = wB n from rfl]
      rcases Bool.eq_false_or_eq_true (wB n) with hB2 | hB2
      · rw [hB2]
        have x0010 : V001.cell? ⟨X, 0, none⟩ = some (.int .i64 n) := by rw [(row_cell hX001c.out 0).1]; rfl
        have x0011 : V001.cell? ⟨X, 1, none⟩ = some (.int .i64 o) := by rw [(row_cell hX001c.out 1).1]; rfl
        have x0012 : V001.cell? ⟨X, 2, none⟩ = some (.int .u32 a) := by rw [(row_cell hX001c.out 2).1]; rfl
        have x0013 : V001.cell? ⟨X, 3, none⟩ = some (.int .i64 ws) := by rw [(row_cell hX001c.out 3).1]; rfl
        have x0014 : V001.cell? ⟨X, 4, none⟩ = some (.int .i64 t) := by rw [(row_cell hX001c.out 4).1]; rfl
        have z0010 : V001.cell? ⟨X + 1 + 1, 0, none⟩ = some (.int .i64 n) := by rw [(row_cell hZ001c.out 0).1]; rfl
        have z001z0 : V001.frozen? ⟨X + 1 + 1, 0, none⟩ = false := (row_cell hZ001c.out 0).2
        have z0011 : V001.cell? ⟨X + 1 + 1, 1, none⟩ = some (.int .i64 0) := by rw [(row_cell hZ001c.out 1).1]; rfl
        have z001z1 : V001.frozen? ⟨X + 1 + 1, 1, none⟩ = false := (row_cell hZ001c.out 1).2
        have z0012 : V001.cell? ⟨X + 1 + 1, 2, none⟩ = some (.int .u32 a) := by rw [(row_cell hZ001c.out 2).1]; rfl
        have z001z2 : V001.frozen? ⟨X + 1 + 1, 2, none⟩ = false := (row_cell hZ001c.out 2).2
        have z0013 : V001.cell? ⟨X + 1 + 1, 3, none⟩ = some (.int .i64 0) := by rw [(row_cell hZ001c.out 3).1]; rfl
        have z001z3 : V001.frozen? ⟨X + 1 + 1, 3, none⟩ = false := (row_cell hZ001c.out 3).2
        have z0014 : V001.cell? ⟨X + 1 + 1, 4, none⟩ = some (.int .i64 0) := by rw [(row_cell hZ001c.out 4).1]; rfl
        have z001z4 : V001.frozen? ⟨X + 1 + 1, 4, none⟩ = false := (row_cell hZ001c.out 4).2
        go_upto_region 8 with fail
        obtain ⟨W0011, hW0011⟩ : ∃ W, V001.setCell ⟨X + 1 + 1, 3, none⟩ (.int .i64 ws) = W := ⟨_, rfl⟩
        rw [hW0011]
        have HX0011 : Hid (W0011.heap[X]? = some (.cells #[.int .i64 n, .int .i64 o, .int .u32 a, .int .i64 ws, .int .i64 t] 25 (0, 0))) := by rw [← hW0011]; exact (set_far _ _ (by omega)).trans hX001c.out
        have HY0011 : Hid (W0011.heap[X + 1]? = some (.cells #[.int .i64 0, .int .i64 0, .int .u32 0, .int .i64 0, .int .i64 0] 25 (0, 0))) := by rw [← hW0011]; exact (set_far _ _ (by omega)).trans hY001c.out
        have HZ0011 : Hid (W0011.heap[X + 1 + 1]? = some (.cells #[.int .i64 n, .int .i64 0, .int .u32 a, .int .i64 ws, .int .i64 0] 25 (0, 0))) := by rw [← hW0011]; exact set_at hZ001c.out 3 _
        have B0011 : Hid (Below X w W0011) := by rw [← hW0011]; exact hB001c.out.setCell (by show X ≤ X + 1 + 1; omega) _
        have HL0011 : Hid (Laid W0011) := hL.below (by rw [hX]; exact B0011.out)
        have S0011 : Hid (X + 3 ≤ W0011.heap.size) := by rw [← hW0011]; simpa [Hid] using hS001c.out
        clear hW0011 hX001c hY001c hZ001c hL001c hS001c hB001c x0010 z0010 z001z0 x0011 z0011 z001z1 x0012 z0012 z001z2 x0013 z0013 z001z3 x0014 z0014 z001z4
        have x00110 : W0011.cell? ⟨X, 0, none⟩ = some (.int .i64 n) := by rw [(row_cell HX0011.out 0).1]; rfl
        have x00111 : W0011.cell? ⟨X, 1, none⟩ = some (.int .i64 o) := by rw [(row_cell HX0011.out 1).1]; rfl
        have x00112 : W0011.cell? ⟨X, 2, none⟩ = some (.int .u32 a) := by rw [(row_cell HX0011.out 2).1]; rfl
        have x00113 : W0011.cell? ⟨X, 3, none⟩ = some (.int .i64 ws) := by rw [(row_cell HX0011.out 3).1]; rfl
        have x00114 : W0011.cell? ⟨X, 4, none⟩ = some (.int .i64 t) := by rw [(row_cell HX0011.out 4).1]; rfl
        go_wp2_with fail
        refine (has_any n o a ws t 8 hn (.inr (.inr (.inr rfl))) _ HL0011.out).mono ?_
        rintro e V0011 ⟨rfl, hb⟩
        have hX0011c : Hid (V0011.heap[X]? = _) := (hb.block X (by have := S0011.out; omega)).trans HX0011.out
        have hY0011c : Hid (V0011.heap[X + 1]? = _) := (hb.block (X + 1) (by have := S0011.out; omega)).trans HY0011.out
        have hZ0011c : Hid (V0011.heap[X + 1 + 1]? = _) := (hb.block (X + 1 + 1) (by have := S0011.out; omega)).trans HZ0011.out
        have hL0011c : Hid (Laid V0011) := HL0011.out.below hb
        have hS0011c : Hid (X + 3 ≤ V0011.heap.size) := Nat.le_trans S0011.out hb.size
        have hB0011c : Hid (Below X w V0011) := B0011.out.trans (hb.mono (by have := S0011.out; omega))
        clear hb HX0011 HY0011 HZ0011 HL0011 B0011 S0011 x00110 x00111 x00112 x00113 x00114
        rw [show hasV n 8 = tB n from rfl]
        rcases Bool.eq_false_or_eq_true (tB n) with hB3 | hB3
        · rw [hB3]
          have x00110 : V0011.cell? ⟨X, 0, none⟩ = some (.int .i64 n) := by rw [(row_cell hX0011c.out 0).1]; rfl
          have x00111 : V0011.cell? ⟨X, 1, none⟩ = some (.int .i64 o) := by rw [(row_cell hX0011c.out 1).1]; rfl
          have x00112 : V0011.cell? ⟨X, 2, none⟩ = some (.int .u32 a) := by rw [(row_cell hX0011c.out 2).1]; rfl
          have x00113 : V0011.cell? ⟨X, 3, none⟩ = some (.int .i64 ws) := by rw [(row_cell hX0011c.out 3).1]; rfl
          have x00114 : V0011.cell? ⟨X, 4, none⟩ = some (.int .i64 t) := by rw [(row_cell hX0011c.out 4).1]; rfl
          have z00110 : V0011.cell? ⟨X + 1 + 1, 0, none⟩ = some (.int .i64 n) := by rw [(row_cell hZ0011c.out 0).1]; rfl
          have z0011z0 : V0011.frozen? ⟨X + 1 + 1, 0, none⟩ = false := (row_cell hZ0011c.out 0).2
          have z00111 : V0011.cell? ⟨X + 1 + 1, 1, none⟩ = some (.int .i64 0) := by rw [(row_cell hZ0011c.out 1).1]; rfl
          have z0011z1 : V0011.frozen? ⟨X + 1 + 1, 1, none⟩ = false := (row_cell hZ0011c.out 1).2
          have z00112 : V0011.cell? ⟨X + 1 + 1, 2, none⟩ = some (.int .u32 a) := by rw [(row_cell hZ0011c.out 2).1]; rfl
          have z0011z2 : V0011.frozen? ⟨X + 1 + 1, 2, none⟩ = false := (row_cell hZ0011c.out 2).2
          have z00113 : V0011.cell? ⟨X + 1 + 1, 3, none⟩ = some (.int .i64 ws) := by rw [(row_cell hZ0011c.out 3).1]; rfl
          have z0011z3 : V0011.frozen? ⟨X + 1 + 1, 3, none⟩ = false := (row_cell hZ0011c.out 3).2
          have z00114 : V0011.cell? ⟨X + 1 + 1, 4, none⟩ = some (.int .i64 0) := by rw [(row_cell hZ0011c.out 4).1]; rfl
          have z0011z4 : V0011.frozen? ⟨X + 1 + 1, 4, none⟩ = false := (row_cell hZ0011c.out 4).2
          go_upto_region 10 with fail
          obtain ⟨W00111, hW00111⟩ : ∃ W, V0011.setCell ⟨X + 1 + 1, 4, none⟩ (.int .i64 t) = W := ⟨_, rfl⟩
          rw [hW00111]
          have HX00111 : Hid (W00111.heap[X]? = some (.cells #[.int .i64 n, .int .i64 o, .int .u32 a, .int .i64 ws, .int .i64 t] 25 (0, 0))) := by rw [← hW00111]; exact (set_far _ _ (by omega)).trans hX0011c.out
          have HY00111 : Hid (W00111.heap[X + 1]? = some (.cells #[.int .i64 0, .int .i64 0, .int .u32 0, .int .i64 0, .int .i64 0] 25 (0, 0))) := by rw [← hW00111]; exact (set_far _ _ (by omega)).trans hY0011c.out
          have HZ00111 : Hid (W00111.heap[X + 1 + 1]? = some (.cells #[.int .i64 n, .int .i64 0, .int .u32 a, .int .i64 ws, .int .i64 t] 25 (0, 0))) := by rw [← hW00111]; exact set_at hZ0011c.out 4 _
          have B00111 : Hid (Below X w W00111) := by rw [← hW00111]; exact hB0011c.out.setCell (by show X ≤ X + 1 + 1; omega) _
          have HL00111 : Hid (Laid W00111) := hL.below (by rw [hX]; exact B00111.out)
          have S00111 : Hid (X + 3 ≤ W00111.heap.size) := by rw [← hW00111]; simpa [Hid] using hS0011c.out
          clear hW00111 hX0011c hY0011c hZ0011c hL0011c hS0011c hB0011c x00110 z00110 z0011z0 x00111 z00111 z0011z1 x00112 z00112 z0011z2 x00113 z00113 z0011z3 x00114 z00114 z0011z4
          have z001110 : W00111.cell? ⟨X + 1 + 1, 0, none⟩ = some (.int .i64 n) := by rw [(row_cell HZ00111.out 0).1]; rfl
          have z001111 : W00111.cell? ⟨X + 1 + 1, 1, none⟩ = some (.int .i64 0) := by rw [(row_cell HZ00111.out 1).1]; rfl
          have z001112 : W00111.cell? ⟨X + 1 + 1, 2, none⟩ = some (.int .u32 a) := by rw [(row_cell HZ00111.out 2).1]; rfl
          have z001113 : W00111.cell? ⟨X + 1 + 1, 3, none⟩ = some (.int .i64 ws) := by rw [(row_cell HZ00111.out 3).1]; rfl
          have z001114 : W00111.cell? ⟨X + 1 + 1, 4, none⟩ = some (.int .i64 t) := by rw [(row_cell HZ00111.out 4).1]; rfl
          have y001110 : W00111.cell? ⟨X + 1, 0, none⟩ = some (.int .i64 0) := by rw [(row_cell HY00111.out 0).1]; rfl
          have y00111z0 : W00111.frozen? ⟨X + 1, 0, none⟩ = false := (row_cell HY00111.out 0).2
          have y001111 : W00111.cell? ⟨X + 1, 1, none⟩ = some (.int .i64 0) := by rw [(row_cell HY00111.out 1).1]; rfl
          have y00111z1 : W00111.frozen? ⟨X + 1, 1, none⟩ = false := (row_cell HY00111.out 1).2
          have y001112 : W00111.cell? ⟨X + 1, 2, none⟩ = some (.int .u32 0) := by rw [(row_cell HY00111.out 2).1]; rfl
          have y00111z2 : W00111.frozen? ⟨X + 1, 2, none⟩ = false := (row_cell HY00111.out 2).2
          have y001113 : W00111.cell? ⟨X + 1, 3, none⟩ = some (.int .i64 0) := by rw [(row_cell HY00111.out 3).1]; rfl
          have y00111z3 : W00111.frozen? ⟨X + 1, 3, none⟩ = false := (row_cell HY00111.out 3).2
          have y001114 : W00111.cell? ⟨X + 1, 4, none⟩ = some (.int .i64 0) := by rw [(row_cell HY00111.out 4).1]; rfl
          have y00111z4 : W00111.frozen? ⟨X + 1, 4, none⟩ = false := (row_cell HY00111.out 4).2
          go_wp2_with fail
          refine bodyPost_ret (results_cell_one rfl _ _ (X + 1) _ _ rfl (set_five HY00111.out _ _ _ _ _) Tryd.underlying25 rfl (by kernel_rfl)) rfl ?_
          exact ⟨by unfold ownV Rq.val; simp only [hB0, hB1, hB2, hB3, if_true, if_false, Bool.false_eq_true], ((((B00111.out.setCell (by exact Nat.le_succ _) _).setCell (by exact Nat.le_succ _) _).setCell (by exact Nat.le_succ _) _).setCell (by exact Nat.le_succ _) _).setCell (by exact Nat.le_succ _) _⟩
        · rw [hB3]
          go_upto_region 10 with fail
          obtain ⟨W00110, hW00110⟩ : ∃ W, W = V0011 := ⟨_, rfl⟩
          subst hW00110
          have HX00110 := hX0011c
          have HY00110 := hY0011c
          have HZ00110 := hZ0011c
          have HL00110 := hL0011c
          have S00110 := hS0011c
          have B00110 := hB0011c
          clear hX0011c hY0011c hZ0011c hL0011c hS0011c hB0011c
          have z001100 : W00110.cell? ⟨X + 1 + 1, 0, none⟩ = some (.int .i64 n) := by rw [(row_cell HZ00110.out 0).1]; rfl
          have z001101 : W00110.cell? ⟨X + 1 + 1, 1, none⟩ = some (.int .i64 0) := by rw [(row_cell HZ00110.out 1).1]; rfl
          have z001102 : W00110.cell? ⟨X + 1 + 1, 2, none⟩ = some (.int .u32 a) := by rw [(row_cell HZ00110.out 2).1]; rfl
          have z001103 : W00110.cell? ⟨X + 1 + 1, 3, none⟩ = some (.int .i64 ws) := by rw [(row_cell HZ00110.out 3).1]; rfl
          have z001104 : W00110.cell? ⟨X + 1 + 1, 4, none⟩ = some (.int .i64 0) := by rw [(row_cell HZ00110.out 4).1]; rfl
          have y001100 : W00110.cell? ⟨X + 1, 0, none⟩ = some (.int .i64 0) := by rw [(row_cell HY00110.out 0).1]; rfl
          have y00110z0 : W00110.frozen? ⟨X + 1, 0, none⟩ = false := (row_cell HY00110.out 0).2
          have y001101 : W00110.cell? ⟨X + 1, 1, none⟩ = some (.int .i64 0) := by rw [(row_cell HY00110.out 1).1]; rfl
          have y00110z1 : W00110.frozen? ⟨X + 1, 1, none⟩ = false := (row_cell HY00110.out 1).2
          have y001102 : W00110.cell? ⟨X + 1, 2, none⟩ = some (.int .u32 0) := by rw [(row_cell HY00110.out 2).1]; rfl
          have y00110z2 : W00110.frozen? ⟨X + 1, 2, none⟩ = false := (row_cell HY00110.out 2).2
          have y001103 : W00110.cell? ⟨X + 1, 3, none⟩ = some (.int .i64 0) := by rw [(row_cell HY00110.out 3).1]; rfl
          have y00110z3 : W00110.frozen? ⟨X + 1, 3, none⟩ = false := (row_cell HY00110.out 3).2
          have y001104 : W00110.cell? ⟨X + 1, 4, none⟩ = some (.int .i64 0) := by rw [(row_cell HY00110.out 4).1]; rfl
          have y00110z4 : W00110.frozen? ⟨X + 1, 4, none⟩ = false := (row_cell HY00110.out 4).2
          go_wp2_with fail
          refine bodyPost_ret (results_cell_one rfl _ _ (X + 1) _ _ rfl (set_five HY00110.out _ _ _ _ _) Tryd.underlying25 rfl (by kernel_rfl)) rfl ?_
          exact ⟨by unfold ownV Rq.val; simp only [hB0, hB1, hB2, hB3, if_true, if_false, Bool.false_eq_true], ((((B00110.out.setCell (by exact Nat.le_succ _) _).setCell (by exact Nat.le_succ _) _).setCell (by exact Nat.le_succ _) _).setCell (by exact Nat.le_succ _) _).setCell (by exact Nat.le_succ _) _⟩
      · rw [hB2]
        go_upto_region 8 with fail
        obtain ⟨W0010, hW0010⟩ : ∃ W, W = V001 := ⟨_, rfl⟩
        subst hW0010
        have HX0010 := hX001c
        have HY0010 := hY001c
        have HZ0010 := hZ001c
        have HL0010 := hL001c
        have S0010 := hS001c
        have B0010 := hB001c
        clear hX001c hY001c hZ001c hL001c hS001c hB001c
        have x00100 : W0010.cell? ⟨X, 0, none⟩ = some (.int .i64 n) := by rw [(row_cell HX0010.out 0).1]; rfl
        have x00101 : W0010.cell? ⟨X, 1, none⟩ = some (.int .i64 o) := by rw [(row_cell HX0010.out 1).1]; rfl
        have x00102 : W0010.cell? ⟨X, 2, none⟩ = some (.int .u32 a) := by rw [(row_cell HX0010.out 2).1]; rfl
        have x00103 : W0010.cell? ⟨X, 3, none⟩ = some (.int .i64 ws) := by rw [(row_cell HX0010.out 3).1]; rfl
        have x00104 : W0010.cell? ⟨X, 4, none⟩ = some (.int .i64 t) := by rw [(row_cell HX0010.out 4).1]; rfl
        go_wp2_with fail
        refine (has_any n o a ws t 8 hn (.inr (.inr (.inr rfl))) _ HL0010.out).mono ?_
        rintro e V0010 ⟨rfl, hb⟩
        have hX0010c : Hid (V0010.heap[X]? = _) := (hb.block X (by have := S0010.out; omega)).trans HX0010.out
        have hY0010c : Hid (V0010.heap[X + 1]? = _) := (hb.block (X + 1) (by have := S0010.out; omega)).trans HY0010.out
        have hZ0010c : Hid (V0010.heap[X + 1 + 1]? = _) := (hb.block (X + 1 + 1) (by have := S0010.out; omega)).trans HZ0010.out
        have hL0010c : Hid (Laid V0010) := HL0010.out.below hb
        have hS0010c : Hid (X + 3 ≤ V0010.heap.size) := Nat.le_trans S0010.out hb.size
        have hB0010c : Hid (Below X w V0010) := B0010.out.trans (hb.mono (by have := S0010.out; omega))
        clear hb HX0010 HY0010 HZ0010 HL0010 B0010 S0010 x00100 x00101 x00102 x00103 x00104
        rw [show hasV n 8 = tB n from rfl]
        rcases Bool.eq_false_or_eq_true (tB n) with hB3 | hB3
        · rw [hB3]
          have x00100 : V0010.cell? ⟨X, 0, none⟩ = some (.int .i64 n) := by rw [(row_cell hX0010c.out 0).1]; rfl
          have x00101 : V0010.cell? ⟨X, 1, none⟩ = some (.int .i64 o) := by rw [(row_cell hX0010c.out 1).1]; rfl
          have x00102 : V0010.cell? ⟨X, 2, none⟩ = some (.int .u32 a) := by rw [(row_cell hX0010c.out 2).1]; rfl
          have x00103 : V0010.cell? ⟨X, 3, none⟩ = some (.int .i64 ws) := by rw [(row_cell hX0010c.out 3).1]; rfl
          have x00104 : V0010.cell? ⟨X, 4, none⟩ = some (.int .i64 t) := by rw [(row_cell hX0010c.out 4).1]; rfl
          have z00100 : V0010.cell? ⟨X + 1 + 1, 0, none⟩ = some (.int .i64 n) := by rw [(row_cell hZ0010c.out 0).1]; rfl
          have z0010z0 : V0010.frozen? ⟨X + 1 + 1, 0, none⟩ = false := (row_cell hZ0010c.out 0).2
          have z00101 : V0010.cell? ⟨X + 1 + 1, 1, none⟩ = some (.int .i64 0) := by rw [(row_cell hZ0010c.out 1).1]; rfl
          have z0010z1 : V0010.frozen? ⟨X + 1 + 1, 1, none⟩ = false := (row_cell hZ0010c.out 1).2
          have z00102 : V0010.cell? ⟨X + 1 + 1, 2, none⟩ = some (.int .u32 a) := by rw [(row_cell hZ0010c.out 2).1]; rfl
          have z0010z2 : V0010.frozen? ⟨X + 1 + 1, 2, none⟩ = false := (row_cell hZ0010c.out 2).2
          have z00103 : V0010.cell? ⟨X + 1 + 1, 3, none⟩ = some (.int .i64 0) := by rw [(row_cell hZ0010c.out 3).1]; rfl
          have z0010z3 : V0010.frozen? ⟨X + 1 + 1, 3, none⟩ = false := (row_cell hZ0010c.out 3).2
          have z00104 : V0010.cell? ⟨X + 1 + 1, 4, none⟩ = some (.int .i64 0) := by rw [(row_cell hZ0010c.out 4).1]; rfl
          have z0010z4 : V0010.frozen? ⟨X + 1 + 1, 4, none⟩ = false := (row_cell hZ0010c.out 4).2
          go_upto_region 10 with fail
          obtain ⟨W00101, hW00101⟩ : ∃ W, V0010.setCell ⟨X + 1 + 1, 4, none⟩ (.int .i64 t) = W := ⟨_, rfl⟩
          rw [hW00101]
          have HX00101 : Hid (W00101.heap[X]? = some (.cells #[.int .i64 n, .int .i64 o, .int .u32 a, .int .i64 ws, .int .i64 t] 25 (0, 0))) := by rw [← hW00101]; exact (set_far _ _ (by omega)).trans hX0010c.out
          have HY00101 : Hid (W00101.heap[X + 1]? = some (.cells #[.int .i64 0, .int .i64 0, .int .u32 0, .int .i64 0, .int .i64 0] 25 (0, 0))) := by rw [← hW00101]; exact (set_far _ _ (by omega)).trans hY0010c.out
          have HZ00101 : Hid (W00101.heap[X + 1 + 1]? = some (.cells #[.int .i64 n, .int .i64 0, .int .u32 a, .int .i64 0, .int .i64 t] 25 (0, 0))) := by rw [← hW00101]; exact set_at hZ0010c.out 4 _
          have B00101 : Hid (Below X w W00101) := by rw [← hW00101]; exact hB0010c.out.setCell (by show X ≤ X + 1 + 1; omega) _
          have HL00101 : Hid (Laid W00101) := hL.below (by rw [hX]; exact B00101.out)
          have S00101 : Hid (X + 3 ≤ W00101.heap.size) := by rw [← hW00101]; simpa [Hid] using hS0010c.out
          clear hW00101 hX0010c hY0010c hZ0010c hL0010c hS0010c hB0010c x00100 z00100 z0010z0 x00101 z00101 z0010z1 x00102 z00102 z0010z2 x00103 z00103 z0010z3 x00104 z00104 z0010z4
          have z001010 : W00101.cell? ⟨X + 1 + 1, 0, none⟩ = some (.int .i64 n) := by rw [(row_cell HZ00101.out 0).1]; rfl
          have z001011 : W00101.cell? ⟨X + 1 + 1, 1, none⟩ = some (.int .i64 0) := by rw [(row_cell HZ00101.out 1).1]; rfl
          have z001012 : W00101.cell? ⟨X + 1 + 1, 2, none⟩ = some (.int .u32 a) := by rw [(row_cell HZ00101.out 2).1]; rfl
          have z001013 : W00101.cell? ⟨X + 1 + 1, 3, none⟩ = some (.int .i64 0) := by rw [(row_cell HZ00101.out 3).1]; rfl
          have z001014 : W00101.cell? ⟨X + 1 + 1, 4, none⟩ = some (.int .i64 t) := by rw [(row_cell HZ00101.out 4).1]; rfl
          have y001010 : W00101.cell? ⟨X + 1, 0, none⟩ = some (.int .i64 0) := by rw [(row_cell HY00101.out 0).1]; rfl
          have y00101z0 : W00101.frozen? ⟨X + 1, 0, none⟩ = false := (row_cell HY00101.out 0).2
          have y001011 : W00101.cell? ⟨X + 1, 1, none⟩ = some (.int .i64 0) := by rw [(row_cell HY00101.out 1).1]; rfl
          have y00101z1 : W00101.frozen? ⟨X + 1, 1, none⟩ = false := (row_cell HY00101.out 1).2
          have y001012 : W00101.cell? ⟨X + 1, 2, none⟩ = some (.int .u32 0) := by rw [(row_cell HY00101.out 2).1]; rfl
          have y00101z2 : W00101.frozen? ⟨X + 1, 2, none⟩ = false := (row_cell HY00101.out 2).2
          have y001013 : W00101.cell? ⟨X + 1, 3, none⟩ = some (.int .i64 0) := by rw [(row_cell HY00101.out 3).1]; rfl
          have y00101z3 : W00101.frozen? ⟨X + 1, 3, none⟩ = false := (row_cell HY00101.out 3).2
          have y001014 : W00101.cell? ⟨X + 1, 4, none⟩ = some (.int .i64 0) := by rw [(row_cell HY00101.out 4).1]; rfl
          have y00101z4 : W00101.frozen? ⟨X + 1, 4, none⟩ = false := (row_cell HY00101.out 4).2
          go_wp2_with fail
          refine bodyPost_ret (results_cell_one rfl _ _ (X + 1) _ _ rfl (set_five HY00101.out _ _ _ _ _) Tryd.underlying25 rfl (by kernel_rfl)) rfl ?_
          exact ⟨by unfold ownV Rq.val; simp only [hB0, hB1, hB2, hB3, if_true, if_false, Bool.false_eq_true], ((((B00101.out.setCell (by exact Nat.le_succ _) _).setCell (by exact Nat.le_succ _) _).setCell (by exact Nat.le_succ _) _).setCell (by exact Nat.le_succ _) _).setCell (by exact Nat.le_succ _) _⟩
        · rw [hB3]
          go_upto_region 10 with fail
          obtain ⟨W00100, hW00100⟩ : ∃ W, W = V0010 := ⟨_, rfl⟩
          subst hW00100
          have HX00100 := hX0010c
          have HY00100 := hY0010c
          have HZ00100 := hZ0010c
          have HL00100 := hL0010c
          have S00100 := hS0010c
          have B00100 := hB0010c
          clear hX0010c hY0010c hZ0010c hL0010c hS0010c hB0010c
          have z001000 : W00100.cell? ⟨X + 1 + 1, 0, none⟩ = some (.int .i64 n) := by rw [(row_cell HZ00100.out 0).1]; rfl
          have z001001 : W00100.cell? ⟨X + 1 + 1, 1, none⟩ = some (.int .i64 0) := by rw [(row_cell HZ00100.out 1).1]; rfl
          have z001002 : W00100.cell? ⟨X + 1 + 1, 2, none⟩ = some (.int .u32 a) := by rw [(row_cell HZ00100.out 2).1]; rfl
          have z001003 : W00100.cell? ⟨X + 1 + 1, 3, none⟩ = some (.int .i64 0) := by rw [(row_cell HZ00100.out 3).1]; rfl
          have z001004 : W00100.cell? ⟨X + 1 + 1, 4, none⟩ = some (.int .i64 0) := by rw [(row_cell HZ00100.out 4).1]; rfl
          have y001000 : W00100.cell? ⟨X + 1, 0, none⟩ = some (.int .i64 0) := by rw [(row_cell HY00100.out 0).1]; rfl
          have y00100z0 : W00100.frozen? ⟨X + 1, 0, none⟩ = false := (row_cell HY00100.out 0).2
          have y001001 : W00100.cell? ⟨X + 1, 1, none⟩ = some (.int .i64 0) := by rw [(row_cell HY00100.out 1).1]; rfl
          have y00100z1 : W00100.frozen? ⟨X + 1, 1, none⟩ = false := (row_cell HY00100.out 1).2
          have y001002 : W00100.cell? ⟨X + 1, 2, none⟩ = some (.int .u32 0) := by rw [(row_cell HY00100.out 2).1]; rfl
          have y00100z2 : W00100.frozen? ⟨X + 1, 2, none⟩ = false := (row_cell HY00100.out 2).2
          have y001003 : W00100.cell? ⟨X + 1, 3, none⟩ = some (.int .i64 0) := by rw [(row_cell HY00100.out 3).1]; rfl
          have y00100z3 : W00100.frozen? ⟨X + 1, 3, none⟩ = false := (row_cell HY00100.out 3).2
          have y001004 : W00100.cell? ⟨X + 1, 4, none⟩ = some (.int .i64 0) := by rw [(row_cell HY00100.out 4).1]; rfl
          have y00100z4 : W00100.frozen? ⟨X + 1, 4, none⟩ = false := (row_cell HY00100.out 4).2
          go_wp2_with fail
          refine bodyPost_ret (results_cell_one rfl _ _ (X + 1) _ _ rfl (set_five HY00100.out _ _ _ _ _) Tryd.underlying25 rfl (by kernel_rfl)) rfl ?_
          exact ⟨by unfold ownV Rq.val; simp only [hB0, hB1, hB2, hB3, if_true, if_false, Bool.false_eq_true], ((((B00100.out.setCell (by exact Nat.le_succ _) _).setCell (by exact Nat.le_succ _) _).setCell (by exact Nat.le_succ _) _).setCell (by exact Nat.le_succ _) _).setCell (by exact Nat.le_succ _) _⟩
    · rw [hB1]
      go_upto_region 6 with fail
      obtain ⟨W000, hW000⟩ : ∃ W, W = V00 := ⟨_, rfl⟩
      subst hW000
      have HX000 := hX00c
      have HY000 := hY00c
      have HZ000 := hZ00c
      have HL000 := hL00c
      have S000 := hS00c
      have B000 := hB00c
      clear hX00c hY00c hZ00c hL00c hS00c hB00c
      have x0000 : W000.cell? ⟨X, 0, none⟩ = some (.int .i64 n) := by rw [(row_cell HX000.out 0).1]; rfl
      have x0001 : W000.cell? ⟨X, 1, none⟩ = some (.int .i64 o) := by rw [(row_cell HX000.out 1).1]; rfl
      have x0002 : W000.cell? ⟨X, 2, none⟩ = some (.int .u32 a) := by rw [(row_cell HX000.out 2).1]; rfl
      have x0003 : W000.cell? ⟨X, 3, none⟩ = some (.int .i64 ws) := by rw [(row_cell HX000.out 3).1]; rfl
      have x0004 : W000.cell? ⟨X, 4, none⟩ = some (.int .i64 t) := by rw [(row_cell HX000.out 4).1]; rfl
      go_wp2_with fail
      refine (has_any n o a ws t 4 hn (.inr (.inr (.inl rfl))) _ HL000.out).mono ?_
      rintro e V000 ⟨rfl, hb⟩
      have hX000c : Hid (V000.heap[X]? = _) := (hb.block X (by have := S000.out; omega)).trans HX000.out
      have hY000c : Hid (V000.heap[X + 1]? = _) := (hb.block (X + 1) (by have := S000.out; omega)).trans HY000.out
      have hZ000c : Hid (V000.heap[X + 1 + 1]? = _) := (hb.block (X + 1 + 1) (by have := S000.out; omega)).trans HZ000.out
      have hL000c : Hid (Laid V000) := HL000.out.below hb
      have hS000c : Hid (X + 3 ≤ V000.heap.size) := Nat.le_trans S000.out hb.size
      have hB000c : Hid (Below X w V000) := B000.out.trans (hb.mono (by have := S000.out; omega))
      clear hb HX000 HY000 HZ000 HL000 B000 S000 x0000 x0001 x0002 x0003 x0004
      rw [show hasV n 4 = wB n from rfl]
      rcases Bool.eq_false_or_eq_true (wB n) with hB2 | hB2
      · rw [hB2]
        have x0000 : V000.cell? ⟨X, 0, none⟩ = some (.int .i64 n) := by rw [(row_cell hX000c.out 0).1]; rfl
        have x0001 : V000.cell? ⟨X, 1, none⟩ = some (.int .i64 o) := by rw [(row_cell hX000c.out 1).1]; rfl
        have x0002 : V000.cell? ⟨X, 2, none⟩ = some (.int .u32 a) := by rw [(row_cell hX000c.out 2).1]; rfl
        have x0003 : V000.cell? ⟨X, 3, none⟩ = some (.int .i64 ws) := by rw [(row_cell hX000c.out 3).1]; rfl
        have x0004 : V000.cell? ⟨X, 4, none⟩ = some (.int .i64 t) := by rw [(row_cell hX000c.out 4).1]; rfl
        have z0000 : V000.cell? ⟨X + 1 + 1, 0, none⟩ = some (.int .i64 n) := by rw [(row_cell hZ000c.out 0).1]; rfl
        have z000z0 : V000.frozen? ⟨X + 1 + 1, 0, none⟩ = false := (row_cell hZ000c.out 0).2
        have z0001 : V000.cell? ⟨X + 1 + 1, 1, none⟩ = some (.int .i64 0) := by rw [(row_cell hZ000c.out 1).1]; rfl
        have z000z1 : V000.frozen? ⟨X + 1 + 1, 1, none⟩ = false := (row_cell hZ000c.out 1).2
        have z0002 : V000.cell? ⟨X + 1 + 1, 2, none⟩ = some (.int .u32 0) := by rw [(row_cell hZ000c.out 2).1]; rfl
        have z000z2 : V000.frozen? ⟨X + 1 + 1, 2, none⟩ = false := (row_cell hZ000c.out 2).2
        have z0003 : V000.cell? ⟨X + 1 + 1, 3, none⟩ = some (.int .i64 0) := by rw [(row_cell hZ000c.out 3).1]; rfl
        have z000z3 : V000.frozen? ⟨X + 1 + 1, 3, none⟩ = false := (row_cell hZ000c.out 3).2
        have z0004 : V000.cell? ⟨X + 1 + 1, 4, none⟩ = some (.int .i64 0) := by rw [(row_cell hZ000c.out 4).1]; rfl
        have z000z4 : V000.frozen? ⟨X + 1 + 1, 4, none⟩ = false := (row_cell hZ000c.out 4).2
        go_upto_region 8 with fail
        obtain ⟨W0001, hW0001⟩ : ∃ W, V000.setCell ⟨X + 1 + 1, 3, none⟩ (.int .i64 ws) = W := ⟨_, rfl⟩
        rw [hW0001]
        have HX0001 : Hid (W0001.heap[X]? = some (.cells #[.int .i64 n, .int .i64 o, .int .u32 a, .int .i64 ws, .int .i64 t] 25 (0, 0))) := by rw [← hW0001]; exact (set_far _ _ (by omega)).trans hX000c.out
        have HY0001 : Hid (W0001.heap[X + 1]? = some (.cells #[.int .i64 0, .int .i64 0, .int .u32 0, .int .i64 0, .int .i64 0] 25 (0, 0))) := by rw [← hW0001]; exact (set_far _ _ (by omega)).trans hY000c.out
        have HZ0001 : Hid (W0001.heap[X + 1 + 1]? = some (.cells #[.int .i64 n, .int .i64 0, .int .u32 0, .int .i64 ws, .int .i64 0] 25 (0, 0))) := by rw [← hW0001]; exact set_at hZ000c.out 3 _
        have B0001 : Hid (Below X w W0001) := by rw [← hW0001]; exact hB000c.out.setCell (by show X ≤ X + 1 + 1; omega) _
        have HL0001 : Hid (Laid W0001) := hL.below (by rw [hX]; exact B0001.out)
        have S0001 : Hid (X + 3 ≤ W0001.heap.size) := by rw [← hW0001]; simpa [Hid] using hS000c.out
        clear hW0001 hX000c hY000c hZ000c hL000c hS000c hB000c x0000 z0000 z000z0 x0001 z0001 z000z1 x0002 z0002 z000z2 x0003 z0003 z000z3 x0004 z0004 z000z4
        have x00010 : W0001.cell? ⟨X, 0, none⟩ = some (.int .i64 n) := by rw [(row_cell HX0001.out 0).1]; rfl
        have x00011 : W0001.cell? ⟨X, 1, none⟩ = some (.int .i64 o) := by rw [(row_cell HX0001.out 1).1]; rfl
        have x00012 : W0001.cell? ⟨X, 2, none⟩ = some (.int .u32 a) := by rw [(row_cell HX0001.out 2).1]; rfl
        have x00013 : W0001.cell? ⟨X, 3, none⟩ = some (.int .i64 ws) := by rw [(row_cell HX0001.out 3).1]; rfl
        have x00014 : W0001.cell? ⟨X, 4, none⟩ = some (.int .i64 t) := by rw [(row_cell HX0001.out 4).1]; rfl
        go_wp2_with fail
        refine (has_any n o a ws t 8 hn (.inr (.inr (.inr rfl))) _ HL0001.out).mono ?_
        rintro e V0001 ⟨rfl, hb⟩
        have hX0001c : Hid (V0001.heap[X]? = _) := (hb.block X (by have := S0001.out; omega)).trans HX0001.out
        have hY0001c : Hid (V0001.heap[X + 1]? = _) := (hb.block (X + 1) (by have := S0001.out; omega)).trans HY0001.out
        have hZ0001c : Hid (V0001.heap[X + 1 + 1]? = _) := (hb.block (X + 1 + 1) (by have := S0001.out; omega)).trans HZ0001.out
        have hL0001c : Hid (Laid V0001) := HL0001.out.below hb
        have hS0001c : Hid (X + 3 ≤ V0001.heap.size) := Nat.le_trans S0001.out hb.size
        have hB0001c : Hid (Below X w V0001) := B0001.out.trans (hb.mono (by have := S0001.out; omega))
        clear hb HX0001 HY0001 HZ0001 HL0001 B0001 S0001 x00010 x00011 x00012 x00013 x00014
        rw [show hasV n 8 = tB n from rfl]
        rcases Bool.eq_false_or_eq_true (tB n) with hB3 | hB3
        · rw [hB3]
          have x00010 : V0001.cell? ⟨X, 0, none⟩ = some (.int .i64 n) := by rw [(row_cell hX0001c.out 0).1]; rfl
          have x00011 : V0001.cell? ⟨X, 1, none⟩ = some (.int .i64 o) := by rw [(row_cell hX0001c.out 1).1]; rfl
          have x00012 : V0001.cell? ⟨X, 2, none⟩ = some (.int .u32 a) := by rw [(row_cell hX0001c.out 2).1]; rfl
          have x00013 : V0001.cell? ⟨X, 3, none⟩ = some (.int .i64 ws) := by rw [(row_cell hX0001c.out 3).1]; rfl
          have x00014 : V0001.cell? ⟨X, 4, none⟩ = some (.int .i64 t) := by rw [(row_cell hX0001c.out 4).1]; rfl
          have z00010 : V0001.cell? ⟨X + 1 + 1, 0, none⟩ = some (.int .i64 n) := by rw [(row_cell hZ0001c.out 0).1]; rfl
          have z0001z0 : V0001.frozen? ⟨X + 1 + 1, 0, none⟩ = false := (row_cell hZ0001c.out 0).2
          have z00011 : V0001.cell? ⟨X + 1 + 1, 1, none⟩ = some (.int .i64 0) := by rw [(row_cell hZ0001c.out 1).1]; rfl
          have z0001z1 : V0001.frozen? ⟨X + 1 + 1, 1, none⟩ = false := (row_cell hZ0001c.out 1).2
          have z00012 : V0001.cell? ⟨X + 1 + 1, 2, none⟩ = some (.int .u32 0) := by rw [(row_cell hZ0001c.out 2).1]; rfl
          have z0001z2 : V0001.frozen? ⟨X + 1 + 1, 2, none⟩ = false := (row_cell hZ0001c.out 2).2
          have z00013 : V0001.cell? ⟨X + 1 + 1, 3, none⟩ = some (.int .i64 ws) := by rw [(row_cell hZ0001c.out 3).1]; rfl
          have z0001z3 : V0001.frozen? ⟨X + 1 + 1, 3, none⟩ = false := (row_cell hZ0001c.out 3).2
          have z00014 : V0001.cell? ⟨X + 1 + 1, 4, none⟩ = some (.int .i64 0) := by rw [(row_cell hZ0001c.out 4).1]; rfl
          have z0001z4 : V0001.frozen? ⟨X + 1 + 1, 4, none⟩ = false := (row_cell hZ0001c.out 4).2
          go_upto_region 10 with fail
          obtain ⟨W00011, hW00011⟩ : ∃ W, V0001.setCell ⟨X + 1 + 1, 4, none⟩ (.int .i64 t) = W := ⟨_, rfl⟩
          rw [hW00011]
          have HX00011 : Hid (W00011.heap[X]? = some (.cells #[.int .i64 n, .int .i64 o, .int .u32 a, .int .i64 ws, .int .i64 t] 25 (0, 0))) := by rw [← hW00011]; exact (set_far _ _ (by omega)).trans hX0001c.out
          have HY00011 : Hid (W00011.heap[X + 1]? = some (.cells #[.int .i64 0, .int .i64 0, .int .u32 0, .int .i64 0, .int .i64 0] 25 (0, 0))) := by rw [← hW00011]; exact (set_far _ _ (by omega)).trans hY0001c.out
          have HZ00011 : Hid (W00011.heap[X + 1 + 1]? = some (.cells #[.int .i64 n, .int .i64 0, .int .u32 0, .int .i64 ws, .int .i64 t] 25 (0, 0))) := by rw [← hW00011]; exact set_at hZ0001c.out 4 _
          have B00011 : Hid (Below X w W00011) := by rw [← hW00011]; exact hB0001c.out.setCell (by show X ≤ X + 1 + 1; omega) _
          have HL00011 : Hid (Laid W00011) := hL.below (by rw [hX]; exact B00011.out)
          have S00011 : Hid (X + 3 ≤ W00011.heap.size) := by rw [← hW00011]; simpa [Hid] using hS0001c.out
          clear hW00011 hX0001c hY0001c hZ0001c hL0001c hS0001c hB0001c x00010 z00010 z0001z0 x00011 z00011 z0001z1 x00012 z00012 z0001z2 x00013 z00013 z0001z3 x00014 z00014 z0001z4
          have z000110 : W00011.cell? ⟨X + 1 + 1, 0, none⟩ = some (.int .i64 n) := by rw [(row_cell HZ00011.out 0).1]; rfl
          have z000111 : W00011.cell? ⟨X + 1 + 1, 1, none⟩ = some (.int .i64 0) := by rw [(row_cell HZ00011.out 1).1]; rfl
          have z000112 : W00011.cell? ⟨X + 1 + 1, 2, none⟩ = some (.int .u32 0) := by rw [(row_cell HZ00011.out 2).1]; rfl
          have z000113 : W00011.cell? ⟨X + 1 + 1, 3, none⟩ = some (.int .i64 ws) := by rw [(row_cell HZ00011.out 3).1]; rfl
          have z000114 : W00011.cell? ⟨X + 1 + 1, 4, none⟩ = some (.int .i64 t) := by rw [(row_cell HZ00011.out 4).1]; rfl
          have y000110 : W00011.cell? ⟨X + 1, 0, none⟩ = some (.int .i64 0) := by rw [(row_cell HY00011.out 0).1]; rfl
          have y00011z0 : W00011.frozen? ⟨X + 1, 0, none⟩ = false := (row_cell HY00011.out 0).2
          have y000111 : W00011.cell? ⟨X + 1, 1, none⟩ = some (.int .i64 0) := by rw [(row_cell HY00011.out 1).1]; rfl
          have y00011z1 : W00011.frozen? ⟨X + 1, 1, none⟩ = false := (row_cell HY00011.out 1).2
          have y000112 : W00011.cell? ⟨X + 1, 2, none⟩ = some (.int .u32 0) := by rw [(row_cell HY00011.out 2).1]; rfl
          have y00011z2 : W00011.frozen? ⟨X + 1, 2, none⟩ = false := (row_cell HY00011.out 2).2
          have y000113 : W00011.cell? ⟨X + 1, 3, none⟩ = some (.int .i64 0) := by rw [(row_cell HY00011.out 3).1]; rfl
          have y00011z3 : W00011.frozen? ⟨X + 1, 3, none⟩ = false := (row_cell HY00011.out 3).2
          have y000114 : W00011.cell? ⟨X + 1, 4, none⟩ = some (.int .i64 0) := by rw [(row_cell HY00011.out 4).1]; rfl
          have y00011z4 : W00011.frozen? ⟨X + 1, 4, none⟩ = false := (row_cell HY00011.out 4).2
          go_wp2_with fail
          refine bodyPost_ret (results_cell_one rfl _ _ (X + 1) _ _ rfl (set_five HY00011.out _ _ _ _ _) Tryd.underlying25 rfl (by kernel_rfl)) rfl ?_
          exact ⟨by unfold ownV Rq.val; simp only [hB0, hB1, hB2, hB3, if_true, if_false, Bool.false_eq_true], ((((B00011.out.setCell (by exact Nat.le_succ _) _).setCell (by exact Nat.le_succ _) _).setCell (by exact Nat.le_succ _) _).setCell (by exact Nat.le_succ _) _).setCell (by exact Nat.le_succ _) _⟩
        · rw [hB3]
          go_upto_region 10 with fail
          obtain ⟨W00010, hW00010⟩ : ∃ W, W = V0001 := ⟨_, rfl⟩
          subst hW00010
          have HX00010 := hX0001c
          have HY00010 := hY0001c
          have HZ00010 := hZ0001c
          have HL00010 := hL0001c
          have S00010 := hS0001c
          have B00010 := hB0001c
          clear hX0001c hY0001c hZ0001c hL0001c hS0001c hB0001c
          have z000100 : W00010.cell? ⟨X + 1 + 1, 0, none⟩ = some (.int .i64 n) := by rw [(row_cell HZ00010.out 0).1]; rfl
          have z000101 : W00010.cell? ⟨X + 1 + 1, 1, none⟩ = some (.int .i64 0) := by rw [(row_cell HZ00010.out 1).1]; rfl
          have z000102 : W00010.cell? ⟨X + 1 + 1, 2, none⟩ = some (.int .u32 0) := by rw [(row_cell HZ00010.out 2).1]; rfl
          have z000103 : W00010.cell? ⟨X + 1 + 1, 3, none⟩ = some (.int .i64 ws) := by rw [(row_cell HZ00010.out 3).1]; rfl
          have z000104 : W00010.cell? ⟨X + 1 + 1, 4, none⟩ = some (.int .i64 0) := by rw [(row_cell HZ00010.out 4).1]; rfl
          have y000100 : W00010.cell? ⟨X + 1, 0, none⟩ = some (.int .i64 0) := by rw [(row_cell HY00010.out 0).1]; rfl
          have y00010z0 : W00010.frozen? ⟨X + 1, 0, none⟩ = false := (row_cell HY00010.out 0).2
          have y000101 : W00010.cell? ⟨X + 1, 1, none⟩ = some (.int .i64 0) := by rw [(row_cell HY00010.out 1).1]; rfl
          have y00010z1 : W00010.frozen? ⟨X + 1, 1, none⟩ = false := (row_cell HY00010.out 1).2
          have y000102 : W00010.cell? ⟨X + 1, 2, none⟩ = some (.int .u32 0) := by rw [(row_cell HY00010.out 2).1]; rfl
          have y00010z2 : W00010.frozen? ⟨X + 1, 2, none⟩ = false := (row_cell HY00010.out 2).2
          have y000103 : W00010.cell? ⟨X + 1, 3, none⟩ = some (.int .i64 0) := by rw [(row_cell HY00010.out 3).1]; rfl
          have y00010z3 : W00010.frozen? ⟨X + 1, 3, none⟩ = false := (row_cell HY00010.out 3).2
          have y000104 : W00010.cell? ⟨X + 1, 4, none⟩ = some (.int .i64 0) := by rw [(row_cell HY00010.out 4).1]; rfl
          have y00010z4 : W00010.frozen? ⟨X + 1, 4, none⟩ = false := (row_cell HY00010.out 4).2
          go_wp2_with fail
          refine bodyPost_ret (results_cell_one rfl _ _ (X + 1) _ _ rfl (set_five HY00010.out _ _ _ _ _) Tryd.underlying25 rfl (by kernel_rfl)) rfl ?_
          exact ⟨by unfold ownV Rq.val; simp only [hB0, hB1, hB2, hB3, if_true, if_false, Bool.false_eq_true], ((((B00010.out.setCell (by exact Nat.le_succ _) _).setCell (by exact Nat.le_succ _) _).setCell (by exact Nat.le_succ _) _).setCell (by exact Nat.le_succ _) _).setCell (by exact Nat.le_succ _) _⟩
      · rw [hB2]
        go_upto_region 8 with fail
        obtain ⟨W0000, hW0000⟩ : ∃ W, W = V000 := ⟨_, rfl⟩
        subst hW0000
        have HX0000 := hX000c
        have HY0000 := hY000c
        have HZ0000 := hZ000c
        have HL0000 := hL000c
        have S0000 := hS000c
        have B0000 := hB000c
        clear hX000c hY000c hZ000c hL000c hS000c hB000c
        have x00000 : W0000.cell? ⟨X, 0, none⟩ = some (.int .i64 n) := by rw [(row_cell HX0000.out 0).1]; rfl
        have x00001 : W0000.cell? ⟨X, 1, none⟩ = some (.int .i64 o) := by rw [(row_cell HX0000.out 1).1]; rfl
        have x00002 : W0000.cell? ⟨X, 2, none⟩ = some (.int .u32 a) := by rw [(row_cell HX0000.out 2).1]; rfl
        have x00003 : W0000.cell? ⟨X, 3, none⟩ = some (.int .i64 ws) := by rw [(row_cell HX0000.out 3).1]; rfl
        have x00004 : W0000.cell? ⟨X, 4, none⟩ = some (.int .i64 t) := by rw [(row_cell HX0000.out 4).1]; rfl
        go_wp2_with fail
        refine (has_any n o a ws t 8 hn (.inr (.inr (.inr rfl))) _ HL0000.out).mono ?_
        rintro e V0000 ⟨rfl, hb⟩
        have hX0000c : Hid (V0000.heap[X]? = _) := (hb.block X (by have := S0000.out; omega)).trans HX0000.out
        have hY0000c : Hid (V0000.heap[X + 1]? = _) := (hb.block (X + 1) (by have := S0000.out; omega)).trans HY0000.out
        have hZ0000c : Hid (V0000.heap[X + 1 + 1]? = _) := (hb.block (X + 1 + 1) (by have := S0000.out; omega)).trans HZ0000.out
        have hL0000c : Hid (Laid V0000) := HL0000.out.below hb
        have hS0000c : Hid (X + 3 ≤ V0000.heap.size) := Nat.le_trans S0000.out hb.size
        have hB0000c : Hid (Below X w V0000) := B0000.out.trans (hb.mono (by have := S0000.out; omega))
        clear hb HX0000 HY0000 HZ0000 HL0000 B0000 S0000 x00000 x00001 x00002 x00003 x00004
        rw [show hasV n 8 = tB n from rfl]
        rcases Bool.eq_false_or_eq_true (tB n) with hB3 | hB3
        · rw [hB3]
          have x00000 : V0000.cell? ⟨X, 0, none⟩ = some (.int .i64 n) := by rw [(row_cell hX0000c.out 0).1]; rfl
          have x00001 : V0000.cell? ⟨X, 1, none⟩ = some (.int .i64 o) := by rw [(row_cell hX0000c.out 1).1]; rfl
          have x00002 : V0000.cell? ⟨X, 2, none⟩ = some (.int .u32 a) := by rw [(row_cell hX0000c.out 2).1]; rfl
          have x00003 : V0000.cell? ⟨X, 3, none⟩ = some (.int .i64 ws) := by rw [(row_cell hX0000c.out 3).1]; rfl
          have x00004 : V0000.cell? ⟨X, 4, none⟩ = some (.int .i64 t) := by rw [(row_cell hX0000c.out 4).1]; rfl
          have z00000 : V0000.cell? ⟨X + 1 + 1, 0, none⟩ = some (.int .i64 n) := by rw [(row_cell hZ0000c.out 0).1]; rfl
          have z0000z0 : V0000.frozen? ⟨X + 1 + 1, 0, none⟩ = false := (row_cell hZ0000c.out 0).2
          have z00001 : V0000.cell? ⟨X + 1 + 1, 1, none⟩ = some (.int .i64 0) := by rw [(row_cell hZ0000c.out 1).1]; rfl
          have z0000z1 : V0000.frozen? ⟨X + 1 + 1, 1, none⟩ = false := (row_cell hZ0000c.out 1).2
          have z00002 : V0000.cell? ⟨X + 1 + 1, 2, none⟩ = some (.int .u32 0) := by rw [(row_cell hZ0000c.out 2).1]; rfl
          have z0000z2 : V0000.frozen? ⟨X + 1 + 1, 2, none⟩ = false := (row_cell hZ0000c.out 2).2
          have z00003 : V0000.cell? ⟨X + 1 + 1, 3, none⟩ = some (.int .i64 0) := by rw [(row_cell hZ0000c.out 3).1]; rfl
          have z0000z3 : V0000.frozen? ⟨X + 1 + 1, 3, none⟩ = false := (row_cell hZ0000c.out 3).2
          have z00004 : V0000.cell? ⟨X + 1 + 1, 4, none⟩ = some (.int .i64 0) := by rw [(row_cell hZ0000c.out 4).1]; rfl
          have z0000z4 : V0000.frozen? ⟨X + 1 + 1, 4, none⟩ = false := (row_cell hZ0000c.out 4).2
          go_upto_region 10 with fail
          obtain ⟨W00001, hW00001⟩ : ∃ W, V0000.setCell ⟨X + 1 + 1, 4, none⟩ (.int .i64 t) = W := ⟨_, rfl⟩
          rw [hW00001]
          have HX00001 : Hid (W00001.heap[X]? = some (.cells #[.int .i64 n, .int .i64 o, .int .u32 a, .int .i64 ws, .int .i64 t] 25 (0, 0))) := by rw [← hW00001]; exact (set_far _ _ (by omega)).trans hX0000c.out
          have HY00001 : Hid (W00001.heap[X + 1]? = some (.cells #[.int .i64 0, .int .i64 0, .int .u32 0, .int .i64 0, .int .i64 0] 25 (0, 0))) := by rw [← hW00001]; exact (set_far _ _ (by omega)).trans hY0000c.out
          have HZ00001 : Hid (W00001.heap[X + 1 + 1]? = some (.cells #[.int .i64 n, .int .i64 0, .int .u32 0, .int .i64 0, .int .i64 t] 25 (0, 0))) := by rw [← hW00001]; exact set_at hZ0000c.out 4 _
          have B00001 : Hid (Below X w W00001) := by rw [← hW00001]; exact hB0000c.out.setCell (by show X ≤ X + 1 + 1; omega) _
          have HL00001 : Hid (Laid W00001) := hL.below (by rw [hX]; exact B00001.out)
          have S00001 : Hid (X + 3 ≤ W00001.heap.size) := by rw [← hW00001]; simpa [Hid] using hS0000c.out
          clear hW00001 hX0000c hY0000c hZ0000c hL0000c hS0000c hB0000c x00000 z00000 z0000z0 x00001 z00001 z0000z1 x00002 z00002 z0000z2 x00003 z00003 z0000z3 x00004 z00004 z0000z4
          have z000010 : W00001.cell? ⟨X + 1 + 1, 0, none⟩ = some (.int .i64 n) := by rw [(row_cell HZ00001.out 0).1]; rfl
          have z000011 : W00001.cell? ⟨X + 1 + 1, 1, none⟩ = some (.int .i64 0) := by rw [(row_cell HZ00001.out 1).1]; rfl
          have z000012 : W00001.cell? ⟨X + 1 + 1, 2, none⟩ = some (.int .u32 0) := by rw [(row_cell HZ00001.out 2).1]; rfl
          have z000013 : W00001.cell? ⟨X + 1 + 1, 3, none⟩ = some (.int .i64 0) := by rw [(row_cell HZ00001.out 3).1]; rfl
          have z000014 : W00001.cell? ⟨X + 1 + 1, 4, none⟩ = some (.int .i64 t) := by rw [(row_cell HZ00001.out 4).1]; rfl
          have y000010 : W00001.cell? ⟨X + 1, 0, none⟩ = some (.int .i64 0) := by rw [(row_cell HY00001.out 0).1]; rfl
          have y00001z0 : W00001.frozen? ⟨X + 1, 0, none⟩ = false := (row_cell HY00001.out 0).2
          have y000011 : W00001.cell? ⟨X + 1, 1, none⟩ = some (.int .i64 0) := by rw [(row_cell HY00001.out 1).1]; rfl
          have y00001z1 : W00001.frozen? ⟨X + 1, 1, none⟩ = false := (row_cell HY00001.out 1).2
          have y000012 : W00001.cell? ⟨X + 1, 2, none⟩ = some (.int .u32 0) := by rw [(row_cell HY00001.out 2).1]; rfl
          have y00001z2 : W00001.frozen? ⟨X + 1, 2, none⟩ = false := (row_cell HY00001.out 2).2
          have y000013 : W00001.cell? ⟨X + 1, 3, none⟩ = some (.int .i64 0) := by rw [(row_cell HY00001.out 3).1]; rfl
          have y00001z3 : W00001.frozen? ⟨X + 1, 3, none⟩ = false := (row_cell HY00001.out 3).2
          have y000014 : W00001.cell? ⟨X + 1, 4, none⟩ = some (.int .i64 0) := by rw [(row_cell HY00001.out 4).1]; rfl
          have y00001z4 : W00001.frozen? ⟨X + 1, 4, none⟩ = false := (row_cell HY00001.out 4).2
          go_wp2_with fail
          refine bodyPost_ret (results_cell_one rfl _ _ (X + 1) _ _ rfl (set_five HY00001.out _ _ _ _ _) Tryd.underlying25 rfl (by kernel_rfl)) rfl ?_
          exact ⟨by unfold ownV Rq.val; simp only [hB0, hB1, hB2, hB3, if_true, if_false, Bool.false_eq_true], ((((B00001.out.setCell (by exact Nat.le_succ _) _).setCell (by exact Nat.le_succ _) _).setCell (by exact Nat.le_succ _) _).setCell (by exact Nat.le_succ _) _).setCell (by exact Nat.le_succ _) _⟩
        · rw [hB3]
          go_upto_region 10 with fail
          obtain ⟨W00000, hW00000⟩ : ∃ W, W = V0000 := ⟨_, rfl⟩
          subst hW00000
          have HX00000 := hX0000c
          have HY00000 := hY0000c
          have HZ00000 := hZ0000c
          have HL00000 := hL0000c
          have S00000 := hS0000c
          have B00000 := hB0000c
          clear hX0000c hY0000c hZ0000c hL0000c hS0000c hB0000c
          have z000000 : W00000.cell? ⟨X + 1 + 1, 0, none⟩ = some (.int .i64 n) := by rw [(row_cell HZ00000.out 0).1]; rfl
          have z000001 : W00000.cell? ⟨X + 1 + 1, 1, none⟩ = some (.int .i64 0) := by rw [(row_cell HZ00000.out 1).1]; rfl
          have z000002 : W00000.cell? ⟨X + 1 + 1, 2, none⟩ = some (.int .u32 0) := by rw [(row_cell HZ00000.out 2).1]; rfl
          have z000003 : W00000.cell? ⟨X + 1 + 1, 3, none⟩ = some (.int .i64 0) := by rw [(row_cell HZ00000.out 3).1]; rfl
          have z000004 : W00000.cell? ⟨X + 1 + 1, 4, none⟩ = some (.int .i64 0) := by rw [(row_cell HZ00000.out 4).1]; rfl
          have y000000 : W00000.cell? ⟨X + 1, 0, none⟩ = some (.int .i64 0) := by rw [(row_cell HY00000.out 0).1]; rfl
          have y00000z0 : W00000.frozen? ⟨X + 1, 0, none⟩ = false := (row_cell HY00000.out 0).2
          have y000001 : W00000.cell? ⟨X + 1, 1, none⟩ = some (.int .i64 0) := by rw [(row_cell HY00000.out 1).1]; rfl
          have y00000z1 : W00000.frozen? ⟨X + 1, 1, none⟩ = false := (row_cell HY00000.out 1).2
          have y000002 : W00000.cell? ⟨X + 1, 2, none⟩ = some (.int .u32 0) := by rw [(row_cell HY00000.out 2).1]; rfl
          have y00000z2 : W00000.frozen? ⟨X + 1, 2, none⟩ = false := (row_cell HY00000.out 2).2
          have y000003 : W00000.cell? ⟨X + 1, 3, none⟩ = some (.int .i64 0) := by rw [(row_cell HY00000.out 3).1]; rfl
          have y00000z3 : W00000.frozen? ⟨X + 1, 3, none⟩ = false := (row_cell HY00000.out 3).2
          have y000004 : W00000.cell? ⟨X + 1, 4, none⟩ = some (.int .i64 0) := by rw [(row_cell HY00000.out 4).1]; rfl
          have y00000z4 : W00000.frozen? ⟨X + 1, 4, none⟩ = false := (row_cell HY00000.out 4).2
          go_wp2_with fail
          refine bodyPost_ret (results_cell_one rfl _ _ (X + 1) _ _ rfl (set_five HY00000.out _ _ _ _ _) Tryd.underlying25 rfl (by kernel_rfl)) rfl ?_
          exact ⟨by unfold ownV Rq.val; simp only [hB0, hB1, hB2, hB3, if_true, if_false, Bool.false_eq_true], ((((B00000.out.setCell (by exact Nat.le_succ _) _).setCell (by exact Nat.le_succ _) _).setCell (by exact Nat.le_succ _) _).setCell (by exact Nat.le_succ _) _).setCell (by exact Nat.le_succ _) _⟩
set_option maxRecDepth 100000 in
set_option maxHeartbeats 8000000 in
theorem fits_any (q : Rq) (w : World) : Calls Tryd.prog 25 #[q.val] w fun e w' => e = .returned (.bool (fitsV q)) ∧ Below w.heap.size w w' := by
  obtain ⟨n, o, a, ws, t⟩ := q
  show Calls Tryd.prog 25 #[.agg #[.int .i64 n, .int .i64 o, .int .u32 a, .int .i64 ws, .int .i64 t]] w _
  obtain ⟨X, hX⟩ : ∃ X, w.heap.size = X := ⟨_, rfl⟩
  obtain ⟨W0, hW0⟩ : ∃ W0, w.alloc (.cells #[.int .i64 n, .int .i64 o, .int .u32 a, .int .i64 ws, .int .i64 t] 25) = W0 := ⟨_, rfl⟩
  have B0 : Hid (Below X w W0) := by rw [← hW0, ← hX]; exact (Below.refl _ _).alloc (Nat.le_refl _) _
  have HX0 : Hid (W0.heap[X]? = some (.cells #[.int .i64 n, .int .i64 o, .int .u32 a, .int .i64 ws, .int .i64 t] 25 (0, 0))) := by rw [← hW0, ← hX]; exact heap_alloc_new _ _
  obtain ⟨v, hv⟩ : ∃ v, fitsV ⟨n, o, a, ws, t⟩ = v := ⟨_, rfl⟩
  have HV : Hid (decide (0 ≤ o ∧ o ≤ 15 ∧ 0 ≤ ws ∧ ws ≤ 32 ∧ -1 ≤ t ∧ t ≤ 4294967294 ∧ (n = 26 → 1 ≤ a ∧ a ≤ 27)) = v) := hv
  rw [hv]
  clear hv
  have x0 : W0.cell? ⟨X, 0, none⟩ = some (.int .i64 n) := by rw [(row_cell HX0.out 0).1]; rfl
  have x1 : W0.cell? ⟨X, 1, none⟩ = some (.int .i64 o) := by rw [(row_cell HX0.out 1).1]; rfl
  have x2 : W0.cell? ⟨X, 2, none⟩ = some (.int .u32 a) := by rw [(row_cell HX0.out 2).1]; rfl
  have x3 : W0.cell? ⟨X, 3, none⟩ = some (.int .i64 ws) := by rw [(row_cell HX0.out 3).1]; rfl
  have x4 : W0.cell? ⟨X, 4, none⟩ = some (.int .i64 t) := by rw [(row_cell HX0.out 4).1]; rfl
  simp only [hX]
  by_cases g0 : 0 ≤ o
  rotate_left
  · have k0 : decide (0 ≤ o) = false := by simp only [g0, decide_false]
    go_enter Tryd.func25, Tryd.ntmps25
    go_wp2_with fail
    go_ret
    exact ⟨by rw [← HV.out]; simp; omega, B0.out⟩
  have k0 : decide (0 ≤ o) = true := by simp only [g0, decide_true]
  by_cases g1 : o ≤ 15
  rotate_left
  · have k1 : decide (o ≤ 15) = false := by simp only [g1, decide_false]
    go_enter Tryd.func25, Tryd.ntmps25
    go_wp2_with fail
    go_ret
    exact ⟨by rw [← HV.out]; simp; omega, B0.out⟩
  have k1 : decide (o ≤ 15) = true := by simp only [g1, decide_true]
  by_cases g2 : 0 ≤ ws
  rotate_left
  · have k2 : decide (0 ≤ ws) = false := by simp only [g2, decide_false]
    go_enter Tryd.func25, Tryd.ntmps25
    go_wp2_with fail
    go_ret
    exact ⟨by rw [← HV.out]; simp; omega, B0.out⟩
  have k2 : decide (0 ≤ ws) = true := by simp only [g2, decide_true]
  by_cases g3 : ws ≤ 32
  rotate_left
  · have k3 : decide (ws ≤ 32) = false := by simp only [g3, decide_false]
    go_enter Tryd.func25, Tryd.ntmps25
    go_wp2_with fail
    go_ret
    exact ⟨by rw [← HV.out]; simp; omega, B0.out⟩
  have k3 : decide (ws ≤ 32) = true := by simp only [g3, decide_true]
  by_cases g4 : -1 ≤ t
  rotate_left
  · have k4 : decide (-1 ≤ t) = false := by simp only [g4, decide_false]
    go_enter Tryd.func25, Tryd.ntmps25
    go_wp2_with fail
    go_ret
    exact ⟨by rw [← HV.out]; simp; omega, B0.out⟩
  have k4 : decide (-1 ≤ t) = true := by simp only [g4, decide_true]
  by_cases g5 : t ≤ 4294967294
  rotate_left
  · have k5 : decide (t ≤ 4294967294) = false := by simp only [g5, decide_false]
    go_enter Tryd.func25, Tryd.ntmps25
    go_wp2_with fail
    go_ret
    exact ⟨by rw [← HV.out]; simp; omega, B0.out⟩
  have k5 : decide (t ≤ 4294967294) = true := by simp only [g5, decide_true]
  by_cases g6 : n = 26
  rotate_left
  · have k6 : (n == 26) = false := by simpa using g6
    go_enter Tryd.func25, Tryd.ntmps25
    go_wp2_with fail
    go_ret
    exact ⟨by rw [← HV.out]; simp; omega, B0.out⟩
  have k6 : (n == 26) = true := by simpa using g6
  have G6 := Lib.hid g6
  clear g6
  by_cases g7 : 1 ≤ a
  rotate_left
  · have k7 : decide (1 ≤ a) = false := by simp only [g7, decide_false]
    go_enter Tryd.func25, Tryd.ntmps25
    go_wp2_with fail
    go_ret
    exact ⟨by rw [← HV.out]; have := G6.out; simp; omega, B0.out⟩
  have k7 : decide (1 ≤ a) = true := by simp only [g7, decide_true]
  by_cases g8 : a ≤ 27
  rotate_left
  · have k8 : decide (a ≤ 27) = false := by simp only [g8, decide_false]
    go_enter Tryd.func25, Tryd.ntmps25
    go_wp2_with fail
    go_ret
    exact ⟨by rw [← HV.out]; have := G6.out; simp; omega, B0.out⟩
  have k8 : decide (a ≤ 27) = true := by simp only [g8, decide_true]
  go_enter Tryd.func25, Tryd.ntmps25
  go_wp2_with fail
  go_ret
  exact ⟨by rw [← HV.out]; have := G6.out; simp; omega, B0.out⟩
end Go.Proofs.YtglpbngdikfliaaDoor.Ca
