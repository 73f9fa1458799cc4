/-
  What registers ask for a request; what an answer leaves. Each statement bears its own conditions.
-/
import Derived.Test.YtglpbngdikfliaaDoorCaD
namespace Go.Proofs.YtglpbngdikfliaaDoor.Ca
open Go.RowKit Go.Proofs.YtglpbngdikfliaaDoor.F
set_option linter.unusedVariables false
set_option linter.unusedSimpArgs false
/-- Ticks as a register has them. -/
def backT (t : Int) : Int := if t = -1 then 4294967295 else t
def encR (q : Rq) (r : List Int) : List Int :=
  let r1 := if oB q.call then r.set 0 q.obj else r
  let r2 := if aB q.call then r1.set 1 q.at_ else r1
  let r3 := if wB q.call then r2.set 2 q.wds else r2
  if tB q.call then r3.set 3 (backT q.tks) else r3
def backR (r : List Int) (e v n : Int) : List Int := ((r.set 0 (IntKind.u32.wrap e)).set 1 v).set 2 (IntKind.u32.wrap n)
def encV (q : Rq) (r : List Int) : List Int := if validV q then encR q r else r
set_option maxRecDepth 100000 in
set_option maxHeartbeats 32000000 in
theorem encode_any (q : Rq) (r : List Int) (hr : Regs r) (ha : 0 ≤ q.at_ ∧ q.at_ ≤ 4294967295) (w : World) (hL : Laid w) : Calls Tryd.prog 12 #[q.val, .agg (RG r)] w fun e w' => e = .returned (.agg (RG (encV q r))) ∧ Below w.heap.size w w' := by
  obtain ⟨v, hv⟩ : ∃ v, validV q = v := ⟨_, rfl⟩
  have VF := fun h : v = true => valid_fits (hv.trans h)
  have HVV : Hid (encV q r = if v then encR q r else r) := by unfold Hid encV; rw [hv]
  have CV0 := fun W hl => valid_any q W hl
  rw [hv] at CV0
  obtain ⟨n, o, a, ws, t⟩ := q
  show Calls Tryd.prog 12 #[.agg #[.int .i64 n, .int .i64 o, .int .u32 a, .int .i64 ws, .int .i64 t], .agg (RG r)] w _
  have HT1 : Hid (0 ≤ a ∧ a ≤ 4294967295) := ha
  have HRr := Lib.hid hr
  have HLw := Lib.hid hL
  have hsr := hr.size
  obtain ⟨X, hX⟩ : ∃ X, w.heap.size = X := ⟨_, rfl⟩
  obtain ⟨W0, hW0⟩ : ∃ W0, ((w.alloc (.cells #[.int .i64 n, .int .i64 o, .int .u32 a, .int .i64 ws, .int .i64 t] 25)).alloc (.cells (RG r) 23)).alloc (.cells #[.int .u32 0, .int .u32 0, .int .u32 0, .int .u32 0, .int .u32 0, .int .u32 0, .int .u32 0, .int .u32 0, .int .u32 0, .int .u32 0, .int .u32 0, .int .u32 0, .int .u32 0, .int .u32 0, .int .u32 0, .int .u32 0] 23) = W0 := ⟨_, rfl⟩
  have B0 : Hid (Below X w W0) := by rw [← hW0, ← hX]; exact (((Below.refl _ _).alloc (Nat.le_refl _) _).alloc (by simp) _).alloc (by simp; omega) _
  have HX0 : Hid (W0.heap[X]? = some (.cells #[.int .i64 n, .int .i64 o, .int .u32 a, .int .i64 ws, .int .i64 t] 25 (0, 0))) := by
    unfold Hid; rw [← hW0, ← hX]
    exact ((((Below.refl _ _).alloc (by simp) _).alloc (by simp) _).block (B := (w.alloc (.cells #[.int .i64 n, .int .i64 o, .int .u32 a, .int .i64 ws, .int .i64 t] 25)).heap.size) _ (by simp)).trans (heap_alloc_new _ _)
  have HR0 : Hid (W0.heap[X + 1]? = some (.cells (RG r) 23 (0, 0))) := by
    unfold Hid; rw [← hW0, ← hX]
    have e := heap_alloc_new (w.alloc (.cells #[.int .i64 n, .int .i64 o, .int .u32 a, .int .i64 ws, .int .i64 t] 25)) (.cells (RG r) 23)
    exact (((Below.refl _ _).alloc (by simp) _).block (B := ((w.alloc (.cells #[.int .i64 n, .int .i64 o, .int .u32 a, .int .i64 ws, .int .i64 t] 25)).alloc (.cells (RG r) 23)).heap.size) _ (by simp)).trans (by simpa using e)
  have HZ0 : Hid (W0.heap[X + 1 + 1]? = some (.cells #[.int .u32 0, .int .u32 0, .int .u32 0, .int .u32 0, .int .u32 0, .int .u32 0, .int .u32 0, .int .u32 0, .int .u32 0, .int .u32 0, .int .u32 0, .int .u32 0, .int .u32 0, .int .u32 0, .int .u32 0, .int .u32 0] 23 (0, 0))) := by unfold Hid; rw [← hW0, ← hX]; have := heap_alloc_new ((w.alloc (.cells #[.int .i64 n, .int .i64 o, .int .u32 a, .int .i64 ws, .int .i64 t] 25)).alloc (.cells (RG r) 23)) (.cells #[.int .u32 0, .int .u32 0, .int .u32 0, .int .u32 0, .int .u32 0, .int .u32 0, .int .u32 0, .int .u32 0, .int .u32 0, .int .u32 0, .int .u32 0, .int .u32 0, .int .u32 0, .int .u32 0, .int .u32 0, .int .u32 0] 23); simpa using this
  have S0 : Hid (X + 3 ≤ W0.heap.size) := by unfold Hid; rw [← hW0, ← hX]; simp
  have HL0 : Hid (Laid W0) := hL.below (by rw [hX]; exact B0.out)
  have CV := Lib.hid (CV0 W0 HL0.out)
  clear CV0 hv hL hr ha
  have x0 : W0.cell? ⟨X, 0, none⟩ = some (.int .i64 n) := by rw [(row_cell HX0.out 0).1]; rfl
  have x1 : W0.cell? ⟨X, 1, none⟩ = some (.int .i64 o) := by rw [(row_cell HX0.out 1).1]; rfl
  have x2 : W0.cell? ⟨X, 2, none⟩ = some (.int .u32 a) := by rw [(row_cell HX0.out 2).1]; rfl
  have x3 : W0.cell? ⟨X, 3, none⟩ = some (.int .i64 ws) := by rw [(row_cell HX0.out 3).1]; rfl
  have x4 : W0.cell? ⟨X, 4, none⟩ = some (.int .i64 t) := by rw [(row_cell HX0.out 4).1]; rfl
  simp only [hX]
  go_enter Tryd.func12, Tryd.ntmps12
  go_wp2_with fail
  refine CV.out.mono ?_
  rintro e V ⟨rfl, hb⟩
  have HXc : Hid (V.heap[X]? = some (.cells #[.int .i64 n, .int .i64 o, .int .u32 a, .int .i64 ws, .int .i64 t] 25 (0, 0))) := (hb.block X (by have := S0.out; omega)).trans HX0.out
  have HRc : Hid (V.heap[X + 1]? = some (.cells (RG r) 23 (0, 0))) := (hb.block (X + 1) (by have := S0.out; omega)).trans HR0.out
  have HZc : Hid (V.heap[X + 1 + 1]? = some (.cells #[.int .u32 0, .int .u32 0, .int .u32 0, .int .u32 0, .int .u32 0, .int .u32 0, .int .u32 0, .int .u32 0, .int .u32 0, .int .u32 0, .int .u32 0, .int .u32 0, .int .u32 0, .int .u32 0, .int .u32 0, .int .u32 0] 23 (0, 0))) := (hb.block (X + 1 + 1) (by have := S0.out; omega)).trans HZ0.out
  have Sc : Hid (X + 3 ≤ V.heap.size) := Nat.le_trans S0.out hb.size
  have Bc : Hid (Below X w V) := B0.out.trans (hb.mono (by have := S0.out; omega))
  clear hb HX0 HR0 HZ0 HL0 S0 B0 CV hW0 x0 x1 x2 x3 x4
  cases v
  · have hst := store16 HZc.out (by rfl) HRr.out
    obtain ⟨V4, hV4⟩ : ∃ W, V.setRow (X + 1 + 1) (RG r) = W := ⟨_, rfl⟩
    have HV4 : Hid (V4.heap[X + 1 + 1]? = some (.cells (RG r) 23 (0, 0))) := by unfold Hid; rw [← hV4]; exact setRow_heap _ _ _ _ _ _ HZc.out
    have BV4 : Hid (Below X w V4) := by rw [← hV4]; exact below_setRow Bc.out (by omega) _
    rw [hV4] at hst
    clear hV4
    generalize hC : RG r = C at hsr hst HV4 HRc ⊢
    go_wp2_with (refine wpList_load_row rfl 23 _ rfl (X + 1) rfl 23 C (0, 0) _ HRc.out Tryd.underlying23 rfl (by rw [hsr]; exact size16) ?_)
    refine bodyPost_ret (v := .agg C) (results_cell_row (ty := 23) (p := 4) rfl _ _ (X + 1 + 1) 23 C (0, 0) _ rfl HV4.out Tryd.underlying23 rfl (by rw [hsr]; exact size16)) rfl ⟨by rw [HVV.out, ← hC]; rfl, BV4.out⟩
  obtain ⟨hn, h2, _⟩ := VF rfl
  replace hn : is n = true := hn
  have hw := fits_wds h2
  replace hw : 0 ≤ o ∧ o ≤ 15 ∧ 0 ≤ ws ∧ ws ≤ 32 ∧ -1 ≤ t ∧ t ≤ 4294967294 := hw
  have HT0 : Hid (0 ≤ o ∧ o ≤ 4294967295) := ⟨hw.1, by omega⟩
  have HT2 : Hid (0 ≤ ws ∧ ws ≤ 4294967295) := ⟨hw.2.2.1, by omega⟩
  have e0 : IntKind.u32.wrap o = o := IntWalk.u32_in _ ⟨hw.1, by omega⟩
  have e2 : IntKind.u32.wrap ws = ws := IntWalk.u32_in _ ⟨hw.2.2.1, by omega⟩
  obtain ⟨tv, htv⟩ : ∃ x, backT t = x := ⟨_, rfl⟩
  have TV := Lib.hid htv
  have e3 : IntKind.u32.wrap t = tv := by
    rw [← htv]; unfold backT
    split
    · rename_i e; subst e; decide
    · exact IntWalk.u32_in _ ⟨by omega, by omega⟩
  have HT3 : Hid (0 ≤ tv ∧ tv ≤ 4294967295) := by unfold Hid; rw [← htv]; unfold backT; split <;> omega
  clear VF h2 hw htv
  obtain ⟨W0, hW0⟩ : ∃ W, W = V := ⟨_, rfl⟩
  subst hW0
  have HX0 := HXc
  have HR0 := HRc
  have HZ0 := HZc
  have S0 := Sc
  have B0 := Bc
  have HL0 : Hid (Laid W0) := HLw.out.below (by rw [hX]; exact B0.out)
  clear HXc HRc HZc Sc Bc
  go_upto_region 3 with fail
  have x00 : W0.cell? ⟨X, 0, none⟩ = some (.int .i64 n) := by rw [(row_cell HX0.out 0).1]; rfl
  have x01 : W0.cell? ⟨X, 1, none⟩ = some (.int .i64 o) := by rw [(row_cell HX0.out 1).1]; rfl
  have x02 : W0.cell? ⟨X, 2, none⟩ = some (.int .u32 a) := by rw [(row_cell HX0.out 2).1]; rfl
  have x03 : W0.cell? ⟨X, 3, none⟩ = some (.int .i64 ws) := by rw [(row_cell HX0.out 3).1]; rfl
  have x04 : W0.cell? ⟨X, 4, none⟩ = some (.int .i64 t) := by rw [(row_cell HX0.out 4).1]; rfl
  go_wp2_with fail
  refine (has_any n o a ws t 1 hn (.inl rfl) _ HL0.out).mono ?_
  rintro e V0 ⟨rfl, hb⟩
  have hX0c : Hid (V0.heap[X]? = _) := (hb.block X (by have := S0.out; omega)).trans HX0.out
  have hR0c : Hid (V0.heap[X + 1]? = _) := (hb.block (X + 1) (by have := S0.out; omega)).trans HR0.out
  have hZ0c : Hid (V0.heap[X + 1 + 1]? = _) := (hb.block (X + 1 + 1) (by have := S0.out; omega)).trans HZ0.out
  have hS0c : Hid (X + 3 ≤ V0.heap.size) := Nat.le_trans S0.out hb.size
  have hB0c : Hid (Below X w V0) := B0.out.trans (hb.mono (by have := S0.out; omega))
  clear hb HX0 HR0 HZ0 HL0 B0 S0 x00 x01 x02 x03 x04
  rw [show hasV n 1 = oB n from rfl]
  rcases Bool.eq_false_or_eq_true (oB n) with hB0 | hB0
  · rw [hB0]
    have x00 : V0.cell? ⟨X, 0, none⟩ = some (.int .i64 n) := by rw [(row_cell hX0c.out 0).1]; rfl
    have x01 : V0.cell? ⟨X, 1, none⟩ = some (.int .i64 o) := by rw [(row_cell hX0c.out 1).1]; rfl
    have x02 : V0.cell? ⟨X, 2, none⟩ = some (.int .u32 a) := by rw [(row_cell hX0c.out 2).1]; rfl
    have x03 : V0.cell? ⟨X, 3, none⟩ = some (.int .i64 ws) := by rw [(row_cell hX0c.out 3).1]; rfl
    have x04 : V0.cell? ⟨X, 4, none⟩ = some (.int .i64 t) := by rw [(row_cell hX0c.out 4).1]; rfl
    obtain ⟨ro, hro⟩ : ∃ x, (r).getD 0 0 = x := ⟨_, rfl⟩
    have y0 := reg_at hR0c.out (HRr.out) (i := 0) (by omega)
    rw [hro] at y0
    obtain ⟨y0, yf⟩ := y0
    clear hro
    go_upto_region 5 with fail
    obtain ⟨W01, hW01⟩ : ∃ W, V0.setCell ⟨X + 1, 0, none⟩ (.int .u32 o) = W := ⟨_, rfl⟩
    rw [hW01]
    have HX01 : Hid (W01.heap[X]? = some (.cells #[.int .i64 n, .int .i64 o, .int .u32 a, .int .i64 ws, .int .i64 t] 25 (0, 0))) := by rw [← hW01]; exact (set_far _ _ (by omega)).trans hX0c.out
    have HR01 : Hid (W01.heap[X + 1]? = some (.cells (RG (r.set 0 o)) 23 (0, 0))) := by rw [← hW01]; exact reg_set hR0c.out 0 _
    have HZ01 : Hid (W01.heap[X + 1 + 1]? = some (.cells #[.int .u32 0, .int .u32 0, .int .u32 0, .int .u32 0, .int .u32 0, .int .u32 0, .int .u32 0, .int .u32 0, .int .u32 0, .int .u32 0, .int .u32 0, .int .u32 0, .int .u32 0, .int .u32 0, .int .u32 0, .int .u32 0] 23 (0, 0))) := by rw [← hW01]; exact (set_far _ _ (by omega)).trans hZ0c.out
    have B01 : Hid (Below X w W01) := by rw [← hW01]; exact hB0c.out.setCell (by show X ≤ X + 1; omega) _
    have HL01 : Hid (Laid W01) := HLw.out.below (by rw [hX]; exact B01.out)
    have S01 : Hid (X + 3 ≤ W01.heap.size) := by rw [← hW01]; simpa [Hid] using hS0c.out
    clear hW01 hX0c hR0c hZ0c hS0c hB0c y0 yf x00 x01 x02 x03 x04
    have x010 : W01.cell? ⟨X, 0, none⟩ = some (.int .i64 n) := by rw [(row_cell HX01.out 0).1]; rfl
    have x011 : W01.cell? ⟨X, 1, none⟩ = some (.int .i64 o) := by rw [(row_cell HX01.out 1).1]; rfl
    have x012 : W01.cell? ⟨X, 2, none⟩ = some (.int .u32 a) := by rw [(row_cell HX01.out 2).1]; rfl
    have x013 : W01.cell? ⟨X, 3, none⟩ = some (.int .i64 ws) := by rw [(row_cell HX01.out 3).1]; rfl
    have x014 : W01.cell? ⟨X, 4, none⟩ = some (.int .i64 t) := by rw [(row_cell HX01.out 4).1]; rfl
    go_wp2_with fail
    refine (has_any n o a ws t 2 hn (.inr (.inl rfl)) _ HL01.out).mono ?_
    rintro e V01 ⟨rfl, hb⟩
    have hX01c : Hid (V01.heap[X]? = _) := (hb.block X (by have := S01.out; omega)).trans HX01.out
    have hR01c : Hid (V01.heap[X + 1]? = _) := (hb.block (X + 1) (by have := S01.out; omega)).trans HR01.out
    have hZ01c : Hid (V01.heap[X + 1 + 1]? = _) := (hb.block (X + 1 + 1) (by have := S01.out; omega)).trans HZ01.out
    have hS01c : Hid (X + 3 ≤ V01.heap.size) := Nat.le_trans S01.out hb.size
    have hB01c : Hid (Below X w V01) := B01.out.trans (hb.mono (by have := S01.out; omega))
    clear hb HX01 HR01 HZ01 HL01 B01 S01 x010 x011 x012 x013 x014
    rw [show hasV n 2 = aB n from rfl]
    rcases Bool.eq_false_or_eq_true (aB n) with hB1 | hB1
    · rw [hB1]
      have x010 : V01.cell? ⟨X, 0, none⟩ = some (.int .i64 n) := by rw [(row_cell hX01c.out 0).1]; rfl
      have x011 : V01.cell? ⟨X, 1, none⟩ = some (.int .i64 o) := by rw [(row_cell hX01c.out 1).1]; rfl
      have x012 : V01.cell? ⟨X, 2, none⟩ = some (.int .u32 a) := by rw [(row_cell hX01c.out 2).1]; rfl
      have x013 : V01.cell? ⟨X, 3, none⟩ = some (.int .i64 ws) := by rw [(row_cell hX01c.out 3).1]; rfl
      have x014 : V01.cell? ⟨X, 4, none⟩ = some (.int .i64 t) := by rw [(row_cell hX01c.out 4).1]; rfl
      obtain ⟨ro, hro⟩ : ∃ x, (r.set 0 o).getD 1 0 = x := ⟨_, rfl⟩
      have y0 := reg_at hR01c.out ((HRr.out.set 0 HT0.out)) (i := 1) (by omega)
      rw [hro] at y0
      obtain ⟨y0, yf⟩ := y0
      clear hro
      go_upto_region 7 with fail
      obtain ⟨W011, hW011⟩ : ∃ W, V01.setCell ⟨X + 1, 1, none⟩ (.int .u32 a) = W := ⟨_, rfl⟩
      rw [hW011]
      have HX011 : Hid (W011.heap[X]? = some (.cells #[.int .i64 n, .int .i64 o, .int .u32 a, .int .i64 ws, .int .i64 t] 25 (0, 0))) := by rw [← hW011]; exact (set_far _ _ (by omega)).trans hX01c.out
      have HR011 : Hid (W011.heap[X + 1]? = some (.cells (RG ((r.set 0 o).set 1 a)) 23 (0, 0))) := by rw [← hW011]; exact reg_set hR01c.out 1 _
      have HZ011 : Hid (W011.heap[X + 1 + 1]? = some (.cells #[.int .u32 0, .int .u32 0, .int .u32 0, .int .u32 0, .int .u32 0, .int .u32 0, .int .u32 0, .int .u32 0, .int .u32 0, .int .u32 0, .int .u32 0, .int .u32 0, .int .u32 0, .int .u32 0, .int .u32 0, .int .u32 0] 23 (0, 0))) := by rw [← hW011]; exact (set_far _ _ (by omega)).trans hZ01c.out
      have B011 : Hid (Below X w W011) := by rw [← hW011]; exact hB01c.out.setCell (by show X ≤ X + 1; omega) _
      have HL011 : Hid (Laid W011) := HLw.out.below (by rw [hX]; exact B011.out)
      have S011 : Hid (X + 3 ≤ W011.heap.size) := by rw [← hW011]; simpa [Hid] using hS01c.out
      clear hW011 hX01c hR01c hZ01c hS01c hB01c y0 yf x010 x011 x012 x013 x014
      have x0110 : W011.cell? ⟨X, 0, none⟩ = some (.int .i64 n) := by rw [(row_cell HX011.out 0).1]; rfl
      have x0111 : W011.cell? ⟨X, 1, none⟩ = some (.int .i64 o) := by rw [(row_cell HX011.out 1).1]; rfl
      have x0112 : W011.cell? ⟨X, 2, none⟩ = some (.int .u32 a) := by rw [(row_cell HX011.out 2).1]; rfl
      have x0113 : W011.cell? ⟨X, 3, none⟩ = some (.int .i64 ws) := by rw [(row_cell HX011.out 3).1]; rfl
      have x0114 : W011.cell? ⟨X, 4, none⟩ = some (.int .i64 t) := by rw [(row_cell HX011.out 4).1]; rfl
      go_wp2_with fail
      refine (has_any n o a ws t 4 hn (.inr (.inr (.inl rfl))) _ HL011.out).mono ?_
      rintro e V011 ⟨rfl, hb⟩
      have hX011c : Hid (V011.heap[X]? = _) := (hb.block X (by have := S011.out; omega)).trans HX011.out
      have hR011c : Hid (V011.heap[X + 1]? = _) := (hb.block (X + 1) (by have := S011.out; omega)).trans HR011.out
      have hZ011c : Hid (V011.heap[X + 1 + 1]? = _) := (hb.block (X + 1 + 1) (by have := S011.out; omega)).trans HZ011.out
      have hS011c : Hid (X + 3 ≤ V011.heap.size) := Nat.le_trans S011.out hb.size
      have hB011c : Hid (Below X w V011) := B011.out.trans (hb.mono (by have := S011.out; omega))
      clear hb HX011 HR011 HZ011 HL011 B011 S011 x0110 x0111 x0112 x0113 x0114
      rw [show hasV n 4 = wB n from rfl]
      rcases Bool.eq_false_or_eq_true (wB n) with hB2 | hB2
      · rw [hB2]
        have x0110 : V011.cell? ⟨X, 0, none⟩ = some (.int .i64 n) := by rw [(row_cell hX011c.out 0).1]; rfl
        have x0111 : V011.cell? ⟨X, 1, none⟩ = some (.int .i64 o) := by rw [(row_cell hX011c.out 1).1]; rfl
        have x0112 : V011.cell? ⟨X, 2, none⟩ = some (.int .u32 a) := by rw [(row_cell hX011c.out 2).1]; rfl
        have x0113 : V011.cell? ⟨X, 3, none⟩ = some (.int .i64 ws) := by rw [(row_cell hX011c.out 3).1]; rfl
        have x0114 : V011.cell? ⟨X, 4, none⟩ = some (.int .i64 t) := by rw [(row_cell hX011c.out 4).1]; rfl
        obtain ⟨ro, hro⟩ : ∃ x, ((r.set 0 o).set 1 a).getD 2 0 = x := ⟨_, rfl⟩
        have y0 := reg_at hR011c.out (((HRr.out.set 0 HT0.out).set 1 HT1.out)) (i := 2) (by omega)
        rw [hro] at y0
        obtain ⟨y0, yf⟩ := y0
        clear hro
        go_upto_region 9 with fail
        obtain ⟨W0111, hW0111⟩ : ∃ W, V011.setCell ⟨X + 1, 2, none⟩ (.int .u32 ws) = W := ⟨_, rfl⟩
        rw [hW0111]
        have HX0111 : Hid (W0111.heap[X]? = some (.cells #[.int .i64 n, .int .i64 o, .int .u32 a, .int .i64 ws, .int .i64 t] 25 (0, 0))) := by rw [← hW0111]; exact (set_far _ _ (by omega)).trans hX011c.out
        have HR0111 : Hid (W0111.heap[X + 1]? = some (.cells (RG (((r.set 0 o).set 1 a).set 2 ws)) 23 (0, 0))) := by rw [← hW0111]; exact reg_set hR011c.out 2 _
        have HZ0111 : Hid (W0111.heap[X + 1 + 1]? = some (.cells #[.int .u32 0, .int .u32 0, .int .u32 0, .int .u32 0, .int .u32 0, .int .u32 0, .int .u32 0, .int .u32 0, .int .u32 0, .int .u32 0, .int .u32 0, .int .u32 0, .int .u32 0, .int .u32 0, .int .u32 0, .int .u32 0] 23 (0, 0))) := by rw [← hW0111]; exact (set_far _ _ (by omega)).trans hZ011c.out
        have B0111 : Hid (Below X w W0111) := by rw [← hW0111]; exact hB011c.out.setCell (by show X ≤ X + 1; omega) _
        have HL0111 : Hid (Laid W0111) := HLw.out.below (by rw [hX]; exact B0111.out)
        have S0111 : Hid (X + 3 ≤ W0111.heap.size) := by rw [← hW0111]; simpa [Hid] using hS011c.out
        clear hW0111 hX011c hR011c hZ011c hS011c hB011c y0 yf x0110 x0111 x0112 x0113 x0114
        have x01110 : W0111.cell? ⟨X, 0, none⟩ = some (.int .i64 n) := by rw [(row_cell HX0111.out 0).1]; rfl
        have x01111 : W0111.cell? ⟨X, 1, none⟩ = some (.int .i64 o) := by rw [(row_cell HX0111.out 1).1]; rfl
        have x01112 : W0111.cell? ⟨X, 2, none⟩ = some (.int .u32 a) := by rw [(row_cell HX0111.out 2).1]; rfl
        have x01113 : W0111.cell? ⟨X, 3, none⟩ = some (.int .i64 ws) := by rw [(row_cell HX0111.out 3).1]; rfl
        have x01114 : W0111.cell? ⟨X, 4, none⟩ = some (.int .i64 t) := by rw [(row_cell HX0111.out 4).1]; rfl
        go_wp2_with fail
        refine (has_any n o a ws t 8 hn (.inr (.inr (.inr rfl))) _ HL0111.out).mono ?_
        rintro e V0111 ⟨rfl, hb⟩
        have hX0111c : Hid (V0111.heap[X]? = _) := (hb.block X (by have := S0111.out; omega)).trans HX0111.out
        have hR0111c : Hid (V0111.heap[X + 1]? = _) := (hb.block (X + 1) (by have := S0111.out; omega)).trans HR0111.out
        have hZ0111c : Hid (V0111.heap[X + 1 + 1]? = _) := (hb.block (X + 1 + 1) (by have := S0111.out; omega)).trans HZ0111.out
        have hS0111c : Hid (X + 3 ≤ V0111.heap.size) := Nat.le_trans S0111.out hb.size
        have hB0111c : Hid (Below X w V0111) := B0111.out.trans (hb.mono (by have := S0111.out; omega))
        clear hb HX0111 HR0111 HZ0111 HL0111 B0111 S0111 x01110 x01111 x01112 x01113 x01114
        rw [show hasV n 8 = tB n from rfl]
        rcases Bool.eq_false_or_eq_true (tB n) with hB3 | hB3
        · rw [hB3]
          have x01110 : V0111.cell? ⟨X, 0, none⟩ = some (.int .i64 n) := by rw [(row_cell hX0111c.out 0).1]; rfl
          have x01111 : V0111.cell? ⟨X, 1, none⟩ = some (.int .i64 o) := by rw [(row_cell hX0111c.out 1).1]; rfl
          have x01112 : V0111.cell? ⟨X, 2, none⟩ = some (.int .u32 a) := by rw [(row_cell hX0111c.out 2).1]; rfl
          have x01113 : V0111.cell? ⟨X, 3, none⟩ = some (.int .i64 ws) := by rw [(row_cell hX0111c.out 3).1]; rfl
          have x01114 : V0111.cell? ⟨X, 4, none⟩ = some (.int .i64 t) := by rw [(row_cell hX0111c.out 4).1]; rfl
          obtain ⟨ro, hro⟩ : ∃ x, (((r.set 0 o).set 1 a).set 2 ws).getD 3 0 = x := ⟨_, rfl⟩
          have y0 := reg_at hR0111c.out ((((HRr.out.set 0 HT0.out).set 1 HT1.out).set 2 HT2.out)) (i := 3) (by omega)
          rw [hro] at y0
          obtain ⟨y0, yf⟩ := y0
          clear hro
          go_upto_region 11 with fail
          obtain ⟨W01111, hW01111⟩ : ∃ W, V0111.setCell ⟨X + 1, 3, none⟩ (.int .u32 tv) = W := ⟨_, rfl⟩
          rw [hW01111]
          have HX01111 : Hid (W01111.heap[X]? = some (.cells #[.int .i64 n, .int .i64 o, .int .u32 a, .int .i64 ws, .int .i64 t] 25 (0, 0))) := by rw [← hW01111]; exact (set_far _ _ (by omega)).trans hX0111c.out
          have HR01111 : Hid (W01111.heap[X + 1]? = some (.cells (RG ((((r.set 0 o).set 1 a).set 2 ws).set 3 tv)) 23 (0, 0))) := by rw [← hW01111]; exact reg_set hR0111c.out 3 _
          have HZ01111 : Hid (W01111.heap[X + 1 + 1]? = some (.cells #[.int .u32 0, .int .u32 0, .int .u32 0, .int .u32 0, .int .u32 0, .int .u32 0, .int .u32 0, .int .u32 0, .int .u32 0, .int .u32 0, .int .u32 0, .int .u32 0, .int .u32 0, .int .u32 0, .int .u32 0, .int .u32 0] 23 (0, 0))) := by rw [← hW01111]; exact (set_far _ _ (by omega)).trans hZ0111c.out
          have B01111 : Hid (Below X w W01111) := by rw [← hW01111]; exact hB0111c.out.setCell (by show X ≤ X + 1; omega) _
          have HL01111 : Hid (Laid W01111) := HLw.out.below (by rw [hX]; exact B01111.out)
          have S01111 : Hid (X + 3 ≤ W01111.heap.size) := by rw [← hW01111]; simpa [Hid] using hS0111c.out
          clear hW01111 hX0111c hR0111c hZ0111c hS0111c hB0111c y0 yf x01110 x01111 x01112 x01113 x01114
          have hrg : Regs ((((r.set 0 o).set 1 a).set 2 ws).set 3 tv) := ((((HRr.out.set 0 HT0.out).set 1 HT1.out).set 2 HT2.out).set 3 HT3.out)
          have hst := store16 HZ01111.out (by rfl) hrg
          obtain ⟨V4, hV4⟩ : ∃ W, W01111.setRow (X + 1 + 1) (RG ((((r.set 0 o).set 1 a).set 2 ws).set 3 tv)) = W := ⟨_, rfl⟩
          have HV4 : Hid (V4.heap[X + 1 + 1]? = some (.cells (RG ((((r.set 0 o).set 1 a).set 2 ws).set 3 tv)) 23 (0, 0))) := by unfold Hid; rw [← hV4]; exact setRow_heap _ _ _ _ _ _ HZ01111.out
          have BV4 : Hid (Below X w V4) := by rw [← hV4]; exact below_setRow B01111.out (by omega) _
          rw [hV4] at hst
          have hsz := hrg.size
          have HE : Hid (RG (encR ⟨n, o, a, ws, t⟩ r) = RG ((((r.set 0 o).set 1 a).set 2 ws).set 3 tv)) := by unfold Hid encR; simp only [hB0, hB1, hB2, hB3, if_true, if_false, Bool.false_eq_true, TV.out]
          clear hV4 hrg
          generalize hC : RG ((((r.set 0 o).set 1 a).set 2 ws).set 3 tv) = C at hsz hst HV4 HR01111 HE
          go_wp2_with (refine wpList_load_row rfl 23 _ rfl (X + 1) rfl 23 C (0, 0) _ HR01111.out Tryd.underlying23 rfl (by rw [hsz]; exact size16) ?_)
          refine bodyPost_ret (v := .agg C) (results_cell_row (ty := 23) (p := 4) rfl _ _ (X + 1 + 1) 23 C (0, 0) _ rfl HV4.out Tryd.underlying23 rfl (by rw [hsz]; exact size16)) rfl ⟨by rw [HVV.out, if_pos (by simp), HE.out], BV4.out⟩
        · rw [hB3]
          go_upto_region 11 with fail
          obtain ⟨W01110, hW01110⟩ : ∃ W, W = V0111 := ⟨_, rfl⟩
          subst hW01110
          have HX01110 := hX0111c
          have HR01110 := hR0111c
          have HZ01110 := hZ0111c
          have S01110 := hS0111c
          have B01110 := hB0111c
          have HL01110 : Hid (Laid W01110) := HLw.out.below (by rw [hX]; exact B01110.out)
          clear hX0111c hR0111c hZ0111c hS0111c hB0111c
          have hrg : Regs (((r.set 0 o).set 1 a).set 2 ws) := (((HRr.out.set 0 HT0.out).set 1 HT1.out).set 2 HT2.out)
          have hst := store16 HZ01110.out (by rfl) hrg
          obtain ⟨V4, hV4⟩ : ∃ W, W01110.setRow (X + 1 + 1) (RG (((r.set 0 o).set 1 a).set 2 ws)) = W := ⟨_, rfl⟩
          have HV4 : Hid (V4.heap[X + 1 + 1]? = some (.cells (RG (((r.set 0 o).set 1 a).set 2 ws)) 23 (0, 0))) := by unfold Hid; rw [← hV4]; exact setRow_heap _ _ _ _ _ _ HZ01110.out
          have BV4 : Hid (Below X w V4) := by rw [← hV4]; exact below_setRow B01110.out (by omega) _
          rw [hV4] at hst
          have hsz := hrg.size
          have HE : Hid (RG (encR ⟨n, o, a, ws, t⟩ r) = RG (((r.set 0 o).set 1 a).set 2 ws)) := by unfold Hid encR; simp only [hB0, hB1, hB2, hB3, if_true, if_false, Bool.false_eq_true, TV.out]
          clear hV4 hrg
          generalize hC : RG (((r.set 0 o).set 1 a).set 2 ws) = C at hsz hst HV4 HR01110 HE
          go_wp2_with (refine wpList_load_row rfl 23 _ rfl (X + 1) rfl 23 C (0, 0) _ HR01110.out Tryd.underlying23 rfl (by rw [hsz]; exact size16) ?_)
          refine bodyPost_ret (v := .agg C) (results_cell_row (ty := 23) (p := 4) rfl _ _ (X + 1 + 1) 23 C (0, 0) _ rfl HV4.out Tryd.underlying23 rfl (by rw [hsz]; exact size16)) rfl ⟨by rw [HVV.out, if_pos (by simp), HE.out], BV4.out⟩
      · rw [hB2]
        go_upto_region 9 with fail
        obtain ⟨W0110, hW0110⟩ : ∃ W, W = V011 := ⟨_, rfl⟩
        subst hW0110
        have HX0110 := hX011c
        have HR0110 := hR011c
        have HZ0110 := hZ011c
        have S0110 := hS011c
        have B0110 := hB011c
        have HL0110 : Hid (Laid W0110) := HLw.out.below (by rw [hX]; exact B0110.out)
        clear hX011c hR011c hZ011c hS011c hB011c
        have x01100 : W0110.cell? ⟨X, 0, none⟩ = some (.int .i64 n) := by rw [(row_cell HX0110.out 0).1]; rfl
        have x01101 : W0110.cell? ⟨X, 1, none⟩ = some (.int .i64 o) := by rw [(row_cell HX0110.out 1).1]; rfl
        have x01102 : W0110.cell? ⟨X, 2, none⟩ = some (.int .u32 a) := by rw [(row_cell HX0110.out 2).1]; rfl
        have x01103 : W0110.cell? ⟨X, 3, none⟩ = some (.int .i64 ws) := by rw [(row_cell HX0110.out 3).1]; rfl
        have x01104 : W0110.cell? ⟨X, 4, none⟩ = some (.int .i64 t) := by rw [(row_cell HX0110.out 4).1]; rfl
        go_wp2_with fail
        refine (has_any n o a ws t 8 hn (.inr (.inr (.inr rfl))) _ HL0110.out).mono ?_
        rintro e V0110 ⟨rfl, hb⟩
        have hX0110c : Hid (V0110.heap[X]? = _) := (hb.block X (by have := S0110.out; omega)).trans HX0110.out
        have hR0110c : Hid (V0110.heap[X + 1]? = _) := (hb.block (X + 1) (by have := S0110.out; omega)).trans HR0110.out
        have hZ0110c : Hid (V0110.heap[X + 1 + 1]? = _) := (hb.block (X + 1 + 1) (by have := S0110.out; omega)).trans HZ0110.out
        have hS0110c : Hid (X + 3 ≤ V0110.heap.size) := Nat.le_trans S0110.out hb.size
        have hB0110c : Hid (Below X w V0110) := B0110.out.trans (hb.mono (by have := S0110.out; omega))
        clear hb HX0110 HR0110 HZ0110 HL0110 B0110 S0110 x01100 x01101 x01102 x01103 x01104
        rw [show hasV n 8 = tB n from rfl]
        rcases Bool.eq_false_or_eq_true (tB n) with hB3 | hB3
        · rw [hB3]
          have x01100 : V0110.cell? ⟨X, 0, none⟩ = some (.int .i64 n) := by rw [(row_cell hX0110c.out 0).1]; rfl
          have x01101 : V0110.cell? ⟨X, 1, none⟩ = some (.int .i64 o) := by rw [(row_cell hX0110c.out 1).1]; rfl
          have x01102 : V0110.cell? ⟨X, 2, none⟩ = some (.int .u32 a) := by rw [(row_cell hX0110c.out 2).1]; rfl
          have x01103 : V0110.cell? ⟨X, 3, none⟩ = some (.int .i64 ws) := by rw [(row_cell hX0110c.out 3).1]; rfl
          have x01104 : V0110.cell? ⟨X, 4, none⟩ = some (.int .i64 t) := by rw [(row_cell hX0110c.out 4).1]; rfl
          obtain ⟨ro, hro⟩ : ∃ x, ((r.set 0 o).set 1 a).getD 3 0 = x := ⟨_, rfl⟩
          have y0 := reg_at hR0110c.out (((HRr.out.set 0 HT0.out).set 1 HT1.out)) (i := 3) (by omega)
          rw [hro] at y0
          obtain ⟨y0, yf⟩ := y0
          clear hro
          go_upto_region 11 with fail
          obtain ⟨W01101, hW01101⟩ : ∃ W, V0110.setCell ⟨X + 1, 3, none⟩ (.int .u32 tv) = W := ⟨_, rfl⟩
          rw [hW01101]
          have HX01101 : Hid (W01101.heap[X]? = some (.cells #[.int .i64 n, .int .i64 o, .int .u32 a, .int .i64 ws, .int .i64 t] 25 (0, 0))) := by rw [← hW01101]; exact (set_far _ _ (by omega)).trans hX0110c.out
          have HR01101 : Hid (W01101.heap[X + 1]? = some (.cells (RG (((r.set 0 o).set 1 a).set 3 tv)) 23 (0, 0))) := by rw [← hW01101]; exact reg_set hR0110c.out 3 _
          have HZ01101 : Hid (W01101.heap[X + 1 + 1]? = some (.cells #[.int .u32 0, .int .u32 0, .int .u32 0, .int .u32 0, .int .u32 0, .int .u32 0, .int .u32 0, .int .u32 0, .int .u32 0, .int .u32 0, .int .u32 0, .int .u32 0, .int .u32 0, .int .u32 0, .int .u32 0, .int .u32 0] 23 (0, 0))) := by rw [← hW01101]; exact (set_far _ _ (by omega)).trans hZ0110c.out
          have B01101 : Hid (Below X w W01101) := by rw [← hW01101]; exact hB0110c.out.setCell (by show X ≤ X + 1; omega) _
          have HL01101 : Hid (Laid W01101) := HLw.out.below (by rw [hX]; exact B01101.out)
          have S01101 : Hid (X + 3 ≤ W01101.heap.size) := by rw [← hW01101]; simpa [Hid] using hS0110c.out
          clear hW01101 hX0110c hR0110c hZ0110c hS0110c hB0110c y0 yf x01100 x01101 x01102 x01103 x01104
          have hrg : Regs (((r.set 0 o).set 1 a).set 3 tv) := (((HRr.out.set 0 HT0.out).set 1 HT1.out).set 3 HT3.out)
          have hst := store16 HZ01101.out (by rfl) hrg
          obtain ⟨V4, hV4⟩ : ∃ W, W01101.setRow (X + 1 + 1) (RG (((r.set 0 o).set 1 a).set 3 tv)) = W := ⟨_, rfl⟩
          have HV4 : Hid (V4.heap[X + 1 + 1]? = some (.cells (RG (((r.set 0 o).set 1 a).set 3 tv)) 23 (0, 0))) := by unfold Hid; rw [← hV4]; exact setRow_heap _ _ _ _ _ _ HZ01101.out
          have BV4 : Hid (Below X w V4) := by rw [← hV4]; exact below_setRow B01101.out (by omega) _
          rw [hV4] at hst
          have hsz := hrg.size
          have HE : Hid (RG (encR ⟨n, o, a, ws, t⟩ r) = RG (((r.set 0 o).set 1 a).set 3 tv)) := by unfold Hid encR; simp only [hB0, hB1, hB2, hB3, if_true, if_false, Bool.false_eq_true, TV.out]
          clear hV4 hrg
          generalize hC : RG (((r.set 0 o).set 1 a).set 3 tv) = C at hsz hst HV4 HR01101 HE
          go_wp2_with (refine wpList_load_row rfl 23 _ rfl (X + 1) rfl 23 C (0, 0) _ HR01101.out Tryd.underlying23 rfl (by rw [hsz]; exact size16) ?_)
          refine bodyPost_ret (v := .agg C) (results_cell_row (ty := 23) (p := 4) rfl _ _ (X + 1 + 1) 23 C (0, 0) _ rfl HV4.out Tryd.underlying23 rfl (by rw [hsz]; exact size16)) rfl ⟨by rw [HVV.out, if_pos (by simp), HE.out], BV4.out⟩
        · rw [hB3]
          go_upto_region 11 with fail
          obtain ⟨W01100, hW01100⟩ : ∃ W, W = V0110 := ⟨_, rfl⟩
          subst hW01100
          have HX01100 := hX0110c
          have HR01100 := hR0110c
          have HZ01100 := hZ0110c
          have S01100 := hS0110c
          have B01100 := hB0110c
          have HL01100 : Hid (Laid W01100) := HLw.out.below (by rw [hX]; exact B01100.out)
          clear hX0110c hR0110c hZ0110c hS0110c hB0110c
          have hrg : Regs ((r.set 0 o).set 1 a) := ((HRr.out.set 0 HT0.out).set 1 HT1.out)
          have hst := store16 HZ01100.out (by rfl) hrg
          obtain ⟨V4, hV4⟩ : ∃ W, W01100.setRow (X + 1 + 1) (RG ((r.set 0 o).set 1 a)) = W := ⟨_, rfl⟩
          have HV4 : Hid (V4.heap[X + 1 + 1]? = some (.cells (RG ((r.set 0 o).set 1 a)) 23 (0, 0))) := by unfold Hid; rw [← hV4]; exact setRow_heap _ _ _ _ _ _ HZ01100.out
          have BV4 : Hid (Below X w V4) := by rw [← hV4]; exact below_setRow B01100.out (by omega) _
          rw [hV4] at hst
          have hsz := hrg.size
          have HE : Hid (RG (encR ⟨n, o, a, ws, t⟩ r) = RG ((r.set 0 o).set 1 a)) := by unfold Hid encR; simp only [hB0, hB1, hB2, hB3, if_true, if_false, Bool.false_eq_true, TV.out]
          clear hV4 hrg
          generalize hC : RG ((r.set 0 o).set 1 a) = C at hsz hst HV4 HR01100 HE
          go_wp2_with (refine wpList_load_row rfl 23 _ rfl (X + 1) rfl 23 C (0, 0) _ HR01100.out Tryd.underlying23 rfl (by rw [hsz]; exact size16) ?_)
          refine bodyPost_ret (v := .agg C) (results_cell_row (ty := 23) (p := 4) rfl _ _ (X + 1 + 1) 23 C (0, 0) _ rfl HV4.out Tryd.underlying23 rfl (by rw [hsz]; exact size16)) rfl ⟨by rw [HVV.out, if_pos (by simp), HE.out], BV4.out⟩
    · rw [hB1]
      go_upto_region 7 with fail
      obtain ⟨W010, hW010⟩ : ∃ W, W = V01 := ⟨_, rfl⟩
      subst hW010
      have HX010 := hX01c
      have HR010 := hR01c
      have HZ010 := hZ01c
      have S010 := hS01c
      have B010 := hB01c
      have HL010 : Hid (Laid W010) := HLw.out.below (by rw [hX]; exact B010.out)
      clear hX01c hR01c hZ01c hS01c hB01c
      have x0100 : W010.cell? ⟨X, 0, none⟩ = some (.int .i64 n) := by rw [(row_cell HX010.out 0).1]; rfl
      have x0101 : W010.cell? ⟨X, 1, none⟩ = some (.int .i64 o) := by rw [(row_cell HX010.out 1).1]; rfl
      have x0102 : W010.cell? ⟨X, 2, none⟩ = some (.int .u32 a) := by rw [(row_cell HX010.out 2).1]; rfl
      have x0103 : W010.cell? ⟨X, 3, none⟩ = some (.int .i64 ws) := by rw [(row_cell HX010.out 3).1]; rfl
      have x0104 : W010.cell? ⟨X, 4, none⟩ = some (.int .i64 t) := by rw [(row_cell HX010.out 4).1]; rfl
      go_wp2_with fail
      refine (has_any n o a ws t 4 hn (.inr (.inr (.inl rfl))) _ HL010.out).mono ?_
      rintro e V010 ⟨rfl, hb⟩
      have hX010c : Hid (V010.heap[X]? = _) := (hb.block X (by have := S010.out; omega)).trans HX010.out
      have hR010c : Hid (V010.heap[X + 1]? = _) := (hb.block (X + 1) (by have := S010.out; omega)).trans HR010.out
      have hZ010c : Hid (V010.heap[X + 1 + 1]? = _) := (hb.block (X + 1 + 1) (by have := S010.out; omega)).trans HZ010.out
      have hS010c : Hid (X + 3 ≤ V010.heap.size) := Nat.le_trans S010.out hb.size
      have hB010c : Hid (Below X w V010) := B010.out.trans (hb.mono (by have := S010.out; omega))
      clear hb HX010 HR010 HZ010 HL010 B010 S010 x0100 x0101 x0102 x0103 x0104
      rw [show hasV n 4 = wB n from rfl]
      rcases Bool.eq_false_or_eq_true (wB n) with hB2 | hB2
      · rw [hB2]
        have x0100 : V010.cell? ⟨X, 0, none⟩ = some (.int .i64 n) := by rw [(row_cell hX010c.out 0).1]; rfl
        have x0101 : V010.cell? ⟨X, 1, none⟩ = some (.int .i64 o) := by rw [(row_cell hX010c.out 1).1]; rfl
        have x0102 : V010.cell? ⟨X, 2, none⟩ = some (.int .u32 a) := by rw [(row_cell hX010c.out 2).1]; rfl
        have x0103 : V010.cell? ⟨X, 3, none⟩ = some (.int .i64 ws) := by rw [(row_cell hX010c.out 3).1]; rfl
        have x0104 : V010.cell? ⟨X, 4, none⟩ = some (.int .i64 t) := by rw [(row_cell hX010c.out 4).1]; rfl
        obtain ⟨ro, hro⟩ : ∃ x, (r.set 0 o).getD 2 0 = x := ⟨_, rfl⟩
        have y0 := reg_at hR010c.out ((HRr.out.set 0 HT0.out)) (i := 2) (by omega)
        rw [hro] at y0
        obtain ⟨y0, yf⟩ := y0
        clear hro
        go_upto_region 9 with fail
        obtain ⟨W0101, hW0101⟩ : ∃ W, V010.setCell ⟨X + 1, 2, none⟩ (.int .u32 ws) = W := ⟨_, rfl⟩
        rw [hW0101]
        have HX0101 : Hid (W0101.heap[X]? = some (.cells #[.int .i64 n, .int .i64 o, .int .u32 a, .int .i64 ws, .int .i64 t] 25 (0, 0))) := by rw [← hW0101]; exact (set_far _ _ (by omega)).trans hX010c.out
        have HR0101 : Hid (W0101.heap[X + 1]? = some (.cells (RG ((r.set 0 o).set 2 ws)) 23 (0, 0))) := by rw [← hW0101]; exact reg_set hR010c.out 2 _
        have HZ0101 : Hid (W0101.heap[X + 1 + 1]? = some (.cells #[.int .u32 0, .int .u32 0, .int .u32 0, .int .u32 0, .int .u32 0, .int .u32 0, .int .u32 0, .int .u32 0, .int .u32 0, .int .u32 0, .int .u32 0, .int .u32 0, .int .u32 0, .int .u32 0, .int .u32 0, .int .u32 0] 23 (0, 0))) := by rw [← hW0101]; exact (set_far _ _ (by omega)).trans hZ010c.out
        have B0101 : Hid (Below X w W0101) := by rw [← hW0101]; exact hB010c.out.setCell (by show X ≤ X + 1; omega) _
        have HL0101 : Hid (Laid W0101) := HLw.out.below (by rw [hX]; exact B0101.out)
        have S0101 : Hid (X + 3 ≤ W0101.heap.size) := by rw [← hW0101]; simpa [Hid] using hS010c.out
        clear hW0101 hX010c hR010c hZ010c hS010c hB010c y0 yf x0100 x0101 x0102 x0103 x0104
        have x01010 : W0101.cell? ⟨X, 0, none⟩ = some (.int .i64 n) := by rw [(row_cell HX0101.out 0).1]; rfl
        have x01011 : W0101.cell? ⟨X, 1, none⟩ = some (.int .i64 o) := by rw [(row_cell HX0101.out 1).1]; rfl
        have x01012 : W0101.cell? ⟨X, 2, none⟩ = some (.int .u32 a) := by rw [(row_cell HX0101.out 2).1]; rfl
        have x01013 : W0101.cell? ⟨X, 3, none⟩ = some (.int .i64 ws) := by rw [(row_cell HX0101.out 3).1]; rfl
        have x01014 : W0101.cell? ⟨X, 4, none⟩ = some (.int .i64 t) := by rw [(row_cell HX0101.out 4).1]; rfl
        go_wp2_with fail
        refine (has_any n o a ws t 8 hn (.inr (.inr (.inr rfl))) _ HL0101.out).mono ?_
        rintro e V0101 ⟨rfl, hb⟩
        have hX0101c : Hid (V0101.heap[X]? = _) := (hb.block X (by have := S0101.out; omega)).trans HX0101.out
        have hR0101c : Hid (V0101.heap[X + 1]? = _) := (hb.block (X + 1) (by have := S0101.out; omega)).trans HR0101.out
        have hZ0101c : Hid (V0101.heap[X + 1 + 1]? = _) := (hb.block (X + 1 + 1) (by have := S0101.out; omega)).trans HZ0101.out
        have hS0101c : Hid (X + 3 ≤ V0101.heap.size) := Nat.le_trans S0101.out hb.size
        have hB0101c : Hid (Below X w V0101) := B0101.out.trans (hb.mono (by have := S0101.out; omega))
        clear hb HX0101 HR0101 HZ0101 HL0101 B0101 S0101 x01010 x01011 x01012 x01013 x01014
        rw [show hasV n 8 = tB n from rfl]
        rcases Bool.eq_false_or_eq_true (tB n) with hB3 | hB3
        · rw [hB3]
          have x01010 : V0101.cell? ⟨X, 0, none⟩ = some (.int .i64 n) := by rw [(row_cell hX0101c.out 0).1]; rfl
          have x01011 : V0101.cell? ⟨X, 1, none⟩ = some (.int .i64 o) := by rw [(row_cell hX0101c.out 1).1]; rfl
          have x01012 : V0101.cell? ⟨X, 2, none⟩ = some (.int .u32 a) := by rw [(row_cell hX0101c.out 2).1]; rfl
          have x01013 : V0101.cell? ⟨X, 3, none⟩ = some (.int .i64 ws) := by rw [(row_cell hX0101c.out 3).1]; rfl
          have x01014 : V0101.cell? ⟨X, 4, none⟩ = some (.int .i64 t) := by rw [(row_cell hX0101c.out 4).1]; rfl
          obtain ⟨ro, hro⟩ : ∃ x, ((r.set 0 o).set 2 ws).getD 3 0 = x := ⟨_, rfl⟩
          have y0 := reg_at hR0101c.out (((HRr.out.set 0 HT0.out).set 2 HT2.out)) (i := 3) (by omega)
          rw [hro] at y0
          obtain ⟨y0, yf⟩ := y0
          clear hro
          go_upto_region 11 with fail
          obtain ⟨W01011, hW01011⟩ : ∃ W, V0101.setCell ⟨X + 1, 3, none⟩ (.int .u32 tv) = W := ⟨_, rfl⟩
          rw [hW01011]
          have HX01011 : Hid (W01011.heap[X]? = some (.cells #[.int .i64 n, .int .i64 o, .int .u32 a, .int .i64 ws, .int .i64 t] 25 (0, 0))) := by rw [← hW01011]; exact (set_far _ _ (by omega)).trans hX0101c.out
          have HR01011 : Hid (W01011.heap[X + 1]? = some (.cells (RG (((r.set 0 o).set 2 ws).set 3 tv)) 23 (0, 0))) := by rw [← hW01011]; exact reg_set hR0101c.out 3 _
          have HZ01011 : Hid (W01011.heap[X + 1 + 1]? = some (.cells #[.int .u32 0, .int .u32 0, .int .u32 0, .int .u32 0, .int .u32 0, .int .u32 0, .int .u32 0, .int .u32 0, .int .u32 0, .int .u32 0, .int .u32 0, .int .u32 0, .int .u32 0, .int .u32 0, .int .u32 0, .int .u32 0] 23 (0, 0))) := by rw [← hW01011]; exact (set_far _ _ (by omega)).trans hZ0101c.out
          have B01011 : Hid (Below X w W01011) := by rw [← hW01011]; exact hB0101c.out.setCell (by show X ≤ X + 1; omega) _
          have HL01011 : Hid (Laid W01011) := HLw.out.below (by rw [hX]; exact B01011.out)
          have S01011 : Hid (X + 3 ≤ W01011.heap.size) := by rw [← hW01011]; simpa [Hid] using hS0101c.out
          clear hW01011 hX0101c hR0101c hZ0101c hS0101c hB0101c y0 yf x01010 x01011 x01012 x01013 x01014
          have hrg : Regs (((r.set 0 o).set 2 ws).set 3 tv) := (((HRr.out.set 0 HT0.out).set 2 HT2.out).set 3 HT3.out)
          have hst := store16 HZ01011.out (by rfl) hrg
          obtain ⟨V4, hV4⟩ : ∃ W, W01011.setRow (X + 1 + 1) (RG (((r.set 0 o).set 2 ws).set 3 tv)) = W := ⟨_, rfl⟩
          have HV4 : Hid (V4.heap[X + 1 + 1]? = some (.cells (RG (((r.set 0 o).set 2 ws).set 3 tv)) 23 (0, 0))) := by unfold Hid; rw [← hV4]; exact setRow_heap _ _ _ _ _ _ HZ01011.out
          have BV4 : Hid (Below X w V4) := by rw [← hV4]; exact below_setRow B01011.out (by omega) _
          rw [hV4] at hst
          have hsz := hrg.size
          have HE : Hid (RG (encR ⟨n, o, a, ws, t⟩ r) = RG (((r.set 0 o).set 2 ws).set 3 tv)) := by unfold Hid encR; simp only [hB0, hB1, hB2, hB3, if_true, if_false, Bool.false_eq_true, TV.out]
          clear hV4 hrg
          generalize hC : RG (((r.set 0 o).set 2 ws).set 3 tv) = C at hsz hst HV4 HR01011 HE
          go_wp2_with (refine wpList_load_row rfl 23 _ rfl (X + 1) rfl 23 C (0, 0) _ HR01011.out Tryd.underlying23 rfl (by rw [hsz]; exact size16) ?_)
          refine bodyPost_ret (v := .agg C) (results_cell_row (ty := 23) (p := 4) rfl _ _ (X + 1 + 1) 23 C (0, 0) _ rfl HV4.out Tryd.underlying23 rfl (by rw [hsz]; exact size16)) rfl ⟨by rw [HVV.out, if_pos (by simp), HE.out], BV4.out⟩
        · rw [hB3]
          go_upto_region 11 with fail
          obtain ⟨W01010, hW01010⟩ : ∃ W, W = V0101 := ⟨_, rfl⟩
          subst hW01010
          have HX01010 := hX0101c
          have HR01010 := hR0101c
          have HZ01010 := hZ0101c
          have S01010 := hS0101c
          have B01010 := hB0101c
          have HL01010 : Hid (Laid W01010) := HLw.out.below (by rw [hX]; exact B01010.out)
          clear hX0101c hR0101c hZ0101c hS0101c hB0101c
          have hrg : Regs ((r.set 0 o).set 2 ws) := ((HRr.out.set 0 HT0.out).set 2 HT2.out)
          have hst := store16 HZ01010.out (by rfl) hrg
          obtain ⟨V4, hV4⟩ : ∃ W, W01010.setRow (X + 1 + 1) (RG ((r.set 0 o).set 2 ws)) = W := ⟨_, rfl⟩
          have HV4 : Hid (V4.heap[X + 1 + 1]? = some (.cells (RG ((r.set 0 o).set 2 ws)) 23 (0, 0))) := by unfold Hid; rw [← hV4]; exact setRow_heap _ _ _ _ _ _ HZ01010.out
          have BV4 : Hid (Below X w V4) := by rw [← hV4]; exact below_setRow B01010.out (by omega) _
          rw [hV4] at hst
          have hsz := hrg.size
          have HE : Hid (RG (encR ⟨n, o, a, ws, t⟩ r) = RG ((r.set 0 o).set 2 ws)) := by unfold Hid encR; simp only [hB0, hB1, hB2, hB3, if_true, if_false, Bool.false_eq_true, TV.out]
          clear hV4 hrg
          generalize hC : RG ((r.set 0 o).set 2 ws) = C at hsz hst HV4 HR01010 HE
          go_wp2_with (refine wpList_load_row rfl 23 _ rfl (X + 1) rfl 23 C (0, 0) _ HR01010.out Tryd.underlying23 rfl (by rw [hsz]; exact size16) ?_)
          refine bodyPost_ret (v := .agg C) (results_cell_row (ty := 23) (p := 4) rfl _ _ (X + 1 + 1) 23 C (0, 0) _ rfl HV4.out Tryd.underlying23 rfl (by rw [hsz]; exact size16)) rfl ⟨by rw [HVV.out, if_pos (by simp), HE.out], BV4.out⟩
      · rw [hB2]
        go_upto_region 9 with fail
        obtain ⟨W0100, hW0100⟩ : ∃ W, W = V010 := ⟨_, rfl⟩
        subst hW0100
        have HX0100 := hX010c
        have HR0100 := hR010c
        have HZ0100 := hZ010c
        have S0100 := hS010c
        have B0100 := hB010c
        have HL0100 : Hid (Laid W0100) := HLw.out.below (by rw [hX]; exact B0100.out)
        clear hX010c hR010c hZ010c hS010c hB010c
        have x01000 : W0100.cell? ⟨X, 0, none⟩ = some (.int .i64 n) := by rw [(row_cell HX0100.out 0).1]; rfl
        have x01001 : W0100.cell? ⟨X, 1, none⟩ = some (.int .i64 o) := by rw [(row_cell HX0100.out 1).1]; rfl
        have x01002 : W0100.cell? ⟨X, 2, none⟩ = some (.int .u32 a) := by rw [(row_cell HX0100.out 2).1]; rfl
        have x01003 : W0100.cell? ⟨X, 3, none⟩ = some (.int .i64 ws) := by rw [(row_cell HX0100.out 3).1]; rfl
        have x01004 : W0100.cell? ⟨X, 4, none⟩ = some (.int .i64 t) := by rw [(row_cell HX0100.out 4).1]; rfl
        go_wp2_with fail
        refine (has_any n o a ws t 8 hn (.inr (.inr (.inr rfl))) _ HL0100.out).mono ?_
        rintro e V0100 ⟨rfl, hb⟩
        have hX0100c : Hid (V0100.heap[X]? = _) := (hb.block X (by have := S0100.out; omega)).trans HX0100.out
        have hR0100c : Hid (V0100.heap[X + 1]? = _) := (hb.block (X + 1) (by have := S0100.out; omega)).trans HR0100.out
        have hZ0100c : Hid (V0100.heap[X + 1 + 1]? = _) := (hb.block (X + 1 + 1) (by have := S0100.out; omega)).trans HZ0100.out
        have hS0100c : Hid (X + 3 ≤ V0100.heap.size) := Nat.le_trans S0100.out hb.size
        have hB0100c : Hid (Below X w V0100) := B0100.out.trans (hb.mono (by have := S0100.out; omega))
        clear hb HX0100 HR0100 HZ0100 HL0100 B0100 S0100 x01000 x01001 x01002 x01003 x01004
        rw [show hasV n 8 = tB n from rfl]
        rcases Bool.eq_false_or_eq_true (tB n) with hB3 | hB3
        · rw [hB3]
          have x01000 : V0100.cell? ⟨X, 0, none⟩ = some (.int .i64 n) := by rw [(row_cell hX0100c.out 0).1]; rfl
          have x01001 : V0100.cell? ⟨X, 1, none⟩ = some (.int .i64 o) := by rw [(row_cell hX0100c.out 1).1]; rfl
          have x01002 : V0100.cell? ⟨X, 2, none⟩ = some (.int .u32 a) := by rw [(row_cell hX0100c.out 2).1]; rfl
          have x01003 : V0100.cell? ⟨X, 3, none⟩ = some (.int .i64 ws) := by rw [(row_cell hX0100c.out 3).1]; rfl
          have x01004 : V0100.cell? ⟨X, 4, none⟩ = some (.int .i64 t) := by rw [(row_cell hX0100c.out 4).1]; rfl
          obtain ⟨ro, hro⟩ : ∃ x, (r.set 0 o).getD 3 0 = x := ⟨_, rfl⟩
          have y0 := reg_at hR0100c.out ((HRr.out.set 0 HT0.out)) (i := 3) (by omega)
          rw [hro] at y0
          obtain ⟨y0, yf⟩ := y0
          clear hro
          go_upto_region 11 with fail
          obtain ⟨W01001, hW01001⟩ : ∃ W, V0100.setCell ⟨X + 1, 3, none⟩ (.int .u32 tv) = W := ⟨_, rfl⟩
          rw [hW01001]
          have HX01001 : Hid (W01001.heap[X]? = some (.cells #[.int .i64 n, .int .i64 o, .int .u32 a, .int .i64 ws, .int .i64 t] 25 (0, 0))) := by rw [← hW01001]; exact (set_far _ _ (by omega)).trans hX0100c.out
          have HR01001 : Hid (W01001.heap[X + 1]? = some (.cells (RG ((r.set 0 o).set 3 tv)) 23 (0, 0))) := by rw [← hW01001]; exact reg_set hR0100c.out 3 _
          have HZ01001 : Hid (W01001.heap[X + 1 + 1]? = some (.cells #[.int .u32 0, .int .u32 0, .int .u32 0, .int .u32 0, .int .u32 0, .int .u32 0, .int .u32 0, .int .u32 0, .int .u32 0, .int .u32 0, .int .u32 0, .int .u32 0, .int .u32 0, .int .u32 0, .int .u32 0, .int .u32 0] 23 (0, 0))) := by rw [← hW01001]; exact (set_far _ _ (by omega)).trans hZ0100c.out
          have B01001 : Hid (Below X w W01001) := by rw [← hW01001]; exact hB0100c.out.setCell (by show X ≤ X + 1; omega) _
          have HL01001 : Hid (Laid W01001) := HLw.out.below (by rw [hX]; exact B01001.out)
          have S01001 : Hid (X + 3 ≤ W01001.heap.size) := by rw [← hW01001]; simpa [Hid] using hS0100c.out
          clear hW01001 hX0100c hR0100c hZ0100c hS0100c hB0100c y0 yf x01000 x01001 x01002 x01003 x01004
          have hrg : Regs ((r.set 0 o).set 3 tv) := ((HRr.out.set 0 HT0.out).set 3 HT3.out)
          have hst := store16 HZ01001.out (by rfl) hrg
          obtain ⟨V4, hV4⟩ : ∃ W, W01001.setRow (X + 1 + 1) (RG ((r.set 0 o).set 3 tv)) = W := ⟨_, rfl⟩
          have HV4 : Hid (V4.heap[X + 1 + 1]? = some (.cells (RG ((r.set 0 o).set 3 tv)) 23 (0, 0))) := by unfold Hid; rw [← hV4]; exact setRow_heap _ _ _ _ _ _ HZ01001.out
          have BV4 : Hid (Below X w V4) := by rw [← hV4]; exact below_setRow B01001.out (by omega) _
          rw [hV4] at hst
          have hsz := hrg.size
          have HE : Hid (RG (encR ⟨n, o, a, ws, t⟩ r) = RG ((r.set 0 o).set 3 tv)) := by unfold Hid encR; simp only [hB0, hB1, hB2, hB3, if_true, if_false, Bool.false_eq_true, TV.out]
          clear hV4 hrg
          generalize hC : RG ((r.set 0 o).set 3 tv) = C at hsz hst HV4 HR01001 HE
          go_wp2_with (refine wpList_load_row rfl 23 _ rfl (X + 1) rfl 23 C (0, 0) _ HR01001.out Tryd.underlying23 rfl (by rw [hsz]; exact size16) ?_)
          refine bodyPost_ret (v := .agg C) (results_cell_row (ty := 23) (p := 4) rfl _ _ (X + 1 + 1) 23 C (0, 0) _ rfl HV4.out Tryd.underlying23 rfl (by rw [hsz]; exact size16)) rfl ⟨by rw [HVV.out, if_pos (by simp), HE.out], BV4.out⟩
        · rw [hB3]
          go_upto_region 11 with fail
          obtain ⟨W01000, hW01000⟩ : ∃ W, W = V0100 := ⟨_, rfl⟩
          subst hW01000
          have HX01000 := hX0100c
          have HR01000 := hR0100c
          have HZ01000 := hZ0100c
          have S01000 := hS0100c
          have B01000 := hB0100c
          have HL01000 : Hid (Laid W01000) := HLw.out.below (by rw [hX]; exact B01000.out)
          clear hX0100c hR0100c hZ0100c hS0100c hB0100c
          have hrg : Regs (r.set 0 o) := (HRr.out.set 0 HT0.out)
          have hst := store16 HZ01000.out (by rfl) hrg
          obtain ⟨V4, hV4⟩ : ∃ W, W01000.setRow (X + 1 + 1) (RG (r.set 0 o)) = W := ⟨_, rfl⟩
          have HV4 : Hid (V4.heap[X + 1 + 1]? = some (.cells (RG (r.set 0 o)) 23 (0, 0))) := by unfold Hid; rw [← hV4]; exact setRow_heap _ _ _ _ _ _ HZ01000.out
          have BV4 : Hid (Below X w V4) := by rw [← hV4]; exact below_setRow B01000.out (by omega) _
          rw [hV4] at hst
          have hsz := hrg.size
          have HE : Hid (RG (encR ⟨n, o, a, ws, t⟩ r) = RG (r.set 0 o)) := by unfold Hid encR; simp only [hB0, hB1, hB2, hB3, if_true, if_false, Bool.false_eq_true, TV.out]
          clear hV4 hrg
          generalize hC : RG (r.set 0 o) = C at hsz hst HV4 HR01000 HE
          go_wp2_with (refine wpList_load_row rfl 23 _ rfl (X + 1) rfl 23 C (0, 0) _ HR01000.out Tryd.underlying23 rfl (by rw [hsz]; exact size16) ?_)
          refine bodyPost_ret (v := .agg C) (results_cell_row (ty := 23) (p := 4) rfl _ _ (X + 1 + 1) 23 C (0, 0) _ rfl HV4.out Tryd.underlying23 rfl (by rw [hsz]; exact size16)) rfl ⟨by rw [HVV.out, if_pos (by simp), HE.out], BV4.out⟩
  · rw [hB0]
    go_upto_region 5 with fail
    obtain ⟨W00, hW00⟩ : ∃ W, W = V0 := ⟨_, rfl⟩
    subst hW00
    have HX00 := hX0c
    have HR00 := hR0c
    have HZ00 := hZ0c
    have S00 := hS0c
    have B00 := hB0c
    have HL00 : Hid (Laid W00) := HLw.out.below (by rw [hX]; exact B00.out)
    clear hX0c hR0c hZ0c hS0c hB0c
    have x000 : W00.cell? ⟨X, 0, none⟩ = some (.int .i64 n) := by rw [(row_cell HX00.out 0).1]; rfl
    have x001 : W00.cell? ⟨X, 1, none⟩ = some (.int .i64 o) := by rw [(row_cell HX00.out 1).1]; rfl
    have x002 : W00.cell? ⟨X, 2, none⟩ = some (.int .u32 a) := by rw [(row_cell HX00.out 2).1]; rfl
    have x003 : W00.cell? ⟨X, 3, none⟩ = some (.int .i64 ws) := by rw [(row_cell HX00.out 3).1]; rfl
    have x004 : W00.cell? ⟨X, 4, none⟩ = some (.int .i64 t) := by rw [(row_cell HX00.out 4).1]; rfl
    go_wp2_with fail
    refine (has_any n o a ws t 2 hn (.inr (.inl rfl)) _ HL00.out).mono ?_
    rintro e V00 ⟨rfl, hb⟩
    have hX00c : Hid (V00.heap[X]? = _) := (hb.block X (by have := S00.out; omega)).trans HX00.out
    have hR00c : Hid (V00.heap[X + 1]? = _) := (hb.block (X + 1) (by have := S00.out; omega)).trans HR00.out
    have hZ00c : Hid (V00.heap[X + 1 + 1]? = _) := (hb.block (X + 1 + 1) (by have := S00.out; omega)).trans HZ00.out
    have hS00c : Hid (X + 3 ≤ V00.heap.size) := Nat.le_trans S00.out hb.size
    have hB00c : Hid (Below X w V00) := B00.out.trans (hb.mono (by have := S00.out; omega))
    clear hb HX00 HR00 HZ00 HL00 B00 S00 x000 x001 x002 x003 x004
    rw [show hasV n 2 = aB n from rfl]
    rcases Bool.eq_false_or_eq_true (aB n) with hB1 | hB1
    · rw [hB1]
      have x000 : V00.cell? ⟨X, 0, none⟩ = some (.int .i64 n) := by rw [(row_cell hX00c.out 0).1]; rfl
      have x001 : V00.cell? ⟨X, 1, none⟩ = some (.int .i64 o) := by rw [(row_cell hX00c.out 1).1]; rfl
      have x002 : V00.cell? ⟨X, 2, none⟩ = some (.int .u32 a) := by rw [(row_cell hX00c.out 2).1]; rfl
      have x003 : V00.cell? ⟨X, 3, none⟩ = some (.int .i64 ws) := by rw [(row_cell hX00c.out 3).1]; rfl
      have x004 : V00.cell? ⟨X, 4, none⟩ = some (.int .i64 t) := by rw [(row_cell hX00c.out 4).1]; rfl
      obtain ⟨ro, hro⟩ : ∃ x, (r).getD 1 0 = x := ⟨_, rfl⟩
      have y0 := reg_at hR00c.out (HRr.out) (i := 1) (by omega)
      rw [hro] at y0
      obtain ⟨y0, yf⟩ := y0
      clear hro
      go_upto_region 7 with fail
      obtain ⟨W001, hW001⟩ : ∃ W, V00.setCell ⟨X + 1, 1, none⟩ (.int .u32 a) = W := ⟨_, rfl⟩
      rw [hW001]
      have HX001 : Hid (W001.heap[X]? = some (.cells #[.int .i64 n, .int .i64 o, .int .u32 a, .int .i64 ws, .int .i64 t] 25 (0, 0))) := by rw [← hW001]; exact (set_far _ _ (by omega)).trans hX00c.out
      have HR001 : Hid (W001.heap[X + 1]? = some (.cells (RG (r.set 1 a)) 23 (0, 0))) := by rw [← hW001]; exact reg_set hR00c.out 1 _
      have HZ001 : Hid (W001.heap[X + 1 + 1]? = some (.cells #[.int .u32 0, .int .u32 0, .int .u32 0, .int .u32 0, .int .u32 0, .int .u32 0, .int .u32 0, .int .u32 0, .int .u32 0, .int .u32 0, .int .u32 0, .int .u32 0, .int .u32 0, .int .u32 0, .int .u32 0, .int .u32 0] 23 (0, 0))) := by rw [← hW001]; exact (set_far _ _ (by omega)).trans hZ00c.out
      have B001 : Hid (Below X w W001) := by rw [← hW001]; exact hB00c.out.setCell (by show X ≤ X + 1; omega) _
      have HL001 : Hid (Laid W001) := HLw.out.below (by rw [hX]; exact B001.out)
      have S001 : Hid (X + 3 ≤ W001.heap.size) := by rw [← hW001]; simpa [Hid] using hS00c.out
      clear hW001 hX00c hR00c hZ00c hS00c hB00c y0 yf x000 x001 x002 x003 x004
      have x0010 : W001.cell? ⟨X, 0, none⟩ = some (.int .i64 n) := by rw [(row_cell HX001.out 0).1]; rfl
      have x0011 : W001.cell? ⟨X, 1, none⟩ = some (.int .i64 o) := by rw [(row_cell HX001.out 1).1]; rfl
      have x0012 : W001.cell? ⟨X, 2, none⟩ = some (.int .u32 a) := by rw [(row_cell HX001.out 2).1]; rfl
      have x0013 : W001.cell? ⟨X, 3, none⟩ = some (.int .i64 ws) := by rw [(row_cell HX001.out 3).1]; rfl
      have x0014 : W001.cell? ⟨X, 4, none⟩ = some (.int .i64 t) := by rw [(row_cell HX001.out 4).1]; rfl
      go_wp2_with fail
      refine (has_any n o a ws t 4 hn (.inr (.inr (.inl rfl))) _ HL001.out).mono ?_
      rintro e V001 ⟨rfl, hb⟩
      have hX001c : Hid (V001.heap[X]? = _) := (hb.block X (by have := S001.out; omega)).trans HX001.out
      have hR001c : Hid (V001.heap[X + 1]? = _) := (hb.block (X + 1) (by have := S001.out; omega)).trans HR001.out
      have hZ001c : Hid (V001.heap[X + 1 + 1]? = _) := (hb.block (X + 1 + 1) (by have := S001.out; omega)).trans HZ001.out
      have hS001c : Hid (X + 3 ≤ V001.heap.size) := Nat.le_trans S001.out hb.size
      have hB001c : Hid (Below X w V001) := B001.out.trans (hb.mono (by have := S001.out; omega))
      clear hb HX001 HR001 HZ001 HL001 B001 S001 x0010 x0011 x0012 x0013 x0014
      rw [show hasV n 4 = wB n from rfl]
      rcases Bool.eq_false_or_eq_true (wB n) with hB2 | hB2
      · rw [hB2]
        have x0010 : V001.cell? ⟨X, 0, none⟩ = some (.int .i64 n) := by rw [(row_cell hX001c.out 0).1]; rfl
        have x0011 : V001.cell? ⟨X, 1, none⟩ = some (.int .i64 o) := by rw [(row_cell hX001c.out 1).1]; rfl
        have x0012 : V001.cell? ⟨X, 2, none⟩ = some (.int .u32 a) := by rw [(row_cell hX001c.out 2).1]; rfl
        have x0013 : V001.cell? ⟨X, 3, none⟩ = some (.int .i64 ws) := by rw [(row_cell hX001c.out 3).1]; rfl
        have x0014 : V001.cell? ⟨X, 4, none⟩ = some (.int .i64 t) := by rw [(row_cell hX001c.out 4).1]; rfl
        obtain ⟨ro, hro⟩ : ∃ x, (r.set 1 a).getD 2 0 = x := ⟨_, rfl⟩
        have y0 := reg_at hR001c.out ((HRr.out.set 1 HT1.out)) (i := 2) (by omega)
        rw [hro] at y0
        obtain ⟨y0, yf⟩ := y0
        clear hro
        go_upto_region 9 with fail
        obtain ⟨W0011, hW0011⟩ : ∃ W, V001.setCell ⟨X + 1, 2, none⟩ (.int .u32 ws) = W := ⟨_, rfl⟩
        rw [hW0011]
        have HX0011 : Hid (W0011.heap[X]? = some (.cells #[.int .i64 n, .int .i64 o, .int .u32 a, .int .i64 ws, .int .i64 t] 25 (0, 0))) := by rw [← hW0011]; exact (set_far _ _ (by omega)).trans hX001c.out
        have HR0011 : Hid (W0011.heap[X + 1]? = some (.cells (RG ((r.set 1 a).set 2 ws)) 23 (0, 0))) := by rw [← hW0011]; exact reg_set hR001c.out 2 _
        have HZ0011 : Hid (W0011.heap[X + 1 + 1]? = some (.cells #[.int .u32 0, .int .u32 0, .int .u32 0, .int .u32 0, .int .u32 0, .int .u32 0, .int .u32 0, .int .u32 0, .int .u32 0, .int .u32 0, .int .u32 0, .int .u32 0, .int .u32 0, .int .u32 0, .int .u32 0, .int .u32 0] 23 (0, 0))) := by rw [← hW0011]; exact (set_far _ _ (by omega)).trans hZ001c.out
        have B0011 : Hid (Below X w W0011) := by rw [← hW0011]; exact hB001c.out.setCell (by show X ≤ X + 1; omega) _
        have HL0011 : Hid (Laid W0011) := HLw.out.below (by rw [hX]; exact B0011.out)
        have S0011 : Hid (X + 3 ≤ W0011.heap.size) := by rw [← hW0011]; simpa [Hid] using hS001c.out
        clear hW0011 hX001c hR001c hZ001c hS001c hB001c y0 yf x0010 x0011 x0012 x0013 x0014
        have x00110 : W0011.cell? ⟨X, 0, none⟩ = some (.int .i64 n) := by rw [(row_cell HX0011.out 0).1]; rfl
        have x00111 : W0011.cell? ⟨X, 1, none⟩ = some (.int .i64 o) := by rw [(row_cell HX0011.out 1).1]; rfl
        have x00112 : W0011.cell? ⟨X, 2, none⟩ = some (.int .u32 a) := by rw [(row_cell HX0011.out 2).1]; rfl
        have x00113 : W0011.cell? ⟨X, 3, none⟩ = some (.int .i64 ws) := by rw [(row_cell HX0011.out 3).1]; rfl
        have x00114 : W0011.cell? ⟨X, 4, none⟩ = some (.int .i64 t) := by rw [(row_cell HX0011.out 4).1]; rfl
        go_wp2_with fail
        refine (has_any n o a ws t 8 hn (.inr (.inr (.inr rfl))) _ HL0011.out).mono ?_
        rintro e V0011 ⟨rfl, hb⟩
        have hX0011c : Hid (V0011.heap[X]? = _) := (hb.block X (by have := S0011.out; omega)).trans HX0011.out
        have hR0011c : Hid (V0011.heap[X + 1]? = _) := (hb.block (X + 1) (by have := S0011.out; omega)).trans HR0011.out
        have hZ0011c : Hid (V0011.heap[X + 1 + 1]? = _) := (hb.block (X + 1 + 1) (by have := S0011.out; omega)).trans HZ0011.out
        have hS0011c : Hid (X + 3 ≤ V0011.heap.size) := Nat.le_trans S0011.out hb.size
        have hB0011c : Hid (Below X w V0011) := B0011.out.trans (hb.mono (by have := S0011.out; omega))
        clear hb HX0011 HR0011 HZ0011 HL0011 B0011 S0011 x00110 x00111 x00112 x00113 x00114
        rw [show hasV n 8 = tB n from rfl]
        rcases Bool.eq_false_or_eq_true (tB n) with hB3 | hB3
        · rw [hB3]
          have x00110 : V0011.cell? ⟨X, 0, none⟩ = some (.int .i64 n) := by rw [(row_cell hX0011c.out 0).1]; rfl
          have x00111 : V0011.cell? ⟨X, 1, none⟩ = some (.int .i64 o) := by rw [(row_cell hX0011c.out 1).1]; rfl
          have x00112 : V0011.cell? ⟨X, 2, none⟩ = some (.int .u32 a) := by rw [(row_cell hX0011c.out 2).1]; rfl
          have x00113 : V0011.cell? ⟨X, 3, none⟩ = some (.int .i64 ws) := by rw [(row_cell hX0011c.out 3).1]; rfl
          have x00114 : V0011.cell? ⟨X, 4, none⟩ = some (.int .i64 t) := by rw [(row_cell hX0011c.out 4).1]; rfl
          obtain ⟨ro, hro⟩ : ∃ x, ((r.set 1 a).set 2 ws).getD 3 0 = x := ⟨_, rfl⟩
          have y0 := reg_at hR0011c.out (((HRr.out.set 1 HT1.out).set 2 HT2.out)) (i := 3) (by omega)
          rw [hro] at y0
          obtain ⟨y0, yf⟩ := y0
          clear hro
          go_upto_region 11 with fail
          obtain ⟨W00111, hW00111⟩ : ∃ W, V0011.setCell ⟨X + 1, 3, none⟩ (.int .u32 tv) = W := ⟨_, rfl⟩
          rw [hW00111]
          have HX00111 : Hid (W00111.heap[X]? = some (.cells #[.int .i64 n, .int .i64 o, .int .u32 a, .int .i64 ws, .int .i64 t] 25 (0, 0))) := by rw [← hW00111]; exact (set_far _ _ (by omega)).trans hX0011c.out
          have HR00111 : Hid (W00111.heap[X + 1]? = some (.cells (RG (((r.set 1 a).set 2 ws).set 3 tv)) 23 (0, 0))) := by rw [← hW00111]; exact reg_set hR0011c.out 3 _
          have HZ00111 : Hid (W00111.heap[X + 1 + 1]? = some (.cells #[.int .u32 0, .int .u32 0, .int .u32 0, .int .u32 0, .int .u32 0, .int .u32 0, .int .u32 0, .int .u32 0, .int .u32 0, .int .u32 0, .int .u32 0, .int .u32 0, .int .u32 0, .int .u32 0, .int .u32 0, .int .u32 0] 23 (0, 0))) := by rw [← hW00111]; exact (set_far _ _ (by omega)).trans hZ0011c.out
          have B00111 : Hid (Below X w W00111) := by rw [← hW00111]; exact hB0011c.out.setCell (by show X ≤ X + 1; omega) _
          have HL00111 : Hid (Laid W00111) := HLw.out.below (by rw [hX]; exact B00111.out)
          have S00111 : Hid (X + 3 ≤ W00111.heap.size) := by rw [← hW00111]; simpa [Hid] using hS0011c.out
          clear hW00111 hX0011c hR0011c hZ0011c hS0011c hB0011c y0 yf x00110 x00111 x00112 x00113 x00114
          have hrg : Regs (((r.set 1 a).set 2 ws).set 3 tv) := (((HRr.out.set 1 HT1.out).set 2 HT2.out).set 3 HT3.out)
          have hst := store16 HZ00111.out (by rfl) hrg
          obtain ⟨V4, hV4⟩ : ∃ W, W00111.setRow (X + 1 + 1) (RG (((r.set 1 a).set 2 ws).set 3 tv)) = W := ⟨_, rfl⟩
          have HV4 : Hid (V4.heap[X + 1 + 1]? = some (.cells (RG (((r.set 1 a).set 2 ws).set 3 tv)) 23 (0, 0))) := by unfold Hid; rw [← hV4]; exact setRow_heap _ _ _ _ _ _ HZ00111.out
          have BV4 : Hid (Below X w V4) := by rw [← hV4]; exact below_setRow B00111.out (by omega) _
          rw [hV4] at hst
          have hsz := hrg.size
          have HE : Hid (RG (encR ⟨n, o, a, ws, t⟩ r) = RG (((r.set 1 a).set 2 ws).set 3 tv)) := by unfold Hid encR; simp only [hB0, hB1, hB2, hB3, if_true, if_false, Bool.false_eq_true, TV.out]
          clear hV4 hrg
          generalize hC : RG (((r.set 1 a).set 2 ws).set 3 tv) = C at hsz hst HV4 HR00111 HE
          go_wp2_with (refine wpList_load_row rfl 23 _ rfl (X + 1) rfl 23 C (0, 0) _ HR00111.out Tryd.underlying23 rfl (by rw [hsz]; exact size16) ?_)
          refine bodyPost_ret (v := .agg C) (results_cell_row (ty := 23) (p := 4) rfl _ _ (X + 1 + 1) 23 C (0, 0) _ rfl HV4.out Tryd.underlying23 rfl (by rw [hsz]; exact size16)) rfl ⟨by rw [HVV.out, if_pos (by simp), HE.out], BV4.out⟩
        · rw [hB3]
          go_upto_region 11 with fail
          obtain ⟨W00110, hW00110⟩ : ∃ W, W = V0011 := ⟨_, rfl⟩
          subst hW00110
          have HX00110 := hX0011c
          have HR00110 := hR0011c
          have HZ00110 := hZ0011c
          have S00110 := hS0011c
          have B00110 := hB0011c
          have HL00110 : Hid (Laid W00110) := HLw.out.below (by rw [hX]; exact B00110.out)
          clear hX0011c hR0011c hZ0011c hS0011c hB0011c
          have hrg : Regs ((r.set 1 a).set 2 ws) := ((HRr.out.set 1 HT1.out).set 2 HT2.out)
          have hst := store16 HZ00110.out (by rfl) hrg
          obtain ⟨V4, hV4⟩ : ∃ W, W00110.setRow (X + 1 + 1) (RG ((r.set 1 a).set 2 ws)) = W := ⟨_, rfl⟩
          have HV4 : Hid (V4.heap[X + 1 + 1]? = some (.cells (RG ((r.set 1 a).set 2 ws)) 23 (0, 0))) := by unfold Hid; rw [← hV4]; exact setRow_heap _ _ _ _ _ _ HZ00110.out
          have BV4 : Hid (Below X w V4) := by rw [← hV4]; exact below_setRow B00110.out (by omega) _
          rw [hV4] at hst
          have hsz := hrg.size
          have HE : Hid (RG (encR ⟨n, o, a, ws, t⟩ r) = RG ((r.set 1 a).set 2 ws)) := by unfold Hid encR; simp only [hB0, hB1, hB2, hB3, if_true, if_false, Bool.false_eq_true, TV.out]
          clear hV4 hrg
          generalize hC : RG ((r.set 1 a).set 2 ws) = C at hsz hst HV4 HR00110 HE
          go_wp2_with (refine wpList_load_row rfl 23 _ rfl (X + 1) rfl 23 C (0, 0) _ HR00110.out Tryd.underlying23 rfl (by rw [hsz]; exact size16) ?_)
          refine bodyPost_ret (v := .agg C) (results_cell_row (ty := 23) (p := 4) rfl _ _ (X + 1 + 1) 23 C (0, 0) _ rfl HV4.out Tryd.underlying23 rfl (by rw [hsz]; exact size16)) rfl ⟨by rw [HVV.out, if_pos (by simp), HE.out], BV4.out⟩
      · rw [hB2]
        go_upto_region 9 with fail
        obtain ⟨W0010, hW0010⟩ : ∃ W, W = V001 := ⟨_, rfl⟩
        subst hW0010
        have HX0010 := hX001c
        have HR0010 := hR001c
        have HZ0010 := hZ001c
        have S0010 := hS001c
        have B0010 := hB001c
        have HL0010 : Hid (Laid W0010) := HLw.out.below (by rw [hX]; exact B0010.out)
        clear hX001c hR001c hZ001c hS001c hB001c
        have x00100 : W0010.cell? ⟨X, 0, none⟩ = some (.int .i64 n) := by rw [(row_cell HX0010.out 0).1]; rfl
        have x00101 : W0010.cell? ⟨X, 1, none⟩ = some (.int .i64 o) := by rw [(row_cell HX0010.out 1).1]; rfl
        have x00102 : W0010.cell? ⟨X, 2, none⟩ = some (.int .u32 a) := by rw [(row_cell HX0010.out 2).1]; rfl
        have x00103 : W0010.cell? ⟨X, 3, none⟩ = some (.int .i64 ws) := by rw [(row_cell HX0010.out 3).1]; rfl
        have x00104 : W0010.cell? ⟨X, 4, none⟩ = some (.int .i64 t) := by rw [(row_cell HX0010.out 4).1]; rfl
        go_wp2_with fail
        refine (has_any n o a ws t 8 hn (.inr (.inr (.inr rfl))) _ HL0010.out).mono ?_
        rintro e V0010 ⟨rfl, hb⟩
        have hX0010c : Hid (V0010.heap[X]? = _) := (hb.block X (by have := S0010.out; omega)).trans HX0010.out
        have hR0010c : Hid (V0010.heap[X + 1]? = _) := (hb.block (X + 1) (by have := S0010.out; omega)).trans HR0010.out
        have hZ0010c : Hid (V0010.heap[X + 1 + 1]? = _) := (hb.block (X + 1 + 1) (by have := S0010.out; omega)).trans HZ0010.out
        have hS0010c : Hid (X + 3 ≤ V0010.heap.size) := Nat.le_trans S0010.out hb.size
        have hB0010c : Hid (Below X w V0010) := B0010.out.trans (hb.mono (by have := S0010.out; omega))
        clear hb HX0010 HR0010 HZ0010 HL0010 B0010 S0010 x00100 x00101 x00102 x00103 x00104
        rw [show hasV n 8 = tB n from rfl]
        rcases Bool.eq_false_or_eq_true (tB n) with hB3 | hB3
        · rw [hB3]
          have x00100 : V0010.cell? ⟨X, 0, none⟩ = some (.int .i64 n) := by rw [(row_cell hX0010c.out 0).1]; rfl
          have x00101 : V0010.cell? ⟨X, 1, none⟩ = some (.int .i64 o) := by rw [(row_cell hX0010c.out 1).1]; rfl
          have x00102 : V0010.cell? ⟨X, 2, none⟩ = some (.int .u32 a) := by rw [(row_cell hX0010c.out 2).1]; rfl
          have x00103 : V0010.cell? ⟨X, 3, none⟩ = some (.int .i64 ws) := by rw [(row_cell hX0010c.out 3).1]; rfl
          have x00104 : V0010.cell? ⟨X, 4, none⟩ = some (.int .i64 t) := by rw [(row_cell hX0010c.out 4).1]; rfl
          obtain ⟨ro, hro⟩ : ∃ x, (r.set 1 a).getD 3 0 = x := ⟨_, rfl⟩
          have y0 := reg_at hR0010c.out ((HRr.out.set 1 HT1.out)) (i := 3) (by omega)
          rw [hro] at y0
          obtain ⟨y0, yf⟩ := y0
          clear hro
          go_upto_region 11 with fail
          obtain ⟨W00101, hW00101⟩ : ∃ W, V0010.setCell ⟨X + 1, 3, none⟩ (.int .u32 tv) = W := ⟨_, rfl⟩
          rw [hW00101]
          have HX00101 : Hid (W00101.heap[X]? = some (.cells #[.int .i64 n, .int .i64 o, .int .u32 a, .int .i64 ws, .int .i64 t] 25 (0, 0))) := by rw [← hW00101]; exact (set_far _ _ (by omega)).trans hX0010c.out
          have HR00101 : Hid (W00101.heap[X + 1]? = some (.cells (RG ((r.set 1 a).set 3 tv)) 23 (0, 0))) := by rw [← hW00101]; exact reg_set hR0010c.out 3 _
          have HZ00101 : Hid (W00101.heap[X + 1 + 1]? = some (.cells #[.int .u32 0, .int .u32 0, .int .u32 0, .int .u32 0, .int .u32 0, .int .u32 0, .int .u32 0, .int .u32 0, .int .u32 0, .int .u32 0, .int .u32 0, .int .u32 0, .int .u32 0, .int .u32 0, .int .u32 0, .int .u32 0] 23 (0, 0))) := by rw [← hW00101]; exact (set_far _ _ (by omega)).trans hZ0010c.out
          have B00101 : Hid (Below X w W00101) := by rw [← hW00101]; exact hB0010c.out.setCell (by show X ≤ X + 1; omega) _
          have HL00101 : Hid (Laid W00101) := HLw.out.below (by rw [hX]; exact B00101.out)
          have S00101 : Hid (X + 3 ≤ W00101.heap.size) := by rw [← hW00101]; simpa [Hid] using hS0010c.out
          clear hW00101 hX0010c hR0010c hZ0010c hS0010c hB0010c y0 yf x00100 x00101 x00102 x00103 x00104
          have hrg : Regs ((r.set 1 a).set 3 tv) := ((HRr.out.set 1 HT1.out).set 3 HT3.out)
          have hst := store16 HZ00101.out (by rfl) hrg
          obtain ⟨V4, hV4⟩ : ∃ W, W00101.setRow (X + 1 + 1) (RG ((r.set 1 a).set 3 tv)) = W := ⟨_, rfl⟩
          have HV4 : Hid (V4.heap[X + 1 + 1]? = some (.cells (RG ((r.set 1 a).set 3 tv)) 23 (0, 0))) := by unfold Hid; rw [← hV4]; exact setRow_heap _ _ _ _ _ _ HZ00101.out
          have BV4 : Hid (Below X w V4) := by rw [← hV4]; exact below_setRow B00101.out (by omega) _
          rw [hV4] at hst
          have hsz := hrg.size
          have HE : Hid (RG (encR ⟨n, o, a, ws, t⟩ r) = RG ((r.set 1 a).set 3 tv)) := by unfold Hid encR; simp only [hB0, hB1, hB2, hB3, if_true, if_false, Bool.false_eq_true, TV.out]
          clear hV4 hrg
          generalize hC : RG ((r.set 1 a).set 3 tv) = C at hsz hst HV4 HR00101 HE
          go_wp2_with (refine wpList_load_row rfl 23 _ rfl (X + 1) rfl 23 C (0, 0) _ HR00101.out Tryd.underlying23 rfl (by rw [hsz]; exact size16) ?_)
          refine bodyPost_ret (v := .agg C) (results_cell_row (ty := 23) (p := 4) rfl _ _ (X + 1 + 1) 23 C (0, 0) _ rfl HV4.out Tryd.underlying23 rfl (by rw [hsz]; exact size16)) rfl ⟨by rw [HVV.out, if_pos (by simp), HE.out], BV4.out⟩
        · rw [hB3]
          go_upto_region 11 with fail
          obtain ⟨W00100, hW00100⟩ : ∃ W, W = V0010 := ⟨_, rfl⟩
          subst hW00100
          have HX00100 := hX0010c
          have HR00100 := hR0010c
          have HZ00100 := hZ0010c
          have S00100 := hS0010c
          have B00100 := hB0010c
          have HL00100 : Hid (Laid W00100) := HLw.out.below (by rw [hX]; exact B00100.out)
          clear hX0010c hR0010c hZ0010c hS0010c hB0010c
          have hrg : Regs (r.set 1 a) := (HRr.out.set 1 HT1.out)
          have hst := store16 HZ00100.out (by rfl) hrg
          obtain ⟨V4, hV4⟩ : ∃ W, W00100.setRow (X + 1 + 1) (RG (r.set 1 a)) = W := ⟨_, rfl⟩
          have HV4 : Hid (V4.heap[X + 1 + 1]? = some (.cells (RG (r.set 1 a)) 23 (0, 0))) := by unfold Hid; rw [← hV4]; exact setRow_heap _ _ _ _ _ _ HZ00100.out
          have BV4 : Hid (Below X w V4) := by rw [← hV4]; exact below_setRow B00100.out (by omega) _
          rw [hV4] at hst
          have hsz := hrg.size
          have HE : Hid (RG (encR ⟨n, o, a, ws, t⟩ r) = RG (r.set 1 a)) := by unfold Hid encR; simp only [hB0, hB1, hB2, hB3, if_true, if_false, Bool.false_eq_true, TV.out]
          clear hV4 hrg
          generalize hC : RG (r.set 1 a) = C at hsz hst HV4 HR00100 HE
          go_wp2_with (refine wpList_load_row rfl 23 _ rfl (X + 1) rfl 23 C (0, 0) _ HR00100.out Tryd.underlying23 rfl (by rw [hsz]; exact size16) ?_)
          refine bodyPost_ret (v := .agg C) (results_cell_row (ty := 23) (p := 4) rfl _ _ (X + 1 + 1) 23 C (0, 0) _ rfl HV4.out Tryd.underlying23 rfl (by rw [hsz]; exact size16)) rfl ⟨by rw [HVV.out, if_pos (by simp), HE.out], BV4.out⟩
    · rw [hB1]
      go_upto_region 7 with fail
      obtain ⟨W000, hW000⟩ : ∃ W, W = V00 := ⟨_, rfl⟩
      subst hW000
      have HX000 := hX00c
      have HR000 := hR00c
      have HZ000 := hZ00c
      have S000 := hS00c
      have B000 := hB00c
      have HL000 : Hid (Laid W000) := HLw.out.below (by rw [hX]; exact B000.out)
      clear hX00c hR00c hZ00c hS00c hB00c
      have x0000 : W000.cell? ⟨X, 0, none⟩ = some (.int .i64 n) := by rw [(row_cell HX000.out 0).1]; rfl
      have x0001 : W000.cell? ⟨X, 1, none⟩ = some (.int .i64 o) := by rw [(row_cell HX000.out 1).1]; rfl
      have x0002 : W000.cell? ⟨X, 2, none⟩ = some (.int .u32 a) := by rw [(row_cell HX000.out 2).1]; rfl
      have x0003 : W000.cell? ⟨X, 3, none⟩ = some (.int .i64 ws) := by rw [(row_cell HX000.out 3).1]; rfl
      have x0004 : W000.cell? ⟨X, 4, none⟩ = some (.int .i64 t) := by rw [(row_cell HX000.out 4).1]; rfl
      go_wp2_with fail
      refine (has_any n o a ws t 4 hn (.inr (.inr (.inl rfl))) _ HL000.out).mono ?_
      rintro e V000 ⟨rfl, hb⟩
      have hX000c : Hid (V000.heap[X]? = _) := (hb.block X (by have := S000.out; omega)).trans HX000.out
      have hR000c : Hid (V000.heap[X + 1]? = _) := (hb.block (X + 1) (by have := S000.out; omega)).trans HR000.out
      have hZ000c : Hid (V000.heap[X + 1 + 1]? = _) := (hb.block (X + 1 + 1) (by have := S000.out; omega)).trans HZ000.out
      have hS000c : Hid (X + 3 ≤ V000.heap.size) := Nat.le_trans S000.out hb.size
      have hB000c : Hid (Below X w V000) := B000.out.trans (hb.mono (by have := S000.out; omega))
      clear hb HX000 HR000 HZ000 HL000 B000 S000 x0000 x0001 x0002 x0003 x0004
      rw [show hasV n 4 = wB n from rfl]
      rcases Bool.eq_false_or_eq_true (wB n) with hB2 | hB2
      · rw [hB2]
        have x0000 : V000.cell? ⟨X, 0, none⟩ = some (.int .i64 n) := by rw [(row_cell hX000c.out 0).1]; rfl
        have x0001 : V000.cell? ⟨X, 1, none⟩ = some (.int .i64 o) := by rw [(row_cell hX000c.out 1).1]; rfl
        have x0002 : V000.cell? ⟨X, 2, none⟩ = some (.int .u32 a) := by rw [(row_cell hX000c.out 2).1]; rfl
        have x0003 : V000.cell? ⟨X, 3, none⟩ = some (.int .i64 ws) := by rw [(row_cell hX000c.out 3).1]; rfl
        have x0004 : V000.cell? ⟨X, 4, none⟩ = some (.int .i64 t) := by rw [(row_cell hX000c.out 4).1]; rfl
        obtain ⟨ro, hro⟩ : ∃ x, (r).getD 2 0 = x := ⟨_, rfl⟩
        have y0 := reg_at hR000c.out (HRr.out) (i := 2) (by omega)
        rw [hro] at y0
        obtain ⟨y0, yf⟩ := y0
        clear hro
        go_upto_region 9 with fail
        obtain ⟨W0001, hW0001⟩ : ∃ W, V000.setCell ⟨X + 1, 2, none⟩ (.int .u32 ws) = W := ⟨_, rfl⟩
        rw [hW0001]
        have HX0001 : Hid (W0001.heap[X]? = some (.cells #[.int .i64 n, .int .i64 o, .int .u32 a, .int .i64 ws, .int .i64 t] 25 (0, 0))) := by rw [← hW0001]; exact (set_far _ _ (by omega)).trans hX000c.out
        have HR0001 : Hid (W0001.heap[X + 1]? = some (.cells (RG (r.set 2 ws)) 23 (0, 0))) := by rw [← hW0001]; exact reg_set hR000c.out 2 _
        have HZ0001 : Hid (W0001.heap[X + 1 + 1]? = some (.cells #[.int .u32 0, .int .u32 0, .int .u32 0, .int .u32 0, .int .u32 0, .int .u32 0, .int .u32 0, .int .u32 0, .int .u32 0, .int .u32 0, .int .u32 0, .int .u32 0, .int .u32 0, .int .u32 0, .int .u32 0, .int .u32 0] 23 (0, 0))) := by rw [← hW0001]; exact (set_far _ _ (by omega)).trans hZ000c.out
        have B0001 : Hid (Below X w W0001) := by rw [← hW0001]; exact hB000c.out.setCell (by show X ≤ X + 1; omega) _
        have HL0001 : Hid (Laid W0001) := HLw.out.below (by rw [hX]; exact B0001.out)
        have S0001 : Hid (X + 3 ≤ W0001.heap.size) := by rw [← hW0001]; simpa [Hid] using hS000c.out
        clear hW0001 hX000c hR000c hZ000c hS000c hB000c y0 yf x0000 x0001 x0002 x0003 x0004
        have x00010 : W0001.cell? ⟨X, 0, none⟩ = some (.int .i64 n) := by rw [(row_cell HX0001.out 0).1]; rfl
        have x00011 : W0001.cell? ⟨X, 1, none⟩ = some (.int .i64 o) := by rw [(row_cell HX0001.out 1).1]; rfl
        have x00012 : W0001.cell? ⟨X, 2, none⟩ = some (.int .u32 a) := by rw [(row_cell HX0001.out 2).1]; rfl
        have x00013 : W0001.cell? ⟨X, 3, none⟩ = some (.int .i64 ws) := by rw [(row_cell HX0001.out 3).1]; rfl
        have x00014 : W0001.cell? ⟨X, 4, none⟩ = some (.int .i64 t) := by rw [(row_cell HX0001.out 4).1]; rfl
        go_wp2_with fail
        refine (has_any n o a ws t 8 hn (.inr (.inr (.inr rfl))) _ HL0001.out).mono ?_
        rintro e V0001 ⟨rfl, hb⟩
        have hX0001c : Hid (V0001.heap[X]? = _) := (hb.block X (by have := S0001.out; omega)).trans HX0001.out
        have hR0001c : Hid (V0001.heap[X + 1]? = _) := (hb.block (X + 1) (by have := S0001.out; omega)).trans HR0001.out
        have hZ0001c : Hid (V0001.heap[X + 1 + 1]? = _) := (hb.block (X + 1 + 1) (by have := S0001.out; omega)).trans HZ0001.out
        have hS0001c : Hid (X + 3 ≤ V0001.heap.size) := Nat.le_trans S0001.out hb.size
        have hB0001c : Hid (Below X w V0001) := B0001.out.trans (hb.mono (by have := S0001.out; omega))
        clear hb HX0001 HR0001 HZ0001 HL0001 B0001 S0001 x00010 x00011 x00012 x00013 x00014
        rw [show hasV n 8 = tB n from rfl]
        rcases Bool.eq_false_or_eq_true (tB n) with hB3 | hB3
        · rw [hB3]
          have x00010 : V0001.cell? ⟨X, 0, none⟩ = some (.int .i64 n) := by rw [(row_cell hX0001c.out 0).1]; rfl
          have x00011 : V0001.cell? ⟨X, 1, none⟩ = some (.int .i64 o) := by rw [(row_cell hX0001c.out 1).1]; rfl
          have x00012 : V0001.cell? ⟨X, 2, none⟩ = some (.int .u32 a) := by rw [(row_cell hX0001c.out 2).1]; rfl
          have x00013 : V0001.cell? ⟨X, 3, none⟩ = some (.int .i64 ws) := by rw [(row_cell hX0001c.out 3).1]; rfl
          have x00014 : V0001.cell? ⟨X, 4, none⟩ = some (.int .i64 t) := by rw [(row_cell hX0001c.out 4).1]; rfl
          obtain ⟨ro, hro⟩ : ∃ x, (r.set 2 ws).getD 3 0 = x := ⟨_, rfl⟩
          have y0 := reg_at hR0001c.out ((HRr.out.set 2 HT2.out)) (i := 3) (by omega)
          rw [hro] at y0
          obtain ⟨y0, yf⟩ := y0
          clear hro
          go_upto_region 11 with fail
          obtain ⟨W00011, hW00011⟩ : ∃ W, V0001.setCell ⟨X + 1, 3, none⟩ (.int .u32 tv) = W := ⟨_, rfl⟩
          rw [hW00011]
          have HX00011 : Hid (W00011.heap[X]? = some (.cells #[.int .i64 n, .int .i64 o, .int .u32 a, .int .i64 ws, .int .i64 t] 25 (0, 0))) := by rw [← hW00011]; exact (set_far _ _ (by omega)).trans hX0001c.out
          have HR00011 : Hid (W00011.heap[X + 1]? = some (.cells (RG ((r.set 2 ws).set 3 tv)) 23 (0, 0))) := by rw [← hW00011]; exact reg_set hR0001c.out 3 _
          have HZ00011 : Hid (W00011.heap[X + 1 + 1]? = some (.cells #[.int .u32 0, .int .u32 0, .int .u32 0, .int .u32 0, .int .u32 0, .int .u32 0, .int .u32 0, .int .u32 0, .int .u32 0, .int .u32 0, .int .u32 0, .int .u32 0, .int .u32 0, .int .u32 0, .int .u32 0, .int .u32 0] 23 (0, 0))) := by rw [← hW00011]; exact (set_far _ _ (by omega)).trans hZ0001c.out
          have B00011 : Hid (Below X w W00011) := by rw [← hW00011]; exact hB0001c.out.setCell (by show X ≤ X + 1; omega) _
          have HL00011 : Hid (Laid W00011) := HLw.out.below (by rw [hX]; exact B00011.out)
          have S00011 : Hid (X + 3 ≤ W00011.heap.size) := by rw [← hW00011]; simpa [Hid] using hS0001c.out
          clear hW00011 hX0001c hR0001c hZ0001c hS0001c hB0001c y0 yf x00010 x00011 x00012 x00013 x00014
          have hrg : Regs ((r.set 2 ws).set 3 tv) := ((HRr.out.set 2 HT2.out).set 3 HT3.out)
          have hst := store16 HZ00011.out (by rfl) hrg
          obtain ⟨V4, hV4⟩ : ∃ W, W00011.setRow (X + 1 + 1) (RG ((r.set 2 ws).set 3 tv)) = W := ⟨_, rfl⟩
          have HV4 : Hid (V4.heap[X + 1 + 1]? = some (.cells (RG ((r.set 2 ws).set 3 tv)) 23 (0, 0))) := by unfold Hid; rw [← hV4]; exact setRow_heap _ _ _ _ _ _ HZ00011.out
          have BV4 : Hid (Below X w V4) := by rw [← hV4]; exact below_setRow B00011.out (by omega) _
          rw [hV4] at hst
          have hsz := hrg.size
          have HE : Hid (RG (encR ⟨n, o, a, ws, t⟩ r) = RG ((r.set 2 ws).set 3 tv)) := by unfold Hid encR; simp only [hB0, hB1, hB2, hB3, if_true, if_false, Bool.false_eq_true, TV.out]
          clear hV4 hrg
          generalize hC : RG ((r.set 2 ws).set 3 tv) = C at hsz hst HV4 HR00011 HE
          go_wp2_with (refine wpList_load_row rfl 23 _ rfl (X + 1) rfl 23 C (0, 0) _ HR00011.out Tryd.underlying23 rfl (by rw [hsz]; exact size16) ?_)
          refine bodyPost_ret (v := .agg C) (results_cell_row (ty := 23) (p := 4) rfl _ _ (X + 1 + 1) 23 C (0, 0) _ rfl HV4.out Tryd.underlying23 rfl (by rw [hsz]; exact size16)) rfl ⟨by rw [HVV.out, if_pos (by simp), HE.out], BV4.out⟩
        · rw [hB3]
          go_upto_region 11 with fail
          obtain ⟨W00010, hW00010⟩ : ∃ W, W = V0001 := ⟨_, rfl⟩
          subst hW00010
          have HX00010 := hX0001c
          have HR00010 := hR0001c
          have HZ00010 := hZ0001c
          have S00010 := hS0001c
          have B00010 := hB0001c
          have HL00010 : Hid (Laid W00010) := HLw.out.below (by rw [hX]; exact B00010.out)
          clear hX0001c hR0001c hZ0001c hS0001c hB0001c
          have hrg : Regs (r.set 2 ws) := (HRr.out.set 2 HT2.out)
          have hst := store16 HZ00010.out (by rfl) hrg
          obtain ⟨V4, hV4⟩ : ∃ W, W00010.setRow (X + 1 + 1) (RG (r.set 2 ws)) = W := ⟨_, rfl⟩
          have HV4 : Hid (V4.heap[X + 1 + 1]? = some (.cells (RG (r.set 2 ws)) 23 (0, 0))) := by unfold Hid; rw [← hV4]; exact setRow_heap _ _ _ _ _ _ HZ00010.out
          have BV4 : Hid (Below X w V4) := by rw [← hV4]; exact below_setRow B00010.out (by omega) _
          rw [hV4] at hst
          have hsz := hrg.size
          have HE : Hid (RG (encR ⟨n, o, a, ws, t⟩ r) = RG (r.set 2 ws)) := by unfold Hid encR; simp only [hB0, hB1, hB2, hB3, if_true, if_false, Bool.false_eq_true, TV.out]
          clear hV4 hrg
          generalize hC : RG (r.set 2 ws) = C at hsz hst HV4 HR00010 HE
          go_wp2_with (refine wpList_load_row rfl 23 _ rfl (X + 1) rfl 23 C (0, 0) _ HR00010.out Tryd.underlying23 rfl (by rw [hsz]; exact size16) ?_)
          refine bodyPost_ret (v := .agg C) (results_cell_row (ty := 23) (p := 4) rfl _ _ (X + 1 + 1) 23 C (0, 0) _ rfl HV4.out Tryd.underlying23 rfl (by rw [hsz]; exact size16)) rfl ⟨by rw [HVV.out, if_pos (by simp), HE.out], BV4.out⟩
      · rw [hB2]
        go_upto_region 9 with fail
        obtain ⟨W0000, hW0000⟩ : ∃ W, W = V000 := ⟨_, rfl⟩
        subst hW0000
        have HX0000 := hX000c
        have HR0000 := hR000c
        have HZ0000 := hZ000c
        have S0000 := hS000c
        have B0000 := hB000c
        have HL0000 : Hid (Laid W0000) := HLw.out.below (by rw [hX]; exact B0000.out)
        clear hX000c hR000c hZ000c hS000c hB000c
        have x00000 : W0000.cell? ⟨X, 0, none⟩ = some (.int .i64 n) := by rw [(row_cell HX0000.out 0).1]; rfl
        have x00001 : W0000.cell? ⟨X, 1, none⟩ = some (.int .i64 o) := by rw [(row_cell HX0000.out 1).1]; rfl
        have x00002 : W0000.cell? ⟨X, 2, none⟩ = some (.int .u32 a) := by rw [(row_cell HX0000.out 2).1]; rfl
        have x00003 : W0000.cell? ⟨X, 3, none⟩ = some (.int .i64 ws) := by rw [(row_cell HX0000.out 3).1]; rfl
        have x00004 : W0000.cell? ⟨X, 4, none⟩ = some (.int .i64 t) := by rw [(row_cell HX0000.out 4).1]; rfl
        go_wp2_with fail
        refine (has_any n o a ws t 8 hn (.inr (.inr (.inr rfl))) _ HL0000.out).mono ?_
        rintro e V0000 ⟨rfl, hb⟩
        have hX0000c : Hid (V0000.heap[X]? = _) := (hb.block X (by have := S0000.out; omega)).trans HX0000.out
        have hR0000c : Hid (V0000.heap[X + 1]? = _) := (hb.block (X + 1) (by have := S0000.out; omega)).trans HR0000.out
        have hZ0000c : Hid (V0000.heap[X + 1 + 1]? = _) := (hb.block (X + 1 + 1) (by have := S0000.out; omega)).trans HZ0000.out
        have hS0000c : Hid (X + 3 ≤ V0000.heap.size) := Nat.le_trans S0000.out hb.size
        have hB0000c : Hid (Below X w V0000) := B0000.out.trans (hb.mono (by have := S0000.out; omega))
        clear hb HX0000 HR0000 HZ0000 HL0000 B0000 S0000 x00000 x00001 x00002 x00003 x00004
        rw [show hasV n 8 = tB n from rfl]
        rcases Bool.eq_false_or_eq_true (tB n) with hB3 | hB3
        · rw [hB3]
          have x00000 : V0000.cell? ⟨X, 0, none⟩ = some (.int .i64 n) := by rw [(row_cell hX0000c.out 0).1]; rfl
          have x00001 : V0000.cell? ⟨X, 1, none⟩ = some (.int .i64 o) := by rw [(row_cell hX0000c.out 1).1]; rfl
          have x00002 : V0000.cell? ⟨X, 2, none⟩ = some (.int .u32 a) := by rw [(row_cell hX0000c.out 2).1]; rfl
          have x00003 : V0000.cell? ⟨X, 3, none⟩ = some (.int .i64 ws) := by rw [(row_cell hX0000c.out 3).1]; rfl
          have x00004 : V0000.cell? ⟨X, 4, none⟩ = some (.int .i64 t) := by rw [(row_cell hX0000c.out 4).1]; rfl
          obtain ⟨ro, hro⟩ : ∃ x, (r).getD 3 0 = x := ⟨_, rfl⟩
          have y0 := reg_at hR0000c.out (HRr.out) (i := 3) (by omega)
          rw [hro] at y0
          obtain ⟨y0, yf⟩ := y0
          clear hro
          go_upto_region 11 with fail
          obtain ⟨W00001, hW00001⟩ : ∃ W, V0000.setCell ⟨X + 1, 3, none⟩ (.int .u32 tv) = W := ⟨_, rfl⟩
          rw [hW00001]
          have HX00001 : Hid (W00001.heap[X]? = some (.cells #[.int .i64 n, .int .i64 o, .int .u32 a, .int .i64 ws, .int .i64 t] 25 (0, 0))) := by rw [← hW00001]; exact (set_far _ _ (by omega)).trans hX0000c.out
          have HR00001 : Hid (W00001.heap[X + 1]? = some (.cells (RG (r.set 3 tv)) 23 (0, 0))) := by rw [← hW00001]; exact reg_set hR0000c.out 3 _
          have HZ00001 : Hid (W00001.heap[X + 1 + 1]? = some (.cells #[.int .u32 0, .int .u32 0, .int .u32 0, .int .u32 0, .int .u32 0, .int .u32 0, .int .u32 0, .int .u32 0, .int .u32 0, .int .u32 0, .int .u32 0, .int .u32 0, .int .u32 0, .int .u32 0, .int .u32 0, .int .u32 0] 23 (0, 0))) := by rw [← hW00001]; exact (set_far _ _ (by omega)).trans hZ0000c.out
          have B00001 : Hid (Below X w W00001) := by rw [← hW00001]; exact hB0000c.out.setCell (by show X ≤ X + 1; omega) _
          have HL00001 : Hid (Laid W00001) := HLw.out.below (by rw [hX]; exact B00001.out)
          have S00001 : Hid (X + 3 ≤ W00001.heap.size) := by rw [← hW00001]; simpa [Hid] using hS0000c.out
          clear hW00001 hX0000c hR0000c hZ0000c hS0000c hB0000c y0 yf x00000 x00001 x00002 x00003 x00004
          have hrg : Regs (r.set 3 tv) := (HRr.out.set 3 HT3.out)
          have hst := store16 HZ00001.out (by rfl) hrg
          obtain ⟨V4, hV4⟩ : ∃ W, W00001.setRow (X + 1 + 1) (RG (r.set 3 tv)) = W := ⟨_, rfl⟩
          have HV4 : Hid (V4.heap[X + 1 + 1]? = some (.cells (RG (r.set 3 tv)) 23 (0, 0))) := by unfold Hid; rw [← hV4]; exact setRow_heap _ _ _ _ _ _ HZ00001.out
          have BV4 : Hid (Below X w V4) := by rw [← hV4]; exact below_setRow B00001.out (by omega) _
          rw [hV4] at hst
          have hsz := hrg.size
          have HE : Hid (RG (encR ⟨n, o, a, ws, t⟩ r) = RG (r.set 3 tv)) := by unfold Hid encR; simp only [hB0, hB1, hB2, hB3, if_true, if_false, Bool.false_eq_true, TV.out]
          clear hV4 hrg
          generalize hC : RG (r.set 3 tv) = C at hsz hst HV4 HR00001 HE
          go_wp2_with (refine wpList_load_row rfl 23 _ rfl (X + 1) rfl 23 C (0, 0) _ HR00001.out Tryd.underlying23 rfl (by rw [hsz]; exact size16) ?_)
          refine bodyPost_ret (v := .agg C) (results_cell_row (ty := 23) (p := 4) rfl _ _ (X + 1 + 1) 23 C (0, 0) _ rfl HV4.out Tryd.underlying23 rfl (by rw [hsz]; exact size16)) rfl ⟨by rw [HVV.out, if_pos (by simp), HE.out], BV4.out⟩
        · rw [hB3]
          go_upto_region 11 with fail
          obtain ⟨W00000, hW00000⟩ : ∃ W, W = V0000 := ⟨_, rfl⟩
          subst hW00000
          have HX00000 := hX0000c
          have HR00000 := hR0000c
          have HZ00000 := hZ0000c
          have S00000 := hS0000c
          have B00000 := hB0000c
          have HL00000 : Hid (Laid W00000) := HLw.out.below (by rw [hX]; exact B00000.out)
          clear hX0000c hR0000c hZ0000c hS0000c hB0000c
          have hrg : Regs (r) := HRr.out
          have hst := store16 HZ00000.out (by rfl) hrg
          obtain ⟨V4, hV4⟩ : ∃ W, W00000.setRow (X + 1 + 1) (RG (r)) = W := ⟨_, rfl⟩
          have HV4 : Hid (V4.heap[X + 1 + 1]? = some (.cells (RG (r)) 23 (0, 0))) := by unfold Hid; rw [← hV4]; exact setRow_heap _ _ _ _ _ _ HZ00000.out
          have BV4 : Hid (Below X w V4) := by rw [← hV4]; exact below_setRow B00000.out (by omega) _
          rw [hV4] at hst
          have hsz := hrg.size
          have HE : Hid (RG (encR ⟨n, o, a, ws, t⟩ r) = RG (r)) := by unfold Hid encR; simp only [hB0, hB1, hB2, hB3, if_true, if_false, Bool.false_eq_true, TV.out]
          clear hV4 hrg
          generalize hC : RG (r) = C at hsz hst HV4 HR00000 HE
          go_wp2_with (refine wpList_load_row rfl 23 _ rfl (X + 1) rfl 23 C (0, 0) _ HR00000.out Tryd.underlying23 rfl (by rw [hsz]; exact size16) ?_)
          refine bodyPost_ret (v := .agg C) (results_cell_row (ty := 23) (p := 4) rfl _ _ (X + 1 + 1) 23 C (0, 0) _ rfl HV4.out Tryd.underlying23 rfl (by rw [hsz]; exact size16)) rfl ⟨by rw [HVV.out, if_pos (by simp), HE.out], BV4.out⟩
set_option maxRecDepth 100000 in
set_option maxHeartbeats 8000000 in
theorem back_any (r : List Int) (hr : Regs r) (e0 v0 n0 : Int) (hv : 0 ≤ v0 ∧ v0 ≤ 4294967295) (w : World) : Calls Tryd.prog 18 #[.agg (RG r), .agg #[.int .i64 e0, .int .u32 v0, .int .i64 n0]] w fun e w' => e = .returned (.agg (RG (backR r e0 v0 n0))) ∧ Below w.heap.size w w' := by
  have hsr := hr.size
  obtain ⟨X, hX⟩ : ∃ X, w.heap.size = X := ⟨_, rfl⟩
  obtain ⟨W0, hW0⟩ : ∃ W0, ((w.alloc (.cells (RG r) 23)).alloc (.cells #[.int .i64 e0, .int .u32 v0, .int .i64 n0] 42)).alloc (.cells #[.int .u32 0, .int .u32 0, .int .u32 0, .int .u32 0, .int .u32 0, .int .u32 0, .int .u32 0, .int .u32 0, .int .u32 0, .int .u32 0, .int .u32 0, .int .u32 0, .int .u32 0, .int .u32 0, .int .u32 0, .int .u32 0] 23) = W0 := ⟨_, rfl⟩
  have B0 : Hid (Below X w W0) := by rw [← hW0, ← hX]; exact (((Below.refl _ _).alloc (Nat.le_refl _) _).alloc (by simp) _).alloc (by simp; omega) _
  have HX0 : Hid (W0.heap[X]? = some (.cells (RG r) 23 (0, 0))) := by
    unfold Hid; rw [← hW0, ← hX]
    exact ((((Below.refl _ _).alloc (by simp) _).alloc (by simp) _).block (B := (w.alloc (.cells (RG r) 23)).heap.size) _ (by simp)).trans (heap_alloc_new _ _)
  have HR0 : Hid (W0.heap[X + 1]? = some (.cells #[.int .i64 e0, .int .u32 v0, .int .i64 n0] 42 (0, 0))) := by
    unfold Hid; rw [← hW0, ← hX]
    have e := heap_alloc_new (w.alloc (.cells (RG r) 23)) (.cells #[.int .i64 e0, .int .u32 v0, .int .i64 n0] 42)
    exact (((Below.refl _ _).alloc (by simp) _).block (B := ((w.alloc (.cells (RG r) 23)).alloc (.cells #[.int .i64 e0, .int .u32 v0, .int .i64 n0] 42)).heap.size) _ (by simp)).trans (by simpa using e)
  have HZ0 : Hid (W0.heap[X + 1 + 1]? = some (.cells #[.int .u32 0, .int .u32 0, .int .u32 0, .int .u32 0, .int .u32 0, .int .u32 0, .int .u32 0, .int .u32 0, .int .u32 0, .int .u32 0, .int .u32 0, .int .u32 0, .int .u32 0, .int .u32 0, .int .u32 0, .int .u32 0] 23 (0, 0))) := by unfold Hid; rw [← hW0, ← hX]; have := heap_alloc_new ((w.alloc (.cells (RG r) 23)).alloc (.cells #[.int .i64 e0, .int .u32 v0, .int .i64 n0] 42)) (.cells #[.int .u32 0, .int .u32 0, .int .u32 0, .int .u32 0, .int .u32 0, .int .u32 0, .int .u32 0, .int .u32 0, .int .u32 0, .int .u32 0, .int .u32 0, .int .u32 0, .int .u32 0, .int .u32 0, .int .u32 0, .int .u32 0] 23); simpa using this
  obtain ⟨e1, he1⟩ : ∃ x, IntKind.u32.wrap e0 = x := ⟨_, rfl⟩
  obtain ⟨n1, hn1⟩ : ∃ x, IntKind.u32.wrap n0 = x := ⟨_, rfl⟩
  have w1 : 0 ≤ e1 ∧ e1 ≤ 4294967295 := by rw [← he1, IntKind.wrap_u32]; omega
  have w2 : 0 ≤ n1 ∧ n1 ≤ 4294967295 := by rw [← hn1, IntKind.wrap_u32]; omega
  have HE : Hid (backR r e0 v0 n0 = ((r.set 0 e1).set 1 v0).set 2 n1) := by unfold Hid backR; rw [he1, hn1]
  have hrg : Regs (((r.set 0 e1).set 1 v0).set 2 n1) := ((hr.set 0 w1).set 1 hv).set 2 w2
  have H3 := Lib.hid hrg
  have HR := Lib.hid hr
  clear hrg
  simp only [hX]
  have g0 : W0.cell? ⟨X + 1, 0, none⟩ = some (.int .i64 e0) := by rw [(row_cell HR0.out 0).1]; rfl
  have g1 : W0.cell? ⟨X + 1, 1, none⟩ = some (.int .u32 v0) := by rw [(row_cell HR0.out 1).1]; rfl
  have g2 : W0.cell? ⟨X + 1, 2, none⟩ = some (.int .i64 n0) := by rw [(row_cell HR0.out 2).1]; rfl
  go_enter Tryd.func18, Tryd.ntmps18
  go_upto_region 1 with fail
  clear hW0 hX
  refine wp_region_held_drew (S := (fun w' => w'.cell? ⟨X + 1, 0, none⟩ = some (.int .i64 e0) ∧ w'.cell? ⟨X + 1, 1, none⟩ = some (.int .u32 v0) ∧ w'.cell? ⟨X + 1, 2, none⟩ = some (.int .i64 n0))) (by kernel_rfl) ⟨g0, g1, g2⟩ (fun hHeld => ?_)
  refine takeD (i := 0) (d := some 5) (v := ?_) _ rfl rfl (by kernel_rfl) (by kernel_rfl) (by kernel_rfl) (fun _ _ _ h => h) (by rfl) ?_ (by assumption) ?_
  rotate_left
  · (intro w hSw; (try dsimp only at hSw); go_simp) <;> with_reducible rfl
  try simp only [Act.put, List.setIfInBounds_toArray, List.set_cons_zero, List.set_cons_succ]
  refine takeD (i := 1) (d := some 6) (v := ?_) _ rfl rfl (by kernel_rfl) (by kernel_rfl) (by kernel_rfl) (fun _ _ _ h => h) (by rfl) ?_ (by assumption) ?_
  rotate_left
  · (intro w hSw; (try dsimp only at hSw); go_simp) <;> with_reducible rfl
  try simp only [Act.put, List.setIfInBounds_toArray, List.set_cons_zero, List.set_cons_succ]
  refine takeD (i := 2) (d := some 7) (v := ?_) _ rfl rfl (by kernel_rfl) (by kernel_rfl) (by kernel_rfl) (fun _ _ _ h => h) (by rfl) ?_ (by assumption) ?_
  rotate_left
  · (intro w hSw; (try dsimp only at hSw); go_simp) <;> with_reducible rfl
  try simp only [Act.put, List.setIfInBounds_toArray, List.set_cons_zero, List.set_cons_succ]
  refine takeD (i := 3) (d := some 8) (v := ?_) _ rfl rfl (by kernel_rfl) (by kernel_rfl) (by kernel_rfl) (fun _ _ _ h => h) (by rfl) ?_ (by assumption) ?_
  rotate_left
  · (intro w hSw; (try dsimp only at hSw); go_simp) <;> with_reducible rfl
  try simp only [Act.put, List.setIfInBounds_toArray, List.set_cons_zero, List.set_cons_succ]
  refine takeD (i := 4) (d := some 9) (v := ?_) _ rfl rfl (by kernel_rfl) (by kernel_rfl) (by kernel_rfl) (fun _ _ _ h => h) (by rfl) ?_ (by assumption) ?_
  rotate_left
  · (intro w hSw; (try dsimp only at hSw); go_simp) <;> with_reducible rfl
  try simp only [Act.put, List.setIfInBounds_toArray, List.set_cons_zero, List.set_cons_succ]
  refine takeD (i := 5) (d := some 10) (v := ?_) _ rfl rfl (by kernel_rfl) (by kernel_rfl) (by kernel_rfl) (fun _ _ _ h => h) (by rfl) ?_ (by assumption) ?_
  rotate_left
  · (intro w hSw; (try dsimp only at hSw); go_simp) <;> with_reducible rfl
  try simp only [Act.put, List.setIfInBounds_toArray, List.set_cons_zero, List.set_cons_succ]
  refine takeD (i := 6) (d := some 11) (v := ?_) _ rfl rfl (by kernel_rfl) (by kernel_rfl) (by kernel_rfl) (fun _ _ _ h => h) (by rfl) ?_ (by assumption) ?_
  rotate_left
  · (intro w hSw; (try dsimp only at hSw); go_simp) <;> with_reducible rfl
  try simp only [Act.put, List.setIfInBounds_toArray, List.set_cons_zero, List.set_cons_succ]
  refine takeD (i := 7) (d := some 12) (v := ?_) _ rfl rfl (by kernel_rfl) (by kernel_rfl) (by kernel_rfl) (fun _ _ _ h => h) (by rfl) ?_ (by assumption) ?_
  rotate_left
  · (intro w hSw; (try dsimp only at hSw); go_simp) <;> with_reducible rfl
  try simp only [Act.put, List.setIfInBounds_toArray, List.set_cons_zero, List.set_cons_succ]
  refine takeD (i := 8) (d := some 13) (v := ?_) _ rfl rfl (by kernel_rfl) (by kernel_rfl) (by kernel_rfl) (fun _ _ _ h => h) (by rfl) ?_ (by assumption) ?_
  rotate_left
  · (intro w hSw; (try dsimp only at hSw); go_simp) <;> with_reducible rfl
  try simp only [Act.put, List.setIfInBounds_toArray, List.set_cons_zero, List.set_cons_succ]
  obtain ⟨V0, hV0⟩ : ∃ V, W0.drew = V := ⟨_, rfl⟩
  have HXV : Hid (V0.heap[X]? = some (.cells (RG r) 23 (0, 0))) := by rw [← hV0]; exact HX0.out
  have HZV : Hid (V0.heap[X + 1 + 1]? = some (.cells #[.int .u32 0, .int .u32 0, .int .u32 0, .int .u32 0, .int .u32 0, .int .u32 0, .int .u32 0, .int .u32 0, .int .u32 0, .int .u32 0, .int .u32 0, .int .u32 0, .int .u32 0, .int .u32 0, .int .u32 0, .int .u32 0] 23 (0, 0))) := by rw [← hV0]; exact HZ0.out
  have BV : Hid (Below X w V0) := by rw [← hV0]; exact B0.out.drew
  simp only [hV0] at hHeld ⊢
  clear hV0 HX0 HR0 HZ0 B0 g0 g1 g2
  obtain ⟨o0, ho0⟩ : ∃ x, (r).getD 0 0 = x := ⟨_, rfl⟩
  have x0 := reg_at HXV.out HR.out (i := 0) (by omega)
  rw [ho0] at x0
  obtain ⟨x0, xf⟩ := x0
  clear ho0
  refine wpAnyH_ready (rs := [9]) (by kernel_rfl) (by simp) ?_
  refine AllReadyH.cons rfl (fun K hK => ?_) AllReadyH.nil
  try go_simp
  obtain ⟨V1, hV1⟩ : ∃ W, V0.setCell ⟨X, 0, none⟩ (.int .u32 e1) = W := ⟨_, rfl⟩
  have HXV1 : Hid (V1.heap[X]? = some (.cells (RG (r.set 0 e1)) 23 (0, 0))) := by rw [← hV1]; exact reg_set HXV.out 0 _
  have HZV1 : Hid (V1.heap[X + 1 + 1]? = some (.cells #[.int .u32 0, .int .u32 0, .int .u32 0, .int .u32 0, .int .u32 0, .int .u32 0, .int .u32 0, .int .u32 0, .int .u32 0, .int .u32 0, .int .u32 0, .int .u32 0, .int .u32 0, .int .u32 0, .int .u32 0, .int .u32 0] 23 (0, 0))) := by rw [← hV1]; exact (set_far _ _ (by omega)).trans HZV.out
  have BV1 : Hid (Below X w V1) := by rw [← hV1]; exact BV.out.setCell (Nat.le_refl _) _
  have SV : V1.cell? ⟨X + 1, 0, none⟩ = some (.int .i64 e0) ∧ V1.cell? ⟨X + 1, 1, none⟩ = some (.int .u32 v0) ∧ V1.cell? ⟨X + 1, 2, none⟩ = some (.int .i64 n0) := by
    rw [← hV1]
    refine ⟨(World.cell?_setCell_other _ _ _ _ (by simp)).trans hHeld.1, (World.cell?_setCell_other _ _ _ _ (by simp)).trans hHeld.2.1, (World.cell?_setCell_other _ _ _ _ (by simp)).trans hHeld.2.2⟩
  try rw [hV1]
  refine hK.out _ _ SV (fun hHeld => ?_)
  clear hK K SV x0 xf hV1
  try simp only [Act.put, List.setIfInBounds_toArray, List.set_cons_zero, List.set_cons_succ]
  refine takeD (i := 10) (d := some 14) (v := ?_) _ rfl rfl (by kernel_rfl) (by kernel_rfl) (by kernel_rfl) (fun _ _ _ h => h) (by rfl) ?_ (by assumption) ?_
  rotate_left
  · (intro w hSw; (try dsimp only at hSw); go_simp) <;> with_reducible rfl
  try simp only [Act.put, List.setIfInBounds_toArray, List.set_cons_zero, List.set_cons_succ]
  obtain ⟨o1, ho1⟩ : ∃ x, (r.set 0 e1).getD 1 0 = x := ⟨_, rfl⟩
  have x0 := reg_at HXV1.out (HR.out.set 0 w1) (i := 1) (by omega)
  rw [ho1] at x0
  obtain ⟨x0, xf⟩ := x0
  clear ho1
  refine wpAnyH_ready (rs := [11]) (by kernel_rfl) (by simp) ?_
  refine AllReadyH.cons rfl (fun K hK => ?_) AllReadyH.nil
  try go_simp
  obtain ⟨V2, hV2⟩ : ∃ W, V1.setCell ⟨X, 1, none⟩ (.int .u32 v0) = W := ⟨_, rfl⟩
  have HXV2 : Hid (V2.heap[X]? = some (.cells (RG ((r.set 0 e1).set 1 v0)) 23 (0, 0))) := by rw [← hV2]; exact reg_set HXV1.out 1 _
  have HZV2 : Hid (V2.heap[X + 1 + 1]? = some (.cells #[.int .u32 0, .int .u32 0, .int .u32 0, .int .u32 0, .int .u32 0, .int .u32 0, .int .u32 0, .int .u32 0, .int .u32 0, .int .u32 0, .int .u32 0, .int .u32 0, .int .u32 0, .int .u32 0, .int .u32 0, .int .u32 0] 23 (0, 0))) := by rw [← hV2]; exact (set_far _ _ (by omega)).trans HZV1.out
  have BV2 : Hid (Below X w V2) := by rw [← hV2]; exact BV1.out.setCell (Nat.le_refl _) _
  have SV : V2.cell? ⟨X + 1, 0, none⟩ = some (.int .i64 e0) ∧ V2.cell? ⟨X + 1, 1, none⟩ = some (.int .u32 v0) ∧ V2.cell? ⟨X + 1, 2, none⟩ = some (.int .i64 n0) := by
    rw [← hV2]
    refine ⟨(World.cell?_setCell_other _ _ _ _ (by simp)).trans hHeld.1, (World.cell?_setCell_other _ _ _ _ (by simp)).trans hHeld.2.1, (World.cell?_setCell_other _ _ _ _ (by simp)).trans hHeld.2.2⟩
  try rw [hV2]
  refine hK.out _ _ SV (fun hHeld => ?_)
  clear hK K SV x0 xf hV2
  try simp only [Act.put, List.setIfInBounds_toArray, List.set_cons_zero, List.set_cons_succ]
  refine takeD (i := 12) (d := some 15) (v := ?_) _ rfl rfl (by kernel_rfl) (by kernel_rfl) (by kernel_rfl) (fun _ _ _ h => h) (by rfl) ?_ (by assumption) ?_
  rotate_left
  · (intro w hSw; (try dsimp only at hSw); go_simp) <;> with_reducible rfl
  try simp only [Act.put, List.setIfInBounds_toArray, List.set_cons_zero, List.set_cons_succ]
  obtain ⟨o2, ho2⟩ : ∃ x, ((r.set 0 e1).set 1 v0).getD 2 0 = x := ⟨_, rfl⟩
  have x0 := reg_at HXV2.out ((HR.out.set 0 w1).set 1 hv) (i := 2) (by omega)
  rw [ho2] at x0
  obtain ⟨x0, xf⟩ := x0
  clear ho2
  refine wpAnyH_ready (rs := [13]) (by kernel_rfl) (by simp) ?_
  refine AllReadyH.cons rfl (fun K hK => ?_) AllReadyH.nil
  try go_simp
  obtain ⟨V3, hV3⟩ : ∃ W, V2.setCell ⟨X, 2, none⟩ (.int .u32 n1) = W := ⟨_, rfl⟩
  have HXV3 : Hid (V3.heap[X]? = some (.cells (RG (((r.set 0 e1).set 1 v0).set 2 n1)) 23 (0, 0))) := by rw [← hV3]; exact reg_set HXV2.out 2 _
  have HZV3 : Hid (V3.heap[X + 1 + 1]? = some (.cells #[.int .u32 0, .int .u32 0, .int .u32 0, .int .u32 0, .int .u32 0, .int .u32 0, .int .u32 0, .int .u32 0, .int .u32 0, .int .u32 0, .int .u32 0, .int .u32 0, .int .u32 0, .int .u32 0, .int .u32 0, .int .u32 0] 23 (0, 0))) := by rw [← hV3]; exact (set_far _ _ (by omega)).trans HZV2.out
  have BV3 : Hid (Below X w V3) := by rw [← hV3]; exact BV2.out.setCell (Nat.le_refl _) _
  have SV : V3.cell? ⟨X + 1, 0, none⟩ = some (.int .i64 e0) ∧ V3.cell? ⟨X + 1, 1, none⟩ = some (.int .u32 v0) ∧ V3.cell? ⟨X + 1, 2, none⟩ = some (.int .i64 n0) := by
    rw [← hV3]
    refine ⟨(World.cell?_setCell_other _ _ _ _ (by simp)).trans hHeld.1, (World.cell?_setCell_other _ _ _ _ (by simp)).trans hHeld.2.1, (World.cell?_setCell_other _ _ _ _ (by simp)).trans hHeld.2.2⟩
  try rw [hV3]
  refine hK.out _ _ SV (fun hHeld => ?_)
  clear hK K SV x0 xf hV3
  try simp only [Act.put, List.setIfInBounds_toArray, List.set_cons_zero, List.set_cons_succ]
  refine wpAnyH_done (by kernel_rfl) ?_ _
  have hsz := H3.out.size
  have hst := store16 HZV3.out (by rfl) H3.out
  obtain ⟨V4, hV4⟩ : ∃ W, V3.setRow (X + 1 + 1) (RG (((r.set 0 e1).set 1 v0).set 2 n1)) = W := ⟨_, rfl⟩
  have HV4 : Hid (V4.heap[X + 1 + 1]? = some (.cells (RG (((r.set 0 e1).set 1 v0).set 2 n1)) 23 (0, 0))) := by unfold Hid; rw [← hV4]; exact setRow_heap _ _ _ _ _ _ HZV3.out
  have BV4 : Hid (Below X w V4) := by rw [← hV4]; exact below_setRow BV3.out (by omega) _
  rw [hV4] at hst
  have HEE : Hid (RG (backR r e0 v0 n0) = RG (((r.set 0 e1).set 1 v0).set 2 n1)) := by unfold Hid; rw [HE.out]
  clear hV4 hsr he1 hn1 hHeld
  generalize hC : RG (((r.set 0 e1).set 1 v0).set 2 n1) = C at hsz hst HV4 HXV3 HEE
  go_wp2_with (refine wpList_load_row rfl 23 _ rfl X rfl 23 C (0, 0) _ HXV3.out Tryd.underlying23 rfl (by rw [hsz]; exact size16) ?_)
  refine bodyPost_ret (v := .agg C) (results_cell_row (ty := 23) (p := 4) rfl _ _ (X + 1 + 1) 23 C (0, 0) _ rfl HV4.out Tryd.underlying23 rfl (by rw [hsz]; exact size16)) rfl ⟨by rw [HEE.out], BV4.out⟩
end Go.Proofs.YtglpbngdikfliaaDoor.Ca
