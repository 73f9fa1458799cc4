/-
  Contract of next. Each statement bears its own conditions.
-/
import Derived.Test.YthmalhakkdjilaaDoorCpB
import Derived.Test.YthmalhakkdjilaaDoorCpF
namespace Go.Proofs.YthmalhakkdjilaaDoor
open Go.RowKit
set_option linter.unusedVariables false
set_option linter.unusedSimpArgs false
/-- What is done next: the instruction, its ticks, the error. -/
structure NX where
  o : Int
  a : Int
  b : Int
  n : Int
  t : Int
  e : Int
def decV (x : Int) : NX := if validV (x / 134217728) (x / 8388608 % 16) (x / 524288 % 16) (sgn19 x) = true then ⟨x / 134217728, x / 8388608 % 16, x / 524288 % 16, sgn19 x, priceV (x / 134217728), 0⟩ else ⟨0, 0, 0, 0, 1, 12⟩
def nextV (r : List Int) (μ : MS) : NX :=
  if r.getD 44 0 < 0 ∨ 8 < r.getD 44 0 then ⟨0, 0, 0, 0, 1, 10⟩
  else if ftE μ.W μ.code (r.getD 16 0) = 0 then decV (ftX μ.W μ.code (r.getD 16 0)) else ⟨0, 0, 0, 0, 1, ftE μ.W μ.code (r.getD 16 0)⟩
def NX.val (x : NX) : Value := .tuple #[.agg #[.int .i64 x.o, .int .i64 x.a, .int .i64 x.b, .int .i64 x.n], .int .i64 x.t, .int .i64 x.e]
theorem results_cell_two {P : Program} {fn : Func} {p q s : Tmp} {ty : TypeId} (h : fn.results = #[.cell p ty, .tmp q, .tmp s]) (tmps : Array Value) (w : World) (g : Nat) (cs : List Value) (d : TypeDesc)
    (hp : tmps.getD p undef = .pointer (some ⟨g, 0, none⟩)) (hc : w.rangeAt g 0 cs)
    (hu : P.underlying ty = some d) (hd : d.isRow = true) (hi : (P.info? ty).map (·.size) = some cs.length) :
    (results fn tmps).run P w = .ok (.tuple #[.agg cs.toArray, tmps.getD q undef, tmps.getD s undef]) w := by
  have hp' : tmps[p]?.getD undef = .pointer (some ⟨g, 0, none⟩) := by simpa using hp
  simp [results, h, hp', asAddr, run_loadVar_mid w g 0 ty cs d hc hu hd hi]
theorem range_four {w : World} {g : Nat} {c0 c1 c2 c3 : Value} {t : TypeId} (h : w.heap[g]? = some (.cells #[c0, c1, c2, c3] t (0, 0))) : w.rangeAt g 0 [c0, c1, c2, c3] := by
  intro j v hv
  rw [Nat.zero_add, (row_cell h j).1]
  simpa using hv
set_option maxRecDepth 100000 in
set_option maxHeartbeats 8000000 in
theorem next_nil (r : List Int) (w : World) : Calls Tryd.prog 45 #[.agg (cells r).toArray, .nilIface] w fun e w' => e = .returned (NX.val ⟨0, 0, 0, 0, 0, 1⟩) ∧ Below w.heap.size w w' := by
  unfold NX.val
  obtain ⟨W1, hW1⟩ : ∃ W1, w.alloc (.cells (cells r).toArray 28) = W1 := ⟨_, rfl⟩
  obtain ⟨g1, hg1⟩ : ∃ g1, w.heap.size = g1 := ⟨_, rfl⟩
  have b1 : Below g1 w W1 := by rw [← hW1, ← hg1]; exact (Below.refl _ _).alloc (Nat.le_refl _) _
  have HB1 := Lib.hid b1
  clear b1
  go_enter Tryd.func45, Tryd.ntmps45
  go_wp2_with fail
  have hx := heap_alloc_new W1 (.cells #[.int .i64 0, .int .i64 0, .int .i64 0, .int .i64 0] 66)
  refine bodyPost_ret (results_cell_two rfl _ _ W1.heap.size _ _ rfl (range_four hx) Tryd.underlying66 rfl (by kernel_rfl)) rfl ⟨rfl, ?_⟩
  have hb := HB1.out
  rw [hg1]
  exact hb.alloc (by have := hb.size; omega) _
theorem ft_u32 {xs : List Int} {code : Nat} {a : Int} (h : ∀ x ∈ xs, 0 ≤ x ∧ x < 4294967296) (ha : 0 ≤ a) : 0 ≤ ftX xs code a ∧ ftX xs code a < 4294967296 := by
  unfold ftX
  split
  next h1 =>
    split
    · rw [List.getD_eq_getElem?_getD, List.getElem?_eq_getElem (by omega)]
      exact h _ (List.getElem_mem _)
    · omega
  next => omega
theorem s4_mk {w w' : World} {g2 : Nat} {o a b n : Int} (hb : Below w.heap.size w w') (h : w'.heap[g2]? = some (.cells #[.int .i64 o, .int .i64 a, .int .i64 b, .int .i64 n] 66 (0, 0))) :
    Below w.heap.size w w' ∧ w'.heap[g2]? = some (.cells #[.int .i64 o, .int .i64 a, .int .i64 b, .int .i64 n] 66 (0, 0)) ∧ w'.cell? ⟨g2, 0, none⟩ = some (.int .i64 o) ∧ w'.cell? ⟨g2, 1, none⟩ = some (.int .i64 a) ∧ w'.cell? ⟨g2, 2, none⟩ = some (.int .i64 b) ∧ w'.cell? ⟨g2, 3, none⟩ = some (.int .i64 n) ∧
      w'.frozen? ⟨g2, 0, none⟩ = false ∧ w'.frozen? ⟨g2, 1, none⟩ = false ∧ w'.frozen? ⟨g2, 2, none⟩ = false ∧ w'.frozen? ⟨g2, 3, none⟩ = false := by
  refine ⟨hb, h, ?_, ?_, ?_, ?_, (row_cell h 0).2, (row_cell h 1).2, (row_cell h 2).2, (row_cell h 3).2⟩
  · simpa using (row_cell h 0).1
  · simpa using (row_cell h 1).1
  · simpa using (row_cell h 2).1
  · simpa using (row_cell h 3).1
theorem set4_heap {w : World} {g : Nat} {c0 c1 c2 c3 : Value} {t : TypeId} (h : w.heap[g]? = some (.cells #[c0, c1, c2, c3] t (0, 0))) (a b c d : Value) : ((((w.setCell ⟨g, 0, none⟩ a).setCell ⟨g, 1, none⟩ b).setCell ⟨g, 2, none⟩ c).setCell ⟨g, 3, none⟩ d).heap[g]? = some (.cells #[a, b, c, d] t (0, 0)) := by
  have h1 := set_at (set_at (set_at (set_at h 0 a) 1 b) 2 c) 3 d
  simpa using h1
theorem set4_below {B : Nat} {a w : World} (h : Below B a w) {g : Nat} (hg : B ≤ g) (p q r s : Value) : Below B a ((((w.setCell ⟨g, 0, none⟩ p).setCell ⟨g, 1, none⟩ q).setCell ⟨g, 2, none⟩ r).setCell ⟨g, 3, none⟩ s) :=
  (((h.setCell (p := ⟨g, 0, none⟩) hg _).setCell (p := ⟨g, 1, none⟩) hg _).setCell (p := ⟨g, 2, none⟩) hg _).setCell (p := ⟨g, 3, none⟩) hg _
theorem meth_fetch (gm : Nat) (W : World) : (method 209 31 (.pointer (some ⟨gm, 0, none⟩)) "Fetch").run Tryd.prog W = .ok (74, .pointer (some ⟨gm, 0, none⟩)) W := by kernel_rfl
set_option maxRecDepth 100000 in
set_option maxHeartbeats 8000000 in
theorem next_any (r : List Int) (w : World) (gm : Nat) (mv : Value) (μ : MS) (ng : Nat → Prop) (hr : RegOk r) (hm : MM w gm mv μ ng) (hL : Laid w) : Calls Tryd.prog 45 #[.agg (cells r).toArray, mv] w fun e w' => e = .returned (nextV r μ).val ∧ Below w.heap.size w w' := by
  obtain ⟨W1, hW1⟩ : ∃ W1, w.alloc (.cells (cells r).toArray 28) = W1 := ⟨_, rfl⟩
  obtain ⟨g1, hg1⟩ : ∃ g1, w.heap.size = g1 := ⟨_, rfl⟩
  have h1 : RB W1 g1 r [] 28 := by rw [← hW1, ← hg1]; exact RB.new _ _ _
  have b1 : Below g1 w W1 := by rw [← hW1, ← hg1]; exact (Below.refl _ _).alloc (Nat.le_refl _) _
  obtain ⟨W2, hW2⟩ : ∃ W2, W1.alloc (.cells #[.int .i64 0, .int .i64 0, .int .i64 0, .int .i64 0] 66) = W2 := ⟨_, rfl⟩
  obtain ⟨g2, hg2⟩ : ∃ g2, W1.heap.size = g2 := ⟨_, rfl⟩
  have h2 : W2.heap[g2]? = some (.cells #[.int .i64 0, .int .i64 0, .int .i64 0, .int .i64 0] 66 (0, 0)) := by rw [← hW2, ← hg2]; exact heap_alloc_new _ _
  have b12 : Below W1.heap.size W1 W2 := by rw [← hW2]; exact (Below.refl _ _).alloc (Nat.le_refl _) _
  have b2 : Below g1 w W2 := b1.trans (b12.mono (by have := h1.lt; omega))
  have h12 := h1.below b12
  obtain ⟨dp, hdp⟩ : ∃ dp, r.getD 44 0 = dp := ⟨_, rfl⟩
  obtain ⟨pc, hpc⟩ : ∃ pc, r.getD 16 0 = pc := ⟨_, rfl⟩
  have hl := hr.len
  have i44 := h12.cellk (o := 44) (by omega) kd_dep
  have i16 := h12.cellk (o := 16) (by omega) (kd_reg (by omega))
  have hpu := hr.u32 (j := 16) (by omega)
  rw [hdp] at i44
  rw [hpc] at i16 hpu
  obtain ⟨v, rfl, hv2, hv3, hv4⟩ := hm.ex
  have hmm := Lib.hid (hm.below (w' := W2) (by rw [hg1]; exact b2))
  have CF := Lib.hid (fetch_any gm _ μ ng pc W2 hmm.out hpu)
  have HLA := Lib.hid hL
  have HG2 : Hid (w.heap.size ≤ g2) := by have := h1.lt; unfold Hid; omega
  have HX := Lib.hid (ft_u32 (code := μ.code) hm.u32 hpu.1)
  have hmf := fun (W : World) => meth_fetch gm W
  have H2 := Lib.hid h2
  have HB2 : Hid (Below w.heap.size w W2) := by rw [hg1]; exact b2
  have HD := Lib.hid (And.intro hdp hpc)
  have z0 := (row_cell h2 0).1
  have z1 := (row_cell h2 1).1
  have z2 := (row_cell h2 2).1
  have z3 := (row_cell h2 3).1
  have f0 := (row_cell h2 0).2
  have f1 := (row_cell h2 1).2
  have f2 := (row_cell h2 2).2
  have f3 := (row_cell h2 3).2
  simp at z0 z1 z2 z3
  clear hm hv2 hv3 hv4 h1 b1 h2 b12 b2 h12 hl hr hpu hdp hpc hL
  go_enter Tryd.func45, Tryd.ntmps45
  have HV : Hid (nextV r μ = if dp < 0 ∨ 8 < dp then ⟨0, 0, 0, 0, 1, 10⟩ else if ftE μ.W μ.code pc = 0 then decV (ftX μ.W μ.code pc) else ⟨0, 0, 0, 0, 1, ftE μ.W μ.code pc⟩) := by unfold Hid nextV; rw [HD.out.1, HD.out.2]
  have zz := set4_heap H2.out (.int .i64 0) (.int .i64 0) (.int .i64 0) (.int .i64 0)
  have HZ := Lib.hid zz
  have HZB := Lib.hid (set4_below HB2.out HG2.out (.int .i64 0) (.int .i64 0) (.int .i64 0) (.int .i64 0))
  clear zz
  by_cases hneg : dp < 0
  · have HR : Hid (nextV r μ = ⟨0, 0, 0, 0, 1, 10⟩) := by unfold Hid; rw [HV.out, if_pos (Or.inl hneg)]
    have hdn : decide (dp < 0) = true := by simpa using hneg
    clear hneg
    go_wp2_with fail
    refine bodyPost_ret (results_cell_two rfl _ _ g2 _ _ rfl (range_four HZ.out) Tryd.underlying66 rfl (by kernel_rfl)) rfl ⟨?_, ?_⟩
    · rw [HR.out]; rfl
    · exact HZB.out
  · have hdn : decide (dp < 0) = false := by simpa using hneg
    by_cases hgt : 8 < dp
    · have HR : Hid (nextV r μ = ⟨0, 0, 0, 0, 1, 10⟩) := by unfold Hid; rw [HV.out, if_pos (Or.inr hgt)]
      have hdg : decide (8 < dp) = true := by simpa using hgt
      clear hneg hgt
      go_wp2_with fail
      refine bodyPost_ret (results_cell_two rfl _ _ g2 _ _ rfl (range_four HZ.out) Tryd.underlying66 rfl (by kernel_rfl)) rfl ⟨?_, ?_⟩
      · rw [HR.out]; rfl
      · exact HZB.out
    · have hdg : decide (8 < dp) = false := by simpa using hgt
      have HR : Hid (nextV r μ = if ftE μ.W μ.code pc = 0 then decV (ftX μ.W μ.code pc) else ⟨0, 0, 0, 0, 1, ftE μ.W μ.code pc⟩) := by unfold Hid; rw [HV.out, if_neg (by omega)]
      obtain ⟨fx, hfx⟩ : ∃ fx, ftX μ.W μ.code pc = fx := ⟨_, rfl⟩
      obtain ⟨fe, hfe⟩ : ∃ fe, ftE μ.W μ.code pc = fe := ⟨_, rfl⟩
      rw [hfx, hfe] at HR CF
      rw [hfx] at HX
      clear hneg hgt hfx hfe HV HZ HZB
      go_wp2_with fail
      refine CF.out.mono ?_
      rintro e W3 ⟨rfl, b3⟩
      have h23 := heap_keep b3 H2.out
      have HB3 : Hid (Below w.heap.size w W3) := HB2.out.trans (b3.mono HB2.out.size)
      have z0 := cell_later b3 z0
      have z1 := cell_later b3 z1
      have z2 := cell_later b3 z2
      have z3 := cell_later b3 z3
      have f0 := (row_cell h23 0).2
      have f1 := (row_cell h23 1).2
      have f2 := (row_cell h23 2).2
      have f3 := (row_cell h23 3).2
      have H23 := Lib.hid h23
      clear b3 CF hW1 hW2 i44 i16 hdn hdg h23 hmf
      by_cases he : fe = 0
      · subst he
        rw [if_pos rfl] at HR
        obtain ⟨io, hio⟩ : ∃ io, fx / 134217728 = io := ⟨_, rfl⟩
        obtain ⟨ia, hia⟩ : ∃ ia, fx / 8388608 % 16 = ia := ⟨_, rfl⟩
        obtain ⟨ib, hib⟩ : ∃ ib, fx / 524288 % 16 = ib := ⟨_, rfl⟩
        obtain ⟨s, hs⟩ : ∃ s, sgn19 fx = s := ⟨_, rfl⟩
        have CD := Lib.hid (decode_any fx W3 (HLA.out.below HB3.out) HX.out)
        have HR' : Hid (nextV r μ = if validV io ia ib s = true then ⟨io, ia, ib, s, priceV io, 0⟩ else ⟨0, 0, 0, 0, 1, 12⟩) := by unfold Hid; rw [HR.out]; unfold decV; rw [hio, hia, hib, hs]
        rw [hio, hia, hib, hs] at CD
        clear hio hia hib hs HR
        cases hv : validV io ia ib s with
        | false =>
          rw [hv] at CD HR'
          simp only [Bool.false_eq_true, if_false] at CD HR'
          go_wp2_with fail
          refine CD.out.mono ?_
          rintro e W4 ⟨rfl, b4⟩
          have h24 := heap_keep b4 H23.out
          have HB4 : Hid (Below w.heap.size w W4) := HB3.out.trans (b4.mono HB3.out.size)
          have z0 := cell_later b4 z0
          have z1 := cell_later b4 z1
          have z2 := cell_later b4 z2
          have z3 := cell_later b4 z3
          have f0 := (row_cell h24 0).2
          have f1 := (row_cell h24 1).2
          have f2 := (row_cell h24 2).2
          have f3 := (row_cell h24 3).2
          have HZ4 := Lib.hid (set4_heap h24 (.int .i64 0) (.int .i64 0) (.int .i64 0) (.int .i64 0))
          have HZB := Lib.hid (set4_below HB4.out HG2.out (.int .i64 0) (.int .i64 0) (.int .i64 0) (.int .i64 0))
          clear b4 CD h24 hv
          go_upto_region 9 with (fail)
          generalize ((((W4.setCell ⟨g2, 0, none⟩ (.int .i64 0)).setCell ⟨g2, 1, none⟩ (.int .i64 0)).setCell ⟨g2, 2, none⟩ (.int .i64 0)).setCell ⟨g2, 3, none⟩ (.int .i64 0)) = W5 at HZ4 HZB ⊢
          obtain ⟨_, _, y0, y1, y2, y3, e0, e1, e2, e3⟩ := s4_mk HZB.out HZ4.out
          clear z0 z1 z2 z3 f0 f1 f2 f3
          have HZ5 := Lib.hid (set4_heap HZ4.out (.int .i64 0) (.int .i64 0) (.int .i64 0) (.int .i64 0))
          have HZB5 := Lib.hid (set4_below HZB.out HG2.out (.int .i64 0) (.int .i64 0) (.int .i64 0) (.int .i64 0))
          go_wp2_with fail
          refine bodyPost_ret (results_cell_two rfl _ _ g2 _ _ rfl (range_four HZ5.out) Tryd.underlying66 rfl (by kernel_rfl)) rfl ⟨?_, ?_⟩
          · rw [HR'.out]; rfl
          · exact HZB5.out
        | true =>
          rw [hv] at CD HR'
          simp only [if_true] at CD HR'
          have CP := Lib.hid fun (W : World) (hb : Below w.heap.size w W) => price_any io W (HLA.out.below hb)
          go_wp2_with fail
          refine CD.out.mono ?_
          rintro e W4 ⟨rfl, b4⟩
          have h24 := heap_keep b4 H23.out
          have HB4 : Hid (Below w.heap.size w W4) := HB3.out.trans (b4.mono HB3.out.size)
          have z0 := cell_later b4 z0
          have z1 := cell_later b4 z1
          have z2 := cell_later b4 z2
          have z3 := cell_later b4 z3
          have f0 := (row_cell h24 0).2
          have f1 := (row_cell h24 1).2
          have f2 := (row_cell h24 2).2
          have f3 := (row_cell h24 3).2
          have HZ4 := Lib.hid (set4_heap h24 (.int .i64 io) (.int .i64 ia) (.int .i64 ib) (.int .i64 s))
          have HZB := Lib.hid (set4_below HB4.out HG2.out (.int .i64 io) (.int .i64 ia) (.int .i64 ib) (.int .i64 s))
          clear b4 CD h24 hv
          go_upto_region 9 with (fail)
          generalize ((((W4.setCell ⟨g2, 0, none⟩ (.int .i64 io)).setCell ⟨g2, 1, none⟩ (.int .i64 ia)).setCell ⟨g2, 2, none⟩ (.int .i64 ib)).setCell ⟨g2, 3, none⟩ (.int .i64 s)) = W5 at HZ4 HZB ⊢
          clear z0 z1 z2 z3 f0 f1 f2 f3
          obtain ⟨p, hp⟩ : ∃ p, priceV io = p := ⟨_, rfl⟩
          rw [hp] at CP HR'
          clear hp
          go_wp2_with fail
          refine wp_region_held_drew (S := fun w' => Below w.heap.size w w' ∧ w'.heap[g2]? = some (.cells #[.int .i64 io, .int .i64 ia, .int .i64 ib, .int .i64 s] 66 (0, 0)) ∧ w'.cell? ⟨g2, 0, none⟩ = some (.int .i64 io) ∧ w'.cell? ⟨g2, 1, none⟩ = some (.int .i64 ia) ∧ w'.cell? ⟨g2, 2, none⟩ = some (.int .i64 ib) ∧ w'.cell? ⟨g2, 3, none⟩ = some (.int .i64 s) ∧ w'.frozen? ⟨g2, 0, none⟩ = false ∧ w'.frozen? ⟨g2, 1, none⟩ = false ∧ w'.frozen? ⟨g2, 2, none⟩ = false ∧ w'.frozen? ⟨g2, 3, none⟩ = false) (by kernel_rfl) ?_ (fun hHeld => ?_)
          · exact s4_mk (HZB.out.drew) HZ4.out
          refine takeD (i := 0) (d := some 40) (v := ?_) _ rfl rfl (by kernel_rfl) (by kernel_rfl) (by kernel_rfl) (fun _ _ _ h => h) (by rfl) ?_ (by assumption) ?_
          rotate_left
          · (intro w hSw; (try dsimp only at hSw); go_simp) <;> with_reducible rfl
          try simp only [Act.put, List.setIfInBounds_toArray, List.set_cons_zero, List.set_cons_succ]
          refine takeD (i := 1) (d := some 41) (v := ?_) _ rfl rfl (by kernel_rfl) (by kernel_rfl) (by kernel_rfl) (fun _ _ _ h => h) (by rfl) ?_ (by assumption) ?_
          rotate_left
          · (intro w hSw; (try dsimp only at hSw); go_simp) <;> with_reducible rfl
          try simp only [Act.put, List.setIfInBounds_toArray, List.set_cons_zero, List.set_cons_succ]
          refine takeD (i := 2) (d := some 42) (v := ?_) _ rfl rfl (by kernel_rfl) (by kernel_rfl) (by kernel_rfl) (fun _ _ _ h => h) (by rfl) ?_ (by assumption) ?_
          rotate_left
          · (intro w hSw; (try dsimp only at hSw); go_simp) <;> with_reducible rfl
          try simp only [Act.put, List.setIfInBounds_toArray, List.set_cons_zero, List.set_cons_succ]
          refine wpAnyH_ready (rs := [3]) (by kernel_rfl) (by simp) ?_
          refine AllReadyH.cons rfl (fun K hK => ?_) AllReadyH.nil
          (go_simp; go_at_call 53; refine (CP.out _ hHeld.1).mono ?_; rintro e wt ⟨rfl, hbt⟩; try go_wp2_with fail)
          refine hK.out _ _ ?_ (fun hHeld => ?_)
          · exact s4_mk (hHeld.1.trans (hbt.mono hHeld.1.size)) (heap_keep hbt hHeld.2.1)
          clear hK K
          try simp only [Act.put, List.setIfInBounds_toArray, List.set_cons_zero, List.set_cons_succ]
          refine wpAnyH_ready (rs := [4]) (by kernel_rfl) (by simp) ?_
          refine AllReadyH.cons rfl (fun K hK => ?_) AllReadyH.nil
          obtain ⟨q0, q1, q2, q3, q4, q5, q6, q7, q8, q9⟩ := hHeld
          have Q0 := Lib.hid (And.intro q0 q1)
          clear q0 q1
          go_simp
          refine hK.out _ _ (s4_mk (set4_below Q0.out.1 HG2.out _ _ _ _) (set4_heap Q0.out.2 _ _ _ _)) (fun hHeld => ?_)
          clear hK K q2 q3 q4 q5 q6 q7 q8 q9 Q0
          try simp only [Act.put, List.setIfInBounds_toArray, List.set_cons_zero, List.set_cons_succ]
          refine takeD (i := 5) (d := some 5) (v := ?_) _ rfl rfl (by kernel_rfl) (by kernel_rfl) (by kernel_rfl) (fun _ _ _ h => h) (by rfl) ?_ (by assumption) ?_
          rotate_left
          · (intro w hSw; (try dsimp only at hSw); go_simp) <;> with_reducible rfl
          try simp only [Act.put, List.setIfInBounds_toArray, List.set_cons_zero, List.set_cons_succ]
          refine takeD (i := 6) (d := some 6) (v := ?_) _ rfl rfl (by kernel_rfl) (by kernel_rfl) (by kernel_rfl) (fun _ _ _ h => h) (by rfl) ?_ (by assumption) ?_
          rotate_left
          · (intro w hSw; (try dsimp only at hSw); go_simp) <;> with_reducible rfl
          try simp only [Act.put, List.setIfInBounds_toArray, List.set_cons_zero, List.set_cons_succ]
          refine wpAnyH_done (by kernel_rfl) ?_ _
          have HH := Lib.hid (And.intro hHeld.1 hHeld.2.1)
          clear hHeld
          go_wp2_with fail
          refine bodyPost_ret (results_cell_two rfl _ _ g2 _ _ rfl (range_four HH.out.2) Tryd.underlying66 rfl (by kernel_rfl)) rfl ⟨?_, ?_⟩
          · rw [HR'.out]; rfl
          · exact HH.out.1
      · rw [if_neg he] at HR
        have he' : (fe == 0) = false := by simpa using he
        have HZ4 := Lib.hid (set4_heap H23.out (.int .i64 0) (.int .i64 0) (.int .i64 0) (.int .i64 0))
        have HZB := Lib.hid (set4_below HB3.out HG2.out (.int .i64 0) (.int .i64 0) (.int .i64 0) (.int .i64 0))
        clear he
        go_wp2_with fail
        refine bodyPost_ret (results_cell_two rfl _ _ g2 _ _ rfl (range_four HZ4.out) Tryd.underlying66 rfl (by kernel_rfl)) rfl ⟨?_, ?_⟩
        · rw [HR.out]; rfl
        · exact HZB.out
end Go.Proofs.YthmalhakkdjilaaDoor
