/-
  The reference's Charge. Each statement bears its own conditions.
-/
import Derived.Test.YtehbcoopggpmjaaBgT
namespace Go.Proofs.Ytehbcoopggpmjaa.Bg
open Go.RowKit Go.Proofs.Ytehbcoopggpmjaa.F
set_option linter.unusedVariables false
set_option linter.unusedSimpArgs false
def C2 (L : List (Int × Int)) : List Value := L.flatMap fun d => [.int .i64 d.1, .int .i64 d.2]
theorem C2_len (L : List (Int × Int)) : (C2 L).length = L.length * 2 := by
  induction L with
  | nil => rfl
  | cons d r ih => unfold C2 at *; rw [List.flatMap_cons, List.length_append, ih, List.length_cons]; simp; omega
theorem C2_app (a b : List (Int × Int)) : C2 (a ++ b) = C2 a ++ C2 b := by simp [C2]
theorem C2_one (L : List (Int × Int)) : ∀ u ∈ C2 L, u.oneCell' = true := by
  intro u hu
  obtain ⟨d, _, hd⟩ := List.mem_flatMap.1 hu
  simp at hd
  rcases hd with rfl | rfl <;> rfl
theorem C2_at {L : List (Int × Int)} {i : Nat} {d : Int × Int} (h : L[i]? = some d) : (C2 L)[i * 2]? = some (.int .i64 d.1) ∧ (C2 L)[i * 2 + 1]? = some (.int .i64 d.2) := by
  induction L generalizing i with
  | nil => simp at h
  | cons y r ih =>
    unfold C2 at *
    rw [List.flatMap_cons]
    cases i with
    | zero => simp at h; subst h; exact ⟨rfl, rfl⟩
    | succ i =>
      have hh := ih (i := i) (by simpa using h)
      constructor
      · rw [List.getElem?_append_right (by simp; omega)]; simpa [show (i + 1) * 2 - 2 = i * 2 by omega] using hh.1
      · rw [List.getElem?_append_right (by simp; omega)]; simpa [show (i + 1) * 2 + 1 - 2 = i * 2 + 1 by omega] using hh.2
theorem C2_inv {L : List (Int × Int)} {j : Nat} {u : Value} (h : (C2 L)[j]? = some u) : ∃ d, L[j / 2]? = some d ∧ u = (if j % 2 = 0 then .int .i64 d.1 else .int .i64 d.2) := by
  have hj : j < L.length * 2 := by rw [← C2_len]; exact (List.getElem?_eq_some_iff.1 h).1
  obtain ⟨d, hd⟩ : ∃ d, L[j / 2]? = some d := ⟨_, List.getElem?_eq_getElem (by omega)⟩
  obtain ⟨c1, c2⟩ := C2_at hd
  refine ⟨d, hd, ?_⟩
  by_cases h0 : j % 2 = 0
  · rw [if_pos h0]
    rw [show j / 2 * 2 = j by omega, h] at c1
    exact Option.some.inj c1
  · rw [if_neg h0]
    rw [show j / 2 * 2 + 1 = j by omega, h] at c2
    exact Option.some.inj c2
theorem LV.reads {w : World} {p : Nat → Prop} {A : Option Addr} {n c : Nat} {L : List (Int × Int)} (h : LV w p (.slice A n c) L) : Reads w w.heap.size 2 A L.length (C2 L) := by
  obtain ⟨A', c', e, h1⟩ := h.ex
  injection e with e1 e2 e3
  subst e1
  refine ⟨C2_len L, fun h0 => ?_⟩
  obtain ⟨b, off, e1, hb, _, hc⟩ := h1 h0
  refine ⟨_, e1, hb, fun j u hu => ?_⟩
  obtain ⟨d, hd, hu2⟩ := C2_inv hu
  obtain ⟨k1, k2⟩ := hc (j / 2) d hd
  rw [Addr.add_lit, hu2]
  by_cases hj : j % 2 = 0
  · rw [if_pos hj, show off + j = off + j / 2 * 2 by omega]; exact k1
  · rw [if_neg hj, show off + j = off + j / 2 * 2 + 1 by omega]; exact k2
theorem LV.of_own {w : World} {B : Nat} {v : Value} {L : List (Int × Int)} (h : w.ownsRow B 65 2 v L.length (C2 L)) : LV w (fun b => B ≤ b) v L := by
  obtain ⟨A, c, hv⟩ := slice_form h
  subst hv
  refine ⟨A, c, rfl, fun hn => ?_⟩
  obtain ⟨g, cap, hv, hB, hlt⟩ := h.form hn
  have hA : A = some ⟨g, 0, none⟩ := by injection hv
  subst hA
  refine ⟨g, 0, rfl, hlt, hB, fun i d hd => ?_⟩
  obtain ⟨c1, c2⟩ := C2_at hd
  have e1 := h.cells (g := g) rfl _ _ c1
  have e2 := h.cells (g := g) rfl _ _ c2
  rw [Addr.add_lit] at e1 e2
  exact ⟨by simpa using e1, by rw [Nat.zero_add]; simpa using e2⟩
theorem own_below {w w' : World} {B : Nat} {e : TypeId} {k : Nat} {v : Value} {n : Nat} {xs : List Value} (h : w.ownsRow B e k v n xs) (hb : Below w.heap.size w w') : w'.ownsRow B e k v n xs := by
  obtain ⟨h1, h2⟩ := h
  refine ⟨h1, ?_⟩
  rcases h2 with h2 | ⟨g, cap, cur, hv, hB, hg, r⟩
  · exact .inl h2
  · exact .inr ⟨g, cap, cur, hv, hB, (hb.block g (Array.getElem?_eq_some_iff.1 hg).1).trans hg, r⟩
theorem own_lt {w : World} {B : Nat} {e : TypeId} {k : Nat} {v : Value} {n : Nat} {xs : List Value} (h : w.ownsRow B e k v n xs) {z : Nat} (hz : v.ownBlock = some z) : z < w.heap.size := by
  rcases h.2 with ⟨rfl, _⟩ | ⟨g, cap, cur, rfl, hB, hg, r⟩
  · cases hz
  · have h' : some g = some z := hz
    injection h' with h'
    subst h'
    exact (Array.getElem?_eq_some_iff.1 hg).1
theorem own_ge {w : World} {B : Nat} {e : TypeId} {k : Nat} {v : Value} {n : Nat} {xs : List Value} (h : w.ownsRow B e k v n xs) {z : Nat} (hz : v.ownBlock = some z) : B ≤ z := by
  rcases h.2 with ⟨rfl, _⟩ | ⟨g, cap, cur, rfl, hB, hg, r⟩
  · cases hz
  · have h' : some g = some z := hz
    injection h' with h'
    subst h'
    exact hB
theorem set_four {w : World} {g : Nat} {c0 c1 c2 c3 : Value} {t : TypeId} (h : w.heap[g]? = some (.cells #[c0, c1, c2, c3] t (0, 0))) (a b c d : Value) : ((((w.setCell ⟨g, 0, none⟩ a).setCell ⟨g, 1, none⟩ b).setCell ⟨g, 2, none⟩ c).setCell ⟨g, 3, none⟩ d).rangeAt g 0 [a, b, c, d] := by
  have h1 := set_at (set_at (set_at (set_at h 0 a) 1 b) 2 c) 3 d
  intro j v hv
  rw [Nat.zero_add, (row_cell h1 j).1]
  simpa using hv
theorem results_cell_two {P : Program} {fn : Func} {p q s : Tmp} {ty : TypeId} (h : fn.results = #[.cell p ty, .tmp q, .tmp s]) (tmps : Array Value) (w : World) (g : Nat) (cs : List Value) (d : TypeDesc)
    (hp : tmps.getD p undef = .pointer (some ⟨g, 0, none⟩)) (hc : w.rangeAt g 0 cs)
    (hu : P.underlying ty = some d) (hd : d.isRow = true) (hi : (P.info? ty).map (·.size) = some cs.length) :
    (results fn tmps).run P w = .ok (.tuple #[.agg cs.toArray, tmps.getD q undef, tmps.getD s undef]) w := by
  have hp' : tmps[p]?.getD undef = .pointer (some ⟨g, 0, none⟩) := by simpa using hp
  simp [results, h, hp', asAddr, run_loadVar_mid w g 0 ty cs d hc hu hd hi]
set_option maxRecDepth 100000 in
set_option maxHeartbeats 64000000 in
theorem rcharge_any (Z P F K U t N : Int) (lv : Value) (L : List (Int × Int)) (p : Nat → Prop) (w : World) (h : Sv.ok ⟨Z, P, F, K, U⟩) (hr : RelS ⟨Z, P, F, K, U⟩ L) (hl : LV w p lv L) (hn : L.length ≤ 60) : Calls Try.prog 16 #[.agg #[.int .i64 Z, .int .i64 P, .int .i64 F, lv], .int .i64 t, .int .i64 N] w fun e w' => ∃ lv2 L2, e = .returned (.tuple #[.agg #[.int .i64 Z, .int .i64 P, .int .i64 F, lv2], .int .i64 (chN ⟨Z, P, F, K, U⟩ t N), .bool (decide (chN ⟨Z, P, F, K, U⟩ t N < N))]) ∧ RelS (chS ⟨Z, P, F, K, U⟩ t N) L2 ∧ LV w' (fun b => p b ∨ w.heap.size ≤ b) lv2 L2 ∧ L2.length ≤ L.length + 1 ∧ Below w.heap.size w w' := by
  obtain ⟨A, c, rfl, _⟩ := hl.ex
  obtain ⟨X, hX⟩ : ∃ X, w.heap.size = X := ⟨_, rfl⟩
  obtain ⟨W0, hW0⟩ : ∃ W0, (w.alloc (.cells #[.int .i64 Z, .int .i64 P, .int .i64 F, .slice A L.length c] 29)).alloc (.cells #[.int .i64 0, .int .i64 0, .int .i64 0, .slice none 0 0] 29) = W0 := ⟨_, rfl⟩
  have B0 : Hid (Below X w W0) := by rw [← hW0, ← hX]; exact ((Below.refl _ _).alloc (Nat.le_refl _) _).alloc (by simp) _
  have HX0 : Hid (W0.heap[X]? = some (.cells #[.int .i64 Z, .int .i64 P, .int .i64 F, .slice A L.length c] 29 (0, 0))) := by
    unfold Hid; rw [← hW0, ← hX]; exact (((Below.refl _ _).alloc (by simp) _).block (B := (w.alloc (.cells #[.int .i64 Z, .int .i64 P, .int .i64 F, .slice A L.length c] 29)).heap.size) _ (by simp)).trans (heap_alloc_new _ _)
  have HY0 : Hid (W0.heap[X + 1]? = some (.cells #[.int .i64 0, .int .i64 0, .int .i64 0, .slice none 0 0] 29 (0, 0))) := by
    unfold Hid; rw [← hW0, ← hX]; have := heap_alloc_new (w.alloc (.cells #[.int .i64 Z, .int .i64 P, .int .i64 F, .slice A L.length c] 29)) (.cells #[.int .i64 0, .int .i64 0, .int .i64 0, .slice none 0 0] 29); simpa using this
  have S0 : Hid (W0.heap.size = X + 2) := by rw [← hW0, ← hX]; unfold Hid; simp
  have hl0 : LV W0 (fun b => p b ∧ b < X) (.slice A L.length c) L := by
    have h1 : LV w (fun b => p b ∧ b < X) (.slice A L.length c) L := hl.imp (fun b hb hp => ⟨hp, by omega⟩)
    exact h1.below (by rw [hX]; exact B0.out)
  obtain ⟨y, hy⟩ : ∃ y, max N 0 = y := ⟨_, rfl⟩
  obtain ⟨lf, hlf⟩ : ∃ x, leftV ⟨Z, P, F, K, U⟩ t = x := ⟨_, rfl⟩
  obtain ⟨ran, hran⟩ : ∃ x, chN ⟨Z, P, F, K, U⟩ t N = x := ⟨_, rfl⟩
  have HRN : Hid (ran = min y lf) := by unfold Hid; rw [← hran, ← hy, ← hlf]; rfl
  have CL := fun W (hb : Below W0.heap.size W0 W) => rleft_any Z P F K U t (.slice A L.length c) L _ W h hr (hl0.below hb) hn
  rw [hlf] at CL
  have HCL := Lib.hid CL
  have HLV := Lib.hid hl0
  have HN := Lib.hid hn
  have HR := Lib.hid hr
  have HOK := Lib.hid h
  have HRAN := Lib.hid hran
  have HY := Lib.hid hy
  rw [hran]
  have x0 : W0.cell? ⟨X, 0, none⟩ = some (.int .i64 Z) := by rw [(row_cell HX0.out 0).1]; rfl
  have x1 : W0.cell? ⟨X, 1, none⟩ = some (.int .i64 P) := by rw [(row_cell HX0.out 1).1]; rfl
  have x2 : W0.cell? ⟨X, 2, none⟩ = some (.int .i64 F) := by rw [(row_cell HX0.out 2).1]; rfl
  have x3 : W0.cell? ⟨X, 3, none⟩ = some (.slice A L.length c) := by rw [(row_cell HX0.out 3).1]; rfl
  simp only [hX]
  obtain ⟨c0, hc0⟩ : ∃ c, decide (N < 0) = c := ⟨_, rfl⟩
  have HC0 := Lib.hid hc0
  clear CL hl hl0 hn hr h hran hlf hy
  go_enter Try.func16, Try.ntmps16
  go_upto_if 12 with fail
  go_cut [9] (fun yv wx => yv = .int .i64 y ∧ wx = W0)
  case first =>
    clear hc0
    cases c0
    · have e0 : N = y := by have h1 := HY.out; have h2 := of_decide_eq_false HC0.out; omega
      go_wp2_with fail
      go_meet
      exact ⟨by rw [e0], rfl⟩
    · have e0 : y = 0 := by have h1 := HY.out; have h2 := of_decide_eq_true HC0.out; omega
      go_wp2_with fail
      go_meet
      exact ⟨by rw [e0], rfl⟩
  case rest =>
    obtain ⟨rfl, hwc⟩ := hcut
    rw [hwc]
    clear hwc
    obtain ⟨c1, hc1⟩ : ∃ c, decide (lf < y) = c := ⟨_, rfl⟩
    have HC1 := Lib.hid hc1
    go_wp2_with fail
    refine (HCL.out W0 (Below.refl _ _)).mono ?_
    rintro e w1 ⟨rfl, hb⟩
    have B1 := Lib.hid hb
    have y0 := cell_later hb x0
    have y1 := cell_later hb x1
    have y2 := cell_later hb x2
    have y3 := cell_later hb x3
    clear hb x0 x1 x2 x3
    go_upto_if 17 with fail
    go_cut [9] (fun rv wx => rv = .int .i64 ran ∧ Below W0.heap.size W0 wx)
    case first =>
      clear hc1
      cases c1
      · have e0 : y = ran := by have h1 := HRN.out; have h2 := of_decide_eq_false HC1.out; omega
        go_wp2_with fail
        go_meet
        exact ⟨by first | rfl | rw [e0], B1.out⟩
      · have e0 : lf = ran := by have h1 := HRN.out; have h2 := of_decide_eq_true HC1.out; omega
        go_wp2_with fail
        refine (HCL.out w1 B1.out).mono ?_
        rintro e w2 ⟨rfl, hb⟩
        have B2 : Hid (Below W0.heap.size W0 w2) := B1.out.trans (hb.mono B1.out.size)
        clear hb y0 y1 y2 y3
        go_wp2_with fail
        go_meet
        exact ⟨by first | rfl | rw [e0], B2.out⟩
    case rest =>
      obtain ⟨V, hV⟩ : ∃ w', w' = wc := ⟨_, rfl⟩
      subst hV
      obtain ⟨rfl, hbV⟩ := hcut
      have HXV : Hid (V.heap[X]? = some (.cells #[.int .i64 Z, .int .i64 P, .int .i64 F, .slice A L.length c] 29 (0, 0))) := (hbV.block X (by have := S0.out; omega)).trans HX0.out
      have HYV : Hid (V.heap[X + 1]? = some (.cells #[.int .i64 0, .int .i64 0, .int .i64 0, .slice none 0 0] 29 (0, 0))) := (hbV.block (X + 1) (by have := S0.out; omega)).trans HY0.out
      have BV : Hid (Below X w V) := B0.out.trans (hbV.mono (by have := S0.out; omega))
      have SV_ : Hid (X + 2 ≤ V.heap.size) := by have := hbV.size; have := S0.out; unfold Hid; omega
      have HLVV : Hid (LV V (fun b => p b ∧ b < X) (.slice A L.length c) L) := HLV.out.below hbV
      clear hbV y0 y1 y2 y3 B1 HX0 HY0 B0 S0 HLV HCL hc0 hc1
      obtain ⟨c2, hc2⟩ : ∃ c, decide (0 < ran) = c := ⟨_, rfl⟩
      have HC2 := Lib.hid hc2
      obtain ⟨ov, hov⟩ : ∃ c, decide (ran < N) = c := ⟨_, rfl⟩
      have HOV := Lib.hid hov
      cases c2
      · have x0 : V.cell? ⟨X, 0, none⟩ = some (.int .i64 Z) := by rw [(row_cell HXV.out 0).1]; rfl
        have x1 : V.cell? ⟨X, 1, none⟩ = some (.int .i64 P) := by rw [(row_cell HXV.out 1).1]; rfl
        have x2 : V.cell? ⟨X, 2, none⟩ = some (.int .i64 F) := by rw [(row_cell HXV.out 2).1]; rfl
        have x3 : V.cell? ⟨X, 3, none⟩ = some (.slice A L.length c) := by rw [(row_cell HXV.out 3).1]; rfl
        have y0 : V.cell? ⟨X + 1, 0, none⟩ = some (.int .i64 0) := by rw [(row_cell HYV.out 0).1]; rfl
        have yz0 : V.frozen? ⟨X + 1, 0, none⟩ = false := (row_cell HYV.out 0).2
        have y1 : V.cell? ⟨X + 1, 1, none⟩ = some (.int .i64 0) := by rw [(row_cell HYV.out 1).1]; rfl
        have yz1 : V.frozen? ⟨X + 1, 1, none⟩ = false := (row_cell HYV.out 1).2
        have y2 : V.cell? ⟨X + 1, 2, none⟩ = some (.int .i64 0) := by rw [(row_cell HYV.out 2).1]; rfl
        have yz2 : V.frozen? ⟨X + 1, 2, none⟩ = false := (row_cell HYV.out 2).2
        have y3 : V.cell? ⟨X + 1, 3, none⟩ = some (.slice none 0 0) := by rw [(row_cell HYV.out 3).1]; rfl
        have yz3 : V.frozen? ⟨X + 1, 3, none⟩ = false := (row_cell HYV.out 3).2
        have hrs : chS ⟨Z, P, F, K, U⟩ t N = ⟨Z, P, F, K, U⟩ := by unfold chS; rw [if_neg (by have := of_decide_eq_false HC2.out; rw [HRAN.out]; omega)]
        have HRS := Lib.hid hrs
        clear hrs
        go_wp2_with fail
        refine bodyPost_ret (results_cell_two rfl _ _ (X + 1) _ _ rfl (set_four HYV.out _ _ _ _) Try.underlying29 rfl (by kernel_rfl)) rfl ?_
        have hfo := (((((Fo.refl (fun b => b = X + 1) V).setCell (.inl rfl) 0 (.int .i64 Z)).setCell (.inl rfl) 1 (.int .i64 P)).setCell (.inl rfl) 2 (.int .i64 F)).setCell (.inl rfl) 3 (.slice A L.length c))
        refine ⟨.slice A L.length c, L, by rw [← HOV.out]; rfl, by rw [HRS.out]; exact HR.out, ((HLVV.out.fo hfo (fun b hb e => by have := hb.2; omega)).imp (fun b _ hb => .inl hb.1)), Nat.le_succ _, BV.out.trans (hfo.below (fun b hb => by omega) (by have := SV_.out; omega))⟩
      have hpos : 0 < ran := of_decide_eq_true HC2.out
      obtain ⟨hh, hk, hfit, hfit2⟩ := ch_fits HOK.out (t := t) (n := N) (by rw [HRAN.out]; exact hpos)
      rw [HRAN.out] at hfit
      obtain ⟨f1, f2, f3, f4, f5, f6⟩ := wh_facts HOK.out hh
      have f0 : 0 ≤ F := HOK.out.f0
      have hr1 := hh.1
      have hr2 := hh.2
      have p1 : P ≤ 1048576 := HOK.out.pm
      have p0 : 1 ≤ P := by have := HOK.out.s1; have := HOK.out.sp; simp only at *; omega
      have hch : chS ⟨Z, P, F, K, U⟩ t N = useS ⟨Z, P, F, K, U⟩ (whV ⟨Z, P, F, K, U⟩ t) ran := by unfold chS; rw [HRAN.out, if_pos hpos]
      obtain ⟨q, hq⟩ : ∃ q, whV ⟨Z, P, F, K, U⟩ t = q := ⟨_, rfl⟩
      rw [hq] at f1 f2 f3 f4 f5 hk hfit hch
      simp only at f1 f2 f3 f4 f5 hr1 hr2
      have hq1 : q ≤ 1099511627776 := by omega
      have HREL : Hid (RelS (chS ⟨Z, P, F, K, U⟩ t N) (L ++ [(q, ran)])) := by
        unfold Hid
        rw [hch]
        exact HR.out.more hk (by omega) (useS_ok HOK.out hk hq1 hpos hfit) HOK.out
      have u1 : IntKind.i64.wrap (t - F) = t - F := by rw [IntKind.wrap_i64]; omega
      have u2 : (t - F).tdiv P = q := f5
      have u3 : IntKind.i64.wrap q = q := by rw [IntKind.wrap_i64]; omega
      have hP0 : ¬ P = 0 := by omega
      obtain ⟨i0, hi, hz0, hz1, hz2⟩ : ∃ i, Try.prog.info? 65 = some i ∧ i.zero = some (.agg #[.int .i64 0, .int .i64 0]) ∧ i.size = 2 ∧ i.bytes = 16 := by
        have h : (Try.prog.info? 65).map (fun i => (i.zero, i.size, i.bytes)) = some (some (.agg #[.int .i64 0, .int .i64 0]), 2, 16) := by kernel_rfl
        cases hq : Try.prog.info? 65 with
        | none => rw [hq] at h; cases h
        | some i => rw [hq] at h; simp at h; exact ⟨i, rfl, h.1, h.2.1, h.2.2⟩
      obtain ⟨V0, hV0⟩ : ∃ W, V.drew = W := ⟨_, rfl⟩
      have g1 : Hid (V0.cell? ⟨X, 1, none⟩ = some (.int .i64 P)) := by unfold Hid; rw [← hV0]; exact (row_cell HXV.out 1).1.trans rfl
      have g2 : Hid (V0.cell? ⟨X, 2, none⟩ = some (.int .i64 F)) := by unfold Hid; rw [← hV0]; exact (row_cell HXV.out 2).1.trans rfl
      have g3 : Hid (V0.cell? ⟨X, 3, none⟩ = some (.slice A L.length c)) := by unfold Hid; rw [← hV0]; exact (row_cell HXV.out 3).1.trans rfl
      have HX_ : Hid (∀ W, Below V0.heap.size V0 W → W.heap[X]? = some (.cells #[.int .i64 Z, .int .i64 P, .int .i64 F, .slice A L.length c] 29 (0, 0))) := fun W hb => (hb.block X (by rw [← hV0]; exact (Array.getElem?_eq_some_iff.1 HXV.out).1)).trans (by rw [← hV0]; exact HXV.out)
      have HY_ : Hid (∀ W, Below V0.heap.size V0 W → W.heap[X + 1]? = some (.cells #[.int .i64 0, .int .i64 0, .int .i64 0, .slice none 0 0] 29 (0, 0))) := fun W hb => (hb.block (X + 1) (by rw [← hV0]; exact (Array.getElem?_eq_some_iff.1 HYV.out).1)).trans (by rw [← hV0]; exact HYV.out)
      have B_V0' : Hid (Below X w V0) := by rw [← hV0]; exact BV.out.drew
      have SZ0 : Hid (X ≤ V0.heap.size) := by rw [← hV0]; have := SV_.out; show X ≤ V.heap.size; omega
      have SZ1 : Hid (X + 2 ≤ V0.heap.size) := by rw [← hV0]; exact SV_.out
      have HLV : Hid (LV V0 (fun b => p b ∧ b < X) (.slice A L.length c) L) := by rw [← hV0]; exact HLVV.out.below (Below.refl _ _).drew
      clear hh hk hfit hfit2 f1 f2 f3 f4 f5 f6 f0 hr1 hr2 p1 p0 hch hq hq1 hpos HXV HYV BV SV_ HLVV
      go_upto_region 7 with fail
      try simp only [hV0]
      refine wp_region_held_drew (S := (fun w' => w'.cell? ⟨X, 1, none⟩ = some (.int .i64 P) ∧ w'.cell? ⟨X, 2, none⟩ = some (.int .i64 F))) (by kernel_rfl) ?_ (fun hHeld => ?_)
      · first | exact ⟨g1.out, g2.out⟩ | (rw [hV0]; exact ⟨g1.out, g2.out⟩)
      try simp only [hV0]
      clear hV0
      refine takeD (i := 1) (d := some 24) (v := ?_) _ rfl rfl (by kernel_rfl) (by kernel_rfl) (by kernel_rfl) (fun _ _ _ h => h) (by rfl) ?_ (⟨g1.out, g2.out⟩) ?_
      rotate_left
      · (intro w hSw; (try dsimp only at hSw); go_simp) <;> with_reducible rfl
      try simp only [Act.put, List.setIfInBounds_toArray, List.set_cons_zero, List.set_cons_succ]
      refine takeD (i := 4) (d := some 27) (v := ?_) _ rfl rfl (by kernel_rfl) (by kernel_rfl) (by kernel_rfl) (fun _ _ _ h => h) (by rfl) ?_ (⟨g1.out, g2.out⟩) ?_
      rotate_left
      · (intro w hSw; (try dsimp only at hSw); go_simp) <;> with_reducible rfl
      try simp only [Act.put, List.setIfInBounds_toArray, List.set_cons_zero, List.set_cons_succ]
      refine takeD (i := 5) (d := some 28) (v := ?_) _ rfl rfl (by kernel_rfl) (by kernel_rfl) (by kernel_rfl) (fun _ _ _ h => h) (by rfl) ?_ (⟨g1.out, g2.out⟩) ?_
      rotate_left
      · (intro w hSw; (try dsimp only at hSw); go_simp) <;> with_reducible rfl
      try simp only [Act.put, List.setIfInBounds_toArray, List.set_cons_zero, List.set_cons_succ]
      refine takeD (i := 6) (d := some 29) (v := ?_) _ rfl rfl (by kernel_rfl) (by kernel_rfl) (by kernel_rfl) (fun _ _ _ h => h) (by rfl) ?_ (⟨g1.out, g2.out⟩) ?_
      rotate_left
      · (intro w hSw; (try dsimp only at hSw); go_simp) <;> with_reducible rfl
      try simp only [Act.put, List.setIfInBounds_toArray, List.set_cons_zero, List.set_cons_succ]
      refine takeD (i := 7) (d := some 30) (v := ?_) _ rfl rfl (by kernel_rfl) (by kernel_rfl) (by kernel_rfl) (fun _ _ _ h => h) (by rfl) ?_ (⟨g1.out, g2.out⟩) ?_
      rotate_left
      · (intro w hSw; (try dsimp only at hSw); go_simp) <;> with_reducible rfl
      try simp only [Act.put, List.setIfInBounds_toArray, List.set_cons_zero, List.set_cons_succ]
      refine takeD (i := 8) (d := some 31) (v := ?_) _ rfl rfl (by kernel_rfl) (by kernel_rfl) (by kernel_rfl) (fun _ _ _ h => h) (by rfl) ?_ (⟨g1.out, g2.out⟩) ?_
      rotate_left
      · (intro w hSw; (try dsimp only at hSw); go_simp) <;> with_reducible rfl
      try simp only [Act.put, List.setIfInBounds_toArray, List.set_cons_zero, List.set_cons_succ]
      refine takeD (i := 9) (d := some 32) (v := ?_) _ rfl rfl (by kernel_rfl) (by kernel_rfl) (by kernel_rfl) (fun _ _ _ h => h) (by rfl) ?_ (⟨g1.out, g2.out⟩) ?_
      rotate_left
      · (intro w hSw; (try dsimp only at hSw); go_simp) <;> with_reducible rfl
      try simp only [Act.put, List.setIfInBounds_toArray, List.set_cons_zero, List.set_cons_succ]
      refine takeD (i := 10) (d := some 33) (v := ?_) _ rfl rfl (by kernel_rfl) (by kernel_rfl) (by kernel_rfl) (fun _ _ _ h => h) (by rfl) ?_ (⟨g1.out, g2.out⟩) ?_
      rotate_left
      · (intro w hSw; (try dsimp only at hSw); go_simp) <;> with_reducible rfl
      try simp only [Act.put, List.setIfInBounds_toArray, List.set_cons_zero, List.set_cons_succ]
      refine takeD (i := 11) (d := some 34) (v := ?_) _ rfl rfl (by kernel_rfl) (by kernel_rfl) (by kernel_rfl) (fun _ _ _ h => h) (by rfl) ?_ (⟨g1.out, g2.out⟩) ?_
      rotate_left
      · (intro w hSw; (try dsimp only at hSw); go_simp) <;> with_reducible rfl
      try simp only [Act.put, List.setIfInBounds_toArray, List.set_cons_zero, List.set_cons_succ]
      refine takeD (i := 12) (d := some 35) (v := ?_) _ rfl rfl (by kernel_rfl) (by kernel_rfl) (by kernel_rfl) (fun _ _ _ h => h) (by rfl) ?_ (⟨g1.out, g2.out⟩) ?_
      rotate_left
      · (intro w hSw; (try dsimp only at hSw); go_simp) <;> with_reducible rfl
      try simp only [Act.put, List.setIfInBounds_toArray, List.set_cons_zero, List.set_cons_succ]
      have B_V0 : Hid (Below V0.heap.size V0 V0) := Below.refl _ _
      refine wpAnyH_ready (rs := [0, 2, 13]) (by kernel_rfl) (by simp) ?_
      refine AllReadyH.cons rfl (fun K0 hK => ?_) (AllReadyH.cons rfl (fun K0 hK => ?_) (AllReadyH.cons rfl (fun K0 hK => ?_) AllReadyH.nil))
      · obtain ⟨V0a, h_V0a⟩ : ∃ W, V0.alloc (.cells #[] 65) = W := ⟨_, rfl⟩
        obtain ⟨bE, hbE⟩ : ∃ b, V0.heap.size = b := ⟨_, rfl⟩
        have bb : Below V0.heap.size V0 V0a := by rw [← h_V0a]; exact (Below.refl _ _).alloc (Nat.le_refl _) _
        have B_V0a : Hid (Below V0.heap.size V0 V0a) := B_V0.out.trans (bb.mono B_V0.out.size)
        have HE_V0a : Hid (V0a.heap[bE]? = some (.cells #[] 65 (0, 0)) ∧ V0.heap.size ≤ bE) := ⟨by rw [← h_V0a, ← hbE]; exact heap_alloc_new _ _, by rw [← hbE]; exact B_V0.out.size⟩
        try go_simp
        try rw [h_V0a]
        try rw [hbE]
        clear bb
        refine hK.out _ _ ⟨cell_later B_V0a.out g1.out, cell_later B_V0a.out g2.out⟩ (fun hHeld => ?_)
        clear hK K0 hHeld
        try simp only [Act.put, List.setIfInBounds_toArray, List.set_cons_zero, List.set_cons_succ]
        clear h_V0a hbE
        refine wpAnyH_ready (rs := [2, 13]) (by kernel_rfl) (by simp) ?_
        refine AllReadyH.cons rfl (fun K0 hK => ?_) (AllReadyH.cons rfl (fun K0 hK => ?_) AllReadyH.nil)
        · have x3 := cell_later B_V0a.out g3.out
          try go_simp
          refine hK.out _ _ ⟨cell_later B_V0a.out g1.out, cell_later B_V0a.out g2.out⟩ (fun hHeld => ?_)
          clear hK K0 hHeld
          try simp only [Act.put, List.setIfInBounds_toArray, List.set_cons_zero, List.set_cons_succ]
          clear x3
          refine wpAnyH_ready (rs := [3, 13]) (by kernel_rfl) (by simp) ?_
          refine AllReadyH.cons rfl (fun K0 hK => ?_) (AllReadyH.cons rfl (fun K0 hK => ?_) AllReadyH.nil)
          · have ho0 : V0a.ownsRow V0.heap.size 65 2 (.slice (some ⟨bE, 0, none⟩) 0 0) 0 [] := ⟨rfl, .inr ⟨bE, 0, #[], rfl, HE_V0a.out.2, HE_V0a.out.1, Nat.le_refl _, by unfold maxLen; omega, rfl, rfl⟩⟩
            have rd := (HLV.out.below (B_V0a.out)).reads
            refine wp_append_any V0a (.tmp 23) (.tmp 25) 27 rfl V0.heap.size 65 i0 (.agg #[.int .i64 0, .int .i64 0]) 2 16 Try.underlying27 hi hz0 hz1 hz2 rfl (by decide) (.slice (some ⟨bE, 0, none⟩) 0 0) 0 [] rfl ho0 V0a.heap.size A L.length c (C2 L) rfl rd (C2_one _) (by have := HN.out; unfold maxLen; omega) (by have := HN.out; omega) B_V0a.out.size ?_
            intro v26 V0ab ho hg hbk
            have hA : V0ab.ownsRow V0.heap.size 65 2 v26 L.length (C2 L) := by simpa using ho
            have hbw : Below V0.heap.size V0 V0ab := B_V0a.out.grown hg B_V0a.out.size (fun z hz => by have h' : some bE = some z := hz; injection h' with h'; have := HE_V0a.out.2; omega)
            have B_V0ab := Lib.hid hbw
            obtain ⟨ob, hob⟩ : ∃ o, v26.ownBlock = o := ⟨_, rfl⟩
            have HA_V0ab := Lib.hid hA
            have HOB := Lib.hid hob
            have HAB_V0ab : Hid (∀ z, ob = some z → z < V0ab.heap.size) := fun z hz => own_lt hA (hob.trans hz)
            clear ho0 ho hg hbk hA hbw rd hob
            refine hK.out _ _ ⟨cell_later B_V0ab.out g1.out, cell_later B_V0ab.out g2.out⟩ (fun hHeld => ?_)
            clear hK K0 hHeld
            try simp only [Act.put, List.setIfInBounds_toArray, List.set_cons_zero, List.set_cons_succ]
            refine wpAnyH_ready (rs := [13]) (by kernel_rfl) (by simp) ?_
            refine AllReadyH.cons rfl (fun K0 hK => ?_) AllReadyH.nil
            obtain ⟨V0abc, h_V0abc⟩ : ∃ W, V0ab.alloc (.cells #[.int .i64 q, .int .i64 ran] 65) = W := ⟨_, rfl⟩
            obtain ⟨bB, hbB⟩ : ∃ b, V0ab.heap.size = b := ⟨_, rfl⟩
            have bb : Below V0ab.heap.size V0ab V0abc := by rw [← h_V0abc]; exact (Below.refl _ _).alloc (Nat.le_refl _) _
            have B_V0abc : Hid (Below V0.heap.size V0 V0abc) := B_V0ab.out.trans (bb.mono B_V0ab.out.size)
            have HB_V0abc : Hid (V0abc.heap[bB]? = some (.cells #[.int .i64 q, .int .i64 ran] 65 (0, 0)) ∧ V0.heap.size ≤ bB) := ⟨by rw [← h_V0abc, ← hbB]; exact heap_alloc_new _ _, by rw [← hbB]; exact B_V0ab.out.size⟩
            have HA_V0abc := Lib.hid (own_below HA_V0ab.out bb)
            have HNA : Hid (ob ≠ some bB) := fun e => by have := HAB_V0ab.out bB e; omega
            try go_simp
            try rw [h_V0abc]
            try rw [hbB]
            clear bb
            refine hK.out _ _ ⟨cell_later B_V0abc.out g1.out, cell_later B_V0abc.out g2.out⟩ (fun hHeld => ?_)
            clear hK K0 hHeld
            try simp only [Act.put, List.setIfInBounds_toArray, List.set_cons_zero, List.set_cons_succ]
            clear h_V0abc hbB
            refine wpAnyH_ready (rs := [14]) (by kernel_rfl) (by simp) ?_
            refine AllReadyH.cons rfl (fun K0 hK => ?_) AllReadyH.nil
            have rdB : Reads V0abc V0abc.heap.size 2 (some ⟨bB, 0, none⟩) 1 [.int .i64 q, .int .i64 ran] := ⟨rfl, fun _ => ⟨_, rfl, (Array.getElem?_eq_some_iff.1 HB_V0abc.out.1).1, fun j u hu => by
              rw [Addr.add_lit, Nat.zero_add, (row_cell HB_V0abc.out.1 j).1]
              simpa using hu⟩⟩
            refine wp_append_any V0abc (.tmp 26) (.tmp 36) 27 rfl V0.heap.size 65 i0 (.agg #[.int .i64 0, .int .i64 0]) 2 16 Try.underlying27 hi hz0 hz1 hz2 rfl (by decide) v26 L.length (C2 L) rfl HA_V0abc.out V0abc.heap.size (some ⟨bB, 0, none⟩) 1 1 [.int .i64 q, .int .i64 ran] rfl rdB (by intro u hu; simp at hu; rcases hu with rfl | rfl <;> rfl) (by have := HN.out; unfold maxLen; omega) (by have := HN.out; omega) B_V0abc.out.size ?_
            intro v37 Vz ho hg hbk
            obtain ⟨A2, c2, hv37⟩ := slice_form ho
            subst hv37
            obtain ⟨ln, hln⟩ : ∃ x, L.length + 1 = x := ⟨_, rfl⟩
            have hA2 : Vz.ownsRow V0.heap.size 65 2 (.slice A2 (L.length + 1) c2) (L ++ [(q, ran)]).length (C2 (L ++ [(q, ran)])) := by rw [C2_app, List.length_append]; exact ho
            have hbw : Below V0.heap.size V0 Vz := B_V0abc.out.grown hg B_V0abc.out.size (fun z hz => own_ge HA_V0abc.out hz)
            have B_Vz := Lib.hid hbw
            have LV2 : Hid (LV Vz (fun b => V0.heap.size ≤ b) (.slice A2 ln c2) (L ++ [(q, ran)])) := by rw [← hln]; exact LV.of_own hA2
            try simp only [hln]
            clear ho hg hbk hA2 hbw rdB hln
            refine hK.out _ _ ⟨cell_later B_Vz.out g1.out, cell_later B_Vz.out g2.out⟩ (fun hHeld => ?_)
            clear hK K0 hHeld
            try simp only [Act.put, List.setIfInBounds_toArray, List.set_cons_zero, List.set_cons_succ]
            refine takeD (i := 15) (d := some 38) (v := ?_) _ rfl rfl (by kernel_rfl) (by kernel_rfl) (by kernel_rfl) (fun _ _ _ h => h) (by rfl) ?_ (⟨cell_later B_Vz.out g1.out, cell_later B_Vz.out g2.out⟩) ?_
            rotate_left
            · (intro w hSw; (try dsimp only at hSw); go_simp) <;> with_reducible rfl
            try simp only [Act.put, List.setIfInBounds_toArray, List.set_cons_zero, List.set_cons_succ]
            have x3 := cell_later B_Vz.out g3.out
            have xf3 : Vz.frozen? ⟨X, 3, none⟩ = false := (row_cell (HX_.out Vz B_Vz.out) 3).2
            refine wpAnyH_ready (rs := [16]) (by kernel_rfl) (by simp) ?_
            refine AllReadyH.cons rfl (fun K0 hK => ?_) AllReadyH.nil
            try go_simp
            obtain ⟨Vs, hVs⟩ : ∃ W, Vz.setCell ⟨X, 3, none⟩ (.slice A2 ln c2) = W := ⟨_, rfl⟩
            try rw [hVs]
            have fs : Fo (fun b => b = X) Vz Vs := by rw [← hVs]; exact (Fo.refl (fun b => b = X) Vz).setCell (.inl rfl) 3 _
            have HXs : Hid (Vs.heap[X]? = some (.cells #[.int .i64 Z, .int .i64 P, .int .i64 F, .slice A2 ln c2] 29 (0, 0))) := by unfold Hid; rw [← hVs]; exact set_at (HX_.out Vz B_Vz.out) 3 _
            have HYs : Hid (Vs.heap[X + 1]? = some (.cells #[.int .i64 0, .int .i64 0, .int .i64 0, .slice none 0 0] 29 (0, 0))) := (fs.block (X + 1) (Array.getElem?_eq_some_iff.1 (HY_.out Vz B_Vz.out)).1 (by omega)).trans (HY_.out Vz B_Vz.out)
            have Bs : Hid (Below X w Vs) := (B_V0'.out.trans (B_Vz.out.mono SZ0.out)).trans (fs.below (fun b hb => by omega) (by have := (Array.getElem?_eq_some_iff.1 (HX_.out Vz B_Vz.out)).1; omega))
            have LVs : Hid (LV Vs (fun b => X + 2 ≤ b) (.slice A2 ln c2) (L ++ [(q, ran)])) := (LV2.out.imp (fun b _ hb => Nat.le_trans SZ1.out hb)).fo fs (fun b hb e => by omega)
            refine hK.out _ _ (⟨(row_cell HXs.out 1).1.trans rfl, (row_cell HXs.out 2).1.trans rfl⟩) (fun hHeld => ?_)
            clear hK K0 hHeld hVs fs x3 xf3
            try simp only [Act.put, List.setIfInBounds_toArray, List.set_cons_zero, List.set_cons_succ]
            refine wpAnyH_done (by kernel_rfl) ?_ _
            have x0 : Vs.cell? ⟨X, 0, none⟩ = some (.int .i64 Z) := by rw [(row_cell HXs.out 0).1]; rfl
            have x1 : Vs.cell? ⟨X, 1, none⟩ = some (.int .i64 P) := by rw [(row_cell HXs.out 1).1]; rfl
            have x2 : Vs.cell? ⟨X, 2, none⟩ = some (.int .i64 F) := by rw [(row_cell HXs.out 2).1]; rfl
            have x3 : Vs.cell? ⟨X, 3, none⟩ = some (.slice A2 ln c2) := by rw [(row_cell HXs.out 3).1]; rfl
            have y0 : Vs.cell? ⟨X + 1, 0, none⟩ = some (.int .i64 0) := by rw [(row_cell HYs.out 0).1]; rfl
            have yz0 : Vs.frozen? ⟨X + 1, 0, none⟩ = false := (row_cell HYs.out 0).2
            have y1 : Vs.cell? ⟨X + 1, 1, none⟩ = some (.int .i64 0) := by rw [(row_cell HYs.out 1).1]; rfl
            have yz1 : Vs.frozen? ⟨X + 1, 1, none⟩ = false := (row_cell HYs.out 1).2
            have y2 : Vs.cell? ⟨X + 1, 2, none⟩ = some (.int .i64 0) := by rw [(row_cell HYs.out 2).1]; rfl
            have yz2 : Vs.frozen? ⟨X + 1, 2, none⟩ = false := (row_cell HYs.out 2).2
            have y3 : Vs.cell? ⟨X + 1, 3, none⟩ = some (.slice none 0 0) := by rw [(row_cell HYs.out 3).1]; rfl
            have yz3 : Vs.frozen? ⟨X + 1, 3, none⟩ = false := (row_cell HYs.out 3).2
            go_wp2_with fail
            refine bodyPost_ret (results_cell_two rfl _ _ (X + 1) _ _ rfl (set_four HYs.out _ _ _ _) Try.underlying29 rfl (by kernel_rfl)) rfl ?_
            have hfo := (((((Fo.refl (fun b => b = X + 1) Vs).setCell (.inl rfl) 0 (.int .i64 Z)).setCell (.inl rfl) 1 (.int .i64 P)).setCell (.inl rfl) 2 (.int .i64 F)).setCell (.inl rfl) 3 (.slice A2 ln c2))
            refine ⟨.slice A2 ln c2, L ++ [(q, ran)], by rw [← HOV.out]; rfl, HREL.out, ((LVs.out.fo hfo (fun b hb e => by omega)).imp (fun b _ hb => .inr (by omega))), by simp, Bs.out.trans (hfo.below (fun b hb => by omega) (by have := (Array.getElem?_eq_some_iff.1 HYs.out).1; omega))⟩
          · obtain ⟨V0ac, h_V0ac⟩ : ∃ W, V0a.alloc (.cells #[.int .i64 q, .int .i64 ran] 65) = W := ⟨_, rfl⟩
            obtain ⟨bB, hbB⟩ : ∃ b, V0a.heap.size = b := ⟨_, rfl⟩
            have bb : Below V0a.heap.size V0a V0ac := by rw [← h_V0ac]; exact (Below.refl _ _).alloc (Nat.le_refl _) _
            have B_V0ac : Hid (Below V0.heap.size V0 V0ac) := B_V0a.out.trans (bb.mono B_V0a.out.size)
            have HB_V0ac : Hid (V0ac.heap[bB]? = some (.cells #[.int .i64 q, .int .i64 ran] 65 (0, 0)) ∧ V0.heap.size ≤ bB) := ⟨by rw [← h_V0ac, ← hbB]; exact heap_alloc_new _ _, by rw [← hbB]; exact B_V0a.out.size⟩
            have HE_V0ac : Hid (V0ac.heap[bE]? = some (.cells #[] 65 (0, 0)) ∧ V0.heap.size ≤ bE) := ⟨(bb.block bE (Array.getElem?_eq_some_iff.1 HE_V0a.out.1).1).trans HE_V0a.out.1, HE_V0a.out.2⟩
            have HNE : Hid (bB ≠ bE) := by have := (Array.getElem?_eq_some_iff.1 HE_V0a.out.1).1; unfold Hid; omega
            try go_simp
            try rw [h_V0ac]
            try rw [hbB]
            clear bb
            refine hK.out _ _ ⟨cell_later B_V0ac.out g1.out, cell_later B_V0ac.out g2.out⟩ (fun hHeld => ?_)
            clear hK K0 hHeld
            try simp only [Act.put, List.setIfInBounds_toArray, List.set_cons_zero, List.set_cons_succ]
            clear h_V0ac hbB
            refine wpAnyH_ready (rs := [3]) (by kernel_rfl) (by simp) ?_
            refine AllReadyH.cons rfl (fun K0 hK => ?_) AllReadyH.nil
            have ho0 : V0ac.ownsRow V0.heap.size 65 2 (.slice (some ⟨bE, 0, none⟩) 0 0) 0 [] := ⟨rfl, .inr ⟨bE, 0, #[], rfl, HE_V0ac.out.2, HE_V0ac.out.1, Nat.le_refl _, by unfold maxLen; omega, rfl, rfl⟩⟩
            have rd := (HLV.out.below (B_V0ac.out)).reads
            refine wp_append_any V0ac (.tmp 23) (.tmp 25) 27 rfl V0.heap.size 65 i0 (.agg #[.int .i64 0, .int .i64 0]) 2 16 Try.underlying27 hi hz0 hz1 hz2 rfl (by decide) (.slice (some ⟨bE, 0, none⟩) 0 0) 0 [] rfl ho0 V0ac.heap.size A L.length c (C2 L) rfl rd (C2_one _) (by have := HN.out; unfold maxLen; omega) (by have := HN.out; omega) B_V0ac.out.size ?_
            intro v26 V0acb ho hg hbk
            have hA : V0acb.ownsRow V0.heap.size 65 2 v26 L.length (C2 L) := by simpa using ho
            have hbw : Below V0.heap.size V0 V0acb := B_V0ac.out.grown hg B_V0ac.out.size (fun z hz => by have h' : some bE = some z := hz; injection h' with h'; have := HE_V0ac.out.2; omega)
            have B_V0acb := Lib.hid hbw
            obtain ⟨ob, hob⟩ : ∃ o, v26.ownBlock = o := ⟨_, rfl⟩
            have HA_V0acb := Lib.hid hA
            have HOB := Lib.hid hob
            have HAB_V0acb : Hid (∀ z, ob = some z → z < V0acb.heap.size) := fun z hz => own_lt hA (hob.trans hz)
            have HB_V0acb : Hid (V0acb.heap[bB]? = some (.cells #[.int .i64 q, .int .i64 ran] 65 (0, 0)) ∧ V0.heap.size ≤ bB) := ⟨(hg.block bB (Array.getElem?_eq_some_iff.1 HB_V0ac.out.1).1 (fun e => HNE.out (by have h' : some bB = some bE := e; injection h' with h'))).trans HB_V0ac.out.1, HB_V0ac.out.2⟩
            have HNA : Hid (ob ≠ some bB) := fun e => by
              rcases hbk with h1 | h1
              · rw [hob, e] at h1
                have h' : some bB = some bE := h1
                injection h' with h'
                exact HNE.out h'
              · rw [hob, e] at h1
                injection h1 with h1
                have := (Array.getElem?_eq_some_iff.1 HB_V0ac.out.1).1
                omega
            clear ho0 ho hg hbk hA hbw rd hob
            refine hK.out _ _ ⟨cell_later B_V0acb.out g1.out, cell_later B_V0acb.out g2.out⟩ (fun hHeld => ?_)
            clear hK K0 hHeld
            try simp only [Act.put, List.setIfInBounds_toArray, List.set_cons_zero, List.set_cons_succ]
            refine wpAnyH_ready (rs := [14]) (by kernel_rfl) (by simp) ?_
            refine AllReadyH.cons rfl (fun K0 hK => ?_) AllReadyH.nil
            have rdB : Reads V0acb V0acb.heap.size 2 (some ⟨bB, 0, none⟩) 1 [.int .i64 q, .int .i64 ran] := ⟨rfl, fun _ => ⟨_, rfl, (Array.getElem?_eq_some_iff.1 HB_V0acb.out.1).1, fun j u hu => by
              rw [Addr.add_lit, Nat.zero_add, (row_cell HB_V0acb.out.1 j).1]
              simpa using hu⟩⟩
            refine wp_append_any V0acb (.tmp 26) (.tmp 36) 27 rfl V0.heap.size 65 i0 (.agg #[.int .i64 0, .int .i64 0]) 2 16 Try.underlying27 hi hz0 hz1 hz2 rfl (by decide) v26 L.length (C2 L) rfl HA_V0acb.out V0acb.heap.size (some ⟨bB, 0, none⟩) 1 1 [.int .i64 q, .int .i64 ran] rfl rdB (by intro u hu; simp at hu; rcases hu with rfl | rfl <;> rfl) (by have := HN.out; unfold maxLen; omega) (by have := HN.out; omega) B_V0acb.out.size ?_
            intro v37 Vz ho hg hbk
            obtain ⟨A2, c2, hv37⟩ := slice_form ho
            subst hv37
            obtain ⟨ln, hln⟩ : ∃ x, L.length + 1 = x := ⟨_, rfl⟩
            have hA2 : Vz.ownsRow V0.heap.size 65 2 (.slice A2 (L.length + 1) c2) (L ++ [(q, ran)]).length (C2 (L ++ [(q, ran)])) := by rw [C2_app, List.length_append]; exact ho
            have hbw : Below V0.heap.size V0 Vz := B_V0acb.out.grown hg B_V0acb.out.size (fun z hz => own_ge HA_V0acb.out hz)
            have B_Vz := Lib.hid hbw
            have LV2 : Hid (LV Vz (fun b => V0.heap.size ≤ b) (.slice A2 ln c2) (L ++ [(q, ran)])) := by rw [← hln]; exact LV.of_own hA2
            try simp only [hln]
            clear ho hg hbk hA2 hbw rdB hln
            refine hK.out _ _ ⟨cell_later B_Vz.out g1.out, cell_later B_Vz.out g2.out⟩ (fun hHeld => ?_)
            clear hK K0 hHeld
            try simp only [Act.put, List.setIfInBounds_toArray, List.set_cons_zero, List.set_cons_succ]
            refine takeD (i := 15) (d := some 38) (v := ?_) _ rfl rfl (by kernel_rfl) (by kernel_rfl) (by kernel_rfl) (fun _ _ _ h => h) (by rfl) ?_ (⟨cell_later B_Vz.out g1.out, cell_later B_Vz.out g2.out⟩) ?_
            rotate_left
            · (intro w hSw; (try dsimp only at hSw); go_simp) <;> with_reducible rfl
            try simp only [Act.put, List.setIfInBounds_toArray, List.set_cons_zero, List.set_cons_succ]
            have x3 := cell_later B_Vz.out g3.out
            have xf3 : Vz.frozen? ⟨X, 3, none⟩ = false := (row_cell (HX_.out Vz B_Vz.out) 3).2
            refine wpAnyH_ready (rs := [16]) (by kernel_rfl) (by simp) ?_
            refine AllReadyH.cons rfl (fun K0 hK => ?_) AllReadyH.nil
            try go_simp
            obtain ⟨Vs, hVs⟩ : ∃ W, Vz.setCell ⟨X, 3, none⟩ (.slice A2 ln c2) = W := ⟨_, rfl⟩
            try rw [hVs]
            have fs : Fo (fun b => b = X) Vz Vs := by rw [← hVs]; exact (Fo.refl (fun b => b = X) Vz).setCell (.inl rfl) 3 _
            have HXs : Hid (Vs.heap[X]? = some (.cells #[.int .i64 Z, .int .i64 P, .int .i64 F, .slice A2 ln c2] 29 (0, 0))) := by unfold Hid; rw [← hVs]; exact set_at (HX_.out Vz B_Vz.out) 3 _
            have HYs : Hid (Vs.heap[X + 1]? = some (.cells #[.int .i64 0, .int .i64 0, .int .i64 0, .slice none 0 0] 29 (0, 0))) := (fs.block (X + 1) (Array.getElem?_eq_some_iff.1 (HY_.out Vz B_Vz.out)).1 (by omega)).trans (HY_.out Vz B_Vz.out)
            have Bs : Hid (Below X w Vs) := (B_V0'.out.trans (B_Vz.out.mono SZ0.out)).trans (fs.below (fun b hb => by omega) (by have := (Array.getElem?_eq_some_iff.1 (HX_.out Vz B_Vz.out)).1; omega))
            have LVs : Hid (LV Vs (fun b => X + 2 ≤ b) (.slice A2 ln c2) (L ++ [(q, ran)])) := (LV2.out.imp (fun b _ hb => Nat.le_trans SZ1.out hb)).fo fs (fun b hb e => by omega)
            refine hK.out _ _ (⟨(row_cell HXs.out 1).1.trans rfl, (row_cell HXs.out 2).1.trans rfl⟩) (fun hHeld => ?_)
            clear hK K0 hHeld hVs fs x3 xf3
            try simp only [Act.put, List.setIfInBounds_toArray, List.set_cons_zero, List.set_cons_succ]
            refine wpAnyH_done (by kernel_rfl) ?_ _
            have x0 : Vs.cell? ⟨X, 0, none⟩ = some (.int .i64 Z) := by rw [(row_cell HXs.out 0).1]; rfl
            have x1 : Vs.cell? ⟨X, 1, none⟩ = some (.int .i64 P) := by rw [(row_cell HXs.out 1).1]; rfl
            have x2 : Vs.cell? ⟨X, 2, none⟩ = some (.int .i64 F) := by rw [(row_cell HXs.out 2).1]; rfl
            have x3 : Vs.cell? ⟨X, 3, none⟩ = some (.slice A2 ln c2) := by rw [(row_cell HXs.out 3).1]; rfl
            have y0 : Vs.cell? ⟨X + 1, 0, none⟩ = some (.int .i64 0) := by rw [(row_cell HYs.out 0).1]; rfl
            have yz0 : Vs.frozen? ⟨X + 1, 0, none⟩ = false := (row_cell HYs.out 0).2
            have y1 : Vs.cell? ⟨X + 1, 1, none⟩ = some (.int .i64 0) := by rw [(row_cell HYs.out 1).1]; rfl
            have yz1 : Vs.frozen? ⟨X + 1, 1, none⟩ = false := (row_cell HYs.out 1).2
            have y2 : Vs.cell? ⟨X + 1, 2, none⟩ = some (.int .i64 0) := by rw [(row_cell HYs.out 2).1]; rfl
            have yz2 : Vs.frozen? ⟨X + 1, 2, none⟩ = false := (row_cell HYs.out 2).2
            have y3 : Vs.cell? ⟨X + 1, 3, none⟩ = some (.slice none 0 0) := by rw [(row_cell HYs.out 3).1]; rfl
            have yz3 : Vs.frozen? ⟨X + 1, 3, none⟩ = false := (row_cell HYs.out 3).2
            go_wp2_with fail
            refine bodyPost_ret (results_cell_two rfl _ _ (X + 1) _ _ rfl (set_four HYs.out _ _ _ _) Try.underlying29 rfl (by kernel_rfl)) rfl ?_
            have hfo := (((((Fo.refl (fun b => b = X + 1) Vs).setCell (.inl rfl) 0 (.int .i64 Z)).setCell (.inl rfl) 1 (.int .i64 P)).setCell (.inl rfl) 2 (.int .i64 F)).setCell (.inl rfl) 3 (.slice A2 ln c2))
            refine ⟨.slice A2 ln c2, L ++ [(q, ran)], by rw [← HOV.out]; rfl, HREL.out, ((LVs.out.fo hfo (fun b hb e => by omega)).imp (fun b _ hb => .inr (by omega))), by simp, Bs.out.trans (hfo.below (fun b hb => by omega) (by have := (Array.getElem?_eq_some_iff.1 HYs.out).1; omega))⟩
        · obtain ⟨V0ac, h_V0ac⟩ : ∃ W, V0a.alloc (.cells #[.int .i64 q, .int .i64 ran] 65) = W := ⟨_, rfl⟩
          obtain ⟨bB, hbB⟩ : ∃ b, V0a.heap.size = b := ⟨_, rfl⟩
          have bb : Below V0a.heap.size V0a V0ac := by rw [← h_V0ac]; exact (Below.refl _ _).alloc (Nat.le_refl _) _
          have B_V0ac : Hid (Below V0.heap.size V0 V0ac) := B_V0a.out.trans (bb.mono B_V0a.out.size)
          have HB_V0ac : Hid (V0ac.heap[bB]? = some (.cells #[.int .i64 q, .int .i64 ran] 65 (0, 0)) ∧ V0.heap.size ≤ bB) := ⟨by rw [← h_V0ac, ← hbB]; exact heap_alloc_new _ _, by rw [← hbB]; exact B_V0a.out.size⟩
          have HE_V0ac : Hid (V0ac.heap[bE]? = some (.cells #[] 65 (0, 0)) ∧ V0.heap.size ≤ bE) := ⟨(bb.block bE (Array.getElem?_eq_some_iff.1 HE_V0a.out.1).1).trans HE_V0a.out.1, HE_V0a.out.2⟩
          have HNE : Hid (bB ≠ bE) := by have := (Array.getElem?_eq_some_iff.1 HE_V0a.out.1).1; unfold Hid; omega
          try go_simp
          try rw [h_V0ac]
          try rw [hbB]
          clear bb
          refine hK.out _ _ ⟨cell_later B_V0ac.out g1.out, cell_later B_V0ac.out g2.out⟩ (fun hHeld => ?_)
          clear hK K0 hHeld
          try simp only [Act.put, List.setIfInBounds_toArray, List.set_cons_zero, List.set_cons_succ]
          clear h_V0ac hbB
          refine wpAnyH_ready (rs := [2]) (by kernel_rfl) (by simp) ?_
          refine AllReadyH.cons rfl (fun K0 hK => ?_) AllReadyH.nil
          have x3 := cell_later B_V0ac.out g3.out
          try go_simp
          refine hK.out _ _ ⟨cell_later B_V0ac.out g1.out, cell_later B_V0ac.out g2.out⟩ (fun hHeld => ?_)
          clear hK K0 hHeld
          try simp only [Act.put, List.setIfInBounds_toArray, List.set_cons_zero, List.set_cons_succ]
          clear x3
          refine wpAnyH_ready (rs := [3]) (by kernel_rfl) (by simp) ?_
          refine AllReadyH.cons rfl (fun K0 hK => ?_) AllReadyH.nil
          have ho0 : V0ac.ownsRow V0.heap.size 65 2 (.slice (some ⟨bE, 0, none⟩) 0 0) 0 [] := ⟨rfl, .inr ⟨bE, 0, #[], rfl, HE_V0ac.out.2, HE_V0ac.out.1, Nat.le_refl _, by unfold maxLen; omega, rfl, rfl⟩⟩
          have rd := (HLV.out.below (B_V0ac.out)).reads
          refine wp_append_any V0ac (.tmp 23) (.tmp 25) 27 rfl V0.heap.size 65 i0 (.agg #[.int .i64 0, .int .i64 0]) 2 16 Try.underlying27 hi hz0 hz1 hz2 rfl (by decide) (.slice (some ⟨bE, 0, none⟩) 0 0) 0 [] rfl ho0 V0ac.heap.size A L.length c (C2 L) rfl rd (C2_one _) (by have := HN.out; unfold maxLen; omega) (by have := HN.out; omega) B_V0ac.out.size ?_
          intro v26 V0acb ho hg hbk
          have hA : V0acb.ownsRow V0.heap.size 65 2 v26 L.length (C2 L) := by simpa using ho
          have hbw : Below V0.heap.size V0 V0acb := B_V0ac.out.grown hg B_V0ac.out.size (fun z hz => by have h' : some bE = some z := hz; injection h' with h'; have := HE_V0ac.out.2; omega)
          have B_V0acb := Lib.hid hbw
          obtain ⟨ob, hob⟩ : ∃ o, v26.ownBlock = o := ⟨_, rfl⟩
          have HA_V0acb := Lib.hid hA
          have HOB := Lib.hid hob
          have HAB_V0acb : Hid (∀ z, ob = some z → z < V0acb.heap.size) := fun z hz => own_lt hA (hob.trans hz)
          have HB_V0acb : Hid (V0acb.heap[bB]? = some (.cells #[.int .i64 q, .int .i64 ran] 65 (0, 0)) ∧ V0.heap.size ≤ bB) := ⟨(hg.block bB (Array.getElem?_eq_some_iff.1 HB_V0ac.out.1).1 (fun e => HNE.out (by have h' : some bB = some bE := e; injection h' with h'))).trans HB_V0ac.out.1, HB_V0ac.out.2⟩
          have HNA : Hid (ob ≠ some bB) := fun e => by
            rcases hbk with h1 | h1
            · rw [hob, e] at h1
              have h' : some bB = some bE := h1
              injection h' with h'
              exact HNE.out h'
            · rw [hob, e] at h1
              injection h1 with h1
              have := (Array.getElem?_eq_some_iff.1 HB_V0ac.out.1).1
              omega
          clear ho0 ho hg hbk hA hbw rd hob
          refine hK.out _ _ ⟨cell_later B_V0acb.out g1.out, cell_later B_V0acb.out g2.out⟩ (fun hHeld => ?_)
          clear hK K0 hHeld
          try simp only [Act.put, List.setIfInBounds_toArray, List.set_cons_zero, List.set_cons_succ]
          refine wpAnyH_ready (rs := [14]) (by kernel_rfl) (by simp) ?_
          refine AllReadyH.cons rfl (fun K0 hK => ?_) AllReadyH.nil
          have rdB : Reads V0acb V0acb.heap.size 2 (some ⟨bB, 0, none⟩) 1 [.int .i64 q, .int .i64 ran] := ⟨rfl, fun _ => ⟨_, rfl, (Array.getElem?_eq_some_iff.1 HB_V0acb.out.1).1, fun j u hu => by
            rw [Addr.add_lit, Nat.zero_add, (row_cell HB_V0acb.out.1 j).1]
            simpa using hu⟩⟩
          refine wp_append_any V0acb (.tmp 26) (.tmp 36) 27 rfl V0.heap.size 65 i0 (.agg #[.int .i64 0, .int .i64 0]) 2 16 Try.underlying27 hi hz0 hz1 hz2 rfl (by decide) v26 L.length (C2 L) rfl HA_V0acb.out V0acb.heap.size (some ⟨bB, 0, none⟩) 1 1 [.int .i64 q, .int .i64 ran] rfl rdB (by intro u hu; simp at hu; rcases hu with rfl | rfl <;> rfl) (by have := HN.out; unfold maxLen; omega) (by have := HN.out; omega) B_V0acb.out.size ?_
          intro v37 Vz ho hg hbk
          obtain ⟨A2, c2, hv37⟩ := slice_form ho
          subst hv37
          obtain ⟨ln, hln⟩ : ∃ x, L.length + 1 = x := ⟨_, rfl⟩
          have hA2 : Vz.ownsRow V0.heap.size 65 2 (.slice A2 (L.length + 1) c2) (L ++ [(q, ran)]).length (C2 (L ++ [(q, ran)])) := by rw [C2_app, List.length_append]; exact ho
          have hbw : Below V0.heap.size V0 Vz := B_V0acb.out.grown hg B_V0acb.out.size (fun z hz => own_ge HA_V0acb.out hz)
          have B_Vz := Lib.hid hbw
          have LV2 : Hid (LV Vz (fun b => V0.heap.size ≤ b) (.slice A2 ln c2) (L ++ [(q, ran)])) := by rw [← hln]; exact LV.of_own hA2
          try simp only [hln]
          clear ho hg hbk hA2 hbw rdB hln
          refine hK.out _ _ ⟨cell_later B_Vz.out g1.out, cell_later B_Vz.out g2.out⟩ (fun hHeld => ?_)
          clear hK K0 hHeld
          try simp only [Act.put, List.setIfInBounds_toArray, List.set_cons_zero, List.set_cons_succ]
          refine takeD (i := 15) (d := some 38) (v := ?_) _ rfl rfl (by kernel_rfl) (by kernel_rfl) (by kernel_rfl) (fun _ _ _ h => h) (by rfl) ?_ (⟨cell_later B_Vz.out g1.out, cell_later B_Vz.out g2.out⟩) ?_
          rotate_left
          · (intro w hSw; (try dsimp only at hSw); go_simp) <;> with_reducible rfl
          try simp only [Act.put, List.setIfInBounds_toArray, List.set_cons_zero, List.set_cons_succ]
          have x3 := cell_later B_Vz.out g3.out
          have xf3 : Vz.frozen? ⟨X, 3, none⟩ = false := (row_cell (HX_.out Vz B_Vz.out) 3).2
          refine wpAnyH_ready (rs := [16]) (by kernel_rfl) (by simp) ?_
          refine AllReadyH.cons rfl (fun K0 hK => ?_) AllReadyH.nil
          try go_simp
          obtain ⟨Vs, hVs⟩ : ∃ W, Vz.setCell ⟨X, 3, none⟩ (.slice A2 ln c2) = W := ⟨_, rfl⟩
          try rw [hVs]
          have fs : Fo (fun b => b = X) Vz Vs := by rw [← hVs]; exact (Fo.refl (fun b => b = X) Vz).setCell (.inl rfl) 3 _
          have HXs : Hid (Vs.heap[X]? = some (.cells #[.int .i64 Z, .int .i64 P, .int .i64 F, .slice A2 ln c2] 29 (0, 0))) := by unfold Hid; rw [← hVs]; exact set_at (HX_.out Vz B_Vz.out) 3 _
          have HYs : Hid (Vs.heap[X + 1]? = some (.cells #[.int .i64 0, .int .i64 0, .int .i64 0, .slice none 0 0] 29 (0, 0))) := (fs.block (X + 1) (Array.getElem?_eq_some_iff.1 (HY_.out Vz B_Vz.out)).1 (by omega)).trans (HY_.out Vz B_Vz.out)
          have Bs : Hid (Below X w Vs) := (B_V0'.out.trans (B_Vz.out.mono SZ0.out)).trans (fs.below (fun b hb => by omega) (by have := (Array.getElem?_eq_some_iff.1 (HX_.out Vz B_Vz.out)).1; omega))
          have LVs : Hid (LV Vs (fun b => X + 2 ≤ b) (.slice A2 ln c2) (L ++ [(q, ran)])) := (LV2.out.imp (fun b _ hb => Nat.le_trans SZ1.out hb)).fo fs (fun b hb e => by omega)
          refine hK.out _ _ (⟨(row_cell HXs.out 1).1.trans rfl, (row_cell HXs.out 2).1.trans rfl⟩) (fun hHeld => ?_)
          clear hK K0 hHeld hVs fs x3 xf3
          try simp only [Act.put, List.setIfInBounds_toArray, List.set_cons_zero, List.set_cons_succ]
          refine wpAnyH_done (by kernel_rfl) ?_ _
          have x0 : Vs.cell? ⟨X, 0, none⟩ = some (.int .i64 Z) := by rw [(row_cell HXs.out 0).1]; rfl
          have x1 : Vs.cell? ⟨X, 1, none⟩ = some (.int .i64 P) := by rw [(row_cell HXs.out 1).1]; rfl
          have x2 : Vs.cell? ⟨X, 2, none⟩ = some (.int .i64 F) := by rw [(row_cell HXs.out 2).1]; rfl
          have x3 : Vs.cell? ⟨X, 3, none⟩ = some (.slice A2 ln c2) := by rw [(row_cell HXs.out 3).1]; rfl
          have y0 : Vs.cell? ⟨X + 1, 0, none⟩ = some (.int .i64 0) := by rw [(row_cell HYs.out 0).1]; rfl
          have yz0 : Vs.frozen? ⟨X + 1, 0, none⟩ = false := (row_cell HYs.out 0).2
          have y1 : Vs.cell? ⟨X + 1, 1, none⟩ = some (.int .i64 0) := by rw [(row_cell HYs.out 1).1]; rfl
          have yz1 : Vs.frozen? ⟨X + 1, 1, none⟩ = false := (row_cell HYs.out 1).2
          have y2 : Vs.cell? ⟨X + 1, 2, none⟩ = some (.int .i64 0) := by rw [(row_cell HYs.out 2).1]; rfl
          have yz2 : Vs.frozen? ⟨X + 1, 2, none⟩ = false := (row_cell HYs.out 2).2
          have y3 : Vs.cell? ⟨X + 1, 3, none⟩ = some (.slice none 0 0) := by rw [(row_cell HYs.out 3).1]; rfl
          have yz3 : Vs.frozen? ⟨X + 1, 3, none⟩ = false := (row_cell HYs.out 3).2
          go_wp2_with fail
          refine bodyPost_ret (results_cell_two rfl _ _ (X + 1) _ _ rfl (set_four HYs.out _ _ _ _) Try.underlying29 rfl (by kernel_rfl)) rfl ?_
          have hfo := (((((Fo.refl (fun b => b = X + 1) Vs).setCell (.inl rfl) 0 (.int .i64 Z)).setCell (.inl rfl) 1 (.int .i64 P)).setCell (.inl rfl) 2 (.int .i64 F)).setCell (.inl rfl) 3 (.slice A2 ln c2))
          refine ⟨.slice A2 ln c2, L ++ [(q, ran)], by rw [← HOV.out]; rfl, HREL.out, ((LVs.out.fo hfo (fun b hb e => by omega)).imp (fun b _ hb => .inr (by omega))), by simp, Bs.out.trans (hfo.below (fun b hb => by omega) (by have := (Array.getElem?_eq_some_iff.1 HYs.out).1; omega))⟩
      · have x3 := cell_later B_V0.out g3.out
        try go_simp
        refine hK.out _ _ ⟨cell_later B_V0.out g1.out, cell_later B_V0.out g2.out⟩ (fun hHeld => ?_)
        clear hK K0 hHeld
        try simp only [Act.put, List.setIfInBounds_toArray, List.set_cons_zero, List.set_cons_succ]
        clear x3
        refine wpAnyH_ready (rs := [0, 13]) (by kernel_rfl) (by simp) ?_
        refine AllReadyH.cons rfl (fun K0 hK => ?_) (AllReadyH.cons rfl (fun K0 hK => ?_) AllReadyH.nil)
        · obtain ⟨V0a, h_V0a⟩ : ∃ W, V0.alloc (.cells #[] 65) = W := ⟨_, rfl⟩
          obtain ⟨bE, hbE⟩ : ∃ b, V0.heap.size = b := ⟨_, rfl⟩
          have bb : Below V0.heap.size V0 V0a := by rw [← h_V0a]; exact (Below.refl _ _).alloc (Nat.le_refl _) _
          have B_V0a : Hid (Below V0.heap.size V0 V0a) := B_V0.out.trans (bb.mono B_V0.out.size)
          have HE_V0a : Hid (V0a.heap[bE]? = some (.cells #[] 65 (0, 0)) ∧ V0.heap.size ≤ bE) := ⟨by rw [← h_V0a, ← hbE]; exact heap_alloc_new _ _, by rw [← hbE]; exact B_V0.out.size⟩
          try go_simp
          try rw [h_V0a]
          try rw [hbE]
          clear bb
          refine hK.out _ _ ⟨cell_later B_V0a.out g1.out, cell_later B_V0a.out g2.out⟩ (fun hHeld => ?_)
          clear hK K0 hHeld
          try simp only [Act.put, List.setIfInBounds_toArray, List.set_cons_zero, List.set_cons_succ]
          clear h_V0a hbE
          refine wpAnyH_ready (rs := [3, 13]) (by kernel_rfl) (by simp) ?_
          refine AllReadyH.cons rfl (fun K0 hK => ?_) (AllReadyH.cons rfl (fun K0 hK => ?_) AllReadyH.nil)
          · have ho0 : V0a.ownsRow V0.heap.size 65 2 (.slice (some ⟨bE, 0, none⟩) 0 0) 0 [] := ⟨rfl, .inr ⟨bE, 0, #[], rfl, HE_V0a.out.2, HE_V0a.out.1, Nat.le_refl _, by unfold maxLen; omega, rfl, rfl⟩⟩
            have rd := (HLV.out.below (B_V0a.out)).reads
            refine wp_append_any V0a (.tmp 23) (.tmp 25) 27 rfl V0.heap.size 65 i0 (.agg #[.int .i64 0, .int .i64 0]) 2 16 Try.underlying27 hi hz0 hz1 hz2 rfl (by decide) (.slice (some ⟨bE, 0, none⟩) 0 0) 0 [] rfl ho0 V0a.heap.size A L.length c (C2 L) rfl rd (C2_one _) (by have := HN.out; unfold maxLen; omega) (by have := HN.out; omega) B_V0a.out.size ?_
            intro v26 V0ab ho hg hbk
            have hA : V0ab.ownsRow V0.heap.size 65 2 v26 L.length (C2 L) := by simpa using ho
            have hbw : Below V0.heap.size V0 V0ab := B_V0a.out.grown hg B_V0a.out.size (fun z hz => by have h' : some bE = some z := hz; injection h' with h'; have := HE_V0a.out.2; omega)
            have B_V0ab := Lib.hid hbw
            obtain ⟨ob, hob⟩ : ∃ o, v26.ownBlock = o := ⟨_, rfl⟩
            have HA_V0ab := Lib.hid hA
            have HOB := Lib.hid hob
            have HAB_V0ab : Hid (∀ z, ob = some z → z < V0ab.heap.size) := fun z hz => own_lt hA (hob.trans hz)
            clear ho0 ho hg hbk hA hbw rd hob
            refine hK.out _ _ ⟨cell_later B_V0ab.out g1.out, cell_later B_V0ab.out g2.out⟩ (fun hHeld => ?_)
            clear hK K0 hHeld
            try simp only [Act.put, List.setIfInBounds_toArray, List.set_cons_zero, List.set_cons_succ]
            refine wpAnyH_ready (rs := [13]) (by kernel_rfl) (by simp) ?_
            refine AllReadyH.cons rfl (fun K0 hK => ?_) AllReadyH.nil
            obtain ⟨V0abc, h_V0abc⟩ : ∃ W, V0ab.alloc (.cells #[.int .i64 q, .int .i64 ran] 65) = W := ⟨_, rfl⟩
            obtain ⟨bB, hbB⟩ : ∃ b, V0ab.heap.size = b := ⟨_, rfl⟩
            have bb : Below V0ab.heap.size V0ab V0abc := by rw [← h_V0abc]; exact (Below.refl _ _).alloc (Nat.le_refl _) _
            have B_V0abc : Hid (Below V0.heap.size V0 V0abc) := B_V0ab.out.trans (bb.mono B_V0ab.out.size)
            have HB_V0abc : Hid (V0abc.heap[bB]? = some (.cells #[.int .i64 q, .int .i64 ran] 65 (0, 0)) ∧ V0.heap.size ≤ bB) := ⟨by rw [← h_V0abc, ← hbB]; exact heap_alloc_new _ _, by rw [← hbB]; exact B_V0ab.out.size⟩
            have HA_V0abc := Lib.hid (own_below HA_V0ab.out bb)
            have HNA : Hid (ob ≠ some bB) := fun e => by have := HAB_V0ab.out bB e; omega
            try go_simp
            try rw [h_V0abc]
            try rw [hbB]
            clear bb
            refine hK.out _ _ ⟨cell_later B_V0abc.out g1.out, cell_later B_V0abc.out g2.out⟩ (fun hHeld => ?_)
            clear hK K0 hHeld
            try simp only [Act.put, List.setIfInBounds_toArray, List.set_cons_zero, List.set_cons_succ]
            clear h_V0abc hbB
            refine wpAnyH_ready (rs := [14]) (by kernel_rfl) (by simp) ?_
            refine AllReadyH.cons rfl (fun K0 hK => ?_) AllReadyH.nil
            have rdB : Reads V0abc V0abc.heap.size 2 (some ⟨bB, 0, none⟩) 1 [.int .i64 q, .int .i64 ran] := ⟨rfl, fun _ => ⟨_, rfl, (Array.getElem?_eq_some_iff.1 HB_V0abc.out.1).1, fun j u hu => by
              rw [Addr.add_lit, Nat.zero_add, (row_cell HB_V0abc.out.1 j).1]
              simpa using hu⟩⟩
            refine wp_append_any V0abc (.tmp 26) (.tmp 36) 27 rfl V0.heap.size 65 i0 (.agg #[.int .i64 0, .int .i64 0]) 2 16 Try.underlying27 hi hz0 hz1 hz2 rfl (by decide) v26 L.length (C2 L) rfl HA_V0abc.out V0abc.heap.size (some ⟨bB, 0, none⟩) 1 1 [.int .i64 q, .int .i64 ran] rfl rdB (by intro u hu; simp at hu; rcases hu with rfl | rfl <;> rfl) (by have := HN.out; unfold maxLen; omega) (by have := HN.out; omega) B_V0abc.out.size ?_
            intro v37 Vz ho hg hbk
            obtain ⟨A2, c2, hv37⟩ := slice_form ho
            subst hv37
            obtain ⟨ln, hln⟩ : ∃ x, L.length + 1 = x := ⟨_, rfl⟩
            have hA2 : Vz.ownsRow V0.heap.size 65 2 (.slice A2 (L.length + 1) c2) (L ++ [(q, ran)]).length (C2 (L ++ [(q, ran)])) := by rw [C2_app, List.length_append]; exact ho
            have hbw : Below V0.heap.size V0 Vz := B_V0abc.out.grown hg B_V0abc.out.size (fun z hz => own_ge HA_V0abc.out hz)
            have B_Vz := Lib.hid hbw
            have LV2 : Hid (LV Vz (fun b => V0.heap.size ≤ b) (.slice A2 ln c2) (L ++ [(q, ran)])) := by rw [← hln]; exact LV.of_own hA2
            try simp only [hln]
            clear ho hg hbk hA2 hbw rdB hln
            refine hK.out _ _ ⟨cell_later B_Vz.out g1.out, cell_later B_Vz.out g2.out⟩ (fun hHeld => ?_)
            clear hK K0 hHeld
            try simp only [Act.put, List.setIfInBounds_toArray, List.set_cons_zero, List.set_cons_succ]
            refine takeD (i := 15) (d := some 38) (v := ?_) _ rfl rfl (by kernel_rfl) (by kernel_rfl) (by kernel_rfl) (fun _ _ _ h => h) (by rfl) ?_ (⟨cell_later B_Vz.out g1.out, cell_later B_Vz.out g2.out⟩) ?_
            rotate_left
            · (intro w hSw; (try dsimp only at hSw); go_simp) <;> with_reducible rfl
            try simp only [Act.put, List.setIfInBounds_toArray, List.set_cons_zero, List.set_cons_succ]
            have x3 := cell_later B_Vz.out g3.out
            have xf3 : Vz.frozen? ⟨X, 3, none⟩ = false := (row_cell (HX_.out Vz B_Vz.out) 3).2
            refine wpAnyH_ready (rs := [16]) (by kernel_rfl) (by simp) ?_
            refine AllReadyH.cons rfl (fun K0 hK => ?_) AllReadyH.nil
            try go_simp
            obtain ⟨Vs, hVs⟩ : ∃ W, Vz.setCell ⟨X, 3, none⟩ (.slice A2 ln c2) = W := ⟨_, rfl⟩
            try rw [hVs]
            have fs : Fo (fun b => b = X) Vz Vs := by rw [← hVs]; exact (Fo.refl (fun b => b = X) Vz).setCell (.inl rfl) 3 _
            have HXs : Hid (Vs.heap[X]? = some (.cells #[.int .i64 Z, .int .i64 P, .int .i64 F, .slice A2 ln c2] 29 (0, 0))) := by unfold Hid; rw [← hVs]; exact set_at (HX_.out Vz B_Vz.out) 3 _
            have HYs : Hid (Vs.heap[X + 1]? = some (.cells #[.int .i64 0, .int .i64 0, .int .i64 0, .slice none 0 0] 29 (0, 0))) := (fs.block (X + 1) (Array.getElem?_eq_some_iff.1 (HY_.out Vz B_Vz.out)).1 (by omega)).trans (HY_.out Vz B_Vz.out)
            have Bs : Hid (Below X w Vs) := (B_V0'.out.trans (B_Vz.out.mono SZ0.out)).trans (fs.below (fun b hb => by omega) (by have := (Array.getElem?_eq_some_iff.1 (HX_.out Vz B_Vz.out)).1; omega))
            have LVs : Hid (LV Vs (fun b => X + 2 ≤ b) (.slice A2 ln c2) (L ++ [(q, ran)])) := (LV2.out.imp (fun b _ hb => Nat.le_trans SZ1.out hb)).fo fs (fun b hb e => by omega)
            refine hK.out _ _ (⟨(row_cell HXs.out 1).1.trans rfl, (row_cell HXs.out 2).1.trans rfl⟩) (fun hHeld => ?_)
            clear hK K0 hHeld hVs fs x3 xf3
            try simp only [Act.put, List.setIfInBounds_toArray, List.set_cons_zero, List.set_cons_succ]
            refine wpAnyH_done (by kernel_rfl) ?_ _
            have x0 : Vs.cell? ⟨X, 0, none⟩ = some (.int .i64 Z) := by rw [(row_cell HXs.out 0).1]; rfl
            have x1 : Vs.cell? ⟨X, 1, none⟩ = some (.int .i64 P) := by rw [(row_cell HXs.out 1).1]; rfl
            have x2 : Vs.cell? ⟨X, 2, none⟩ = some (.int .i64 F) := by rw [(row_cell HXs.out 2).1]; rfl
            have x3 : Vs.cell? ⟨X, 3, none⟩ = some (.slice A2 ln c2) := by rw [(row_cell HXs.out 3).1]; rfl
            have y0 : Vs.cell? ⟨X + 1, 0, none⟩ = some (.int .i64 0) := by rw [(row_cell HYs.out 0).1]; rfl
            have yz0 : Vs.frozen? ⟨X + 1, 0, none⟩ = false := (row_cell HYs.out 0).2
            have y1 : Vs.cell? ⟨X + 1, 1, none⟩ = some (.int .i64 0) := by rw [(row_cell HYs.out 1).1]; rfl
            have yz1 : Vs.frozen? ⟨X + 1, 1, none⟩ = false := (row_cell HYs.out 1).2
            have y2 : Vs.cell? ⟨X + 1, 2, none⟩ = some (.int .i64 0) := by rw [(row_cell HYs.out 2).1]; rfl
            have yz2 : Vs.frozen? ⟨X + 1, 2, none⟩ = false := (row_cell HYs.out 2).2
            have y3 : Vs.cell? ⟨X + 1, 3, none⟩ = some (.slice none 0 0) := by rw [(row_cell HYs.out 3).1]; rfl
            have yz3 : Vs.frozen? ⟨X + 1, 3, none⟩ = false := (row_cell HYs.out 3).2
            go_wp2_with fail
            refine bodyPost_ret (results_cell_two rfl _ _ (X + 1) _ _ rfl (set_four HYs.out _ _ _ _) Try.underlying29 rfl (by kernel_rfl)) rfl ?_
            have hfo := (((((Fo.refl (fun b => b = X + 1) Vs).setCell (.inl rfl) 0 (.int .i64 Z)).setCell (.inl rfl) 1 (.int .i64 P)).setCell (.inl rfl) 2 (.int .i64 F)).setCell (.inl rfl) 3 (.slice A2 ln c2))
            refine ⟨.slice A2 ln c2, L ++ [(q, ran)], by rw [← HOV.out]; rfl, HREL.out, ((LVs.out.fo hfo (fun b hb e => by omega)).imp (fun b _ hb => .inr (by omega))), by simp, Bs.out.trans (hfo.below (fun b hb => by omega) (by have := (Array.getElem?_eq_some_iff.1 HYs.out).1; omega))⟩
          · obtain ⟨V0ac, h_V0ac⟩ : ∃ W, V0a.alloc (.cells #[.int .i64 q, .int .i64 ran] 65) = W := ⟨_, rfl⟩
            obtain ⟨bB, hbB⟩ : ∃ b, V0a.heap.size = b := ⟨_, rfl⟩
            have bb : Below V0a.heap.size V0a V0ac := by rw [← h_V0ac]; exact (Below.refl _ _).alloc (Nat.le_refl _) _
            have B_V0ac : Hid (Below V0.heap.size V0 V0ac) := B_V0a.out.trans (bb.mono B_V0a.out.size)
            have HB_V0ac : Hid (V0ac.heap[bB]? = some (.cells #[.int .i64 q, .int .i64 ran] 65 (0, 0)) ∧ V0.heap.size ≤ bB) := ⟨by rw [← h_V0ac, ← hbB]; exact heap_alloc_new _ _, by rw [← hbB]; exact B_V0a.out.size⟩
            have HE_V0ac : Hid (V0ac.heap[bE]? = some (.cells #[] 65 (0, 0)) ∧ V0.heap.size ≤ bE) := ⟨(bb.block bE (Array.getElem?_eq_some_iff.1 HE_V0a.out.1).1).trans HE_V0a.out.1, HE_V0a.out.2⟩
            have HNE : Hid (bB ≠ bE) := by have := (Array.getElem?_eq_some_iff.1 HE_V0a.out.1).1; unfold Hid; omega
            try go_simp
            try rw [h_V0ac]
            try rw [hbB]
            clear bb
            refine hK.out _ _ ⟨cell_later B_V0ac.out g1.out, cell_later B_V0ac.out g2.out⟩ (fun hHeld => ?_)
            clear hK K0 hHeld
            try simp only [Act.put, List.setIfInBounds_toArray, List.set_cons_zero, List.set_cons_succ]
            clear h_V0ac hbB
            refine wpAnyH_ready (rs := [3]) (by kernel_rfl) (by simp) ?_
            refine AllReadyH.cons rfl (fun K0 hK => ?_) AllReadyH.nil
            have ho0 : V0ac.ownsRow V0.heap.size 65 2 (.slice (some ⟨bE, 0, none⟩) 0 0) 0 [] := ⟨rfl, .inr ⟨bE, 0, #[], rfl, HE_V0ac.out.2, HE_V0ac.out.1, Nat.le_refl _, by unfold maxLen; omega, rfl, rfl⟩⟩
            have rd := (HLV.out.below (B_V0ac.out)).reads
            refine wp_append_any V0ac (.tmp 23) (.tmp 25) 27 rfl V0.heap.size 65 i0 (.agg #[.int .i64 0, .int .i64 0]) 2 16 Try.underlying27 hi hz0 hz1 hz2 rfl (by decide) (.slice (some ⟨bE, 0, none⟩) 0 0) 0 [] rfl ho0 V0ac.heap.size A L.length c (C2 L) rfl rd (C2_one _) (by have := HN.out; unfold maxLen; omega) (by have := HN.out; omega) B_V0ac.out.size ?_
            intro v26 V0acb ho hg hbk
            have hA : V0acb.ownsRow V0.heap.size 65 2 v26 L.length (C2 L) := by simpa using ho
            have hbw : Below V0.heap.size V0 V0acb := B_V0ac.out.grown hg B_V0ac.out.size (fun z hz => by have h' : some bE = some z := hz; injection h' with h'; have := HE_V0ac.out.2; omega)
            have B_V0acb := Lib.hid hbw
            obtain ⟨ob, hob⟩ : ∃ o, v26.ownBlock = o := ⟨_, rfl⟩
            have HA_V0acb := Lib.hid hA
            have HOB := Lib.hid hob
            have HAB_V0acb : Hid (∀ z, ob = some z → z < V0acb.heap.size) := fun z hz => own_lt hA (hob.trans hz)
            have HB_V0acb : Hid (V0acb.heap[bB]? = some (.cells #[.int .i64 q, .int .i64 ran] 65 (0, 0)) ∧ V0.heap.size ≤ bB) := ⟨(hg.block bB (Array.getElem?_eq_some_iff.1 HB_V0ac.out.1).1 (fun e => HNE.out (by have h' : some bB = some bE := e; injection h' with h'))).trans HB_V0ac.out.1, HB_V0ac.out.2⟩
            have HNA : Hid (ob ≠ some bB) := fun e => by
              rcases hbk with h1 | h1
              · rw [hob, e] at h1
                have h' : some bB = some bE := h1
                injection h' with h'
                exact HNE.out h'
              · rw [hob, e] at h1
                injection h1 with h1
                have := (Array.getElem?_eq_some_iff.1 HB_V0ac.out.1).1
                omega
            clear ho0 ho hg hbk hA hbw rd hob
            refine hK.out _ _ ⟨cell_later B_V0acb.out g1.out, cell_later B_V0acb.out g2.out⟩ (fun hHeld => ?_)
            clear hK K0 hHeld
            try simp only [Act.put, List.setIfInBounds_toArray, List.set_cons_zero, List.set_cons_succ]
            refine wpAnyH_ready (rs := [14]) (by kernel_rfl) (by simp) ?_
            refine AllReadyH.cons rfl (fun K0 hK => ?_) AllReadyH.nil
            have rdB : Reads V0acb V0acb.heap.size 2 (some ⟨bB, 0, none⟩) 1 [.int .i64 q, .int .i64 ran] := ⟨rfl, fun _ => ⟨_, rfl, (Array.getElem?_eq_some_iff.1 HB_V0acb.out.1).1, fun j u hu => by
              rw [Addr.add_lit, Nat.zero_add, (row_cell HB_V0acb.out.1 j).1]
              simpa using hu⟩⟩
            refine wp_append_any V0acb (.tmp 26) (.tmp 36) 27 rfl V0.heap.size 65 i0 (.agg #[.int .i64 0, .int .i64 0]) 2 16 Try.underlying27 hi hz0 hz1 hz2 rfl (by decide) v26 L.length (C2 L) rfl HA_V0acb.out V0acb.heap.size (some ⟨bB, 0, none⟩) 1 1 [.int .i64 q, .int .i64 ran] rfl rdB (by intro u hu; simp at hu; rcases hu with rfl | rfl <;> rfl) (by have := HN.out; unfold maxLen; omega) (by have := HN.out; omega) B_V0acb.out.size ?_
            intro v37 Vz ho hg hbk
            obtain ⟨A2, c2, hv37⟩ := slice_form ho
            subst hv37
            obtain ⟨ln, hln⟩ : ∃ x, L.length + 1 = x := ⟨_, rfl⟩
            have hA2 : Vz.ownsRow V0.heap.size 65 2 (.slice A2 (L.length + 1) c2) (L ++ [(q, ran)]).length (C2 (L ++ [(q, ran)])) := by rw [C2_app, List.length_append]; exact ho
            have hbw : Below V0.heap.size V0 Vz := B_V0acb.out.grown hg B_V0acb.out.size (fun z hz => own_ge HA_V0acb.out hz)
            have B_Vz := Lib.hid hbw
            have LV2 : Hid (LV Vz (fun b => V0.heap.size ≤ b) (.slice A2 ln c2) (L ++ [(q, ran)])) := by rw [← hln]; exact LV.of_own hA2
            try simp only [hln]
            clear ho hg hbk hA2 hbw rdB hln
            refine hK.out _ _ ⟨cell_later B_Vz.out g1.out, cell_later B_Vz.out g2.out⟩ (fun hHeld => ?_)
            clear hK K0 hHeld
            try simp only [Act.put, List.setIfInBounds_toArray, List.set_cons_zero, List.set_cons_succ]
            refine takeD (i := 15) (d := some 38) (v := ?_) _ rfl rfl (by kernel_rfl) (by kernel_rfl) (by kernel_rfl) (fun _ _ _ h => h) (by rfl) ?_ (⟨cell_later B_Vz.out g1.out, cell_later B_Vz.out g2.out⟩) ?_
            rotate_left
            · (intro w hSw; (try dsimp only at hSw); go_simp) <;> with_reducible rfl
            try simp only [Act.put, List.setIfInBounds_toArray, List.set_cons_zero, List.set_cons_succ]
            have x3 := cell_later B_Vz.out g3.out
            have xf3 : Vz.frozen? ⟨X, 3, none⟩ = false := (row_cell (HX_.out Vz B_Vz.out) 3).2
            refine wpAnyH_ready (rs := [16]) (by kernel_rfl) (by simp) ?_
            refine AllReadyH.cons rfl (fun K0 hK => ?_) AllReadyH.nil
            try go_simp
            obtain ⟨Vs, hVs⟩ : ∃ W, Vz.setCell ⟨X, 3, none⟩ (.slice A2 ln c2) = W := ⟨_, rfl⟩
            try rw [hVs]
            have fs : Fo (fun b => b = X) Vz Vs := by rw [← hVs]; exact (Fo.refl (fun b => b = X) Vz).setCell (.inl rfl) 3 _
            have HXs : Hid (Vs.heap[X]? = some (.cells #[.int .i64 Z, .int .i64 P, .int .i64 F, .slice A2 ln c2] 29 (0, 0))) := by unfold Hid; rw [← hVs]; exact set_at (HX_.out Vz B_Vz.out) 3 _
            have HYs : Hid (Vs.heap[X + 1]? = some (.cells #[.int .i64 0, .int .i64 0, .int .i64 0, .slice none 0 0] 29 (0, 0))) := (fs.block (X + 1) (Array.getElem?_eq_some_iff.1 (HY_.out Vz B_Vz.out)).1 (by omega)).trans (HY_.out Vz B_Vz.out)
            have Bs : Hid (Below X w Vs) := (B_V0'.out.trans (B_Vz.out.mono SZ0.out)).trans (fs.below (fun b hb => by omega) (by have := (Array.getElem?_eq_some_iff.1 (HX_.out Vz B_Vz.out)).1; omega))
            have LVs : Hid (LV Vs (fun b => X + 2 ≤ b) (.slice A2 ln c2) (L ++ [(q, ran)])) := (LV2.out.imp (fun b _ hb => Nat.le_trans SZ1.out hb)).fo fs (fun b hb e => by omega)
            refine hK.out _ _ (⟨(row_cell HXs.out 1).1.trans rfl, (row_cell HXs.out 2).1.trans rfl⟩) (fun hHeld => ?_)
            clear hK K0 hHeld hVs fs x3 xf3
            try simp only [Act.put, List.setIfInBounds_toArray, List.set_cons_zero, List.set_cons_succ]
            refine wpAnyH_done (by kernel_rfl) ?_ _
            have x0 : Vs.cell? ⟨X, 0, none⟩ = some (.int .i64 Z) := by rw [(row_cell HXs.out 0).1]; rfl
            have x1 : Vs.cell? ⟨X, 1, none⟩ = some (.int .i64 P) := by rw [(row_cell HXs.out 1).1]; rfl
            have x2 : Vs.cell? ⟨X, 2, none⟩ = some (.int .i64 F) := by rw [(row_cell HXs.out 2).1]; rfl
            have x3 : Vs.cell? ⟨X, 3, none⟩ = some (.slice A2 ln c2) := by rw [(row_cell HXs.out 3).1]; rfl
            have y0 : Vs.cell? ⟨X + 1, 0, none⟩ = some (.int .i64 0) := by rw [(row_cell HYs.out 0).1]; rfl
            have yz0 : Vs.frozen? ⟨X + 1, 0, none⟩ = false := (row_cell HYs.out 0).2
            have y1 : Vs.cell? ⟨X + 1, 1, none⟩ = some (.int .i64 0) := by rw [(row_cell HYs.out 1).1]; rfl
            have yz1 : Vs.frozen? ⟨X + 1, 1, none⟩ = false := (row_cell HYs.out 1).2
            have y2 : Vs.cell? ⟨X + 1, 2, none⟩ = some (.int .i64 0) := by rw [(row_cell HYs.out 2).1]; rfl
            have yz2 : Vs.frozen? ⟨X + 1, 2, none⟩ = false := (row_cell HYs.out 2).2
            have y3 : Vs.cell? ⟨X + 1, 3, none⟩ = some (.slice none 0 0) := by rw [(row_cell HYs.out 3).1]; rfl
            have yz3 : Vs.frozen? ⟨X + 1, 3, none⟩ = false := (row_cell HYs.out 3).2
            go_wp2_with fail
            refine bodyPost_ret (results_cell_two rfl _ _ (X + 1) _ _ rfl (set_four HYs.out _ _ _ _) Try.underlying29 rfl (by kernel_rfl)) rfl ?_
            have hfo := (((((Fo.refl (fun b => b = X + 1) Vs).setCell (.inl rfl) 0 (.int .i64 Z)).setCell (.inl rfl) 1 (.int .i64 P)).setCell (.inl rfl) 2 (.int .i64 F)).setCell (.inl rfl) 3 (.slice A2 ln c2))
            refine ⟨.slice A2 ln c2, L ++ [(q, ran)], by rw [← HOV.out]; rfl, HREL.out, ((LVs.out.fo hfo (fun b hb e => by omega)).imp (fun b _ hb => .inr (by omega))), by simp, Bs.out.trans (hfo.below (fun b hb => by omega) (by have := (Array.getElem?_eq_some_iff.1 HYs.out).1; omega))⟩
        · obtain ⟨V0c, h_V0c⟩ : ∃ W, V0.alloc (.cells #[.int .i64 q, .int .i64 ran] 65) = W := ⟨_, rfl⟩
          obtain ⟨bB, hbB⟩ : ∃ b, V0.heap.size = b := ⟨_, rfl⟩
          have bb : Below V0.heap.size V0 V0c := by rw [← h_V0c]; exact (Below.refl _ _).alloc (Nat.le_refl _) _
          have B_V0c : Hid (Below V0.heap.size V0 V0c) := B_V0.out.trans (bb.mono B_V0.out.size)
          have HB_V0c : Hid (V0c.heap[bB]? = some (.cells #[.int .i64 q, .int .i64 ran] 65 (0, 0)) ∧ V0.heap.size ≤ bB) := ⟨by rw [← h_V0c, ← hbB]; exact heap_alloc_new _ _, by rw [← hbB]; exact B_V0.out.size⟩
          try go_simp
          try rw [h_V0c]
          try rw [hbB]
          clear bb
          refine hK.out _ _ ⟨cell_later B_V0c.out g1.out, cell_later B_V0c.out g2.out⟩ (fun hHeld => ?_)
          clear hK K0 hHeld
          try simp only [Act.put, List.setIfInBounds_toArray, List.set_cons_zero, List.set_cons_succ]
          clear h_V0c hbB
          refine wpAnyH_ready (rs := [0]) (by kernel_rfl) (by simp) ?_
          refine AllReadyH.cons rfl (fun K0 hK => ?_) AllReadyH.nil
          obtain ⟨V0ca, h_V0ca⟩ : ∃ W, V0c.alloc (.cells #[] 65) = W := ⟨_, rfl⟩
          obtain ⟨bE, hbE⟩ : ∃ b, V0c.heap.size = b := ⟨_, rfl⟩
          have bb : Below V0c.heap.size V0c V0ca := by rw [← h_V0ca]; exact (Below.refl _ _).alloc (Nat.le_refl _) _
          have B_V0ca : Hid (Below V0.heap.size V0 V0ca) := B_V0c.out.trans (bb.mono B_V0c.out.size)
          have HE_V0ca : Hid (V0ca.heap[bE]? = some (.cells #[] 65 (0, 0)) ∧ V0.heap.size ≤ bE) := ⟨by rw [← h_V0ca, ← hbE]; exact heap_alloc_new _ _, by rw [← hbE]; exact B_V0c.out.size⟩
          have HB_V0ca : Hid (V0ca.heap[bB]? = some (.cells #[.int .i64 q, .int .i64 ran] 65 (0, 0)) ∧ V0.heap.size ≤ bB) := ⟨(bb.block bB (Array.getElem?_eq_some_iff.1 HB_V0c.out.1).1).trans HB_V0c.out.1, HB_V0c.out.2⟩
          have HNE : Hid (bB ≠ bE) := by have := (Array.getElem?_eq_some_iff.1 HB_V0c.out.1).1; unfold Hid; omega
          try go_simp
          try rw [h_V0ca]
          try rw [hbE]
          clear bb
          refine hK.out _ _ ⟨cell_later B_V0ca.out g1.out, cell_later B_V0ca.out g2.out⟩ (fun hHeld => ?_)
          clear hK K0 hHeld
          try simp only [Act.put, List.setIfInBounds_toArray, List.set_cons_zero, List.set_cons_succ]
          clear h_V0ca hbE
          refine wpAnyH_ready (rs := [3]) (by kernel_rfl) (by simp) ?_
          refine AllReadyH.cons rfl (fun K0 hK => ?_) AllReadyH.nil
          have ho0 : V0ca.ownsRow V0.heap.size 65 2 (.slice (some ⟨bE, 0, none⟩) 0 0) 0 [] := ⟨rfl, .inr ⟨bE, 0, #[], rfl, HE_V0ca.out.2, HE_V0ca.out.1, Nat.le_refl _, by unfold maxLen; omega, rfl, rfl⟩⟩
          have rd := (HLV.out.below (B_V0ca.out)).reads
          refine wp_append_any V0ca (.tmp 23) (.tmp 25) 27 rfl V0.heap.size 65 i0 (.agg #[.int .i64 0, .int .i64 0]) 2 16 Try.underlying27 hi hz0 hz1 hz2 rfl (by decide) (.slice (some ⟨bE, 0, none⟩) 0 0) 0 [] rfl ho0 V0ca.heap.size A L.length c (C2 L) rfl rd (C2_one _) (by have := HN.out; unfold maxLen; omega) (by have := HN.out; omega) B_V0ca.out.size ?_
          intro v26 V0cab ho hg hbk
          have hA : V0cab.ownsRow V0.heap.size 65 2 v26 L.length (C2 L) := by simpa using ho
          have hbw : Below V0.heap.size V0 V0cab := B_V0ca.out.grown hg B_V0ca.out.size (fun z hz => by have h' : some bE = some z := hz; injection h' with h'; have := HE_V0ca.out.2; omega)
          have B_V0cab := Lib.hid hbw
          obtain ⟨ob, hob⟩ : ∃ o, v26.ownBlock = o := ⟨_, rfl⟩
          have HA_V0cab := Lib.hid hA
          have HOB := Lib.hid hob
          have HAB_V0cab : Hid (∀ z, ob = some z → z < V0cab.heap.size) := fun z hz => own_lt hA (hob.trans hz)
          have HB_V0cab : Hid (V0cab.heap[bB]? = some (.cells #[.int .i64 q, .int .i64 ran] 65 (0, 0)) ∧ V0.heap.size ≤ bB) := ⟨(hg.block bB (Array.getElem?_eq_some_iff.1 HB_V0ca.out.1).1 (fun e => HNE.out (by have h' : some bB = some bE := e; injection h' with h'))).trans HB_V0ca.out.1, HB_V0ca.out.2⟩
          have HNA : Hid (ob ≠ some bB) := fun e => by
            rcases hbk with h1 | h1
            · rw [hob, e] at h1
              have h' : some bB = some bE := h1
              injection h' with h'
              exact HNE.out h'
            · rw [hob, e] at h1
              injection h1 with h1
              have := (Array.getElem?_eq_some_iff.1 HB_V0ca.out.1).1
              omega
          clear ho0 ho hg hbk hA hbw rd hob
          refine hK.out _ _ ⟨cell_later B_V0cab.out g1.out, cell_later B_V0cab.out g2.out⟩ (fun hHeld => ?_)
          clear hK K0 hHeld
          try simp only [Act.put, List.setIfInBounds_toArray, List.set_cons_zero, List.set_cons_succ]
          refine wpAnyH_ready (rs := [14]) (by kernel_rfl) (by simp) ?_
          refine AllReadyH.cons rfl (fun K0 hK => ?_) AllReadyH.nil
          have rdB : Reads V0cab V0cab.heap.size 2 (some ⟨bB, 0, none⟩) 1 [.int .i64 q, .int .i64 ran] := ⟨rfl, fun _ => ⟨_, rfl, (Array.getElem?_eq_some_iff.1 HB_V0cab.out.1).1, fun j u hu => by
            rw [Addr.add_lit, Nat.zero_add, (row_cell HB_V0cab.out.1 j).1]
            simpa using hu⟩⟩
          refine wp_append_any V0cab (.tmp 26) (.tmp 36) 27 rfl V0.heap.size 65 i0 (.agg #[.int .i64 0, .int .i64 0]) 2 16 Try.underlying27 hi hz0 hz1 hz2 rfl (by decide) v26 L.length (C2 L) rfl HA_V0cab.out V0cab.heap.size (some ⟨bB, 0, none⟩) 1 1 [.int .i64 q, .int .i64 ran] rfl rdB (by intro u hu; simp at hu; rcases hu with rfl | rfl <;> rfl) (by have := HN.out; unfold maxLen; omega) (by have := HN.out; omega) B_V0cab.out.size ?_
          intro v37 Vz ho hg hbk
          obtain ⟨A2, c2, hv37⟩ := slice_form ho
          subst hv37
          obtain ⟨ln, hln⟩ : ∃ x, L.length + 1 = x := ⟨_, rfl⟩
          have hA2 : Vz.ownsRow V0.heap.size 65 2 (.slice A2 (L.length + 1) c2) (L ++ [(q, ran)]).length (C2 (L ++ [(q, ran)])) := by rw [C2_app, List.length_append]; exact ho
          have hbw : Below V0.heap.size V0 Vz := B_V0cab.out.grown hg B_V0cab.out.size (fun z hz => own_ge HA_V0cab.out hz)
          have B_Vz := Lib.hid hbw
          have LV2 : Hid (LV Vz (fun b => V0.heap.size ≤ b) (.slice A2 ln c2) (L ++ [(q, ran)])) := by rw [← hln]; exact LV.of_own hA2
          try simp only [hln]
          clear ho hg hbk hA2 hbw rdB hln
          refine hK.out _ _ ⟨cell_later B_Vz.out g1.out, cell_later B_Vz.out g2.out⟩ (fun hHeld => ?_)
          clear hK K0 hHeld
          try simp only [Act.put, List.setIfInBounds_toArray, List.set_cons_zero, List.set_cons_succ]
          refine takeD (i := 15) (d := some 38) (v := ?_) _ rfl rfl (by kernel_rfl) (by kernel_rfl) (by kernel_rfl) (fun _ _ _ h => h) (by rfl) ?_ (⟨cell_later B_Vz.out g1.out, cell_later B_Vz.out g2.out⟩) ?_
          rotate_left
          · (intro w hSw; (try dsimp only at hSw); go_simp) <;> with_reducible rfl
          try simp only [Act.put, List.setIfInBounds_toArray, List.set_cons_zero, List.set_cons_succ]
          have x3 := cell_later B_Vz.out g3.out
          have xf3 : Vz.frozen? ⟨X, 3, none⟩ = false := (row_cell (HX_.out Vz B_Vz.out) 3).2
          refine wpAnyH_ready (rs := [16]) (by kernel_rfl) (by simp) ?_
          refine AllReadyH.cons rfl (fun K0 hK => ?_) AllReadyH.nil
          try go_simp
          obtain ⟨Vs, hVs⟩ : ∃ W, Vz.setCell ⟨X, 3, none⟩ (.slice A2 ln c2) = W := ⟨_, rfl⟩
          try rw [hVs]
          have fs : Fo (fun b => b = X) Vz Vs := by rw [← hVs]; exact (Fo.refl (fun b => b = X) Vz).setCell (.inl rfl) 3 _
          have HXs : Hid (Vs.heap[X]? = some (.cells #[.int .i64 Z, .int .i64 P, .int .i64 F, .slice A2 ln c2] 29 (0, 0))) := by unfold Hid; rw [← hVs]; exact set_at (HX_.out Vz B_Vz.out) 3 _
          have HYs : Hid (Vs.heap[X + 1]? = some (.cells #[.int .i64 0, .int .i64 0, .int .i64 0, .slice none 0 0] 29 (0, 0))) := (fs.block (X + 1) (Array.getElem?_eq_some_iff.1 (HY_.out Vz B_Vz.out)).1 (by omega)).trans (HY_.out Vz B_Vz.out)
          have Bs : Hid (Below X w Vs) := (B_V0'.out.trans (B_Vz.out.mono SZ0.out)).trans (fs.below (fun b hb => by omega) (by have := (Array.getElem?_eq_some_iff.1 (HX_.out Vz B_Vz.out)).1; omega))
          have LVs : Hid (LV Vs (fun b => X + 2 ≤ b) (.slice A2 ln c2) (L ++ [(q, ran)])) := (LV2.out.imp (fun b _ hb => Nat.le_trans SZ1.out hb)).fo fs (fun b hb e => by omega)
          refine hK.out _ _ (⟨(row_cell HXs.out 1).1.trans rfl, (row_cell HXs.out 2).1.trans rfl⟩) (fun hHeld => ?_)
          clear hK K0 hHeld hVs fs x3 xf3
          try simp only [Act.put, List.setIfInBounds_toArray, List.set_cons_zero, List.set_cons_succ]
          refine wpAnyH_done (by kernel_rfl) ?_ _
          have x0 : Vs.cell? ⟨X, 0, none⟩ = some (.int .i64 Z) := by rw [(row_cell HXs.out 0).1]; rfl
          have x1 : Vs.cell? ⟨X, 1, none⟩ = some (.int .i64 P) := by rw [(row_cell HXs.out 1).1]; rfl
          have x2 : Vs.cell? ⟨X, 2, none⟩ = some (.int .i64 F) := by rw [(row_cell HXs.out 2).1]; rfl
          have x3 : Vs.cell? ⟨X, 3, none⟩ = some (.slice A2 ln c2) := by rw [(row_cell HXs.out 3).1]; rfl
          have y0 : Vs.cell? ⟨X + 1, 0, none⟩ = some (.int .i64 0) := by rw [(row_cell HYs.out 0).1]; rfl
          have yz0 : Vs.frozen? ⟨X + 1, 0, none⟩ = false := (row_cell HYs.out 0).2
          have y1 : Vs.cell? ⟨X + 1, 1, none⟩ = some (.int .i64 0) := by rw [(row_cell HYs.out 1).1]; rfl
          have yz1 : Vs.frozen? ⟨X + 1, 1, none⟩ = false := (row_cell HYs.out 1).2
          have y2 : Vs.cell? ⟨X + 1, 2, none⟩ = some (.int .i64 0) := by rw [(row_cell HYs.out 2).1]; rfl
          have yz2 : Vs.frozen? ⟨X + 1, 2, none⟩ = false := (row_cell HYs.out 2).2
          have y3 : Vs.cell? ⟨X + 1, 3, none⟩ = some (.slice none 0 0) := by rw [(row_cell HYs.out 3).1]; rfl
          have yz3 : Vs.frozen? ⟨X + 1, 3, none⟩ = false := (row_cell HYs.out 3).2
          go_wp2_with fail
          refine bodyPost_ret (results_cell_two rfl _ _ (X + 1) _ _ rfl (set_four HYs.out _ _ _ _) Try.underlying29 rfl (by kernel_rfl)) rfl ?_
          have hfo := (((((Fo.refl (fun b => b = X + 1) Vs).setCell (.inl rfl) 0 (.int .i64 Z)).setCell (.inl rfl) 1 (.int .i64 P)).setCell (.inl rfl) 2 (.int .i64 F)).setCell (.inl rfl) 3 (.slice A2 ln c2))
          refine ⟨.slice A2 ln c2, L ++ [(q, ran)], by rw [← HOV.out]; rfl, HREL.out, ((LVs.out.fo hfo (fun b hb e => by omega)).imp (fun b _ hb => .inr (by omega))), by simp, Bs.out.trans (hfo.below (fun b hb => by omega) (by have := (Array.getElem?_eq_some_iff.1 HYs.out).1; omega))⟩
      · obtain ⟨V0c, h_V0c⟩ : ∃ W, V0.alloc (.cells #[.int .i64 q, .int .i64 ran] 65) = W := ⟨_, rfl⟩
        obtain ⟨bB, hbB⟩ : ∃ b, V0.heap.size = b := ⟨_, rfl⟩
        have bb : Below V0.heap.size V0 V0c := by rw [← h_V0c]; exact (Below.refl _ _).alloc (Nat.le_refl _) _
        have B_V0c : Hid (Below V0.heap.size V0 V0c) := B_V0.out.trans (bb.mono B_V0.out.size)
        have HB_V0c : Hid (V0c.heap[bB]? = some (.cells #[.int .i64 q, .int .i64 ran] 65 (0, 0)) ∧ V0.heap.size ≤ bB) := ⟨by rw [← h_V0c, ← hbB]; exact heap_alloc_new _ _, by rw [← hbB]; exact B_V0.out.size⟩
        try go_simp
        try rw [h_V0c]
        try rw [hbB]
        clear bb
        refine hK.out _ _ ⟨cell_later B_V0c.out g1.out, cell_later B_V0c.out g2.out⟩ (fun hHeld => ?_)
        clear hK K0 hHeld
        try simp only [Act.put, List.setIfInBounds_toArray, List.set_cons_zero, List.set_cons_succ]
        clear h_V0c hbB
        refine wpAnyH_ready (rs := [0, 2]) (by kernel_rfl) (by simp) ?_
        refine AllReadyH.cons rfl (fun K0 hK => ?_) (AllReadyH.cons rfl (fun K0 hK => ?_) AllReadyH.nil)
        · obtain ⟨V0ca, h_V0ca⟩ : ∃ W, V0c.alloc (.cells #[] 65) = W := ⟨_, rfl⟩
          obtain ⟨bE, hbE⟩ : ∃ b, V0c.heap.size = b := ⟨_, rfl⟩
          have bb : Below V0c.heap.size V0c V0ca := by rw [← h_V0ca]; exact (Below.refl _ _).alloc (Nat.le_refl _) _
          have B_V0ca : Hid (Below V0.heap.size V0 V0ca) := B_V0c.out.trans (bb.mono B_V0c.out.size)
          have HE_V0ca : Hid (V0ca.heap[bE]? = some (.cells #[] 65 (0, 0)) ∧ V0.heap.size ≤ bE) := ⟨by rw [← h_V0ca, ← hbE]; exact heap_alloc_new _ _, by rw [← hbE]; exact B_V0c.out.size⟩
          have HB_V0ca : Hid (V0ca.heap[bB]? = some (.cells #[.int .i64 q, .int .i64 ran] 65 (0, 0)) ∧ V0.heap.size ≤ bB) := ⟨(bb.block bB (Array.getElem?_eq_some_iff.1 HB_V0c.out.1).1).trans HB_V0c.out.1, HB_V0c.out.2⟩
          have HNE : Hid (bB ≠ bE) := by have := (Array.getElem?_eq_some_iff.1 HB_V0c.out.1).1; unfold Hid; omega
          try go_simp
          try rw [h_V0ca]
          try rw [hbE]
          clear bb
          refine hK.out _ _ ⟨cell_later B_V0ca.out g1.out, cell_later B_V0ca.out g2.out⟩ (fun hHeld => ?_)
          clear hK K0 hHeld
          try simp only [Act.put, List.setIfInBounds_toArray, List.set_cons_zero, List.set_cons_succ]
          clear h_V0ca hbE
          refine wpAnyH_ready (rs := [2]) (by kernel_rfl) (by simp) ?_
          refine AllReadyH.cons rfl (fun K0 hK => ?_) AllReadyH.nil
          have x3 := cell_later B_V0ca.out g3.out
          try go_simp
          refine hK.out _ _ ⟨cell_later B_V0ca.out g1.out, cell_later B_V0ca.out g2.out⟩ (fun hHeld => ?_)
          clear hK K0 hHeld
          try simp only [Act.put, List.setIfInBounds_toArray, List.set_cons_zero, List.set_cons_succ]
          clear x3
          refine wpAnyH_ready (rs := [3]) (by kernel_rfl) (by simp) ?_
          refine AllReadyH.cons rfl (fun K0 hK => ?_) AllReadyH.nil
          have ho0 : V0ca.ownsRow V0.heap.size 65 2 (.slice (some ⟨bE, 0, none⟩) 0 0) 0 [] := ⟨rfl, .inr ⟨bE, 0, #[], rfl, HE_V0ca.out.2, HE_V0ca.out.1, Nat.le_refl _, by unfold maxLen; omega, rfl, rfl⟩⟩
          have rd := (HLV.out.below (B_V0ca.out)).reads
          refine wp_append_any V0ca (.tmp 23) (.tmp 25) 27 rfl V0.heap.size 65 i0 (.agg #[.int .i64 0, .int .i64 0]) 2 16 Try.underlying27 hi hz0 hz1 hz2 rfl (by decide) (.slice (some ⟨bE, 0, none⟩) 0 0) 0 [] rfl ho0 V0ca.heap.size A L.length c (C2 L) rfl rd (C2_one _) (by have := HN.out; unfold maxLen; omega) (by have := HN.out; omega) B_V0ca.out.size ?_
          intro v26 V0cab ho hg hbk
          have hA : V0cab.ownsRow V0.heap.size 65 2 v26 L.length (C2 L) := by simpa using ho
          have hbw : Below V0.heap.size V0 V0cab := B_V0ca.out.grown hg B_V0ca.out.size (fun z hz => by have h' : some bE = some z := hz; injection h' with h'; have := HE_V0ca.out.2; omega)
          have B_V0cab := Lib.hid hbw
          obtain ⟨ob, hob⟩ : ∃ o, v26.ownBlock = o := ⟨_, rfl⟩
          have HA_V0cab := Lib.hid hA
          have HOB := Lib.hid hob
          have HAB_V0cab : Hid (∀ z, ob = some z → z < V0cab.heap.size) := fun z hz => own_lt hA (hob.trans hz)
          have HB_V0cab : Hid (V0cab.heap[bB]? = some (.cells #[.int .i64 q, .int .i64 ran] 65 (0, 0)) ∧ V0.heap.size ≤ bB) := ⟨(hg.block bB (Array.getElem?_eq_some_iff.1 HB_V0ca.out.1).1 (fun e => HNE.out (by have h' : some bB = some bE := e; injection h' with h'))).trans HB_V0ca.out.1, HB_V0ca.out.2⟩
          have HNA : Hid (ob ≠ some bB) := fun e => by
            rcases hbk with h1 | h1
            · rw [hob, e] at h1
              have h' : some bB = some bE := h1
              injection h' with h'
              exact HNE.out h'
            · rw [hob, e] at h1
              injection h1 with h1
              have := (Array.getElem?_eq_some_iff.1 HB_V0ca.out.1).1
              omega
          clear ho0 ho hg hbk hA hbw rd hob
          refine hK.out _ _ ⟨cell_later B_V0cab.out g1.out, cell_later B_V0cab.out g2.out⟩ (fun hHeld => ?_)
          clear hK K0 hHeld
          try simp only [Act.put, List.setIfInBounds_toArray, List.set_cons_zero, List.set_cons_succ]
          refine wpAnyH_ready (rs := [14]) (by kernel_rfl) (by simp) ?_
          refine AllReadyH.cons rfl (fun K0 hK => ?_) AllReadyH.nil
          have rdB : Reads V0cab V0cab.heap.size 2 (some ⟨bB, 0, none⟩) 1 [.int .i64 q, .int .i64 ran] := ⟨rfl, fun _ => ⟨_, rfl, (Array.getElem?_eq_some_iff.1 HB_V0cab.out.1).1, fun j u hu => by
            rw [Addr.add_lit, Nat.zero_add, (row_cell HB_V0cab.out.1 j).1]
            simpa using hu⟩⟩
          refine wp_append_any V0cab (.tmp 26) (.tmp 36) 27 rfl V0.heap.size 65 i0 (.agg #[.int .i64 0, .int .i64 0]) 2 16 Try.underlying27 hi hz0 hz1 hz2 rfl (by decide) v26 L.length (C2 L) rfl HA_V0cab.out V0cab.heap.size (some ⟨bB, 0, none⟩) 1 1 [.int .i64 q, .int .i64 ran] rfl rdB (by intro u hu; simp at hu; rcases hu with rfl | rfl <;> rfl) (by have := HN.out; unfold maxLen; omega) (by have := HN.out; omega) B_V0cab.out.size ?_
          intro v37 Vz ho hg hbk
          obtain ⟨A2, c2, hv37⟩ := slice_form ho
          subst hv37
          obtain ⟨ln, hln⟩ : ∃ x, L.length + 1 = x := ⟨_, rfl⟩
          have hA2 : Vz.ownsRow V0.heap.size 65 2 (.slice A2 (L.length + 1) c2) (L ++ [(q, ran)]).length (C2 (L ++ [(q, ran)])) := by rw [C2_app, List.length_append]; exact ho
          have hbw : Below V0.heap.size V0 Vz := B_V0cab.out.grown hg B_V0cab.out.size (fun z hz => own_ge HA_V0cab.out hz)
          have B_Vz := Lib.hid hbw
          have LV2 : Hid (LV Vz (fun b => V0.heap.size ≤ b) (.slice A2 ln c2) (L ++ [(q, ran)])) := by rw [← hln]; exact LV.of_own hA2
          try simp only [hln]
          clear ho hg hbk hA2 hbw rdB hln
          refine hK.out _ _ ⟨cell_later B_Vz.out g1.out, cell_later B_Vz.out g2.out⟩ (fun hHeld => ?_)
          clear hK K0 hHeld
          try simp only [Act.put, List.setIfInBounds_toArray, List.set_cons_zero, List.set_cons_succ]
          refine takeD (i := 15) (d := some 38) (v := ?_) _ rfl rfl (by kernel_rfl) (by kernel_rfl) (by kernel_rfl) (fun _ _ _ h => h) (by rfl) ?_ (⟨cell_later B_Vz.out g1.out, cell_later B_Vz.out g2.out⟩) ?_
          rotate_left
          · (intro w hSw; (try dsimp only at hSw); go_simp) <;> with_reducible rfl
          try simp only [Act.put, List.setIfInBounds_toArray, List.set_cons_zero, List.set_cons_succ]
          have x3 := cell_later B_Vz.out g3.out
          have xf3 : Vz.frozen? ⟨X, 3, none⟩ = false := (row_cell (HX_.out Vz B_Vz.out) 3).2
          refine wpAnyH_ready (rs := [16]) (by kernel_rfl) (by simp) ?_
          refine AllReadyH.cons rfl (fun K0 hK => ?_) AllReadyH.nil
          try go_simp
          obtain ⟨Vs, hVs⟩ : ∃ W, Vz.setCell ⟨X, 3, none⟩ (.slice A2 ln c2) = W := ⟨_, rfl⟩
          try rw [hVs]
          have fs : Fo (fun b => b = X) Vz Vs := by rw [← hVs]; exact (Fo.refl (fun b => b = X) Vz).setCell (.inl rfl) 3 _
          have HXs : Hid (Vs.heap[X]? = some (.cells #[.int .i64 Z, .int .i64 P, .int .i64 F, .slice A2 ln c2] 29 (0, 0))) := by unfold Hid; rw [← hVs]; exact set_at (HX_.out Vz B_Vz.out) 3 _
          have HYs : Hid (Vs.heap[X + 1]? = some (.cells #[.int .i64 0, .int .i64 0, .int .i64 0, .slice none 0 0] 29 (0, 0))) := (fs.block (X + 1) (Array.getElem?_eq_some_iff.1 (HY_.out Vz B_Vz.out)).1 (by omega)).trans (HY_.out Vz B_Vz.out)
          have Bs : Hid (Below X w Vs) := (B_V0'.out.trans (B_Vz.out.mono SZ0.out)).trans (fs.below (fun b hb => by omega) (by have := (Array.getElem?_eq_some_iff.1 (HX_.out Vz B_Vz.out)).1; omega))
          have LVs : Hid (LV Vs (fun b => X + 2 ≤ b) (.slice A2 ln c2) (L ++ [(q, ran)])) := (LV2.out.imp (fun b _ hb => Nat.le_trans SZ1.out hb)).fo fs (fun b hb e => by omega)
          refine hK.out _ _ (⟨(row_cell HXs.out 1).1.trans rfl, (row_cell HXs.out 2).1.trans rfl⟩) (fun hHeld => ?_)
          clear hK K0 hHeld hVs fs x3 xf3
          try simp only [Act.put, List.setIfInBounds_toArray, List.set_cons_zero, List.set_cons_succ]
          refine wpAnyH_done (by kernel_rfl) ?_ _
          have x0 : Vs.cell? ⟨X, 0, none⟩ = some (.int .i64 Z) := by rw [(row_cell HXs.out 0).1]; rfl
          have x1 : Vs.cell? ⟨X, 1, none⟩ = some (.int .i64 P) := by rw [(row_cell HXs.out 1).1]; rfl
          have x2 : Vs.cell? ⟨X, 2, none⟩ = some (.int .i64 F) := by rw [(row_cell HXs.out 2).1]; rfl
          have x3 : Vs.cell? ⟨X, 3, none⟩ = some (.slice A2 ln c2) := by rw [(row_cell HXs.out 3).1]; rfl
          have y0 : Vs.cell? ⟨X + 1, 0, none⟩ = some (.int .i64 0) := by rw [(row_cell HYs.out 0).1]; rfl
          have yz0 : Vs.frozen? ⟨X + 1, 0, none⟩ = false := (row_cell HYs.out 0).2
          have y1 : Vs.cell? ⟨X + 1, 1, none⟩ = some (.int .i64 0) := by rw [(row_cell HYs.out 1).1]; rfl
          have yz1 : Vs.frozen? ⟨X + 1, 1, none⟩ = false := (row_cell HYs.out 1).2
          have y2 : Vs.cell? ⟨X + 1, 2, none⟩ = some (.int .i64 0) := by rw [(row_cell HYs.out 2).1]; rfl
          have yz2 : Vs.frozen? ⟨X + 1, 2, none⟩ = false := (row_cell HYs.out 2).2
          have y3 : Vs.cell? ⟨X + 1, 3, none⟩ = some (.slice none 0 0) := by rw [(row_cell HYs.out 3).1]; rfl
          have yz3 : Vs.frozen? ⟨X + 1, 3, none⟩ = false := (row_cell HYs.out 3).2
          go_wp2_with fail
          refine bodyPost_ret (results_cell_two rfl _ _ (X + 1) _ _ rfl (set_four HYs.out _ _ _ _) Try.underlying29 rfl (by kernel_rfl)) rfl ?_
          have hfo := (((((Fo.refl (fun b => b = X + 1) Vs).setCell (.inl rfl) 0 (.int .i64 Z)).setCell (.inl rfl) 1 (.int .i64 P)).setCell (.inl rfl) 2 (.int .i64 F)).setCell (.inl rfl) 3 (.slice A2 ln c2))
          refine ⟨.slice A2 ln c2, L ++ [(q, ran)], by rw [← HOV.out]; rfl, HREL.out, ((LVs.out.fo hfo (fun b hb e => by omega)).imp (fun b _ hb => .inr (by omega))), by simp, Bs.out.trans (hfo.below (fun b hb => by omega) (by have := (Array.getElem?_eq_some_iff.1 HYs.out).1; omega))⟩
        · have x3 := cell_later B_V0c.out g3.out
          try go_simp
          refine hK.out _ _ ⟨cell_later B_V0c.out g1.out, cell_later B_V0c.out g2.out⟩ (fun hHeld => ?_)
          clear hK K0 hHeld
          try simp only [Act.put, List.setIfInBounds_toArray, List.set_cons_zero, List.set_cons_succ]
          clear x3
          refine wpAnyH_ready (rs := [0]) (by kernel_rfl) (by simp) ?_
          refine AllReadyH.cons rfl (fun K0 hK => ?_) AllReadyH.nil
          obtain ⟨V0ca, h_V0ca⟩ : ∃ W, V0c.alloc (.cells #[] 65) = W := ⟨_, rfl⟩
          obtain ⟨bE, hbE⟩ : ∃ b, V0c.heap.size = b := ⟨_, rfl⟩
          have bb : Below V0c.heap.size V0c V0ca := by rw [← h_V0ca]; exact (Below.refl _ _).alloc (Nat.le_refl _) _
          have B_V0ca : Hid (Below V0.heap.size V0 V0ca) := B_V0c.out.trans (bb.mono B_V0c.out.size)
          have HE_V0ca : Hid (V0ca.heap[bE]? = some (.cells #[] 65 (0, 0)) ∧ V0.heap.size ≤ bE) := ⟨by rw [← h_V0ca, ← hbE]; exact heap_alloc_new _ _, by rw [← hbE]; exact B_V0c.out.size⟩
          have HB_V0ca : Hid (V0ca.heap[bB]? = some (.cells #[.int .i64 q, .int .i64 ran] 65 (0, 0)) ∧ V0.heap.size ≤ bB) := ⟨(bb.block bB (Array.getElem?_eq_some_iff.1 HB_V0c.out.1).1).trans HB_V0c.out.1, HB_V0c.out.2⟩
          have HNE : Hid (bB ≠ bE) := by have := (Array.getElem?_eq_some_iff.1 HB_V0c.out.1).1; unfold Hid; omega
          try go_simp
          try rw [h_V0ca]
          try rw [hbE]
          clear bb
          refine hK.out _ _ ⟨cell_later B_V0ca.out g1.out, cell_later B_V0ca.out g2.out⟩ (fun hHeld => ?_)
          clear hK K0 hHeld
          try simp only [Act.put, List.setIfInBounds_toArray, List.set_cons_zero, List.set_cons_succ]
          clear h_V0ca hbE
          refine wpAnyH_ready (rs := [3]) (by kernel_rfl) (by simp) ?_
          refine AllReadyH.cons rfl (fun K0 hK => ?_) AllReadyH.nil
          have ho0 : V0ca.ownsRow V0.heap.size 65 2 (.slice (some ⟨bE, 0, none⟩) 0 0) 0 [] := ⟨rfl, .inr ⟨bE, 0, #[], rfl, HE_V0ca.out.2, HE_V0ca.out.1, Nat.le_refl _, by unfold maxLen; omega, rfl, rfl⟩⟩
          have rd := (HLV.out.below (B_V0ca.out)).reads
          refine wp_append_any V0ca (.tmp 23) (.tmp 25) 27 rfl V0.heap.size 65 i0 (.agg #[.int .i64 0, .int .i64 0]) 2 16 Try.underlying27 hi hz0 hz1 hz2 rfl (by decide) (.slice (some ⟨bE, 0, none⟩) 0 0) 0 [] rfl ho0 V0ca.heap.size A L.length c (C2 L) rfl rd (C2_one _) (by have := HN.out; unfold maxLen; omega) (by have := HN.out; omega) B_V0ca.out.size ?_
          intro v26 V0cab ho hg hbk
          have hA : V0cab.ownsRow V0.heap.size 65 2 v26 L.length (C2 L) := by simpa using ho
          have hbw : Below V0.heap.size V0 V0cab := B_V0ca.out.grown hg B_V0ca.out.size (fun z hz => by have h' : some bE = some z := hz; injection h' with h'; have := HE_V0ca.out.2; omega)
          have B_V0cab := Lib.hid hbw
          obtain ⟨ob, hob⟩ : ∃ o, v26.ownBlock = o := ⟨_, rfl⟩
          have HA_V0cab := Lib.hid hA
          have HOB := Lib.hid hob
          have HAB_V0cab : Hid (∀ z, ob = some z → z < V0cab.heap.size) := fun z hz => own_lt hA (hob.trans hz)
          have HB_V0cab : Hid (V0cab.heap[bB]? = some (.cells #[.int .i64 q, .int .i64 ran] 65 (0, 0)) ∧ V0.heap.size ≤ bB) := ⟨(hg.block bB (Array.getElem?_eq_some_iff.1 HB_V0ca.out.1).1 (fun e => HNE.out (by have h' : some bB = some bE := e; injection h' with h'))).trans HB_V0ca.out.1, HB_V0ca.out.2⟩
          have HNA : Hid (ob ≠ some bB) := fun e => by
            rcases hbk with h1 | h1
            · rw [hob, e] at h1
              have h' : some bB = some bE := h1
              injection h' with h'
              exact HNE.out h'
            · rw [hob, e] at h1
              injection h1 with h1
              have := (Array.getElem?_eq_some_iff.1 HB_V0ca.out.1).1
              omega
          clear ho0 ho hg hbk hA hbw rd hob
          refine hK.out _ _ ⟨cell_later B_V0cab.out g1.out, cell_later B_V0cab.out g2.out⟩ (fun hHeld => ?_)
          clear hK K0 hHeld
          try simp only [Act.put, List.setIfInBounds_toArray, List.set_cons_zero, List.set_cons_succ]
          refine wpAnyH_ready (rs := [14]) (by kernel_rfl) (by simp) ?_
          refine AllReadyH.cons rfl (fun K0 hK => ?_) AllReadyH.nil
          have rdB : Reads V0cab V0cab.heap.size 2 (some ⟨bB, 0, none⟩) 1 [.int .i64 q, .int .i64 ran] := ⟨rfl, fun _ => ⟨_, rfl, (Array.getElem?_eq_some_iff.1 HB_V0cab.out.1).1, fun j u hu => by
            rw [Addr.add_lit, Nat.zero_add, (row_cell HB_V0cab.out.1 j).1]
            simpa using hu⟩⟩
          refine wp_append_any V0cab (.tmp 26) (.tmp 36) 27 rfl V0.heap.size 65 i0 (.agg #[.int .i64 0, .int .i64 0]) 2 16 Try.underlying27 hi hz0 hz1 hz2 rfl (by decide) v26 L.length (C2 L) rfl HA_V0cab.out V0cab.heap.size (some ⟨bB, 0, none⟩) 1 1 [.int .i64 q, .int .i64 ran] rfl rdB (by intro u hu; simp at hu; rcases hu with rfl | rfl <;> rfl) (by have := HN.out; unfold maxLen; omega) (by have := HN.out; omega) B_V0cab.out.size ?_
          intro v37 Vz ho hg hbk
          obtain ⟨A2, c2, hv37⟩ := slice_form ho
          subst hv37
          obtain ⟨ln, hln⟩ : ∃ x, L.length + 1 = x := ⟨_, rfl⟩
          have hA2 : Vz.ownsRow V0.heap.size 65 2 (.slice A2 (L.length + 1) c2) (L ++ [(q, ran)]).length (C2 (L ++ [(q, ran)])) := by rw [C2_app, List.length_append]; exact ho
          have hbw : Below V0.heap.size V0 Vz := B_V0cab.out.grown hg B_V0cab.out.size (fun z hz => own_ge HA_V0cab.out hz)
          have B_Vz := Lib.hid hbw
          have LV2 : Hid (LV Vz (fun b => V0.heap.size ≤ b) (.slice A2 ln c2) (L ++ [(q, ran)])) := by rw [← hln]; exact LV.of_own hA2
          try simp only [hln]
          clear ho hg hbk hA2 hbw rdB hln
          refine hK.out _ _ ⟨cell_later B_Vz.out g1.out, cell_later B_Vz.out g2.out⟩ (fun hHeld => ?_)
          clear hK K0 hHeld
          try simp only [Act.put, List.setIfInBounds_toArray, List.set_cons_zero, List.set_cons_succ]
          refine takeD (i := 15) (d := some 38) (v := ?_) _ rfl rfl (by kernel_rfl) (by kernel_rfl) (by kernel_rfl) (fun _ _ _ h => h) (by rfl) ?_ (⟨cell_later B_Vz.out g1.out, cell_later B_Vz.out g2.out⟩) ?_
          rotate_left
          · (intro w hSw; (try dsimp only at hSw); go_simp) <;> with_reducible rfl
          try simp only [Act.put, List.setIfInBounds_toArray, List.set_cons_zero, List.set_cons_succ]
          have x3 := cell_later B_Vz.out g3.out
          have xf3 : Vz.frozen? ⟨X, 3, none⟩ = false := (row_cell (HX_.out Vz B_Vz.out) 3).2
          refine wpAnyH_ready (rs := [16]) (by kernel_rfl) (by simp) ?_
          refine AllReadyH.cons rfl (fun K0 hK => ?_) AllReadyH.nil
          try go_simp
          obtain ⟨Vs, hVs⟩ : ∃ W, Vz.setCell ⟨X, 3, none⟩ (.slice A2 ln c2) = W := ⟨_, rfl⟩
          try rw [hVs]
          have fs : Fo (fun b => b = X) Vz Vs := by rw [← hVs]; exact (Fo.refl (fun b => b = X) Vz).setCell (.inl rfl) 3 _
          have HXs : Hid (Vs.heap[X]? = some (.cells #[.int .i64 Z, .int .i64 P, .int .i64 F, .slice A2 ln c2] 29 (0, 0))) := by unfold Hid; rw [← hVs]; exact set_at (HX_.out Vz B_Vz.out) 3 _
          have HYs : Hid (Vs.heap[X + 1]? = some (.cells #[.int .i64 0, .int .i64 0, .int .i64 0, .slice none 0 0] 29 (0, 0))) := (fs.block (X + 1) (Array.getElem?_eq_some_iff.1 (HY_.out Vz B_Vz.out)).1 (by omega)).trans (HY_.out Vz B_Vz.out)
          have Bs : Hid (Below X w Vs) := (B_V0'.out.trans (B_Vz.out.mono SZ0.out)).trans (fs.below (fun b hb => by omega) (by have := (Array.getElem?_eq_some_iff.1 (HX_.out Vz B_Vz.out)).1; omega))
          have LVs : Hid (LV Vs (fun b => X + 2 ≤ b) (.slice A2 ln c2) (L ++ [(q, ran)])) := (LV2.out.imp (fun b _ hb => Nat.le_trans SZ1.out hb)).fo fs (fun b hb e => by omega)
          refine hK.out _ _ (⟨(row_cell HXs.out 1).1.trans rfl, (row_cell HXs.out 2).1.trans rfl⟩) (fun hHeld => ?_)
          clear hK K0 hHeld hVs fs x3 xf3
          try simp only [Act.put, List.setIfInBounds_toArray, List.set_cons_zero, List.set_cons_succ]
          refine wpAnyH_done (by kernel_rfl) ?_ _
          have x0 : Vs.cell? ⟨X, 0, none⟩ = some (.int .i64 Z) := by rw [(row_cell HXs.out 0).1]; rfl
          have x1 : Vs.cell? ⟨X, 1, none⟩ = some (.int .i64 P) := by rw [(row_cell HXs.out 1).1]; rfl
          have x2 : Vs.cell? ⟨X, 2, none⟩ = some (.int .i64 F) := by rw [(row_cell HXs.out 2).1]; rfl
          have x3 : Vs.cell? ⟨X, 3, none⟩ = some (.slice A2 ln c2) := by rw [(row_cell HXs.out 3).1]; rfl
          have y0 : Vs.cell? ⟨X + 1, 0, none⟩ = some (.int .i64 0) := by rw [(row_cell HYs.out 0).1]; rfl
          have yz0 : Vs.frozen? ⟨X + 1, 0, none⟩ = false := (row_cell HYs.out 0).2
          have y1 : Vs.cell? ⟨X + 1, 1, none⟩ = some (.int .i64 0) := by rw [(row_cell HYs.out 1).1]; rfl
          have yz1 : Vs.frozen? ⟨X + 1, 1, none⟩ = false := (row_cell HYs.out 1).2
          have y2 : Vs.cell? ⟨X + 1, 2, none⟩ = some (.int .i64 0) := by rw [(row_cell HYs.out 2).1]; rfl
          have yz2 : Vs.frozen? ⟨X + 1, 2, none⟩ = false := (row_cell HYs.out 2).2
          have y3 : Vs.cell? ⟨X + 1, 3, none⟩ = some (.slice none 0 0) := by rw [(row_cell HYs.out 3).1]; rfl
          have yz3 : Vs.frozen? ⟨X + 1, 3, none⟩ = false := (row_cell HYs.out 3).2
          go_wp2_with fail
          refine bodyPost_ret (results_cell_two rfl _ _ (X + 1) _ _ rfl (set_four HYs.out _ _ _ _) Try.underlying29 rfl (by kernel_rfl)) rfl ?_
          have hfo := (((((Fo.refl (fun b => b = X + 1) Vs).setCell (.inl rfl) 0 (.int .i64 Z)).setCell (.inl rfl) 1 (.int .i64 P)).setCell (.inl rfl) 2 (.int .i64 F)).setCell (.inl rfl) 3 (.slice A2 ln c2))
          refine ⟨.slice A2 ln c2, L ++ [(q, ran)], by rw [← HOV.out]; rfl, HREL.out, ((LVs.out.fo hfo (fun b hb e => by omega)).imp (fun b _ hb => .inr (by omega))), by simp, Bs.out.trans (hfo.below (fun b hb => by omega) (by have := (Array.getElem?_eq_some_iff.1 HYs.out).1; omega))⟩
end Go.Proofs.Ytehbcoopggpmjaa.Bg
