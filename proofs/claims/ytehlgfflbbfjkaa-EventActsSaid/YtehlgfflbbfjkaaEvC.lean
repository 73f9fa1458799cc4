/-
  The reference's Wait, and the example. Each statement bears its own conditions.
-/
import Derived.Test.YtehlgfflbbfjkaaEvB
namespace Go.Proofs.Ytehlgfflbbfjkaa.E
open Go.RowKit Go.Proofs.Ytehlgfflbbfjkaa.I
set_option linter.unusedVariables false
set_option linter.unusedSimpArgs false
theorem results_cell_tmp {P : Program} {fn : Func} {p q : Tmp} {ty : TypeId} (h : fn.results = #[.cell p ty, .tmp q]) (tmps : Array Value) (w : World) (g : Nat) (cs : List Value) (d : TypeDesc)
    (hp : tmps.getD p undef = .pointer (some ⟨g, 0, none⟩)) (hc : w.rangeAt g 0 cs)
    (hu : P.underlying ty = some d) (hd : d.isRow = true) (hi : (P.info? ty).map (·.size) = some cs.length) :
    (results fn tmps).run P w = .ok (.tuple #[.agg cs.toArray, tmps.getD q undef]) w := by
  have hp' : tmps[p]?.getD undef = .pointer (some ⟨g, 0, none⟩) := by simpa using hp
  simp [results, h, hp', asAddr, run_loadVar_mid w g 0 ty cs d hc hu hd hi]
theorem set_two {w : World} {g : Nat} {c0 c1 : Value} {t : TypeId} (h : w.heap[g]? = some (.cells #[c0, c1] t (0, 0))) (a b : Value) : ((w.setCell ⟨g, 0, none⟩ a).setCell ⟨g, 1, none⟩ b).rangeAt g 0 [a, b] := by
  have h1 := set_at (set_at h 0 a) 1 b
  intro j v hv
  rw [Nat.zero_add, (row_cell h1 j).1]
  simpa using hv
theorem set_far {w : World} {g k : Nat} (o : Nat) (v : Value) (h : k ≠ g) : (w.setCell ⟨g, o, none⟩ v).heap[k]? = w.heap[k]? := Below.heap_setCell _ _ _ _ h
theorem rowB_new (w : World) : (w.alloc (.cells #[] 3)).ownsRow w.heap.size 3 1 (.slice (some ⟨w.heap.size, 0, none⟩) 0 0) 0 (C []) :=
  ⟨rfl, .inr ⟨w.heap.size, 0, #[], rfl, Nat.le_refl _, heap_alloc_new w _, Nat.le_refl _, by unfold maxLen; omega, rfl, rfl⟩⟩
/-- A list that was made. -/
theorem Rl.of_own {B : Nat} {w : World} {v : Value} {L : List Int} (h : w.ownsRow B 3 1 v L.length (C L)) : Rl w v (fun b => B ≤ b) L := by
  rcases h.2 with ⟨hv, h0⟩ | ⟨g, cap, cur, hv, hB, hg, r⟩
  · exact ⟨0, ⟨⟨h.1, .inl ⟨hv, h0⟩⟩, fun b hb => by rw [hv] at hb; cases hb⟩, .inl hv⟩
  · exact ⟨g, ⟨⟨h.1, .inr ⟨g, cap, cur, hv, Nat.zero_le _, hg, r⟩⟩, fun b hb => by rw [hv] at hb; injection hb with hb; exact hb.symm⟩, .inr ⟨(Array.getElem?_eq_some_iff.1 hg).1, hB⟩⟩
theorem Rl.row {w : World} {v : Value} {p : Nat → Prop} {L : List Int} (h : Rl w v p L) : ∃ b, RowV w v b L := by
  obtain ⟨b, h1, _⟩ := h
  exact ⟨b, h1⟩
theorem Rl.keep_below {w w' : World} {v : Value} {p : Nat → Prop} {L : List Int} (h : Rl w v p L) (hb : Below w.heap.size w w') : Rl w' v p L := (h.below hb).imp fun b _ hp => hp.2
set_option maxRecDepth 100000 in
set_option maxHeartbeats 4000000 in
theorem rwait_any (p : Nat → Prop) (up : Bool) (v : Value) (L : List Int) (id : Int) (w : World) (h : Rl w v p L) (hL : L.length ≤ 999) :
    Calls Try.prog 23 #[.agg #[.bool up, v], .int .i64 id] w fun e w' => ∃ v', e = .returned (.tuple #[.agg #[.bool up, v'], .bool up]) ∧ Rl w' v' (fun b => (b < w.heap.size ∧ p b) ∨ w.heap.size ≤ b) (waitI up L id) ∧ Below w.heap.size w w' := by
  obtain ⟨rx, b, hbp⟩ := h
  obtain ⟨A, n, hv⟩ := slice_form b.own
  subst hv
  obtain ⟨i0, hi, hz0, hz1, hz2⟩ := info_of int_info
  obtain ⟨m, hm⟩ : ∃ m, L.length = m := ⟨_, rfl⟩
  have HM := Lib.hid hm
  have HL := Lib.hid hL
  have HR0 : Hid (Rl w (.slice A m n) p L) := by rw [← hm]; exact ⟨rx, b, hbp⟩
  obtain ⟨W0, hW0⟩ : ∃ W0, (w.alloc (.cells #[.bool up, .slice A m n] 28)).alloc (.cells #[.bool false, .slice none 0 0] 28) = W0 := ⟨_, rfl⟩
  have B0 : Hid (Below w.heap.size w W0) := by rw [← hW0]; exact (((Below.refl _ _).alloc (Nat.le_refl _) _).alloc (by simp) _)
  have S0 : Hid (W0.heap.size = w.heap.size + 2) := by unfold Hid; rw [← hW0]; simp
  have HX0 : Hid (W0.heap[w.heap.size]? = some (.cells #[.bool up, .slice A m n] 28 (0, 0))) := by
    rw [← hW0]; exact (((Below.refl _ _).alloc (Nat.le_refl _) _).block _ (by simp)).trans (heap_alloc_new _ _)
  have HY0 : Hid (W0.heap[w.heap.size + 1]? = some (.cells #[.bool false, .slice none 0 0] 28 (0, 0))) := by
    rw [← hW0]; have := heap_alloc_new (w.alloc (.cells #[.bool up, .slice A m n] 28)) (.cells #[.bool false, .slice none 0 0] 28); unfold Hid; simpa using this
  have HR1 : Hid (RowV W0 (.slice A m n) rx L) := by
    rw [← hm]
    rcases hbp with hq | hq
    · exact b.keep (.inl hq)
    · exact b.keep (.inr (B0.out.block rx hq.1))
  have CH := Lib.hid (has_any (.slice A m n) rx L id W0 HR1.out (by omega))
  have x0 : W0.cell? ⟨w.heap.size, 0, none⟩ = some (.bool up) := by rw [(row_cell HX0.out 0).1]; rfl
  have x1 : W0.cell? ⟨w.heap.size, 1, none⟩ = some (.slice A m n) := by rw [(row_cell HX0.out 1).1]; rfl
  have xf : W0.frozen? ⟨w.heap.size, 1, none⟩ = false := (row_cell HX0.out 1).2
  have y0 : W0.cell? ⟨w.heap.size + 1, 0, none⟩ = some (.bool false) := by rw [(row_cell HY0.out 0).1]; rfl
  have y1 : W0.cell? ⟨w.heap.size + 1, 1, none⟩ = some (.slice none 0 0) := by rw [(row_cell HY0.out 1).1]; rfl
  have z0 : W0.frozen? ⟨w.heap.size + 1, 0, none⟩ = false := (row_cell HY0.out 0).2
  have z1 : W0.frozen? ⟨w.heap.size + 1, 1, none⟩ = false := (row_cell HY0.out 1).2
  have hfar : (w.heap.size == w.heap.size + 1) = false := by simp
  rw [hm]
  clear b hbp hm hL
  cases up with
  | true =>
    go_enter Try.func23, Try.ntmps23
    go_wp2_with fail
    refine bodyPost_ret (results_cell_tmp rfl _ _ (w.heap.size + 1) _ _ rfl (set_two HY0.out _ _) Try.underlying28 rfl (by kernel_rfl)) rfl ?_
    have hb : Below w.heap.size w ((W0.setCell ⟨w.heap.size + 1, 0, none⟩ (.bool true)).setCell ⟨w.heap.size + 1, 1, none⟩ (.slice A m n)) := (B0.out.setCell (by exact Nat.le_succ _) _).setCell (by exact Nat.le_succ _) _
    exact ⟨_, rfl, (HR0.out.below hb).imp fun b _ hp => .inl hp, hb⟩
  | false =>
    by_cases hx : id ∈ L
    · have HI : Hid (waitI false L id = L) := by unfold Hid waitI; rw [if_neg (by simp), if_pos hx]
      rw [decide_eq_true hx] at CH
      clear hx
      go_enter Try.func23, Try.ntmps23
      go_wp2_with fail
      refine CH.out.mono ?_
      rintro e w1 ⟨rfl, hw⟩
      have hw := hw.symm
      subst hw
      go_wp2_with fail
      refine bodyPost_ret (results_cell_tmp rfl _ _ (w.heap.size + 1) _ _ rfl (set_two HY0.out _ _) Try.underlying28 rfl (by kernel_rfl)) rfl ?_
      have hb : Below w.heap.size w ((W0.setCell ⟨w.heap.size + 1, 0, none⟩ (.bool false)).setCell ⟨w.heap.size + 1, 1, none⟩ (.slice A m n)) := (B0.out.setCell (by exact Nat.le_succ _) _).setCell (by exact Nat.le_succ _) _
      exact ⟨_, rfl, by rw [HI.out]; exact (HR0.out.below hb).imp fun b _ hp => .inl hp, hb⟩
    · have HI : Hid (waitI false L id = L ++ [id]) := by unfold Hid waitI; rw [if_neg (by simp), if_neg hx]
      rw [decide_eq_false hx] at CH
      clear hx
      have x1a : (W0.alloc (.cells #[] 3)).cell? ⟨w.heap.size, 1, none⟩ = some (.slice A m n) := cell_al _ x1
      have RD : Hid (Reads (W0.alloc (.cells #[] 3)) W0.heap.size 1 A m (C L)) := by
        have := (RowV.reads (A := A) (n := m) (c := n) HR1.out)
        rw [HM.out] at this
        exact this.alloc (Nat.le_refl _) _
      go_enter Try.func23, Try.ntmps23
      go_wp2_with fail
      refine CH.out.mono ?_
      rintro e w1 ⟨rfl, hw⟩
      have hw := hw.symm
      subst hw
      go_wp2_with (at_builtin; refine wpList_append_any _ rfl (.tmp 14) (.tmp 16) 26 rfl W0.heap.size 3 i0 (.int .i64 0) 1 8 Try.underlying26 hi hz0 hz1 hz2 rfl (by decide) (.slice (some ⟨W0.heap.size, 0, none⟩) 0 0) 0 (C []) rfl (rowB_new W0) W0.heap.size A m n (C L) rfl RD.out (C_one _) ?c2 ?c3 ?c4 ?_)
      case c2 => have := HL.out; have := HM.out; unfold maxLen; omega
      case c3 => have := HL.out; have := HM.out; omega
      case c4 => simp
      intro v1 w1 ho1 hg1 hb1
      have hs1 : W0.heap.size + 1 ≤ w1.heap.size := by have := hg1.size; simpa using this
      have B1 : Hid (Below W0.heap.size W0 w1) := ((Below.refl _ _).alloc (Nat.le_refl _) _).grown hg1 (by simp) (fun q hq => by have h' : some W0.heap.size = some q := hq; injection h' with h'; omega)
      have HO1 : Hid ((w1.alloc (.cells #[.int .i64 id] 3)).ownsRow W0.heap.size 3 1 v1 m (C L)) := by
        have h1 := own_below ho1 ((Below.refl _ _).alloc (Nat.le_refl _) (.cells #[.int .i64 id] 3))
        unfold Hid
        simpa [C] using h1
      have RD1 := Lib.hid (one_row (w := w1) (.int .i64 id) 3)
      have HS1 := Lib.hid hs1
      have OB1 : Hid (∀ q, v1.ownBlock = some q → W0.heap.size ≤ q) := fun q hq => by
        rcases hb1 with hb | hb
        · rw [hb] at hq; have h' : some W0.heap.size = some q := hq; injection h' with h'; omega
        · rw [hb] at hq; injection hq with hq; rw [← hq]; simp
      clear ho1 hg1 hb1 hs1
      go_wp2_with (at_builtin; refine wpList_append_any _ rfl (.tmp 17) (.tmp 19) 26 rfl W0.heap.size 3 i0 (.int .i64 0) 1 8 Try.underlying26 hi hz0 hz1 hz2 rfl (by decide) v1 m (C L) rfl HO1.out (w1.heap.size + 1) (some ⟨w1.heap.size, 0, none⟩) 1 1 [.int .i64 id] rfl RD1.out ?d1 ?d2 ?d3 ?d4 ?_)
      case d1 => intro u hu; simp at hu; subst hu; rfl
      case d2 => have := HL.out; have := HM.out; unfold maxLen; omega
      case d3 => have := HL.out; have := HM.out; omega
      case d4 => have := HS1.out; simp; omega
      intro v2 w2 ho2 hg2 hb2
      have B2 : Hid (Below W0.heap.size W0 w2) := (B1.out.alloc (by have := HS1.out; omega) _).grown hg2 (by have := HS1.out; simp; omega) (fun q hq => OB1.out q hq)
      have X2 : Hid (w2.heap[w.heap.size]? = some (.cells #[.bool false, .slice A m n] 28 (0, 0))) := (B2.out.block _ (by have := S0.out; omega)).trans HX0.out
      have Y2 : Hid (w2.heap[w.heap.size + 1]? = some (.cells #[.bool false, .slice none 0 0] 28 (0, 0))) := (B2.out.block _ (by have := S0.out; omega)).trans HY0.out
      obtain ⟨W3, hW3⟩ : ∃ W3, w2.setCell ⟨w.heap.size, 1, none⟩ v2 = W3 := ⟨_, rfl⟩
      have X3 : Hid (W3.heap[w.heap.size]? = some (.cells #[.bool false, v2] 28 (0, 0))) := by rw [← hW3]; exact set_at X2.out 1 v2
      have Y3 : Hid (W3.heap[w.heap.size + 1]? = some (.cells #[.bool false, .slice none 0 0] 28 (0, 0))) := by rw [← hW3]; exact (set_far 1 v2 (by omega)).trans Y2.out
      have R3 : Hid (Rl W3 v2 (fun b => W0.heap.size ≤ b) (L ++ [id])) := by
        have h1 : w2.ownsRow W0.heap.size 3 1 v2 (L ++ [id]).length (C (L ++ [id])) := by
          rw [C_app, List.length_append, HM.out]; exact ho2
        rw [← hW3]
        exact ((Rl.of_own h1).keep (by simp) (fun b _ hb => set_far 1 v2 (by have := S0.out; omega))).imp fun b _ h => h.2
      have B3 : Hid (Below w.heap.size w W3) := by
        rw [← hW3]
        exact (B0.out.trans (B2.out.mono B0.out.size)).setCell (Nat.le_refl _) _
      have q0 : w2.cell? ⟨w.heap.size, 1, none⟩ = some (.slice A m n) := by rw [(row_cell X2.out 1).1]; rfl
      have q1 : w2.frozen? ⟨w.heap.size, 1, none⟩ = false := (row_cell X2.out 1).2
      have r0 : W3.cell? ⟨w.heap.size, 0, none⟩ = some (.bool false) := by rw [(row_cell X3.out 0).1]; rfl
      have r1 : W3.cell? ⟨w.heap.size, 1, none⟩ = some v2 := by rw [(row_cell X3.out 1).1]; rfl
      have t0 : W3.cell? ⟨w.heap.size + 1, 0, none⟩ = some (.bool false) := by rw [(row_cell Y3.out 0).1]; rfl
      have t1 : W3.cell? ⟨w.heap.size + 1, 1, none⟩ = some (.slice none 0 0) := by rw [(row_cell Y3.out 1).1]; rfl
      have t2 : W3.frozen? ⟨w.heap.size + 1, 0, none⟩ = false := (row_cell Y3.out 0).2
      have t3 : W3.frozen? ⟨w.heap.size + 1, 1, none⟩ = false := (row_cell Y3.out 1).2
      obtain ⟨A2, c2, rfl⟩ := slice_form ho2
      clear ho2 hg2 hb2 x0 x1 x1a xf y0 y1 z0 z1 HO1 RD1 B1 HS1 OB1
      go_wp2_with fail
      refine bodyPost_ret (results_cell_tmp rfl _ _ (w.heap.size + 1) _ _ rfl (set_two Y3.out _ _) Try.underlying28 rfl (by kernel_rfl)) rfl ?_
      have hb : Below w.heap.size w ((W3.setCell ⟨w.heap.size + 1, 0, none⟩ (.bool false)).setCell ⟨w.heap.size + 1, 1, none⟩ (.slice A2 (m + 1) c2)) := (B3.out.setCell (by exact Nat.le_succ _) _).setCell (by exact Nat.le_succ _) _
      refine ⟨_, rfl, ?_, hb⟩
      rw [HI.out]
      refine ((R3.out.keep (w' := (W3.setCell ⟨w.heap.size + 1, 0, none⟩ (.bool false)).setCell ⟨w.heap.size + 1, 1, none⟩ (.slice A2 (m + 1) c2)) (by simp) (fun b _ hb => ?_)).imp fun b _ h => .inr ?_)
      · rw [set_far _ _ (by have := S0.out; omega), set_far _ _ (by have := S0.out; omega)]
      · have h1 := h.2; have h2 := S0.out; omega
set_option maxRecDepth 100000 in
set_option maxHeartbeats 4000000 in
theorem told_any (w : World) : Calls Try.prog 10 #[] w fun e w' => e = .returned (.bool true) ∧ Below w.heap.size w w' := by
  have he : ∀ (x : Nat) (w : World), (binOp .eql 23 (.pointer (some ⟨x, 0, none⟩)) (.pointer none)).run Try.prog w = .ok (.bool false) w := fun _ _ => rfl
  obtain ⟨lo, hlo⟩ : ∃ lo, w.heap.size = lo := ⟨_, rfl⟩
  have NW := Lib.hid (new_any w)
  have HLO : Hid (lo ≤ w.heap.size) := by unfold Hid; omega
  rw [hlo] at NW ⊢
  clear hlo
  go_enter Try.func10, Try.ntmps10
  go_wp2_with fail
  refine NW.out.mono ?_
  rintro e w1 ⟨rfl, q1, b1⟩
  have Q1 := Lib.hid q1
  have B1 := Lib.hid b1
  clear q1 b1 NW
  go_wp2_with fail
  refine (wait_any lo _ _ _ _ 3 _ Q1.out (by simp)).mono ?_
  rintro e w2 ⟨rfl, rb2, q2, n2⟩
  have Q2 : Hid (EV lo w2 lo rb2 false [3]) := by unfold Hid; simpa [waitI] using q2
  have B2 : Hid (Below lo w w2) := B1.out.trans (n2.below Q1.out)
  clear q2 n2 Q1 B1
  go_wp2_with fail
  refine (wait_any lo _ _ _ _ 1 _ Q2.out (by simp)).mono ?_
  rintro e w3 ⟨rfl, rb3, q3, n3⟩
  have Q3 : Hid (EV lo w3 lo rb3 false [3, 1]) := by unfold Hid; simpa [waitI] using q3
  have B3 : Hid (Below lo w w3) := B2.out.trans (n3.below Q2.out)
  clear q3 n3 Q2 B2
  go_wp2_with fail
  refine (wait_any lo _ _ _ _ 3 _ Q3.out (by simp)).mono ?_
  rintro e w4 ⟨rfl, rb4, q4, n4⟩
  have Q4 : Hid (EV lo w4 lo rb4 false [3, 1]) := by unfold Hid; simpa [waitI] using q4
  have B4 : Hid (Below lo w w4) := B3.out.trans (n4.below Q3.out)
  clear q4 n4 Q3 B3
  go_wp2_with fail
  refine (set_any lo _ _ _ _ _ Q4.out).mono ?_
  rintro e w5 ⟨A, n, c, rx, rfl, r5, _, q5, n5⟩
  have R5 : Hid (RowV w5 (.slice A n c) rx [3, 1]) := r5
  have R5' : Hid (rx < w5.heap.size ∨ Value.slice A n c = .slice none 0 0) := by
    rcases r5.lt with h | h
    · exact .inr h
    · exact .inl h
  have Q5 := Lib.hid q5
  have B5 : Hid (Below lo w w5) := B4.out.trans (n5.below Q4.out)
  clear r5 q5 n5 Q4 B4
  go_wp2_with fail
  obtain ⟨w6, hw6⟩ : ∃ w6, w5.alloc (.cells #[.int .i64 3, .int .i64 1] 3) = w6 := ⟨_, rfl⟩
  have b6 : Below w5.heap.size w5 w6 := by rw [← hw6]; exact (Below.refl _ _).alloc (Nat.le_refl _) _
  have r6 : RowV w6 (.slice (some ⟨w5.heap.size, 0, none⟩) 2 2) w5.heap.size [3, 1] := RowV.mk' (w := w6) (rb := w5.heap.size) (cap := 2) (cur := #[.int .i64 3, .int .i64 1]) (L := [3, 1]) (by rw [← hw6]; exact heap_alloc_new _ _) (by simp) (by unfold maxLen; omega) rfl rfl
  have r5 : RowV w6 (.slice A n c) rx [3, 1] := R5.out.keep (by
    rcases R5'.out with h | h
    · exact .inr (b6.block rx h)
    · exact .inl h)
  have CS := Lib.hid (rsame_any _ _ _ _ _ _ w6 r5 r6 (by simp) (by simp))
  have Q6 := Lib.hid (Q5.out.below b6)
  have B6 : Hid (Below lo w w6) := B5.out.trans (b6.mono (by have := Q5.out.lt; have := Q5.out.low; omega))
  clear b6 r6 r5 Q5 B5 R5 R5'
  rw [hw6]
  refine CS.out.mono ?_
  rintro e w7 ⟨rfl, b7⟩
  have Q7 := Lib.hid (Q6.out.below b7)
  have B7 : Hid (Below lo w w7) := B6.out.trans (b7.mono (by have := Q6.out.lt; have := Q6.out.low; omega))
  clear b7 Q6 B6 CS hw6
  go_wp2_with fail
  refine (wait_any lo _ _ _ _ 5 _ Q7.out (by simp)).mono ?_
  rintro e w8 ⟨rfl, rb8, q8, n8⟩
  have Q8 : Hid (EV lo w8 lo rb8 true []) := by unfold Hid; simpa [waitI] using q8
  have B8 : Hid (Below lo w w8) := B7.out.trans (n8.below Q7.out)
  clear q8 n8 Q7 B7
  go_wp2_with fail
  refine (up_any lo _ _ _ _ _ Q8.out).mono ?_
  rintro e w9 ⟨rfl, hw⟩
  have hw := hw.symm
  subst hw
  go_wp2_with fail
  refine (waiting_any lo _ _ _ _ _ Q8.out (by simp)).mono ?_
  rintro e w10 ⟨A2, n2, c2, rb10, rfl, r10, _, b10⟩
  have B10 : Hid (Below lo w w10) := B8.out.trans (b10.mono (by have := Q8.out.lt; have := Q8.out.low; omega))
  obtain ⟨A3, c3, hv⟩ := slice_form r10.own
  injection hv with h1 h2 h3
  simp at h2
  subst h2
  clear r10 b10 h1 h3 Q8 B8
  go_wp2_with fail
  go_ret
  exact ⟨rfl, B10.out⟩
end Go.Proofs.Ytehlgfflbbfjkaa.E
