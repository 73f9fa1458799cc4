/-
  What a sender does: Step. Each statement bears its own conditions.
-/
import Derived.Test.YtkbjonblflhkoaaLnA
namespace Go.Proofs.Ytkbjonblflhkoaa.Ln
open Go.RowKit Go.Proofs.Ytkbjonblflhkoaa.F Go.Proofs.Ytkbjonblflhkoaa.U Go.Proofs.Ytkbjonblflhkoaa.Q
set_option linter.unusedVariables false
set_option linter.unusedSimpArgs false
theorem set_two {w : World} {g : Nat} {c0 c1 : Value} {t : TypeId} (h : w.heap[g]? = some (.cells #[c0, c1] t (0, 0))) (a b : Value) : ((w.setCell ⟨g, 0, none⟩ a).setCell ⟨g, 1, none⟩ b).rangeAt g 0 [a, b] := by
  have h1 := set_at (set_at h 0 a) 1 b
  intro j v hv
  rw [Nat.zero_add, (row_cell h1 j).1]
  simpa using hv
theorem step_nil (now : Int) (w : World) : Calls Try.prog 15 #[.pointer none, .int .i64 now] w fun e w' => e = .returned (.tuple #[.agg #[.int .i64 0, .slice none 0 0], .bool false]) ∧ Below w.heap.size w w' := by
  obtain ⟨X, hX⟩ : ∃ X, w.heap.size = X := ⟨_, rfl⟩
  obtain ⟨W0, hW0⟩ : ∃ W0, w.alloc (.cells #[.int .i64 0, .slice none 0 0] 44) = W0 := ⟨_, rfl⟩
  have B0 : Hid (Below X w W0) := by rw [← hW0, ← hX]; exact ((Below.refl _ _).alloc (Nat.le_refl _) _)
  have HY0 : Hid (W0.heap[X]? = some (.cells #[.int .i64 0, .slice none 0 0] 44 (0, 0))) := by rw [← hW0, ← hX]; exact heap_alloc_new _ _
  have y0 : W0.cell? ⟨X, 0, none⟩ = some (.int .i64 0) := by rw [(row_cell HY0.out 0).1]; rfl
  have y1 : W0.cell? ⟨X, 1, none⟩ = some (.slice none 0 0) := by rw [(row_cell HY0.out 1).1]; rfl
  have z0 : W0.frozen? ⟨X, 0, none⟩ = false := (row_cell HY0.out 0).2
  have z1 : W0.frozen? ⟨X, 1, none⟩ = false := (row_cell HY0.out 1).2
  go_enter Try.func15, Try.ntmps15
  go_wp2_with fail
  refine bodyPost_ret (results_cell_tmp rfl _ _ X _ _ rfl (set_two HY0.out _ _) Try.underlying44 rfl (by kernel_rfl)) rfl ?_
  exact ⟨rfl, by rw [hX]; exact (B0.out.setCell (Nat.le_refl _) _).setCell (Nat.le_refl _) _⟩
set_option maxRecDepth 100000 in
set_option maxHeartbeats 8000000 in
theorem step_no (lo : Nat) (p r : Nat → Prop) (g : Nat) (s : SS) (LL : List (List Int)) (now : Int) (w : World) (h : SV lo w p r g s LL) (hn : LL = [] ∨ mayV s.gap s.sent s.last now = false) : Calls Try.prog 15 #[.pointer (some ⟨g, 0, none⟩), .int .i64 now] w fun e w' => e = .returned (.tuple #[.agg #[.int .i64 0, .slice none 0 0], .bool false]) ∧ Below w.heap.size w w' := by
  obtain ⟨X, hX⟩ : ∃ X, w.heap.size = X := ⟨_, rfl⟩
  obtain ⟨W0, hW0⟩ : ∃ W0, w.alloc (.cells #[.int .i64 0, .slice none 0 0] 44) = W0 := ⟨_, rfl⟩
  have B0 : Hid (Below X w W0) := by rw [← hW0, ← hX]; exact ((Below.refl _ _).alloc (Nat.le_refl _) _)
  have HY0 : Hid (W0.heap[X]? = some (.cells #[.int .i64 0, .slice none 0 0] 44 (0, 0))) := by rw [← hW0, ← hX]; exact heap_alloc_new _ _
  have y0 : W0.cell? ⟨X, 0, none⟩ = some (.int .i64 0) := by rw [(row_cell HY0.out 0).1]; rfl
  have y1 : W0.cell? ⟨X, 1, none⟩ = some (.slice none 0 0) := by rw [(row_cell HY0.out 1).1]; rfl
  have z0 : W0.frozen? ⟨X, 0, none⟩ = false := (row_cell HY0.out 0).2
  have z1 : W0.frozen? ⟨X, 1, none⟩ = false := (row_cell HY0.out 1).2
  obtain ⟨Am, cm, S, a, b, c⟩ := (h.below (by rw [hX]; exact B0.out)).seven
  obtain ⟨nm, hnm⟩ : ∃ k, LL.length = k := ⟨_, rfl⟩
  rw [hnm] at a
  have d0 : W0.cell? ⟨g, 0, none⟩ = some (.int .i64 s.gap) := by rw [(row_cell a 0).1]; rfl
  have d1 : W0.cell? ⟨g, 1, none⟩ = some (.int .i64 s.words) := by rw [(row_cell a 1).1]; rfl
  have d2 : W0.cell? ⟨g, 2, none⟩ = some (.int .i64 s.room) := by rw [(row_cell a 2).1]; rfl
  have d3 : W0.cell? ⟨g, 3, none⟩ = some (.int .i64 s.next) := by rw [(row_cell a 3).1]; rfl
  have d4 : W0.cell? ⟨g, 4, none⟩ = some (.bool s.sent) := by rw [(row_cell a 4).1]; rfl
  have d5 : W0.cell? ⟨g, 5, none⟩ = some (.int .i64 s.last) := by rw [(row_cell a 5).1]; rfl
  have d6 : W0.cell? ⟨g, 6, none⟩ = some (.slice Am nm cm) := by rw [(row_cell a 6).1]; rfl
  have CM := Lib.hid (may_any s.gap s.words s.room s.next s.sent s.last now W0 h.ok.g h.ok.l)
  have hgX : g < X := by have := h.lt; omega
  by_cases h0 : LL = []
  · have hb0 : ((nm : Int) == 0) = true := by subst h0; simp at hnm; subst hnm; rfl
    have hm0 : nm = 0 := by subst h0; simp at hnm; exact hnm.symm
    subst hm0
    clear a b c h hn hnm CM h0
    go_enter Try.func15, Try.ntmps15
    go_wp2_with fail
    refine bodyPost_ret (results_cell_tmp rfl _ _ X _ _ rfl (set_two HY0.out _ _) Try.underlying44 rfl (by kernel_rfl)) rfl ?_
    exact ⟨rfl, by rw [hX]; exact (B0.out.setCell (Nat.le_refl _) _).setCell (Nat.le_refl _) _⟩
  · have hb0 : ((nm : Int) == 0) = false := by rw [beq_eq_false_iff_ne]; intro e; exact h0 (List.eq_nil_of_length_eq_zero (by omega))
    have hm0 : ¬ (nm : Int) = 0 := by simpa using hb0
    have hmm : mayV s.gap s.sent s.last now = false := by rcases hn with hn | hn; exact absurd hn h0; exact hn
    rw [hmm] at CM
    clear a b c h hn hnm h0 hmm
    go_enter Try.func15, Try.ntmps15
    go_wp2_with fail
    refine CM.out.mono ?_
    rintro e w1 ⟨rfl, b1⟩
    have HY1 : Hid (w1.heap[X]? = some (.cells #[.int .i64 0, .slice none 0 0] 44 (0, 0))) := (b1.block X (by have := (Array.getElem?_eq_some_iff.1 HY0.out).1; exact this)).trans HY0.out
    have B1 : Hid (Below X w w1) := B0.out.trans (b1.mono (by have := B0.out.size; rw [hX] at this; exact this))
    clear y0 y1 z0 z1 b1
    have y0 : w1.cell? ⟨X, 0, none⟩ = some (.int .i64 0) := by rw [(row_cell HY1.out 0).1]; rfl
    have y1 : w1.cell? ⟨X, 1, none⟩ = some (.slice none 0 0) := by rw [(row_cell HY1.out 1).1]; rfl
    have yf0 : w1.frozen? ⟨X, 0, none⟩ = false := (row_cell HY1.out 0).2
    have yf1 : w1.frozen? ⟨X, 1, none⟩ = false := (row_cell HY1.out 1).2
    go_wp2_with fail
    refine bodyPost_ret (results_cell_tmp rfl _ _ X _ _ rfl (set_two HY1.out _ _) Try.underlying44 rfl (by kernel_rfl)) rfl ?_
    exact ⟨rfl, by rw [hX]; exact (B1.out.setCell (Nat.le_refl _) _).setCell (Nat.le_refl _) _⟩
set_option maxRecDepth 100000 in
set_option maxHeartbeats 8000000 in
theorem step_some (lo : Nat) (p r : Nat → Prop) (g : Nat) (s : SS) (LL : List (List Int)) (L0 : List Int) (LT : List (List Int)) (now : Int) (w : World) (h : SV lo w p r g s LL) (hL : LL = L0 :: LT) (hmm : mayV s.gap s.sent s.last now = true) (hnow : 0 ≤ now ∧ now ≤ 1099511627776) :
    Calls Try.prog 15 #[.pointer (some ⟨g, 0, none⟩), .int .i64 now] w fun e w' => ∃ A0 c0 q, e = .returned (.tuple #[.agg #[.int .i64 s.next, .slice A0 L0.length c0], .bool true]) ∧ Ow 47 w' r (.slice A0 L0.length c0) L0.length (CU L0) ∧ SV lo w' q r g ⟨s.gap, s.words, s.room, (s.next + 1).tmod 256, true, now⟩ LT ∧ Nx p q w w' := by
  subst hL
  obtain ⟨X, hX⟩ : ∃ X, w.heap.size = X := ⟨_, rfl⟩
  obtain ⟨W0, hW0⟩ : ∃ W0, w.alloc (.cells #[.int .i64 0, .slice none 0 0] 44) = W0 := ⟨_, rfl⟩
  have B0 : Hid (Below X w W0) := by rw [← hW0, ← hX]; exact ((Below.refl _ _).alloc (Nat.le_refl _) _)
  have HY0 : Hid (W0.heap[X]? = some (.cells #[.int .i64 0, .slice none 0 0] 44 (0, 0))) := by rw [← hW0, ← hX]; exact heap_alloc_new _ _
  have y0 : W0.cell? ⟨X, 0, none⟩ = some (.int .i64 0) := by rw [(row_cell HY0.out 0).1]; rfl
  have y1 : W0.cell? ⟨X, 1, none⟩ = some (.slice none 0 0) := by rw [(row_cell HY0.out 1).1]; rfl
  have z0 : W0.frozen? ⟨X, 0, none⟩ = false := (row_cell HY0.out 0).2
  have z1 : W0.frozen? ⟨X, 1, none⟩ = false := (row_cell HY0.out 1).2
  obtain ⟨Am, cm, S, a, b, c⟩ := (h.below (by rw [hX]; exact B0.out)).seven
  obtain ⟨nm, hnm⟩ : ∃ k, (L0 :: LT).length = k := ⟨_, rfl⟩
  rw [hnm] at a b
  have d0 : W0.cell? ⟨g, 0, none⟩ = some (.int .i64 s.gap) := by rw [(row_cell a 0).1]; rfl
  have d1 : W0.cell? ⟨g, 1, none⟩ = some (.int .i64 s.words) := by rw [(row_cell a 1).1]; rfl
  have d2 : W0.cell? ⟨g, 2, none⟩ = some (.int .i64 s.room) := by rw [(row_cell a 2).1]; rfl
  have d3 : W0.cell? ⟨g, 3, none⟩ = some (.int .i64 s.next) := by rw [(row_cell a 3).1]; rfl
  have d4 : W0.cell? ⟨g, 4, none⟩ = some (.bool s.sent) := by rw [(row_cell a 4).1]; rfl
  have d5 : W0.cell? ⟨g, 5, none⟩ = some (.int .i64 s.last) := by rw [(row_cell a 5).1]; rfl
  have d6 : W0.cell? ⟨g, 6, none⟩ = some (.slice Am nm cm) := by rw [(row_cell a 6).1]; rfl
  have CM := Lib.hid (may_any s.gap s.words s.room s.next s.sent s.last now W0 h.ok.g h.ok.l)
  rw [hmm] at CM
  have hgX : g < X := by have := h.lt; omega
  have hSl : S.length = LT.length + 1 := c.len
  obtain ⟨s0, S1, rfl⟩ : ∃ s0 S1, S = s0 :: S1 := by
    match S, hSl with
    | s0 :: S1, _ => exact ⟨s0, S1, rfl⟩
  have hn0 : s0.2.1 = L0.length := c.mr.n (i := 0) rfl rfl
  obtain ⟨A0, m0, c0⟩ := s0
  simp only at hn0
  subst hn0
  have hown : ∃ b0, (Value.slice Am nm cm).ownBlock = some b0 ∧ W0.cell? ⟨b0, 0, none⟩ = some (.slice A0 L0.length c0) ∧ Am = some ⟨b0, 0, none⟩ ∧ p b0 ∧ b0 ≠ g ∧ b0 < W0.heap.size ∧ ∃ cur fr, W0.heap[b0]? = some (.cells cur 33 fr) := by
    rcases (b.not a ne_sq).form with ⟨_, h0, _⟩ | ⟨b2, cap, cur, hv, hp, hb, hg, h1, h2, h3, h4⟩
    · simp at hnm; omega
    · refine ⟨b2, by rw [hv]; rfl, ?_, by injection hv, hp.1, hp.2, hb, cur, (0, 0), hg⟩
      rw [(row_cell hg 0).1]
      have h5 : (CS ((A0, L0.length, c0) :: S1))[0]? = some (.slice A0 L0.length c0) := rfl
      rw [← h4, List.getElem?_take_of_lt (by simp at hnm; omega), Array.getElem?_toList] at h5
      exact h5
  obtain ⟨b0, hob, hc0, hAm, hpb, hbg, hbl, cur0, fr0, hg0⟩ := hown
  subst hAm
  have hnz : ((nm : Int) == 0) = false := by rw [beq_eq_false_iff_ne]; simp at hnm; omega
  have hnz2 : ¬ (nm : Int) = 0 := by simpa using hnz
  have hpos : (0 : Int) < (nm : Int) := by simp at hnm; omega
  have hposN : 0 < nm := by omega
  have hw1 : IntKind.i64.wrap (s.next + 1) = s.next + 1 := by have := h.ok.n; rw [IntKind.wrap_i64]; omega
  obtain ⟨nl, hnl⟩ : ∃ k, L0.length = k := ⟨_, rfl⟩
  have HNL := Lib.hid hnl
  have HA : Hid (W0.heap[g]? = some (.cells #[.int .i64 s.gap, .int .i64 s.words, .int .i64 s.room, .int .i64 s.next, .bool s.sent, .int .i64 s.last, .slice (some ⟨b0, 0, none⟩) nm cm] 87 (0, 0)) ∧ Ow 33 W0 p (.slice (some ⟨b0, 0, none⟩) nm cm) nm (CS ((A0, nl, c0) :: S1)) ∧ Ms W0 r ((A0, nl, c0) :: S1) (L0 :: LT) ∧ W0.heap[b0]? = some (.cells cur0 33 fr0)) := by rw [hnl] at b c; exact ⟨a, b, c, hg0⟩
  rw [hnl] at hc0 ⊢
  have HH := Lib.hid h
  have HX : Hid (w.heap.size = X ∧ g < X ∧ p b0 ∧ b0 ≠ g ∧ S1.length = LT.length ∧ nm = LT.length + 1 ∧ LT.length ≤ 32 ∧ X < W0.heap.size) := ⟨hX, hgX, hpb, hbg, by simpa using hSl, by simpa using hnm.symm, by have := h.few; simp at this; omega, (Array.getElem?_eq_some_iff.1 HY0.out).1⟩
  have HOK : Hid (SS.ok ⟨s.gap, s.words, s.room, (s.next + 1).tmod 256, true, now⟩) := by
    refine ⟨h.ok.g, h.ok.w, h.ok.r, ?_, hnow, fun e => by cases e⟩
    have h1 := h.ok.n
    show 0 ≤ (s.next + 1).tmod 256 ∧ (s.next + 1).tmod 256 < 256
    exact ⟨Int.tmod_nonneg _ (by omega), Int.tmod_lt_of_pos _ (by decide)⟩
  have HBD : Hid ((LT.length : Int) ≤ s.room ∧ ∀ L ∈ LT, (L.length : Int) ≤ s.words) := ⟨by have := h.bd; simp at this; omega, fun L hL => h.bd.2 L (List.mem_cons_of_mem _ hL)⟩
  clear a b c h hnm hnl hSl hob hpb hbg hg0 hmm hnow hgX
  go_enter Try.func15, Try.ntmps15
  go_wp2_with fail
  refine CM.out.mono ?_
  rintro e w1 ⟨rfl, b1⟩
  have HY1 : Hid (w1.heap[X]? = some (.cells #[.int .i64 0, .slice none 0 0] 44 (0, 0))) := (b1.block X HX.out.2.2.2.2.2.2.2).trans HY0.out
  have B1 : Hid (Below X w w1) := B0.out.trans (b1.mono (by have := HX.out; omega))
  have HA1 : Hid (w1.heap[g]? = some (.cells #[.int .i64 s.gap, .int .i64 s.words, .int .i64 s.room, .int .i64 s.next, .bool s.sent, .int .i64 s.last, .slice (some ⟨b0, 0, none⟩) nm cm] 87 (0, 0)) ∧ Ow 33 w1 p (.slice (some ⟨b0, 0, none⟩) nm cm) nm (CS ((A0, nl, c0) :: S1)) ∧ Ms w1 r ((A0, nl, c0) :: S1) (L0 :: LT) ∧ w1.heap[b0]? = some (.cells cur0 33 fr0)) :=
    ⟨(b1.block g (by have := HX.out; omega)).trans HA.out.1, HA.out.2.1.below b1, HA.out.2.2.1.below b1, (b1.block b0 hbl).trans HA.out.2.2.2⟩
  have hc1 : w1.cell? ⟨b0, 0, none⟩ = some (.slice A0 nl c0) := (b1.cell hbl).trans hc0
  have HL1 : Hid (X < w1.heap.size ∧ b0 < w1.heap.size ∧ g < w1.heap.size) := ⟨by have := HX.out; have := b1.size; omega, by have := b1.size; omega, by have := HX.out; have := b1.size; omega⟩
  clear y0 y1 z0 z1 b1 hc0 hbl d0 d1 d2 d3 d4 d5 d6
  have H3 : Hid (∀ W, Below w1.heap.size w1 W → W.cell? ⟨g, 3, none⟩ = some (.int .i64 s.next)) := fun W hb => by rw [(row_cell ((hb.block g HL1.out.2.2).trans HA1.out.1) 3).1]; rfl
  have H6 : Hid (∀ W, Below w1.heap.size w1 W → W.cell? ⟨g, 6, none⟩ = some (.slice (some ⟨b0, 0, none⟩) nm cm)) := fun W hb => by rw [(row_cell ((hb.block g HL1.out.2.2).trans HA1.out.1) 6).1]; rfl
  have H0 : Hid (∀ W, Below w1.heap.size w1 W → W.cell? ⟨b0, 0, none⟩ = some (.slice A0 nl c0)) := fun W hb => (hb.cell HL1.out.2.1).trans hc1
  clear hc1
  go_wp2_with fail
  refine wp_region_held_drew (S := (fun w' => Below w1.heap.size w1 w')) (by kernel_rfl) ?_ (fun hHeld => ?_)
  · exact (Below.refl _ _).drew
  refine takeD (i := 0) (d := some 27) (v := ?_) _ rfl rfl (by kernel_rfl) (by kernel_rfl) (by kernel_rfl) (fun _ _ _ h => h) (by rfl) ?_ (by assumption) ?_
  rotate_left
  · (intro w hSw; (try dsimp only at hSw); go_simp) <;> with_reducible rfl
  try simp only [Act.put, List.setIfInBounds_toArray, List.set_cons_zero, List.set_cons_succ]
  refine takeD (i := 1) (d := some 28) (v := ?_) _ rfl rfl (by kernel_rfl) (by kernel_rfl) (by kernel_rfl) (fun _ _ _ h => h) (by rfl) ?_ (by assumption) ?_
  rotate_left
  · (intro w hSw; (try dsimp only at hSw); go_simp) <;> with_reducible rfl
  try simp only [Act.put, List.setIfInBounds_toArray, List.set_cons_zero, List.set_cons_succ]
  refine takeD (i := 2) (d := some 29) (v := ?_) _ rfl rfl (by kernel_rfl) (by kernel_rfl) (by kernel_rfl) (fun _ _ _ h => h) (by rfl) ?_ (by assumption) ?_
  rotate_left
  · (intro w hSw; (try dsimp only at hSw); go_simp) <;> with_reducible rfl
  try simp only [Act.put, List.setIfInBounds_toArray, List.set_cons_zero, List.set_cons_succ]
  refine takeD (i := 3) (d := some 30) (v := ?_) _ rfl rfl (by kernel_rfl) (by kernel_rfl) (by kernel_rfl) (fun _ _ _ h => h) (by rfl) ?_ (by assumption) ?_
  rotate_left
  · (intro w hSw; (try dsimp only at hSw); go_simp) <;> with_reducible rfl
  try simp only [Act.put, List.setIfInBounds_toArray, List.set_cons_zero, List.set_cons_succ]
  refine takeD (i := 4) (d := some 31) (v := ?_) _ rfl rfl (by kernel_rfl) (by kernel_rfl) (by kernel_rfl) (fun _ _ _ h => h) (by rfl) ?_ (by assumption) ?_
  rotate_left
  · (intro w hSw; have l0 := H3.out w hSw; (try dsimp only at hSw); go_simp) <;> with_reducible rfl
  try simp only [Act.put, List.setIfInBounds_toArray, List.set_cons_zero, List.set_cons_succ]
  refine takeD (i := 5) (d := some 32) (v := ?_) _ rfl rfl (by kernel_rfl) (by kernel_rfl) (by kernel_rfl) (fun _ _ _ h => h) (by rfl) ?_ (by assumption) ?_
  rotate_left
  · (intro w hSw; (try dsimp only at hSw); go_simp) <;> with_reducible rfl
  try simp only [Act.put, List.setIfInBounds_toArray, List.set_cons_zero, List.set_cons_succ]
  refine takeD (i := 6) (d := some 33) (v := ?_) _ rfl rfl (by kernel_rfl) (by kernel_rfl) (by kernel_rfl) (fun _ _ _ h => h) (by rfl) ?_ (by assumption) ?_
  rotate_left
  · (intro w hSw; (try dsimp only at hSw); go_simp) <;> with_reducible rfl
  try simp only [Act.put, List.setIfInBounds_toArray, List.set_cons_zero, List.set_cons_succ]
  refine takeD (i := 7) (d := some 34) (v := ?_) _ rfl rfl (by kernel_rfl) (by kernel_rfl) (by kernel_rfl) (fun _ _ _ h => h) (by rfl) ?_ (by assumption) ?_
  rotate_left
  · (intro w hSw; (try dsimp only at hSw); go_simp) <;> with_reducible rfl
  try simp only [Act.put, List.setIfInBounds_toArray, List.set_cons_zero, List.set_cons_succ]
  refine takeD (i := 8) (d := some 35) (v := ?_) _ rfl rfl (by kernel_rfl) (by kernel_rfl) (by kernel_rfl) (fun _ _ _ h => h) (by rfl) ?_ (by assumption) ?_
  rotate_left
  · (intro w hSw; have l0 := H6.out w hSw; (try dsimp only at hSw); go_simp) <;> with_reducible rfl
  try simp only [Act.put, List.setIfInBounds_toArray, List.set_cons_zero, List.set_cons_succ]
  refine takeD (i := 9) (d := some 36) (v := ?_) _ rfl rfl (by kernel_rfl) (by kernel_rfl) (by kernel_rfl) (fun _ _ _ h => h) (by rfl) ?_ (by assumption) ?_
  rotate_left
  · (intro w hSw; (try dsimp only at hSw); go_simp) <;> with_reducible rfl
  try simp only [Act.put, List.setIfInBounds_toArray, List.set_cons_zero, List.set_cons_succ]
  refine takeD (i := 10) (d := some 37) (v := ?_) _ rfl rfl (by kernel_rfl) (by kernel_rfl) (by kernel_rfl) (fun _ _ _ h => h) (by rfl) ?_ (by assumption) ?_
  rotate_left
  · (intro w hSw; have l0 := H0.out w hSw; (try dsimp only at hSw); go_simp) <;> with_reducible rfl
  try simp only [Act.put, List.setIfInBounds_toArray, List.set_cons_zero, List.set_cons_succ]
  refine takeD (i := 11) (d := some 38) (v := ?_) _ rfl rfl (by kernel_rfl) (by kernel_rfl) (by kernel_rfl) (fun _ _ _ h => h) (by rfl) ?_ (by assumption) ?_
  rotate_left
  · (intro w hSw; (try dsimp only at hSw); go_simp) <;> with_reducible rfl
  try simp only [Act.put, List.setIfInBounds_toArray, List.set_cons_zero, List.set_cons_succ]
  refine wpAnyH_ready (rs := [12]) (by kernel_rfl) (by simp) ?_
  refine AllReadyH.cons rfl (fun K0 hK => ?_) (AllReadyH.nil)
  obtain ⟨Y, hY⟩ : ∃ Y, w1.drew.alloc (.cells #[.int .i64 0, .slice none 0 0] 44) = Y := ⟨_, rfl⟩
  obtain ⟨bz, hbz⟩ : ∃ bz, w1.heap.size = bz := ⟨_, rfl⟩
  have HYB : Hid (Below w1.heap.size w1 Y) := by rw [← hY]; exact (Below.refl _ _).drew.alloc (Nat.le_refl _) _
  have HYZ : Hid (Y.heap[bz]? = some (.cells #[.int .i64 0, .slice none 0 0] 44 (0, 0))) := by rw [← hY, ← hbz]; exact heap_alloc_new w1.drew _
  try go_simp
  try rw [hY]
  try rw [hbz]
  refine hK.out _ _ HYB.out (fun hHeld => ?_)
  clear hY hHeld
  clear hK K0
  try simp only [Act.put, List.getElem_toArray, List.getElem_cons_succ, List.getElem_cons_zero, List.setIfInBounds_toArray, List.set_cons_zero, List.set_cons_succ]
  have y0 : Y.cell? ⟨bz, 0, none⟩ = some (.int .i64 0) := by rw [(row_cell HYZ.out 0).1]; rfl
  have y1 : Y.cell? ⟨bz, 1, none⟩ = some (.slice none 0 0) := by rw [(row_cell HYZ.out 1).1]; rfl
  have yf0 : Y.frozen? ⟨bz, 0, none⟩ = false := (row_cell HYZ.out 0).2
  have yf1 : Y.frozen? ⟨bz, 1, none⟩ = false := (row_cell HYZ.out 1).2
  refine wpAnyH_ready (rs := [13]) (by kernel_rfl) (by simp) ?_
  refine AllReadyH.cons rfl (fun K0 hK => ?_) (AllReadyH.nil)
  try go_simp
  refine hK.out _ _ ((HYB.out.setCell (show w1.heap.size ≤ bz by omega) _).setCell (show w1.heap.size ≤ bz by omega) _) (fun hHeld => ?_)
  clear hHeld
  clear hK K0
  try simp only [Act.put, List.getElem_toArray, List.getElem_cons_succ, List.getElem_cons_zero, List.setIfInBounds_toArray, List.set_cons_zero, List.set_cons_succ]
  refine wpAnyH_done (by kernel_rfl) ?_ _
  obtain ⟨Z, hZ⟩ : ∃ Z, (Y.setCell ⟨bz, 0, none⟩ (.int .i64 s.next)).setCell ⟨bz, 1, none⟩ (.slice A0 nl c0) = Z := ⟨_, rfl⟩
  have HZB : Hid (Below w1.heap.size w1 Z) := by rw [← hZ]; exact (HYB.out.setCell (show w1.heap.size ≤ bz by omega) _).setCell (show w1.heap.size ≤ bz by omega) _
  have HZZ : Hid (Z.heap[bz]? = some (.cells #[.int .i64 s.next, .slice A0 nl c0] 44 (0, 0))) := by unfold Hid; rw [← hZ]; simpa using set_at (set_at HYZ.out 0 (.int .i64 s.next)) 1 (.slice A0 nl c0)
  rw [hZ]
  clear hZ y0 y1 yf0 yf1 HYB HYZ H3 H0
  have HBZ : Hid (bz = w1.heap.size ∧ bz < Z.heap.size) := ⟨hbz.symm, (Array.getElem?_eq_some_iff.1 HZZ.out).1⟩
  clear hbz
  have HAZ : Hid (Z.heap[g]? = some (.cells #[.int .i64 s.gap, .int .i64 s.words, .int .i64 s.room, .int .i64 s.next, .bool s.sent, .int .i64 s.last, .slice (some ⟨b0, 0, none⟩) nm cm] 87 (0, 0)) ∧ Ow 33 Z p (.slice (some ⟨b0, 0, none⟩) nm cm) nm (CS ((A0, nl, c0) :: S1)) ∧ Ms Z r ((A0, nl, c0) :: S1) (L0 :: LT) ∧ Z.heap[b0]? = some (.cells cur0 33 fr0) ∧ Z.heap[X]? = some (.cells #[.int .i64 0, .slice none 0 0] 44 (0, 0))) :=
    ⟨(HZB.out.block g HL1.out.2.2).trans HA1.out.1, HA1.out.2.1.below HZB.out, HA1.out.2.2.1.below HZB.out, (HZB.out.block b0 HL1.out.2.1).trans HA1.out.2.2.2, (HZB.out.block X HL1.out.1).trans HY1.out⟩
  have HWZ : Hid (Below X w Z) := B1.out.trans (HZB.out.mono (by have := HL1.out; omega))
  have k6 : Z.cell? ⟨g, 6, none⟩ = some (.slice (some ⟨b0, 0, none⟩) nm cm) := by rw [(row_cell HAZ.out.1 6).1]; rfl
  have DL := Lib.hid (own_first (v := .slice (some ⟨b0, 0, none⟩) nm cm) (S := (A0, nl, c0) :: S1) (w := Z) (P := p) (by have := HX.out; rw [show ((A0, nl, c0) :: S1).length = nm by simp; omega]; exact HAZ.out.2.1) (by simp) (by have := HX.out; simp; omega))
  go_wp2_with fail
  refine DL.out.mono ?_
  rintro e w2 ⟨v6, rfl, o2, f2, v2⟩
  obtain ⟨A6, c6, hv6⟩ := o2.sl
  subst hv6
  have hln : (((A0, nl, c0) :: S1).drop 1).length = LT.length := by have := HX.out; simpa using this.2.2.2.2.1
  rw [hln] at o2 v2
  try rw [hln]
  clear hln
  have hf2 : Fo (fun b => b = b0) Z w2 := f2.imp fun b _ hb => by
    have hb : (some b0 : Option Nat) = some b := hb
    injection hb with hb; exact hb.symm
  obtain ⟨ha1, ha2, ha3, ha4, ha5⟩ := HAZ.out
  have hg2 : w2.heap[g]? = some (.cells #[.int .i64 s.gap, .int .i64 s.words, .int .i64 s.room, .int .i64 s.next, .bool s.sent, .int .i64 s.last, .slice (some ⟨b0, 0, none⟩) nm cm] 87 (0, 0)) := (hf2.block g (Array.getElem?_eq_some_iff.1 ha1).1 (fun e => by have := HX.out; omega)).trans ha1
  have hX2 : w2.heap[X]? = some (.cells #[.int .i64 0, .slice none 0 0] 44 (0, 0)) := (hf2.block X (Array.getElem?_eq_some_iff.1 ha5).1 (fun e => by have := HX.out; have := (HH.out.low b0 HX.out.2.2.1).2; omega)).trans ha5
  have hb2 : w2.heap[bz]? = some (.cells #[.int .i64 s.next, .slice A0 nl c0] 44 (0, 0)) := (hf2.block bz (Array.getElem?_eq_some_iff.1 HZZ.out).1 (fun e => by have := HBZ.out; have := HL1.out; omega)).trans HZZ.out
  have hm2 : Ms w2 r ((A0, nl, c0) :: S1) (L0 :: LT) := ha3.fot hf2 (fun b hb _ => by subst hb; exact ⟨_, _, _, ha4, fun e => ne_us e.symm⟩)
  have hfw : Fo p w w2 := (Fo.of_below (by rw [HX.out.1]; exact HWZ.out)).trans hf2 fun i hi => .inl (by rw [hi]; exact HX.out.2.2.1)
  have HG2 : Hid (w2.heap[g]? = some (.cells #[.int .i64 s.gap, .int .i64 s.words, .int .i64 s.room, .int .i64 s.next, .bool s.sent, .int .i64 s.last, .slice (some ⟨b0, 0, none⟩) nm cm] 87 (0, 0)) ∧ w2.heap[X]? = some (.cells #[.int .i64 0, .slice none 0 0] 44 (0, 0)) ∧ w2.heap[bz]? = some (.cells #[.int .i64 s.next, .slice A0 nl c0] 44 (0, 0)) ∧ Ms w2 r ((A0, nl, c0) :: S1) (L0 :: LT) ∧ Fo p w w2 ∧ Ow 33 w2 p (.slice A6 LT.length c6) LT.length (CS (((A0, nl, c0) :: S1).drop 1)) ∧ (∀ b, (Value.slice A6 LT.length c6).ownBlock = some b → b = b0) ∧ g ≠ X ∧ bz ≠ X ∧ g ≠ bz) :=
    ⟨hg2, hX2, hb2, hm2, hfw, o2, fun b hb => by
      have := v2 b hb
      have hb : (some b0 : Option Nat) = some b := this
      injection hb with hb; exact hb.symm, by have := HX.out; omega, by have := HBZ.out; have := HL1.out; omega, by have := HBZ.out; have := HL1.out; omega⟩
  clear k6 DL o2 f2 v2 hf2 ha1 ha2 ha3 ha4 ha5 hg2 hX2 hb2 hm2 hfw HA1 H6 CM HY1 HY0
  have k0 : w2.cell? ⟨g, 0, none⟩ = some (.int .i64 s.gap) := by rw [(row_cell HG2.out.1 0).1]; rfl
  have k1 : w2.cell? ⟨g, 1, none⟩ = some (.int .i64 s.words) := by rw [(row_cell HG2.out.1 1).1]; rfl
  have k2 : w2.cell? ⟨g, 2, none⟩ = some (.int .i64 s.room) := by rw [(row_cell HG2.out.1 2).1]; rfl
  have k3 : w2.cell? ⟨g, 3, none⟩ = some (.int .i64 s.next) := by rw [(row_cell HG2.out.1 3).1]; rfl
  have k4 : w2.cell? ⟨g, 4, none⟩ = some (.bool s.sent) := by rw [(row_cell HG2.out.1 4).1]; rfl
  have k5 : w2.cell? ⟨g, 5, none⟩ = some (.int .i64 s.last) := by rw [(row_cell HG2.out.1 5).1]; rfl
  have k6 : w2.cell? ⟨g, 6, none⟩ = some (.slice (some ⟨b0, 0, none⟩) nm cm) := by rw [(row_cell HG2.out.1 6).1]; rfl
  have kf3 : w2.frozen? ⟨g, 3, none⟩ = false := (row_cell HG2.out.1 3).2
  have kf4 : w2.frozen? ⟨g, 4, none⟩ = false := (row_cell HG2.out.1 4).2
  have kf5 : w2.frozen? ⟨g, 5, none⟩ = false := (row_cell HG2.out.1 5).2
  have kf6 : w2.frozen? ⟨g, 6, none⟩ = false := (row_cell HG2.out.1 6).2
  have y0 : w2.cell? ⟨X, 0, none⟩ = some (.int .i64 0) := by rw [(row_cell HG2.out.2.1 0).1]; rfl
  have y1 : w2.cell? ⟨X, 1, none⟩ = some (.slice none 0 0) := by rw [(row_cell HG2.out.2.1 1).1]; rfl
  have yf0 : w2.frozen? ⟨X, 0, none⟩ = false := (row_cell HG2.out.2.1 0).2
  have yf1 : w2.frozen? ⟨X, 1, none⟩ = false := (row_cell HG2.out.2.1 1).2
  have x0 : w2.cell? ⟨bz, 0, none⟩ = some (.int .i64 s.next) := by rw [(row_cell HG2.out.2.2.1 0).1]; rfl
  have x1 : w2.cell? ⟨bz, 1, none⟩ = some (.slice A0 nl c0) := by rw [(row_cell HG2.out.2.2.1 1).1]; rfl
  have n1 : g ≠ X := HG2.out.2.2.2.2.2.2.2.1
  have n2 : X ≠ g := fun e => n1 e.symm
  have n3 : bz ≠ X := HG2.out.2.2.2.2.2.2.2.2.1
  have n4 : g ≠ bz := HG2.out.2.2.2.2.2.2.2.2.2
  have n5 : bz ≠ g := fun e => n4 e.symm
  go_wp2_with fail
  obtain ⟨hg2, hX2, hb2, hm2, hfw, o2, v2, m1, m2, m3⟩ := HG2.out
  have hgs := set_at (set_at (set_at (set_at hg2 6 (.slice A6 LT.length c6)) 3 (.int .i64 ((s.next + 1).tmod 256))) 4 (.bool true)) 5 (.int .i64 now)
  have hXs := ((set_far (w := ((w2.setCell ⟨g, 6, none⟩ (.slice A6 LT.length c6)).setCell ⟨g, 3, none⟩ (.int .i64 ((s.next + 1).tmod 256))).setCell ⟨g, 4, none⟩ (.bool true)) 5 (.int .i64 now) n2).trans ((set_far 4 _ n2).trans ((set_far 3 _ n2).trans (set_far 6 _ n2)))).trans hX2
  have hgt := (set_far 1 (.slice A0 nl c0) n1).trans ((set_far 0 (.int .i64 s.next) n1).trans hgs)
  have hft : Fo (fun b => b = g ∨ b = X) w2 ((((((w2.setCell ⟨g, 6, none⟩ (.slice A6 LT.length c6)).setCell ⟨g, 3, none⟩ (.int .i64 ((s.next + 1).tmod 256))).setCell ⟨g, 4, none⟩ (.bool true)).setCell ⟨g, 5, none⟩ (.int .i64 now)).setCell ⟨X, 0, none⟩ (.int .i64 s.next)).setCell ⟨X, 1, none⟩ (.slice A0 nl c0)) :=
    ((((((Fo.refl _ w2).setCell (.inl (.inl rfl)) 6 _).setCell (.inl (.inl rfl)) 3 _).setCell (.inl (.inl rfl)) 4 _).setCell (.inl (.inl rfl)) 5 _).setCell (.inl (.inr rfl)) 0 _).setCell (.inl (.inr rfl)) 1 _
  have hty : Ty w2 (fun b => b = g ∨ b = X) := fun b hb _ => by
    rcases hb with hb | hb
    · subst hb; exact ⟨_, _, _, hg2, fun e => ne_uq e.symm⟩
    · subst hb; exact ⟨_, _, _, hX2, by decide⟩
  have hQ := HH.out.lay2 (s' := ⟨s.gap, s.words, s.room, (s.next + 1).tmod 256, true, now⟩) hg2 o2 (hm2.drop 1) hfw (fun b hb => .inl (by rw [v2 b hb]; exact HX.out.2.2.1)) HOK.out HBD.out hgt hft (fun b hb => by
    rcases hb with hb | hb
    · exact .inl hb
    · exact .inr (by rw [hb]; have := HX.out; omega)) (fun b hb hx => by
    have hb0 := v2 b hb
    have h1 := HX.out
    have h2 := (HH.out.low b0 h1.2.2.1).2
    omega) hty
  have hO := (hm2.fot hft hty).at_ 0 _ _ rfl rfl
  refine bodyPost_ret (results_cell_tmp rfl _ _ X _ _ rfl (set_two hXs _ _) Try.underlying44 rfl (by kernel_rfl)) rfl ?_
  obtain ⟨q, q1, q2⟩ := hQ
  refine ⟨A0, c0, q, rfl, ?_, q1, q2⟩
  have hnl := HNL.out
  unfold slv at hO
  simp only at hO
  rw [hnl] at hO
  exact hO
end Go.Proofs.Ytkbjonblflhkoaa.Ln
