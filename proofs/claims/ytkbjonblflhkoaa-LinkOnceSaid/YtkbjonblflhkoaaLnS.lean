/-
  The reference: Step. Each statement bears its own conditions.
-/
import Derived.Test.YtkbjonblflhkoaaLnR
namespace Go.Proofs.Ytkbjonblflhkoaa.Ln
open Go.RowKit Go.Proofs.Ytkbjonblflhkoaa.F Go.Proofs.Ytkbjonblflhkoaa.U Go.Proofs.Ytkbjonblflhkoaa.Q
set_option linter.unusedVariables false
set_option linter.unusedSimpArgs false
theorem range_far {w : World} {g k : Nat} {cs : List Value} (h : w.rangeAt k 0 cs) (hn : k ≠ g) (o : Nat) (v : Value) : (w.setCell ⟨g, o, none⟩ v).rangeAt k 0 cs := by
  intro j u hu
  rw [World.cell?_setCell_other _ _ _ _ (fun e => hn (by first | exact congrArg Addr.block e | exact (congrArg Addr.block e).symm))]
  exact h j u hu
set_option maxRecDepth 100000 in
set_option maxHeartbeats 8000000 in
theorem rstep_no (gap words room next rl : Int) (Ar : Option Addr) (nr cr : Nat) (now : Int) (w : World) (hg : 0 ≤ gap ∧ gap ≤ 1048576) (hl : -1 ≤ rl ∧ rl ≤ 1099511627776) (hn : nr = 0 ∨ mayV gap (decide (0 ≤ rl)) rl now = false) :
    Calls Try.prog 31 #[.agg #[.int .i64 gap, .int .i64 words, .int .i64 room, .slice Ar nr cr, .int .i64 next, .int .i64 rl], .int .i64 now] w fun e w' => e = .returned (.tuple #[.agg #[.int .i64 gap, .int .i64 words, .int .i64 room, .slice Ar nr cr, .int .i64 next, .int .i64 rl], .agg #[.int .i64 0, .slice none 0 0], .bool false]) ∧ Below w.heap.size w w' := by
  obtain ⟨X, hX⟩ : ∃ X, w.heap.size = X := ⟨_, rfl⟩
  obtain ⟨W0, hW0⟩ : ∃ W0, (((w.alloc (.cells #[.int .i64 gap, .int .i64 words, .int .i64 room, .slice Ar nr cr, .int .i64 next, .int .i64 rl] 27)).alloc (.cells #[.int .i64 0, .int .i64 0, .int .i64 0, .slice none 0 0, .int .i64 0, .int .i64 0] 27)).alloc (.cells #[.int .i64 0, .slice none 0 0] 80)) = W0 := ⟨_, rfl⟩
  have B0 : Hid (Below X w W0) := by rw [← hW0, ← hX]; exact ((((Below.refl _ _).alloc (by first | exact Nat.le_refl _ | (simp; done) | (simp; omega)) _).alloc (by first | exact Nat.le_refl _ | (simp; done) | (simp; omega)) _).alloc (by first | exact Nat.le_refl _ | (simp; done) | (simp; omega)) _)
  have S0 : Hid (W0.heap.size = X + 3) := by unfold Hid; rw [← hW0, ← hX]; simp
  have HB0 : Hid (W0.heap[X]? = some (.cells #[.int .i64 gap, .int .i64 words, .int .i64 room, .slice Ar nr cr, .int .i64 next, .int .i64 rl] 27 (0, 0))) := by
    have h0 := heap_alloc_new w (.cells #[.int .i64 gap, .int .i64 words, .int .i64 room, .slice Ar nr cr, .int .i64 next, .int .i64 rl] 27)
    unfold Hid
    rw [← hW0, ← hX]
    have h1 : (w.alloc (.cells #[.int .i64 gap, .int .i64 words, .int .i64 room, .slice Ar nr cr, .int .i64 next, .int .i64 rl] 27)).heap[w.heap.size]? = some (.cells #[.int .i64 gap, .int .i64 words, .int .i64 room, .slice Ar nr cr, .int .i64 next, .int .i64 rl] 27 (0, 0)) := by simpa using h0
    have h2 : ((w.alloc (.cells #[.int .i64 gap, .int .i64 words, .int .i64 room, .slice Ar nr cr, .int .i64 next, .int .i64 rl] 27)).alloc (.cells #[.int .i64 0, .int .i64 0, .int .i64 0, .slice none 0 0, .int .i64 0, .int .i64 0] 27)).heap[w.heap.size]? = some (.cells #[.int .i64 gap, .int .i64 words, .int .i64 room, .slice Ar nr cr, .int .i64 next, .int .i64 rl] 27 (0, 0)) := (heap_old _ _ (by first | (simp; done) | (simp; omega))).trans h1
    have h3 : (((w.alloc (.cells #[.int .i64 gap, .int .i64 words, .int .i64 room, .slice Ar nr cr, .int .i64 next, .int .i64 rl] 27)).alloc (.cells #[.int .i64 0, .int .i64 0, .int .i64 0, .slice none 0 0, .int .i64 0, .int .i64 0] 27)).alloc (.cells #[.int .i64 0, .slice none 0 0] 80)).heap[w.heap.size]? = some (.cells #[.int .i64 gap, .int .i64 words, .int .i64 room, .slice Ar nr cr, .int .i64 next, .int .i64 rl] 27 (0, 0)) := (heap_old _ _ (by first | (simp; done) | (simp; omega))).trans h2
    exact h3
  have HB1 : Hid (W0.heap[X + 1]? = some (.cells #[.int .i64 0, .int .i64 0, .int .i64 0, .slice none 0 0, .int .i64 0, .int .i64 0] 27 (0, 0))) := by
    have h0 := heap_alloc_new (w.alloc (.cells #[.int .i64 gap, .int .i64 words, .int .i64 room, .slice Ar nr cr, .int .i64 next, .int .i64 rl] 27)) (.cells #[.int .i64 0, .int .i64 0, .int .i64 0, .slice none 0 0, .int .i64 0, .int .i64 0] 27)
    unfold Hid
    rw [← hW0, ← hX]
    have h1 : ((w.alloc (.cells #[.int .i64 gap, .int .i64 words, .int .i64 room, .slice Ar nr cr, .int .i64 next, .int .i64 rl] 27)).alloc (.cells #[.int .i64 0, .int .i64 0, .int .i64 0, .slice none 0 0, .int .i64 0, .int .i64 0] 27)).heap[w.heap.size + 1]? = some (.cells #[.int .i64 0, .int .i64 0, .int .i64 0, .slice none 0 0, .int .i64 0, .int .i64 0] 27 (0, 0)) := by simpa using h0
    have h2 : (((w.alloc (.cells #[.int .i64 gap, .int .i64 words, .int .i64 room, .slice Ar nr cr, .int .i64 next, .int .i64 rl] 27)).alloc (.cells #[.int .i64 0, .int .i64 0, .int .i64 0, .slice none 0 0, .int .i64 0, .int .i64 0] 27)).alloc (.cells #[.int .i64 0, .slice none 0 0] 80)).heap[w.heap.size + 1]? = some (.cells #[.int .i64 0, .int .i64 0, .int .i64 0, .slice none 0 0, .int .i64 0, .int .i64 0] 27 (0, 0)) := (heap_old _ _ (by first | (simp; done) | (simp; omega))).trans h1
    exact h2
  have HB2 : Hid (W0.heap[X + 2]? = some (.cells #[.int .i64 0, .slice none 0 0] 80 (0, 0))) := by
    have h0 := heap_alloc_new ((w.alloc (.cells #[.int .i64 gap, .int .i64 words, .int .i64 room, .slice Ar nr cr, .int .i64 next, .int .i64 rl] 27)).alloc (.cells #[.int .i64 0, .int .i64 0, .int .i64 0, .slice none 0 0, .int .i64 0, .int .i64 0] 27)) (.cells #[.int .i64 0, .slice none 0 0] 80)
    unfold Hid
    rw [← hW0, ← hX]
    have h1 : (((w.alloc (.cells #[.int .i64 gap, .int .i64 words, .int .i64 room, .slice Ar nr cr, .int .i64 next, .int .i64 rl] 27)).alloc (.cells #[.int .i64 0, .int .i64 0, .int .i64 0, .slice none 0 0, .int .i64 0, .int .i64 0] 27)).alloc (.cells #[.int .i64 0, .slice none 0 0] 80)).heap[w.heap.size + 2]? = some (.cells #[.int .i64 0, .slice none 0 0] 80 (0, 0)) := by simpa using h0
    exact h1
  have x0 : W0.cell? ⟨X, 0, none⟩ = some (.int .i64 gap) := by rw [(row_cell HB0.out 0).1]; rfl
  have x1 : W0.cell? ⟨X, 1, none⟩ = some (.int .i64 words) := by rw [(row_cell HB0.out 1).1]; rfl
  have x2 : W0.cell? ⟨X, 2, none⟩ = some (.int .i64 room) := by rw [(row_cell HB0.out 2).1]; rfl
  have x3 : W0.cell? ⟨X, 3, none⟩ = some (.slice Ar nr cr) := by rw [(row_cell HB0.out 3).1]; rfl
  have x4 : W0.cell? ⟨X, 4, none⟩ = some (.int .i64 next) := by rw [(row_cell HB0.out 4).1]; rfl
  have x5 : W0.cell? ⟨X, 5, none⟩ = some (.int .i64 rl) := by rw [(row_cell HB0.out 5).1]; rfl
  have xf0 : W0.frozen? ⟨X, 0, none⟩ = false := (row_cell HB0.out 0).2
  have xf1 : W0.frozen? ⟨X, 1, none⟩ = false := (row_cell HB0.out 1).2
  have xf2 : W0.frozen? ⟨X, 2, none⟩ = false := (row_cell HB0.out 2).2
  have xf3 : W0.frozen? ⟨X, 3, none⟩ = false := (row_cell HB0.out 3).2
  have xf4 : W0.frozen? ⟨X, 4, none⟩ = false := (row_cell HB0.out 4).2
  have xf5 : W0.frozen? ⟨X, 5, none⟩ = false := (row_cell HB0.out 5).2
  have y0 : W0.cell? ⟨X + 1, 0, none⟩ = some (.int .i64 0) := by rw [(row_cell HB1.out 0).1]; rfl
  have y1 : W0.cell? ⟨X + 1, 1, none⟩ = some (.int .i64 0) := by rw [(row_cell HB1.out 1).1]; rfl
  have y2 : W0.cell? ⟨X + 1, 2, none⟩ = some (.int .i64 0) := by rw [(row_cell HB1.out 2).1]; rfl
  have y3 : W0.cell? ⟨X + 1, 3, none⟩ = some (.slice none 0 0) := by rw [(row_cell HB1.out 3).1]; rfl
  have y4 : W0.cell? ⟨X + 1, 4, none⟩ = some (.int .i64 0) := by rw [(row_cell HB1.out 4).1]; rfl
  have y5 : W0.cell? ⟨X + 1, 5, none⟩ = some (.int .i64 0) := by rw [(row_cell HB1.out 5).1]; rfl
  have yf0 : W0.frozen? ⟨X + 1, 0, none⟩ = false := (row_cell HB1.out 0).2
  have yf1 : W0.frozen? ⟨X + 1, 1, none⟩ = false := (row_cell HB1.out 1).2
  have yf2 : W0.frozen? ⟨X + 1, 2, none⟩ = false := (row_cell HB1.out 2).2
  have yf3 : W0.frozen? ⟨X + 1, 3, none⟩ = false := (row_cell HB1.out 3).2
  have yf4 : W0.frozen? ⟨X + 1, 4, none⟩ = false := (row_cell HB1.out 4).2
  have yf5 : W0.frozen? ⟨X + 1, 5, none⟩ = false := (row_cell HB1.out 5).2
  have z0 : W0.cell? ⟨X + 2, 0, none⟩ = some (.int .i64 0) := by rw [(row_cell HB2.out 0).1]; rfl
  have z1 : W0.cell? ⟨X + 2, 1, none⟩ = some (.slice none 0 0) := by rw [(row_cell HB2.out 1).1]; rfl
  have zf0 : W0.frozen? ⟨X + 2, 0, none⟩ = false := (row_cell HB2.out 0).2
  have zf1 : W0.frozen? ⟨X + 2, 1, none⟩ = false := (row_cell HB2.out 1).2
  rw [hX]
  have hY6 := set_six HB1.out (.int .i64 gap) (.int .i64 words) (.int .i64 room) (.slice Ar nr cr) (.int .i64 next) (.int .i64 rl)
  have hYF := range_far (range_far hY6 (show X + 1 ≠ X + 2 by omega) 0 (.int .i64 0)) (show X + 1 ≠ X + 2 by omega) 1 (.slice none 0 0)
  have hz6 := (set_far 5 (.int .i64 rl) (show X + 2 ≠ X + 1 by omega)).trans ((set_far 4 (.int .i64 next) (show X + 2 ≠ X + 1 by omega)).trans ((set_far 3 (.slice Ar nr cr) (show X + 2 ≠ X + 1 by omega)).trans ((set_far 2 (.int .i64 room) (show X + 2 ≠ X + 1 by omega)).trans ((set_far 1 (.int .i64 words) (show X + 2 ≠ X + 1 by omega)).trans ((set_far 0 (.int .i64 gap) (show X + 2 ≠ X + 1 by omega)).trans (HB2.out))))))
  have hZF := set_two (w := ((((((W0.setCell ⟨X + 1, 0, none⟩ (.int .i64 gap)).setCell ⟨X + 1, 1, none⟩ (.int .i64 words)).setCell ⟨X + 1, 2, none⟩ (.int .i64 room)).setCell ⟨X + 1, 3, none⟩ (.slice Ar nr cr)).setCell ⟨X + 1, 4, none⟩ (.int .i64 next)).setCell ⟨X + 1, 5, none⟩ (.int .i64 rl))) hz6 (.int .i64 0) (.slice none 0 0)
  obtain ⟨m, hm⟩ : ∃ m, max gap 1 = m := ⟨_, rfl⟩
  have hW : IntKind.i64.wrap (rl + m) = rl + m := by rw [IntKind.wrap_i64]; omega
  have BF : Hid (Below X w ((((((((W0.setCell ⟨X + 1, 0, none⟩ (.int .i64 gap)).setCell ⟨X + 1, 1, none⟩ (.int .i64 words)).setCell ⟨X + 1, 2, none⟩ (.int .i64 room)).setCell ⟨X + 1, 3, none⟩ (.slice Ar nr cr)).setCell ⟨X + 1, 4, none⟩ (.int .i64 next)).setCell ⟨X + 1, 5, none⟩ (.int .i64 rl)).setCell ⟨X + 2, 0, none⟩ (.int .i64 0)).setCell ⟨X + 2, 1, none⟩ (.slice none 0 0))) := (((((((B0.out.setCell (by show X ≤ X + 1; omega) _).setCell (by show X ≤ X + 1; omega) _).setCell (by show X ≤ X + 1; omega) _).setCell (by show X ≤ X + 1; omega) _).setCell (by show X ≤ X + 1; omega) _).setCell (by show X ≤ X + 1; omega) _).setCell (by show X ≤ X + 2; omega) _).setCell (by show X ≤ X + 2; omega) _
  by_cases h0 : nr = 0
  · have hb0 : ((nr : Int) == 0) = true := by subst h0; rfl
    subst h0
    clear hn hg hl hm hW
    go_enter Try.func31, Try.ntmps31
    go_wp2_with fail
    refine bodyPost_ret (results_cell_cell rfl _ _ (X + 1) (X + 2) _ _ _ _ rfl hYF Try.underlying27 rfl (by kernel_rfl) rfl hZF Try.underlying80 rfl (by kernel_rfl)) rfl ?_
    exact ⟨rfl, BF.out⟩
  have hb0 : ((nr : Int) == 0) = false := by rw [beq_eq_false_iff_ne]; omega
  have hm0 : ¬ (nr : Int) = 0 := by omega
  have hmm : mayV gap (decide (0 ≤ rl)) rl now = false := by rcases hn with hn | hn; exact absurd hn h0; exact hn
  clear hn h0
  by_cases h1 : now < 0
  · have e1 : decide (now < 0) = true := by simpa using h1
    clear h1 hmm hg hl hm hW
    go_enter Try.func31, Try.ntmps31
    go_wp2_with fail
    refine bodyPost_ret (results_cell_cell rfl _ _ (X + 1) (X + 2) _ _ _ _ rfl hYF Try.underlying27 rfl (by kernel_rfl) rfl hZF Try.underlying80 rfl (by kernel_rfl)) rfl ?_
    exact ⟨rfl, BF.out⟩
  have e1 : decide (now < 0) = false := by simpa using h1
  by_cases h2 : 1099511627776 < now
  · have e2 : decide (1099511627776 < now) = true := by simpa using h2
    clear h1 h2 hmm hg hl hm hW
    go_enter Try.func31, Try.ntmps31
    go_wp2_with fail
    refine bodyPost_ret (results_cell_cell rfl _ _ (X + 1) (X + 2) _ _ _ _ rfl hYF Try.underlying27 rfl (by kernel_rfl) rfl hZF Try.underlying80 rfl (by kernel_rfl)) rfl ?_
    exact ⟨rfl, BF.out⟩
  have e2 : decide (1099511627776 < now) = false := by simpa using h2
  have h34 : 0 ≤ rl ∧ now < rl + m := by
    unfold mayV at hmm
    rw [hm, decide_eq_true (show 0 ≤ now by omega), decide_eq_true (show now ≤ 1099511627776 by omega)] at hmm
    simp only [Bool.true_and, Bool.or_eq_false_iff, Bool.not_eq_false', decide_eq_true_eq, decide_eq_false_iff_not] at hmm
    omega
  have e3 : decide (0 ≤ rl) = true := by simpa using h34.1
  have e4 : decide (now < rl + m) = true := by simpa using h34.2
  clear h1 h2 hmm hg hl h34
  go_enter Try.func31, Try.ntmps31
  go_wp2_with fail
  refine bodyPost_ret (results_cell_cell rfl _ _ (X + 1) (X + 2) _ _ _ _ rfl hYF Try.underlying27 rfl (by kernel_rfl) rfl hZF Try.underlying80 rfl (by kernel_rfl)) rfl ?_
  exact ⟨rfl, BF.out⟩
theorem Sq_drop {w : World} {p : Nat → Prop} {A : Option Addr} {n c j : Nat} {xs : List Value} (h : Sq w p (.slice A n c) n xs) (hj : j ≤ n) (hc : n ≤ c) : Sq w p (.slice (if c = j then A else A.map (fun x => x.add j)) (n - j) (c - j)) (n - j) (xs.drop j) := by
  have hl := h.len
  refine ⟨_, _, rfl, by rw [List.length_drop]; omega, fun h0 => ?_⟩
  obtain ⟨_, b, off, rfl, hb, hp, hcl⟩ := h.at_ (show 0 < n by omega)
  rw [if_neg (by omega)]
  refine ⟨b, off + j, by simp [Addr.add_lit], hb, hp, fun i u hu => ?_⟩
  rw [List.getElem?_drop] at hu
  rw [Nat.add_assoc]
  exact hcl _ u hu
theorem ow_cap {e : TypeId} {w : World} {p : Nat → Prop} {A : Option Addr} {n c : Nat} {xs : List Value} (h : Ow e w p (.slice A n c) n xs) : n ≤ c := by
  rcases h.form with ⟨h0, h1, _⟩ | ⟨b, cap, cur, hv, _, _, _, h1, _⟩
  · omega
  · injection hv with _ _ h3; omega
structure SCut (W0 : World) (next : Int) (nl : Nat) (L0 : List Int) (s7 : Value) (wx : World) : Prop where
  ex : ∃ (bz : Nat) (A7 : Option Addr) (c7 : Nat), s7 = .pointer (some ⟨bz, 0, none⟩) ∧ Below W0.heap.size W0 wx ∧ (wx.heap[bz]? = some (.cells #[.int .i64 next, .slice A7 nl c7] 80 (0, 0)) ∧ W0.heap.size ≤ bz) ∧ Ow 47 wx (fun b => W0.heap.size ≤ b ∧ b ≠ bz) (.slice A7 nl c7) nl (CU L0)
set_option maxRecDepth 100000 in
set_option maxHeartbeats 8000000 in
theorem rstep_some (gap words room next rl : Int) (Ar : Option Addr) (nr cr : Nat) (P RR : Nat → Prop) (S : List Sl) (L0 : List Int) (LT : List (List Int)) (now : Int) (w : World) (hv : Sq w P (.slice Ar nr cr) nr (CS S)) (hm : Ms w RR S (L0 :: LT)) (hcp : nr ≤ cr) (hml : nr ≤ 1000) (hl0 : L0.length ≤ 1000) (hg : 0 ≤ gap ∧ gap ≤ 1048576) (hn : 0 ≤ next ∧ next < 256) (hl : -1 ≤ rl ∧ rl ≤ 1099511627776) (hmm : mayV gap (decide (0 ≤ rl)) rl now = true) (A1 : Option Addr) (hA1 : (if cr = 1 then Ar else Ar.map (fun x => x.add 1)) = A1) :
    Calls Try.prog 31 #[.agg #[.int .i64 gap, .int .i64 words, .int .i64 room, .slice Ar nr cr, .int .i64 next, .int .i64 rl], .int .i64 now] w fun e w' => ∃ A7 c7, e = .returned (.tuple #[.agg #[.int .i64 gap, .int .i64 words, .int .i64 room, .slice A1 (nr - 1) (cr - 1), .int .i64 ((next + 1).tmod 256), .int .i64 now], .agg #[.int .i64 next, .slice A7 L0.length c7], .bool true]) ∧ Ow 47 w' (fun b => w.heap.size ≤ b) (.slice A7 L0.length c7) L0.length (CU L0) ∧ Below w.heap.size w w' := by
  obtain ⟨i1, ji, jz0, jz1, jz2⟩ := info_of u32_info
  obtain ⟨X, hX⟩ : ∃ X, w.heap.size = X := ⟨_, rfl⟩
  obtain ⟨W0, hW0⟩ : ∃ W0, (((w.alloc (.cells #[.int .i64 gap, .int .i64 words, .int .i64 room, .slice Ar nr cr, .int .i64 next, .int .i64 rl] 27)).alloc (.cells #[.int .i64 0, .int .i64 0, .int .i64 0, .slice none 0 0, .int .i64 0, .int .i64 0] 27)).alloc (.cells #[.int .i64 0, .slice none 0 0] 80)) = W0 := ⟨_, rfl⟩
  have B0 : Hid (Below X w W0) := by rw [← hW0, ← hX]; exact ((((Below.refl _ _).alloc (by first | exact Nat.le_refl _ | (simp; done) | (simp; omega)) _).alloc (by first | exact Nat.le_refl _ | (simp; done) | (simp; omega)) _).alloc (by first | exact Nat.le_refl _ | (simp; done) | (simp; omega)) _)
  have S0 : Hid (W0.heap.size = X + 3) := by unfold Hid; rw [← hW0, ← hX]; simp
  have HB0 : Hid (W0.heap[X]? = some (.cells #[.int .i64 gap, .int .i64 words, .int .i64 room, .slice Ar nr cr, .int .i64 next, .int .i64 rl] 27 (0, 0))) := by
    have h0 := heap_alloc_new w (.cells #[.int .i64 gap, .int .i64 words, .int .i64 room, .slice Ar nr cr, .int .i64 next, .int .i64 rl] 27)
    unfold Hid
    rw [← hW0, ← hX]
    have h1 : (w.alloc (.cells #[.int .i64 gap, .int .i64 words, .int .i64 room, .slice Ar nr cr, .int .i64 next, .int .i64 rl] 27)).heap[w.heap.size]? = some (.cells #[.int .i64 gap, .int .i64 words, .int .i64 room, .slice Ar nr cr, .int .i64 next, .int .i64 rl] 27 (0, 0)) := by simpa using h0
    have h2 : ((w.alloc (.cells #[.int .i64 gap, .int .i64 words, .int .i64 room, .slice Ar nr cr, .int .i64 next, .int .i64 rl] 27)).alloc (.cells #[.int .i64 0, .int .i64 0, .int .i64 0, .slice none 0 0, .int .i64 0, .int .i64 0] 27)).heap[w.heap.size]? = some (.cells #[.int .i64 gap, .int .i64 words, .int .i64 room, .slice Ar nr cr, .int .i64 next, .int .i64 rl] 27 (0, 0)) := (heap_old _ _ (by first | (simp; done) | (simp; omega))).trans h1
    have h3 : (((w.alloc (.cells #[.int .i64 gap, .int .i64 words, .int .i64 room, .slice Ar nr cr, .int .i64 next, .int .i64 rl] 27)).alloc (.cells #[.int .i64 0, .int .i64 0, .int .i64 0, .slice none 0 0, .int .i64 0, .int .i64 0] 27)).alloc (.cells #[.int .i64 0, .slice none 0 0] 80)).heap[w.heap.size]? = some (.cells #[.int .i64 gap, .int .i64 words, .int .i64 room, .slice Ar nr cr, .int .i64 next, .int .i64 rl] 27 (0, 0)) := (heap_old _ _ (by first | (simp; done) | (simp; omega))).trans h2
    exact h3
  have HB1 : Hid (W0.heap[X + 1]? = some (.cells #[.int .i64 0, .int .i64 0, .int .i64 0, .slice none 0 0, .int .i64 0, .int .i64 0] 27 (0, 0))) := by
    have h0 := heap_alloc_new (w.alloc (.cells #[.int .i64 gap, .int .i64 words, .int .i64 room, .slice Ar nr cr, .int .i64 next, .int .i64 rl] 27)) (.cells #[.int .i64 0, .int .i64 0, .int .i64 0, .slice none 0 0, .int .i64 0, .int .i64 0] 27)
    unfold Hid
    rw [← hW0, ← hX]
    have h1 : ((w.alloc (.cells #[.int .i64 gap, .int .i64 words, .int .i64 room, .slice Ar nr cr, .int .i64 next, .int .i64 rl] 27)).alloc (.cells #[.int .i64 0, .int .i64 0, .int .i64 0, .slice none 0 0, .int .i64 0, .int .i64 0] 27)).heap[w.heap.size + 1]? = some (.cells #[.int .i64 0, .int .i64 0, .int .i64 0, .slice none 0 0, .int .i64 0, .int .i64 0] 27 (0, 0)) := by simpa using h0
    have h2 : (((w.alloc (.cells #[.int .i64 gap, .int .i64 words, .int .i64 room, .slice Ar nr cr, .int .i64 next, .int .i64 rl] 27)).alloc (.cells #[.int .i64 0, .int .i64 0, .int .i64 0, .slice none 0 0, .int .i64 0, .int .i64 0] 27)).alloc (.cells #[.int .i64 0, .slice none 0 0] 80)).heap[w.heap.size + 1]? = some (.cells #[.int .i64 0, .int .i64 0, .int .i64 0, .slice none 0 0, .int .i64 0, .int .i64 0] 27 (0, 0)) := (heap_old _ _ (by first | (simp; done) | (simp; omega))).trans h1
    exact h2
  have HB2 : Hid (W0.heap[X + 2]? = some (.cells #[.int .i64 0, .slice none 0 0] 80 (0, 0))) := by
    have h0 := heap_alloc_new ((w.alloc (.cells #[.int .i64 gap, .int .i64 words, .int .i64 room, .slice Ar nr cr, .int .i64 next, .int .i64 rl] 27)).alloc (.cells #[.int .i64 0, .int .i64 0, .int .i64 0, .slice none 0 0, .int .i64 0, .int .i64 0] 27)) (.cells #[.int .i64 0, .slice none 0 0] 80)
    unfold Hid
    rw [← hW0, ← hX]
    have h1 : (((w.alloc (.cells #[.int .i64 gap, .int .i64 words, .int .i64 room, .slice Ar nr cr, .int .i64 next, .int .i64 rl] 27)).alloc (.cells #[.int .i64 0, .int .i64 0, .int .i64 0, .slice none 0 0, .int .i64 0, .int .i64 0] 27)).alloc (.cells #[.int .i64 0, .slice none 0 0] 80)).heap[w.heap.size + 2]? = some (.cells #[.int .i64 0, .slice none 0 0] 80 (0, 0)) := by simpa using h0
    exact h1
  have x0 : W0.cell? ⟨X, 0, none⟩ = some (.int .i64 gap) := by rw [(row_cell HB0.out 0).1]; rfl
  have x1 : W0.cell? ⟨X, 1, none⟩ = some (.int .i64 words) := by rw [(row_cell HB0.out 1).1]; rfl
  have x2 : W0.cell? ⟨X, 2, none⟩ = some (.int .i64 room) := by rw [(row_cell HB0.out 2).1]; rfl
  have x3 : W0.cell? ⟨X, 3, none⟩ = some (.slice Ar nr cr) := by rw [(row_cell HB0.out 3).1]; rfl
  have x4 : W0.cell? ⟨X, 4, none⟩ = some (.int .i64 next) := by rw [(row_cell HB0.out 4).1]; rfl
  have x5 : W0.cell? ⟨X, 5, none⟩ = some (.int .i64 rl) := by rw [(row_cell HB0.out 5).1]; rfl
  have xf0 : W0.frozen? ⟨X, 0, none⟩ = false := (row_cell HB0.out 0).2
  have xf1 : W0.frozen? ⟨X, 1, none⟩ = false := (row_cell HB0.out 1).2
  have xf2 : W0.frozen? ⟨X, 2, none⟩ = false := (row_cell HB0.out 2).2
  have xf3 : W0.frozen? ⟨X, 3, none⟩ = false := (row_cell HB0.out 3).2
  have xf4 : W0.frozen? ⟨X, 4, none⟩ = false := (row_cell HB0.out 4).2
  have xf5 : W0.frozen? ⟨X, 5, none⟩ = false := (row_cell HB0.out 5).2
  have y0 : W0.cell? ⟨X + 1, 0, none⟩ = some (.int .i64 0) := by rw [(row_cell HB1.out 0).1]; rfl
  have y1 : W0.cell? ⟨X + 1, 1, none⟩ = some (.int .i64 0) := by rw [(row_cell HB1.out 1).1]; rfl
  have y2 : W0.cell? ⟨X + 1, 2, none⟩ = some (.int .i64 0) := by rw [(row_cell HB1.out 2).1]; rfl
  have y3 : W0.cell? ⟨X + 1, 3, none⟩ = some (.slice none 0 0) := by rw [(row_cell HB1.out 3).1]; rfl
  have y4 : W0.cell? ⟨X + 1, 4, none⟩ = some (.int .i64 0) := by rw [(row_cell HB1.out 4).1]; rfl
  have y5 : W0.cell? ⟨X + 1, 5, none⟩ = some (.int .i64 0) := by rw [(row_cell HB1.out 5).1]; rfl
  have yf0 : W0.frozen? ⟨X + 1, 0, none⟩ = false := (row_cell HB1.out 0).2
  have yf1 : W0.frozen? ⟨X + 1, 1, none⟩ = false := (row_cell HB1.out 1).2
  have yf2 : W0.frozen? ⟨X + 1, 2, none⟩ = false := (row_cell HB1.out 2).2
  have yf3 : W0.frozen? ⟨X + 1, 3, none⟩ = false := (row_cell HB1.out 3).2
  have yf4 : W0.frozen? ⟨X + 1, 4, none⟩ = false := (row_cell HB1.out 4).2
  have yf5 : W0.frozen? ⟨X + 1, 5, none⟩ = false := (row_cell HB1.out 5).2
  have z0 : W0.cell? ⟨X + 2, 0, none⟩ = some (.int .i64 0) := by rw [(row_cell HB2.out 0).1]; rfl
  have z1 : W0.cell? ⟨X + 2, 1, none⟩ = some (.slice none 0 0) := by rw [(row_cell HB2.out 1).1]; rfl
  have zf0 : W0.frozen? ⟨X + 2, 0, none⟩ = false := (row_cell HB2.out 0).2
  have zf1 : W0.frozen? ⟨X + 2, 1, none⟩ = false := (row_cell HB2.out 1).2
  rw [hX]
  obtain ⟨m, hmx⟩ : ∃ m, max gap 1 = m := ⟨_, rfl⟩
  have hW : IntKind.i64.wrap (rl + m) = rl + m := by rw [IntKind.wrap_i64]; omega
  have hW1 : IntKind.i64.wrap (next + 1) = next + 1 := by rw [IntKind.wrap_i64]; omega
  have hln : (L0 :: LT).length = nr := by have := hv.len; rw [hm.mr.len2] at this; exact this
  have hln1 : nr = LT.length + 1 := by simpa using hln.symm
  obtain ⟨A0, c0, L, hs, hL, hsq⟩ := hm.mr.get (i := 0) (by simp)
  injection hL with hL
  subst hL
  obtain ⟨b1, off1, hA, hbl, hcc⟩ := sl_at hv (show 0 < nr by omega) hs
  rw [Nat.add_zero] at hcc
  subst hA
  have hA2 : (if cr = 1 then (some ⟨b1, off1, none⟩ : Option Addr) else some ⟨b1, off1 + 1, none⟩) = A1 := hA1
  obtain ⟨nl, hnl⟩ : ∃ k, L0.length = k := ⟨_, rfl⟩
  rw [hnl] at hsq hcc ⊢
  have hWB : Below w.heap.size w W0 := by rw [hX]; exact B0.out
  have H3 : Hid (∀ W, Below W0.heap.size W0 W → W.cell? ⟨X, 3, none⟩ = some (.slice (some ⟨b1, off1, none⟩) nr cr)) := fun W hb => cell_later hb x3
  have H4 : Hid (∀ W, Below W0.heap.size W0 W → W.cell? ⟨X, 4, none⟩ = some (.int .i64 next)) := fun W hb => cell_later hb x4
  have H0 : Hid (∀ W, Below W0.heap.size W0 W → W.cell? ⟨b1, off1, none⟩ = some (.slice A0 nl c0)) := fun W hb => cell_later hb (cell_later hWB hcc)
  have RL : Hid (∀ W, Below W0.heap.size W0 W → Reads W W.heap.size 1 A0 nl (CU L0)) := fun W hb => (((hsq.belowP hWB).belowP hb).st.reads).2
  have HN : Hid (nl ≤ 1000 ∧ L0.length = nl) := ⟨by omega, hnl⟩
  have hb0 : ((nr : Int) == 0) = false := by rw [beq_eq_false_iff_ne]; omega
  have hn0 : ¬ (nr : Int) = 0 := by omega
  have hnp : (0 : Int) < (nr : Int) := by omega
  have hnpN : 0 < nr := by omega
  have hn1I : (1 : Int) ≤ (nr : Int) := by omega
  have hncI : (nr : Int) ≤ (cr : Int) := by omega
  have hncI1 : (1 : Int) ≤ (cr : Int) := by omega
  have hc0 : 0 ≤ now ∧ now ≤ 1099511627776 ∧ (0 ≤ rl → rl + m ≤ now) := by
    unfold mayV at hmm
    rw [hmx] at hmm
    simp only [Bool.and_eq_true, decide_eq_true_eq, Bool.or_eq_true, Bool.not_eq_true', decide_eq_false_iff_not] at hmm
    exact ⟨hmm.1, hmm.2.1, fun h => by rcases hmm.2.2 with h1 | h1; exact absurd h h1; exact h1⟩
  have e1 : decide (now < 0) = false := by simpa using hc0.1
  have e2 : decide (1099511627776 < now) = false := by simpa using hc0.2.1
  by_cases h3 : 0 ≤ rl
  · have e3 : decide (0 ≤ rl) = true := by simpa using h3
    have e4 : decide (now < rl + m) = false := by have := hc0.2.2 h3; simpa using this
    clear hv hm hcp hml hl0 hg hn hl hmm hA1 hln hln1 hs hsq hbl hcc hnl hWB hc0 h3
    go_enter Try.func31, Try.ntmps31
    go_upto_region 3 with fail
    go_cut [7] (fun s7 wx => SCut W0 next nl L0 s7 wx)
    case first =>
      refine wp_region_held_drew (S := (fun w' => Below W0.heap.size W0 w')) (by kernel_rfl) ?_ (fun hHeld => ?_)
      · exact (Below.refl _ _).drew
      have B_V : Hid (Below W0.heap.size W0 W0.drew) := (Below.refl _ _).drew
      refine takeD (i := 0) (d := some 37) (v := ?_) _ rfl rfl (by kernel_rfl) (by kernel_rfl) (by kernel_rfl) (fun _ _ _ h => h) (by rfl) ?_ (by assumption) ?_
      rotate_left
      · (intro w hSw; (try dsimp only at hSw); go_simp) <;> with_reducible rfl
      try simp only [Act.put, List.setIfInBounds_toArray, List.set_cons_zero, List.set_cons_succ]
      refine takeD (i := 1) (d := some 38) (v := ?_) _ rfl rfl (by kernel_rfl) (by kernel_rfl) (by kernel_rfl) (fun _ _ _ h => h) (by rfl) ?_ (by assumption) ?_
      rotate_left
      · (intro w hSw; have l0 := H4.out w hSw; (try dsimp only at hSw); go_simp) <;> with_reducible rfl
      try simp only [Act.put, List.setIfInBounds_toArray, List.set_cons_zero, List.set_cons_succ]
      refine takeD (i := 3) (d := some 40) (v := ?_) _ rfl rfl (by kernel_rfl) (by kernel_rfl) (by kernel_rfl) (fun _ _ _ h => h) (by rfl) ?_ (by assumption) ?_
      rotate_left
      · (intro w hSw; (try dsimp only at hSw); go_simp) <;> with_reducible rfl
      try simp only [Act.put, List.setIfInBounds_toArray, List.set_cons_zero, List.set_cons_succ]
      refine takeD (i := 4) (d := some 41) (v := ?_) _ rfl rfl (by kernel_rfl) (by kernel_rfl) (by kernel_rfl) (fun _ _ _ h => h) (by rfl) ?_ (by assumption) ?_
      rotate_left
      · (intro w hSw; have l0 := H3.out w hSw; (try dsimp only at hSw); go_simp) <;> with_reducible rfl
      try simp only [Act.put, List.setIfInBounds_toArray, List.set_cons_zero, List.set_cons_succ]
      refine takeD (i := 5) (d := some 42) (v := ?_) _ rfl rfl (by kernel_rfl) (by kernel_rfl) (by kernel_rfl) (fun _ _ _ h => h) (by rfl) ?_ (by assumption) ?_
      rotate_left
      · (intro w hSw; (try dsimp only at hSw); go_simp) <;> with_reducible rfl
      try simp only [Act.put, List.setIfInBounds_toArray, List.set_cons_zero, List.set_cons_succ]
      refine takeD (i := 6) (d := some 43) (v := ?_) _ rfl rfl (by kernel_rfl) (by kernel_rfl) (by kernel_rfl) (fun _ _ _ h => h) (by rfl) ?_ (by assumption) ?_
      rotate_left
      · (intro w hSw; have l0 := H0.out w hSw; (try dsimp only at hSw); go_simp) <;> with_reducible rfl
      try simp only [Act.put, List.setIfInBounds_toArray, List.set_cons_zero, List.set_cons_succ]
      obtain ⟨V, hV⟩ : ∃ V, W0.drew = V := ⟨_, rfl⟩
      rw [hV] at B_V
      simp only [hV]
      clear hV hHeld
      refine wpAnyH_ready (rs := [2, 9]) (by kernel_rfl) (by simp) ?_
      refine AllReadyH.cons rfl (fun K0 hK => ?_) (AllReadyH.cons rfl (fun K0 hK => ?_) (AllReadyH.nil))
      · obtain ⟨Ve, h_Ve⟩ : ∃ W, V.alloc (.cells #[] 47) = W := ⟨_, rfl⟩
        obtain ⟨be, h_be⟩ : ∃ vb, V.heap.size = vb := ⟨_, rfl⟩
        have b_Ve : Below V.heap.size V Ve := by rw [← h_Ve]; exact (Below.refl _ _).alloc (Nat.le_refl _) _
        have B_Ve : Hid (Below W0.heap.size W0 Ve) := B_V.out.trans (b_Ve.mono B_V.out.size)
        have HN_be : Hid (Ve.heap[be]? = some (.cells #[] 47 (0, 0)) ∧ W0.heap.size ≤ be) := ⟨by rw [← h_Ve, ← h_be]; exact heap_alloc_new _ _, by rw [← h_be]; exact B_V.out.size⟩
        try go_simp
        try rw [h_Ve]
        try rw [h_be]
        refine hK.out _ _ B_Ve.out (fun hHeld => ?_)
        clear h_Ve h_be b_Ve hHeld
        clear hK K0
        try simp only [Act.put, List.getElem_toArray, List.getElem_cons_succ, List.getElem_cons_zero, List.setIfInBounds_toArray, List.set_cons_zero, List.set_cons_succ]
        refine wpAnyH_ready (rs := [7, 9]) (by kernel_rfl) (by simp) ?_
        refine AllReadyH.cons rfl (fun K0 hK => ?_) (AllReadyH.cons rfl (fun K0 hK => ?_) (AllReadyH.nil))
        · have ho0 : Ve.ownsRow be 47 1 (.slice (some ⟨be, 0, none⟩) 0 0) 0 [] := ⟨rfl, .inr ⟨be, 0, #[], rfl, Nat.le_refl _, HN_be.out.1, Nat.le_refl _, by unfold maxLen; omega, rfl, rfl⟩⟩
          refine wp_append_any Ve (.tmp 39) (.tmp 43) 33 rfl be 47 i1 (.int .u32 0) 1 4 Try.underlying33 ji jz0 jz1 jz2 rfl (by decide) (.slice (some ⟨be, 0, none⟩) 0 0) 0 [] rfl ho0 Ve.heap.size A0 nl c0 (CU L0) rfl (RL.out Ve B_Ve.out) (CU_one _) (by have := HN.out; unfold maxLen; omega) (by have := HN.out; omega) (by have := (Array.getElem?_eq_some_iff.1 HN_be.out.1).1; omega) ?_
          intro v7 Vea ho7 hg7 hb7
          have r7 : Vea.ownsRow be 47 1 v7 nl (CU L0) := by simpa using ho7
          obtain ⟨A7, c7, rfl⟩ := slice_form r7
          have b7 : Below be Ve Vea := (Below.refl _ _).grown hg7 (by have := (Array.getElem?_eq_some_iff.1 HN_be.out.1).1; omega) (fun q hq => by have h' : some be = some q := hq; injection h' with h'; omega)
          have O7 : Hid (Ow 47 Vea (fun b => W0.heap.size ≤ b) (.slice A7 nl c7) nl (CU L0)) := (Ow.of_own r7).imp fun b _ hb => by have := HN_be.out.2; omega
          have B_Vea : Hid (Below W0.heap.size W0 Vea) := B_Ve.out.trans (b7.mono HN_be.out.2)
          clear ho0 ho7 hg7 hb7 r7 b7
          refine hK.out _ _ B_Vea.out (fun hHeld => ?_)
          clear hHeld
          clear hK K0
          try simp only [Act.put, List.getElem_toArray, List.getElem_cons_succ, List.getElem_cons_zero, List.setIfInBounds_toArray, List.set_cons_zero, List.set_cons_succ]
          refine takeD (i := 8) (d := some 45) (v := ?_) _ rfl rfl (by kernel_rfl) (by kernel_rfl) (by kernel_rfl) (fun _ _ _ h => h) (by rfl) ?_ B_Vea.out ?_
          rotate_left
          · (intro w hSw; (try dsimp only at hSw); go_simp) <;> with_reducible rfl
          try simp only [Act.put, List.setIfInBounds_toArray, List.set_cons_zero, List.set_cons_succ]
          refine wpAnyH_ready (rs := [9]) (by kernel_rfl) (by simp) ?_
          refine AllReadyH.cons rfl (fun K0 hK => ?_) (AllReadyH.nil)
          obtain ⟨Veaz, h_Veaz⟩ : ∃ W, Vea.alloc (.cells #[.int .i64 0, .slice none 0 0] 80) = W := ⟨_, rfl⟩
          obtain ⟨bz, h_bz⟩ : ∃ vb, Vea.heap.size = vb := ⟨_, rfl⟩
          have b_Veaz : Below Vea.heap.size Vea Veaz := by rw [← h_Veaz]; exact (Below.refl _ _).alloc (Nat.le_refl _) _
          have B_Veaz : Hid (Below W0.heap.size W0 Veaz) := B_Vea.out.trans (b_Veaz.mono B_Vea.out.size)
          have HN_bz : Hid (Veaz.heap[bz]? = some (.cells #[.int .i64 0, .slice none 0 0] 80 (0, 0)) ∧ W0.heap.size ≤ bz) := ⟨by rw [← h_Veaz, ← h_bz]; exact heap_alloc_new _ _, by rw [← h_bz]; exact B_Vea.out.size⟩
          have O7 : Hid (Ow 47 Veaz (fun b => W0.heap.size ≤ b) (.slice A7 nl c7) nl (CU L0)) := O7.out.below b_Veaz
          try go_simp
          try rw [h_Veaz]
          try rw [h_bz]
          refine hK.out _ _ B_Veaz.out (fun hHeld => ?_)
          clear h_Veaz h_bz b_Veaz hHeld
          clear hK K0
          try simp only [Act.put, List.getElem_toArray, List.getElem_cons_succ, List.getElem_cons_zero, List.setIfInBounds_toArray, List.set_cons_zero, List.set_cons_succ]
          have z0 : Veaz.cell? ⟨bz, 0, none⟩ = some (.int .i64 0) := by rw [(row_cell HN_bz.out.1 0).1]; rfl
          have z1 : Veaz.cell? ⟨bz, 1, none⟩ = some (.slice none 0 0) := by rw [(row_cell HN_bz.out.1 1).1]; rfl
          have zf0 : Veaz.frozen? ⟨bz, 0, none⟩ = false := (row_cell HN_bz.out.1 0).2
          have zf1 : Veaz.frozen? ⟨bz, 1, none⟩ = false := (row_cell HN_bz.out.1 1).2
          refine wpAnyH_ready (rs := [10]) (by kernel_rfl) (by simp) ?_
          refine AllReadyH.cons rfl (fun K0 hK => ?_) (AllReadyH.nil)
          obtain ⟨Z, hZ⟩ : ∃ Z, (Veaz.setCell ⟨bz, 0, none⟩ (.int .i64 next)).setCell ⟨bz, 1, none⟩ (.slice A7 nl c7) = Z := ⟨_, rfl⟩
          have HZB : Hid (Below W0.heap.size W0 Z) := by rw [← hZ]; exact (B_Veaz.out.setCell HN_bz.out.2 _).setCell HN_bz.out.2 _
          have HZZ : Hid (Z.heap[bz]? = some (.cells #[.int .i64 next, .slice A7 nl c7] 80 (0, 0)) ∧ W0.heap.size ≤ bz) := ⟨by rw [← hZ]; simpa using set_at (set_at HN_bz.out.1 0 (.int .i64 next)) 1 (.slice A7 nl c7), HN_bz.out.2⟩
          have hfz : Fo (fun b => b = bz) Veaz Z := by rw [← hZ]; exact ((Fo.refl (fun b => b = bz) Veaz).setCell (.inl rfl) 0 _).setCell (.inl rfl) 1 _
          have O7 : Hid (Ow 47 Z (fun b => W0.heap.size ≤ b ∧ b ≠ bz) (.slice A7 nl c7) nl (CU L0)) := (O7.out.not HN_bz.out.1 (by decide)).fo hfz fun b hb => hb.2
          try go_simp
          try rw [hZ]
          refine hK.out _ _ HZB.out (fun hHeld => ?_)
          clear hHeld hfz hZ z0 z1 zf0 zf1
          clear hK K0
          try simp only [Act.put, List.getElem_toArray, List.getElem_cons_succ, List.getElem_cons_zero, List.setIfInBounds_toArray, List.set_cons_zero, List.set_cons_succ]
          refine wpAnyH_done (by kernel_rfl) ?_ _
          clear HN_bz B_Veaz H3 H4 H0
          go_wp2_with fail
          go_meet
          case rel => exact ⟨⟨bz, A7, c7, rfl, HZB.out, HZZ.out, O7.out⟩⟩
        · obtain ⟨Vez, h_Vez⟩ : ∃ W, Ve.alloc (.cells #[.int .i64 0, .slice none 0 0] 80) = W := ⟨_, rfl⟩
          obtain ⟨bz, h_bz⟩ : ∃ vb, Ve.heap.size = vb := ⟨_, rfl⟩
          have b_Vez : Below Ve.heap.size Ve Vez := by rw [← h_Vez]; exact (Below.refl _ _).alloc (Nat.le_refl _) _
          have B_Vez : Hid (Below W0.heap.size W0 Vez) := B_Ve.out.trans (b_Vez.mono B_Ve.out.size)
          have HN_bz : Hid (Vez.heap[bz]? = some (.cells #[.int .i64 0, .slice none 0 0] 80 (0, 0)) ∧ W0.heap.size ≤ bz) := ⟨by rw [← h_Vez, ← h_bz]; exact heap_alloc_new _ _, by rw [← h_bz]; exact B_Ve.out.size⟩
          have HN_be : Hid (Vez.heap[be]? = some (.cells #[] 47 (0, 0)) ∧ W0.heap.size ≤ be) := ⟨(b_Vez.block be (Array.getElem?_eq_some_iff.1 HN_be.out.1).1).trans HN_be.out.1, HN_be.out.2⟩
          have HD : Hid (bz ≠ be) := by unfold Hid; intro e; have h := HN_be.out; rw [e] at HN_bz; have h2 := HN_bz.out.1; rw [h.1] at h2; injection h2 with h2; injection h2 with _ h3; exact absurd h3 (by decide)
          try go_simp
          try rw [h_Vez]
          try rw [h_bz]
          refine hK.out _ _ B_Vez.out (fun hHeld => ?_)
          clear h_Vez h_bz b_Vez hHeld
          clear hK K0
          try simp only [Act.put, List.getElem_toArray, List.getElem_cons_succ, List.getElem_cons_zero, List.setIfInBounds_toArray, List.set_cons_zero, List.set_cons_succ]
          refine wpAnyH_ready (rs := [7]) (by kernel_rfl) (by simp) ?_
          refine AllReadyH.cons rfl (fun K0 hK => ?_) (AllReadyH.nil)
          have ho0 : Vez.ownsRow be 47 1 (.slice (some ⟨be, 0, none⟩) 0 0) 0 [] := ⟨rfl, .inr ⟨be, 0, #[], rfl, Nat.le_refl _, HN_be.out.1, Nat.le_refl _, by unfold maxLen; omega, rfl, rfl⟩⟩
          refine wp_append_any Vez (.tmp 39) (.tmp 43) 33 rfl be 47 i1 (.int .u32 0) 1 4 Try.underlying33 ji jz0 jz1 jz2 rfl (by decide) (.slice (some ⟨be, 0, none⟩) 0 0) 0 [] rfl ho0 Vez.heap.size A0 nl c0 (CU L0) rfl (RL.out Vez B_Vez.out) (CU_one _) (by have := HN.out; unfold maxLen; omega) (by have := HN.out; omega) (by have := (Array.getElem?_eq_some_iff.1 HN_be.out.1).1; omega) ?_
          intro v7 Veza ho7 hg7 hb7
          have r7 : Veza.ownsRow be 47 1 v7 nl (CU L0) := by simpa using ho7
          obtain ⟨A7, c7, rfl⟩ := slice_form r7
          have b7 : Below be Vez Veza := (Below.refl _ _).grown hg7 (by have := (Array.getElem?_eq_some_iff.1 HN_be.out.1).1; omega) (fun q hq => by have h' : some be = some q := hq; injection h' with h'; omega)
          have O7 : Hid (Ow 47 Veza (fun b => W0.heap.size ≤ b) (.slice A7 nl c7) nl (CU L0)) := (Ow.of_own r7).imp fun b _ hb => by have := HN_be.out.2; omega
          have B_Veza : Hid (Below W0.heap.size W0 Veza) := B_Vez.out.trans (b7.mono HN_be.out.2)
          have HN_bz : Hid (Veza.heap[bz]? = some (.cells #[.int .i64 0, .slice none 0 0] 80 (0, 0)) ∧ W0.heap.size ≤ bz) := ⟨(hg7.block bz (Array.getElem?_eq_some_iff.1 HN_bz.out.1).1 (fun e => by have h' : some bz = some be := e; injection h' with h'; exact HD.out h')).trans HN_bz.out.1, HN_bz.out.2⟩
          clear ho0 ho7 hg7 hb7 r7 b7
          refine hK.out _ _ B_Veza.out (fun hHeld => ?_)
          clear hHeld
          clear hK K0
          try simp only [Act.put, List.getElem_toArray, List.getElem_cons_succ, List.getElem_cons_zero, List.setIfInBounds_toArray, List.set_cons_zero, List.set_cons_succ]
          refine takeD (i := 8) (d := some 45) (v := ?_) _ rfl rfl (by kernel_rfl) (by kernel_rfl) (by kernel_rfl) (fun _ _ _ h => h) (by rfl) ?_ B_Veza.out ?_
          rotate_left
          · (intro w hSw; (try dsimp only at hSw); go_simp) <;> with_reducible rfl
          try simp only [Act.put, List.setIfInBounds_toArray, List.set_cons_zero, List.set_cons_succ]
          have z0 : Veza.cell? ⟨bz, 0, none⟩ = some (.int .i64 0) := by rw [(row_cell HN_bz.out.1 0).1]; rfl
          have z1 : Veza.cell? ⟨bz, 1, none⟩ = some (.slice none 0 0) := by rw [(row_cell HN_bz.out.1 1).1]; rfl
          have zf0 : Veza.frozen? ⟨bz, 0, none⟩ = false := (row_cell HN_bz.out.1 0).2
          have zf1 : Veza.frozen? ⟨bz, 1, none⟩ = false := (row_cell HN_bz.out.1 1).2
          refine wpAnyH_ready (rs := [10]) (by kernel_rfl) (by simp) ?_
          refine AllReadyH.cons rfl (fun K0 hK => ?_) (AllReadyH.nil)
          obtain ⟨Z, hZ⟩ : ∃ Z, (Veza.setCell ⟨bz, 0, none⟩ (.int .i64 next)).setCell ⟨bz, 1, none⟩ (.slice A7 nl c7) = Z := ⟨_, rfl⟩
          have HZB : Hid (Below W0.heap.size W0 Z) := by rw [← hZ]; exact (B_Veza.out.setCell HN_bz.out.2 _).setCell HN_bz.out.2 _
          have HZZ : Hid (Z.heap[bz]? = some (.cells #[.int .i64 next, .slice A7 nl c7] 80 (0, 0)) ∧ W0.heap.size ≤ bz) := ⟨by rw [← hZ]; simpa using set_at (set_at HN_bz.out.1 0 (.int .i64 next)) 1 (.slice A7 nl c7), HN_bz.out.2⟩
          have hfz : Fo (fun b => b = bz) Veza Z := by rw [← hZ]; exact ((Fo.refl (fun b => b = bz) Veza).setCell (.inl rfl) 0 _).setCell (.inl rfl) 1 _
          have O7 : Hid (Ow 47 Z (fun b => W0.heap.size ≤ b ∧ b ≠ bz) (.slice A7 nl c7) nl (CU L0)) := (O7.out.not HN_bz.out.1 (by decide)).fo hfz fun b hb => hb.2
          try go_simp
          try rw [hZ]
          refine hK.out _ _ HZB.out (fun hHeld => ?_)
          clear hHeld hfz hZ z0 z1 zf0 zf1
          clear hK K0
          try simp only [Act.put, List.getElem_toArray, List.getElem_cons_succ, List.getElem_cons_zero, List.setIfInBounds_toArray, List.set_cons_zero, List.set_cons_succ]
          refine wpAnyH_done (by kernel_rfl) ?_ _
          clear HN_bz B_Veza H3 H4 H0
          go_wp2_with fail
          go_meet
          case rel => exact ⟨⟨bz, A7, c7, rfl, HZB.out, HZZ.out, O7.out⟩⟩
      · obtain ⟨Vz, h_Vz⟩ : ∃ W, V.alloc (.cells #[.int .i64 0, .slice none 0 0] 80) = W := ⟨_, rfl⟩
        obtain ⟨bz, h_bz⟩ : ∃ vb, V.heap.size = vb := ⟨_, rfl⟩
        have b_Vz : Below V.heap.size V Vz := by rw [← h_Vz]; exact (Below.refl _ _).alloc (Nat.le_refl _) _
        have B_Vz : Hid (Below W0.heap.size W0 Vz) := B_V.out.trans (b_Vz.mono B_V.out.size)
        have HN_bz : Hid (Vz.heap[bz]? = some (.cells #[.int .i64 0, .slice none 0 0] 80 (0, 0)) ∧ W0.heap.size ≤ bz) := ⟨by rw [← h_Vz, ← h_bz]; exact heap_alloc_new _ _, by rw [← h_bz]; exact B_V.out.size⟩
        try go_simp
        try rw [h_Vz]
        try rw [h_bz]
        refine hK.out _ _ B_Vz.out (fun hHeld => ?_)
        clear h_Vz h_bz b_Vz hHeld
        clear hK K0
        try simp only [Act.put, List.getElem_toArray, List.getElem_cons_succ, List.getElem_cons_zero, List.setIfInBounds_toArray, List.set_cons_zero, List.set_cons_succ]
        refine wpAnyH_ready (rs := [2]) (by kernel_rfl) (by simp) ?_
        refine AllReadyH.cons rfl (fun K0 hK => ?_) (AllReadyH.nil)
        obtain ⟨Vze, h_Vze⟩ : ∃ W, Vz.alloc (.cells #[] 47) = W := ⟨_, rfl⟩
        obtain ⟨be, h_be⟩ : ∃ vb, Vz.heap.size = vb := ⟨_, rfl⟩
        have b_Vze : Below Vz.heap.size Vz Vze := by rw [← h_Vze]; exact (Below.refl _ _).alloc (Nat.le_refl _) _
        have B_Vze : Hid (Below W0.heap.size W0 Vze) := B_Vz.out.trans (b_Vze.mono B_Vz.out.size)
        have HN_be : Hid (Vze.heap[be]? = some (.cells #[] 47 (0, 0)) ∧ W0.heap.size ≤ be) := ⟨by rw [← h_Vze, ← h_be]; exact heap_alloc_new _ _, by rw [← h_be]; exact B_Vz.out.size⟩
        have HN_bz : Hid (Vze.heap[bz]? = some (.cells #[.int .i64 0, .slice none 0 0] 80 (0, 0)) ∧ W0.heap.size ≤ bz) := ⟨(b_Vze.block bz (Array.getElem?_eq_some_iff.1 HN_bz.out.1).1).trans HN_bz.out.1, HN_bz.out.2⟩
        have HD : Hid (bz ≠ be) := by have := (Array.getElem?_eq_some_iff.1 HN_bz.out.1).1; have h := HN_be.out; unfold Hid; intro e; rw [e] at HN_bz; have h2 := HN_bz.out.1; rw [h.1] at h2; injection h2 with h2; injection h2 with _ h3; exact absurd h3 (by decide)
        try go_simp
        try rw [h_Vze]
        try rw [h_be]
        refine hK.out _ _ B_Vze.out (fun hHeld => ?_)
        clear h_Vze h_be b_Vze hHeld
        clear hK K0
        try simp only [Act.put, List.getElem_toArray, List.getElem_cons_succ, List.getElem_cons_zero, List.setIfInBounds_toArray, List.set_cons_zero, List.set_cons_succ]
        refine wpAnyH_ready (rs := [7]) (by kernel_rfl) (by simp) ?_
        refine AllReadyH.cons rfl (fun K0 hK => ?_) (AllReadyH.nil)
        have ho0 : Vze.ownsRow be 47 1 (.slice (some ⟨be, 0, none⟩) 0 0) 0 [] := ⟨rfl, .inr ⟨be, 0, #[], rfl, Nat.le_refl _, HN_be.out.1, Nat.le_refl _, by unfold maxLen; omega, rfl, rfl⟩⟩
        refine wp_append_any Vze (.tmp 39) (.tmp 43) 33 rfl be 47 i1 (.int .u32 0) 1 4 Try.underlying33 ji jz0 jz1 jz2 rfl (by decide) (.slice (some ⟨be, 0, none⟩) 0 0) 0 [] rfl ho0 Vze.heap.size A0 nl c0 (CU L0) rfl (RL.out Vze B_Vze.out) (CU_one _) (by have := HN.out; unfold maxLen; omega) (by have := HN.out; omega) (by have := (Array.getElem?_eq_some_iff.1 HN_be.out.1).1; omega) ?_
        intro v7 Vzea ho7 hg7 hb7
        have r7 : Vzea.ownsRow be 47 1 v7 nl (CU L0) := by simpa using ho7
        obtain ⟨A7, c7, rfl⟩ := slice_form r7
        have b7 : Below be Vze Vzea := (Below.refl _ _).grown hg7 (by have := (Array.getElem?_eq_some_iff.1 HN_be.out.1).1; omega) (fun q hq => by have h' : some be = some q := hq; injection h' with h'; omega)
        have O7 : Hid (Ow 47 Vzea (fun b => W0.heap.size ≤ b) (.slice A7 nl c7) nl (CU L0)) := (Ow.of_own r7).imp fun b _ hb => by have := HN_be.out.2; omega
        have B_Vzea : Hid (Below W0.heap.size W0 Vzea) := B_Vze.out.trans (b7.mono HN_be.out.2)
        have HN_bz : Hid (Vzea.heap[bz]? = some (.cells #[.int .i64 0, .slice none 0 0] 80 (0, 0)) ∧ W0.heap.size ≤ bz) := ⟨(hg7.block bz (Array.getElem?_eq_some_iff.1 HN_bz.out.1).1 (fun e => by have h' : some bz = some be := e; injection h' with h'; exact HD.out h')).trans HN_bz.out.1, HN_bz.out.2⟩
        clear ho0 ho7 hg7 hb7 r7 b7
        refine hK.out _ _ B_Vzea.out (fun hHeld => ?_)
        clear hHeld
        clear hK K0
        try simp only [Act.put, List.getElem_toArray, List.getElem_cons_succ, List.getElem_cons_zero, List.setIfInBounds_toArray, List.set_cons_zero, List.set_cons_succ]
        refine takeD (i := 8) (d := some 45) (v := ?_) _ rfl rfl (by kernel_rfl) (by kernel_rfl) (by kernel_rfl) (fun _ _ _ h => h) (by rfl) ?_ B_Vzea.out ?_
        rotate_left
        · (intro w hSw; (try dsimp only at hSw); go_simp) <;> with_reducible rfl
        try simp only [Act.put, List.setIfInBounds_toArray, List.set_cons_zero, List.set_cons_succ]
        have z0 : Vzea.cell? ⟨bz, 0, none⟩ = some (.int .i64 0) := by rw [(row_cell HN_bz.out.1 0).1]; rfl
        have z1 : Vzea.cell? ⟨bz, 1, none⟩ = some (.slice none 0 0) := by rw [(row_cell HN_bz.out.1 1).1]; rfl
        have zf0 : Vzea.frozen? ⟨bz, 0, none⟩ = false := (row_cell HN_bz.out.1 0).2
        have zf1 : Vzea.frozen? ⟨bz, 1, none⟩ = false := (row_cell HN_bz.out.1 1).2
        refine wpAnyH_ready (rs := [10]) (by kernel_rfl) (by simp) ?_
        refine AllReadyH.cons rfl (fun K0 hK => ?_) (AllReadyH.nil)
        obtain ⟨Z, hZ⟩ : ∃ Z, (Vzea.setCell ⟨bz, 0, none⟩ (.int .i64 next)).setCell ⟨bz, 1, none⟩ (.slice A7 nl c7) = Z := ⟨_, rfl⟩
        have HZB : Hid (Below W0.heap.size W0 Z) := by rw [← hZ]; exact (B_Vzea.out.setCell HN_bz.out.2 _).setCell HN_bz.out.2 _
        have HZZ : Hid (Z.heap[bz]? = some (.cells #[.int .i64 next, .slice A7 nl c7] 80 (0, 0)) ∧ W0.heap.size ≤ bz) := ⟨by rw [← hZ]; simpa using set_at (set_at HN_bz.out.1 0 (.int .i64 next)) 1 (.slice A7 nl c7), HN_bz.out.2⟩
        have hfz : Fo (fun b => b = bz) Vzea Z := by rw [← hZ]; exact ((Fo.refl (fun b => b = bz) Vzea).setCell (.inl rfl) 0 _).setCell (.inl rfl) 1 _
        have O7 : Hid (Ow 47 Z (fun b => W0.heap.size ≤ b ∧ b ≠ bz) (.slice A7 nl c7) nl (CU L0)) := (O7.out.not HN_bz.out.1 (by decide)).fo hfz fun b hb => hb.2
        try go_simp
        try rw [hZ]
        refine hK.out _ _ HZB.out (fun hHeld => ?_)
        clear hHeld hfz hZ z0 z1 zf0 zf1
        clear hK K0
        try simp only [Act.put, List.getElem_toArray, List.getElem_cons_succ, List.getElem_cons_zero, List.setIfInBounds_toArray, List.set_cons_zero, List.set_cons_succ]
        refine wpAnyH_done (by kernel_rfl) ?_ _
        clear HN_bz B_Vzea H3 H4 H0
        go_wp2_with fail
        go_meet
        case rel => exact ⟨⟨bz, A7, c7, rfl, HZB.out, HZZ.out, O7.out⟩⟩
    case rest =>
      obtain ⟨⟨bz, A7, c7, rfl, hb5, hz5, o7⟩⟩ := hcut
      have HBC := Lib.hid hb5
      have HZC := Lib.hid hz5
      have OC := Lib.hid o7
      clear hb5 hz5 o7
      have XC : Hid (wc.heap[X]? = some (.cells #[.int .i64 gap, .int .i64 words, .int .i64 room, .slice (some ⟨b1, off1, none⟩) nr cr, .int .i64 next, .int .i64 rl] 27 (0, 0)) ∧ wc.heap[X + 1]? = some (.cells #[.int .i64 0, .int .i64 0, .int .i64 0, .slice none 0 0, .int .i64 0, .int .i64 0] 27 (0, 0)) ∧ wc.heap[X + 2]? = some (.cells #[.int .i64 0, .slice none 0 0] 80 (0, 0))) :=
        ⟨(HBC.out.block X (by have := S0.out; omega)).trans HB0.out, (HBC.out.block (X + 1) (by have := S0.out; omega)).trans HB1.out, (HBC.out.block (X + 2) (by have := S0.out; omega)).trans HB2.out⟩
      obtain ⟨W5, hW5⟩ : ∃ W5, (((wc.setCell ⟨X, 3, none⟩ (.slice A1 (nr - 1) (cr - 1))).setCell ⟨X, 4, none⟩ (.int .i64 ((next + 1).tmod 256))).setCell ⟨X, 5, none⟩ (.int .i64 now)) = W5 := ⟨_, rfl⟩
      have nbz : bz ≠ X := by have := HZC.out.2; have := S0.out; omega
      have H5 : Hid (W5.heap[X]? = some (.cells #[.int .i64 gap, .int .i64 words, .int .i64 room, .slice A1 (nr - 1) (cr - 1), .int .i64 ((next + 1).tmod 256), .int .i64 now] 27 (0, 0)) ∧ W5.heap[X + 1]? = some (.cells #[.int .i64 0, .int .i64 0, .int .i64 0, .slice none 0 0, .int .i64 0, .int .i64 0] 27 (0, 0)) ∧ W5.heap[X + 2]? = some (.cells #[.int .i64 0, .slice none 0 0] 80 (0, 0)) ∧ W5.heap[bz]? = some (.cells #[.int .i64 next, .slice A7 nl c7] 80 (0, 0)) ∧ X + 3 ≤ bz) := by
        rw [← hW5]
        refine ⟨by simpa using set_at (set_at (set_at XC.out.1 3 (.slice A1 (nr - 1) (cr - 1))) 4 (.int .i64 ((next + 1).tmod 256))) 5 (.int .i64 now), ?_, ?_, ?_, by have := HZC.out.2; have := S0.out; omega⟩
        · exact (set_far 5 _ (by omega)).trans ((set_far 4 _ (by omega)).trans ((set_far 3 _ (by omega)).trans XC.out.2.1))
        · exact (set_far 5 _ (by omega)).trans ((set_far 4 _ (by omega)).trans ((set_far 3 _ (by omega)).trans XC.out.2.2))
        · exact (set_far 5 _ nbz).trans ((set_far 4 _ nbz).trans ((set_far 3 _ nbz).trans HZC.out.1))
      have B5 : Hid (Below X w W5) := by rw [← hW5]; exact (((B0.out.trans (HBC.out.mono (by have := S0.out; omega))).setCell (Nat.le_refl _) _).setCell (Nat.le_refl _) _).setCell (Nat.le_refl _) _
      have O5 : Hid (Ow 47 W5 (fun b => X + 3 ≤ b) (.slice A7 nl c7) nl (CU L0)) := by
        have hf : Fo (fun b => b = X) wc W5 := by rw [← hW5]; exact (((Fo.refl (fun b => b = X) wc).setCell (.inl rfl) 3 _).setCell (.inl rfl) 4 _).setCell (.inl rfl) 5 _
        exact (OC.out.fo hf (fun b hb e => by have := S0.out; omega)).imp fun b _ hb => by have := S0.out; omega
      have H7X : Hid (∀ W, Fo (fun b => b = X + 1 ∨ b = X + 2) W5 W → W.heap[X]? = some (.cells #[.int .i64 gap, .int .i64 words, .int .i64 room, .slice A1 (nr - 1) (cr - 1), .int .i64 ((next + 1).tmod 256), .int .i64 now] 27 (0, 0))) := fun W hf => (hf.block X (Array.getElem?_eq_some_iff.1 H5.out.1).1 (by omega)).trans H5.out.1
      have H7Z : Hid (∀ W, Fo (fun b => b = X + 1 ∨ b = X + 2) W5 W → W.heap[bz]? = some (.cells #[.int .i64 next, .slice A7 nl c7] 80 (0, 0))) := fun W hf => (hf.block bz (Array.getElem?_eq_some_iff.1 H5.out.2.2.2.1).1 (by have := H5.out.2.2.2.2; omega)).trans H5.out.2.2.2.1
      clear HBC HZC OC nbz x0 x1 x2 x3 x4 x5 xf0 xf1 xf2 xf3 xf4 xf5 y0 y1 y2 y3 y4 y5 yf0 yf1 yf2 yf3 yf4 yf5 z0 z1 zf0 zf1
      have x0 : wc.cell? ⟨X, 0, none⟩ = some (.int .i64 gap) := by rw [(row_cell XC.out.1 0).1]; rfl
      have x1 : wc.cell? ⟨X, 1, none⟩ = some (.int .i64 words) := by rw [(row_cell XC.out.1 1).1]; rfl
      have x2 : wc.cell? ⟨X, 2, none⟩ = some (.int .i64 room) := by rw [(row_cell XC.out.1 2).1]; rfl
      have x3 : wc.cell? ⟨X, 3, none⟩ = some (.slice (some ⟨b1, off1, none⟩) nr cr) := by rw [(row_cell XC.out.1 3).1]; rfl
      have x4 : wc.cell? ⟨X, 4, none⟩ = some (.int .i64 next) := by rw [(row_cell XC.out.1 4).1]; rfl
      have x5 : wc.cell? ⟨X, 5, none⟩ = some (.int .i64 rl) := by rw [(row_cell XC.out.1 5).1]; rfl
      have xf3 : wc.frozen? ⟨X, 3, none⟩ = false := (row_cell XC.out.1 3).2
      have xf4 : wc.frozen? ⟨X, 4, none⟩ = false := (row_cell XC.out.1 4).2
      have xf5 : wc.frozen? ⟨X, 5, none⟩ = false := (row_cell XC.out.1 5).2
      go_wp2_with fail
      refine wp_region_held_drew (S := (fun w' => Fo (fun b => b = X + 1 ∨ b = X + 2) W5 w')) (by kernel_rfl) ?_ (fun hHeld => ?_)
      · exact ⟨rfl, rfl, rfl, Nat.le_refl _, fun _ _ _ => rfl⟩
      refine takeD (i := 0) (d := some 57) (v := ?_) _ rfl rfl (by kernel_rfl) (by kernel_rfl) (by kernel_rfl) (fun _ _ _ h => h) (by rfl) ?_ (by assumption) ?_
      rotate_left
      · (intro w hSw
         have hx := H7X.out w hSw
         have l0 : w.cell? ⟨X, 0, none⟩ = some (.int .i64 gap) := by rw [(row_cell hx 0).1]; rfl
         have l1 : w.cell? ⟨X, 1, none⟩ = some (.int .i64 words) := by rw [(row_cell hx 1).1]; rfl
         have l2 : w.cell? ⟨X, 2, none⟩ = some (.int .i64 room) := by rw [(row_cell hx 2).1]; rfl
         have l3 : w.cell? ⟨X, 3, none⟩ = some (.slice A1 (nr - 1) (cr - 1)) := by rw [(row_cell hx 3).1]; rfl
         have l4 : w.cell? ⟨X, 4, none⟩ = some (.int .i64 ((next + 1).tmod 256)) := by rw [(row_cell hx 4).1]; rfl
         have l5 : w.cell? ⟨X, 5, none⟩ = some (.int .i64 now) := by rw [(row_cell hx 5).1]; rfl
         clear hx
         (try dsimp only at hSw)
         go_simp) <;> with_reducible rfl
      try simp only [Act.put, List.setIfInBounds_toArray, List.set_cons_zero, List.set_cons_succ]
      refine takeD (i := 1) (d := some 58) (v := ?_) _ rfl rfl (by kernel_rfl) (by kernel_rfl) (by kernel_rfl) (fun _ _ _ h => h) (by rfl) ?_ (by assumption) ?_
      rotate_left
      · (intro w hSw
         have hx := H7Z.out w hSw
         have l0 : w.cell? ⟨bz, 0, none⟩ = some (.int .i64 next) := by rw [(row_cell hx 0).1]; rfl
         have l1 : w.cell? ⟨bz, 1, none⟩ = some (.slice A7 nl c7) := by rw [(row_cell hx 1).1]; rfl
         clear hx
         (try dsimp only at hSw)
         go_simp) <;> with_reducible rfl
      try simp only [Act.put, List.setIfInBounds_toArray, List.set_cons_zero, List.set_cons_succ]
      obtain ⟨V, hV⟩ : ∃ V, W5.drew = V := ⟨_, rfl⟩
      have FV : Hid (Fo (fun b => b = X + 1 ∨ b = X + 2) W5 V) := by rw [← hV]; exact ⟨rfl, rfl, rfl, Nat.le_refl _, fun _ _ _ => rfl⟩
      have HV5 : Hid (V.heap[X + 1]? = some (.cells #[.int .i64 0, .int .i64 0, .int .i64 0, .slice none 0 0, .int .i64 0, .int .i64 0] 27 (0, 0)) ∧ V.heap[X + 2]? = some (.cells #[.int .i64 0, .slice none 0 0] 80 (0, 0)) ∧ Below W5.heap.size W5 V) := by rw [← hV]; exact ⟨H5.out.2.1, H5.out.2.2.1, (Below.refl _ _).drew⟩
      simp only [hV]
      clear hV hHeld
      have y0 : V.cell? ⟨X + 1, 0, none⟩ = some (.int .i64 0) := by rw [(row_cell HV5.out.1 0).1]; rfl
      have y1 : V.cell? ⟨X + 1, 1, none⟩ = some (.int .i64 0) := by rw [(row_cell HV5.out.1 1).1]; rfl
      have y2 : V.cell? ⟨X + 1, 2, none⟩ = some (.int .i64 0) := by rw [(row_cell HV5.out.1 2).1]; rfl
      have y3 : V.cell? ⟨X + 1, 3, none⟩ = some (.slice none 0 0) := by rw [(row_cell HV5.out.1 3).1]; rfl
      have y4 : V.cell? ⟨X + 1, 4, none⟩ = some (.int .i64 0) := by rw [(row_cell HV5.out.1 4).1]; rfl
      have y5 : V.cell? ⟨X + 1, 5, none⟩ = some (.int .i64 0) := by rw [(row_cell HV5.out.1 5).1]; rfl
      have yf0 : V.frozen? ⟨X + 1, 0, none⟩ = false := (row_cell HV5.out.1 0).2
      have yf1 : V.frozen? ⟨X + 1, 1, none⟩ = false := (row_cell HV5.out.1 1).2
      have yf2 : V.frozen? ⟨X + 1, 2, none⟩ = false := (row_cell HV5.out.1 2).2
      have yf3 : V.frozen? ⟨X + 1, 3, none⟩ = false := (row_cell HV5.out.1 3).2
      have yf4 : V.frozen? ⟨X + 1, 4, none⟩ = false := (row_cell HV5.out.1 4).2
      have yf5 : V.frozen? ⟨X + 1, 5, none⟩ = false := (row_cell HV5.out.1 5).2
      refine wpAnyH_ready (rs := [2]) (by kernel_rfl) (by simp) ?_
      refine AllReadyH.cons rfl (fun K0 hK => ?_) (AllReadyH.nil)
      try go_simp
      refine hK.out _ _ ((((((FV.out.setCell (.inl (.inl rfl)) 0 _).setCell (.inl (.inl rfl)) 1 _).setCell (.inl (.inl rfl)) 2 _).setCell (.inl (.inl rfl)) 3 _).setCell (.inl (.inl rfl)) 4 _).setCell (.inl (.inl rfl)) 5 _) (fun hHeld => ?_)
      clear hHeld y0 y1 y2 y3 y4 y5 yf0 yf1 yf2 yf3 yf4 yf5
      clear hK K0
      try simp only [Act.put, List.getElem_toArray, List.getElem_cons_succ, List.getElem_cons_zero, List.setIfInBounds_toArray, List.set_cons_zero, List.set_cons_succ]
      have HZ2 : Hid (((((((V.setCell ⟨X + 1, 0, none⟩ (.int .i64 gap)).setCell ⟨X + 1, 1, none⟩ (.int .i64 words)).setCell ⟨X + 1, 2, none⟩ (.int .i64 room)).setCell ⟨X + 1, 3, none⟩ (.slice A1 (nr - 1) (cr - 1))).setCell ⟨X + 1, 4, none⟩ (.int .i64 ((next + 1).tmod 256))).setCell ⟨X + 1, 5, none⟩ (.int .i64 now)).heap[X + 2]? = some (.cells #[.int .i64 0, .slice none 0 0] 80 (0, 0))) := (set_far 5 _ (show X + 2 ≠ X + 1 by omega)).trans ((set_far 4 _ (show X + 2 ≠ X + 1 by omega)).trans ((set_far 3 _ (show X + 2 ≠ X + 1 by omega)).trans ((set_far 2 _ (show X + 2 ≠ X + 1 by omega)).trans ((set_far 1 _ (show X + 2 ≠ X + 1 by omega)).trans ((set_far 0 _ (show X + 2 ≠ X + 1 by omega)).trans (HV5.out.2.1))))))
      have z0 : ((((((V.setCell ⟨X + 1, 0, none⟩ (.int .i64 gap)).setCell ⟨X + 1, 1, none⟩ (.int .i64 words)).setCell ⟨X + 1, 2, none⟩ (.int .i64 room)).setCell ⟨X + 1, 3, none⟩ (.slice A1 (nr - 1) (cr - 1))).setCell ⟨X + 1, 4, none⟩ (.int .i64 ((next + 1).tmod 256))).setCell ⟨X + 1, 5, none⟩ (.int .i64 now)).cell? ⟨X + 2, 0, none⟩ = some (.int .i64 0) := by rw [(row_cell HZ2.out 0).1]; rfl
      have z1 : ((((((V.setCell ⟨X + 1, 0, none⟩ (.int .i64 gap)).setCell ⟨X + 1, 1, none⟩ (.int .i64 words)).setCell ⟨X + 1, 2, none⟩ (.int .i64 room)).setCell ⟨X + 1, 3, none⟩ (.slice A1 (nr - 1) (cr - 1))).setCell ⟨X + 1, 4, none⟩ (.int .i64 ((next + 1).tmod 256))).setCell ⟨X + 1, 5, none⟩ (.int .i64 now)).cell? ⟨X + 2, 1, none⟩ = some (.slice none 0 0) := by rw [(row_cell HZ2.out 1).1]; rfl
      have zf0 : ((((((V.setCell ⟨X + 1, 0, none⟩ (.int .i64 gap)).setCell ⟨X + 1, 1, none⟩ (.int .i64 words)).setCell ⟨X + 1, 2, none⟩ (.int .i64 room)).setCell ⟨X + 1, 3, none⟩ (.slice A1 (nr - 1) (cr - 1))).setCell ⟨X + 1, 4, none⟩ (.int .i64 ((next + 1).tmod 256))).setCell ⟨X + 1, 5, none⟩ (.int .i64 now)).frozen? ⟨X + 2, 0, none⟩ = false := (row_cell HZ2.out 0).2
      have zf1 : ((((((V.setCell ⟨X + 1, 0, none⟩ (.int .i64 gap)).setCell ⟨X + 1, 1, none⟩ (.int .i64 words)).setCell ⟨X + 1, 2, none⟩ (.int .i64 room)).setCell ⟨X + 1, 3, none⟩ (.slice A1 (nr - 1) (cr - 1))).setCell ⟨X + 1, 4, none⟩ (.int .i64 ((next + 1).tmod 256))).setCell ⟨X + 1, 5, none⟩ (.int .i64 now)).frozen? ⟨X + 2, 1, none⟩ = false := (row_cell HZ2.out 1).2
      refine wpAnyH_ready (rs := [3]) (by kernel_rfl) (by simp) ?_
      refine AllReadyH.cons rfl (fun K0 hK => ?_) (AllReadyH.nil)
      try go_simp
      refine hK.out _ _ ((((((((FV.out.setCell (.inl (.inl rfl)) 0 _).setCell (.inl (.inl rfl)) 1 _).setCell (.inl (.inl rfl)) 2 _).setCell (.inl (.inl rfl)) 3 _).setCell (.inl (.inl rfl)) 4 _).setCell (.inl (.inl rfl)) 5 _).setCell (.inl (.inr rfl)) 0 _).setCell (.inl (.inr rfl)) 1 _) (fun hHeld => ?_)
      clear hHeld z0 z1 zf0 zf1
      clear hK K0
      try simp only [Act.put, List.getElem_toArray, List.getElem_cons_succ, List.getElem_cons_zero, List.setIfInBounds_toArray, List.set_cons_zero, List.set_cons_succ]
      refine takeD (i := 4) (d := some 6) (v := ?_) _ rfl rfl (by kernel_rfl) (by kernel_rfl) (by kernel_rfl) (fun _ _ _ h => h) (by rfl) ?_ ((((((((FV.out.setCell (.inl (.inl rfl)) 0 _).setCell (.inl (.inl rfl)) 1 _).setCell (.inl (.inl rfl)) 2 _).setCell (.inl (.inl rfl)) 3 _).setCell (.inl (.inl rfl)) 4 _).setCell (.inl (.inl rfl)) 5 _).setCell (.inl (.inr rfl)) 0 _).setCell (.inl (.inr rfl)) 1 _) ?_
      rotate_left
      · (intro w hSw; (try dsimp only at hSw); go_simp) <;> with_reducible rfl
      try simp only [Act.put, List.setIfInBounds_toArray, List.set_cons_zero, List.set_cons_succ]
      refine wpAnyH_done (by kernel_rfl) ?_ _
      go_wp2_with fail
      have hY6 := set_six (w := V) HV5.out.1 (.int .i64 gap) (.int .i64 words) (.int .i64 room) (.slice A1 (nr - 1) (cr - 1)) (.int .i64 ((next + 1).tmod 256)) (.int .i64 now)
      have hYF := range_far (range_far hY6 (show X + 1 ≠ X + 2 by omega) 0 (.int .i64 next)) (show X + 1 ≠ X + 2 by omega) 1 (.slice A7 nl c7)
      have hZF := set_two HZ2.out (.int .i64 next) (.slice A7 nl c7)
      refine bodyPost_ret (results_cell_cell rfl _ _ (X + 1) (X + 2) _ _ _ _ rfl hYF Try.underlying27 rfl (by kernel_rfl) rfl hZF Try.underlying80 rfl (by kernel_rfl)) rfl ?_
      have hfF : Fo (fun b => b = X + 1 ∨ b = X + 2) V ((((((((V.setCell ⟨X + 1, 0, none⟩ (.int .i64 gap)).setCell ⟨X + 1, 1, none⟩ (.int .i64 words)).setCell ⟨X + 1, 2, none⟩ (.int .i64 room)).setCell ⟨X + 1, 3, none⟩ (.slice A1 (nr - 1) (cr - 1))).setCell ⟨X + 1, 4, none⟩ (.int .i64 ((next + 1).tmod 256))).setCell ⟨X + 1, 5, none⟩ (.int .i64 now)).setCell ⟨X + 2, 0, none⟩ (.int .i64 next)).setCell ⟨X + 2, 1, none⟩ (.slice A7 nl c7)) := (((((((((Fo.refl (fun b => b = X + 1 ∨ b = X + 2) V).setCell (.inl (.inl rfl)) 0 _).setCell (.inl (.inl rfl)) 1 _).setCell (.inl (.inl rfl)) 2 _).setCell (.inl (.inl rfl)) 3 _).setCell (.inl (.inl rfl)) 4 _).setCell (.inl (.inl rfl)) 5 _).setCell (.inl (.inr rfl)) 0 _).setCell (.inl (.inr rfl)) 1 _)
      refine ⟨A7, c7, rfl, ((O5.out.below HV5.out.2.2).fo hfF (fun b hb e => by omega)).imp fun b _ hb => by omega, ?_⟩
      exact (((((((B5.out.trans (HV5.out.2.2.mono (by have := B5.out.size; have := hX; omega))).setCell (by show X ≤ X + 1; omega) _).setCell (by show X ≤ X + 1; omega) _).setCell (by show X ≤ X + 1; omega) _).setCell (by show X ≤ X + 1; omega) _).setCell (by show X ≤ X + 1; omega) _).setCell (by show X ≤ X + 1; omega) _).setCell (by show X ≤ X + 2; omega) _ |>.setCell (by show X ≤ X + 2; omega) _
  · have e3 : decide (0 ≤ rl) = false := by simpa using h3
    clear hv hm hcp hml hl0 hg hn hl hmm hA1 hln hln1 hs hsq hbl hcc hnl hWB hc0 h3
    go_enter Try.func31, Try.ntmps31
    go_upto_region 3 with fail
    go_cut [7] (fun s7 wx => SCut W0 next nl L0 s7 wx)
    case first =>
      refine wp_region_held_drew (S := (fun w' => Below W0.heap.size W0 w')) (by kernel_rfl) ?_ (fun hHeld => ?_)
      · exact (Below.refl _ _).drew
      have B_V : Hid (Below W0.heap.size W0 W0.drew) := (Below.refl _ _).drew
      refine takeD (i := 0) (d := some 37) (v := ?_) _ rfl rfl (by kernel_rfl) (by kernel_rfl) (by kernel_rfl) (fun _ _ _ h => h) (by rfl) ?_ (by assumption) ?_
      rotate_left
      · (intro w hSw; (try dsimp only at hSw); go_simp) <;> with_reducible rfl
      try simp only [Act.put, List.setIfInBounds_toArray, List.set_cons_zero, List.set_cons_succ]
      refine takeD (i := 1) (d := some 38) (v := ?_) _ rfl rfl (by kernel_rfl) (by kernel_rfl) (by kernel_rfl) (fun _ _ _ h => h) (by rfl) ?_ (by assumption) ?_
      rotate_left
      · (intro w hSw; have l0 := H4.out w hSw; (try dsimp only at hSw); go_simp) <;> with_reducible rfl
      try simp only [Act.put, List.setIfInBounds_toArray, List.set_cons_zero, List.set_cons_succ]
      refine takeD (i := 3) (d := some 40) (v := ?_) _ rfl rfl (by kernel_rfl) (by kernel_rfl) (by kernel_rfl) (fun _ _ _ h => h) (by rfl) ?_ (by assumption) ?_
      rotate_left
      · (intro w hSw; (try dsimp only at hSw); go_simp) <;> with_reducible rfl
      try simp only [Act.put, List.setIfInBounds_toArray, List.set_cons_zero, List.set_cons_succ]
      refine takeD (i := 4) (d := some 41) (v := ?_) _ rfl rfl (by kernel_rfl) (by kernel_rfl) (by kernel_rfl) (fun _ _ _ h => h) (by rfl) ?_ (by assumption) ?_
      rotate_left
      · (intro w hSw; have l0 := H3.out w hSw; (try dsimp only at hSw); go_simp) <;> with_reducible rfl
      try simp only [Act.put, List.setIfInBounds_toArray, List.set_cons_zero, List.set_cons_succ]
      refine takeD (i := 5) (d := some 42) (v := ?_) _ rfl rfl (by kernel_rfl) (by kernel_rfl) (by kernel_rfl) (fun _ _ _ h => h) (by rfl) ?_ (by assumption) ?_
      rotate_left
      · (intro w hSw; (try dsimp only at hSw); go_simp) <;> with_reducible rfl
      try simp only [Act.put, List.setIfInBounds_toArray, List.set_cons_zero, List.set_cons_succ]
      refine takeD (i := 6) (d := some 43) (v := ?_) _ rfl rfl (by kernel_rfl) (by kernel_rfl) (by kernel_rfl) (fun _ _ _ h => h) (by rfl) ?_ (by assumption) ?_
      rotate_left
      · (intro w hSw; have l0 := H0.out w hSw; (try dsimp only at hSw); go_simp) <;> with_reducible rfl
      try simp only [Act.put, List.setIfInBounds_toArray, List.set_cons_zero, List.set_cons_succ]
      obtain ⟨V, hV⟩ : ∃ V, W0.drew = V := ⟨_, rfl⟩
      rw [hV] at B_V
      simp only [hV]
      clear hV hHeld
      refine wpAnyH_ready (rs := [2, 9]) (by kernel_rfl) (by simp) ?_
      refine AllReadyH.cons rfl (fun K0 hK => ?_) (AllReadyH.cons rfl (fun K0 hK => ?_) (AllReadyH.nil))
      · obtain ⟨Ve, h_Ve⟩ : ∃ W, V.alloc (.cells #[] 47) = W := ⟨_, rfl⟩
        obtain ⟨be, h_be⟩ : ∃ vb, V.heap.size = vb := ⟨_, rfl⟩
        have b_Ve : Below V.heap.size V Ve := by rw [← h_Ve]; exact (Below.refl _ _).alloc (Nat.le_refl _) _
        have B_Ve : Hid (Below W0.heap.size W0 Ve) := B_V.out.trans (b_Ve.mono B_V.out.size)
        have HN_be : Hid (Ve.heap[be]? = some (.cells #[] 47 (0, 0)) ∧ W0.heap.size ≤ be) := ⟨by rw [← h_Ve, ← h_be]; exact heap_alloc_new _ _, by rw [← h_be]; exact B_V.out.size⟩
        try go_simp
        try rw [h_Ve]
        try rw [h_be]
        refine hK.out _ _ B_Ve.out (fun hHeld => ?_)
        clear h_Ve h_be b_Ve hHeld
        clear hK K0
        try simp only [Act.put, List.getElem_toArray, List.getElem_cons_succ, List.getElem_cons_zero, List.setIfInBounds_toArray, List.set_cons_zero, List.set_cons_succ]
        refine wpAnyH_ready (rs := [7, 9]) (by kernel_rfl) (by simp) ?_
        refine AllReadyH.cons rfl (fun K0 hK => ?_) (AllReadyH.cons rfl (fun K0 hK => ?_) (AllReadyH.nil))
        · have ho0 : Ve.ownsRow be 47 1 (.slice (some ⟨be, 0, none⟩) 0 0) 0 [] := ⟨rfl, .inr ⟨be, 0, #[], rfl, Nat.le_refl _, HN_be.out.1, Nat.le_refl _, by unfold maxLen; omega, rfl, rfl⟩⟩
          refine wp_append_any Ve (.tmp 39) (.tmp 43) 33 rfl be 47 i1 (.int .u32 0) 1 4 Try.underlying33 ji jz0 jz1 jz2 rfl (by decide) (.slice (some ⟨be, 0, none⟩) 0 0) 0 [] rfl ho0 Ve.heap.size A0 nl c0 (CU L0) rfl (RL.out Ve B_Ve.out) (CU_one _) (by have := HN.out; unfold maxLen; omega) (by have := HN.out; omega) (by have := (Array.getElem?_eq_some_iff.1 HN_be.out.1).1; omega) ?_
          intro v7 Vea ho7 hg7 hb7
          have r7 : Vea.ownsRow be 47 1 v7 nl (CU L0) := by simpa using ho7
          obtain ⟨A7, c7, rfl⟩ := slice_form r7
          have b7 : Below be Ve Vea := (Below.refl _ _).grown hg7 (by have := (Array.getElem?_eq_some_iff.1 HN_be.out.1).1; omega) (fun q hq => by have h' : some be = some q := hq; injection h' with h'; omega)
          have O7 : Hid (Ow 47 Vea (fun b => W0.heap.size ≤ b) (.slice A7 nl c7) nl (CU L0)) := (Ow.of_own r7).imp fun b _ hb => by have := HN_be.out.2; omega
          have B_Vea : Hid (Below W0.heap.size W0 Vea) := B_Ve.out.trans (b7.mono HN_be.out.2)
          clear ho0 ho7 hg7 hb7 r7 b7
          refine hK.out _ _ B_Vea.out (fun hHeld => ?_)
          clear hHeld
          clear hK K0
          try simp only [Act.put, List.getElem_toArray, List.getElem_cons_succ, List.getElem_cons_zero, List.setIfInBounds_toArray, List.set_cons_zero, List.set_cons_succ]
          refine takeD (i := 8) (d := some 45) (v := ?_) _ rfl rfl (by kernel_rfl) (by kernel_rfl) (by kernel_rfl) (fun _ _ _ h => h) (by rfl) ?_ B_Vea.out ?_
          rotate_left
          · (intro w hSw; (try dsimp only at hSw); go_simp) <;> with_reducible rfl
          try simp only [Act.put, List.setIfInBounds_toArray, List.set_cons_zero, List.set_cons_succ]
          refine wpAnyH_ready (rs := [9]) (by kernel_rfl) (by simp) ?_
          refine AllReadyH.cons rfl (fun K0 hK => ?_) (AllReadyH.nil)
          obtain ⟨Veaz, h_Veaz⟩ : ∃ W, Vea.alloc (.cells #[.int .i64 0, .slice none 0 0] 80) = W := ⟨_, rfl⟩
          obtain ⟨bz, h_bz⟩ : ∃ vb, Vea.heap.size = vb := ⟨_, rfl⟩
          have b_Veaz : Below Vea.heap.size Vea Veaz := by rw [← h_Veaz]; exact (Below.refl _ _).alloc (Nat.le_refl _) _
          have B_Veaz : Hid (Below W0.heap.size W0 Veaz) := B_Vea.out.trans (b_Veaz.mono B_Vea.out.size)
          have HN_bz : Hid (Veaz.heap[bz]? = some (.cells #[.int .i64 0, .slice none 0 0] 80 (0, 0)) ∧ W0.heap.size ≤ bz) := ⟨by rw [← h_Veaz, ← h_bz]; exact heap_alloc_new _ _, by rw [← h_bz]; exact B_Vea.out.size⟩
          have O7 : Hid (Ow 47 Veaz (fun b => W0.heap.size ≤ b) (.slice A7 nl c7) nl (CU L0)) := O7.out.below b_Veaz
          try go_simp
          try rw [h_Veaz]
          try rw [h_bz]
          refine hK.out _ _ B_Veaz.out (fun hHeld => ?_)
          clear h_Veaz h_bz b_Veaz hHeld
          clear hK K0
          try simp only [Act.put, List.getElem_toArray, List.getElem_cons_succ, List.getElem_cons_zero, List.setIfInBounds_toArray, List.set_cons_zero, List.set_cons_succ]
          have z0 : Veaz.cell? ⟨bz, 0, none⟩ = some (.int .i64 0) := by rw [(row_cell HN_bz.out.1 0).1]; rfl
          have z1 : Veaz.cell? ⟨bz, 1, none⟩ = some (.slice none 0 0) := by rw [(row_cell HN_bz.out.1 1).1]; rfl
          have zf0 : Veaz.frozen? ⟨bz, 0, none⟩ = false := (row_cell HN_bz.out.1 0).2
          have zf1 : Veaz.frozen? ⟨bz, 1, none⟩ = false := (row_cell HN_bz.out.1 1).2
          refine wpAnyH_ready (rs := [10]) (by kernel_rfl) (by simp) ?_
          refine AllReadyH.cons rfl (fun K0 hK => ?_) (AllReadyH.nil)
          obtain ⟨Z, hZ⟩ : ∃ Z, (Veaz.setCell ⟨bz, 0, none⟩ (.int .i64 next)).setCell ⟨bz, 1, none⟩ (.slice A7 nl c7) = Z := ⟨_, rfl⟩
          have HZB : Hid (Below W0.heap.size W0 Z) := by rw [← hZ]; exact (B_Veaz.out.setCell HN_bz.out.2 _).setCell HN_bz.out.2 _
          have HZZ : Hid (Z.heap[bz]? = some (.cells #[.int .i64 next, .slice A7 nl c7] 80 (0, 0)) ∧ W0.heap.size ≤ bz) := ⟨by rw [← hZ]; simpa using set_at (set_at HN_bz.out.1 0 (.int .i64 next)) 1 (.slice A7 nl c7), HN_bz.out.2⟩
          have hfz : Fo (fun b => b = bz) Veaz Z := by rw [← hZ]; exact ((Fo.refl (fun b => b = bz) Veaz).setCell (.inl rfl) 0 _).setCell (.inl rfl) 1 _
          have O7 : Hid (Ow 47 Z (fun b => W0.heap.size ≤ b ∧ b ≠ bz) (.slice A7 nl c7) nl (CU L0)) := (O7.out.not HN_bz.out.1 (by decide)).fo hfz fun b hb => hb.2
          try go_simp
          try rw [hZ]
          refine hK.out _ _ HZB.out (fun hHeld => ?_)
          clear hHeld hfz hZ z0 z1 zf0 zf1
          clear hK K0
          try simp only [Act.put, List.getElem_toArray, List.getElem_cons_succ, List.getElem_cons_zero, List.setIfInBounds_toArray, List.set_cons_zero, List.set_cons_succ]
          refine wpAnyH_done (by kernel_rfl) ?_ _
          clear HN_bz B_Veaz H3 H4 H0
          go_wp2_with fail
          go_meet
          case rel => exact ⟨⟨bz, A7, c7, rfl, HZB.out, HZZ.out, O7.out⟩⟩
        · obtain ⟨Vez, h_Vez⟩ : ∃ W, Ve.alloc (.cells #[.int .i64 0, .slice none 0 0] 80) = W := ⟨_, rfl⟩
          obtain ⟨bz, h_bz⟩ : ∃ vb, Ve.heap.size = vb := ⟨_, rfl⟩
          have b_Vez : Below Ve.heap.size Ve Vez := by rw [← h_Vez]; exact (Below.refl _ _).alloc (Nat.le_refl _) _
          have B_Vez : Hid (Below W0.heap.size W0 Vez) := B_Ve.out.trans (b_Vez.mono B_Ve.out.size)
          have HN_bz : Hid (Vez.heap[bz]? = some (.cells #[.int .i64 0, .slice none 0 0] 80 (0, 0)) ∧ W0.heap.size ≤ bz) := ⟨by rw [← h_Vez, ← h_bz]; exact heap_alloc_new _ _, by rw [← h_bz]; exact B_Ve.out.size⟩
          have HN_be : Hid (Vez.heap[be]? = some (.cells #[] 47 (0, 0)) ∧ W0.heap.size ≤ be) := ⟨(b_Vez.block be (Array.getElem?_eq_some_iff.1 HN_be.out.1).1).trans HN_be.out.1, HN_be.out.2⟩
          have HD : Hid (bz ≠ be) := by unfold Hid; intro e; have h := HN_be.out; rw [e] at HN_bz; have h2 := HN_bz.out.1; rw [h.1] at h2; injection h2 with h2; injection h2 with _ h3; exact absurd h3 (by decide)
          try go_simp
          try rw [h_Vez]
          try rw [h_bz]
          refine hK.out _ _ B_Vez.out (fun hHeld => ?_)
          clear h_Vez h_bz b_Vez hHeld
          clear hK K0
          try simp only [Act.put, List.getElem_toArray, List.getElem_cons_succ, List.getElem_cons_zero, List.setIfInBounds_toArray, List.set_cons_zero, List.set_cons_succ]
          refine wpAnyH_ready (rs := [7]) (by kernel_rfl) (by simp) ?_
          refine AllReadyH.cons rfl (fun K0 hK => ?_) (AllReadyH.nil)
          have ho0 : Vez.ownsRow be 47 1 (.slice (some ⟨be, 0, none⟩) 0 0) 0 [] := ⟨rfl, .inr ⟨be, 0, #[], rfl, Nat.le_refl _, HN_be.out.1, Nat.le_refl _, by unfold maxLen; omega, rfl, rfl⟩⟩
          refine wp_append_any Vez (.tmp 39) (.tmp 43) 33 rfl be 47 i1 (.int .u32 0) 1 4 Try.underlying33 ji jz0 jz1 jz2 rfl (by decide) (.slice (some ⟨be, 0, none⟩) 0 0) 0 [] rfl ho0 Vez.heap.size A0 nl c0 (CU L0) rfl (RL.out Vez B_Vez.out) (CU_one _) (by have := HN.out; unfold maxLen; omega) (by have := HN.out; omega) (by have := (Array.getElem?_eq_some_iff.1 HN_be.out.1).1; omega) ?_
          intro v7 Veza ho7 hg7 hb7
          have r7 : Veza.ownsRow be 47 1 v7 nl (CU L0) := by simpa using ho7
          obtain ⟨A7, c7, rfl⟩ := slice_form r7
          have b7 : Below be Vez Veza := (Below.refl _ _).grown hg7 (by have := (Array.getElem?_eq_some_iff.1 HN_be.out.1).1; omega) (fun q hq => by have h' : some be = some q := hq; injection h' with h'; omega)
          have O7 : Hid (Ow 47 Veza (fun b => W0.heap.size ≤ b) (.slice A7 nl c7) nl (CU L0)) := (Ow.of_own r7).imp fun b _ hb => by have := HN_be.out.2; omega
          have B_Veza : Hid (Below W0.heap.size W0 Veza) := B_Vez.out.trans (b7.mono HN_be.out.2)
          have HN_bz : Hid (Veza.heap[bz]? = some (.cells #[.int .i64 0, .slice none 0 0] 80 (0, 0)) ∧ W0.heap.size ≤ bz) := ⟨(hg7.block bz (Array.getElem?_eq_some_iff.1 HN_bz.out.1).1 (fun e => by have h' : some bz = some be := e; injection h' with h'; exact HD.out h')).trans HN_bz.out.1, HN_bz.out.2⟩
          clear ho0 ho7 hg7 hb7 r7 b7
          refine hK.out _ _ B_Veza.out (fun hHeld => ?_)
          clear hHeld
          clear hK K0
          try simp only [Act.put, List.getElem_toArray, List.getElem_cons_succ, List.getElem_cons_zero, List.setIfInBounds_toArray, List.set_cons_zero, List.set_cons_succ]
          refine takeD (i := 8) (d := some 45) (v := ?_) _ rfl rfl (by kernel_rfl) (by kernel_rfl) (by kernel_rfl) (fun _ _ _ h => h) (by rfl) ?_ B_Veza.out ?_
          rotate_left
          · (intro w hSw; (try dsimp only at hSw); go_simp) <;> with_reducible rfl
          try simp only [Act.put, List.setIfInBounds_toArray, List.set_cons_zero, List.set_cons_succ]
          have z0 : Veza.cell? ⟨bz, 0, none⟩ = some (.int .i64 0) := by rw [(row_cell HN_bz.out.1 0).1]; rfl
          have z1 : Veza.cell? ⟨bz, 1, none⟩ = some (.slice none 0 0) := by rw [(row_cell HN_bz.out.1 1).1]; rfl
          have zf0 : Veza.frozen? ⟨bz, 0, none⟩ = false := (row_cell HN_bz.out.1 0).2
          have zf1 : Veza.frozen? ⟨bz, 1, none⟩ = false := (row_cell HN_bz.out.1 1).2
          refine wpAnyH_ready (rs := [10]) (by kernel_rfl) (by simp) ?_
          refine AllReadyH.cons rfl (fun K0 hK => ?_) (AllReadyH.nil)
          obtain ⟨Z, hZ⟩ : ∃ Z, (Veza.setCell ⟨bz, 0, none⟩ (.int .i64 next)).setCell ⟨bz, 1, none⟩ (.slice A7 nl c7) = Z := ⟨_, rfl⟩
          have HZB : Hid (Below W0.heap.size W0 Z) := by rw [← hZ]; exact (B_Veza.out.setCell HN_bz.out.2 _).setCell HN_bz.out.2 _
          have HZZ : Hid (Z.heap[bz]? = some (.cells #[.int .i64 next, .slice A7 nl c7] 80 (0, 0)) ∧ W0.heap.size ≤ bz) := ⟨by rw [← hZ]; simpa using set_at (set_at HN_bz.out.1 0 (.int .i64 next)) 1 (.slice A7 nl c7), HN_bz.out.2⟩
          have hfz : Fo (fun b => b = bz) Veza Z := by rw [← hZ]; exact ((Fo.refl (fun b => b = bz) Veza).setCell (.inl rfl) 0 _).setCell (.inl rfl) 1 _
          have O7 : Hid (Ow 47 Z (fun b => W0.heap.size ≤ b ∧ b ≠ bz) (.slice A7 nl c7) nl (CU L0)) := (O7.out.not HN_bz.out.1 (by decide)).fo hfz fun b hb => hb.2
          try go_simp
          try rw [hZ]
          refine hK.out _ _ HZB.out (fun hHeld => ?_)
          clear hHeld hfz hZ z0 z1 zf0 zf1
          clear hK K0
          try simp only [Act.put, List.getElem_toArray, List.getElem_cons_succ, List.getElem_cons_zero, List.setIfInBounds_toArray, List.set_cons_zero, List.set_cons_succ]
          refine wpAnyH_done (by kernel_rfl) ?_ _
          clear HN_bz B_Veza H3 H4 H0
          go_wp2_with fail
          go_meet
          case rel => exact ⟨⟨bz, A7, c7, rfl, HZB.out, HZZ.out, O7.out⟩⟩
      · obtain ⟨Vz, h_Vz⟩ : ∃ W, V.alloc (.cells #[.int .i64 0, .slice none 0 0] 80) = W := ⟨_, rfl⟩
        obtain ⟨bz, h_bz⟩ : ∃ vb, V.heap.size = vb := ⟨_, rfl⟩
        have b_Vz : Below V.heap.size V Vz := by rw [← h_Vz]; exact (Below.refl _ _).alloc (Nat.le_refl _) _
        have B_Vz : Hid (Below W0.heap.size W0 Vz) := B_V.out.trans (b_Vz.mono B_V.out.size)
        have HN_bz : Hid (Vz.heap[bz]? = some (.cells #[.int .i64 0, .slice none 0 0] 80 (0, 0)) ∧ W0.heap.size ≤ bz) := ⟨by rw [← h_Vz, ← h_bz]; exact heap_alloc_new _ _, by rw [← h_bz]; exact B_V.out.size⟩
        try go_simp
        try rw [h_Vz]
        try rw [h_bz]
        refine hK.out _ _ B_Vz.out (fun hHeld => ?_)
        clear h_Vz h_bz b_Vz hHeld
        clear hK K0
        try simp only [Act.put, List.getElem_toArray, List.getElem_cons_succ, List.getElem_cons_zero, List.setIfInBounds_toArray, List.set_cons_zero, List.set_cons_succ]
        refine wpAnyH_ready (rs := [2]) (by kernel_rfl) (by simp) ?_
        refine AllReadyH.cons rfl (fun K0 hK => ?_) (AllReadyH.nil)
        obtain ⟨Vze, h_Vze⟩ : ∃ W, Vz.alloc (.cells #[] 47) = W := ⟨_, rfl⟩
        obtain ⟨be, h_be⟩ : ∃ vb, Vz.heap.size = vb := ⟨_, rfl⟩
        have b_Vze : Below Vz.heap.size Vz Vze := by rw [← h_Vze]; exact (Below.refl _ _).alloc (Nat.le_refl _) _
        have B_Vze : Hid (Below W0.heap.size W0 Vze) := B_Vz.out.trans (b_Vze.mono B_Vz.out.size)
        have HN_be : Hid (Vze.heap[be]? = some (.cells #[] 47 (0, 0)) ∧ W0.heap.size ≤ be) := ⟨by rw [← h_Vze, ← h_be]; exact heap_alloc_new _ _, by rw [← h_be]; exact B_Vz.out.size⟩
        have HN_bz : Hid (Vze.heap[bz]? = some (.cells #[.int .i64 0, .slice none 0 0] 80 (0, 0)) ∧ W0.heap.size ≤ bz) := ⟨(b_Vze.block bz (Array.getElem?_eq_some_iff.1 HN_bz.out.1).1).trans HN_bz.out.1, HN_bz.out.2⟩
        have HD : Hid (bz ≠ be) := by have := (Array.getElem?_eq_some_iff.1 HN_bz.out.1).1; have h := HN_be.out; unfold Hid; intro e; rw [e] at HN_bz; have h2 := HN_bz.out.1; rw [h.1] at h2; injection h2 with h2; injection h2 with _ h3; exact absurd h3 (by decide)
        try go_simp
        try rw [h_Vze]
        try rw [h_be]
        refine hK.out _ _ B_Vze.out (fun hHeld => ?_)
        clear h_Vze h_be b_Vze hHeld
        clear hK K0
        try simp only [Act.put, List.getElem_toArray, List.getElem_cons_succ, List.getElem_cons_zero, List.setIfInBounds_toArray, List.set_cons_zero, List.set_cons_succ]
        refine wpAnyH_ready (rs := [7]) (by kernel_rfl) (by simp) ?_
        refine AllReadyH.cons rfl (fun K0 hK => ?_) (AllReadyH.nil)
        have ho0 : Vze.ownsRow be 47 1 (.slice (some ⟨be, 0, none⟩) 0 0) 0 [] := ⟨rfl, .inr ⟨be, 0, #[], rfl, Nat.le_refl _, HN_be.out.1, Nat.le_refl _, by unfold maxLen; omega, rfl, rfl⟩⟩
        refine wp_append_any Vze (.tmp 39) (.tmp 43) 33 rfl be 47 i1 (.int .u32 0) 1 4 Try.underlying33 ji jz0 jz1 jz2 rfl (by decide) (.slice (some ⟨be, 0, none⟩) 0 0) 0 [] rfl ho0 Vze.heap.size A0 nl c0 (CU L0) rfl (RL.out Vze B_Vze.out) (CU_one _) (by have := HN.out; unfold maxLen; omega) (by have := HN.out; omega) (by have := (Array.getElem?_eq_some_iff.1 HN_be.out.1).1; omega) ?_
        intro v7 Vzea ho7 hg7 hb7
        have r7 : Vzea.ownsRow be 47 1 v7 nl (CU L0) := by simpa using ho7
        obtain ⟨A7, c7, rfl⟩ := slice_form r7
        have b7 : Below be Vze Vzea := (Below.refl _ _).grown hg7 (by have := (Array.getElem?_eq_some_iff.1 HN_be.out.1).1; omega) (fun q hq => by have h' : some be = some q := hq; injection h' with h'; omega)
        have O7 : Hid (Ow 47 Vzea (fun b => W0.heap.size ≤ b) (.slice A7 nl c7) nl (CU L0)) := (Ow.of_own r7).imp fun b _ hb => by have := HN_be.out.2; omega
        have B_Vzea : Hid (Below W0.heap.size W0 Vzea) := B_Vze.out.trans (b7.mono HN_be.out.2)
        have HN_bz : Hid (Vzea.heap[bz]? = some (.cells #[.int .i64 0, .slice none 0 0] 80 (0, 0)) ∧ W0.heap.size ≤ bz) := ⟨(hg7.block bz (Array.getElem?_eq_some_iff.1 HN_bz.out.1).1 (fun e => by have h' : some bz = some be := e; injection h' with h'; exact HD.out h')).trans HN_bz.out.1, HN_bz.out.2⟩
        clear ho0 ho7 hg7 hb7 r7 b7
        refine hK.out _ _ B_Vzea.out (fun hHeld => ?_)
        clear hHeld
        clear hK K0
        try simp only [Act.put, List.getElem_toArray, List.getElem_cons_succ, List.getElem_cons_zero, List.setIfInBounds_toArray, List.set_cons_zero, List.set_cons_succ]
        refine takeD (i := 8) (d := some 45) (v := ?_) _ rfl rfl (by kernel_rfl) (by kernel_rfl) (by kernel_rfl) (fun _ _ _ h => h) (by rfl) ?_ B_Vzea.out ?_
        rotate_left
        · (intro w hSw; (try dsimp only at hSw); go_simp) <;> with_reducible rfl
        try simp only [Act.put, List.setIfInBounds_toArray, List.set_cons_zero, List.set_cons_succ]
        have z0 : Vzea.cell? ⟨bz, 0, none⟩ = some (.int .i64 0) := by rw [(row_cell HN_bz.out.1 0).1]; rfl
        have z1 : Vzea.cell? ⟨bz, 1, none⟩ = some (.slice none 0 0) := by rw [(row_cell HN_bz.out.1 1).1]; rfl
        have zf0 : Vzea.frozen? ⟨bz, 0, none⟩ = false := (row_cell HN_bz.out.1 0).2
        have zf1 : Vzea.frozen? ⟨bz, 1, none⟩ = false := (row_cell HN_bz.out.1 1).2
        refine wpAnyH_ready (rs := [10]) (by kernel_rfl) (by simp) ?_
        refine AllReadyH.cons rfl (fun K0 hK => ?_) (AllReadyH.nil)
        obtain ⟨Z, hZ⟩ : ∃ Z, (Vzea.setCell ⟨bz, 0, none⟩ (.int .i64 next)).setCell ⟨bz, 1, none⟩ (.slice A7 nl c7) = Z := ⟨_, rfl⟩
        have HZB : Hid (Below W0.heap.size W0 Z) := by rw [← hZ]; exact (B_Vzea.out.setCell HN_bz.out.2 _).setCell HN_bz.out.2 _
        have HZZ : Hid (Z.heap[bz]? = some (.cells #[.int .i64 next, .slice A7 nl c7] 80 (0, 0)) ∧ W0.heap.size ≤ bz) := ⟨by rw [← hZ]; simpa using set_at (set_at HN_bz.out.1 0 (.int .i64 next)) 1 (.slice A7 nl c7), HN_bz.out.2⟩
        have hfz : Fo (fun b => b = bz) Vzea Z := by rw [← hZ]; exact ((Fo.refl (fun b => b = bz) Vzea).setCell (.inl rfl) 0 _).setCell (.inl rfl) 1 _
        have O7 : Hid (Ow 47 Z (fun b => W0.heap.size ≤ b ∧ b ≠ bz) (.slice A7 nl c7) nl (CU L0)) := (O7.out.not HN_bz.out.1 (by decide)).fo hfz fun b hb => hb.2
        try go_simp
        try rw [hZ]
        refine hK.out _ _ HZB.out (fun hHeld => ?_)
        clear hHeld hfz hZ z0 z1 zf0 zf1
        clear hK K0
        try simp only [Act.put, List.getElem_toArray, List.getElem_cons_succ, List.getElem_cons_zero, List.setIfInBounds_toArray, List.set_cons_zero, List.set_cons_succ]
        refine wpAnyH_done (by kernel_rfl) ?_ _
        clear HN_bz B_Vzea H3 H4 H0
        go_wp2_with fail
        go_meet
        case rel => exact ⟨⟨bz, A7, c7, rfl, HZB.out, HZZ.out, O7.out⟩⟩
    case rest =>
      obtain ⟨⟨bz, A7, c7, rfl, hb5, hz5, o7⟩⟩ := hcut
      have HBC := Lib.hid hb5
      have HZC := Lib.hid hz5
      have OC := Lib.hid o7
      clear hb5 hz5 o7
      have XC : Hid (wc.heap[X]? = some (.cells #[.int .i64 gap, .int .i64 words, .int .i64 room, .slice (some ⟨b1, off1, none⟩) nr cr, .int .i64 next, .int .i64 rl] 27 (0, 0)) ∧ wc.heap[X + 1]? = some (.cells #[.int .i64 0, .int .i64 0, .int .i64 0, .slice none 0 0, .int .i64 0, .int .i64 0] 27 (0, 0)) ∧ wc.heap[X + 2]? = some (.cells #[.int .i64 0, .slice none 0 0] 80 (0, 0))) :=
        ⟨(HBC.out.block X (by have := S0.out; omega)).trans HB0.out, (HBC.out.block (X + 1) (by have := S0.out; omega)).trans HB1.out, (HBC.out.block (X + 2) (by have := S0.out; omega)).trans HB2.out⟩
      obtain ⟨W5, hW5⟩ : ∃ W5, (((wc.setCell ⟨X, 3, none⟩ (.slice A1 (nr - 1) (cr - 1))).setCell ⟨X, 4, none⟩ (.int .i64 ((next + 1).tmod 256))).setCell ⟨X, 5, none⟩ (.int .i64 now)) = W5 := ⟨_, rfl⟩
      have nbz : bz ≠ X := by have := HZC.out.2; have := S0.out; omega
      have H5 : Hid (W5.heap[X]? = some (.cells #[.int .i64 gap, .int .i64 words, .int .i64 room, .slice A1 (nr - 1) (cr - 1), .int .i64 ((next + 1).tmod 256), .int .i64 now] 27 (0, 0)) ∧ W5.heap[X + 1]? = some (.cells #[.int .i64 0, .int .i64 0, .int .i64 0, .slice none 0 0, .int .i64 0, .int .i64 0] 27 (0, 0)) ∧ W5.heap[X + 2]? = some (.cells #[.int .i64 0, .slice none 0 0] 80 (0, 0)) ∧ W5.heap[bz]? = some (.cells #[.int .i64 next, .slice A7 nl c7] 80 (0, 0)) ∧ X + 3 ≤ bz) := by
        rw [← hW5]
        refine ⟨by simpa using set_at (set_at (set_at XC.out.1 3 (.slice A1 (nr - 1) (cr - 1))) 4 (.int .i64 ((next + 1).tmod 256))) 5 (.int .i64 now), ?_, ?_, ?_, by have := HZC.out.2; have := S0.out; omega⟩
        · exact (set_far 5 _ (by omega)).trans ((set_far 4 _ (by omega)).trans ((set_far 3 _ (by omega)).trans XC.out.2.1))
        · exact (set_far 5 _ (by omega)).trans ((set_far 4 _ (by omega)).trans ((set_far 3 _ (by omega)).trans XC.out.2.2))
        · exact (set_far 5 _ nbz).trans ((set_far 4 _ nbz).trans ((set_far 3 _ nbz).trans HZC.out.1))
      have B5 : Hid (Below X w W5) := by rw [← hW5]; exact (((B0.out.trans (HBC.out.mono (by have := S0.out; omega))).setCell (Nat.le_refl _) _).setCell (Nat.le_refl _) _).setCell (Nat.le_refl _) _
      have O5 : Hid (Ow 47 W5 (fun b => X + 3 ≤ b) (.slice A7 nl c7) nl (CU L0)) := by
        have hf : Fo (fun b => b = X) wc W5 := by rw [← hW5]; exact (((Fo.refl (fun b => b = X) wc).setCell (.inl rfl) 3 _).setCell (.inl rfl) 4 _).setCell (.inl rfl) 5 _
        exact (OC.out.fo hf (fun b hb e => by have := S0.out; omega)).imp fun b _ hb => by have := S0.out; omega
      have H7X : Hid (∀ W, Fo (fun b => b = X + 1 ∨ b = X + 2) W5 W → W.heap[X]? = some (.cells #[.int .i64 gap, .int .i64 words, .int .i64 room, .slice A1 (nr - 1) (cr - 1), .int .i64 ((next + 1).tmod 256), .int .i64 now] 27 (0, 0))) := fun W hf => (hf.block X (Array.getElem?_eq_some_iff.1 H5.out.1).1 (by omega)).trans H5.out.1
      have H7Z : Hid (∀ W, Fo (fun b => b = X + 1 ∨ b = X + 2) W5 W → W.heap[bz]? = some (.cells #[.int .i64 next, .slice A7 nl c7] 80 (0, 0))) := fun W hf => (hf.block bz (Array.getElem?_eq_some_iff.1 H5.out.2.2.2.1).1 (by have := H5.out.2.2.2.2; omega)).trans H5.out.2.2.2.1
      clear HBC HZC OC nbz x0 x1 x2 x3 x4 x5 xf0 xf1 xf2 xf3 xf4 xf5 y0 y1 y2 y3 y4 y5 yf0 yf1 yf2 yf3 yf4 yf5 z0 z1 zf0 zf1
      have x0 : wc.cell? ⟨X, 0, none⟩ = some (.int .i64 gap) := by rw [(row_cell XC.out.1 0).1]; rfl
      have x1 : wc.cell? ⟨X, 1, none⟩ = some (.int .i64 words) := by rw [(row_cell XC.out.1 1).1]; rfl
      have x2 : wc.cell? ⟨X, 2, none⟩ = some (.int .i64 room) := by rw [(row_cell XC.out.1 2).1]; rfl
      have x3 : wc.cell? ⟨X, 3, none⟩ = some (.slice (some ⟨b1, off1, none⟩) nr cr) := by rw [(row_cell XC.out.1 3).1]; rfl
      have x4 : wc.cell? ⟨X, 4, none⟩ = some (.int .i64 next) := by rw [(row_cell XC.out.1 4).1]; rfl
      have x5 : wc.cell? ⟨X, 5, none⟩ = some (.int .i64 rl) := by rw [(row_cell XC.out.1 5).1]; rfl
      have xf3 : wc.frozen? ⟨X, 3, none⟩ = false := (row_cell XC.out.1 3).2
      have xf4 : wc.frozen? ⟨X, 4, none⟩ = false := (row_cell XC.out.1 4).2
      have xf5 : wc.frozen? ⟨X, 5, none⟩ = false := (row_cell XC.out.1 5).2
      go_wp2_with fail
      refine wp_region_held_drew (S := (fun w' => Fo (fun b => b = X + 1 ∨ b = X + 2) W5 w')) (by kernel_rfl) ?_ (fun hHeld => ?_)
      · exact ⟨rfl, rfl, rfl, Nat.le_refl _, fun _ _ _ => rfl⟩
      refine takeD (i := 0) (d := some 57) (v := ?_) _ rfl rfl (by kernel_rfl) (by kernel_rfl) (by kernel_rfl) (fun _ _ _ h => h) (by rfl) ?_ (by assumption) ?_
      rotate_left
      · (intro w hSw
         have hx := H7X.out w hSw
         have l0 : w.cell? ⟨X, 0, none⟩ = some (.int .i64 gap) := by rw [(row_cell hx 0).1]; rfl
         have l1 : w.cell? ⟨X, 1, none⟩ = some (.int .i64 words) := by rw [(row_cell hx 1).1]; rfl
         have l2 : w.cell? ⟨X, 2, none⟩ = some (.int .i64 room) := by rw [(row_cell hx 2).1]; rfl
         have l3 : w.cell? ⟨X, 3, none⟩ = some (.slice A1 (nr - 1) (cr - 1)) := by rw [(row_cell hx 3).1]; rfl
         have l4 : w.cell? ⟨X, 4, none⟩ = some (.int .i64 ((next + 1).tmod 256)) := by rw [(row_cell hx 4).1]; rfl
         have l5 : w.cell? ⟨X, 5, none⟩ = some (.int .i64 now) := by rw [(row_cell hx 5).1]; rfl
         clear hx
         (try dsimp only at hSw)
         go_simp) <;> with_reducible rfl
      try simp only [Act.put, List.setIfInBounds_toArray, List.set_cons_zero, List.set_cons_succ]
      refine takeD (i := 1) (d := some 58) (v := ?_) _ rfl rfl (by kernel_rfl) (by kernel_rfl) (by kernel_rfl) (fun _ _ _ h => h) (by rfl) ?_ (by assumption) ?_
      rotate_left
      · (intro w hSw
         have hx := H7Z.out w hSw
         have l0 : w.cell? ⟨bz, 0, none⟩ = some (.int .i64 next) := by rw [(row_cell hx 0).1]; rfl
         have l1 : w.cell? ⟨bz, 1, none⟩ = some (.slice A7 nl c7) := by rw [(row_cell hx 1).1]; rfl
         clear hx
         (try dsimp only at hSw)
         go_simp) <;> with_reducible rfl
      try simp only [Act.put, List.setIfInBounds_toArray, List.set_cons_zero, List.set_cons_succ]
      obtain ⟨V, hV⟩ : ∃ V, W5.drew = V := ⟨_, rfl⟩
      have FV : Hid (Fo (fun b => b = X + 1 ∨ b = X + 2) W5 V) := by rw [← hV]; exact ⟨rfl, rfl, rfl, Nat.le_refl _, fun _ _ _ => rfl⟩
      have HV5 : Hid (V.heap[X + 1]? = some (.cells #[.int .i64 0, .int .i64 0, .int .i64 0, .slice none 0 0, .int .i64 0, .int .i64 0] 27 (0, 0)) ∧ V.heap[X + 2]? = some (.cells #[.int .i64 0, .slice none 0 0] 80 (0, 0)) ∧ Below W5.heap.size W5 V) := by rw [← hV]; exact ⟨H5.out.2.1, H5.out.2.2.1, (Below.refl _ _).drew⟩
      simp only [hV]
      clear hV hHeld
      have y0 : V.cell? ⟨X + 1, 0, none⟩ = some (.int .i64 0) := by rw [(row_cell HV5.out.1 0).1]; rfl
      have y1 : V.cell? ⟨X + 1, 1, none⟩ = some (.int .i64 0) := by rw [(row_cell HV5.out.1 1).1]; rfl
      have y2 : V.cell? ⟨X + 1, 2, none⟩ = some (.int .i64 0) := by rw [(row_cell HV5.out.1 2).1]; rfl
      have y3 : V.cell? ⟨X + 1, 3, none⟩ = some (.slice none 0 0) := by rw [(row_cell HV5.out.1 3).1]; rfl
      have y4 : V.cell? ⟨X + 1, 4, none⟩ = some (.int .i64 0) := by rw [(row_cell HV5.out.1 4).1]; rfl
      have y5 : V.cell? ⟨X + 1, 5, none⟩ = some (.int .i64 0) := by rw [(row_cell HV5.out.1 5).1]; rfl
      have yf0 : V.frozen? ⟨X + 1, 0, none⟩ = false := (row_cell HV5.out.1 0).2
      have yf1 : V.frozen? ⟨X + 1, 1, none⟩ = false := (row_cell HV5.out.1 1).2
      have yf2 : V.frozen? ⟨X + 1, 2, none⟩ = false := (row_cell HV5.out.1 2).2
      have yf3 : V.frozen? ⟨X + 1, 3, none⟩ = false := (row_cell HV5.out.1 3).2
      have yf4 : V.frozen? ⟨X + 1, 4, none⟩ = false := (row_cell HV5.out.1 4).2
      have yf5 : V.frozen? ⟨X + 1, 5, none⟩ = false := (row_cell HV5.out.1 5).2
      refine wpAnyH_ready (rs := [2]) (by kernel_rfl) (by simp) ?_
      refine AllReadyH.cons rfl (fun K0 hK => ?_) (AllReadyH.nil)
      try go_simp
      refine hK.out _ _ ((((((FV.out.setCell (.inl (.inl rfl)) 0 _).setCell (.inl (.inl rfl)) 1 _).setCell (.inl (.inl rfl)) 2 _).setCell (.inl (.inl rfl)) 3 _).setCell (.inl (.inl rfl)) 4 _).setCell (.inl (.inl rfl)) 5 _) (fun hHeld => ?_)
      clear hHeld y0 y1 y2 y3 y4 y5 yf0 yf1 yf2 yf3 yf4 yf5
      clear hK K0
      try simp only [Act.put, List.getElem_toArray, List.getElem_cons_succ, List.getElem_cons_zero, List.setIfInBounds_toArray, List.set_cons_zero, List.set_cons_succ]
      have HZ2 : Hid (((((((V.setCell ⟨X + 1, 0, none⟩ (.int .i64 gap)).setCell ⟨X + 1, 1, none⟩ (.int .i64 words)).setCell ⟨X + 1, 2, none⟩ (.int .i64 room)).setCell ⟨X + 1, 3, none⟩ (.slice A1 (nr - 1) (cr - 1))).setCell ⟨X + 1, 4, none⟩ (.int .i64 ((next + 1).tmod 256))).setCell ⟨X + 1, 5, none⟩ (.int .i64 now)).heap[X + 2]? = some (.cells #[.int .i64 0, .slice none 0 0] 80 (0, 0))) := (set_far 5 _ (show X + 2 ≠ X + 1 by omega)).trans ((set_far 4 _ (show X + 2 ≠ X + 1 by omega)).trans ((set_far 3 _ (show X + 2 ≠ X + 1 by omega)).trans ((set_far 2 _ (show X + 2 ≠ X + 1 by omega)).trans ((set_far 1 _ (show X + 2 ≠ X + 1 by omega)).trans ((set_far 0 _ (show X + 2 ≠ X + 1 by omega)).trans (HV5.out.2.1))))))
      have z0 : ((((((V.setCell ⟨X + 1, 0, none⟩ (.int .i64 gap)).setCell ⟨X + 1, 1, none⟩ (.int .i64 words)).setCell ⟨X + 1, 2, none⟩ (.int .i64 room)).setCell ⟨X + 1, 3, none⟩ (.slice A1 (nr - 1) (cr - 1))).setCell ⟨X + 1, 4, none⟩ (.int .i64 ((next + 1).tmod 256))).setCell ⟨X + 1, 5, none⟩ (.int .i64 now)).cell? ⟨X + 2, 0, none⟩ = some (.int .i64 0) := by rw [(row_cell HZ2.out 0).1]; rfl
      have z1 : ((((((V.setCell ⟨X + 1, 0, none⟩ (.int .i64 gap)).setCell ⟨X + 1, 1, none⟩ (.int .i64 words)).setCell ⟨X + 1, 2, none⟩ (.int .i64 room)).setCell ⟨X + 1, 3, none⟩ (.slice A1 (nr - 1) (cr - 1))).setCell ⟨X + 1, 4, none⟩ (.int .i64 ((next + 1).tmod 256))).setCell ⟨X + 1, 5, none⟩ (.int .i64 now)).cell? ⟨X + 2, 1, none⟩ = some (.slice none 0 0) := by rw [(row_cell HZ2.out 1).1]; rfl
      have zf0 : ((((((V.setCell ⟨X + 1, 0, none⟩ (.int .i64 gap)).setCell ⟨X + 1, 1, none⟩ (.int .i64 words)).setCell ⟨X + 1, 2, none⟩ (.int .i64 room)).setCell ⟨X + 1, 3, none⟩ (.slice A1 (nr - 1) (cr - 1))).setCell ⟨X + 1, 4, none⟩ (.int .i64 ((next + 1).tmod 256))).setCell ⟨X + 1, 5, none⟩ (.int .i64 now)).frozen? ⟨X + 2, 0, none⟩ = false := (row_cell HZ2.out 0).2
      have zf1 : ((((((V.setCell ⟨X + 1, 0, none⟩ (.int .i64 gap)).setCell ⟨X + 1, 1, none⟩ (.int .i64 words)).setCell ⟨X + 1, 2, none⟩ (.int .i64 room)).setCell ⟨X + 1, 3, none⟩ (.slice A1 (nr - 1) (cr - 1))).setCell ⟨X + 1, 4, none⟩ (.int .i64 ((next + 1).tmod 256))).setCell ⟨X + 1, 5, none⟩ (.int .i64 now)).frozen? ⟨X + 2, 1, none⟩ = false := (row_cell HZ2.out 1).2
      refine wpAnyH_ready (rs := [3]) (by kernel_rfl) (by simp) ?_
      refine AllReadyH.cons rfl (fun K0 hK => ?_) (AllReadyH.nil)
      try go_simp
      refine hK.out _ _ ((((((((FV.out.setCell (.inl (.inl rfl)) 0 _).setCell (.inl (.inl rfl)) 1 _).setCell (.inl (.inl rfl)) 2 _).setCell (.inl (.inl rfl)) 3 _).setCell (.inl (.inl rfl)) 4 _).setCell (.inl (.inl rfl)) 5 _).setCell (.inl (.inr rfl)) 0 _).setCell (.inl (.inr rfl)) 1 _) (fun hHeld => ?_)
      clear hHeld z0 z1 zf0 zf1
      clear hK K0
      try simp only [Act.put, List.getElem_toArray, List.getElem_cons_succ, List.getElem_cons_zero, List.setIfInBounds_toArray, List.set_cons_zero, List.set_cons_succ]
      refine takeD (i := 4) (d := some 6) (v := ?_) _ rfl rfl (by kernel_rfl) (by kernel_rfl) (by kernel_rfl) (fun _ _ _ h => h) (by rfl) ?_ ((((((((FV.out.setCell (.inl (.inl rfl)) 0 _).setCell (.inl (.inl rfl)) 1 _).setCell (.inl (.inl rfl)) 2 _).setCell (.inl (.inl rfl)) 3 _).setCell (.inl (.inl rfl)) 4 _).setCell (.inl (.inl rfl)) 5 _).setCell (.inl (.inr rfl)) 0 _).setCell (.inl (.inr rfl)) 1 _) ?_
      rotate_left
      · (intro w hSw; (try dsimp only at hSw); go_simp) <;> with_reducible rfl
      try simp only [Act.put, List.setIfInBounds_toArray, List.set_cons_zero, List.set_cons_succ]
      refine wpAnyH_done (by kernel_rfl) ?_ _
      go_wp2_with fail
      have hY6 := set_six (w := V) HV5.out.1 (.int .i64 gap) (.int .i64 words) (.int .i64 room) (.slice A1 (nr - 1) (cr - 1)) (.int .i64 ((next + 1).tmod 256)) (.int .i64 now)
      have hYF := range_far (range_far hY6 (show X + 1 ≠ X + 2 by omega) 0 (.int .i64 next)) (show X + 1 ≠ X + 2 by omega) 1 (.slice A7 nl c7)
      have hZF := set_two HZ2.out (.int .i64 next) (.slice A7 nl c7)
      refine bodyPost_ret (results_cell_cell rfl _ _ (X + 1) (X + 2) _ _ _ _ rfl hYF Try.underlying27 rfl (by kernel_rfl) rfl hZF Try.underlying80 rfl (by kernel_rfl)) rfl ?_
      have hfF : Fo (fun b => b = X + 1 ∨ b = X + 2) V ((((((((V.setCell ⟨X + 1, 0, none⟩ (.int .i64 gap)).setCell ⟨X + 1, 1, none⟩ (.int .i64 words)).setCell ⟨X + 1, 2, none⟩ (.int .i64 room)).setCell ⟨X + 1, 3, none⟩ (.slice A1 (nr - 1) (cr - 1))).setCell ⟨X + 1, 4, none⟩ (.int .i64 ((next + 1).tmod 256))).setCell ⟨X + 1, 5, none⟩ (.int .i64 now)).setCell ⟨X + 2, 0, none⟩ (.int .i64 next)).setCell ⟨X + 2, 1, none⟩ (.slice A7 nl c7)) := (((((((((Fo.refl (fun b => b = X + 1 ∨ b = X + 2) V).setCell (.inl (.inl rfl)) 0 _).setCell (.inl (.inl rfl)) 1 _).setCell (.inl (.inl rfl)) 2 _).setCell (.inl (.inl rfl)) 3 _).setCell (.inl (.inl rfl)) 4 _).setCell (.inl (.inl rfl)) 5 _).setCell (.inl (.inr rfl)) 0 _).setCell (.inl (.inr rfl)) 1 _)
      refine ⟨A7, c7, rfl, ((O5.out.below HV5.out.2.2).fo hfF (fun b hb e => by omega)).imp fun b _ hb => by omega, ?_⟩
      exact (((((((B5.out.trans (HV5.out.2.2.mono (by have := B5.out.size; have := hX; omega))).setCell (by show X ≤ X + 1; omega) _).setCell (by show X ≤ X + 1; omega) _).setCell (by show X ≤ X + 1; omega) _).setCell (by show X ≤ X + 1; omega) _).setCell (by show X ≤ X + 1; omega) _).setCell (by show X ≤ X + 1; omega) _).setCell (by show X ≤ X + 2; omega) _ |>.setCell (by show X ≤ X + 2; omega) _
end Go.Proofs.Ytkbjonblflhkoaa.Ln
