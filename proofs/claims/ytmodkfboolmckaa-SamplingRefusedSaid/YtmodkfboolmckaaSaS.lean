/-
  The law's own functions. Each statement bears its own conditions.
-/
import Derived.Test.YtmodkfboolmckaaSaR
namespace Go.Proofs.Ytmodkfboolmckaa.Sa
open Go.RowKit Go.Proofs.Ytmodkfboolmckaa.F Go.Proofs.Ytmodkfboolmckaa.U
set_option linter.unusedVariables false
set_option linter.unusedSimpArgs false
set_option maxRecDepth 100000 in
set_option maxHeartbeats 4000000 in
theorem rsame_any (p p' : Nat → Prop) (n n' k k' : Int) (has has' : Bool) (Am Am' : Option Addr) (nm nm' cm cm' : Nat) (st st' : Int) (M M' : List Int) (w : World) (hm : Sq w p (.slice Am nm cm) nm (CU M)) (hm' : Sq w p' (.slice Am' nm' cm') nm' (CU M')) (h5 : M.length ≤ 5000) :
    Calls Try.prog 23 #[.agg #[.int .i64 n, .int .i64 k, .bool has, .slice Am nm cm, .int .i64 st], .agg #[.int .i64 n', .int .i64 k', .bool has', .slice Am' nm' cm', .int .i64 st']] w fun e w' => e = .returned (.bool (decide (n = n') && decide (k = k') && decide (has = has') && decide (M = M') && decide (st = st'))) ∧ Below w.heap.size w w' := by
  have hkm : M.length = nm := by have := hm.len; simpa [CU] using this
  have hkm' : M'.length = nm' := by have := hm'.len; simpa [CU] using this
  obtain ⟨X, hX⟩ : ∃ X, w.heap.size = X := ⟨_, rfl⟩
  obtain ⟨W0, hW0⟩ : ∃ W0, (w.alloc (.cells #[.int .i64 n, .int .i64 k, .bool has, .slice Am nm cm, .int .i64 st] 26)).alloc (.cells #[.int .i64 n', .int .i64 k', .bool has', .slice Am' nm' cm', .int .i64 st'] 26) = W0 := ⟨_, rfl⟩
  have B0 : Hid (Below X w W0) := by rw [← hW0, ← hX]; exact (((Below.refl _ _).alloc (Nat.le_refl _) _).alloc (by simp) _)
  have HX0 : Hid (W0.heap[X]? = some (.cells #[.int .i64 n, .int .i64 k, .bool has, .slice Am nm cm, .int .i64 st] 26 (0, 0))) := by
    rw [← hW0, ← hX]; exact (((Below.refl _ _).alloc (Nat.le_refl _) _).block _ (by simp)).trans (heap_alloc_new _ _)
  have HY0 : Hid (W0.heap[X + 1]? = some (.cells #[.int .i64 n', .int .i64 k', .bool has', .slice Am' nm' cm', .int .i64 st'] 26 (0, 0))) := by
    rw [← hW0, ← hX]; have := heap_alloc_new (w.alloc (.cells #[.int .i64 n, .int .i64 k, .bool has, .slice Am nm cm, .int .i64 st] 26)) (.cells #[.int .i64 n', .int .i64 k', .bool has', .slice Am' nm' cm', .int .i64 st'] 26); unfold Hid; simpa using this
  have x0 : W0.cell? ⟨X, 0, none⟩ = some (.int .i64 n) := by rw [(row_cell HX0.out 0).1]; rfl
  have x1 : W0.cell? ⟨X, 1, none⟩ = some (.int .i64 k) := by rw [(row_cell HX0.out 1).1]; rfl
  have x2 : W0.cell? ⟨X, 2, none⟩ = some (.bool has) := by rw [(row_cell HX0.out 2).1]; rfl
  have x3 : W0.cell? ⟨X, 3, none⟩ = some (.slice Am nm cm) := by rw [(row_cell HX0.out 3).1]; rfl
  have x4 : W0.cell? ⟨X, 4, none⟩ = some (.int .i64 st) := by rw [(row_cell HX0.out 4).1]; rfl
  have y0 : W0.cell? ⟨X + 1, 0, none⟩ = some (.int .i64 n') := by rw [(row_cell HY0.out 0).1]; rfl
  have y1 : W0.cell? ⟨X + 1, 1, none⟩ = some (.int .i64 k') := by rw [(row_cell HY0.out 1).1]; rfl
  have y2 : W0.cell? ⟨X + 1, 2, none⟩ = some (.bool has') := by rw [(row_cell HY0.out 2).1]; rfl
  have y3 : W0.cell? ⟨X + 1, 3, none⟩ = some (.slice Am' nm' cm') := by rw [(row_cell HY0.out 3).1]; rfl
  have y4 : W0.cell? ⟨X + 1, 4, none⟩ = some (.int .i64 st') := by rw [(row_cell HY0.out 4).1]; rfl
  have bx : Below w.heap.size w W0 := by rw [hX]; exact B0.out
  have S0 : Hid (X ≤ W0.heap.size) := by unfold Hid; have := bx.size; omega
  have ME := Lib.hid (rwords_any W0.heap.size W0.heap.size (.slice Am nm cm) (.slice Am' nm' cm') M M' W0 (by rw [hkm]; exact (hm.belowP bx).st) (by rw [hkm']; exact (hm'.belowP bx).st) h5)
  obtain ⟨t3, ht3⟩ : ∃ t, decide (M = M') = t := ⟨_, rfl⟩
  rw [ht3] at ME ⊢
  rw [hX]
  clear hm hm' h5 hkm hkm' ht3 bx
  by_cases hn : n = n'
  rotate_left
  · have hnb : (n == n') = false := by simp [hn]
    go_enter Try.func23, Try.ntmps23
    go_wp2_with fail
    go_ret
    exact ⟨by simp [hn], B0.out⟩
  subst hn
  have hnc : (n == n) = true := by simp
  by_cases hn : k = k'
  rotate_left
  · have hnb : (k == k') = false := by simp [hn]
    go_enter Try.func23, Try.ntmps23
    go_wp2_with fail
    go_ret
    exact ⟨by simp [hn], B0.out⟩
  subst hn
  have hkc : (k == k) = true := by simp
  by_cases hn : has = has'
  rotate_left
  · have hnb : (has == has') = false := by simp [hn]
    go_enter Try.func23, Try.ntmps23
    go_wp2_with fail
    go_ret
    exact ⟨by simp [hn], B0.out⟩
  subst hn
  have hhc : (has == has) = true := by simp
  cases t3 with
  | false =>
    go_enter Try.func23, Try.ntmps23
    go_wp2_with fail
    refine ME.out.mono ?_
    rintro e w1 ⟨rfl, b1⟩
    have B1 : Hid (Below X w w1) := B0.out.trans (b1.mono S0.out)
    have z4 : w1.cell? ⟨X, 4, none⟩ = some (.int .i64 st) := (b1.cell (World.block_lt_of_cell? _ _ x4)).trans x4
    have u4 : w1.cell? ⟨X + 1, 4, none⟩ = some (.int .i64 st') := (b1.cell (World.block_lt_of_cell? _ _ y4)).trans y4
    clear b1
    go_wp2_with fail
    go_ret
    exact ⟨by simp, B1.out⟩
  | true =>
    by_cases hn : st = st'
    · subst hn
      have hsc : (st == st) = true := by simp
      go_enter Try.func23, Try.ntmps23
      go_wp2_with fail
      refine ME.out.mono ?_
      rintro e w1 ⟨rfl, b1⟩
      have B1 : Hid (Below X w w1) := B0.out.trans (b1.mono S0.out)
      have z4 : w1.cell? ⟨X, 4, none⟩ = some (.int .i64 st) := (b1.cell (World.block_lt_of_cell? _ _ x4)).trans x4
      have u4 : w1.cell? ⟨X + 1, 4, none⟩ = some (.int .i64 st) := (b1.cell (World.block_lt_of_cell? _ _ y4)).trans y4
      clear b1
      go_wp2_with fail
      go_ret
      exact ⟨by simp, B1.out⟩
    · have hnb : (st == st') = false := by simp [hn]
      go_enter Try.func23, Try.ntmps23
      go_wp2_with fail
      refine ME.out.mono ?_
      rintro e w1 ⟨rfl, b1⟩
      have B1 : Hid (Below X w w1) := B0.out.trans (b1.mono S0.out)
      have z4 : w1.cell? ⟨X, 4, none⟩ = some (.int .i64 st) := (b1.cell (World.block_lt_of_cell? _ _ x4)).trans x4
      have u4 : w1.cell? ⟨X + 1, 4, none⟩ = some (.int .i64 st') := (b1.cell (World.block_lt_of_cell? _ _ y4)).trans y4
      clear b1
      go_wp2_with fail
      go_ret
      exact ⟨by simp [hn], B1.out⟩
/-- The first words of a list. -/
theorem Sq_take {w : World} {p : Nat → Prop} {A : Option Addr} {n c j : Nat} {xs : List Value} (h : Sq w p (.slice A n c) n xs) (hj : j ≤ n) : Sq w p (.slice A j c) j (xs.take j) := by
  have hl := h.len
  refine ⟨A, c, rfl, by rw [List.length_take]; omega, fun h0 => ?_⟩
  obtain ⟨_, b, off, rfl, hb, hp, hc⟩ := h.at_ (show 0 < n by omega)
  refine ⟨b, off, rfl, hb, hp, fun i u hu => hc i u ?_⟩
  have hi : i < j := by
    by_cases hi : i < j
    · exact hi
    · rw [List.getElem?_eq_none (by rw [List.length_take]; omega)] at hu; cases hu
  rwa [List.getElem?_take_of_lt hi] at hu
set_option maxRecDepth 100000 in
set_option maxHeartbeats 4000000 in
theorem few_any (A : Option Addr) (n c : Nat) (w : World) (hc : n ≤ c) (hA : A = none → c = 0) : Calls Try.prog 24 #[.slice A n c] w fun e w' => e = .returned (.slice A (min n 40) c) ∧ w' = w := by
  obtain ⟨j, hj⟩ : ∃ j, min n 40 = j := ⟨_, rfl⟩
  have hm : min (n : Int) 40 = (j : Int) := by omega
  have h1 : (j : Int) ≤ (c : Int) := by omega
  have h0 : (0 : Int) ≤ (j : Int) := by omega
  have h2 : j ≤ c := by omega
  rw [hj]
  clear hj hc
  go_enter Try.func24, Try.ntmps24
  go_wp2_with fail
  go_ret
  exact ⟨rfl, rfl⟩
theorem u64_tmod (a m : Int) (hm : 0 < m) : 0 ≤ (IntKind.u64.wrap a).tmod m ∧ (IntKind.u64.wrap a).tmod m < m := by
  have h : 0 ≤ IntKind.u64.wrap a := by rw [IntKind.wrap_u64]; exact Int.emod_nonneg _ (by decide)
  exact ⟨Int.tmod_nonneg _ h, Int.tmod_lt_of_pos _ hm⟩
set_option maxRecDepth 100000 in
set_option maxHeartbeats 4000000 in
theorem begin_any (a b : Int) (w : World) : Calls Try.prog 9 #[.int .i64 a, .int .i64 b] w fun e w' => ∃ n k g, n = 1 + (IntKind.u64.wrap a).tmod 32 ∧ k = (IntKind.u64.wrap b).tmod 1048577 ∧ e = .returned (.tuple #[.pointer (some ⟨g, 0, none⟩), .agg #[.int .i64 n, .int .i64 k, .bool false, .slice none 0 0, .int .i64 0]]) ∧ PV w.heap.size w' (fun b => b = g) g n k false [] 0 ∧ Below w.heap.size w w' := by
  obtain ⟨q1, hq1⟩ : ∃ q, (IntKind.u64.wrap a).tmod 32 = q := ⟨_, rfl⟩
  obtain ⟨q2, hq2⟩ : ∃ q, (IntKind.u64.wrap b).tmod 1048577 = q := ⟨_, rfl⟩
  have u1 := u64_tmod a 32 (by decide)
  have u2 := u64_tmod b 1048577 (by decide)
  rw [hq1] at u1 ⊢
  rw [hq2] at u2 ⊢
  obtain ⟨l1, l2⟩ := u1
  obtain ⟨l3, l4⟩ := u2
  have l5 : q1 ≤ 31 := by omega
  have l6 : q2 ≤ 1048576 := by omega
  have HB : Hid (0 ≤ q1 ∧ q1 ≤ 31 ∧ 0 ≤ q2 ∧ q2 ≤ 1048576) := ⟨l1, l5, l3, l6⟩
  clear l2 l4
  obtain ⟨X, hX⟩ : ∃ X, w.heap.size = X := ⟨_, rfl⟩
  obtain ⟨W0, hW0⟩ : ∃ W0, w.alloc (.cells #[.int .i64 0, .int .i64 0, .bool false, .slice none 0 0, .int .i64 0] 26) = W0 := ⟨_, rfl⟩
  have B0 : Hid (Below X w W0) := by rw [← hW0, ← hX]; exact ((Below.refl _ _).alloc (Nat.le_refl _) _)
  have S0 : Hid (W0.heap.size = X + 1) := by unfold Hid; rw [← hW0, ← hX]; simp
  have HY0 : Hid (W0.heap[X]? = some (.cells #[.int .i64 0, .int .i64 0, .bool false, .slice none 0 0, .int .i64 0] 26 (0, 0))) := by rw [← hW0, ← hX]; exact heap_alloc_new _ _
  rw [hX]
  go_enter Try.func9, Try.ntmps9
  go_wp2_with fail
  refine (new_any (1 + q1) q2 W0 (by have := HB.out; omega) (by have := HB.out; omega) (by have := HB.out; omega) (by have := HB.out; omega)).mono ?_
  rintro e w1 ⟨rfl, q, b1⟩
  have HX0 : Hid (w1.heap[X]? = some (.cells #[.int .i64 0, .int .i64 0, .bool false, .slice none 0 0, .int .i64 0] 26 (0, 0))) := (b1.block X (by have := S0.out; omega)).trans HY0.out
  have Q : Hid (PV W0.heap.size w1 (fun b => b = W0.heap.size) W0.heap.size (1 + q1) q2 false [] 0) := q
  have B1 : Hid (Below X w w1) := B0.out.trans (b1.mono (by have := S0.out; omega))
  obtain ⟨g, hg⟩ : ∃ g, W0.heap.size = g := ⟨_, rfl⟩
  rw [hg] at Q
  have HG : Hid (g = X + 1) := by have := S0.out; unfold Hid; omega
  simp only [hg]
  clear q b1 hg S0 B0 HY0
  have x0 : w1.cell? ⟨X, 0, none⟩ = some (.int .i64 0) := by rw [(row_cell HX0.out 0).1]; rfl
  have x1 : w1.cell? ⟨X, 1, none⟩ = some (.int .i64 0) := by rw [(row_cell HX0.out 1).1]; rfl
  have x2 : w1.cell? ⟨X, 2, none⟩ = some (.bool false) := by rw [(row_cell HX0.out 2).1]; rfl
  have x3 : w1.cell? ⟨X, 3, none⟩ = some (.slice none 0 0) := by rw [(row_cell HX0.out 3).1]; rfl
  have x4 : w1.cell? ⟨X, 4, none⟩ = some (.int .i64 0) := by rw [(row_cell HX0.out 4).1]; rfl
  have xf0 : w1.frozen? ⟨X, 0, none⟩ = false := (row_cell HX0.out 0).2
  have xf1 : w1.frozen? ⟨X, 1, none⟩ = false := (row_cell HX0.out 1).2
  have xf2 : w1.frozen? ⟨X, 2, none⟩ = false := (row_cell HX0.out 2).2
  have xf3 : w1.frozen? ⟨X, 3, none⟩ = false := (row_cell HX0.out 3).2
  have xf4 : w1.frozen? ⟨X, 4, none⟩ = false := (row_cell HX0.out 4).2
  clear hq1 hq2
  go_wp2_with fail
  refine bodyPost_ret (results_tmp_cell rfl _ _ X _ _ rfl (set_five HX0.out _ _ _ _ _) Try.underlying26 rfl (by kernel_rfl)) rfl ?_
  have hf : Fo (fun b => b = X) w1 (((((w1.setCell ⟨X, 0, none⟩ (.int .i64 (1 + q1))).setCell ⟨X, 1, none⟩ (.int .i64 q2)).setCell ⟨X, 2, none⟩ (.bool false)).setCell ⟨X, 3, none⟩ (.slice none 0 0)).setCell ⟨X, 4, none⟩ (.int .i64 0)) := (((((Fo.refl (fun b => b = X) w1).setCell (.inl rfl) 0 _).setCell (.inl rfl) 1 _).setCell (.inl rfl) 2 _).setCell (.inl rfl) 3 _).setCell (.inl rfl) 4 _
  exact ⟨_, _, g, rfl, rfl, rfl, (Q.out.fo hf (fun b hb e => by have := HG.out; omega)).less (by have := Q.out.low g rfl; have := HG.out; omega), (((((B1.out.setCell (Nat.le_refl _) _).setCell (Nat.le_refl _) _).setCell (Nat.le_refl _) _).setCell (Nat.le_refl _) _).setCell (Nat.le_refl _) _)⟩
theorem he_sa : ∀ (x : Nat) (w : World), (binOp .eql 23 (.pointer (some ⟨x, 0, none⟩)) (.pointer none)).run Try.prog w = .ok (.bool false) w := fun _ _ => rfl
set_option maxRecDepth 100000 in
set_option maxHeartbeats 4000000 in
theorem stamped_any (lo : Nat) (p : Nat → Prop) (g : Nat) (n k : Int) (has : Bool) (M : List Int) (st : Int) (Ar : Option Addr) (nr cr : Nat) (w : World) (h : PV lo w p g n k has M st) : Calls Try.prog 12 #[.pointer (some ⟨g, 0, none⟩), .agg #[.int .i64 n, .int .i64 k, .bool has, .slice Ar nr cr, .int .i64 st]] w fun e w' => e = .returned (.bool true) ∧ Below w.heap.size w w' := by
  obtain ⟨X, hX⟩ : ∃ X, w.heap.size = X := ⟨_, rfl⟩
  obtain ⟨W0, hW0⟩ : ∃ W0, w.alloc (.cells #[.int .i64 n, .int .i64 k, .bool has, .slice Ar nr cr, .int .i64 st] 26) = W0 := ⟨_, rfl⟩
  have B0 : Hid (Below X w W0) := by rw [← hW0, ← hX]; exact ((Below.refl _ _).alloc (Nat.le_refl _) _)
  have HX0 : Hid (W0.heap[X]? = some (.cells #[.int .i64 n, .int .i64 k, .bool has, .slice Ar nr cr, .int .i64 st] 26 (0, 0))) := by rw [← hW0, ← hX]; exact heap_alloc_new _ _
  have H0 := Lib.hid (h.below (by rw [hX]; exact B0.out))
  have CW : Hid (∀ W (hb : Below w.heap.size w W), Calls Try.prog 19 #[.pointer (some ⟨g, 0, none⟩)] W fun e w' => e = .returned (.int .i64 n) ∧ w' = W) := fun W hb => words_any lo p g n k has M st W (h.below hb)
  have CR : Hid (∀ W (hb : Below w.heap.size w W), Calls Try.prog 20 #[.pointer (some ⟨g, 0, none⟩)] W fun e w' => e = .returned (.int .i64 k) ∧ w' = W) := fun W hb => refresh_any lo p g n k has M st W (h.below hb)
  have HX := Lib.hid hX
  have hhb : (has == has) = true := by simp
  have hsb : (st == st) = true := by simp
  have hnb : (n == n) = true := by simp
  have hkb : (k == k) = true := by simp
  rw [hX]
  clear h
  go_enter Try.func12, Try.ntmps12
  go_wp2_with fail
  refine (stamp_any lo p g n k has M st W0 H0.out).mono ?_
  rintro e w2 ⟨rfl, b2⟩
  have hx2 : w2.heap[X]? = some (.cells #[.int .i64 n, .int .i64 k, .bool has, .slice Ar nr cr, .int .i64 st] 26 (0, 0)) := (b2.block _ (Array.getElem?_eq_some_iff.1 HX0.out).1).trans HX0.out
  have x0 : w2.cell? ⟨X, 0, none⟩ = some (.int .i64 n) := by rw [(row_cell hx2 0).1]; rfl
  have x1 : w2.cell? ⟨X, 1, none⟩ = some (.int .i64 k) := by rw [(row_cell hx2 1).1]; rfl
  have x2 : w2.cell? ⟨X, 2, none⟩ = some (.bool has) := by rw [(row_cell hx2 2).1]; rfl
  have x4 : w2.cell? ⟨X, 4, none⟩ = some (.int .i64 st) := by rw [(row_cell hx2 4).1]; rfl
  have B2 : Hid (Below w.heap.size w w2) := by
    have h5 := B0.out.size
    rw [HX.out]
    exact B0.out.trans (b2.mono (by have := HX.out; omega))
  clear b2 hx2
  go_wp2_with fail
  refine wp_region_held_drew (S := (fun w' => Below w.heap.size w w' ∧ w'.cell? ⟨X, 0, none⟩ = some (.int .i64 n) ∧ w'.cell? ⟨X, 1, none⟩ = some (.int .i64 k) ∧ w'.cell? ⟨X, 2, none⟩ = some (.bool has) ∧ w'.cell? ⟨X, 4, none⟩ = some (.int .i64 st))) (by kernel_rfl) ?_ (fun hHeld => ?_)
  · exact ⟨B2.out.drew, x0, x1, x2, x4⟩
  refine takeD (i := 0) (d := some 12) (v := ?_) _ rfl rfl (by kernel_rfl) (by kernel_rfl) (by kernel_rfl) (fun _ _ _ h => h) (by rfl) ?_ (by assumption) ?_
  rotate_left
  · (intro w hSw; (try dsimp only at hSw); go_simp) <;> with_reducible rfl
  try simp only [Act.put, List.setIfInBounds_toArray, List.set_cons_zero, List.set_cons_succ]
  refine takeD (i := 1) (d := some 13) (v := ?_) _ rfl rfl (by kernel_rfl) (by kernel_rfl) (by kernel_rfl) (fun _ _ _ h => h) (by rfl) ?_ (by assumption) ?_
  rotate_left
  · (intro w hSw; (try dsimp only at hSw); go_simp) <;> with_reducible rfl
  try simp only [Act.put, List.setIfInBounds_toArray, List.set_cons_zero, List.set_cons_succ]
  refine takeD (i := 2) (d := some 14) (v := ?_) _ rfl rfl (by kernel_rfl) (by kernel_rfl) (by kernel_rfl) (fun _ _ _ h => h) (by rfl) ?_ (by assumption) ?_
  rotate_left
  · (intro w hSw; (try dsimp only at hSw); go_simp) <;> with_reducible rfl
  try simp only [Act.put, List.setIfInBounds_toArray, List.set_cons_zero, List.set_cons_succ]
  refine takeD (i := 3) (d := some 15) (v := ?_) _ rfl rfl (by kernel_rfl) (by kernel_rfl) (by kernel_rfl) (fun _ _ _ h => h) (by rfl) ?_ (by assumption) ?_
  rotate_left
  · (intro w hSw; (try dsimp only at hSw); go_simp) <;> with_reducible rfl
  try simp only [Act.put, List.setIfInBounds_toArray, List.set_cons_zero, List.set_cons_succ]
  refine takeD (i := 4) (d := some 16) (v := ?_) _ rfl rfl (by kernel_rfl) (by kernel_rfl) (by kernel_rfl) (fun _ _ _ h => h) (by rfl) ?_ (by assumption) ?_
  rotate_left
  · (intro w hSw; (try dsimp only at hSw); go_simp) <;> with_reducible rfl
  try simp only [Act.put, List.setIfInBounds_toArray, List.set_cons_zero, List.set_cons_succ]
  refine takeD (i := 5) (d := some 17) (v := ?_) _ rfl rfl (by kernel_rfl) (by kernel_rfl) (by kernel_rfl) (fun _ _ _ h => h) (by rfl) ?_ (by assumption) ?_
  rotate_left
  · (intro w hSw; (try dsimp only at hSw); go_simp) <;> with_reducible rfl
  try simp only [Act.put, List.setIfInBounds_toArray, List.set_cons_zero, List.set_cons_succ]
  refine takeD (i := 6) (d := some 18) (v := ?_) _ rfl rfl (by kernel_rfl) (by kernel_rfl) (by kernel_rfl) (fun _ _ _ h => h) (by rfl) ?_ (by assumption) ?_
  rotate_left
  · (intro w hSw; (try dsimp only at hSw); go_simp) <;> with_reducible rfl
  try simp only [Act.put, List.setIfInBounds_toArray, List.set_cons_zero, List.set_cons_succ]
  refine takeD (i := 7) (d := some 19) (v := ?_) _ rfl rfl (by kernel_rfl) (by kernel_rfl) (by kernel_rfl) (fun _ _ _ h => h) (by rfl) ?_ (by assumption) ?_
  rotate_left
  · (intro w hSw; (try dsimp only at hSw); go_simp) <;> with_reducible rfl
  try simp only [Act.put, List.setIfInBounds_toArray, List.set_cons_zero, List.set_cons_succ]
  refine takeD (i := 8) (d := some 20) (v := ?_) _ rfl rfl (by kernel_rfl) (by kernel_rfl) (by kernel_rfl) (fun _ _ _ h => h) (by rfl) ?_ (by assumption) ?_
  rotate_left
  · (intro w hSw; (try dsimp only at hSw); go_simp) <;> with_reducible rfl
  try simp only [Act.put, List.setIfInBounds_toArray, List.set_cons_zero, List.set_cons_succ]
  refine takeD (i := 9) (d := some 21) (v := ?_) _ rfl rfl (by kernel_rfl) (by kernel_rfl) (by kernel_rfl) (fun _ _ _ h => h) (by rfl) ?_ (by assumption) ?_
  rotate_left
  · (intro w hSw; (try dsimp only at hSw); go_simp) <;> with_reducible rfl
  try simp only [Act.put, List.setIfInBounds_toArray, List.set_cons_zero, List.set_cons_succ]
  refine takeD (i := 10) (d := some 22) (v := ?_) _ rfl rfl (by kernel_rfl) (by kernel_rfl) (by kernel_rfl) (fun _ _ _ h => h) (by rfl) ?_ (by assumption) ?_
  rotate_left
  · (intro w hSw; (try dsimp only at hSw); go_simp) <;> with_reducible rfl
  try simp only [Act.put, List.setIfInBounds_toArray, List.set_cons_zero, List.set_cons_succ]
  refine takeD (i := 11) (d := some 23) (v := ?_) _ rfl rfl (by kernel_rfl) (by kernel_rfl) (by kernel_rfl) (fun _ _ _ h => h) (by rfl) ?_ (by assumption) ?_
  rotate_left
  · (intro w hSw; (try dsimp only at hSw); go_simp) <;> with_reducible rfl
  try simp only [Act.put, List.setIfInBounds_toArray, List.set_cons_zero, List.set_cons_succ]
  refine takeD (i := 13) (d := some 25) (v := ?_) _ rfl rfl (by kernel_rfl) (by kernel_rfl) (by kernel_rfl) (fun _ _ _ h => h) (by rfl) ?_ (by assumption) ?_
  rotate_left
  · (intro w hSw; (try dsimp only at hSw); go_simp) <;> with_reducible rfl
  try simp only [Act.put, List.setIfInBounds_toArray, List.set_cons_zero, List.set_cons_succ]
  refine takeD (i := 14) (d := some 26) (v := ?_) _ rfl rfl (by kernel_rfl) (by kernel_rfl) (by kernel_rfl) (fun _ _ _ h => h) (by rfl) ?_ (by assumption) ?_
  rotate_left
  · (intro w hSw; (try dsimp only at hSw); go_simp) <;> with_reducible rfl
  try simp only [Act.put, List.setIfInBounds_toArray, List.set_cons_zero, List.set_cons_succ]
  refine wpAnyH_ready (rs := [12]) (by kernel_rfl) (by simp) ?_
  refine AllReadyH.cons rfl (fun K hK => ?_) AllReadyH.nil
  try go_simp
  go_at_call 19
  refine (CW.out _ hHeld.1).mono ?_
  rintro e w12 ⟨rfl, hw⟩
  have hw := hw.symm
  subst hw
  try go_wp2_with fail
  refine hK.out _ _ hHeld (fun hHeld => ?_)
  clear hK K
  try simp only [Act.put, List.setIfInBounds_toArray, List.set_cons_zero, List.set_cons_succ]
  refine takeD (i := 15) (d := some 27) (v := ?_) _ rfl rfl (by kernel_rfl) (by kernel_rfl) (by kernel_rfl) (fun _ _ _ h => h) (by rfl) ?_ (by assumption) ?_
  rotate_left
  · (intro w hSw; (try dsimp only at hSw); go_simp) <;> with_reducible rfl
  try simp only [Act.put, List.setIfInBounds_toArray, List.set_cons_zero, List.set_cons_succ]
  refine takeD (i := 16) (d := some 28) (v := ?_) _ rfl rfl (by kernel_rfl) (by kernel_rfl) (by kernel_rfl) (fun _ _ _ h => h) (by rfl) ?_ (by assumption) ?_
  rotate_left
  · (intro w hSw; (try dsimp only at hSw); go_simp) <;> with_reducible rfl
  try simp only [Act.put, List.setIfInBounds_toArray, List.set_cons_zero, List.set_cons_succ]
  refine takeD (i := 17) (d := some 29) (v := ?_) _ rfl rfl (by kernel_rfl) (by kernel_rfl) (by kernel_rfl) (fun _ _ _ h => h) (by rfl) ?_ (by assumption) ?_
  rotate_left
  · (intro w hSw; (try dsimp only at hSw); go_simp) <;> with_reducible rfl
  try simp only [Act.put, List.setIfInBounds_toArray, List.set_cons_zero, List.set_cons_succ]
  refine takeD (i := 18) (d := some 30) (v := ?_) _ rfl rfl (by kernel_rfl) (by kernel_rfl) (by kernel_rfl) (fun _ _ _ h => h) (by rfl) ?_ (by assumption) ?_
  rotate_left
  · (intro w hSw; (try dsimp only at hSw); go_simp) <;> with_reducible rfl
  try simp only [Act.put, List.setIfInBounds_toArray, List.set_cons_zero, List.set_cons_succ]
  refine takeD (i := 20) (d := some 32) (v := ?_) _ rfl rfl (by kernel_rfl) (by kernel_rfl) (by kernel_rfl) (fun _ _ _ h => h) (by rfl) ?_ (by assumption) ?_
  rotate_left
  · (intro w hSw; (try dsimp only at hSw); go_simp) <;> with_reducible rfl
  try simp only [Act.put, List.setIfInBounds_toArray, List.set_cons_zero, List.set_cons_succ]
  refine takeD (i := 21) (d := some 33) (v := ?_) _ rfl rfl (by kernel_rfl) (by kernel_rfl) (by kernel_rfl) (fun _ _ _ h => h) (by rfl) ?_ (by assumption) ?_
  rotate_left
  · (intro w hSw; (try dsimp only at hSw); go_simp) <;> with_reducible rfl
  try simp only [Act.put, List.setIfInBounds_toArray, List.set_cons_zero, List.set_cons_succ]
  refine wpAnyH_ready (rs := [19]) (by kernel_rfl) (by simp) ?_
  refine AllReadyH.cons rfl (fun K hK => ?_) AllReadyH.nil
  try go_simp
  go_at_call 20
  refine (CR.out _ hHeld.1).mono ?_
  rintro e w19 ⟨rfl, hw⟩
  have hw := hw.symm
  subst hw
  try go_wp2_with fail
  refine hK.out _ _ hHeld (fun hHeld => ?_)
  clear hK K
  try simp only [Act.put, List.setIfInBounds_toArray, List.set_cons_zero, List.set_cons_succ]
  refine takeD (i := 22) (d := some 34) (v := ?_) _ rfl rfl (by kernel_rfl) (by kernel_rfl) (by kernel_rfl) (fun _ _ _ h => h) (by rfl) ?_ (by assumption) ?_
  rotate_left
  · (intro w hSw; (try dsimp only at hSw); go_simp) <;> with_reducible rfl
  try simp only [Act.put, List.setIfInBounds_toArray, List.set_cons_zero, List.set_cons_succ]
  refine takeD (i := 23) (d := some 35) (v := ?_) _ rfl rfl (by kernel_rfl) (by kernel_rfl) (by kernel_rfl) (fun _ _ _ h => h) (by rfl) ?_ (by assumption) ?_
  rotate_left
  · (intro w hSw; (try dsimp only at hSw); go_simp) <;> with_reducible rfl
  try simp only [Act.put, List.setIfInBounds_toArray, List.set_cons_zero, List.set_cons_succ]
  refine takeD (i := 24) (d := some 4) (v := ?_) _ rfl rfl (by kernel_rfl) (by kernel_rfl) (by kernel_rfl) (fun _ _ _ h => h) (by rfl) ?_ (by assumption) ?_
  rotate_left
  · (intro w hSw; (try dsimp only at hSw); go_simp) <;> with_reducible rfl
  try simp only [Act.put, List.setIfInBounds_toArray, List.set_cons_zero, List.set_cons_succ]
  refine wpAnyH_done (by kernel_rfl) ?_ _
  have HB := Lib.hid hHeld.1
  clear hHeld x0 x1 x2 x4
  go_wp2_with fail
  go_ret
  exact ⟨rfl, by rw [← HX.out]; exact HB.out⟩
end Go.Proofs.Ytmodkfboolmckaa.Sa
