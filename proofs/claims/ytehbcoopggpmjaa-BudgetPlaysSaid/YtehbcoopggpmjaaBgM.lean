/-
  A server as a plain thing, and how it reads in memory. Each statement bears its own conditions.
-/
import Derived.Test.YtehbcoopggpmjaaFo
import Derived.Deep.QuietTactic
namespace Go.Proofs.Ytehbcoopggpmjaa.Bg
open Go.RowKit Go.Proofs.Ytehbcoopggpmjaa.F 
set_option linter.unusedVariables false
set_option linter.unusedSimpArgs false
theorem _root_.Go.Proofs.Ytehbcoopggpmjaa.F.Fo.drewN {p : Nat → Prop} {w w' : World} (h : Fo p w w') (k : Nat) : Fo p w (w'.drewN k) := ⟨h.os, h.tape, h.output, h.size, h.block⟩
structure Sv where
  size : Int
  per : Int
  frm : Int
  last : Int
  used : Int
structure Sv.ok (s : Sv) : Prop where
  s1 : 1 ≤ s.size
  sp : s.size ≤ s.per
  pm : s.per ≤ 1048576
  f0 : 0 ≤ s.frm
  f1 : s.frm ≤ 1099511627776
  l0 : 0 ≤ s.last
  l1 : s.last ≤ 1099511627776
  u0 : 0 ≤ s.used
  us : s.used ≤ s.size
structure SV (w : World) (g : Nat) (s : Sv) : Prop where
  hp : w.heap[g]? = some (.cells #[.int .i64 s.size, .int .i64 s.per, .int .i64 s.frm, .int .i64 s.last, .int .i64 s.used] 61 (0, 0))
  ok : s.ok
section
variable {w w' : World} {g : Nat} {s : Sv} {q : Nat → Prop}
theorem SV.lt (h : SV w g s) : g < w.heap.size := (Array.getElem?_eq_some_iff.1 h.hp).1
theorem SV.below (h : SV w g s) (hb : Below w.heap.size w w') : SV w' g s := ⟨(hb.block g h.lt).trans h.hp, h.ok⟩
theorem SV.fo (h : SV w g s) (hf : Fo q w w') (hd : ¬ q g) : SV w' g s := ⟨(hf.block g h.lt hd).trans h.hp, h.ok⟩
theorem SV.drewN (h : SV w g s) (k : Nat) : SV (w.drewN k) g s := ⟨h.hp, h.ok⟩
end
def newI (z p : Int) : Prop := p ≤ 1048576 ∧ 1 ≤ z ∧ z ≤ p
instance (z p : Int) : Decidable (newI z p) := by unfold newI; exact inferInstance
def hasP (s : Sv) (t : Int) : Prop := s.frm ≤ t ∧ t ≤ 1099511627776
instance (s : Sv) (t : Int) : Decidable (hasP s t) := by unfold hasP; exact inferInstance
/-- The period in which a tick is. -/
def whV (s : Sv) (t : Int) : Int := (t - s.frm) / s.per
def nextV (s : Sv) (t : Int) : Int := if hasP s t then s.frm + (whV s t + 1) * s.per else 0
def leftV (s : Sv) (t : Int) : Int := if ¬ hasP s t then 0 else if whV s t < s.last then 0 else min (if whV s t = s.last then s.size - s.used else s.size) (nextV s t - t)
theorem wh_facts {s : Sv} {t : Int} (h : s.ok) (ht : hasP s t) : 0 ≤ whV s t ∧ whV s t * s.per ≤ t - s.frm ∧ t - s.frm < (whV s t + 1) * s.per ∧ whV s t ≤ t - s.frm ∧ (t - s.frm).tdiv s.per = whV s t ∧ (whV s t + 1) * s.per = whV s t * s.per + s.per := by
  have hP : 0 < s.per := by have := h.s1; have := h.sp; omega
  have h0 : 0 ≤ t - s.frm := by have := ht.1; omega
  exact ⟨Int.ediv_nonneg h0 (by omega), Int.ediv_mul_le _ (by omega), Int.lt_ediv_add_one_mul_self _ hP, Int.ediv_le_self _ h0, Int.tdiv_eq_ediv_of_nonneg h0, by rw [Int.add_mul, Int.one_mul]⟩
theorem next_facts {s : Sv} {t : Int} (h : s.ok) (ht : hasP s t) : nextV s t = s.frm + (whV s t + 1) * s.per ∧ t < nextV s t ∧ nextV s t ≤ t + s.per := by
  have e : nextV s t = s.frm + (whV s t + 1) * s.per := if_pos ht
  obtain ⟨a, b, c, d, _, f⟩ := wh_facts h ht
  refine ⟨e, by omega, by omega⟩
theorem left_facts {s : Sv} {t : Int} (h : s.ok) : 0 ≤ leftV s t ∧ leftV s t ≤ s.size := by
  have h1 := h.u0
  have h2 := h.us
  have h3 := h.s1
  unfold leftV
  split
  · omega
  · rename_i hh
    have hn := next_facts h (Decidable.not_not.1 hh)
    split
    · omega
    · split <;> omega
theorem new_any (z p : Int) (w : World) (h : newI z p) : Calls Try.prog 9 #[.int .i64 z, .int .i64 p] w fun e w' => e = .returned (.tuple #[.pointer (some ⟨w.heap.size, 0, none⟩), .int .i64 0]) ∧ SV w' w.heap.size ⟨z, p, 0, 0, 0⟩ ∧ Below w.heap.size w w' := by
  have HO : Hid (Sv.ok ⟨z, p, 0, 0, 0⟩) := ⟨h.2.1, h.2.2, h.1, by simp, by simp, by simp, by simp, by simp, by have := h.2.1; simp; omega⟩
  have e1 : decide (1048576 < p) = false := by have := h.1; simpa using this
  have e2 : decide (z < 1) = false := by have := h.2.1; simpa using this
  have e3 : decide (p < z) = false := by have := h.2.2; simpa using this
  clear h
  go_enter Try.func9, Try.ntmps9
  go_wp2_with fail
  go_ret2
  exact ⟨rfl, ⟨heap_alloc_new w _, HO.out⟩, (Below.refl _ _).alloc (Nat.le_refl _) _⟩
theorem new_bad (z p : Int) (w : World) (h : ¬ newI z p) : Calls Try.prog 9 #[.int .i64 z, .int .i64 p] w fun e w' => e = .returned (.tuple #[.pointer none, .int .i64 2]) ∧ w' = w := by
  by_cases h0 : 1048576 < p
  · have e1 : decide (1048576 < p) = true := by simpa using h0
    clear h h0
    go_enter Try.func9, Try.ntmps9
    go_wp2_with fail
    go_ret2
    exact ⟨rfl, rfl⟩
  have e1 : decide (1048576 < p) = false := by simpa using h0
  by_cases h1 : z < 1
  · have e2 : decide (z < 1) = true := by simpa using h1
    clear h h0 h1
    go_enter Try.func9, Try.ntmps9
    go_wp2_with fail
    go_ret2
    exact ⟨rfl, rfl⟩
  have e2 : decide (z < 1) = false := by simpa using h1
  have e3 : decide (p < z) = true := by unfold newI at h; simp; omega
  clear h h0 h1
  go_enter Try.func9, Try.ntmps9
  go_wp2_with fail
  go_ret2
  exact ⟨rfl, rfl⟩
theorem has_any (g : Nat) (s : Sv) (t : Int) (w : World) (h : SV w g s) : Calls Try.prog 23 #[.pointer (some ⟨g, 0, none⟩), .int .i64 t] w fun e w' => e = .returned (.bool (decide (hasP s t))) ∧ w' = w := by
  obtain ⟨Z, P, F, K, U⟩ := s
  have hp := h.hp
  have hn : (binOp .neq 23 (.pointer (some ⟨g, 0, none⟩)) (.pointer none)).run Try.prog w = .ok (.bool true) w := rfl
  have d0 : w.cell? ⟨g, 0, none⟩ = some (.int .i64 Z) := by rw [(row_cell hp 0).1]; rfl
  have dz0 : w.frozen? ⟨g, 0, none⟩ = false := (row_cell hp 0).2
  have d1 : w.cell? ⟨g, 1, none⟩ = some (.int .i64 P) := by rw [(row_cell hp 1).1]; rfl
  have dz1 : w.frozen? ⟨g, 1, none⟩ = false := (row_cell hp 1).2
  have d2 : w.cell? ⟨g, 2, none⟩ = some (.int .i64 F) := by rw [(row_cell hp 2).1]; rfl
  have dz2 : w.frozen? ⟨g, 2, none⟩ = false := (row_cell hp 2).2
  have d3 : w.cell? ⟨g, 3, none⟩ = some (.int .i64 K) := by rw [(row_cell hp 3).1]; rfl
  have dz3 : w.frozen? ⟨g, 3, none⟩ = false := (row_cell hp 3).2
  have d4 : w.cell? ⟨g, 4, none⟩ = some (.int .i64 U) := by rw [(row_cell hp 4).1]; rfl
  have dz4 : w.frozen? ⟨g, 4, none⟩ = false := (row_cell hp 4).2
  clear h hp
  by_cases h1 : F ≤ t
  · have g1 : decide (F ≤ t) = true := by simpa using h1
    by_cases h2 : t ≤ 1099511627776
    · have g2 : decide (t ≤ 1099511627776) = true := by simpa using h2
      rw [decide_eq_true (show hasP ⟨Z, P, F, K, U⟩ t from ⟨h1, h2⟩)]
      clear h1 h2
      go_enter Try.func23, Try.ntmps23
      go_wp2_with fail
      go_ret
      exact ⟨rfl, rfl⟩
    · have g2 : decide (t ≤ 1099511627776) = false := by simpa using h2
      rw [decide_eq_false (fun hh : hasP ⟨Z, P, F, K, U⟩ t => h2 hh.2)]
      clear h1 h2
      go_enter Try.func23, Try.ntmps23
      go_wp2_with fail
      go_ret
      exact ⟨rfl, rfl⟩
  · have g1 : decide (F ≤ t) = false := by simpa using h1
    rw [decide_eq_false (fun hh : hasP ⟨Z, P, F, K, U⟩ t => h1 hh.1)]
    clear h1
    go_enter Try.func23, Try.ntmps23
    go_wp2_with fail
    go_ret
    exact ⟨rfl, rfl⟩
theorem has_nil (t : Int) (w : World) : Calls Try.prog 23 #[.pointer none, .int .i64 t] w fun e w' => e = .returned (.bool false) ∧ w' = w := by
  go_enter Try.func23, Try.ntmps23
  go_wp2_with fail
  go_ret
  exact ⟨rfl, rfl⟩
set_option maxRecDepth 100000 in
set_option maxHeartbeats 4000000 in
theorem which_any (g : Nat) (s : Sv) (t : Int) (w : World) (h : SV w g s) (ht : hasP s t) : Calls Try.prog 24 #[.pointer (some ⟨g, 0, none⟩), .int .i64 t] w fun e w' => e = .returned (.int .i64 (whV s t)) ∧ ∃ m, w' = w.drewN m := by
  obtain ⟨q1, _, _, q4, q5, _⟩ := wh_facts h.ok ht
  obtain ⟨q, hq⟩ : ∃ q, whV s t = q := ⟨_, rfl⟩
  rw [hq] at q1 q4 q5 ⊢
  have ok := h.ok
  obtain ⟨Z, P, F, K, U⟩ := s
  have hp := h.hp
  simp only at q4 q5
  have h1 := ht.1
  have h2 := ht.2
  have h3 := ok.f0
  have h4 := ok.s1
  have h5 := ok.sp
  simp only at h1 h3 h4 h5
  have v1 : IntKind.i64.wrap (t - F) = t - F := by rw [IntKind.wrap_i64]; omega
  have v2 : IntKind.i64.wrap q = q := by rw [IntKind.wrap_i64]; omega
  have p0 : ¬ P = 0 := by omega
  have d0 : w.cell? ⟨g, 0, none⟩ = some (.int .i64 Z) := by rw [(row_cell hp 0).1]; rfl
  have d1 : w.cell? ⟨g, 1, none⟩ = some (.int .i64 P) := by rw [(row_cell hp 1).1]; rfl
  have d2 : w.cell? ⟨g, 2, none⟩ = some (.int .i64 F) := by rw [(row_cell hp 2).1]; rfl
  have d3 : w.cell? ⟨g, 3, none⟩ = some (.int .i64 K) := by rw [(row_cell hp 3).1]; rfl
  have d4 : w.cell? ⟨g, 4, none⟩ = some (.int .i64 U) := by rw [(row_cell hp 4).1]; rfl
  clear h hp ht ok hq q1 q4 h1 h2 h3 h4 h5
  go_enter Try.func24, Try.ntmps24
  go_wp2_with fail
  refine wp_region_held_drew (S := (fun w' => w' = w.drew ∧ w'.cell? ⟨g, 1, none⟩ = some (.int .i64 P) ∧ w'.cell? ⟨g, 2, none⟩ = some (.int .i64 F))) (by kernel_rfl) ⟨rfl, d1, d2⟩ (fun hHeld => ?_)
  refine takeD (i := 0) (d := some 5) (v := ?_) _ rfl rfl (by kernel_rfl) (by kernel_rfl) (by kernel_rfl) (fun _ _ _ h => h) (by rfl) ?_ (by assumption) ?_
  rotate_left
  · (intro w hSw; (try dsimp only at hSw); go_simp) <;> with_reducible rfl
  try simp only [Act.put, List.setIfInBounds_toArray, List.set_cons_zero, List.set_cons_succ]
  refine takeD (i := 1) (d := some 6) (v := ?_) _ rfl rfl (by kernel_rfl) (by kernel_rfl) (by kernel_rfl) (fun _ _ _ h => h) (by rfl) ?_ (by assumption) ?_
  rotate_left
  · (intro w hSw; (try dsimp only at hSw); go_simp) <;> with_reducible rfl
  try simp only [Act.put, List.setIfInBounds_toArray, List.set_cons_zero, List.set_cons_succ]
  refine takeD (i := 2) (d := some 7) (v := ?_) _ rfl rfl (by kernel_rfl) (by kernel_rfl) (by kernel_rfl) (fun _ _ _ h => h) (by rfl) ?_ (by assumption) ?_
  rotate_left
  · (intro w hSw; (try dsimp only at hSw); go_simp) <;> with_reducible rfl
  try simp only [Act.put, List.setIfInBounds_toArray, List.set_cons_zero, List.set_cons_succ]
  refine takeD (i := 3) (d := some 8) (v := ?_) _ rfl rfl (by kernel_rfl) (by kernel_rfl) (by kernel_rfl) (fun _ _ _ h => h) (by rfl) ?_ (by assumption) ?_
  rotate_left
  · (intro w hSw; (try dsimp only at hSw); go_simp) <;> with_reducible rfl
  try simp only [Act.put, List.setIfInBounds_toArray, List.set_cons_zero, List.set_cons_succ]
  refine takeD (i := 4) (d := some 9) (v := ?_) _ rfl rfl (by kernel_rfl) (by kernel_rfl) (by kernel_rfl) (fun _ _ _ h => h) (by rfl) ?_ (by assumption) ?_
  rotate_left
  · (intro w hSw; (try dsimp only at hSw); go_simp) <;> with_reducible rfl
  try simp only [Act.put, List.setIfInBounds_toArray, List.set_cons_zero, List.set_cons_succ]
  refine takeD (i := 5) (d := some 10) (v := ?_) _ rfl rfl (by kernel_rfl) (by kernel_rfl) (by kernel_rfl) (fun _ _ _ h => h) (by rfl) ?_ (by assumption) ?_
  rotate_left
  · (intro w hSw; (try dsimp only at hSw); go_simp) <;> with_reducible rfl
  try simp only [Act.put, List.setIfInBounds_toArray, List.set_cons_zero, List.set_cons_succ]
  refine takeD (i := 6) (d := some 11) (v := ?_) _ rfl rfl (by kernel_rfl) (by kernel_rfl) (by kernel_rfl) (fun _ _ _ h => h) (by rfl) ?_ (by assumption) ?_
  rotate_left
  · (intro w hSw; (try dsimp only at hSw); go_simp) <;> with_reducible rfl
  try simp only [Act.put, List.setIfInBounds_toArray, List.set_cons_zero, List.set_cons_succ]
  refine takeD (i := 7) (d := some 12) (v := ?_) _ rfl rfl (by kernel_rfl) (by kernel_rfl) (by kernel_rfl) (fun _ _ _ h => h) (by rfl) ?_ (by assumption) ?_
  rotate_left
  · (intro w hSw; (try dsimp only at hSw); go_simp) <;> with_reducible rfl
  try simp only [Act.put, List.setIfInBounds_toArray, List.set_cons_zero, List.set_cons_succ]
  refine takeD (i := 8) (d := some 13) (v := ?_) _ rfl rfl (by kernel_rfl) (by kernel_rfl) (by kernel_rfl) (fun _ _ _ h => h) (by rfl) ?_ (by assumption) ?_
  rotate_left
  · (intro w hSw; (try dsimp only at hSw); go_simp) <;> with_reducible rfl
  try simp only [Act.put, List.setIfInBounds_toArray, List.set_cons_zero, List.set_cons_succ]
  refine takeD (i := 9) (d := some 14) (v := ?_) _ rfl rfl (by kernel_rfl) (by kernel_rfl) (by kernel_rfl) (fun _ _ _ h => h) (by rfl) ?_ (by assumption) ?_
  rotate_left
  · (intro w hSw; (try dsimp only at hSw); go_simp) <;> with_reducible rfl
  try simp only [Act.put, List.setIfInBounds_toArray, List.set_cons_zero, List.set_cons_succ]
  refine takeD (i := 10) (d := some 15) (v := ?_) _ rfl rfl (by kernel_rfl) (by kernel_rfl) (by kernel_rfl) (fun _ _ _ h => h) (by rfl) ?_ (by assumption) ?_
  rotate_left
  · (intro w hSw; (try dsimp only at hSw); go_simp) <;> with_reducible rfl
  try simp only [Act.put, List.setIfInBounds_toArray, List.set_cons_zero, List.set_cons_succ]
  refine takeD (i := 11) (d := some 16) (v := ?_) _ rfl rfl (by kernel_rfl) (by kernel_rfl) (by kernel_rfl) (fun _ _ _ h => h) (by rfl) ?_ (by assumption) ?_
  rotate_left
  · (intro w hSw; (try dsimp only at hSw); go_simp) <;> with_reducible rfl
  try simp only [Act.put, List.setIfInBounds_toArray, List.set_cons_zero, List.set_cons_succ]
  refine takeD (i := 12) (d := some 4) (v := ?_) _ rfl rfl (by kernel_rfl) (by kernel_rfl) (by kernel_rfl) (fun _ _ _ h => h) (by rfl) ?_ (by assumption) ?_
  rotate_left
  · (intro w hSw; (try dsimp only at hSw); go_simp) <;> with_reducible rfl
  try simp only [Act.put, List.setIfInBounds_toArray, List.set_cons_zero, List.set_cons_succ]
  refine wpAnyH_done (by kernel_rfl) ?_ _
  clear hHeld
  go_wp2_with fail
  go_ret
  exact ⟨rfl, 1, rfl⟩
set_option maxRecDepth 100000 in
set_option maxHeartbeats 4000000 in
theorem next_any (g : Nat) (s : Sv) (t : Int) (w : World) (h : SV w g s) : Calls Try.prog 14 #[.pointer (some ⟨g, 0, none⟩), .int .i64 t] w fun e w' => e = .returned (.int .i64 (nextV s t)) ∧ ∃ m, w' = w.drewN m := by
  have CH := Lib.hid (has_any g s t w h)
  by_cases ht : hasP s t
  · rw [decide_eq_true ht] at CH
    have CW : Hid (∀ n, Calls Try.prog 24 #[.pointer (some ⟨g, 0, none⟩), .int .i64 t] (w.drewN n) fun e w' => e = .returned (.int .i64 (whV s t)) ∧ ∃ m, w' = (w.drewN n).drewN m) := fun n => which_any g s t _ (h.drewN n) ht
    obtain ⟨q1, q2, q3, q4, _, q6⟩ := wh_facts h.ok ht
    obtain ⟨n1, n2, n3⟩ := next_facts h.ok ht
    obtain ⟨q, hq⟩ : ∃ q, whV s t = q := ⟨_, rfl⟩
    rw [hq] at q1 q2 q3 q4 q6 n1 CW
    rw [n1] at n2 n3 ⊢
    have ok := h.ok
    obtain ⟨Z, P, F, K, U⟩ := s
    have hp := h.hp
    simp only at q2 q3 q4 q6 n2 n3
    have h1 := ht.1
    have h2 := ht.2
    have h3 := ok.f0
    have h4 := ok.s1
    have h5 := ok.sp
    have h6 := ok.pm
    simp only at h1 h3 h4 h5 h6
    have v1 : IntKind.i64.wrap (q + 1) = q + 1 := by rw [IntKind.wrap_i64]; omega
    have v2 : IntKind.i64.wrap ((q + 1) * P) = (q + 1) * P := by rw [IntKind.wrap_i64]; omega
    have v3 : IntKind.i64.wrap (F + (q + 1) * P) = F + (q + 1) * P := by rw [IntKind.wrap_i64]; omega
    have d0 : w.cell? ⟨g, 0, none⟩ = some (.int .i64 Z) := by rw [(row_cell hp 0).1]; rfl
    have d1 : w.cell? ⟨g, 1, none⟩ = some (.int .i64 P) := by rw [(row_cell hp 1).1]; rfl
    have d2 : w.cell? ⟨g, 2, none⟩ = some (.int .i64 F) := by rw [(row_cell hp 2).1]; rfl
    have d3 : w.cell? ⟨g, 3, none⟩ = some (.int .i64 K) := by rw [(row_cell hp 3).1]; rfl
    have d4 : w.cell? ⟨g, 4, none⟩ = some (.int .i64 U) := by rw [(row_cell hp 4).1]; rfl
    clear h hp ht ok hq q1 q2 q3 q4 q6 n1 n2 n3 h1 h2 h3 h4 h5 h6
    go_enter Try.func14, Try.ntmps14
    go_wp2_with fail
    refine CH.out.mono ?_
    rintro e w1 ⟨rfl, hw1⟩
    rw [hw1]
    clear hw1
    go_wp2_with fail
    go_quiet (first
      | (refine Calls.quiet_of (CW.out _)))
    go_wp2_with fail
    go_ret
    exact ⟨rfl, _, rfl⟩
  · rw [decide_eq_false ht] at CH
    rw [show nextV s t = 0 from if_neg ht]
    clear h ht
    go_enter Try.func14, Try.ntmps14
    go_wp2_with fail
    refine CH.out.mono ?_
    rintro e w1 ⟨rfl, hw1⟩
    rw [hw1]
    clear hw1
    go_wp2_with fail
    go_ret
    exact ⟨rfl, 0, rfl⟩
theorem next_nil (t : Int) (w : World) : Calls Try.prog 14 #[.pointer none, .int .i64 t] w fun e w' => e = .returned (.int .i64 0) ∧ w' = w := by
  go_enter Try.func14, Try.ntmps14
  go_wp2_with fail
  refine (has_nil t w).mono ?_
  rintro e w1 ⟨rfl, hw1⟩
  rw [hw1]
  clear hw1
  go_wp2_with fail
  go_ret
  exact ⟨rfl, rfl⟩
end Go.Proofs.Ytehbcoopggpmjaa.Bg
