/-
  The list that the reference keeps, in memory; may, Next. Each statement bears its own conditions.
-/
import Derived.Test.YtehbcoopggpmjaaBgR
namespace Go.Proofs.Ytehbcoopggpmjaa.Bg
open Go.RowKit Go.Proofs.Ytehbcoopggpmjaa.F
set_option linter.unusedVariables false
set_option linter.unusedSimpArgs false
/-- The reference's list in memory. -/
structure LV (w : World) (p : Nat → Prop) (v : Value) (L : List (Int × Int)) : Prop where
  ex : ∃ (A : Option Addr) (c : Nat), v = .slice A L.length c ∧ (0 < L.length → ∃ b off : Nat, A = some ⟨b, off, none⟩ ∧ b < w.heap.size ∧ p b ∧ ∀ i d, L[i]? = some d → w.cell? ⟨b, off + i * 2, none⟩ = some (.int .i64 d.1) ∧ w.cell? ⟨b, off + i * 2 + 1, none⟩ = some (.int .i64 d.2))
theorem LV.nil (w : World) (p : Nat → Prop) : LV w p (.slice none 0 0) [] := ⟨none, 0, rfl, fun h => by simp at h⟩
theorem LV.keep {w w' : World} {p : Nat → Prop} {v : Value} {L : List (Int × Int)} (h : LV w p v L) (hs : w.heap.size ≤ w'.heap.size) (hk : ∀ b, b < w.heap.size → p b → w'.heap[b]? = w.heap[b]?) : LV w' p v L := by
  obtain ⟨A, c, e, h1⟩ := h.ex
  refine ⟨A, c, e, fun h0 => ?_⟩
  obtain ⟨b, off, e1, hb, hp, hc⟩ := h1 h0
  refine ⟨b, off, e1, Nat.lt_of_lt_of_le hb hs, hp, fun i d hd => ?_⟩
  obtain ⟨c1, c2⟩ := hc i d hd
  exact ⟨(World.cell?_of_block (hk b hb hp)).trans c1, (World.cell?_of_block (hk b hb hp)).trans c2⟩
theorem LV.below {w w' : World} {p : Nat → Prop} {v : Value} {L : List (Int × Int)} (h : LV w p v L) (hb : Below w.heap.size w w') : LV w' p v L := h.keep hb.size (fun b hb' _ => hb.block b hb')
theorem LV.fo {w w' : World} {p q : Nat → Prop} {v : Value} {L : List (Int × Int)} (h : LV w p v L) (hf : Fo q w w') (hd : ∀ b, p b → ¬ q b) : LV w' p v L := h.keep hf.size (fun b hb hp => hf.block b hb (hd b hp))
theorem LV.imp {w : World} {p q : Nat → Prop} {v : Value} {L : List (Int × Int)} (h : LV w p v L) (hi : ∀ b, b < w.heap.size → p b → q b) : LV w q v L := by
  obtain ⟨A, c, e, h1⟩ := h.ex
  refine ⟨A, c, e, fun h0 => ?_⟩
  obtain ⟨b, off, e1, hb, hp, hc⟩ := h1 h0
  exact ⟨b, off, e1, hb, hi b hb hp, hc⟩
set_option maxRecDepth 100000 in
set_option maxHeartbeats 16000000 in
theorem rnext_any (Z P F K U t : Int) (lv : Value) (w : World) (h : Sv.ok ⟨Z, P, F, K, U⟩) : Calls Try.prog 15 #[.agg #[.int .i64 Z, .int .i64 P, .int .i64 F, lv], .int .i64 t] w fun e w' => e = .returned (.int .i64 (nextV ⟨Z, P, F, K, U⟩ t)) ∧ Below w.heap.size w w' := by
  obtain ⟨X, hX⟩ : ∃ X, w.heap.size = X := ⟨_, rfl⟩
  obtain ⟨W0, hW0⟩ : ∃ W0, w.alloc (.cells #[.int .i64 Z, .int .i64 P, .int .i64 F, lv] 29) = W0 := ⟨_, rfl⟩
  have B0 : Hid (Below X w W0) := by rw [← hW0, ← hX]; exact (Below.refl _ _).alloc (Nat.le_refl _) _
  have HX0 : Hid (W0.heap[X]? = some (.cells #[.int .i64 Z, .int .i64 P, .int .i64 F, lv] 29 (0, 0))) := by rw [← hW0, ← hX]; exact heap_alloc_new _ _
  have S0 : Hid (W0.heap.size = X + 1) := by rw [← hW0, ← hX]; unfold Hid; simp
  obtain ⟨nv, hnv⟩ : ∃ x, nextV ⟨Z, P, F, K, U⟩ t = x := ⟨_, rfl⟩
  rw [hnv]
  have HN := Lib.hid hnv
  have x0 : W0.cell? ⟨X, 0, none⟩ = some (.int .i64 Z) := by rw [(row_cell HX0.out 0).1]; rfl
  have x1 : W0.cell? ⟨X, 1, none⟩ = some (.int .i64 P) := by rw [(row_cell HX0.out 1).1]; rfl
  have x2 : W0.cell? ⟨X, 2, none⟩ = some (.int .i64 F) := by rw [(row_cell HX0.out 2).1]; rfl
  have x3 : W0.cell? ⟨X, 3, none⟩ = some (lv) := by rw [(row_cell HX0.out 3).1]; rfl
  simp only [hX]
  by_cases h1 : F ≤ t
  rotate_left
  · have k1 : decide (t < F) = true := by simp; omega
    have HE : Hid (nv = 0) := by rw [← hnv]; unfold Hid nextV; rw [if_neg (fun hh => h1 hh.1)]
    clear h1 hnv
    go_enter Try.func15, Try.ntmps15
    go_wp2_with fail
    go_ret
    exact ⟨by rw [HE.out]; rfl, B0.out⟩
  have k1 : decide (t < F) = false := by simp; omega
  by_cases h2 : t ≤ 1099511627776
  rotate_left
  · have k2 : decide (1099511627776 < t) = true := by simp; omega
    have HE : Hid (nv = 0) := by rw [← hnv]; unfold Hid nextV; rw [if_neg (fun hh => h2 hh.2)]
    clear h1 h2 hnv
    go_enter Try.func15, Try.ntmps15
    go_wp2_with fail
    go_ret
    exact ⟨by rw [HE.out]; rfl, B0.out⟩
  have k2 : decide (1099511627776 < t) = false := by simp; omega
  have hh : hasP ⟨Z, P, F, K, U⟩ t := ⟨h1, h2⟩
  obtain ⟨f1, f2, f3, f4, f5, f6⟩ := wh_facts h hh
  obtain ⟨n1, n2, n3⟩ := next_facts h hh
  have f0 : 0 ≤ F := h.f0
  have p1 : P ≤ 1048576 := h.pm
  have p0 : 1 ≤ P := by have := h.s1; have := h.sp; simp only at *; omega
  obtain ⟨q, hq⟩ : ∃ q, whV ⟨Z, P, F, K, U⟩ t = q := ⟨_, rfl⟩
  rw [hq] at f1 f2 f3 f4 f5 f6 n1
  rw [hnv] at n1 n2 n3
  simp only at f1 f2 f3 f4 f5 f6 n1 n3
  obtain ⟨m, hm⟩ : ∃ m, (q + 1) * P = m := ⟨_, rfl⟩
  rw [hm] at n1
  have u1 : IntKind.i64.wrap (t - F) = t - F := by rw [IntKind.wrap_i64]; omega
  have u2 : (t - F).tdiv P = q := f5
  have u3 : IntKind.i64.wrap q = q := by rw [IntKind.wrap_i64]; omega
  have u4 : IntKind.i64.wrap (q + 1) = q + 1 := by rw [IntKind.wrap_i64]; omega
  have u5 : IntKind.i64.wrap m = m := by rw [IntKind.wrap_i64]; omega
  have u6 : IntKind.i64.wrap (F + m) = nv := by rw [IntKind.wrap_i64]; omega
  have hP0 : ¬ P = 0 := by omega
  clear h h1 h2 hh f1 f2 f3 f4 f5 f6 n1 n2 n3 f0 p0 p1 hq hnv
  go_enter Try.func15, Try.ntmps15
  go_upto_region 3 with fail
  clear hW0
  refine wp_region_held_drew (S := (fun w' => Below W0.heap.size W0 w' ∧ w'.cell? ⟨X, 0, none⟩ = some (.int .i64 Z) ∧ w'.cell? ⟨X, 1, none⟩ = some (.int .i64 P) ∧ w'.cell? ⟨X, 2, none⟩ = some (.int .i64 F))) (by kernel_rfl) ⟨(Below.refl _ _).drew, x0, x1, x2⟩ (fun hHeld => ?_)
  refine takeD (i := 0) (d := some 13) (v := ?_) _ rfl rfl (by kernel_rfl) (by kernel_rfl) (by kernel_rfl) (fun _ _ _ h => h) (by rfl) ?_ (by assumption) ?_
  rotate_left
  · (intro w hSw; (try dsimp only at hSw); go_simp) <;> with_reducible rfl
  try simp only [Act.put, List.setIfInBounds_toArray, List.set_cons_zero, List.set_cons_succ]
  refine takeD (i := 1) (d := some 14) (v := ?_) _ rfl rfl (by kernel_rfl) (by kernel_rfl) (by kernel_rfl) (fun _ _ _ h => h) (by rfl) ?_ (by assumption) ?_
  rotate_left
  · (intro w hSw; (try dsimp only at hSw); go_simp) <;> with_reducible rfl
  try simp only [Act.put, List.setIfInBounds_toArray, List.set_cons_zero, List.set_cons_succ]
  refine takeD (i := 2) (d := some 15) (v := ?_) _ rfl rfl (by kernel_rfl) (by kernel_rfl) (by kernel_rfl) (fun _ _ _ h => h) (by rfl) ?_ (by assumption) ?_
  rotate_left
  · (intro w hSw; (try dsimp only at hSw); go_simp) <;> with_reducible rfl
  try simp only [Act.put, List.setIfInBounds_toArray, List.set_cons_zero, List.set_cons_succ]
  refine takeD (i := 3) (d := some 16) (v := ?_) _ rfl rfl (by kernel_rfl) (by kernel_rfl) (by kernel_rfl) (fun _ _ _ h => h) (by rfl) ?_ (by assumption) ?_
  rotate_left
  · (intro w hSw; (try dsimp only at hSw); go_simp) <;> with_reducible rfl
  try simp only [Act.put, List.setIfInBounds_toArray, List.set_cons_zero, List.set_cons_succ]
  refine takeD (i := 4) (d := some 17) (v := ?_) _ rfl rfl (by kernel_rfl) (by kernel_rfl) (by kernel_rfl) (fun _ _ _ h => h) (by rfl) ?_ (by assumption) ?_
  rotate_left
  · (intro w hSw; (try dsimp only at hSw); go_simp) <;> with_reducible rfl
  try simp only [Act.put, List.setIfInBounds_toArray, List.set_cons_zero, List.set_cons_succ]
  refine takeD (i := 5) (d := some 18) (v := ?_) _ rfl rfl (by kernel_rfl) (by kernel_rfl) (by kernel_rfl) (fun _ _ _ h => h) (by rfl) ?_ (by assumption) ?_
  rotate_left
  · (intro w hSw; (try dsimp only at hSw); go_simp) <;> with_reducible rfl
  try simp only [Act.put, List.setIfInBounds_toArray, List.set_cons_zero, List.set_cons_succ]
  refine takeD (i := 6) (d := some 19) (v := ?_) _ rfl rfl (by kernel_rfl) (by kernel_rfl) (by kernel_rfl) (fun _ _ _ h => h) (by rfl) ?_ (by assumption) ?_
  rotate_left
  · (intro w hSw; (try dsimp only at hSw); go_simp) <;> with_reducible rfl
  try simp only [Act.put, List.setIfInBounds_toArray, List.set_cons_zero, List.set_cons_succ]
  refine takeD (i := 7) (d := some 20) (v := ?_) _ rfl rfl (by kernel_rfl) (by kernel_rfl) (by kernel_rfl) (fun _ _ _ h => h) (by rfl) ?_ (by assumption) ?_
  rotate_left
  · (intro w hSw; (try dsimp only at hSw); go_simp) <;> with_reducible rfl
  try simp only [Act.put, List.setIfInBounds_toArray, List.set_cons_zero, List.set_cons_succ]
  refine takeD (i := 8) (d := some 21) (v := ?_) _ rfl rfl (by kernel_rfl) (by kernel_rfl) (by kernel_rfl) (fun _ _ _ h => h) (by rfl) ?_ (by assumption) ?_
  rotate_left
  · (intro w hSw; (try dsimp only at hSw); go_simp) <;> with_reducible rfl
  try simp only [Act.put, List.setIfInBounds_toArray, List.set_cons_zero, List.set_cons_succ]
  refine takeD (i := 9) (d := some 22) (v := ?_) _ rfl rfl (by kernel_rfl) (by kernel_rfl) (by kernel_rfl) (fun _ _ _ h => h) (by rfl) ?_ (by assumption) ?_
  rotate_left
  · (intro w hSw; (try dsimp only at hSw); go_simp) <;> with_reducible rfl
  try simp only [Act.put, List.setIfInBounds_toArray, List.set_cons_zero, List.set_cons_succ]
  refine takeD (i := 10) (d := some 23) (v := ?_) _ rfl rfl (by kernel_rfl) (by kernel_rfl) (by kernel_rfl) (fun _ _ _ h => h) (by rfl) ?_ (by assumption) ?_
  rotate_left
  · (intro w hSw; (try dsimp only at hSw); go_simp) <;> with_reducible rfl
  try simp only [Act.put, List.setIfInBounds_toArray, List.set_cons_zero, List.set_cons_succ]
  refine takeD (i := 11) (d := some 24) (v := ?_) _ rfl rfl (by kernel_rfl) (by kernel_rfl) (by kernel_rfl) (fun _ _ _ h => h) (by rfl) ?_ (by assumption) ?_
  rotate_left
  · (intro w hSw; (try dsimp only at hSw); go_simp) <;> with_reducible rfl
  try simp only [Act.put, List.setIfInBounds_toArray, List.set_cons_zero, List.set_cons_succ]
  refine takeD (i := 12) (d := some 25) (v := ?_) _ rfl rfl (by kernel_rfl) (by kernel_rfl) (by kernel_rfl) (fun _ _ _ h => h) (by rfl) ?_ (by assumption) ?_
  rotate_left
  · (intro w hSw; (try dsimp only at hSw); go_simp) <;> with_reducible rfl
  try simp only [Act.put, List.setIfInBounds_toArray, List.set_cons_zero, List.set_cons_succ]
  refine takeD (i := 13) (d := some 26) (v := ?_) _ rfl rfl (by kernel_rfl) (by kernel_rfl) (by kernel_rfl) (fun _ _ _ h => h) (by rfl) ?_ (by assumption) ?_
  rotate_left
  · (intro w hSw; (try dsimp only at hSw); go_simp) <;> with_reducible rfl
  try simp only [Act.put, List.setIfInBounds_toArray, List.set_cons_zero, List.set_cons_succ]
  refine takeD (i := 14) (d := some 4) (v := ?_) _ rfl rfl (by kernel_rfl) (by kernel_rfl) (by kernel_rfl) (fun _ _ _ h => h) (by rfl) ?_ (by assumption) ?_
  rotate_left
  · (intro w hSw; (try dsimp only at hSw); go_simp) <;> with_reducible rfl
  try simp only [Act.put, List.setIfInBounds_toArray, List.set_cons_zero, List.set_cons_succ]
  refine wpAnyH_done (by kernel_rfl) ?_ _
  have BZ : Hid (Below X w _) := B0.out.trans (hHeld.1.mono (by have := S0.out; omega))
  clear hHeld x0 x1 x2 x3
  go_wp2_with fail
  go_ret
  exact ⟨by first | rfl | simp, BZ.out⟩
set_option maxRecDepth 100000 in
set_option maxHeartbeats 16000000 in
theorem rmay_any (Z P F K U t : Int) (lv : Value) (L : List (Int × Int)) (p : Nat → Prop) (w : World) (h : Sv.ok ⟨Z, P, F, K, U⟩) (hr : RelS ⟨Z, P, F, K, U⟩ L) (hl : LV w p lv L) (hn : L.length ≤ 60) : Calls Try.prog 25 #[.agg #[.int .i64 Z, .int .i64 P, .int .i64 F, lv], .int .i64 t] w fun e w' => e = .returned (.bool (decide (hasP ⟨Z, P, F, K, U⟩ t ∧ K ≤ whV ⟨Z, P, F, K, U⟩ t))) ∧ Below w.heap.size w w' := by
  obtain ⟨X, hX⟩ : ∃ X, w.heap.size = X := ⟨_, rfl⟩
  obtain ⟨W0, hW0⟩ : ∃ W0, w.alloc (.cells #[.int .i64 Z, .int .i64 P, .int .i64 F, lv] 29) = W0 := ⟨_, rfl⟩
  have B0 : Hid (Below X w W0) := by rw [← hW0, ← hX]; exact (Below.refl _ _).alloc (Nat.le_refl _) _
  have HX0 : Hid (W0.heap[X]? = some (.cells #[.int .i64 Z, .int .i64 P, .int .i64 F, lv] 29 (0, 0))) := by rw [← hW0, ← hX]; exact heap_alloc_new _ _
  have S0 : Hid (W0.heap.size = X + 1) := by rw [← hW0, ← hX]; unfold Hid; simp
  obtain ⟨v, hv⟩ : ∃ x, decide (hasP ⟨Z, P, F, K, U⟩ t ∧ K ≤ whV ⟨Z, P, F, K, U⟩ t) = x := ⟨_, rfl⟩
  rw [hv]
  have hl0 : LV W0 p lv L := hl.below (by rw [← hW0]; exact (Below.refl _ _).alloc (Nat.le_refl _) _)
  have x0 : W0.cell? ⟨X, 0, none⟩ = some (.int .i64 Z) := by rw [(row_cell HX0.out 0).1]; rfl
  have x1 : W0.cell? ⟨X, 1, none⟩ = some (.int .i64 P) := by rw [(row_cell HX0.out 1).1]; rfl
  have x2 : W0.cell? ⟨X, 2, none⟩ = some (.int .i64 F) := by rw [(row_cell HX0.out 2).1]; rfl
  have x3 : W0.cell? ⟨X, 3, none⟩ = some (lv) := by rw [(row_cell HX0.out 3).1]; rfl
  simp only [hX]
  by_cases h1 : F ≤ t
  rotate_left
  · have k1 : decide (t < F) = true := by simp; omega
    have HE : Hid (v = false) := by rw [← hv]; exact decide_eq_false (fun hh => h1 hh.1.1)
    clear h1 hv hl hl0
    go_enter Try.func25, Try.ntmps25
    go_wp2_with fail
    go_ret
    exact ⟨by rw [HE.out]; rfl, B0.out⟩
  have k1 : decide (t < F) = false := by simp; omega
  by_cases h2 : t ≤ 1099511627776
  rotate_left
  · have k2 : decide (1099511627776 < t) = true := by simp; omega
    have HE : Hid (v = false) := by rw [← hv]; exact decide_eq_false (fun hh => h2 hh.1.2)
    clear h1 h2 hv hl hl0
    go_enter Try.func25, Try.ntmps25
    go_wp2_with fail
    go_ret
    exact ⟨by rw [HE.out]; rfl, B0.out⟩
  have k2 : decide (1099511627776 < t) = false := by simp; omega
  have hh : hasP ⟨Z, P, F, K, U⟩ t := ⟨h1, h2⟩
  obtain ⟨f1, f2, f3, f4, f5, f6⟩ := wh_facts h hh
  have f0 : 0 ≤ F := h.f0
  have p1 : P ≤ 1048576 := h.pm
  have p0 : 1 ≤ P := by have := h.s1; have := h.sp; simp only at *; omega
  obtain ⟨q, hq⟩ : ∃ q, whV ⟨Z, P, F, K, U⟩ t = q := ⟨_, rfl⟩
  rw [hq] at f1 f2 f3 f4 f5
  simp only at f1 f2 f3 f4 f5
  have u1 : IntKind.i64.wrap (t - F) = t - F := by rw [IntKind.wrap_i64]; omega
  have u2 : (t - F).tdiv P = q := f5
  have u3 : IntKind.i64.wrap q = q := by rw [IntKind.wrap_i64]; omega
  have hP0 : ¬ P = 0 := by omega
  have HE : Hid (v = decide (K ≤ q)) := by unfold Hid; rw [← hv, hq, decide_eq_decide]; exact ⟨fun x => x.2, fun x => ⟨hh, x⟩⟩
  obtain ⟨A, c, rfl, hcell⟩ := hl0.ex
  by_cases hL : L = []
  · have HT : Hid (v = true) := by unfold Hid; rw [HE.out]; apply decide_eq_true; have := (hr.nil hL).1; simp only at this; omega
    have hlen : L.length = 0 := by rw [hL]; rfl
    rw [hlen] at x3 HX0 hW0 ⊢
    have k3 : ((0 : Int) == 0) = true := by rfl
    clear h h1 h2 hh hr hl hl0 hcell f1 f2 f3 f4 f5 f0 p0 p1 hq hv hlen hn u1 u2 u3
    go_enter Try.func25, Try.ntmps25
    go_upto_region 3 with fail
    clear hW0
    refine wp_region_held_drew (S := (fun w' => Below W0.heap.size W0 w' ∧ w'.cell? ⟨X, 3, none⟩ = some (.slice A 0 c))) (by kernel_rfl) ⟨(Below.refl _ _).drew, x3⟩ (fun hHeld => ?_)
    refine takeD (i := 0) (d := some 13) (v := ?_) _ rfl rfl (by kernel_rfl) (by kernel_rfl) (by kernel_rfl) (fun _ _ _ h => h) (by rfl) ?_ (by assumption) ?_
    rotate_left
    · (intro w hSw; (try dsimp only at hSw); go_simp) <;> with_reducible rfl
    try simp only [Act.put, List.setIfInBounds_toArray, List.set_cons_zero, List.set_cons_succ]
    refine takeD (i := 1) (d := some 14) (v := ?_) _ rfl rfl (by kernel_rfl) (by kernel_rfl) (by kernel_rfl) (fun _ _ _ h => h) (by rfl) ?_ (by assumption) ?_
    rotate_left
    · (intro w hSw; (try dsimp only at hSw); go_simp) <;> with_reducible rfl
    try simp only [Act.put, List.setIfInBounds_toArray, List.set_cons_zero, List.set_cons_succ]
    refine takeD (i := 2) (d := some 15) (v := ?_) _ rfl rfl (by kernel_rfl) (by kernel_rfl) (by kernel_rfl) (fun _ _ _ h => h) (by rfl) ?_ (by assumption) ?_
    rotate_left
    · (intro w hSw; (try dsimp only at hSw); go_simp) <;> with_reducible rfl
    try simp only [Act.put, List.setIfInBounds_toArray, List.set_cons_zero, List.set_cons_succ]
    refine takeD (i := 3) (d := some 16) (v := ?_) _ rfl rfl (by kernel_rfl) (by kernel_rfl) (by kernel_rfl) (fun _ _ _ h => h) (by rfl) ?_ (by assumption) ?_
    rotate_left
    · (intro w hSw; (try dsimp only at hSw); go_simp) <;> with_reducible rfl
    try simp only [Act.put, List.setIfInBounds_toArray, List.set_cons_zero, List.set_cons_succ]
    refine takeD (i := 4) (d := some 17) (v := ?_) _ rfl rfl (by kernel_rfl) (by kernel_rfl) (by kernel_rfl) (fun _ _ _ h => h) (by rfl) ?_ (by assumption) ?_
    rotate_left
    · (intro w hSw; (try dsimp only at hSw); go_simp) <;> with_reducible rfl
    try simp only [Act.put, List.setIfInBounds_toArray, List.set_cons_zero, List.set_cons_succ]
    refine skipD (i := 5) (d := some 18) _ rfl rfl (by kernel_rfl) (by kernel_rfl) (by kernel_rfl) (fun _ _ _ h => h) (by rfl) (by assumption) ?_
    try simp only [Act.put, List.setIfInBounds_toArray, List.set_cons_zero, List.set_cons_succ]
    refine skipD (i := 6) (d := some 19) _ rfl rfl (by kernel_rfl) (by kernel_rfl) (by kernel_rfl) (fun _ _ _ h => h) (by rfl) (by assumption) ?_
    try simp only [Act.put, List.setIfInBounds_toArray, List.set_cons_zero, List.set_cons_succ]
    refine skipD (i := 7) (d := some 20) _ rfl rfl (by kernel_rfl) (by kernel_rfl) (by kernel_rfl) (fun _ _ _ h => h) (by rfl) (by assumption) ?_
    try simp only [Act.put, List.setIfInBounds_toArray, List.set_cons_zero, List.set_cons_succ]
    refine skipD (i := 8) (d := some 21) _ rfl rfl (by kernel_rfl) (by kernel_rfl) (by kernel_rfl) (fun _ _ _ h => h) (by rfl) (by assumption) ?_
    try simp only [Act.put, List.setIfInBounds_toArray, List.set_cons_zero, List.set_cons_succ]
    refine skipD (i := 9) (d := some 22) _ rfl rfl (by kernel_rfl) (by kernel_rfl) (by kernel_rfl) (fun _ _ _ h => h) (by rfl) (by assumption) ?_
    try simp only [Act.put, List.setIfInBounds_toArray, List.set_cons_zero, List.set_cons_succ]
    refine skipD (i := 10) (d := some 23) _ rfl rfl (by kernel_rfl) (by kernel_rfl) (by kernel_rfl) (fun _ _ _ h => h) (by rfl) (by assumption) ?_
    try simp only [Act.put, List.setIfInBounds_toArray, List.set_cons_zero, List.set_cons_succ]
    refine skipD (i := 11) (d := some 24) _ rfl rfl (by kernel_rfl) (by kernel_rfl) (by kernel_rfl) (fun _ _ _ h => h) (by rfl) (by assumption) ?_
    try simp only [Act.put, List.setIfInBounds_toArray, List.set_cons_zero, List.set_cons_succ]
    refine skipD (i := 12) (d := some 25) _ rfl rfl (by kernel_rfl) (by kernel_rfl) (by kernel_rfl) (fun _ _ _ h => h) (by rfl) (by assumption) ?_
    try simp only [Act.put, List.setIfInBounds_toArray, List.set_cons_zero, List.set_cons_succ]
    refine skipD (i := 13) (d := some 26) _ rfl rfl (by kernel_rfl) (by kernel_rfl) (by kernel_rfl) (fun _ _ _ h => h) (by rfl) (by assumption) ?_
    try simp only [Act.put, List.setIfInBounds_toArray, List.set_cons_zero, List.set_cons_succ]
    refine skipD (i := 14) (d := some 27) _ rfl rfl (by kernel_rfl) (by kernel_rfl) (by kernel_rfl) (fun _ _ _ h => h) (by rfl) (by assumption) ?_
    try simp only [Act.put, List.setIfInBounds_toArray, List.set_cons_zero, List.set_cons_succ]
    refine skipD (i := 15) (d := some 28) _ rfl rfl (by kernel_rfl) (by kernel_rfl) (by kernel_rfl) (fun _ _ _ h => h) (by rfl) (by assumption) ?_
    try simp only [Act.put, List.setIfInBounds_toArray, List.set_cons_zero, List.set_cons_succ]
    refine skipD (i := 16) (d := some 29) _ rfl rfl (by kernel_rfl) (by kernel_rfl) (by kernel_rfl) (fun _ _ _ h => h) (by rfl) (by assumption) ?_
    try simp only [Act.put, List.setIfInBounds_toArray, List.set_cons_zero, List.set_cons_succ]
    refine skipD (i := 17) (d := some 30) _ rfl rfl (by kernel_rfl) (by kernel_rfl) (by kernel_rfl) (fun _ _ _ h => h) (by rfl) (by assumption) ?_
    try simp only [Act.put, List.setIfInBounds_toArray, List.set_cons_zero, List.set_cons_succ]
    refine skipD (i := 18) (d := some 31) _ rfl rfl (by kernel_rfl) (by kernel_rfl) (by kernel_rfl) (fun _ _ _ h => h) (by rfl) (by assumption) ?_
    try simp only [Act.put, List.setIfInBounds_toArray, List.set_cons_zero, List.set_cons_succ]
    refine skipD (i := 19) (d := some 32) _ rfl rfl (by kernel_rfl) (by kernel_rfl) (by kernel_rfl) (fun _ _ _ h => h) (by rfl) (by assumption) ?_
    try simp only [Act.put, List.setIfInBounds_toArray, List.set_cons_zero, List.set_cons_succ]
    refine skipD (i := 20) (d := some 33) _ rfl rfl (by kernel_rfl) (by kernel_rfl) (by kernel_rfl) (fun _ _ _ h => h) (by rfl) (by assumption) ?_
    try simp only [Act.put, List.setIfInBounds_toArray, List.set_cons_zero, List.set_cons_succ]
    refine skipD (i := 21) (d := some 34) _ rfl rfl (by kernel_rfl) (by kernel_rfl) (by kernel_rfl) (fun _ _ _ h => h) (by rfl) (by assumption) ?_
    try simp only [Act.put, List.setIfInBounds_toArray, List.set_cons_zero, List.set_cons_succ]
    refine takeD (i := 22) (d := some 35) (v := ?_) _ rfl rfl (by kernel_rfl) (by kernel_rfl) (by kernel_rfl) (fun _ _ _ h => h) (by rfl) ?_ (by assumption) ?_
    rotate_left
    · (intro w hSw; (try dsimp only at hSw); go_simp) <;> with_reducible rfl
    try simp only [Act.put, List.setIfInBounds_toArray, List.set_cons_zero, List.set_cons_succ]
    refine takeD (i := 23) (d := some 4) (v := ?_) _ rfl rfl (by kernel_rfl) (by kernel_rfl) (by kernel_rfl) (fun _ _ _ h => h) (by rfl) ?_ (by assumption) ?_
    rotate_left
    · (intro w hSw; (try dsimp only at hSw); go_simp) <;> with_reducible rfl
    try simp only [Act.put, List.setIfInBounds_toArray, List.set_cons_zero, List.set_cons_succ]
    refine wpAnyH_done (by kernel_rfl) ?_ _
    have BZ : Hid (Below X w _) := B0.out.trans (hHeld.1.mono (by have := S0.out; omega))
    clear hHeld x0 x1 x2 x3
    go_wp2_with fail
    go_ret
    exact ⟨by rw [HT.out]; rfl, BZ.out⟩
  · have hpos : 0 < L.length := List.length_pos_iff.2 hL
    obtain ⟨m, hm⟩ : ∃ m, L.length = m + 1 := ⟨L.length - 1, by omega⟩
    obtain ⟨b, off, rfl, hb, _, hcc⟩ := hcell hpos
    obtain ⟨d, hd⟩ : ∃ d, L[m]? = some d := ⟨_, List.getElem?_eq_getElem (by omega)⟩
    have hdl : d.1 = K := hr.last d (by rw [hm, Nat.add_sub_cancel]; exact hd)
    have y0 := (hcc m d hd).1
    rw [hdl] at y0
    rw [hm] at x3 HX0 hW0 ⊢
    have hm60 : m + 1 ≤ 60 := by omega
    have k3 : ((m : Int) + 1 == 0) = false := by simp; omega
    have u7 : IntKind.i64.wrap (m : Int) = (m : Int) := by rw [IntKind.wrap_i64]; omega
    have hmI : (m : Int) < (m : Int) + 1 := by omega
    clear h h1 h2 hh hr hl hl0 hcell hcc f1 f2 f3 f4 f5 f0 p0 p1 hq hv hpos hn hd hdl hm hm60 hL
    go_enter Try.func25, Try.ntmps25
    go_upto_region 3 with fail
    clear hW0
    refine wp_region_held_drew (S := (fun w' => Below W0.heap.size W0 w' ∧ w'.cell? ⟨X, 3, none⟩ = some (.slice (some ⟨b, off, none⟩) (m + 1) c) ∧ w'.cell? ⟨X, 1, none⟩ = some (.int .i64 P) ∧ w'.cell? ⟨X, 2, none⟩ = some (.int .i64 F) ∧ w'.cell? ⟨b, off + m * 2, none⟩ = some (.int .i64 K))) (by kernel_rfl) ⟨(Below.refl _ _).drew, x3, x1, x2, y0⟩ (fun hHeld => ?_)
    refine takeD (i := 0) (d := some 13) (v := ?_) _ rfl rfl (by kernel_rfl) (by kernel_rfl) (by kernel_rfl) (fun _ _ _ h => h) (by rfl) ?_ (by assumption) ?_
    rotate_left
    · (intro w hSw; (try dsimp only at hSw); go_simp) <;> with_reducible rfl
    try simp only [Act.put, List.setIfInBounds_toArray, List.set_cons_zero, List.set_cons_succ]
    refine takeD (i := 1) (d := some 14) (v := ?_) _ rfl rfl (by kernel_rfl) (by kernel_rfl) (by kernel_rfl) (fun _ _ _ h => h) (by rfl) ?_ (by assumption) ?_
    rotate_left
    · (intro w hSw; (try dsimp only at hSw); go_simp) <;> with_reducible rfl
    try simp only [Act.put, List.setIfInBounds_toArray, List.set_cons_zero, List.set_cons_succ]
    refine takeD (i := 2) (d := some 15) (v := ?_) _ rfl rfl (by kernel_rfl) (by kernel_rfl) (by kernel_rfl) (fun _ _ _ h => h) (by rfl) ?_ (by assumption) ?_
    rotate_left
    · (intro w hSw; (try dsimp only at hSw); go_simp) <;> with_reducible rfl
    try simp only [Act.put, List.setIfInBounds_toArray, List.set_cons_zero, List.set_cons_succ]
    refine takeD (i := 3) (d := some 16) (v := ?_) _ rfl rfl (by kernel_rfl) (by kernel_rfl) (by kernel_rfl) (fun _ _ _ h => h) (by rfl) ?_ (by assumption) ?_
    rotate_left
    · (intro w hSw; (try dsimp only at hSw); go_simp) <;> with_reducible rfl
    try simp only [Act.put, List.setIfInBounds_toArray, List.set_cons_zero, List.set_cons_succ]
    refine takeD (i := 4) (d := some 17) (v := ?_) _ rfl rfl (by kernel_rfl) (by kernel_rfl) (by kernel_rfl) (fun _ _ _ h => h) (by rfl) ?_ (by assumption) ?_
    rotate_left
    · (intro w hSw; (try dsimp only at hSw); go_simp) <;> with_reducible rfl
    try simp only [Act.put, List.setIfInBounds_toArray, List.set_cons_zero, List.set_cons_succ]
    refine takeD (i := 5) (d := some 18) (v := ?_) _ rfl rfl (by kernel_rfl) (by kernel_rfl) (by kernel_rfl) (fun _ _ _ h => h) (by rfl) ?_ (by assumption) ?_
    rotate_left
    · (intro w hSw; (try dsimp only at hSw); go_simp) <;> with_reducible rfl
    try simp only [Act.put, List.setIfInBounds_toArray, List.set_cons_zero, List.set_cons_succ]
    refine takeD (i := 6) (d := some 19) (v := ?_) _ rfl rfl (by kernel_rfl) (by kernel_rfl) (by kernel_rfl) (fun _ _ _ h => h) (by rfl) ?_ (by assumption) ?_
    rotate_left
    · (intro w hSw; (try dsimp only at hSw); go_simp) <;> with_reducible rfl
    try simp only [Act.put, List.setIfInBounds_toArray, List.set_cons_zero, List.set_cons_succ]
    refine takeD (i := 7) (d := some 20) (v := ?_) _ rfl rfl (by kernel_rfl) (by kernel_rfl) (by kernel_rfl) (fun _ _ _ h => h) (by rfl) ?_ (by assumption) ?_
    rotate_left
    · (intro w hSw; (try dsimp only at hSw); go_simp) <;> with_reducible rfl
    try simp only [Act.put, List.setIfInBounds_toArray, List.set_cons_zero, List.set_cons_succ]
    refine takeD (i := 8) (d := some 21) (v := ?_) _ rfl rfl (by kernel_rfl) (by kernel_rfl) (by kernel_rfl) (fun _ _ _ h => h) (by rfl) ?_ (by assumption) ?_
    rotate_left
    · (intro w hSw; (try dsimp only at hSw); go_simp) <;> with_reducible rfl
    try simp only [Act.put, List.setIfInBounds_toArray, List.set_cons_zero, List.set_cons_succ]
    refine takeD (i := 9) (d := some 22) (v := ?_) _ rfl rfl (by kernel_rfl) (by kernel_rfl) (by kernel_rfl) (fun _ _ _ h => h) (by rfl) ?_ (by assumption) ?_
    rotate_left
    · (intro w hSw; (try dsimp only at hSw); go_simp) <;> with_reducible rfl
    try simp only [Act.put, List.setIfInBounds_toArray, List.set_cons_zero, List.set_cons_succ]
    refine takeD (i := 10) (d := some 23) (v := ?_) _ rfl rfl (by kernel_rfl) (by kernel_rfl) (by kernel_rfl) (fun _ _ _ h => h) (by rfl) ?_ (by assumption) ?_
    rotate_left
    · (intro w hSw; (try dsimp only at hSw); go_simp) <;> with_reducible rfl
    try simp only [Act.put, List.setIfInBounds_toArray, List.set_cons_zero, List.set_cons_succ]
    refine takeD (i := 11) (d := some 24) (v := ?_) _ rfl rfl (by kernel_rfl) (by kernel_rfl) (by kernel_rfl) (fun _ _ _ h => h) (by rfl) ?_ (by assumption) ?_
    rotate_left
    · (intro w hSw; (try dsimp only at hSw); go_simp) <;> with_reducible rfl
    try simp only [Act.put, List.setIfInBounds_toArray, List.set_cons_zero, List.set_cons_succ]
    refine takeD (i := 12) (d := some 25) (v := ?_) _ rfl rfl (by kernel_rfl) (by kernel_rfl) (by kernel_rfl) (fun _ _ _ h => h) (by rfl) ?_ (by assumption) ?_
    rotate_left
    · (intro w hSw; (try dsimp only at hSw); go_simp) <;> with_reducible rfl
    try simp only [Act.put, List.setIfInBounds_toArray, List.set_cons_zero, List.set_cons_succ]
    refine takeD (i := 13) (d := some 26) (v := ?_) _ rfl rfl (by kernel_rfl) (by kernel_rfl) (by kernel_rfl) (fun _ _ _ h => h) (by rfl) ?_ (by assumption) ?_
    rotate_left
    · (intro w hSw; (try dsimp only at hSw); go_simp) <;> with_reducible rfl
    try simp only [Act.put, List.setIfInBounds_toArray, List.set_cons_zero, List.set_cons_succ]
    refine takeD (i := 14) (d := some 27) (v := ?_) _ rfl rfl (by kernel_rfl) (by kernel_rfl) (by kernel_rfl) (fun _ _ _ h => h) (by rfl) ?_ (by assumption) ?_
    rotate_left
    · (intro w hSw; (try dsimp only at hSw); go_simp) <;> with_reducible rfl
    try simp only [Act.put, List.setIfInBounds_toArray, List.set_cons_zero, List.set_cons_succ]
    refine takeD (i := 15) (d := some 28) (v := ?_) _ rfl rfl (by kernel_rfl) (by kernel_rfl) (by kernel_rfl) (fun _ _ _ h => h) (by rfl) ?_ (by assumption) ?_
    rotate_left
    · (intro w hSw; (try dsimp only at hSw); go_simp) <;> with_reducible rfl
    try simp only [Act.put, List.setIfInBounds_toArray, List.set_cons_zero, List.set_cons_succ]
    refine takeD (i := 16) (d := some 29) (v := ?_) _ rfl rfl (by kernel_rfl) (by kernel_rfl) (by kernel_rfl) (fun _ _ _ h => h) (by rfl) ?_ (by assumption) ?_
    rotate_left
    · (intro w hSw; (try dsimp only at hSw); go_simp) <;> with_reducible rfl
    try simp only [Act.put, List.setIfInBounds_toArray, List.set_cons_zero, List.set_cons_succ]
    refine takeD (i := 17) (d := some 30) (v := ?_) _ rfl rfl (by kernel_rfl) (by kernel_rfl) (by kernel_rfl) (fun _ _ _ h => h) (by rfl) ?_ (by assumption) ?_
    rotate_left
    · (intro w hSw; (try dsimp only at hSw); go_simp) <;> with_reducible rfl
    try simp only [Act.put, List.setIfInBounds_toArray, List.set_cons_zero, List.set_cons_succ]
    refine takeD (i := 18) (d := some 31) (v := ?_) _ rfl rfl (by kernel_rfl) (by kernel_rfl) (by kernel_rfl) (fun _ _ _ h => h) (by rfl) ?_ (by assumption) ?_
    rotate_left
    · (intro w hSw; (try dsimp only at hSw); go_simp) <;> with_reducible rfl
    try simp only [Act.put, List.setIfInBounds_toArray, List.set_cons_zero, List.set_cons_succ]
    refine takeD (i := 19) (d := some 32) (v := ?_) _ rfl rfl (by kernel_rfl) (by kernel_rfl) (by kernel_rfl) (fun _ _ _ h => h) (by rfl) ?_ (by assumption) ?_
    rotate_left
    · (intro w hSw; (try dsimp only at hSw); go_simp) <;> with_reducible rfl
    try simp only [Act.put, List.setIfInBounds_toArray, List.set_cons_zero, List.set_cons_succ]
    refine takeD (i := 20) (d := some 33) (v := ?_) _ rfl rfl (by kernel_rfl) (by kernel_rfl) (by kernel_rfl) (fun _ _ _ h => h) (by rfl) ?_ (by assumption) ?_
    rotate_left
    · (intro w hSw; (try dsimp only at hSw); go_simp) <;> with_reducible rfl
    try simp only [Act.put, List.setIfInBounds_toArray, List.set_cons_zero, List.set_cons_succ]
    refine takeD (i := 21) (d := some 34) (v := ?_) _ rfl rfl (by kernel_rfl) (by kernel_rfl) (by kernel_rfl) (fun _ _ _ h => h) (by rfl) ?_ (by assumption) ?_
    rotate_left
    · (intro w hSw; (try dsimp only at hSw); go_simp) <;> with_reducible rfl
    try simp only [Act.put, List.setIfInBounds_toArray, List.set_cons_zero, List.set_cons_succ]
    refine takeD (i := 22) (d := some 35) (v := ?_) _ rfl rfl (by kernel_rfl) (by kernel_rfl) (by kernel_rfl) (fun _ _ _ h => h) (by rfl) ?_ (by assumption) ?_
    rotate_left
    · (intro w hSw; (try dsimp only at hSw); go_simp) <;> with_reducible rfl
    try simp only [Act.put, List.setIfInBounds_toArray, List.set_cons_zero, List.set_cons_succ]
    refine takeD (i := 23) (d := some 4) (v := ?_) _ rfl rfl (by kernel_rfl) (by kernel_rfl) (by kernel_rfl) (fun _ _ _ h => h) (by rfl) ?_ (by assumption) ?_
    rotate_left
    · (intro w hSw; (try dsimp only at hSw); go_simp) <;> with_reducible rfl
    try simp only [Act.put, List.setIfInBounds_toArray, List.set_cons_zero, List.set_cons_succ]
    refine wpAnyH_done (by kernel_rfl) ?_ _
    have BZ : Hid (Below X w _) := B0.out.trans (hHeld.1.mono (by have := S0.out; omega))
    clear hHeld x0 x1 x2 x3
    go_wp2_with fail
    go_ret
    exact ⟨by rw [HE.out]; first | rfl | simp, BZ.out⟩
end Go.Proofs.Ytehbcoopggpmjaa.Bg
