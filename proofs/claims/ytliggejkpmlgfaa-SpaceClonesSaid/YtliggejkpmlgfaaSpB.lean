/-
  Contracts of overlaps, of a search among areas, and of clones. Each statement bears its own conditions.
-/
import Derived.Test.YtliggejkpmlgfaaSpA
namespace Go.Proofs.Ytliggejkpmlgfaa
open Go.RowKit
set_option linter.unusedVariables false
set_option linter.unusedSimpArgs false
set_option maxRecDepth 100000 in
set_option maxHeartbeats 4000000 in
theorem overlaps_any (a o : MA) (w : World) (ha : IntKind.i64.wrap (a.frm + a.wds) = a.frm + a.wds) (ho : IntKind.i64.wrap (o.frm + o.wds) = o.frm + o.wds) :
    Calls Try.prog 31 #[a.val, o.val] w fun e w' => e = .returned (.bool (ovB a o)) ∧ Below w.heap.size w w' := by
  have C1 := Lib.hid fun W => end_any a W ha
  have C2 := Lib.hid fun W => end_any o W ho
  obtain ⟨af, aw, ax, ar, ak⟩ := a
  obtain ⟨of, ow, ox, orr, ok⟩ := o
  unfold MA.val at *
  unfold ovB
  dsimp only at ha ho C1 C2 ⊢
  clear ha ho
  go_enter Try.func31, Try.ntmps31
  go_wp2_with fail
  have B0 : Hid (Below w.heap.size w ((w.alloc (.cells #[.int .i64 af, .int .i64 aw, .bool ax, .bool ar, .bool ak] 57)).alloc (.cells #[.int .i64 of, .int .i64 ow, .bool ox, .bool orr, .bool ok] 57))) := ((Below.refl _ _).alloc (Nat.le_refl _) _).alloc (by simp) _
  obtain ⟨p, hp⟩ : ∃ p, w.heap.size = p := ⟨_, rfl⟩
  obtain ⟨q, hq⟩ : ∃ q, w.heap.size + 1 = q := ⟨_, rfl⟩
  obtain ⟨W0, hW0⟩ : ∃ W0, (w.alloc (.cells #[.int .i64 af, .int .i64 aw, .bool ax, .bool ar, .bool ak] 57)).alloc (.cells #[.int .i64 of, .int .i64 ow, .bool ox, .bool orr, .bool ok] 57) = W0 := ⟨_, rfl⟩
  simp only [hW0]
  have a0 : W0.cell? ⟨w.heap.size, 0, none⟩ = some (.int .i64 af) := by rw [← hW0]; exact cell_al _ (by simp)
  have a1 : W0.cell? ⟨w.heap.size, 1, none⟩ = some (.int .i64 aw) := by rw [← hW0]; exact cell_al _ (by simp)
  have a2 : W0.cell? ⟨w.heap.size, 2, none⟩ = some (.bool ax) := by rw [← hW0]; exact cell_al _ (by simp)
  have a3 : W0.cell? ⟨w.heap.size, 3, none⟩ = some (.bool ar) := by rw [← hW0]; exact cell_al _ (by simp)
  have a4 : W0.cell? ⟨w.heap.size, 4, none⟩ = some (.bool ak) := by rw [← hW0]; exact cell_al _ (by simp)
  have b0 : W0.cell? ⟨w.heap.size + 1, 0, none⟩ = some (.int .i64 of) := by rw [← hW0]; simp
  have b1 : W0.cell? ⟨w.heap.size + 1, 1, none⟩ = some (.int .i64 ow) := by rw [← hW0]; simp
  have b2 : W0.cell? ⟨w.heap.size + 1, 2, none⟩ = some (.bool ox) := by rw [← hW0]; simp
  have b3 : W0.cell? ⟨w.heap.size + 1, 3, none⟩ = some (.bool orr) := by rw [← hW0]; simp
  have b4 : W0.cell? ⟨w.heap.size + 1, 4, none⟩ = some (.bool ok) := by rw [← hW0]; simp
  rw [hW0] at B0
  clear hW0
  rw [hp] at a0 a1 a2 a3 a4
  rw [hq] at b0 b1 b2 b3 b4
  have HB0 : Hid (Below w.heap.size w W0) := B0
  clear B0
  simp only [hq]
  try simp only [hp]
  by_cases h1 : af < of + ow
  · have h1b : decide (af < of + ow) = true := by simpa using h1
    refine wp_region_held_drew (S := (fun w' => Below w.heap.size w w' ∧ w'.cell? ⟨p, 0, none⟩ = some (.int .i64 af) ∧ w'.cell? ⟨p, 1, none⟩ = some (.int .i64 aw) ∧ w'.cell? ⟨p, 2, none⟩ = some (.bool ax) ∧ w'.cell? ⟨p, 3, none⟩ = some (.bool ar) ∧ w'.cell? ⟨p, 4, none⟩ = some (.bool ak) ∧ w'.cell? ⟨q, 0, none⟩ = some (.int .i64 of) ∧ w'.cell? ⟨q, 1, none⟩ = some (.int .i64 ow) ∧ w'.cell? ⟨q, 2, none⟩ = some (.bool ox) ∧ w'.cell? ⟨q, 3, none⟩ = some (.bool orr) ∧ w'.cell? ⟨q, 4, none⟩ = some (.bool ok))) (by kernel_rfl) ?_ (fun hHeld => ?_)
    · exact ⟨below_drewN HB0.out 1, a0, a1, a2, a3, a4, b0, b1, b2, b3, b4⟩
    refine takeD (i := 0) (d := some 5) (v := ?_) _ rfl rfl (by kernel_rfl) (by kernel_rfl) (by kernel_rfl) (fun _ _ _ h => h) (by rfl) ?_ (by assumption) ?_
    rotate_left
    · (intro w hSw; (try dsimp only at hSw); go_simp) <;> with_reducible rfl
    try simp only [Act.put, List.setIfInBounds_toArray, List.set_cons_zero, List.set_cons_succ]
    refine takeD (i := 1) (d := some 6) (v := ?_) _ rfl rfl (by kernel_rfl) (by kernel_rfl) (by kernel_rfl) (fun _ _ _ h => h) (by rfl) ?_ (by assumption) ?_
    rotate_left
    · (intro w hSw; (try dsimp only at hSw); go_simp) <;> with_reducible rfl
    try simp only [Act.put, List.setIfInBounds_toArray, List.set_cons_zero, List.set_cons_succ]
    refine takeD (i := 2) (d := some 7) (v := ?_) _ rfl rfl (by kernel_rfl) (by kernel_rfl) (by kernel_rfl) (fun _ _ _ h => h) (by rfl) ?_ (by assumption) ?_
    rotate_left
    · (intro w hSw; (try dsimp only at hSw); go_simp) <;> with_reducible rfl
    try simp only [Act.put, List.setIfInBounds_toArray, List.set_cons_zero, List.set_cons_succ]
    refine wpAnyH_ready (rs := [3]) (by kernel_rfl) (by simp) ?_
    refine AllReadyH.cons rfl (fun K hK => ?_) AllReadyH.nil
    (go_simp; go_at_call 42; refine (C2.out _).mono ?_; rintro e wt ⟨rfl, hbt⟩; try go_wp2_with fail)
    refine hK.out _ _ ?_ (fun hHeld => ?_)
    · exact ⟨hHeld.1.trans (hbt.mono hHeld.1.size), cell_later hbt hHeld.2.1, cell_later hbt hHeld.2.2.1, cell_later hbt hHeld.2.2.2.1, cell_later hbt hHeld.2.2.2.2.1, cell_later hbt hHeld.2.2.2.2.2.1, cell_later hbt hHeld.2.2.2.2.2.2.1, cell_later hbt hHeld.2.2.2.2.2.2.2.1, cell_later hbt hHeld.2.2.2.2.2.2.2.2.1, cell_later hbt hHeld.2.2.2.2.2.2.2.2.2.1, cell_later hbt hHeld.2.2.2.2.2.2.2.2.2.2⟩
    clear hK K
    try simp only [Act.put, List.setIfInBounds_toArray, List.set_cons_zero, List.set_cons_succ]
    refine takeD (i := 4) (d := some 9) (v := ?_) _ rfl rfl (by kernel_rfl) (by kernel_rfl) (by kernel_rfl) (fun _ _ _ h => h) (by rfl) ?_ (by assumption) ?_
    rotate_left
    · (intro w hSw; (try dsimp only at hSw); go_simp) <;> with_reducible rfl
    try simp only [Act.put, List.setIfInBounds_toArray, List.set_cons_zero, List.set_cons_succ]
    refine takeD (i := 5) (d := some 10) (v := ?_) _ rfl rfl (by kernel_rfl) (by kernel_rfl) (by kernel_rfl) (fun _ _ _ h => h) (by rfl) ?_ (by assumption) ?_
    rotate_left
    · (intro w hSw; (try dsimp only at hSw); go_simp) <;> with_reducible rfl
    try simp only [Act.put, List.setIfInBounds_toArray, List.set_cons_zero, List.set_cons_succ]
    refine takeD (i := 6) (d := some 11) (v := ?_) _ rfl rfl (by kernel_rfl) (by kernel_rfl) (by kernel_rfl) (fun _ _ _ h => h) (by rfl) ?_ (by assumption) ?_
    rotate_left
    · (intro w hSw; (try dsimp only at hSw); go_simp) <;> with_reducible rfl
    try simp only [Act.put, List.setIfInBounds_toArray, List.set_cons_zero, List.set_cons_succ]
    refine takeD (i := 7) (d := some 12) (v := ?_) _ rfl rfl (by kernel_rfl) (by kernel_rfl) (by kernel_rfl) (fun _ _ _ h => h) (by rfl) ?_ (by assumption) ?_
    rotate_left
    · (intro w hSw; (try dsimp only at hSw); go_simp) <;> with_reducible rfl
    try simp only [Act.put, List.setIfInBounds_toArray, List.set_cons_zero, List.set_cons_succ]
    refine takeD (i := 8) (d := some 13) (v := ?_) _ rfl rfl (by kernel_rfl) (by kernel_rfl) (by kernel_rfl) (fun _ _ _ h => h) (by rfl) ?_ (by assumption) ?_
    rotate_left
    · (intro w hSw; (try dsimp only at hSw); go_simp) <;> with_reducible rfl
    try simp only [Act.put, List.setIfInBounds_toArray, List.set_cons_zero, List.set_cons_succ]
    refine wpAnyH_ready (rs := [9]) (by kernel_rfl) (by simp) ?_
    refine AllReadyH.cons rfl (fun K hK => ?_) AllReadyH.nil
    (go_simp; go_at_call 42; refine (C1.out _).mono ?_; rintro e wt ⟨rfl, hbt⟩; try go_wp2_with fail)
    refine hK.out _ _ ?_ (fun hHeld => ?_)
    · exact ⟨hHeld.1.trans (hbt.mono hHeld.1.size), cell_later hbt hHeld.2.1, cell_later hbt hHeld.2.2.1, cell_later hbt hHeld.2.2.2.1, cell_later hbt hHeld.2.2.2.2.1, cell_later hbt hHeld.2.2.2.2.2.1, cell_later hbt hHeld.2.2.2.2.2.2.1, cell_later hbt hHeld.2.2.2.2.2.2.2.1, cell_later hbt hHeld.2.2.2.2.2.2.2.2.1, cell_later hbt hHeld.2.2.2.2.2.2.2.2.2.1, cell_later hbt hHeld.2.2.2.2.2.2.2.2.2.2⟩
    clear hK K
    try simp only [Act.put, List.setIfInBounds_toArray, List.set_cons_zero, List.set_cons_succ]
    refine takeD (i := 10) (d := some 15) (v := ?_) _ rfl rfl (by kernel_rfl) (by kernel_rfl) (by kernel_rfl) (fun _ _ _ h => h) (by rfl) ?_ (by assumption) ?_
    rotate_left
    · (intro w hSw; (try dsimp only at hSw); go_simp) <;> with_reducible rfl
    try simp only [Act.put, List.setIfInBounds_toArray, List.set_cons_zero, List.set_cons_succ]
    refine takeD (i := 11) (d := some 16) (v := ?_) _ rfl rfl (by kernel_rfl) (by kernel_rfl) (by kernel_rfl) (fun _ _ _ h => h) (by rfl) ?_ (by assumption) ?_
    rotate_left
    · (intro w hSw; (try dsimp only at hSw); go_simp) <;> with_reducible rfl
    try simp only [Act.put, List.setIfInBounds_toArray, List.set_cons_zero, List.set_cons_succ]
    refine takeD (i := 12) (d := some 4) (v := ?_) _ rfl rfl (by kernel_rfl) (by kernel_rfl) (by kernel_rfl) (fun _ _ _ h => h) (by rfl) ?_ (by assumption) ?_
    rotate_left
    · (intro w hSw; (try dsimp only at hSw); go_simp) <;> with_reducible rfl
    try simp only [Act.put, List.setIfInBounds_toArray, List.set_cons_zero, List.set_cons_succ]
    refine wpAnyH_done (by kernel_rfl) ?_ _
    have BF := hHeld.1
    clear hHeld
    go_wp2_with fail
    go_ret
    exact ⟨by first | rfl | (simp [h1b]), BF⟩
  · have h1b : decide (af < of + ow) = false := by simpa using h1
    refine wp_region_held_drew (S := (fun w' => Below w.heap.size w w' ∧ w'.cell? ⟨p, 0, none⟩ = some (.int .i64 af) ∧ w'.cell? ⟨p, 1, none⟩ = some (.int .i64 aw) ∧ w'.cell? ⟨p, 2, none⟩ = some (.bool ax) ∧ w'.cell? ⟨p, 3, none⟩ = some (.bool ar) ∧ w'.cell? ⟨p, 4, none⟩ = some (.bool ak) ∧ w'.cell? ⟨q, 0, none⟩ = some (.int .i64 of) ∧ w'.cell? ⟨q, 1, none⟩ = some (.int .i64 ow) ∧ w'.cell? ⟨q, 2, none⟩ = some (.bool ox) ∧ w'.cell? ⟨q, 3, none⟩ = some (.bool orr) ∧ w'.cell? ⟨q, 4, none⟩ = some (.bool ok))) (by kernel_rfl) ?_ (fun hHeld => ?_)
    · exact ⟨below_drewN HB0.out 1, a0, a1, a2, a3, a4, b0, b1, b2, b3, b4⟩
    refine takeD (i := 0) (d := some 5) (v := ?_) _ rfl rfl (by kernel_rfl) (by kernel_rfl) (by kernel_rfl) (fun _ _ _ h => h) (by rfl) ?_ (by assumption) ?_
    rotate_left
    · (intro w hSw; (try dsimp only at hSw); go_simp) <;> with_reducible rfl
    try simp only [Act.put, List.setIfInBounds_toArray, List.set_cons_zero, List.set_cons_succ]
    refine takeD (i := 1) (d := some 6) (v := ?_) _ rfl rfl (by kernel_rfl) (by kernel_rfl) (by kernel_rfl) (fun _ _ _ h => h) (by rfl) ?_ (by assumption) ?_
    rotate_left
    · (intro w hSw; (try dsimp only at hSw); go_simp) <;> with_reducible rfl
    try simp only [Act.put, List.setIfInBounds_toArray, List.set_cons_zero, List.set_cons_succ]
    refine takeD (i := 2) (d := some 7) (v := ?_) _ rfl rfl (by kernel_rfl) (by kernel_rfl) (by kernel_rfl) (fun _ _ _ h => h) (by rfl) ?_ (by assumption) ?_
    rotate_left
    · (intro w hSw; (try dsimp only at hSw); go_simp) <;> with_reducible rfl
    try simp only [Act.put, List.setIfInBounds_toArray, List.set_cons_zero, List.set_cons_succ]
    refine wpAnyH_ready (rs := [3]) (by kernel_rfl) (by simp) ?_
    refine AllReadyH.cons rfl (fun K hK => ?_) AllReadyH.nil
    (go_simp; go_at_call 42; refine (C2.out _).mono ?_; rintro e wt ⟨rfl, hbt⟩; try go_wp2_with fail)
    refine hK.out _ _ ?_ (fun hHeld => ?_)
    · exact ⟨hHeld.1.trans (hbt.mono hHeld.1.size), cell_later hbt hHeld.2.1, cell_later hbt hHeld.2.2.1, cell_later hbt hHeld.2.2.2.1, cell_later hbt hHeld.2.2.2.2.1, cell_later hbt hHeld.2.2.2.2.2.1, cell_later hbt hHeld.2.2.2.2.2.2.1, cell_later hbt hHeld.2.2.2.2.2.2.2.1, cell_later hbt hHeld.2.2.2.2.2.2.2.2.1, cell_later hbt hHeld.2.2.2.2.2.2.2.2.2.1, cell_later hbt hHeld.2.2.2.2.2.2.2.2.2.2⟩
    clear hK K
    try simp only [Act.put, List.setIfInBounds_toArray, List.set_cons_zero, List.set_cons_succ]
    refine takeD (i := 4) (d := some 9) (v := ?_) _ rfl rfl (by kernel_rfl) (by kernel_rfl) (by kernel_rfl) (fun _ _ _ h => h) (by rfl) ?_ (by assumption) ?_
    rotate_left
    · (intro w hSw; (try dsimp only at hSw); go_simp) <;> with_reducible rfl
    try simp only [Act.put, List.setIfInBounds_toArray, List.set_cons_zero, List.set_cons_succ]
    refine takeD (i := 5) (d := some 10) (v := ?_) _ rfl rfl (by kernel_rfl) (by kernel_rfl) (by kernel_rfl) (fun _ _ _ h => h) (by rfl) ?_ (by assumption) ?_
    rotate_left
    · (intro w hSw; (try dsimp only at hSw); go_simp) <;> with_reducible rfl
    try simp only [Act.put, List.setIfInBounds_toArray, List.set_cons_zero, List.set_cons_succ]
    refine skipD (i := 6) (d := some 11) _ rfl rfl (by kernel_rfl) (by kernel_rfl) (by kernel_rfl) (fun _ _ _ h => h) (by rfl) (by assumption) ?_
    try simp only [Act.put, List.setIfInBounds_toArray, List.set_cons_zero, List.set_cons_succ]
    refine skipD (i := 7) (d := some 12) _ rfl rfl (by kernel_rfl) (by kernel_rfl) (by kernel_rfl) (fun _ _ _ h => h) (by rfl) (by assumption) ?_
    try simp only [Act.put, List.setIfInBounds_toArray, List.set_cons_zero, List.set_cons_succ]
    refine skipD (i := 8) (d := some 13) _ rfl rfl (by kernel_rfl) (by kernel_rfl) (by kernel_rfl) (fun _ _ _ h => h) (by rfl) (by assumption) ?_
    try simp only [Act.put, List.setIfInBounds_toArray, List.set_cons_zero, List.set_cons_succ]
    refine skipD (i := 9) (d := some 14) _ rfl rfl (by kernel_rfl) (by kernel_rfl) (by kernel_rfl) (fun _ _ _ h => h) (by rfl) (by assumption) ?_
    try simp only [Act.put, List.setIfInBounds_toArray, List.set_cons_zero, List.set_cons_succ]
    refine skipD (i := 10) (d := some 15) _ rfl rfl (by kernel_rfl) (by kernel_rfl) (by kernel_rfl) (fun _ _ _ h => h) (by rfl) (by assumption) ?_
    try simp only [Act.put, List.setIfInBounds_toArray, List.set_cons_zero, List.set_cons_succ]
    refine takeD (i := 11) (d := some 16) (v := ?_) _ rfl rfl (by kernel_rfl) (by kernel_rfl) (by kernel_rfl) (fun _ _ _ h => h) (by rfl) ?_ (by assumption) ?_
    rotate_left
    · (intro w hSw; (try dsimp only at hSw); go_simp) <;> with_reducible rfl
    try simp only [Act.put, List.setIfInBounds_toArray, List.set_cons_zero, List.set_cons_succ]
    refine takeD (i := 12) (d := some 4) (v := ?_) _ rfl rfl (by kernel_rfl) (by kernel_rfl) (by kernel_rfl) (fun _ _ _ h => h) (by rfl) ?_ (by assumption) ?_
    rotate_left
    · (intro w hSw; (try dsimp only at hSw); go_simp) <;> with_reducible rfl
    try simp only [Act.put, List.setIfInBounds_toArray, List.set_cons_zero, List.set_cons_succ]
    refine wpAnyH_done (by kernel_rfl) ?_ _
    have BF := hHeld.1
    clear hHeld
    go_wp2_with fail
    go_ret
    exact ⟨by first | rfl | (simp [h1b]), BF⟩
/-- The first area that has a place in common, or -1. -/
def ixL (a : MA) : List MA → Nat → Int
  | [], _ => -1
  | x :: r, k => if ovB a x = true then (k : Int) else ixL a r (k + 1)
theorem ixL_ge (a : MA) : ∀ (l : List MA) (k : Nat), (decide (0 ≤ ixL a l k)) = l.any (ovB a)
  | [], k => by simp [ixL]
  | x :: r, k => by
    unfold ixL
    rw [List.any_cons]
    by_cases h : ovB a x = true
    · rw [if_pos h, h]; simp
    · rw [if_neg h, ixL_ge a r]; simp at h; simp [h]
structure IxRel (a : MA) (n : Nat) (l : List MA) (w : World) (v5 v : Value) (wr : World) : Prop where
  ex : ∃ k : Nat, k ≤ n ∧ v = .int .i64 (k : Int) ∧ ixL a l 0 = ixL a (l.drop k) k ∧ Below w.heap.size w wr
def WrA (l : List MA) : Prop := ∀ x ∈ l, IntKind.i64.wrap (x.frm + x.wds) = x.frm + x.wds
set_option maxRecDepth 100000 in
set_option maxHeartbeats 4000000 in
theorem index_any (g : Nat) (a : MA) (v : Value) (l : List MA) (w : World) (h : St g w 5 v l.length (CA l)) (ha : IntKind.i64.wrap (a.frm + a.wds) = a.frm + a.wds) (hl : WrA l) (hm : l.length ≤ 64) :
    Calls Try.prog 41 #[v, .func (.func 31) #[a.val] #[]] w fun e w' => e = .returned (.int .i64 (ixL a l 0)) ∧ Below w.heap.size w w' := by
  obtain ⟨A, c, rfl⟩ := h.form
  have CO := Lib.hid fun (x : MA) (hx : x ∈ l) (W : World) => overlaps_any a x W ha (hl x hx)
  obtain ⟨n, hn⟩ : ∃ n, l.length = n := ⟨_, rfl⟩
  rw [hn] at h hm ⊢
  obtain ⟨r, hr⟩ : ∃ r, ixL a l 0 = r := ⟨_, rfl⟩
  rw [hr]
  have HN := Lib.hid hn
  have HR := Lib.hid hr
  have H := Lib.hid h
  have HM := Lib.hid hm
  obtain ⟨av, hav⟩ : ∃ av, a.val = av := ⟨_, rfl⟩
  rw [hav]
  have CO2 : Hid (∀ x ∈ l, ∀ W : World, Calls Try.prog 31 #[av, x.val] W fun e w' => e = .returned (.bool (ovB a x)) ∧ Below W.heap.size W w') := by
    unfold Hid; rw [← hav]; exact CO.out
  clear hn hr h hav ha hl CO
  go_enter Try.func41, Try.ntmps41
  go_wp2_with fail
  go_loopw [5, 8] (fun v5 v wr => IxRel a n l w v5 v wr) (fun _ v => fun _ => n - (intOf v).toNat)
  case atStart => exact ⟨⟨0, Nat.zero_le _, rfl, by simp, Below.refl _ _⟩⟩
  case round =>
    obtain ⟨⟨k, hk, rfl, hix, hb⟩⟩ := hrel
    have HK := Lib.hid hk
    have HIX := Lib.hid hix
    have HB := Lib.hid hb
    clear hk hix hb
    by_cases hlt : k < n
    · have hkI : (k : Int) < (n : Int) := by omega
      have HX : Hid (k < n) := hlt
      obtain ⟨_, b, off, rfl, hbl, hg, hc⟩ := H.out.at_ hlt
      have hxs : l[k]? = some (l[k]'(by have := HN.out; omega)) := List.getElem?_eq_getElem _
      obtain ⟨x, hx⟩ : ∃ x, l[k]'(by have := HN.out; omega) = x := ⟨_, rfl⟩
      rw [hx] at hxs
      have HXS := Lib.hid hxs
      have CX := Lib.hid (CO2.out x (List.mem_of_getElem? hxs))
      obtain ⟨xf, xw, xx, xr, xk⟩ := x
      unfold MA.val at CX
      dsimp only at CX
      have hca := CA_at hxs
      have d0 : wr.cell? ⟨b, off + k * 5, none⟩ = some (.int .i64 xf) := by have := hc _ _ (hca 0 _ rfl); exact cell_later HB.out (by simpa [Nat.add_assoc] using this)
      have d1 : wr.cell? ⟨b, off + k * 5 + 1, none⟩ = some (.int .i64 xw) := by have := hc _ _ (hca 1 _ rfl); exact cell_later HB.out (by simpa [Nat.add_assoc] using this)
      have d2 : wr.cell? ⟨b, off + k * 5 + 2, none⟩ = some (.bool xx) := by have := hc _ _ (hca 2 _ rfl); exact cell_later HB.out (by simpa [Nat.add_assoc] using this)
      have d3 : wr.cell? ⟨b, off + k * 5 + 3, none⟩ = some (.bool xr) := by have := hc _ _ (hca 3 _ rfl); exact cell_later HB.out (by simpa [Nat.add_assoc] using this)
      have d4 : wr.cell? ⟨b, off + k * 5 + 4, none⟩ = some (.bool xk) := by have := hc _ _ (hca 4 _ rfl); exact cell_later HB.out (by simpa [Nat.add_assoc] using this)
      have hstep : Hid (ixL a l 0 = if ovB a ⟨xf, xw, xx, xr, xk⟩ = true then (k : Int) else ixL a (l.drop (k + 1)) (k + 1)) := by
        unfold Hid
        rw [HIX.out, drop_cons HXS.out]; rfl
      obtain ⟨t, ht⟩ : ∃ t, ovB a ⟨xf, xw, xx, xr, xk⟩ = t := ⟨_, rfl⟩
      rw [ht] at CX hstep
      clear hc hca hx hlt hbl hg hxs ht
      go_wp2_with fail
      refine (CX.out _).mono ?_
      rintro e W1 ⟨rfl, b1⟩
      have HB1 : Hid (Below w.heap.size w W1) := HB.out.trans (b1.mono HB.out.size)
      clear b1 CX d0 d1 d2 d3 d4
      cases t with
      | true =>
        have HF : Hid (r = (k : Int)) := by unfold Hid; rw [← HR.out, hstep.out, if_pos rfl]
        go_wp2_with fail
        go_ret
        exact ⟨by rw [HF.out]; rfl, HB1.out⟩
      | false =>
        go_wp2_with fail
        go_roundw
        case rel =>
          have Q : IxRel a n l w (.int .i64 (k : Int)) (.int .i64 ((k : Int) + 1)) W1 := ⟨⟨k + 1, HX.out, by go_num, by rw [hstep.out]; simp, HB1.out⟩⟩
          first | exact Q | ((repeat apply Exists.intro); exact ⟨Q, rfl⟩)
        case measure => have := HX.out; simp [intOf]; omega
    · have hkn : k = n := by have := HK.out; omega
      have HF : Hid (r = -1) := by
        unfold Hid
        rw [← HR.out, HIX.out, List.drop_of_length_le (by have := HN.out; omega)]
        rfl
      clear hlt
      subst hkn
      go_wp2_with fail
      go_ret
      exact ⟨by rw [HF.out]; rfl, HB.out⟩
set_option maxRecDepth 100000 in
set_option maxHeartbeats 4000000 in
theorem contains_any (g : Nat) (a : MA) (v : Value) (l : List MA) (w : World) (h : St g w 5 v l.length (CA l)) (ha : IntKind.i64.wrap (a.frm + a.wds) = a.frm + a.wds) (hl : WrA l) (hm : l.length ≤ 64) :
    Calls Try.prog 30 #[v, .func (.func 31) #[a.val] #[]] w fun e w' => e = .returned (.bool (l.any (ovB a))) ∧ Below w.heap.size w w' := by
  have C := Lib.hid (index_any g a v l w h ha hl hm)
  obtain ⟨t, ht⟩ : ∃ t, l.any (ovB a) = t := ⟨_, rfl⟩
  have hd := ixL_ge a l 0
  rw [ht] at hd ⊢
  obtain ⟨r, hr⟩ : ∃ r, ixL a l 0 = r := ⟨_, rfl⟩
  rw [hr] at C hd
  obtain ⟨av, hav⟩ : ∃ av, a.val = av := ⟨_, rfl⟩
  rw [hav] at C ⊢
  clear hr hav ht ha hl hm h
  go_enter Try.func30, Try.ntmps30
  go_wp2_with fail
  refine C.out.mono ?_
  rintro e w1 ⟨rfl, b1⟩
  go_wp2_with fail
  go_ret
  exact ⟨by first | rfl | (rw [← hd]), b1⟩
set_option maxRecDepth 100000 in
set_option maxHeartbeats 4000000 in
theorem aclone_any (g : Nat) (v : Value) (n : Nat) (xs : List Value) (w : World) (h : St g w 5 v n xs) (h1 : ∀ u ∈ xs, u.oneCell' = true) (hlen : n ≤ 5000) :
    Calls Try.prog 32 #[v] w fun e w' => (∃ r, e = .returned r ∧ w'.ownsRow w.heap.size 57 5 r n xs) ∧ Below w.heap.size w w' := by
  obtain ⟨i0, hi, hz0, hz1, hz2⟩ := info_of area_info
  obtain ⟨a, cap, rfl⟩ := h.form
  rcases a with _ | ad
  · have hn0 : n = 0 := by
      rcases Nat.eq_zero_or_pos n with h0 | h0
      · exact h0
      · obtain ⟨_, b, off, e, _⟩ := h.at_ h0
        cases e
    subst hn0
    have hx : xs = [] := List.eq_nil_of_length_eq_zero (by have := h.len; omega)
    subst hx
    have he : ∀ w : World, (binOp .eql 22 (.slice none 0 cap) (.slice none 0 0)).run Try.prog w = .ok (.bool true) w := fun _ => rfl
    clear h hlen h1
    go_enter Try.func32, Try.ntmps32
    go_wp2_with fail
    go_ret
    exact ⟨⟨_, rfl, World.ownsRow_nil _ _ _ _⟩, Below.refl _ _⟩
  · have RD := Lib.hid h.reads.2
    have HL := Lib.hid hlen
    have H1 := Lib.hid h1
    clear h hlen h1
    have he : ∀ w : World, (binOp .eql 22 (.slice (some ad) n cap) (.slice none 0 0)).run Try.prog w = .ok (.bool false) w := fun _ => rfl
    go_enter Try.func32, Try.ntmps32
    go_wp2_with (at_builtin; refine wpList_append_any _ rfl (.tmp 5) (.tmp 6) _ rfl w.heap.size 57 i0 _ 5 24 Try.underlying22 hi hz0 hz1 hz2 rfl (by omega) (.slice (some ⟨w.heap.size, 0, none⟩) 0 0) 0 [] rfl ⟨rfl, .inr ⟨w.heap.size, 0, #[], rfl, Nat.le_refl _, heap_alloc_new w _, Nat.le_refl _, by unfold maxLen; omega, rfl, rfl⟩⟩ w.heap.size (some ad) n cap xs rfl (RD.out.alloc (Nat.le_refl _) _) H1.out ?c2 ?c3 ?c4 ?_)
    case c2 => have := HL.out; unfold maxLen; omega
    case c3 => have := HL.out; omega
    case c4 => simp
    intro v2 w2 ho hgr hbl
    have ho' : w2.ownsRow w.heap.size 57 5 v2 n xs := by simpa using ho
    have hbel : Hid (Below w.heap.size w w2) := ((Below.refl _ _).alloc (Nat.le_refl _) _).grown hgr (by simp) (fun q hq => by have h' : some w.heap.size = some q := hq; injection h' with h'; omega)
    obtain ⟨A2, c2, rfl⟩ := slice_form ho'
    have HO := Lib.hid ho'
    clear ho ho' hgr hbl
    go_wp2_with fail
    go_ret
    exact ⟨⟨_, rfl, HO.out⟩, hbel.out⟩
set_option maxRecDepth 100000 in
set_option maxHeartbeats 4000000 in
theorem uclone_any (g : Nat) (v : Value) (n : Nat) (xs : List Value) (w : World) (h : St g w 1 v n xs) (h1 : ∀ u ∈ xs, u.oneCell' = true) (hlen : n ≤ 5000) :
    Calls Try.prog 36 #[v] w fun e w' => (∃ r, e = .returned r ∧ w'.ownsRow w.heap.size 39 1 r n xs) ∧ Below w.heap.size w w' := by
  obtain ⟨i0, hi, hz0, hz1, hz2⟩ := info_of u32_info
  obtain ⟨a, cap, rfl⟩ := h.form
  rcases a with _ | ad
  · have hn0 : n = 0 := by
      rcases Nat.eq_zero_or_pos n with h0 | h0
      · exact h0
      · obtain ⟨_, b, off, e, _⟩ := h.at_ h0
        cases e
    subst hn0
    have hx : xs = [] := List.eq_nil_of_length_eq_zero (by have := h.len; omega)
    subst hx
    have he : ∀ w : World, (binOp .eql 40 (.slice none 0 cap) (.slice none 0 0)).run Try.prog w = .ok (.bool true) w := fun _ => rfl
    clear h hlen h1
    go_enter Try.func36, Try.ntmps36
    go_wp2_with fail
    go_ret
    exact ⟨⟨_, rfl, World.ownsRow_nil _ _ _ _⟩, Below.refl _ _⟩
  · have RD := Lib.hid h.reads.2
    have HL := Lib.hid hlen
    have H1 := Lib.hid h1
    clear h hlen h1
    have he : ∀ w : World, (binOp .eql 40 (.slice (some ad) n cap) (.slice none 0 0)).run Try.prog w = .ok (.bool false) w := fun _ => rfl
    go_enter Try.func36, Try.ntmps36
    go_wp2_with (at_builtin; refine wpList_append_any _ rfl (.tmp 5) (.tmp 6) _ rfl w.heap.size 39 i0 _ 1 4 Try.underlying40 hi hz0 hz1 hz2 rfl (by omega) (.slice (some ⟨w.heap.size, 0, none⟩) 0 0) 0 [] rfl ⟨rfl, .inr ⟨w.heap.size, 0, #[], rfl, Nat.le_refl _, heap_alloc_new w _, Nat.le_refl _, by unfold maxLen; omega, rfl, rfl⟩⟩ w.heap.size (some ad) n cap xs rfl (RD.out.alloc (Nat.le_refl _) _) H1.out ?c2 ?c3 ?c4 ?_)
    case c2 => have := HL.out; unfold maxLen; omega
    case c3 => have := HL.out; omega
    case c4 => simp
    intro v2 w2 ho hgr hbl
    have ho' : w2.ownsRow w.heap.size 39 1 v2 n xs := by simpa using ho
    have hbel : Hid (Below w.heap.size w w2) := ((Below.refl _ _).alloc (Nat.le_refl _) _).grown hgr (by simp) (fun q hq => by have h' : some w.heap.size = some q := hq; injection h' with h'; omega)
    obtain ⟨A2, c2, rfl⟩ := slice_form ho'
    have HO := Lib.hid ho'
    clear ho ho' hgr hbl
    go_wp2_with fail
    go_ret
    exact ⟨⟨_, rfl, HO.out⟩, hbel.out⟩
end Go.Proofs.Ytliggejkpmlgfaa
