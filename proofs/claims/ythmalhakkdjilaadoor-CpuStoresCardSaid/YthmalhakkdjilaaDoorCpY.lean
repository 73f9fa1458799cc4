/-
  Contract of the statements' memory's Store. Each statement bears its own conditions.
-/
import Derived.Test.YthmalhakkdjilaaDoorCpX
namespace Go.Proofs.YthmalhakkdjilaaDoor
open Go.RowKit
set_option linter.unusedVariables false
set_option linter.unusedSimpArgs false
set_option maxRecDepth 100000 in
set_option maxHeartbeats 4000000 in
theorem store_bad (gm : Nat) (A : Option Addr) (n cap code k : Nat) (st x : Int) (w : World) (h : w.heap[gm]? = some (.cells #[.slice A n cap, .int .i64 (code : Int), .int .i64 st] 43 (0, 0))) (hn : n ≤ 120) (hcd : code ≤ 60) (hk : (k : Int) < 4294967296) (he : n ≤ k ∨ k < code) :
    Calls Tryd.prog 76 #[.pointer (some ⟨gm, 0, none⟩), .int .u32 (k : Int), .int .u32 x] w fun e w' => e = .returned (.int .i64 (if n ≤ k then 2 else 11)) ∧ Below w.heap.size w w' := by
  have c0 := (row_cell h 0).1
  have c1 := (row_cell h 1).1
  simp at c0 c1
  have HC := Lib.hid (And.intro hn (And.intro hcd (And.intro hk he)))
  obtain ⟨er, her⟩ : ∃ er : Int, (if n ≤ k then (2 : Int) else 11) = er := ⟨_, rfl⟩
  have hne : (er == 0) = false := by rw [← her]; split <;> rfl
  rw [her]
  have HNE : Hid (gm ≠ w.heap.size) := by have := (Array.getElem?_eq_some_iff.1 h).1; unfold Hid; omega
  clear h hn hcd hk he
  go_enter Tryd.func76, Tryd.ntmps76
  go_wp2_with fail
  refine wp_region_held_drew (S := fun w' => Below w.heap.size w w' ∧ w'.cell? ⟨gm, 0, none⟩ = some (.slice A n cap) ∧ w'.cell? ⟨gm, 1, none⟩ = some (.int .i64 (code : Int))) (by kernel_rfl) ?_ (fun hHeld => ?_)
  · exact ⟨(Below.refl _ _).drew, c0, c1⟩
  refine takeD (i := 0) (d := some 10) (v := ?_) _ rfl rfl (by kernel_rfl) (by kernel_rfl) (by kernel_rfl) (fun _ _ _ h => h) (by rfl) ?_ (by assumption) ?_
  rotate_left
  · (intro w hSw; (try dsimp only at hSw); go_simp) <;> with_reducible rfl
  try simp only [Act.put, List.setIfInBounds_toArray, List.set_cons_zero, List.set_cons_succ]
  refine takeD (i := 1) (d := some 11) (v := ?_) _ rfl rfl (by kernel_rfl) (by kernel_rfl) (by kernel_rfl) (fun _ _ _ h => h) (by rfl) ?_ (by assumption) ?_
  rotate_left
  · (intro w hSw; (try dsimp only at hSw); go_simp) <;> with_reducible rfl
  try simp only [Act.put, List.setIfInBounds_toArray, List.set_cons_zero, List.set_cons_succ]
  refine takeD (i := 2) (d := some 12) (v := ?_) _ rfl rfl (by kernel_rfl) (by kernel_rfl) (by kernel_rfl) (fun _ _ _ h => h) (by rfl) ?_ (by assumption) ?_
  rotate_left
  · (intro w hSw; (try dsimp only at hSw); go_simp) <;> with_reducible rfl
  try simp only [Act.put, List.setIfInBounds_toArray, List.set_cons_zero, List.set_cons_succ]
  refine takeD (i := 3) (d := some 13) (v := ?_) _ rfl rfl (by kernel_rfl) (by kernel_rfl) (by kernel_rfl) (fun _ _ _ h => h) (by rfl) ?_ (by assumption) ?_
  rotate_left
  · (intro w hSw; (try dsimp only at hSw); go_simp) <;> with_reducible rfl
  try simp only [Act.put, List.setIfInBounds_toArray, List.set_cons_zero, List.set_cons_succ]
  refine takeD (i := 4) (d := some 14) (v := ?_) _ rfl rfl (by kernel_rfl) (by kernel_rfl) (by kernel_rfl) (fun _ _ _ h => h) (by rfl) ?_ (by assumption) ?_
  rotate_left
  · (intro w hSw; (try dsimp only at hSw); go_simp) <;> with_reducible rfl
  try simp only [Act.put, List.setIfInBounds_toArray, List.set_cons_zero, List.set_cons_succ]
  refine takeD (i := 5) (d := some 15) (v := ?_) _ rfl rfl (by kernel_rfl) (by kernel_rfl) (by kernel_rfl) (fun _ _ _ h => h) (by rfl) ?_ (by assumption) ?_
  rotate_left
  · (intro w hSw; (try dsimp only at hSw); go_simp) <;> with_reducible rfl
  try simp only [Act.put, List.setIfInBounds_toArray, List.set_cons_zero, List.set_cons_succ]
  refine takeD (i := 6) (d := some 16) (v := ?_) _ rfl rfl (by kernel_rfl) (by kernel_rfl) (by kernel_rfl) (fun _ _ _ h => h) (by rfl) ?_ (by assumption) ?_
  rotate_left
  · (intro w hSw; (try dsimp only at hSw); go_simp) <;> with_reducible rfl
  try simp only [Act.put, List.setIfInBounds_toArray, List.set_cons_zero, List.set_cons_succ]
  refine takeD (i := 7) (d := some 17) (v := ?_) _ rfl rfl (by kernel_rfl) (by kernel_rfl) (by kernel_rfl) (fun _ _ _ h => h) (by rfl) ?_ (by assumption) ?_
  rotate_left
  · (intro w hSw; (try dsimp only at hSw); go_simp) <;> with_reducible rfl
  try simp only [Act.put, List.setIfInBounds_toArray, List.set_cons_zero, List.set_cons_succ]
  refine takeD (i := 8) (d := some 18) (v := ?_) _ rfl rfl (by kernel_rfl) (by kernel_rfl) (by kernel_rfl) (fun _ _ _ h => h) (by rfl) ?_ (by assumption) ?_
  rotate_left
  · (intro w hSw; (try dsimp only at hSw); go_simp) <;> with_reducible rfl
  try simp only [Act.put, List.setIfInBounds_toArray, List.set_cons_zero, List.set_cons_succ]
  refine takeD (i := 9) (d := some 19) (v := ?_) _ rfl rfl (by kernel_rfl) (by kernel_rfl) (by kernel_rfl) (fun _ _ _ h => h) (by rfl) ?_ (by assumption) ?_
  rotate_left
  · (intro w hSw; (try dsimp only at hSw); go_simp) <;> with_reducible rfl
  try simp only [Act.put, List.setIfInBounds_toArray, List.set_cons_zero, List.set_cons_succ]
  refine takeD (i := 10) (d := some 20) (v := ?_) _ rfl rfl (by kernel_rfl) (by kernel_rfl) (by kernel_rfl) (fun _ _ _ h => h) (by rfl) ?_ (by assumption) ?_
  rotate_left
  · (intro w hSw; (try dsimp only at hSw); go_simp) <;> with_reducible rfl
  try simp only [Act.put, List.setIfInBounds_toArray, List.set_cons_zero, List.set_cons_succ]
  refine wpAnyH_ready (rs := [11, 15]) (by kernel_rfl) (by simp) ?_
  refine AllReadyH.cons rfl (fun K hK => ?_) (AllReadyH.cons rfl (fun K hK => ?_) AllReadyH.nil)
  · skip
    go_simp
    go_at_call 79
    refine (rstore_bad A n cap code k x _ HC.out.1 HC.out.2.1 HC.out.2.2.1 HC.out.2.2.2).mono ?_
    rintro e V1 ⟨rfl, b1⟩
    try go_wp2_with fail
    have hB := hHeld.1.trans (b1.mono hHeld.1.size)
    have c0 := cell_later b1 hHeld.2.1
    have c1 := cell_later b1 hHeld.2.2
    have HV := Lib.hid hB
    have HV0 := Lib.hid (And.intro c0 c1)
    refine hK.out _ _ ⟨hB, c0, c1⟩ (fun hHeld => ?_)
    clear hK K hB c0 c1 b1
    try simp only [Act.put, List.setIfInBounds_toArray, List.set_cons_zero, List.set_cons_succ]
    refine takeD (i := 12) (d := some 9) (v := ?_) _ rfl rfl (by kernel_rfl) (by kernel_rfl) (by kernel_rfl) (fun _ _ _ h => h) (by rfl) ?_ (by assumption) ?_
    rotate_left
    · (intro w hSw; (try dsimp only at hSw); go_simp) <;> with_reducible rfl
    try simp only [Act.put, List.setIfInBounds_toArray, List.set_cons_zero, List.set_cons_succ]
    refine takeD (i := 13) (d := some 22) (v := ?_) _ rfl rfl (by kernel_rfl) (by kernel_rfl) (by kernel_rfl) (fun _ _ _ h => h) (by rfl) ?_ (by assumption) ?_
    rotate_left
    · (intro w hSw; (try dsimp only at hSw); go_simp) <;> with_reducible rfl
    try simp only [Act.put, List.setIfInBounds_toArray, List.set_cons_zero, List.set_cons_succ]
    refine takeD (i := 14) (d := some 23) (v := ?_) _ rfl rfl (by kernel_rfl) (by kernel_rfl) (by kernel_rfl) (fun _ _ _ h => h) (by rfl) ?_ (by assumption) ?_
    rotate_left
    · (intro w hSw; (try dsimp only at hSw); go_simp) <;> with_reducible rfl
    try simp only [Act.put, List.setIfInBounds_toArray, List.set_cons_zero, List.set_cons_succ]
    refine wpAnyH_ready (rs := [15]) (by kernel_rfl) (by simp) ?_
    refine AllReadyH.cons rfl (fun K hK => ?_) AllReadyH.nil
    go_simp
    have hY : Hid ((V1.alloc (.cells #[.slice none 0 0, .int .i64 0] 105)).heap[V1.heap.size]? = some (.cells #[.slice none 0 0, .int .i64 0] 105 (0, 0))) := heap_alloc_new _ _
    refine hK.out _ _ ⟨hHeld.1.alloc hHeld.1.size _, cell_al _ hHeld.2.1, cell_al _ hHeld.2.2⟩ (fun hHeld => ?_)
    clear hK K
    try simp only [Act.put, List.setIfInBounds_toArray, List.set_cons_zero, List.set_cons_succ]
    have y0 := (row_cell hY.out 0).1
    have y1 := (row_cell hY.out 1).1
    have z0 := (row_cell hY.out 0).2
    have z1 := (row_cell hY.out 1).2
    simp at y0 y1
    refine wpAnyH_ready (rs := [16]) (by kernel_rfl) (by simp) ?_
    refine AllReadyH.cons rfl (fun K hK => ?_) AllReadyH.nil
    have HQ := Lib.hid hHeld
    clear hHeld
    go_simp
    refine hK.out _ _ ⟨HV.out.alloc HV.out.size _, cell_al _ HV0.out.1, cell_al _ HV0.out.2⟩ (fun hHeld => ?_)
    clear hK K HQ y0 y1 z0 z1 hY
    try simp only [Act.put, List.setIfInBounds_toArray, List.set_cons_zero, List.set_cons_succ]
    refine takeD (i := 17) (d := some 8) (v := ?_) _ rfl rfl (by kernel_rfl) (by kernel_rfl) (by kernel_rfl) (fun _ _ _ h => h) (by rfl) ?_ (by assumption) ?_
    rotate_left
    · (intro w hSw; (try dsimp only at hSw); go_simp) <;> with_reducible rfl
    try simp only [Act.put, List.setIfInBounds_toArray, List.set_cons_zero, List.set_cons_succ]
    refine wpAnyH_done (by kernel_rfl) ?_ _
    have HF := Lib.hid hHeld.1
    clear hHeld HV HV0 HC
    go_wp2_with fail
    go_ret
    exact ⟨rfl, HF.out⟩
  · skip
    go_simp
    have hY : Hid ((w.alloc (.cells #[.slice none 0 0, .int .i64 0] 105)).drew.heap[w.heap.size]? = some (.cells #[.slice none 0 0, .int .i64 0] 105 (0, 0))) := heap_alloc_new w _
    refine hK.out _ _ ⟨hHeld.1.alloc hHeld.1.size _, cell_al _ hHeld.2.1, cell_al _ hHeld.2.2⟩ (fun hHeld => ?_)
    clear hK K
    try simp only [Act.put, List.setIfInBounds_toArray, List.set_cons_zero, List.set_cons_succ]
    refine wpAnyH_ready (rs := [11]) (by kernel_rfl) (by simp) ?_
    refine AllReadyH.cons rfl (fun K hK => ?_) AllReadyH.nil
    go_simp
    go_at_call 79
    refine (rstore_bad A n cap code k x _ HC.out.1 HC.out.2.1 HC.out.2.2.1 HC.out.2.2.2).mono ?_
    rintro e V1 ⟨rfl, b1⟩
    try go_wp2_with fail
    have HB1 := Lib.hid b1
    have hB := hHeld.1.trans (b1.mono hHeld.1.size)
    have c0 := cell_later b1 hHeld.2.1
    have c1 := cell_later b1 hHeld.2.2
    have HV := Lib.hid hB
    have HV0 := Lib.hid (And.intro c0 c1)
    refine hK.out _ _ ⟨hB, c0, c1⟩ (fun hHeld => ?_)
    clear hK K hB c0 c1 b1
    try simp only [Act.put, List.setIfInBounds_toArray, List.set_cons_zero, List.set_cons_succ]
    refine takeD (i := 12) (d := some 9) (v := ?_) _ rfl rfl (by kernel_rfl) (by kernel_rfl) (by kernel_rfl) (fun _ _ _ h => h) (by rfl) ?_ (by assumption) ?_
    rotate_left
    · (intro w hSw; (try dsimp only at hSw); go_simp) <;> with_reducible rfl
    try simp only [Act.put, List.setIfInBounds_toArray, List.set_cons_zero, List.set_cons_succ]
    refine takeD (i := 13) (d := some 22) (v := ?_) _ rfl rfl (by kernel_rfl) (by kernel_rfl) (by kernel_rfl) (fun _ _ _ h => h) (by rfl) ?_ (by assumption) ?_
    rotate_left
    · (intro w hSw; (try dsimp only at hSw); go_simp) <;> with_reducible rfl
    try simp only [Act.put, List.setIfInBounds_toArray, List.set_cons_zero, List.set_cons_succ]
    refine takeD (i := 14) (d := some 23) (v := ?_) _ rfl rfl (by kernel_rfl) (by kernel_rfl) (by kernel_rfl) (fun _ _ _ h => h) (by rfl) ?_ (by assumption) ?_
    rotate_left
    · (intro w hSw; (try dsimp only at hSw); go_simp) <;> with_reducible rfl
    try simp only [Act.put, List.setIfInBounds_toArray, List.set_cons_zero, List.set_cons_succ]
    have hY : Hid (V1.heap[w.heap.size]? = some (.cells #[.slice none 0 0, .int .i64 0] 105 (0, 0))) := heap_keep HB1.out hY.out
    have y0 := (row_cell hY.out 0).1
    have y1 := (row_cell hY.out 1).1
    have z0 := (row_cell hY.out 0).2
    have z1 := (row_cell hY.out 1).2
    simp at y0 y1
    refine wpAnyH_ready (rs := [16]) (by kernel_rfl) (by simp) ?_
    refine AllReadyH.cons rfl (fun K hK => ?_) AllReadyH.nil
    have HQ := Lib.hid hHeld
    clear hHeld
    go_simp
    have hB2 := (HV.out.setCell (p := ⟨w.heap.size, 0, none⟩) (Nat.le_refl _) (.slice A n cap)).setCell (p := ⟨w.heap.size, 1, none⟩) (Nat.le_refl _) (.int .i64 (code : Int))
    have q0 : gm ≠ w.heap.size := HNE.out
    refine hK.out _ _ ⟨hB2, (World.cell?_of_block ((set_far _ _ q0).trans (set_far _ _ q0))).trans HV0.out.1, (World.cell?_of_block ((set_far _ _ q0).trans (set_far _ _ q0))).trans HV0.out.2⟩ (fun hHeld => ?_)
    clear hK K HQ y0 y1 z0 z1 hY
    try simp only [Act.put, List.setIfInBounds_toArray, List.set_cons_zero, List.set_cons_succ]
    refine takeD (i := 17) (d := some 8) (v := ?_) _ rfl rfl (by kernel_rfl) (by kernel_rfl) (by kernel_rfl) (fun _ _ _ h => h) (by rfl) ?_ (by assumption) ?_
    rotate_left
    · (intro w hSw; (try dsimp only at hSw); go_simp) <;> with_reducible rfl
    try simp only [Act.put, List.setIfInBounds_toArray, List.set_cons_zero, List.set_cons_succ]
    refine wpAnyH_done (by kernel_rfl) ?_ _
    have HF := Lib.hid hHeld.1
    clear hHeld HV HV0 HC
    go_wp2_with fail
    go_ret
    exact ⟨rfl, HF.out⟩
end Go.Proofs.YthmalhakkdjilaaDoor
