/-
  Contract of the statements' memory's Store, the good case. Each statement bears its own conditions.
-/
import Derived.Test.YthmalhakkdjilaaDoorCpY
namespace Go.Proofs.YthmalhakkdjilaaDoor
open Go.RowKit
set_option linter.unusedVariables false
set_option linter.unusedSimpArgs false
set_option maxRecDepth 100000 in
set_option maxHeartbeats 4000000 in
theorem store_ok (gm : Nat) (A : Option Addr) (n cap code k : Nat) (st x : Int) (xs : List Int) (w : World) (h : w.heap[gm]? = some (.cells #[.slice A n cap, .int .i64 (code : Int), .int .i64 st] 43 (0, 0))) (hr : Reads w w.heap.size 1 A n (CW xs)) (hn : n ≤ 120) (hcd : code ≤ 60) (hkn : k < n) (hck : code ≤ k) :
    Calls Tryd.prog 76 #[.pointer (some ⟨gm, 0, none⟩), .int .u32 (k : Int), .int .u32 x] w fun e w' => e = .returned (.int .i64 0) ∧ (∃ v, w'.heap[gm]? = some (.cells #[v, .int .i64 (code : Int), .int .i64 (IntKind.i64.wrap (st + 1))] 43 (0, 0)) ∧ w'.ownsRow w.heap.size 22 1 v n (CW (xs.set k x))) ∧ Past gm w w' := by
  have c0 := (row_cell h 0).1
  have c1 := (row_cell h 1).1
  simp at c0 c1
  have HC := Lib.hid (And.intro hn (And.intro hcd (And.intro hkn hck)))
  have HR := Lib.hid hr
  have HLT : Hid (gm < w.heap.size) := (Array.getElem?_eq_some_iff.1 h).1
  have HH := Lib.hid h
  clear h hn hcd hkn hck hr
  go_enter Tryd.func76, Tryd.ntmps76
  go_wp2_with fail
  refine wp_region_held_drew (S := fun w' => Below w.heap.size w w' ∧ w'.cell? ⟨gm, 0, none⟩ = some (.slice A n cap) ∧ w'.cell? ⟨gm, 1, none⟩ = some (.int .i64 (code : Int)) ∧ w'.heap[gm]? = some (.cells #[.slice A n cap, .int .i64 (code : Int), .int .i64 st] 43 (0, 0))) (by kernel_rfl) ?_ (fun hHeld => ?_)
  · exact ⟨(Below.refl _ _).drew, c0, c1, HH.out⟩
  clear c0 c1 HH
  refine takeD (i := 0) (d := some 10) (v := ?_) _ rfl rfl (by kernel_rfl) (by kernel_rfl) (by kernel_rfl) (fun _ _ _ h => h) (by rfl) ?_ (by assumption) ?_
  rotate_left
  · (intro w hSw; (try dsimp only at hSw); go_simp) <;> with_reducible rfl
  try simp only [Act.put, List.setIfInBounds_toArray, List.set_cons_zero, List.set_cons_succ]
  refine takeD (i := 1) (d := some 11) (v := ?_) _ rfl rfl (by kernel_rfl) (by kernel_rfl) (by kernel_rfl) (fun _ _ _ h => h) (by rfl) ?_ (by assumption) ?_
  rotate_left
  · (intro w hSw; (try dsimp only at hSw); go_simp) <;> with_reducible rfl
  try simp only [Act.put, List.setIfInBounds_toArray, List.set_cons_zero, List.set_cons_succ]
  refine takeD (i := 2) (d := some 12) (v := ?_) _ rfl rfl (by kernel_rfl) (by kernel_rfl) (by kernel_rfl) (fun _ _ _ h => h) (by rfl) ?_ (by assumption) ?_
  rotate_left
  · (intro w hSw; (try dsimp only at hSw); go_simp) <;> with_reducible rfl
  try simp only [Act.put, List.setIfInBounds_toArray, List.set_cons_zero, List.set_cons_succ]
  refine takeD (i := 3) (d := some 13) (v := ?_) _ rfl rfl (by kernel_rfl) (by kernel_rfl) (by kernel_rfl) (fun _ _ _ h => h) (by rfl) ?_ (by assumption) ?_
  rotate_left
  · (intro w hSw; (try dsimp only at hSw); go_simp) <;> with_reducible rfl
  try simp only [Act.put, List.setIfInBounds_toArray, List.set_cons_zero, List.set_cons_succ]
  refine takeD (i := 4) (d := some 14) (v := ?_) _ rfl rfl (by kernel_rfl) (by kernel_rfl) (by kernel_rfl) (fun _ _ _ h => h) (by rfl) ?_ (by assumption) ?_
  rotate_left
  · (intro w hSw; (try dsimp only at hSw); go_simp) <;> with_reducible rfl
  try simp only [Act.put, List.setIfInBounds_toArray, List.set_cons_zero, List.set_cons_succ]
  refine takeD (i := 5) (d := some 15) (v := ?_) _ rfl rfl (by kernel_rfl) (by kernel_rfl) (by kernel_rfl) (fun _ _ _ h => h) (by rfl) ?_ (by assumption) ?_
  rotate_left
  · (intro w hSw; (try dsimp only at hSw); go_simp) <;> with_reducible rfl
  try simp only [Act.put, List.setIfInBounds_toArray, List.set_cons_zero, List.set_cons_succ]
  refine takeD (i := 6) (d := some 16) (v := ?_) _ rfl rfl (by kernel_rfl) (by kernel_rfl) (by kernel_rfl) (fun _ _ _ h => h) (by rfl) ?_ (by assumption) ?_
  rotate_left
  · (intro w hSw; (try dsimp only at hSw); go_simp) <;> with_reducible rfl
  try simp only [Act.put, List.setIfInBounds_toArray, List.set_cons_zero, List.set_cons_succ]
  refine takeD (i := 7) (d := some 17) (v := ?_) _ rfl rfl (by kernel_rfl) (by kernel_rfl) (by kernel_rfl) (fun _ _ _ h => h) (by rfl) ?_ (by assumption) ?_
  rotate_left
  · (intro w hSw; (try dsimp only at hSw); go_simp) <;> with_reducible rfl
  try simp only [Act.put, List.setIfInBounds_toArray, List.set_cons_zero, List.set_cons_succ]
  refine takeD (i := 8) (d := some 18) (v := ?_) _ rfl rfl (by kernel_rfl) (by kernel_rfl) (by kernel_rfl) (fun _ _ _ h => h) (by rfl) ?_ (by assumption) ?_
  rotate_left
  · (intro w hSw; (try dsimp only at hSw); go_simp) <;> with_reducible rfl
  try simp only [Act.put, List.setIfInBounds_toArray, List.set_cons_zero, List.set_cons_succ]
  refine takeD (i := 9) (d := some 19) (v := ?_) _ rfl rfl (by kernel_rfl) (by kernel_rfl) (by kernel_rfl) (fun _ _ _ h => h) (by rfl) ?_ (by assumption) ?_
  rotate_left
  · (intro w hSw; (try dsimp only at hSw); go_simp) <;> with_reducible rfl
  try simp only [Act.put, List.setIfInBounds_toArray, List.set_cons_zero, List.set_cons_succ]
  refine takeD (i := 10) (d := some 20) (v := ?_) _ rfl rfl (by kernel_rfl) (by kernel_rfl) (by kernel_rfl) (fun _ _ _ h => h) (by rfl) ?_ (by assumption) ?_
  rotate_left
  · (intro w hSw; (try dsimp only at hSw); go_simp) <;> with_reducible rfl
  try simp only [Act.put, List.setIfInBounds_toArray, List.set_cons_zero, List.set_cons_succ]
  refine wpAnyH_ready (rs := [11, 15]) (by kernel_rfl) (by simp) ?_
  refine AllReadyH.cons rfl (fun K hK => ?_) (AllReadyH.cons rfl (fun K hK => ?_) AllReadyH.nil)
  · skip
    go_simp
    go_at_call 79
    refine (rstore_ok A n cap code k x xs _ ((HR.out.below hHeld.1).more hHeld.1.size) HC.out.1 HC.out.2.1 HC.out.2.2.1 HC.out.2.2.2).mono ?_
    rintro e V1 ⟨⟨vv, rfl, ho⟩, b1⟩
    obtain ⟨g1, c1, rfl, hg1, hg1'⟩ := cown_form ho (by have := HC.out.2.2.1; omega)
    try go_wp2_with fail
    have HB1 := Lib.hid b1
    have hB := hHeld.1.trans (b1.mono hHeld.1.size)
    have c0 := cell_later b1 hHeld.2.1
    have c1' := cell_later b1 hHeld.2.2.1
    have c2 := heap_keep b1 hHeld.2.2.2
    have HV := Lib.hid hB
    have HV0 := Lib.hid (And.intro c0 (And.intro c1' c2))
    have HO := Lib.hid ho
    refine hK.out _ _ ⟨hB, c0, c1', c2⟩ (fun hHeld => ?_)
    clear hK K hB c0 c1' c2 b1 ho hg1 hg1'
    try simp only [Act.put, List.setIfInBounds_toArray, List.set_cons_zero, List.set_cons_succ]
    refine takeD (i := 12) (d := some 9) (v := ?_) _ rfl rfl (by kernel_rfl) (by kernel_rfl) (by kernel_rfl) (fun _ _ _ h => h) (by rfl) ?_ (by assumption) ?_
    rotate_left
    · (intro w hSw; (try dsimp only at hSw); go_simp) <;> with_reducible rfl
    try simp only [Act.put, List.setIfInBounds_toArray, List.set_cons_zero, List.set_cons_succ]
    refine takeD (i := 13) (d := some 22) (v := ?_) _ rfl rfl (by kernel_rfl) (by kernel_rfl) (by kernel_rfl) (fun _ _ _ h => h) (by rfl) ?_ (by assumption) ?_
    rotate_left
    · (intro w hSw; (try dsimp only at hSw); go_simp) <;> with_reducible rfl
    try simp only [Act.put, List.setIfInBounds_toArray, List.set_cons_zero, List.set_cons_succ]
    refine takeD (i := 14) (d := some 23) (v := ?_) _ rfl rfl (by kernel_rfl) (by kernel_rfl) (by kernel_rfl) (fun _ _ _ h => h) (by rfl) ?_ (by assumption) ?_
    rotate_left
    · (intro w hSw; (try dsimp only at hSw); go_simp) <;> with_reducible rfl
    try simp only [Act.put, List.setIfInBounds_toArray, List.set_cons_zero, List.set_cons_succ]
    refine wpAnyH_ready (rs := [15]) (by kernel_rfl) (by simp) ?_
    refine AllReadyH.cons rfl (fun K hK => ?_) AllReadyH.nil
    go_simp
    have hY : Hid ((V1.alloc (.cells #[.slice none 0 0, .int .i64 0] 105)).heap[V1.heap.size]? = some (.cells #[.slice none 0 0, .int .i64 0] 105 (0, 0))) := heap_alloc_new _ _
    refine hK.out _ _ ⟨hHeld.1.alloc hHeld.1.size _, cell_al _ hHeld.2.1, cell_al _ hHeld.2.2.1, heap_keep ((Below.refl _ _).alloc (Nat.le_refl _) _) hHeld.2.2.2⟩ (fun hHeld => ?_)
    clear hK K
    try simp only [Act.put, List.setIfInBounds_toArray, List.set_cons_zero, List.set_cons_succ]
    have y0 := (row_cell hY.out 0).1
    have y1 := (row_cell hY.out 1).1
    have z0 := (row_cell hY.out 0).2
    have z1 := (row_cell hY.out 1).2
    simp at y0 y1
    refine wpAnyH_ready (rs := [16]) (by kernel_rfl) (by simp) ?_
    refine AllReadyH.cons rfl (fun K hK => ?_) AllReadyH.nil
    have HQ := Lib.hid hHeld
    clear hHeld
    go_simp
    refine hK.out _ _ ⟨HV.out.alloc HV.out.size _, cell_al _ HV0.out.1, cell_al _ HV0.out.2.1, heap_keep ((Below.refl _ _).alloc (Nat.le_refl _) _) HV0.out.2.2⟩ (fun hHeld => ?_)
    clear hK K HQ y0 y1 z0 z1 hY
    try simp only [Act.put, List.setIfInBounds_toArray, List.set_cons_zero, List.set_cons_succ]
    refine takeD (i := 17) (d := some 8) (v := ?_) _ rfl rfl (by kernel_rfl) (by kernel_rfl) (by kernel_rfl) (fun _ _ _ h => h) (by rfl) ?_ (by assumption) ?_
    rotate_left
    · (intro w hSw; (try dsimp only at hSw); go_simp) <;> with_reducible rfl
    try simp only [Act.put, List.setIfInBounds_toArray, List.set_cons_zero, List.set_cons_succ]
    refine wpAnyH_done (by kernel_rfl) ?_ _
    have HYF : Hid ((V1.alloc (.cells #[.slice (some ⟨g1, 0, none⟩) n c1, .int .i64 (code : Int)] 105)).heap[V1.heap.size]? = some (.cells #[.slice (some ⟨g1, 0, none⟩) n c1, .int .i64 (code : Int)] 105 (0, 0))) := heap_alloc_new _ _
    have HOF : Hid ((V1.alloc (.cells #[.slice (some ⟨g1, 0, none⟩) n c1, .int .i64 (code : Int)] 105)).ownsRow w.heap.size 22 1 (.slice (some ⟨g1, 0, none⟩) n c1) n (CW (xs.set k x))) := World.ownsRow.alloc (cown_base HO.out (Nat.le_refl _)) _
    have HS5 : Hid (w.heap.size ≤ V1.heap.size) := HV.out.size
    have HF := Lib.hid hHeld
    clear hHeld HV HV0 HO HB1
    generalize hW5 : V1.alloc (.cells #[.slice (some ⟨g1, 0, none⟩) n c1, .int .i64 (code : Int)] 105) = W5 at HYF HOF HF ⊢
    generalize hgy : V1.heap.size = gy at HYF HS5 ⊢
    clear hW5 hgy
    have y0 := (row_cell HYF.out 0).1
    simp at y0
    have hz0 := (row_cell HF.out.2.2.2 0).2
    have m0 := HF.out.2.1
    go_upto_region 4 with (fail)
    obtain ⟨W6, hW6⟩ : ∃ W, W5.setCell ⟨gm, 0, none⟩ (.slice (some ⟨g1, 0, none⟩) n c1) = W := ⟨_, rfl⟩
    simp only [hW6]
    have HG6 : Hid (W6.heap[gm]? = some (.cells #[.slice (some ⟨g1, 0, none⟩) n c1, .int .i64 (code : Int), .int .i64 st] 43 (0, 0))) := by rw [← hW6]; have := set_at HF.out.2.2.2 0 (.slice (some ⟨g1, 0, none⟩) n c1); unfold Hid; simpa using this
    have HO6 : Hid (W6.ownsRow w.heap.size 22 1 (.slice (some ⟨g1, 0, none⟩) n c1) n (CW (xs.set k x))) := by rw [← hW6]; exact ownsRow_setCell_below HOF.out HLT.out _
    have HP6 : Hid (Past gm w W6) := by rw [← hW6]; exact (Past.of_below HF.out.1).setCell 0 _
    clear hW6 HF HOF HYF y0 hz0 m0
    have m2 := (row_cell HG6.out 2).1
    have q2 := (row_cell HG6.out 2).2
    simp at m2
    go_upto_region 5 with (fail)
    obtain ⟨W7, hW7⟩ : ∃ W, W6.setCell ⟨gm, 2, none⟩ (.int .i64 (wrap64 (st + 1))) = W := ⟨_, rfl⟩
    simp only [hW7]
    have HG7 : Hid (W7.heap[gm]? = some (.cells #[.slice (some ⟨g1, 0, none⟩) n c1, .int .i64 (code : Int), .int .i64 (wrap64 (st + 1))] 43 (0, 0))) := by rw [← hW7]; have := set_at HG6.out 2 (.int .i64 (wrap64 (st + 1))); unfold Hid; simpa using this
    have HO7 : Hid (W7.ownsRow w.heap.size 22 1 (.slice (some ⟨g1, 0, none⟩) n c1) n (CW (xs.set k x))) := by rw [← hW7]; exact ownsRow_setCell_below HO6.out HLT.out _
    have HP7 : Hid (Past gm w W7) := by rw [← hW7]; exact HP6.out.setCell 2 _
    clear hW7 HG6 HO6 HP6 m2 q2
    go_wp2_with fail
    go_ret
    exact ⟨rfl, ⟨_, by rw [IntWalk.i64_left]; exact HG7.out, HO7.out⟩, HP7.out⟩
  · skip
    go_simp
    have hY : Hid ((w.alloc (.cells #[.slice none 0 0, .int .i64 0] 105)).drew.heap[w.heap.size]? = some (.cells #[.slice none 0 0, .int .i64 0] 105 (0, 0))) := heap_alloc_new w _
    refine hK.out _ _ ⟨hHeld.1.alloc hHeld.1.size _, cell_al _ hHeld.2.1, cell_al _ hHeld.2.2.1, heap_keep ((Below.refl _ _).alloc (Nat.le_refl _) _) hHeld.2.2.2⟩ (fun hHeld => ?_)
    clear hK K
    try simp only [Act.put, List.setIfInBounds_toArray, List.set_cons_zero, List.set_cons_succ]
    refine wpAnyH_ready (rs := [11]) (by kernel_rfl) (by simp) ?_
    refine AllReadyH.cons rfl (fun K hK => ?_) AllReadyH.nil
    go_simp
    go_at_call 79
    refine (rstore_ok A n cap code k x xs _ ((HR.out.below hHeld.1).more hHeld.1.size) HC.out.1 HC.out.2.1 HC.out.2.2.1 HC.out.2.2.2).mono ?_
    rintro e V1 ⟨⟨vv, rfl, ho⟩, b1⟩
    obtain ⟨g1, c1, rfl, hg1, hg1'⟩ := cown_form ho (by have := HC.out.2.2.1; omega)
    try go_wp2_with fail
    have HB1 := Lib.hid b1
    have hB := hHeld.1.trans (b1.mono hHeld.1.size)
    have c0 := cell_later b1 hHeld.2.1
    have c1' := cell_later b1 hHeld.2.2.1
    have c2 := heap_keep b1 hHeld.2.2.2
    have HV := Lib.hid hB
    have HV0 := Lib.hid (And.intro c0 (And.intro c1' c2))
    have HO := Lib.hid ho
    refine hK.out _ _ ⟨hB, c0, c1', c2⟩ (fun hHeld => ?_)
    clear hK K hB c0 c1' c2 b1 ho hg1 hg1'
    try simp only [Act.put, List.setIfInBounds_toArray, List.set_cons_zero, List.set_cons_succ]
    refine takeD (i := 12) (d := some 9) (v := ?_) _ rfl rfl (by kernel_rfl) (by kernel_rfl) (by kernel_rfl) (fun _ _ _ h => h) (by rfl) ?_ (by assumption) ?_
    rotate_left
    · (intro w hSw; (try dsimp only at hSw); go_simp) <;> with_reducible rfl
    try simp only [Act.put, List.setIfInBounds_toArray, List.set_cons_zero, List.set_cons_succ]
    refine takeD (i := 13) (d := some 22) (v := ?_) _ rfl rfl (by kernel_rfl) (by kernel_rfl) (by kernel_rfl) (fun _ _ _ h => h) (by rfl) ?_ (by assumption) ?_
    rotate_left
    · (intro w hSw; (try dsimp only at hSw); go_simp) <;> with_reducible rfl
    try simp only [Act.put, List.setIfInBounds_toArray, List.set_cons_zero, List.set_cons_succ]
    refine takeD (i := 14) (d := some 23) (v := ?_) _ rfl rfl (by kernel_rfl) (by kernel_rfl) (by kernel_rfl) (fun _ _ _ h => h) (by rfl) ?_ (by assumption) ?_
    rotate_left
    · (intro w hSw; (try dsimp only at hSw); go_simp) <;> with_reducible rfl
    try simp only [Act.put, List.setIfInBounds_toArray, List.set_cons_zero, List.set_cons_succ]
    have hY : Hid (V1.heap[w.heap.size]? = some (.cells #[.slice none 0 0, .int .i64 0] 105 (0, 0))) := heap_keep HB1.out hY.out
    have y0 := (row_cell hY.out 0).1
    have y1 := (row_cell hY.out 1).1
    have z0 := (row_cell hY.out 0).2
    have z1 := (row_cell hY.out 1).2
    simp at y0 y1
    refine wpAnyH_ready (rs := [16]) (by kernel_rfl) (by simp) ?_
    refine AllReadyH.cons rfl (fun K hK => ?_) AllReadyH.nil
    have HQ := Lib.hid hHeld
    clear hHeld
    go_simp
    have hB2 := (HV.out.setCell (p := ⟨w.heap.size, 0, none⟩) (Nat.le_refl _) (.slice (some ⟨g1, 0, none⟩) n c1)).setCell (p := ⟨w.heap.size, 1, none⟩) (Nat.le_refl _) (.int .i64 (code : Int))
    have q0 : gm ≠ w.heap.size := by have := HLT.out; omega
    have h2 : ((V1.setCell ⟨w.heap.size, 0, none⟩ (.slice (some ⟨g1, 0, none⟩) n c1)).setCell ⟨w.heap.size, 1, none⟩ (.int .i64 (code : Int))).heap[gm]? = V1.heap[gm]? := (set_far _ _ q0).trans (set_far _ _ q0)
    have HYF : Hid (((V1.setCell ⟨w.heap.size, 0, none⟩ (.slice (some ⟨g1, 0, none⟩) n c1)).setCell ⟨w.heap.size, 1, none⟩ (.int .i64 (code : Int))).heap[w.heap.size]? = some (.cells #[.slice (some ⟨g1, 0, none⟩) n c1, .int .i64 (code : Int)] 105 (0, 0))) := by have := set_at (set_at hY.out 0 (.slice (some ⟨g1, 0, none⟩) n c1)) 1 (.int .i64 (code : Int)); unfold Hid; simpa using this
    have HOF : Hid (((V1.setCell ⟨w.heap.size, 0, none⟩ (.slice (some ⟨g1, 0, none⟩) n c1)).setCell ⟨w.heap.size, 1, none⟩ (.int .i64 (code : Int))).ownsRow w.heap.size 22 1 (.slice (some ⟨g1, 0, none⟩) n c1) n (CW (xs.set k x))) := cown_base (ownsRow_setCell_below (ownsRow_setCell_below HO.out (by show w.heap.size < _; rw [World.size_drew, World.size_alloc]; omega) _) (by show w.heap.size < _; rw [World.size_drew, World.size_alloc]; omega) _) (by rw [World.size_drew, World.size_alloc]; omega)
    refine hK.out _ _ ⟨hB2, (World.cell?_of_block h2).trans HV0.out.1, (World.cell?_of_block h2).trans HV0.out.2.1, h2.trans HV0.out.2.2⟩ (fun hHeld => ?_)
    clear hK K HQ y0 y1 z0 z1 hY hB2 h2 q0
    try simp only [Act.put, List.setIfInBounds_toArray, List.set_cons_zero, List.set_cons_succ]
    refine takeD (i := 17) (d := some 8) (v := ?_) _ rfl rfl (by kernel_rfl) (by kernel_rfl) (by kernel_rfl) (fun _ _ _ h => h) (by rfl) ?_ (by assumption) ?_
    rotate_left
    · (intro w hSw; (try dsimp only at hSw); go_simp) <;> with_reducible rfl
    try simp only [Act.put, List.setIfInBounds_toArray, List.set_cons_zero, List.set_cons_succ]
    refine wpAnyH_done (by kernel_rfl) ?_ _
    have HS5 : Hid (w.heap.size ≤ w.heap.size) := Nat.le_refl _
    have HF := Lib.hid hHeld
    clear hHeld HV HV0 HO HB1
    generalize hW5 : (V1.setCell ⟨w.heap.size, 0, none⟩ (.slice (some ⟨g1, 0, none⟩) n c1)).setCell ⟨w.heap.size, 1, none⟩ (.int .i64 (code : Int)) = W5 at HYF HOF HF ⊢
    clear hW5
    have y0 := (row_cell HYF.out 0).1
    simp at y0
    have hz0 := (row_cell HF.out.2.2.2 0).2
    have m0 := HF.out.2.1
    go_upto_region 4 with (fail)
    obtain ⟨W6, hW6⟩ : ∃ W, W5.setCell ⟨gm, 0, none⟩ (.slice (some ⟨g1, 0, none⟩) n c1) = W := ⟨_, rfl⟩
    simp only [hW6]
    have HG6 : Hid (W6.heap[gm]? = some (.cells #[.slice (some ⟨g1, 0, none⟩) n c1, .int .i64 (code : Int), .int .i64 st] 43 (0, 0))) := by rw [← hW6]; have := set_at HF.out.2.2.2 0 (.slice (some ⟨g1, 0, none⟩) n c1); unfold Hid; simpa using this
    have HO6 : Hid (W6.ownsRow w.heap.size 22 1 (.slice (some ⟨g1, 0, none⟩) n c1) n (CW (xs.set k x))) := by rw [← hW6]; exact ownsRow_setCell_below HOF.out HLT.out _
    have HP6 : Hid (Past gm w W6) := by rw [← hW6]; exact (Past.of_below HF.out.1).setCell 0 _
    clear hW6 HF HOF HYF y0 hz0 m0
    have m2 := (row_cell HG6.out 2).1
    have q2 := (row_cell HG6.out 2).2
    simp at m2
    go_upto_region 5 with (fail)
    obtain ⟨W7, hW7⟩ : ∃ W, W6.setCell ⟨gm, 2, none⟩ (.int .i64 (wrap64 (st + 1))) = W := ⟨_, rfl⟩
    simp only [hW7]
    have HG7 : Hid (W7.heap[gm]? = some (.cells #[.slice (some ⟨g1, 0, none⟩) n c1, .int .i64 (code : Int), .int .i64 (wrap64 (st + 1))] 43 (0, 0))) := by rw [← hW7]; have := set_at HG6.out 2 (.int .i64 (wrap64 (st + 1))); unfold Hid; simpa using this
    have HO7 : Hid (W7.ownsRow w.heap.size 22 1 (.slice (some ⟨g1, 0, none⟩) n c1) n (CW (xs.set k x))) := by rw [← hW7]; exact ownsRow_setCell_below HO6.out HLT.out _
    have HP7 : Hid (Past gm w W7) := by rw [← hW7]; exact HP6.out.setCell 2 _
    clear hW7 HG6 HO6 HP6 m2 q2
    go_wp2_with fail
    go_ret
    exact ⟨rfl, ⟨_, by rw [IntWalk.i64_left]; exact HG7.out, HO7.out⟩, HP7.out⟩
end Go.Proofs.YthmalhakkdjilaaDoor
