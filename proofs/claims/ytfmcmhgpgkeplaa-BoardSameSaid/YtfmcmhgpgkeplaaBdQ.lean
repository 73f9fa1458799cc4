/-
  What the reference answers: Read, Drop. Each statement bears its own conditions.
-/
import Derived.Test.YtfmcmhgpgkeplaaBdR
import Derived.Test.YtfmcmhgpgkeplaaBdB
namespace Go.Proofs.Ytfmcmhgpgkeplaa.B
open Go.RowKit Go.Proofs.Ytfmcmhgpgkeplaa.F Go.Proofs.Ytfmcmhgpgkeplaa.I
set_option linter.unusedVariables false
set_option linter.unusedSimpArgs false
set_option maxRecDepth 100000 in
set_option maxHeartbeats 4000000 in
theorem rread_shown (n : Int) (Am : Option Addr) (nm cm : Nat) (Al : Option Addr) (nl cl : Nat) (is : Bool) (id : Int) (w : World) (hi : is = true) :
    Calls Try.prog 21 #[.agg #[.int .i64 n, .slice Am nm cm, .bool is, .slice Al nl cl], .int .i64 id] w fun e w' => e = .returned (.tuple #[.agg #[.int .i64 n, .slice Am nm cm, .bool is, .slice Al nl cl], .slice Am nm cm, .bool true]) ∧ Below w.heap.size w w' := by
  subst hi
  obtain ⟨X, hX⟩ : ∃ X, w.heap.size = X := ⟨_, rfl⟩
  obtain ⟨W0, hW0⟩ : ∃ W0, (w.alloc (.cells #[.int .i64 n, .slice Am nm cm, .bool true, .slice Al nl cl] 31)).alloc (.cells #[.int .i64 0, .slice none 0 0, .bool false, .slice none 0 0] 31) = W0 := ⟨_, rfl⟩
  have B0 : Hid (Below X w W0) := by rw [← hW0, ← hX]; exact (((Below.refl _ _).alloc (Nat.le_refl _) _).alloc (by simp) _)
  have S0 : Hid (W0.heap.size = X + 2) := by unfold Hid; rw [← hW0, ← hX]; simp
  have HX0 : Hid (W0.heap[X]? = some (.cells #[.int .i64 n, .slice Am nm cm, .bool true, .slice Al nl cl] 31 (0, 0))) := by
    rw [← hW0, ← hX]; exact (((Below.refl _ _).alloc (Nat.le_refl _) _).block _ (by simp)).trans (heap_alloc_new _ _)
  have HY0 : Hid (W0.heap[X + 1]? = some (.cells #[.int .i64 0, .slice none 0 0, .bool false, .slice none 0 0] 31 (0, 0))) := by
    rw [← hW0, ← hX]; have := heap_alloc_new (w.alloc (.cells #[.int .i64 n, .slice Am nm cm, .bool true, .slice Al nl cl] 31)) (.cells #[.int .i64 0, .slice none 0 0, .bool false, .slice none 0 0] 31); unfold Hid; simpa using this
  have x0 : W0.cell? ⟨X, 0, none⟩ = some (.int .i64 n) := by rw [(row_cell HX0.out 0).1]; rfl
  have xf0 : W0.frozen? ⟨X, 0, none⟩ = false := (row_cell HX0.out 0).2
  have x1 : W0.cell? ⟨X, 1, none⟩ = some (.slice Am nm cm) := by rw [(row_cell HX0.out 1).1]; rfl
  have xf1 : W0.frozen? ⟨X, 1, none⟩ = false := (row_cell HX0.out 1).2
  have x2 : W0.cell? ⟨X, 2, none⟩ = some (.bool true) := by rw [(row_cell HX0.out 2).1]; rfl
  have xf2 : W0.frozen? ⟨X, 2, none⟩ = false := (row_cell HX0.out 2).2
  have x3 : W0.cell? ⟨X, 3, none⟩ = some (.slice Al nl cl) := by rw [(row_cell HX0.out 3).1]; rfl
  have xf3 : W0.frozen? ⟨X, 3, none⟩ = false := (row_cell HX0.out 3).2
  have y0 : W0.cell? ⟨X + 1, 0, none⟩ = some (.int .i64 0) := by rw [(row_cell HY0.out 0).1]; rfl
  have yf0 : W0.frozen? ⟨X + 1, 0, none⟩ = false := (row_cell HY0.out 0).2
  have y1 : W0.cell? ⟨X + 1, 1, none⟩ = some (.slice none 0 0) := by rw [(row_cell HY0.out 1).1]; rfl
  have yf1 : W0.frozen? ⟨X + 1, 1, none⟩ = false := (row_cell HY0.out 1).2
  have y2 : W0.cell? ⟨X + 1, 2, none⟩ = some (.bool false) := by rw [(row_cell HY0.out 2).1]; rfl
  have yf2 : W0.frozen? ⟨X + 1, 2, none⟩ = false := (row_cell HY0.out 2).2
  have y3 : W0.cell? ⟨X + 1, 3, none⟩ = some (.slice none 0 0) := by rw [(row_cell HY0.out 3).1]; rfl
  have yf3 : W0.frozen? ⟨X + 1, 3, none⟩ = false := (row_cell HY0.out 3).2
  rw [hX]
  go_enter Try.func21, Try.ntmps21
  go_wp2_with fail
  refine wp_region_held_drew (S := (fun w' => w'.cell? ⟨X, 0, none⟩ = some (.int .i64 n) ∧ w'.cell? ⟨X, 1, none⟩ = some (.slice Am nm cm) ∧ w'.cell? ⟨X, 2, none⟩ = some (.bool true) ∧ w'.cell? ⟨X, 3, none⟩ = some (.slice Al nl cl))) (by kernel_rfl) ?_ (fun hHeld => ?_)
  · exact ⟨x0, x1, x2, x3⟩
  refine takeD (i := 0) (d := some 9) (v := ?_) _ rfl rfl (by kernel_rfl) (by kernel_rfl) (by kernel_rfl) (fun _ _ _ h => h) (by rfl) ?_ (by assumption) ?_
  rotate_left
  · (intro w hSw; (try dsimp only at hSw); go_simp) <;> with_reducible rfl
  try simp only [Act.put, List.setIfInBounds_toArray, List.set_cons_zero, List.set_cons_succ]
  refine takeD (i := 1) (d := some 10) (v := ?_) _ rfl rfl (by kernel_rfl) (by kernel_rfl) (by kernel_rfl) (fun _ _ _ h => h) (by rfl) ?_ (by assumption) ?_
  rotate_left
  · (intro w hSw; (try dsimp only at hSw); go_simp) <;> with_reducible rfl
  try simp only [Act.put, List.setIfInBounds_toArray, List.set_cons_zero, List.set_cons_succ]
  refine takeD (i := 2) (d := some 11) (v := ?_) _ rfl rfl (by kernel_rfl) (by kernel_rfl) (by kernel_rfl) (fun _ _ _ h => h) (by rfl) ?_ (by assumption) ?_
  rotate_left
  · (intro w hSw; (try dsimp only at hSw); go_simp) <;> with_reducible rfl
  try simp only [Act.put, List.setIfInBounds_toArray, List.set_cons_zero, List.set_cons_succ]
  refine wpAnyH_ready (rs := [3]) (by kernel_rfl) (by simp) ?_
  refine AllReadyH.cons rfl (fun K hK => ?_) AllReadyH.nil
  try go_simp
  refine hK.out _ _ ?_ (fun hHeld => ?_)
  · exact ⟨(World.cell?_setCell_other _ _ _ _ (by simp)).trans ((World.cell?_setCell_other _ _ _ _ (by simp)).trans ((World.cell?_setCell_other _ _ _ _ (by simp)).trans ((World.cell?_setCell_other _ _ _ _ (by simp)).trans x0))), (World.cell?_setCell_other _ _ _ _ (by simp)).trans ((World.cell?_setCell_other _ _ _ _ (by simp)).trans ((World.cell?_setCell_other _ _ _ _ (by simp)).trans ((World.cell?_setCell_other _ _ _ _ (by simp)).trans x1))), (World.cell?_setCell_other _ _ _ _ (by simp)).trans ((World.cell?_setCell_other _ _ _ _ (by simp)).trans ((World.cell?_setCell_other _ _ _ _ (by simp)).trans ((World.cell?_setCell_other _ _ _ _ (by simp)).trans x2))), (World.cell?_setCell_other _ _ _ _ (by simp)).trans ((World.cell?_setCell_other _ _ _ _ (by simp)).trans ((World.cell?_setCell_other _ _ _ _ (by simp)).trans ((World.cell?_setCell_other _ _ _ _ (by simp)).trans x3)))⟩
  clear hK K
  try simp only [Act.put, List.getElem_toArray, List.getElem_cons_succ, List.getElem_cons_zero, List.setIfInBounds_toArray, List.set_cons_zero, List.set_cons_succ]
  refine takeD (i := 4) (d := some 5) (v := ?_) _ rfl rfl (by kernel_rfl) (by kernel_rfl) (by kernel_rfl) (fun _ _ _ h => h) (by rfl) ?_ (by assumption) ?_
  rotate_left
  · (intro w hSw; (try dsimp only at hSw); go_simp) <;> with_reducible rfl
  try simp only [Act.put, List.setIfInBounds_toArray, List.set_cons_zero, List.set_cons_succ]
  refine takeD (i := 5) (d := some 6) (v := ?_) _ rfl rfl (by kernel_rfl) (by kernel_rfl) (by kernel_rfl) (fun _ _ _ h => h) (by rfl) ?_ (by assumption) ?_
  rotate_left
  · (intro w hSw; (try dsimp only at hSw); go_simp) <;> with_reducible rfl
  try simp only [Act.put, List.setIfInBounds_toArray, List.set_cons_zero, List.set_cons_succ]
  refine wpAnyH_done (by kernel_rfl) ?_ _
  clear hHeld
  go_wp2_with fail
  refine bodyPost_ret (results_cell_two rfl _ _ (X + 1) _ _ rfl (set_four (w := W0.drew) HY0.out _ _ _ _) Try.underlying31 rfl (by kernel_rfl)) rfl ?_
  exact ⟨rfl, ((((B0.out.drew.setCell (by exact Nat.le_succ _) _).setCell (by exact Nat.le_succ _) _).setCell (by exact Nat.le_succ _) _).setCell (by exact Nat.le_succ _) _)⟩
set_option maxRecDepth 100000 in
set_option maxHeartbeats 4000000 in
theorem rread_new (n : Int) (Am : Option Addr) (nm cm : Nat) (Al : Option Addr) (nl cl : Nat) (is : Bool) (p : Nat → Prop) (K : List Int) (id : Int) (w : World) (hl : Sq w p (.slice Al nl cl) nl (C K)) (hk : K.length ≤ 900) (hm : id ∉ K) (hi : is = false) :
    Calls Try.prog 21 #[.agg #[.int .i64 n, .slice Am nm cm, .bool is, .slice Al nl cl], .int .i64 id] w fun e w' => ∃ v', e = .returned (.tuple #[.agg #[.int .i64 n, .slice Am nm cm, .bool is, v'], .slice none 0 0, .bool false]) ∧ Ow 3 w' (fun b => w.heap.size ≤ b) v' (K ++ [id]).length (C (K ++ [id])) ∧ Below w.heap.size w w' := by
  subst hi
  have hkl : K.length = nl := by have := hl.len; simpa [C] using this
  obtain ⟨i0, hi, hz0, hz1, hz2⟩ := info_of int_info
  obtain ⟨X, hX⟩ : ∃ X, w.heap.size = X := ⟨_, rfl⟩
  obtain ⟨W0, hW0⟩ : ∃ W0, (w.alloc (.cells #[.int .i64 n, .slice Am nm cm, .bool false, .slice Al nl cl] 31)).alloc (.cells #[.int .i64 0, .slice none 0 0, .bool false, .slice none 0 0] 31) = W0 := ⟨_, rfl⟩
  have B0 : Hid (Below X w W0) := by rw [← hW0, ← hX]; exact (((Below.refl _ _).alloc (Nat.le_refl _) _).alloc (by simp) _)
  have S0 : Hid (W0.heap.size = X + 2) := by unfold Hid; rw [← hW0, ← hX]; simp
  have HX0 : Hid (W0.heap[X]? = some (.cells #[.int .i64 n, .slice Am nm cm, .bool false, .slice Al nl cl] 31 (0, 0))) := by
    rw [← hW0, ← hX]; exact (((Below.refl _ _).alloc (Nat.le_refl _) _).block _ (by simp)).trans (heap_alloc_new _ _)
  have HY0 : Hid (W0.heap[X + 1]? = some (.cells #[.int .i64 0, .slice none 0 0, .bool false, .slice none 0 0] 31 (0, 0))) := by
    rw [← hW0, ← hX]; have := heap_alloc_new (w.alloc (.cells #[.int .i64 n, .slice Am nm cm, .bool false, .slice Al nl cl] 31)) (.cells #[.int .i64 0, .slice none 0 0, .bool false, .slice none 0 0] 31); unfold Hid; simpa using this
  have x0 : W0.cell? ⟨X, 0, none⟩ = some (.int .i64 n) := by rw [(row_cell HX0.out 0).1]; rfl
  have xf0 : W0.frozen? ⟨X, 0, none⟩ = false := (row_cell HX0.out 0).2
  have x1 : W0.cell? ⟨X, 1, none⟩ = some (.slice Am nm cm) := by rw [(row_cell HX0.out 1).1]; rfl
  have xf1 : W0.frozen? ⟨X, 1, none⟩ = false := (row_cell HX0.out 1).2
  have x2 : W0.cell? ⟨X, 2, none⟩ = some (.bool false) := by rw [(row_cell HX0.out 2).1]; rfl
  have xf2 : W0.frozen? ⟨X, 2, none⟩ = false := (row_cell HX0.out 2).2
  have x3 : W0.cell? ⟨X, 3, none⟩ = some (.slice Al nl cl) := by rw [(row_cell HX0.out 3).1]; rfl
  have xf3 : W0.frozen? ⟨X, 3, none⟩ = false := (row_cell HX0.out 3).2
  have y0 : W0.cell? ⟨X + 1, 0, none⟩ = some (.int .i64 0) := by rw [(row_cell HY0.out 0).1]; rfl
  have yf0 : W0.frozen? ⟨X + 1, 0, none⟩ = false := (row_cell HY0.out 0).2
  have y1 : W0.cell? ⟨X + 1, 1, none⟩ = some (.slice none 0 0) := by rw [(row_cell HY0.out 1).1]; rfl
  have yf1 : W0.frozen? ⟨X + 1, 1, none⟩ = false := (row_cell HY0.out 1).2
  have y2 : W0.cell? ⟨X + 1, 2, none⟩ = some (.bool false) := by rw [(row_cell HY0.out 2).1]; rfl
  have yf2 : W0.frozen? ⟨X + 1, 2, none⟩ = false := (row_cell HY0.out 2).2
  have y3 : W0.cell? ⟨X + 1, 3, none⟩ = some (.slice none 0 0) := by rw [(row_cell HY0.out 3).1]; rfl
  have yf3 : W0.frozen? ⟨X + 1, 3, none⟩ = false := (row_cell HY0.out 3).2
  have hl0 : Sq W0 p (.slice Al nl cl) nl (C K) := hl.belowP (by rw [hX]; exact B0.out)
  have CH := Lib.hid (rhas_any _ (.slice Al nl cl) K id W0 (by rw [hkl]; exact hl0) (by omega))
  have HM := Lib.hid hm
  have HK : Hid (nl ≤ 900 ∧ K.length = nl) := ⟨by omega, hkl⟩
  have RD : Hid (Reads (W0.alloc (.cells #[] 3)) W0.heap.size 1 Al nl (C K)) := (hl0.st.reads.2).alloc (Nat.le_refl _) _
  have x3a : (W0.alloc (.cells #[] 3)).cell? ⟨X, 3, none⟩ = some (.slice Al nl cl) := cell_al _ x3
  rw [hX]
  clear hl hk hm hkl hl0
  go_enter Try.func21, Try.ntmps21
  go_wp2_with fail
  refine CH.out.mono ?_
  rintro e w1 ⟨hx, hw⟩
  have hw := hw.symm
  subst hw
  rcases hx with ⟨k, _, hm, _, _⟩ | ⟨_, rfl⟩
  · exact absurd (List.mem_of_getElem? hm) HM.out
  go_wp2_with (at_builtin; refine wpList_append_any _ rfl (.tmp 17) (.tmp 19) 29 rfl W0.heap.size 3 i0 (.int .i64 0) 1 8 Try.underlying29 hi hz0 hz1 hz2 rfl (by decide) (.slice (some ⟨W0.heap.size, 0, none⟩) 0 0) 0 (C []) rfl (rowB_new W0) W0.heap.size Al nl cl (C K) rfl RD.out (C_one _) ?c2 ?c3 ?c4 ?_)
  case c2 => have := HK.out; unfold maxLen; omega
  case c3 => have := HK.out; omega
  case c4 => simp
  intro v1 w1 ho1 hg1 hb1
  have hs1 : W0.heap.size + 1 ≤ w1.heap.size := by have := hg1.size; simpa using this
  have B1 : Hid (Below W0.heap.size W0 w1) := ((Below.refl _ _).alloc (Nat.le_refl _) _).grown hg1 (by simp) (fun q hq => by have h' : some W0.heap.size = some q := hq; injection h' with h'; omega)
  have HO1 : Hid ((w1.alloc (.cells #[.int .i64 id] 3)).ownsRow W0.heap.size 3 1 v1 nl (C K)) := by
    have h1 := own_below ho1 ((Below.refl _ _).alloc (Nat.le_refl _) (.cells #[.int .i64 id] 3))
    unfold Hid
    simpa [C] using h1
  have RD1 := Lib.hid (one_row (w := w1) (.int .i64 id) 3)
  have HS1 := Lib.hid hs1
  have OB1 : Hid (∀ q, v1.ownBlock = some q → W0.heap.size ≤ q) := fun q hq => by
    rcases hb1 with hb | hb
    · rw [hb] at hq; have h' : some W0.heap.size = some q := hq; injection h' with h'; omega
    · rw [hb] at hq; injection hq with hq; rw [← hq]; simp
  clear ho1 hg1 hb1 hs1
  go_wp2_with (at_builtin; refine wpList_append_any _ rfl (.tmp 20) (.tmp 22) 29 rfl W0.heap.size 3 i0 (.int .i64 0) 1 8 Try.underlying29 hi hz0 hz1 hz2 rfl (by decide) v1 nl (C K) rfl HO1.out (w1.heap.size + 1) (some ⟨w1.heap.size, 0, none⟩) 1 1 [.int .i64 id] rfl RD1.out ?d1 ?d2 ?d3 ?d4 ?_)
  case d1 => intro u hu; simp at hu; subst hu; rfl
  case d2 => have := HK.out; unfold maxLen; omega
  case d3 => have := HK.out; omega
  case d4 => have := HS1.out; simp; omega
  intro v2 w2 ho2 hg2 hb2
  have B2 : Hid (Below W0.heap.size W0 w2) := (B1.out.alloc (by have := HS1.out; omega) _).grown hg2 (by have := HS1.out; simp; omega) (fun q hq => OB1.out q hq)
  have X2 : Hid (w2.heap[X]? = some (.cells #[.int .i64 n, .slice Am nm cm, .bool false, .slice Al nl cl] 31 (0, 0))) := (B2.out.block _ (by have := S0.out; omega)).trans HX0.out
  have Y2 : Hid (w2.heap[X + 1]? = some (.cells #[.int .i64 0, .slice none 0 0, .bool false, .slice none 0 0] 31 (0, 0))) := (B2.out.block _ (by have := S0.out; omega)).trans HY0.out
  obtain ⟨A2, c2, rfl⟩ := slice_form ho2
  obtain ⟨W3, hW3⟩ : ∃ W3, w2.setCell ⟨X, 3, none⟩ (.slice A2 (nl + 1) c2) = W3 := ⟨_, rfl⟩
  have X3 : Hid (W3.heap[X]? = some (.cells #[.int .i64 n, .slice Am nm cm, .bool false, .slice A2 (nl + 1) c2] 31 (0, 0))) := by rw [← hW3]; exact set_at X2.out 3 _
  have Y3 : Hid (W3.heap[X + 1]? = some (.cells #[.int .i64 0, .slice none 0 0, .bool false, .slice none 0 0] 31 (0, 0))) := by rw [← hW3]; exact (set_far 3 _ (by omega)).trans Y2.out
  have R3 : Hid (Ow 3 W3 (fun b => W0.heap.size ≤ b) (.slice A2 (nl + 1) c2) (K ++ [id]).length (C (K ++ [id]))) := by
    have h1 : w2.ownsRow W0.heap.size 3 1 (.slice A2 (nl + 1) c2) (K ++ [id]).length (C (K ++ [id])) := by
      rw [C_app, List.length_append, HK.out.2]; exact ho2
    rw [← hW3]
    exact ((Ow.of_own h1).keep (by simp) (fun b _ hb => set_far 3 _ (by have := S0.out; omega))).imp fun b _ h => h.2
  have B3 : Hid (Below X w W3) := by
    rw [← hW3]
    exact (B0.out.trans (B2.out.mono (by have := S0.out; omega))).setCell (Nat.le_refl _) _
  have q0 : w2.cell? ⟨X, 3, none⟩ = some (.slice Al nl cl) := by rw [(row_cell X2.out 3).1]; rfl
  have q1 : w2.frozen? ⟨X, 3, none⟩ = false := (row_cell X2.out 3).2
  have p0 : W3.cell? ⟨X, 0, none⟩ = some (.int .i64 n) := by rw [(row_cell X3.out 0).1]; rfl
  have pf0 : W3.frozen? ⟨X, 0, none⟩ = false := (row_cell X3.out 0).2
  have p1 : W3.cell? ⟨X, 1, none⟩ = some (.slice Am nm cm) := by rw [(row_cell X3.out 1).1]; rfl
  have pf1 : W3.frozen? ⟨X, 1, none⟩ = false := (row_cell X3.out 1).2
  have p2 : W3.cell? ⟨X, 2, none⟩ = some (.bool false) := by rw [(row_cell X3.out 2).1]; rfl
  have pf2 : W3.frozen? ⟨X, 2, none⟩ = false := (row_cell X3.out 2).2
  have p3 : W3.cell? ⟨X, 3, none⟩ = some (.slice A2 (nl + 1) c2) := by rw [(row_cell X3.out 3).1]; rfl
  have pf3 : W3.frozen? ⟨X, 3, none⟩ = false := (row_cell X3.out 3).2
  have s0 : W3.cell? ⟨X + 1, 0, none⟩ = some (.int .i64 0) := by rw [(row_cell Y3.out 0).1]; rfl
  have sf0 : W3.frozen? ⟨X + 1, 0, none⟩ = false := (row_cell Y3.out 0).2
  have s1 : W3.cell? ⟨X + 1, 1, none⟩ = some (.slice none 0 0) := by rw [(row_cell Y3.out 1).1]; rfl
  have sf1 : W3.frozen? ⟨X + 1, 1, none⟩ = false := (row_cell Y3.out 1).2
  have s2 : W3.cell? ⟨X + 1, 2, none⟩ = some (.bool false) := by rw [(row_cell Y3.out 2).1]; rfl
  have sf2 : W3.frozen? ⟨X + 1, 2, none⟩ = false := (row_cell Y3.out 2).2
  have s3 : W3.cell? ⟨X + 1, 3, none⟩ = some (.slice none 0 0) := by rw [(row_cell Y3.out 3).1]; rfl
  have sf3 : W3.frozen? ⟨X + 1, 3, none⟩ = false := (row_cell Y3.out 3).2
  clear ho2 hg2 hb2 HO1 RD1 B1 HS1 OB1 x0 x1 x2 x3 x3a xf0 xf1 xf2 xf3 y0 y1 y2 y3 yf0 yf1 yf2 yf3
  go_wp2_with fail
  refine bodyPost_ret (results_cell_two rfl _ _ (X + 1) _ _ rfl (set_four Y3.out _ _ _ _) Try.underlying31 rfl (by kernel_rfl)) rfl ?_
  refine ⟨_, rfl, ?_, ((((B3.out.setCell (by exact Nat.le_succ _) _).setCell (by exact Nat.le_succ _) _).setCell (by exact Nat.le_succ _) _).setCell (by exact Nat.le_succ _) _)⟩
  refine (R3.out.fo ((((((Fo.refl (fun b => b = X + 1) W3).setCell (.inl rfl) 0 _).setCell (.inl rfl) 1 _).setCell (.inl rfl) 2 _).setCell (.inl rfl) 3 _)) (fun b hb => by have := S0.out; omega)).imp fun b _ hb => ?_
  have := S0.out
  have hb : W0.heap.size ≤ b := hb
  omega
set_option maxRecDepth 100000 in
set_option maxHeartbeats 4000000 in
theorem rdrop_no (n : Int) (Am : Option Addr) (nm cm : Nat) (Al : Option Addr) (nl cl : Nat) (is : Bool) (p : Nat → Prop) (K : List Int) (id : Int) (w : World) (hl : Sq w p (.slice Al nl cl) nl (C K)) (hk : K.length ≤ 900) (hm : id ∉ K) :
    Calls Try.prog 19 #[.agg #[.int .i64 n, .slice Am nm cm, .bool is, .slice Al nl cl], .int .i64 id] w fun e w' => e = .returned (.tuple #[.agg #[.int .i64 n, .slice Am nm cm, .bool is, .slice Al nl cl], .bool false]) ∧ Below w.heap.size w w' := by
  have hkl : K.length = nl := by have := hl.len; simpa [C] using this
  obtain ⟨X, hX⟩ : ∃ X, w.heap.size = X := ⟨_, rfl⟩
  obtain ⟨W0, hW0⟩ : ∃ W0, (w.alloc (.cells #[.int .i64 n, .slice Am nm cm, .bool is, .slice Al nl cl] 31)).alloc (.cells #[.int .i64 0, .slice none 0 0, .bool false, .slice none 0 0] 31) = W0 := ⟨_, rfl⟩
  have B0 : Hid (Below X w W0) := by rw [← hW0, ← hX]; exact (((Below.refl _ _).alloc (Nat.le_refl _) _).alloc (by simp) _)
  have S0 : Hid (W0.heap.size = X + 2) := by unfold Hid; rw [← hW0, ← hX]; simp
  have HX0 : Hid (W0.heap[X]? = some (.cells #[.int .i64 n, .slice Am nm cm, .bool is, .slice Al nl cl] 31 (0, 0))) := by
    rw [← hW0, ← hX]; exact (((Below.refl _ _).alloc (Nat.le_refl _) _).block _ (by simp)).trans (heap_alloc_new _ _)
  have HY0 : Hid (W0.heap[X + 1]? = some (.cells #[.int .i64 0, .slice none 0 0, .bool false, .slice none 0 0] 31 (0, 0))) := by
    rw [← hW0, ← hX]; have := heap_alloc_new (w.alloc (.cells #[.int .i64 n, .slice Am nm cm, .bool is, .slice Al nl cl] 31)) (.cells #[.int .i64 0, .slice none 0 0, .bool false, .slice none 0 0] 31); unfold Hid; simpa using this
  have x0 : W0.cell? ⟨X, 0, none⟩ = some (.int .i64 n) := by rw [(row_cell HX0.out 0).1]; rfl
  have xf0 : W0.frozen? ⟨X, 0, none⟩ = false := (row_cell HX0.out 0).2
  have x1 : W0.cell? ⟨X, 1, none⟩ = some (.slice Am nm cm) := by rw [(row_cell HX0.out 1).1]; rfl
  have xf1 : W0.frozen? ⟨X, 1, none⟩ = false := (row_cell HX0.out 1).2
  have x2 : W0.cell? ⟨X, 2, none⟩ = some (.bool is) := by rw [(row_cell HX0.out 2).1]; rfl
  have xf2 : W0.frozen? ⟨X, 2, none⟩ = false := (row_cell HX0.out 2).2
  have x3 : W0.cell? ⟨X, 3, none⟩ = some (.slice Al nl cl) := by rw [(row_cell HX0.out 3).1]; rfl
  have xf3 : W0.frozen? ⟨X, 3, none⟩ = false := (row_cell HX0.out 3).2
  have y0 : W0.cell? ⟨X + 1, 0, none⟩ = some (.int .i64 0) := by rw [(row_cell HY0.out 0).1]; rfl
  have yf0 : W0.frozen? ⟨X + 1, 0, none⟩ = false := (row_cell HY0.out 0).2
  have y1 : W0.cell? ⟨X + 1, 1, none⟩ = some (.slice none 0 0) := by rw [(row_cell HY0.out 1).1]; rfl
  have yf1 : W0.frozen? ⟨X + 1, 1, none⟩ = false := (row_cell HY0.out 1).2
  have y2 : W0.cell? ⟨X + 1, 2, none⟩ = some (.bool false) := by rw [(row_cell HY0.out 2).1]; rfl
  have yf2 : W0.frozen? ⟨X + 1, 2, none⟩ = false := (row_cell HY0.out 2).2
  have y3 : W0.cell? ⟨X + 1, 3, none⟩ = some (.slice none 0 0) := by rw [(row_cell HY0.out 3).1]; rfl
  have yf3 : W0.frozen? ⟨X + 1, 3, none⟩ = false := (row_cell HY0.out 3).2
  have CH := Lib.hid (rhas_any _ (.slice Al nl cl) K id W0 (by rw [hkl]; exact hl.belowP (by rw [hX]; exact B0.out)) (by omega))
  have HM := Lib.hid hm
  rw [hX]
  clear hl hk hm hkl
  go_enter Try.func19, Try.ntmps19
  go_wp2_with fail
  refine CH.out.mono ?_
  rintro e w1 ⟨hx, hw⟩
  have hw := hw.symm
  subst hw
  rcases hx with ⟨k, _, hm, _, _⟩ | ⟨_, rfl⟩
  · exact absurd (List.mem_of_getElem? hm) HM.out
  go_wp2_with fail
  refine bodyPost_ret (results_cell_tmp rfl _ _ (X + 1) _ _ rfl (set_four HY0.out _ _ _ _) Try.underlying31 rfl (by kernel_rfl)) rfl ?_
  exact ⟨rfl, ((((B0.out.setCell (by exact Nat.le_succ _) _).setCell (by exact Nat.le_succ _) _).setCell (by exact Nat.le_succ _) _).setCell (by exact Nat.le_succ _) _)⟩
end Go.Proofs.Ytfmcmhgpgkeplaa.B
