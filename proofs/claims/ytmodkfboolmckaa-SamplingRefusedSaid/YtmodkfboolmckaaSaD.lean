/-
  The law's own functions: do. Each statement bears its own conditions.
-/
import Derived.Test.YtmodkfboolmckaaSaS
namespace Go.Proofs.Ytmodkfboolmckaa.Sa
open Go.RowKit Go.Proofs.Ytmodkfboolmckaa.F Go.Proofs.Ytmodkfboolmckaa.U
set_option linter.unusedVariables false
set_option linter.unusedSimpArgs false
structure WC (X : Nat) (p : Nat → Prop) (n k : Int) (has' : Bool) (nm' : Nat) (st' er : Int) (M' : List Int) (W0 : World) (s8 s9 : Value) (wx : World) : Prop where
  ex : ∃ (bz : Nat) (A' : Option Addr) (c' : Nat), s8 = .pointer (some ⟨bz, 0, none⟩) ∧ s9 = .int .i64 er ∧ Below W0.heap.size W0 wx ∧ W0.heap.size ≤ bz ∧ wx.heap[bz]? = some (.cells #[.int .i64 n, .int .i64 k, .bool has', .slice A' nm' c', .int .i64 st'] 26 (0, 0)) ∧ Sq wx (fun b => ¬ p b ∧ b ≠ X + 2) (.slice A' nm' c') nm' (CU M')
theorem fin_do {X lo g nm' : Nat} {p q : Nat → Prop} {w V w6 wF : World} {n k : Int} {has' : Bool} {M' : List Int} {st' : Int} {A' : Option Addr} {c' : Nat} (hX : w.heap.size = X) (hb : Below X w V) (hV : X + 3 ≤ V.heap.size) (hp : ∀ b, p b → b < X)
    (q6 : PV lo w6 q g n k has' M' st') (n6 : Nx p q V w6) (ff : Fo (fun b => b = X + 2) w6 wF) (hs : Sq V (fun b => ¬ p b ∧ b ≠ X + 2) (.slice A' nm' c') nm' (CU M')) :
    PV lo wF q g n k has' M' st' ∧ Sq wF (fun b => ¬ q b) (.slice A' nm' c') nm' (CU M') ∧ Nx p q w wF := by
  have hq : ∀ b, q b → b < V.heap.size → p b := fun b h1 h2 => by
    rcases n6.sub b h1 with h | h
    · exact h
    · omega
  refine ⟨q6.fo ff (fun b hb e => ?_), ?_, ⟨((Fo.of_below (by rw [hX]; exact hb)).trans n6.fo fun i hi => .inl hi).trans ff fun i hi => .inr (by omega), fun b hb2 => ?_⟩⟩
  · have := hp b (hq b hb (by omega)); omega
  · have h1 := hs.keep n6.fo.size fun b _ hb => n6.fo.block b (by omega) hb.1
    have h2 := h1.fo ff fun b hb => hb.2.2
    exact h2.imp fun b _ hb h => hb.2.2.1 (hq b h hb.2.1)
  · rcases n6.sub b hb2 with h | h
    · exact .inl h
    · exact .inr (by have := hb.size; omega)
set_option maxRecDepth 100000 in
set_option maxHeartbeats 16000000 in
theorem do_write (lo : Nat) (p : Nat → Prop) (g : Nat) (n k : Int) (has : Bool) (M : List Int) (st : Int) (Am : Option Addr) (nm cm : Nat) (Ak : Option Addr) (nk ck j : Nat) (kd now er : Int) (has' : Bool) (M' : List Int) (nm' : Nat) (st' : Int) (w : World)
    (h : PV lo w p g n k has M st) (hk : (IntKind.u64.wrap kd).tmod 3 = 0)
    (cf : ∀ W, Calls Try.prog 24 #[.slice Ak nk ck] W fun e w' => e = .returned (.slice Ak j ck) ∧ w' = W)
    (cr : ∀ W, Below w.heap.size w W → Calls Try.prog 25 #[.agg #[.int .i64 n, .int .i64 k, .bool has, .slice Am nm cm, .int .i64 st], .int .i64 now, .slice Ak j ck] W fun e w' => ∃ A' c', e = .returned (.tuple #[.agg #[.int .i64 n, .int .i64 k, .bool has', .slice A' nm' c', .int .i64 st'], .int .i64 er]) ∧ Sq w' (fun b => ¬ p b ∧ (b < w.heap.size ∨ W.heap.size ≤ b)) (.slice A' nm' c') nm' (CU M') ∧ Below W.heap.size W w')
    (cp : ∀ W, Below w.heap.size w W → Calls Try.prog 13 #[.pointer (some ⟨g, 0, none⟩), .int .i64 now, .slice Ak j ck] W fun e w' => ∃ q, e = .returned (.int .i64 er) ∧ PV lo w' q g n k has' M' st' ∧ Nx p q W w') :
    Calls Try.prog 11 #[.pointer (some ⟨g, 0, none⟩), .agg #[.int .i64 n, .int .i64 k, .bool has, .slice Am nm cm, .int .i64 st], .agg #[.int .i64 kd, .int .i64 now, .slice Ak nk ck]] w fun e w' => ∃ q A' c', e = .returned (.tuple #[.agg #[.int .i64 n, .int .i64 k, .bool has', .slice A' nm' c', .int .i64 st'], .bool true]) ∧ PV lo w' q g n k has' M' st' ∧ Sq w' (fun b => ¬ q b) (.slice A' nm' c') nm' (CU M') ∧ Nx p q w w' := by
  obtain ⟨X, hX⟩ : ∃ X, w.heap.size = X := ⟨_, rfl⟩
  obtain ⟨W0, hW0⟩ : ∃ W0, ((w.alloc (.cells #[.int .i64 n, .int .i64 k, .bool has, .slice Am nm cm, .int .i64 st] 26)).alloc (.cells #[.int .i64 kd, .int .i64 now, .slice Ak nk ck] 33)).alloc (.cells #[.int .i64 0, .int .i64 0, .bool false, .slice none 0 0, .int .i64 0] 26) = W0 := ⟨_, rfl⟩
  have B0 : Hid (Below X w W0) := by rw [← hW0, ← hX]; exact ((((Below.refl _ _).alloc (Nat.le_refl _) _).alloc (by simp) _).alloc (by simp; omega) _)
  have S0 : Hid (W0.heap.size = X + 3) := by unfold Hid; rw [← hW0, ← hX]; simp
  have HX0 : Hid (W0.heap[X]? = some (.cells #[.int .i64 n, .int .i64 k, .bool has, .slice Am nm cm, .int .i64 st] 26 (0, 0))) := by
    rw [← hW0, ← hX]; exact (heap_old _ _ (by simp; omega)).trans ((heap_old _ _ (by simp)).trans (heap_alloc_new _ _))
  have HP0 : Hid (W0.heap[X + 1]? = some (.cells #[.int .i64 kd, .int .i64 now, .slice Ak nk ck] 33 (0, 0))) := by
    rw [← hW0, ← hX]; have := heap_alloc_new (w.alloc (.cells #[.int .i64 n, .int .i64 k, .bool has, .slice Am nm cm, .int .i64 st] 26)) (.cells #[.int .i64 kd, .int .i64 now, .slice Ak nk ck] 33); unfold Hid; exact (heap_old _ _ (by simp)).trans (by simpa using this)
  have HZ0 : Hid (W0.heap[X + 2]? = some (.cells #[.int .i64 0, .int .i64 0, .bool false, .slice none 0 0, .int .i64 0] 26 (0, 0))) := by
    rw [← hW0, ← hX]; have := heap_alloc_new ((w.alloc (.cells #[.int .i64 n, .int .i64 k, .bool has, .slice Am nm cm, .int .i64 st] 26)).alloc (.cells #[.int .i64 kd, .int .i64 now, .slice Ak nk ck] 33)) (.cells #[.int .i64 0, .int .i64 0, .bool false, .slice none 0 0, .int .i64 0] 26); unfold Hid; simpa using this
  have hpx : Hid (∀ b, p b → b < X) := fun b hb => by have := (h.low b hb).2; omega
  have HPP : Hid (∀ b, X ≤ b → ¬ p b) := fun b hb hq => by have := hpx.out b hq; omega
  have B0w : Below w.heap.size w W0 := by rw [hX]; exact B0.out
  have CF := Lib.hid cf
  have CR : Hid (∀ W, Below W0.heap.size W0 W → Calls Try.prog 25 #[.agg #[.int .i64 n, .int .i64 k, .bool has, .slice Am nm cm, .int .i64 st], .int .i64 now, .slice Ak j ck] W fun e w' => ∃ A' c', e = .returned (.tuple #[.agg #[.int .i64 n, .int .i64 k, .bool has', .slice A' nm' c', .int .i64 st'], .int .i64 er]) ∧ Sq w' (fun b => ¬ p b ∧ (b < X ∨ W.heap.size ≤ b)) (.slice A' nm' c') nm' (CU M') ∧ Below W.heap.size W w') := fun W hb => by
    have := cr W (B0w.trans (hb.mono B0w.size))
    rw [hX] at this; exact this
  have CP : Hid (∀ W, Below W0.heap.size W0 W → Calls Try.prog 13 #[.pointer (some ⟨g, 0, none⟩), .int .i64 now, .slice Ak j ck] W fun e w' => ∃ q, e = .returned (.int .i64 er) ∧ PV lo w' q g n k has' M' st' ∧ Nx p q W w') := fun W hb => cp W (B0w.trans (hb.mono B0w.size))
  have her : (er == er) = true := by simp
  have x0 : W0.cell? ⟨X, 0, none⟩ = some (.int .i64 n) := by rw [(row_cell HX0.out 0).1]; rfl
  have x1 : W0.cell? ⟨X, 1, none⟩ = some (.int .i64 k) := by rw [(row_cell HX0.out 1).1]; rfl
  have x2 : W0.cell? ⟨X, 2, none⟩ = some (.bool has) := by rw [(row_cell HX0.out 2).1]; rfl
  have x3 : W0.cell? ⟨X, 3, none⟩ = some (.slice Am nm cm) := by rw [(row_cell HX0.out 3).1]; rfl
  have x4 : W0.cell? ⟨X, 4, none⟩ = some (.int .i64 st) := by rw [(row_cell HX0.out 4).1]; rfl
  have p0 : W0.cell? ⟨X + 1, 0, none⟩ = some (.int .i64 kd) := by rw [(row_cell HP0.out 0).1]; rfl
  have p1 : W0.cell? ⟨X + 1, 1, none⟩ = some (.int .i64 now) := by rw [(row_cell HP0.out 1).1]; rfl
  have p2 : W0.cell? ⟨X + 1, 2, none⟩ = some (.slice Ak nk ck) := by rw [(row_cell HP0.out 2).1]; rfl
  clear h cf cr cp B0w
  go_enter Try.func11, Try.ntmps11
  go_wp2_with fail
  go_cut [8, 9] (fun s8 s9 wx => WC X p n k has' nm' st' er M' W0 s8 s9 wx)
  case first =>
    refine wp_region_held_drew (S := (fun w' => w'.cell? ⟨X, 0, none⟩ = some (.int .i64 n) ∧ w'.cell? ⟨X, 1, none⟩ = some (.int .i64 k) ∧ w'.cell? ⟨X, 2, none⟩ = some (.bool has) ∧ w'.cell? ⟨X, 3, none⟩ = some (.slice Am nm cm) ∧ w'.cell? ⟨X, 4, none⟩ = some (.int .i64 st) ∧ w'.cell? ⟨X + 1, 1, none⟩ = some (.int .i64 now) ∧ w'.cell? ⟨X + 1, 2, none⟩ = some (.slice Ak nk ck))) (by kernel_rfl) ?_ (fun hHeld => ?_)
    · exact ⟨x0, x1, x2, x3, x4, p1, p2⟩
    have BB_V : Hid (Below W0.heap.size W0 W0.drew) := (Below.refl _ _).drew
    clear x0 x1 x2 x3 x4 p0 p1 p2
    refine takeD (i := 0) (d := some 24) (v := ?_) _ rfl rfl (by kernel_rfl) (by kernel_rfl) (by kernel_rfl) (fun _ _ _ h => h) (by rfl) ?_ (by assumption) ?_
    rotate_left
    · (intro w hSw; (try dsimp only at hSw); go_simp) <;> with_reducible rfl
    try simp only [Act.put, List.setIfInBounds_toArray, List.set_cons_zero, List.set_cons_succ]
    refine takeD (i := 1) (d := some 25) (v := ?_) _ rfl rfl (by kernel_rfl) (by kernel_rfl) (by kernel_rfl) (fun _ _ _ h => h) (by rfl) ?_ (by assumption) ?_
    rotate_left
    · (intro w hSw; (try dsimp only at hSw); go_simp) <;> with_reducible rfl
    try simp only [Act.put, List.setIfInBounds_toArray, List.set_cons_zero, List.set_cons_succ]
    refine takeD (i := 2) (d := some 26) (v := ?_) _ rfl rfl (by kernel_rfl) (by kernel_rfl) (by kernel_rfl) (fun _ _ _ h => h) (by rfl) ?_ (by assumption) ?_
    rotate_left
    · (intro w hSw; (try dsimp only at hSw); go_simp) <;> with_reducible rfl
    try simp only [Act.put, List.setIfInBounds_toArray, List.set_cons_zero, List.set_cons_succ]
    refine takeD (i := 3) (d := some 27) (v := ?_) _ rfl rfl (by kernel_rfl) (by kernel_rfl) (by kernel_rfl) (fun _ _ _ h => h) (by rfl) ?_ (by assumption) ?_
    rotate_left
    · (intro w hSw; (try dsimp only at hSw); go_simp) <;> with_reducible rfl
    try simp only [Act.put, List.setIfInBounds_toArray, List.set_cons_zero, List.set_cons_succ]
    refine takeD (i := 4) (d := some 28) (v := ?_) _ rfl rfl (by kernel_rfl) (by kernel_rfl) (by kernel_rfl) (fun _ _ _ h => h) (by rfl) ?_ (by assumption) ?_
    rotate_left
    · (intro w hSw; (try dsimp only at hSw); go_simp) <;> with_reducible rfl
    try simp only [Act.put, List.setIfInBounds_toArray, List.set_cons_zero, List.set_cons_succ]
    obtain ⟨V, hV⟩ : ∃ V, W0.drew = V := ⟨_, rfl⟩
    rw [hV] at BB_V hHeld
    simp only [hV]
    clear hV
    refine wpAnyH_ready (rs := [5, 10]) (by kernel_rfl) (by simp) ?_
    refine AllReadyH.cons rfl (fun K hK => ?_) (AllReadyH.cons rfl (fun K hK => ?_) (AllReadyH.nil))
    · try go_simp
      go_at_call 24
      refine (CF.out _).mono ?_
      rintro e wf ⟨rfl, hw⟩
      have hw := hw.symm
      subst hw
      try go_wp2_with fail
      refine hK.out _ _ hHeld (fun hHeld => ?_)
      clear hK K
      try simp only [Act.put, List.getElem_toArray, List.getElem_cons_succ, List.getElem_cons_zero, List.setIfInBounds_toArray, List.set_cons_zero, List.set_cons_succ]
      refine wpAnyH_ready (rs := [6, 10]) (by kernel_rfl) (by simp) ?_
      refine AllReadyH.cons rfl (fun K hK => ?_) (AllReadyH.cons rfl (fun K hK => ?_) (AllReadyH.nil))
      · try go_simp
        go_at_call 25
        refine (CR.out _ BB_V.out).mono ?_
        rintro e Vb ⟨A', c', rfl, s_Vb, b_Vb⟩
        have BB_Vb : Hid (Below W0.heap.size W0 Vb) := BB_V.out.trans (b_Vb.mono BB_V.out.size)
        have SS : Hid (Sq Vb (fun b => ¬ p b ∧ b ≠ X + 2) (.slice A' nm' c') nm' (CU M')) := s_Vb.imp fun b _ hb => by have h1 := BB_V.out.size; have h2 := S0.out; exact ⟨hb.1, by rcases hb.2 with h | h <;> omega⟩
        try go_wp2_with fail
        refine hK.out _ _ ⟨cell_later b_Vb hHeld.1, cell_later b_Vb hHeld.2.1, cell_later b_Vb hHeld.2.2.1, cell_later b_Vb hHeld.2.2.2.1, cell_later b_Vb hHeld.2.2.2.2.1, cell_later b_Vb hHeld.2.2.2.2.2.1, cell_later b_Vb hHeld.2.2.2.2.2.2⟩ (fun hHeld => ?_)
        clear s_Vb b_Vb
        clear hK K
        try simp only [Act.put, List.getElem_toArray, List.getElem_cons_succ, List.getElem_cons_zero, List.setIfInBounds_toArray, List.set_cons_zero, List.set_cons_succ]
        refine takeD (i := 7) (d := some 23) (v := ?_) _ rfl rfl (by kernel_rfl) (by kernel_rfl) (by kernel_rfl) (fun _ _ _ h => h) (by rfl) ?_ (by assumption) ?_
        rotate_left
        · (intro w hSw; (try dsimp only at hSw); go_simp) <;> with_reducible rfl
        try simp only [Act.put, List.setIfInBounds_toArray, List.set_cons_zero, List.set_cons_succ]
        refine takeD (i := 8) (d := some 31) (v := ?_) _ rfl rfl (by kernel_rfl) (by kernel_rfl) (by kernel_rfl) (fun _ _ _ h => h) (by rfl) ?_ (by assumption) ?_
        rotate_left
        · (intro w hSw; (try dsimp only at hSw); go_simp) <;> with_reducible rfl
        try simp only [Act.put, List.setIfInBounds_toArray, List.set_cons_zero, List.set_cons_succ]
        refine takeD (i := 9) (d := some 32) (v := ?_) _ rfl rfl (by kernel_rfl) (by kernel_rfl) (by kernel_rfl) (fun _ _ _ h => h) (by rfl) ?_ (by assumption) ?_
        rotate_left
        · (intro w hSw; (try dsimp only at hSw); go_simp) <;> with_reducible rfl
        try simp only [Act.put, List.setIfInBounds_toArray, List.set_cons_zero, List.set_cons_succ]
        refine wpAnyH_ready (rs := [10]) (by kernel_rfl) (by simp) ?_
        refine AllReadyH.cons rfl (fun K hK => ?_) (AllReadyH.nil)
        · have hal := And.intro (cell_al (.cells #[.int .i64 0, .int .i64 0, .bool false, .slice none 0 0, .int .i64 0] 26) hHeld.1) (And.intro (cell_al (.cells #[.int .i64 0, .int .i64 0, .bool false, .slice none 0 0, .int .i64 0] 26) hHeld.2.1) (And.intro (cell_al (.cells #[.int .i64 0, .int .i64 0, .bool false, .slice none 0 0, .int .i64 0] 26) hHeld.2.2.1) (And.intro (cell_al (.cells #[.int .i64 0, .int .i64 0, .bool false, .slice none 0 0, .int .i64 0] 26) hHeld.2.2.2.1) (And.intro (cell_al (.cells #[.int .i64 0, .int .i64 0, .bool false, .slice none 0 0, .int .i64 0] 26) hHeld.2.2.2.2.1) (And.intro (cell_al (.cells #[.int .i64 0, .int .i64 0, .bool false, .slice none 0 0, .int .i64 0] 26) hHeld.2.2.2.2.2.1) (cell_al (.cells #[.int .i64 0, .int .i64 0, .bool false, .slice none 0 0, .int .i64 0] 26) hHeld.2.2.2.2.2.2))))))
          obtain ⟨Vba, h_Vba⟩ : ∃ W, Vb.alloc (.cells #[.int .i64 0, .int .i64 0, .bool false, .slice none 0 0, .int .i64 0] 26) = W := ⟨_, rfl⟩
          obtain ⟨bz, h_bz⟩ : ∃ vb, Vb.heap.size = vb := ⟨_, rfl⟩
          rw [h_Vba] at hal
          have BB_Vba : Hid (Below W0.heap.size W0 Vba) := by unfold Hid; rw [← h_Vba]; exact BB_Vb.out.alloc BB_Vb.out.size _
          have VV_Vba : Hid (Vba.heap[bz]? = some (.cells #[.int .i64 0, .int .i64 0, .bool false, .slice none 0 0, .int .i64 0] 26 (0, 0)) ∧ W0.heap.size ≤ bz) := by unfold Hid; rw [← h_Vba, ← h_bz]; exact ⟨heap_alloc_new _ _, BB_Vb.out.size⟩
          have SS : Hid (Sq Vba (fun b => (¬ p b ∧ b ≠ X + 2) ∧ b ≠ bz) (.slice A' nm' c') nm' (CU M')) := by unfold Hid; rw [← h_Vba, ← h_bz]; exact (SS.out.below ((Below.refl _ _).alloc (Nat.le_refl _) _)).imp fun b _ hb => ⟨hb.2, by omega⟩
          try go_simp
          try rw [h_Vba]
          try rw [h_bz]
          refine hK.out _ _ hal (fun hHeld => ?_)
          clear h_Vba h_bz hal
          clear hK K
          try simp only [Act.put, List.getElem_toArray, List.getElem_cons_succ, List.getElem_cons_zero, List.setIfInBounds_toArray, List.set_cons_zero, List.set_cons_succ]
          have z0 : Vba.cell? ⟨bz, 0, none⟩ = some (.int .i64 0) := by rw [(row_cell VV_Vba.out.1 0).1]; rfl
          have zf0 : Vba.frozen? ⟨bz, 0, none⟩ = false := (row_cell VV_Vba.out.1 0).2
          have z1 : Vba.cell? ⟨bz, 1, none⟩ = some (.int .i64 0) := by rw [(row_cell VV_Vba.out.1 1).1]; rfl
          have zf1 : Vba.frozen? ⟨bz, 1, none⟩ = false := (row_cell VV_Vba.out.1 1).2
          have z2 : Vba.cell? ⟨bz, 2, none⟩ = some (.bool false) := by rw [(row_cell VV_Vba.out.1 2).1]; rfl
          have zf2 : Vba.frozen? ⟨bz, 2, none⟩ = false := (row_cell VV_Vba.out.1 2).2
          have z3 : Vba.cell? ⟨bz, 3, none⟩ = some (.slice none 0 0) := by rw [(row_cell VV_Vba.out.1 3).1]; rfl
          have zf3 : Vba.frozen? ⟨bz, 3, none⟩ = false := (row_cell VV_Vba.out.1 3).2
          have z4 : Vba.cell? ⟨bz, 4, none⟩ = some (.int .i64 0) := by rw [(row_cell VV_Vba.out.1 4).1]; rfl
          have zf4 : Vba.frozen? ⟨bz, 4, none⟩ = false := (row_cell VV_Vba.out.1 4).2
          have hz : Hid ((((((Vba.setCell ⟨bz, 0, none⟩ (.int .i64 n)).setCell ⟨bz, 1, none⟩ (.int .i64 k)).setCell ⟨bz, 2, none⟩ (.bool has')).setCell ⟨bz, 3, none⟩ (.slice A' nm' c')).setCell ⟨bz, 4, none⟩ (.int .i64 st')).heap[bz]? = some (.cells #[.int .i64 n, .int .i64 k, .bool has', .slice A' nm' c', .int .i64 st'] 26 (0, 0))) := by
            unfold Hid
            have := set_at (set_at (set_at (set_at (set_at VV_Vba.out.1 0 (.int .i64 n)) 1 (.int .i64 k)) 2 (.bool has')) 3 (.slice A' nm' c')) 4 (.int .i64 st')
            exact this
          have hzB : Hid (Below W0.heap.size W0 (((((Vba.setCell ⟨bz, 0, none⟩ (.int .i64 n)).setCell ⟨bz, 1, none⟩ (.int .i64 k)).setCell ⟨bz, 2, none⟩ (.bool has')).setCell ⟨bz, 3, none⟩ (.slice A' nm' c')).setCell ⟨bz, 4, none⟩ (.int .i64 st'))) := ((((BB_Vba.out.setCell VV_Vba.out.2 _).setCell VV_Vba.out.2 _).setCell VV_Vba.out.2 _).setCell VV_Vba.out.2 _).setCell VV_Vba.out.2 _
          have hzF : Fo (fun b => b = bz) Vba (((((Vba.setCell ⟨bz, 0, none⟩ (.int .i64 n)).setCell ⟨bz, 1, none⟩ (.int .i64 k)).setCell ⟨bz, 2, none⟩ (.bool has')).setCell ⟨bz, 3, none⟩ (.slice A' nm' c')).setCell ⟨bz, 4, none⟩ (.int .i64 st')) := (((((Fo.refl (fun b => b = bz) Vba).setCell (.inl rfl) 0 _).setCell (.inl rfl) 1 _).setCell (.inl rfl) 2 _).setCell (.inl rfl) 3 _).setCell (.inl rfl) 4 _
          have hzS : Hid (Sq (((((Vba.setCell ⟨bz, 0, none⟩ (.int .i64 n)).setCell ⟨bz, 1, none⟩ (.int .i64 k)).setCell ⟨bz, 2, none⟩ (.bool has')).setCell ⟨bz, 3, none⟩ (.slice A' nm' c')).setCell ⟨bz, 4, none⟩ (.int .i64 st')) (fun b => ¬ p b ∧ b ≠ X + 2) (.slice A' nm' c') nm' (CU M')) := (SS.out.fo hzF fun b hb => hb.2).imp fun b _ hb => hb.2.1
          have hx2 := And.intro ((hzF.cell (by have h5 := VV_Vba.out.2; have h6 := S0.out; intro h7; have h8 : X = bz := h7; omega) hHeld.1)) (And.intro ((hzF.cell (by have h5 := VV_Vba.out.2; have h6 := S0.out; intro h7; have h8 : X = bz := h7; omega) hHeld.2.1)) (And.intro ((hzF.cell (by have h5 := VV_Vba.out.2; have h6 := S0.out; intro h7; have h8 : X = bz := h7; omega) hHeld.2.2.1)) (And.intro ((hzF.cell (by have h5 := VV_Vba.out.2; have h6 := S0.out; intro h7; have h8 : X = bz := h7; omega) hHeld.2.2.2.1)) (And.intro ((hzF.cell (by have h5 := VV_Vba.out.2; have h6 := S0.out; intro h7; have h8 : X = bz := h7; omega) hHeld.2.2.2.2.1)) (And.intro ((hzF.cell (by have h5 := VV_Vba.out.2; have h6 := S0.out; intro h7; have h8 : X + 1 = bz := h7; omega) hHeld.2.2.2.2.2.1)) ((hzF.cell (by have h5 := VV_Vba.out.2; have h6 := S0.out; intro h7; have h8 : X + 1 = bz := h7; omega) hHeld.2.2.2.2.2.2)))))))
          clear hzF
          refine wpAnyH_ready (rs := [11]) (by kernel_rfl) (by simp) ?_
          refine AllReadyH.cons rfl (fun K hK => ?_) AllReadyH.nil
          try go_simp
          refine hK.out _ _ hx2 (fun hHeld => ?_)
          clear hK K
          try simp only [Act.put, List.getElem_toArray, List.getElem_cons_succ, List.getElem_cons_zero, List.setIfInBounds_toArray, List.set_cons_zero, List.set_cons_succ]
          refine takeD (i := 12) (d := some 9) (v := ?_) _ rfl rfl (by kernel_rfl) (by kernel_rfl) (by kernel_rfl) (fun _ _ _ h => h) (by rfl) ?_ (by assumption) ?_
          rotate_left
          · (intro w hSw; (try dsimp only at hSw); go_simp) <;> with_reducible rfl
          try simp only [Act.put, List.setIfInBounds_toArray, List.set_cons_zero, List.set_cons_succ]
          refine wpAnyH_done (by kernel_rfl) ?_ _
          have VB := VV_Vba.out.2
          clear hHeld hx2 z0 z1 z2 z3 z4 zf0 zf1 zf2 zf3 zf4
          go_wp2_with fail
          go_meet
          case rel => exact ⟨⟨bz, A', c', rfl, rfl, hzB.out, VB, hz.out, hzS.out⟩⟩
      · have hal := And.intro (cell_al (.cells #[.int .i64 0, .int .i64 0, .bool false, .slice none 0 0, .int .i64 0] 26) hHeld.1) (And.intro (cell_al (.cells #[.int .i64 0, .int .i64 0, .bool false, .slice none 0 0, .int .i64 0] 26) hHeld.2.1) (And.intro (cell_al (.cells #[.int .i64 0, .int .i64 0, .bool false, .slice none 0 0, .int .i64 0] 26) hHeld.2.2.1) (And.intro (cell_al (.cells #[.int .i64 0, .int .i64 0, .bool false, .slice none 0 0, .int .i64 0] 26) hHeld.2.2.2.1) (And.intro (cell_al (.cells #[.int .i64 0, .int .i64 0, .bool false, .slice none 0 0, .int .i64 0] 26) hHeld.2.2.2.2.1) (And.intro (cell_al (.cells #[.int .i64 0, .int .i64 0, .bool false, .slice none 0 0, .int .i64 0] 26) hHeld.2.2.2.2.2.1) (cell_al (.cells #[.int .i64 0, .int .i64 0, .bool false, .slice none 0 0, .int .i64 0] 26) hHeld.2.2.2.2.2.2))))))
        obtain ⟨Va, h_Va⟩ : ∃ W, V.alloc (.cells #[.int .i64 0, .int .i64 0, .bool false, .slice none 0 0, .int .i64 0] 26) = W := ⟨_, rfl⟩
        obtain ⟨bz, h_bz⟩ : ∃ vb, V.heap.size = vb := ⟨_, rfl⟩
        rw [h_Va] at hal
        have BB_Va : Hid (Below W0.heap.size W0 Va) := by unfold Hid; rw [← h_Va]; exact BB_V.out.alloc BB_V.out.size _
        have VV_Va : Hid (Va.heap[bz]? = some (.cells #[.int .i64 0, .int .i64 0, .bool false, .slice none 0 0, .int .i64 0] 26 (0, 0)) ∧ W0.heap.size ≤ bz) := by unfold Hid; rw [← h_Va, ← h_bz]; exact ⟨heap_alloc_new _ _, BB_V.out.size⟩
        try go_simp
        try rw [h_Va]
        try rw [h_bz]
        refine hK.out _ _ hal (fun hHeld => ?_)
        clear h_Va h_bz hal
        clear hK K
        try simp only [Act.put, List.getElem_toArray, List.getElem_cons_succ, List.getElem_cons_zero, List.setIfInBounds_toArray, List.set_cons_zero, List.set_cons_succ]
        refine wpAnyH_ready (rs := [6]) (by kernel_rfl) (by simp) ?_
        refine AllReadyH.cons rfl (fun K hK => ?_) (AllReadyH.nil)
        · try go_simp
          go_at_call 25
          refine (CR.out _ BB_Va.out).mono ?_
          rintro e Vab ⟨A', c', rfl, s_Vab, b_Vab⟩
          have BB_Vab : Hid (Below W0.heap.size W0 Vab) := BB_Va.out.trans (b_Vab.mono BB_Va.out.size)
          have VV_Vab : Hid (Vab.heap[bz]? = some (.cells #[.int .i64 0, .int .i64 0, .bool false, .slice none 0 0, .int .i64 0] 26 (0, 0)) ∧ W0.heap.size ≤ bz) := ⟨(b_Vab.block bz (Array.getElem?_eq_some_iff.1 VV_Va.out.1).1).trans VV_Va.out.1, VV_Va.out.2⟩
          have SS : Hid (Sq Vab (fun b => (¬ p b ∧ b ≠ X + 2) ∧ b ≠ bz) (.slice A' nm' c') nm' (CU M')) := s_Vab.imp fun b _ hb => by have h1 := BB_Va.out.size; have h2 := S0.out; have h3 := VV_Va.out.2; have h4 := (Array.getElem?_eq_some_iff.1 VV_Va.out.1).1; exact ⟨⟨hb.1, by rcases hb.2 with h | h <;> omega⟩, by rcases hb.2 with h | h <;> omega⟩
          try go_wp2_with fail
          refine hK.out _ _ ⟨cell_later b_Vab hHeld.1, cell_later b_Vab hHeld.2.1, cell_later b_Vab hHeld.2.2.1, cell_later b_Vab hHeld.2.2.2.1, cell_later b_Vab hHeld.2.2.2.2.1, cell_later b_Vab hHeld.2.2.2.2.2.1, cell_later b_Vab hHeld.2.2.2.2.2.2⟩ (fun hHeld => ?_)
          clear s_Vab b_Vab
          clear hK K
          try simp only [Act.put, List.getElem_toArray, List.getElem_cons_succ, List.getElem_cons_zero, List.setIfInBounds_toArray, List.set_cons_zero, List.set_cons_succ]
          refine takeD (i := 7) (d := some 23) (v := ?_) _ rfl rfl (by kernel_rfl) (by kernel_rfl) (by kernel_rfl) (fun _ _ _ h => h) (by rfl) ?_ (by assumption) ?_
          rotate_left
          · (intro w hSw; (try dsimp only at hSw); go_simp) <;> with_reducible rfl
          try simp only [Act.put, List.setIfInBounds_toArray, List.set_cons_zero, List.set_cons_succ]
          refine takeD (i := 8) (d := some 31) (v := ?_) _ rfl rfl (by kernel_rfl) (by kernel_rfl) (by kernel_rfl) (fun _ _ _ h => h) (by rfl) ?_ (by assumption) ?_
          rotate_left
          · (intro w hSw; (try dsimp only at hSw); go_simp) <;> with_reducible rfl
          try simp only [Act.put, List.setIfInBounds_toArray, List.set_cons_zero, List.set_cons_succ]
          refine takeD (i := 9) (d := some 32) (v := ?_) _ rfl rfl (by kernel_rfl) (by kernel_rfl) (by kernel_rfl) (fun _ _ _ h => h) (by rfl) ?_ (by assumption) ?_
          rotate_left
          · (intro w hSw; (try dsimp only at hSw); go_simp) <;> with_reducible rfl
          try simp only [Act.put, List.setIfInBounds_toArray, List.set_cons_zero, List.set_cons_succ]
          have z0 : Vab.cell? ⟨bz, 0, none⟩ = some (.int .i64 0) := by rw [(row_cell VV_Vab.out.1 0).1]; rfl
          have zf0 : Vab.frozen? ⟨bz, 0, none⟩ = false := (row_cell VV_Vab.out.1 0).2
          have z1 : Vab.cell? ⟨bz, 1, none⟩ = some (.int .i64 0) := by rw [(row_cell VV_Vab.out.1 1).1]; rfl
          have zf1 : Vab.frozen? ⟨bz, 1, none⟩ = false := (row_cell VV_Vab.out.1 1).2
          have z2 : Vab.cell? ⟨bz, 2, none⟩ = some (.bool false) := by rw [(row_cell VV_Vab.out.1 2).1]; rfl
          have zf2 : Vab.frozen? ⟨bz, 2, none⟩ = false := (row_cell VV_Vab.out.1 2).2
          have z3 : Vab.cell? ⟨bz, 3, none⟩ = some (.slice none 0 0) := by rw [(row_cell VV_Vab.out.1 3).1]; rfl
          have zf3 : Vab.frozen? ⟨bz, 3, none⟩ = false := (row_cell VV_Vab.out.1 3).2
          have z4 : Vab.cell? ⟨bz, 4, none⟩ = some (.int .i64 0) := by rw [(row_cell VV_Vab.out.1 4).1]; rfl
          have zf4 : Vab.frozen? ⟨bz, 4, none⟩ = false := (row_cell VV_Vab.out.1 4).2
          have hz : Hid ((((((Vab.setCell ⟨bz, 0, none⟩ (.int .i64 n)).setCell ⟨bz, 1, none⟩ (.int .i64 k)).setCell ⟨bz, 2, none⟩ (.bool has')).setCell ⟨bz, 3, none⟩ (.slice A' nm' c')).setCell ⟨bz, 4, none⟩ (.int .i64 st')).heap[bz]? = some (.cells #[.int .i64 n, .int .i64 k, .bool has', .slice A' nm' c', .int .i64 st'] 26 (0, 0))) := by
            unfold Hid
            have := set_at (set_at (set_at (set_at (set_at VV_Vab.out.1 0 (.int .i64 n)) 1 (.int .i64 k)) 2 (.bool has')) 3 (.slice A' nm' c')) 4 (.int .i64 st')
            exact this
          have hzB : Hid (Below W0.heap.size W0 (((((Vab.setCell ⟨bz, 0, none⟩ (.int .i64 n)).setCell ⟨bz, 1, none⟩ (.int .i64 k)).setCell ⟨bz, 2, none⟩ (.bool has')).setCell ⟨bz, 3, none⟩ (.slice A' nm' c')).setCell ⟨bz, 4, none⟩ (.int .i64 st'))) := ((((BB_Vab.out.setCell VV_Vab.out.2 _).setCell VV_Vab.out.2 _).setCell VV_Vab.out.2 _).setCell VV_Vab.out.2 _).setCell VV_Vab.out.2 _
          have hzF : Fo (fun b => b = bz) Vab (((((Vab.setCell ⟨bz, 0, none⟩ (.int .i64 n)).setCell ⟨bz, 1, none⟩ (.int .i64 k)).setCell ⟨bz, 2, none⟩ (.bool has')).setCell ⟨bz, 3, none⟩ (.slice A' nm' c')).setCell ⟨bz, 4, none⟩ (.int .i64 st')) := (((((Fo.refl (fun b => b = bz) Vab).setCell (.inl rfl) 0 _).setCell (.inl rfl) 1 _).setCell (.inl rfl) 2 _).setCell (.inl rfl) 3 _).setCell (.inl rfl) 4 _
          have hzS : Hid (Sq (((((Vab.setCell ⟨bz, 0, none⟩ (.int .i64 n)).setCell ⟨bz, 1, none⟩ (.int .i64 k)).setCell ⟨bz, 2, none⟩ (.bool has')).setCell ⟨bz, 3, none⟩ (.slice A' nm' c')).setCell ⟨bz, 4, none⟩ (.int .i64 st')) (fun b => ¬ p b ∧ b ≠ X + 2) (.slice A' nm' c') nm' (CU M')) := (SS.out.fo hzF fun b hb => hb.2).imp fun b _ hb => hb.2.1
          have hx2 := And.intro ((hzF.cell (by have h5 := VV_Vab.out.2; have h6 := S0.out; intro h7; have h8 : X = bz := h7; omega) hHeld.1)) (And.intro ((hzF.cell (by have h5 := VV_Vab.out.2; have h6 := S0.out; intro h7; have h8 : X = bz := h7; omega) hHeld.2.1)) (And.intro ((hzF.cell (by have h5 := VV_Vab.out.2; have h6 := S0.out; intro h7; have h8 : X = bz := h7; omega) hHeld.2.2.1)) (And.intro ((hzF.cell (by have h5 := VV_Vab.out.2; have h6 := S0.out; intro h7; have h8 : X = bz := h7; omega) hHeld.2.2.2.1)) (And.intro ((hzF.cell (by have h5 := VV_Vab.out.2; have h6 := S0.out; intro h7; have h8 : X = bz := h7; omega) hHeld.2.2.2.2.1)) (And.intro ((hzF.cell (by have h5 := VV_Vab.out.2; have h6 := S0.out; intro h7; have h8 : X + 1 = bz := h7; omega) hHeld.2.2.2.2.2.1)) ((hzF.cell (by have h5 := VV_Vab.out.2; have h6 := S0.out; intro h7; have h8 : X + 1 = bz := h7; omega) hHeld.2.2.2.2.2.2)))))))
          clear hzF
          refine wpAnyH_ready (rs := [11]) (by kernel_rfl) (by simp) ?_
          refine AllReadyH.cons rfl (fun K hK => ?_) AllReadyH.nil
          try go_simp
          refine hK.out _ _ hx2 (fun hHeld => ?_)
          clear hK K
          try simp only [Act.put, List.getElem_toArray, List.getElem_cons_succ, List.getElem_cons_zero, List.setIfInBounds_toArray, List.set_cons_zero, List.set_cons_succ]
          refine takeD (i := 12) (d := some 9) (v := ?_) _ rfl rfl (by kernel_rfl) (by kernel_rfl) (by kernel_rfl) (fun _ _ _ h => h) (by rfl) ?_ (by assumption) ?_
          rotate_left
          · (intro w hSw; (try dsimp only at hSw); go_simp) <;> with_reducible rfl
          try simp only [Act.put, List.setIfInBounds_toArray, List.set_cons_zero, List.set_cons_succ]
          refine wpAnyH_done (by kernel_rfl) ?_ _
          have VB := VV_Vab.out.2
          clear hHeld hx2 z0 z1 z2 z3 z4 zf0 zf1 zf2 zf3 zf4
          go_wp2_with fail
          go_meet
          case rel => exact ⟨⟨bz, A', c', rfl, rfl, hzB.out, VB, hz.out, hzS.out⟩⟩
    · have hal := And.intro (cell_al (.cells #[.int .i64 0, .int .i64 0, .bool false, .slice none 0 0, .int .i64 0] 26) hHeld.1) (And.intro (cell_al (.cells #[.int .i64 0, .int .i64 0, .bool false, .slice none 0 0, .int .i64 0] 26) hHeld.2.1) (And.intro (cell_al (.cells #[.int .i64 0, .int .i64 0, .bool false, .slice none 0 0, .int .i64 0] 26) hHeld.2.2.1) (And.intro (cell_al (.cells #[.int .i64 0, .int .i64 0, .bool false, .slice none 0 0, .int .i64 0] 26) hHeld.2.2.2.1) (And.intro (cell_al (.cells #[.int .i64 0, .int .i64 0, .bool false, .slice none 0 0, .int .i64 0] 26) hHeld.2.2.2.2.1) (And.intro (cell_al (.cells #[.int .i64 0, .int .i64 0, .bool false, .slice none 0 0, .int .i64 0] 26) hHeld.2.2.2.2.2.1) (cell_al (.cells #[.int .i64 0, .int .i64 0, .bool false, .slice none 0 0, .int .i64 0] 26) hHeld.2.2.2.2.2.2))))))
      obtain ⟨Va, h_Va⟩ : ∃ W, V.alloc (.cells #[.int .i64 0, .int .i64 0, .bool false, .slice none 0 0, .int .i64 0] 26) = W := ⟨_, rfl⟩
      obtain ⟨bz, h_bz⟩ : ∃ vb, V.heap.size = vb := ⟨_, rfl⟩
      rw [h_Va] at hal
      have BB_Va : Hid (Below W0.heap.size W0 Va) := by unfold Hid; rw [← h_Va]; exact BB_V.out.alloc BB_V.out.size _
      have VV_Va : Hid (Va.heap[bz]? = some (.cells #[.int .i64 0, .int .i64 0, .bool false, .slice none 0 0, .int .i64 0] 26 (0, 0)) ∧ W0.heap.size ≤ bz) := by unfold Hid; rw [← h_Va, ← h_bz]; exact ⟨heap_alloc_new _ _, BB_V.out.size⟩
      try go_simp
      try rw [h_Va]
      try rw [h_bz]
      refine hK.out _ _ hal (fun hHeld => ?_)
      clear h_Va h_bz hal
      clear hK K
      try simp only [Act.put, List.getElem_toArray, List.getElem_cons_succ, List.getElem_cons_zero, List.setIfInBounds_toArray, List.set_cons_zero, List.set_cons_succ]
      refine wpAnyH_ready (rs := [5]) (by kernel_rfl) (by simp) ?_
      refine AllReadyH.cons rfl (fun K hK => ?_) (AllReadyH.nil)
      · try go_simp
        go_at_call 24
        refine (CF.out _).mono ?_
        rintro e wf ⟨rfl, hw⟩
        have hw := hw.symm
        subst hw
        try go_wp2_with fail
        refine hK.out _ _ hHeld (fun hHeld => ?_)
        clear hK K
        try simp only [Act.put, List.getElem_toArray, List.getElem_cons_succ, List.getElem_cons_zero, List.setIfInBounds_toArray, List.set_cons_zero, List.set_cons_succ]
        refine wpAnyH_ready (rs := [6]) (by kernel_rfl) (by simp) ?_
        refine AllReadyH.cons rfl (fun K hK => ?_) (AllReadyH.nil)
        · try go_simp
          go_at_call 25
          refine (CR.out _ BB_Va.out).mono ?_
          rintro e Vab ⟨A', c', rfl, s_Vab, b_Vab⟩
          have BB_Vab : Hid (Below W0.heap.size W0 Vab) := BB_Va.out.trans (b_Vab.mono BB_Va.out.size)
          have VV_Vab : Hid (Vab.heap[bz]? = some (.cells #[.int .i64 0, .int .i64 0, .bool false, .slice none 0 0, .int .i64 0] 26 (0, 0)) ∧ W0.heap.size ≤ bz) := ⟨(b_Vab.block bz (Array.getElem?_eq_some_iff.1 VV_Va.out.1).1).trans VV_Va.out.1, VV_Va.out.2⟩
          have SS : Hid (Sq Vab (fun b => (¬ p b ∧ b ≠ X + 2) ∧ b ≠ bz) (.slice A' nm' c') nm' (CU M')) := s_Vab.imp fun b _ hb => by have h1 := BB_Va.out.size; have h2 := S0.out; have h3 := VV_Va.out.2; have h4 := (Array.getElem?_eq_some_iff.1 VV_Va.out.1).1; exact ⟨⟨hb.1, by rcases hb.2 with h | h <;> omega⟩, by rcases hb.2 with h | h <;> omega⟩
          try go_wp2_with fail
          refine hK.out _ _ ⟨cell_later b_Vab hHeld.1, cell_later b_Vab hHeld.2.1, cell_later b_Vab hHeld.2.2.1, cell_later b_Vab hHeld.2.2.2.1, cell_later b_Vab hHeld.2.2.2.2.1, cell_later b_Vab hHeld.2.2.2.2.2.1, cell_later b_Vab hHeld.2.2.2.2.2.2⟩ (fun hHeld => ?_)
          clear s_Vab b_Vab
          clear hK K
          try simp only [Act.put, List.getElem_toArray, List.getElem_cons_succ, List.getElem_cons_zero, List.setIfInBounds_toArray, List.set_cons_zero, List.set_cons_succ]
          refine takeD (i := 7) (d := some 23) (v := ?_) _ rfl rfl (by kernel_rfl) (by kernel_rfl) (by kernel_rfl) (fun _ _ _ h => h) (by rfl) ?_ (by assumption) ?_
          rotate_left
          · (intro w hSw; (try dsimp only at hSw); go_simp) <;> with_reducible rfl
          try simp only [Act.put, List.setIfInBounds_toArray, List.set_cons_zero, List.set_cons_succ]
          refine takeD (i := 8) (d := some 31) (v := ?_) _ rfl rfl (by kernel_rfl) (by kernel_rfl) (by kernel_rfl) (fun _ _ _ h => h) (by rfl) ?_ (by assumption) ?_
          rotate_left
          · (intro w hSw; (try dsimp only at hSw); go_simp) <;> with_reducible rfl
          try simp only [Act.put, List.setIfInBounds_toArray, List.set_cons_zero, List.set_cons_succ]
          refine takeD (i := 9) (d := some 32) (v := ?_) _ rfl rfl (by kernel_rfl) (by kernel_rfl) (by kernel_rfl) (fun _ _ _ h => h) (by rfl) ?_ (by assumption) ?_
          rotate_left
          · (intro w hSw; (try dsimp only at hSw); go_simp) <;> with_reducible rfl
          try simp only [Act.put, List.setIfInBounds_toArray, List.set_cons_zero, List.set_cons_succ]
          have z0 : Vab.cell? ⟨bz, 0, none⟩ = some (.int .i64 0) := by rw [(row_cell VV_Vab.out.1 0).1]; rfl
          have zf0 : Vab.frozen? ⟨bz, 0, none⟩ = false := (row_cell VV_Vab.out.1 0).2
          have z1 : Vab.cell? ⟨bz, 1, none⟩ = some (.int .i64 0) := by rw [(row_cell VV_Vab.out.1 1).1]; rfl
          have zf1 : Vab.frozen? ⟨bz, 1, none⟩ = false := (row_cell VV_Vab.out.1 1).2
          have z2 : Vab.cell? ⟨bz, 2, none⟩ = some (.bool false) := by rw [(row_cell VV_Vab.out.1 2).1]; rfl
          have zf2 : Vab.frozen? ⟨bz, 2, none⟩ = false := (row_cell VV_Vab.out.1 2).2
          have z3 : Vab.cell? ⟨bz, 3, none⟩ = some (.slice none 0 0) := by rw [(row_cell VV_Vab.out.1 3).1]; rfl
          have zf3 : Vab.frozen? ⟨bz, 3, none⟩ = false := (row_cell VV_Vab.out.1 3).2
          have z4 : Vab.cell? ⟨bz, 4, none⟩ = some (.int .i64 0) := by rw [(row_cell VV_Vab.out.1 4).1]; rfl
          have zf4 : Vab.frozen? ⟨bz, 4, none⟩ = false := (row_cell VV_Vab.out.1 4).2
          have hz : Hid ((((((Vab.setCell ⟨bz, 0, none⟩ (.int .i64 n)).setCell ⟨bz, 1, none⟩ (.int .i64 k)).setCell ⟨bz, 2, none⟩ (.bool has')).setCell ⟨bz, 3, none⟩ (.slice A' nm' c')).setCell ⟨bz, 4, none⟩ (.int .i64 st')).heap[bz]? = some (.cells #[.int .i64 n, .int .i64 k, .bool has', .slice A' nm' c', .int .i64 st'] 26 (0, 0))) := by
            unfold Hid
            have := set_at (set_at (set_at (set_at (set_at VV_Vab.out.1 0 (.int .i64 n)) 1 (.int .i64 k)) 2 (.bool has')) 3 (.slice A' nm' c')) 4 (.int .i64 st')
            exact this
          have hzB : Hid (Below W0.heap.size W0 (((((Vab.setCell ⟨bz, 0, none⟩ (.int .i64 n)).setCell ⟨bz, 1, none⟩ (.int .i64 k)).setCell ⟨bz, 2, none⟩ (.bool has')).setCell ⟨bz, 3, none⟩ (.slice A' nm' c')).setCell ⟨bz, 4, none⟩ (.int .i64 st'))) := ((((BB_Vab.out.setCell VV_Vab.out.2 _).setCell VV_Vab.out.2 _).setCell VV_Vab.out.2 _).setCell VV_Vab.out.2 _).setCell VV_Vab.out.2 _
          have hzF : Fo (fun b => b = bz) Vab (((((Vab.setCell ⟨bz, 0, none⟩ (.int .i64 n)).setCell ⟨bz, 1, none⟩ (.int .i64 k)).setCell ⟨bz, 2, none⟩ (.bool has')).setCell ⟨bz, 3, none⟩ (.slice A' nm' c')).setCell ⟨bz, 4, none⟩ (.int .i64 st')) := (((((Fo.refl (fun b => b = bz) Vab).setCell (.inl rfl) 0 _).setCell (.inl rfl) 1 _).setCell (.inl rfl) 2 _).setCell (.inl rfl) 3 _).setCell (.inl rfl) 4 _
          have hzS : Hid (Sq (((((Vab.setCell ⟨bz, 0, none⟩ (.int .i64 n)).setCell ⟨bz, 1, none⟩ (.int .i64 k)).setCell ⟨bz, 2, none⟩ (.bool has')).setCell ⟨bz, 3, none⟩ (.slice A' nm' c')).setCell ⟨bz, 4, none⟩ (.int .i64 st')) (fun b => ¬ p b ∧ b ≠ X + 2) (.slice A' nm' c') nm' (CU M')) := (SS.out.fo hzF fun b hb => hb.2).imp fun b _ hb => hb.2.1
          have hx2 := And.intro ((hzF.cell (by have h5 := VV_Vab.out.2; have h6 := S0.out; intro h7; have h8 : X = bz := h7; omega) hHeld.1)) (And.intro ((hzF.cell (by have h5 := VV_Vab.out.2; have h6 := S0.out; intro h7; have h8 : X = bz := h7; omega) hHeld.2.1)) (And.intro ((hzF.cell (by have h5 := VV_Vab.out.2; have h6 := S0.out; intro h7; have h8 : X = bz := h7; omega) hHeld.2.2.1)) (And.intro ((hzF.cell (by have h5 := VV_Vab.out.2; have h6 := S0.out; intro h7; have h8 : X = bz := h7; omega) hHeld.2.2.2.1)) (And.intro ((hzF.cell (by have h5 := VV_Vab.out.2; have h6 := S0.out; intro h7; have h8 : X = bz := h7; omega) hHeld.2.2.2.2.1)) (And.intro ((hzF.cell (by have h5 := VV_Vab.out.2; have h6 := S0.out; intro h7; have h8 : X + 1 = bz := h7; omega) hHeld.2.2.2.2.2.1)) ((hzF.cell (by have h5 := VV_Vab.out.2; have h6 := S0.out; intro h7; have h8 : X + 1 = bz := h7; omega) hHeld.2.2.2.2.2.2)))))))
          clear hzF
          refine wpAnyH_ready (rs := [11]) (by kernel_rfl) (by simp) ?_
          refine AllReadyH.cons rfl (fun K hK => ?_) AllReadyH.nil
          try go_simp
          refine hK.out _ _ hx2 (fun hHeld => ?_)
          clear hK K
          try simp only [Act.put, List.getElem_toArray, List.getElem_cons_succ, List.getElem_cons_zero, List.setIfInBounds_toArray, List.set_cons_zero, List.set_cons_succ]
          refine takeD (i := 12) (d := some 9) (v := ?_) _ rfl rfl (by kernel_rfl) (by kernel_rfl) (by kernel_rfl) (fun _ _ _ h => h) (by rfl) ?_ (by assumption) ?_
          rotate_left
          · (intro w hSw; (try dsimp only at hSw); go_simp) <;> with_reducible rfl
          try simp only [Act.put, List.setIfInBounds_toArray, List.set_cons_zero, List.set_cons_succ]
          refine wpAnyH_done (by kernel_rfl) ?_ _
          have VB := VV_Vab.out.2
          clear hHeld hx2 z0 z1 z2 z3 z4 zf0 zf1 zf2 zf3 zf4
          go_wp2_with fail
          go_meet
          case rel => exact ⟨⟨bz, A', c', rfl, rfl, hzB.out, VB, hz.out, hzS.out⟩⟩
  case rest =>
    obtain ⟨⟨bz, A', c', rfl, rfl, hbx, hvb, hvx, hzq⟩⟩ := hcut
    have HBX := Lib.hid hbx
    have HVB := Lib.hid hvb
    have HVX : Hid (X + 3 ≤ bz) := by have := S0.out; unfold Hid; omega
    have HZQ := Lib.hid hzq
    have hpx1 : wc.heap[X + 1]? = some (.cells #[.int .i64 kd, .int .i64 now, .slice Ak nk ck] 33 (0, 0)) := (hbx.block _ (by have := S0.out; omega)).trans HP0.out
    have HZX : Hid (wc.heap[X + 2]? = some (.cells #[.int .i64 0, .int .i64 0, .bool false, .slice none 0 0, .int .i64 0] 26 (0, 0))) := (hbx.block _ (by have := S0.out; omega)).trans HZ0.out
    have HZL : Hid (X + 2 < wc.heap.size) := by have := S0.out; have := hbx.size; unfold Hid; omega
    have y0 : wc.cell? ⟨bz, 0, none⟩ = some (.int .i64 n) := by rw [(row_cell hvx 0).1]; rfl
    have y1 : wc.cell? ⟨bz, 1, none⟩ = some (.int .i64 k) := by rw [(row_cell hvx 1).1]; rfl
    have y2 : wc.cell? ⟨bz, 2, none⟩ = some (.bool has') := by rw [(row_cell hvx 2).1]; rfl
    have y3 : wc.cell? ⟨bz, 3, none⟩ = some (.slice A' nm' c') := by rw [(row_cell hvx 3).1]; rfl
    have y4 : wc.cell? ⟨bz, 4, none⟩ = some (.int .i64 st') := by rw [(row_cell hvx 4).1]; rfl
    have p0 : wc.cell? ⟨X + 1, 0, none⟩ = some (.int .i64 kd) := by rw [(row_cell hpx1 0).1]; rfl
    have p1 : wc.cell? ⟨X + 1, 1, none⟩ = some (.int .i64 now) := by rw [(row_cell hpx1 1).1]; rfl
    have p2 : wc.cell? ⟨X + 1, 2, none⟩ = some (.slice Ak nk ck) := by rw [(row_cell hpx1 2).1]; rfl
    clear hbx hvb hvx hzq hpx1
    go_wp2_with fail
    refine wp_region_held_drew (S := (fun w' => w'.cell? ⟨bz, 0, none⟩ = some (.int .i64 n) ∧ w'.cell? ⟨bz, 1, none⟩ = some (.int .i64 k) ∧ w'.cell? ⟨bz, 2, none⟩ = some (.bool has') ∧ w'.cell? ⟨bz, 3, none⟩ = some (.slice A' nm' c') ∧ w'.cell? ⟨bz, 4, none⟩ = some (.int .i64 st') ∧ w'.cell? ⟨X + 1, 1, none⟩ = some (.int .i64 now) ∧ w'.cell? ⟨X + 1, 2, none⟩ = some (.slice Ak nk ck))) (by kernel_rfl) ?_ (fun hHeld => ?_)
    · exact ⟨y0, y1, y2, y3, y4, p1, p2⟩
    clear y0 y1 y2 y3 y4 p1 p2
    refine takeD (i := 0) (d := some 33) (v := ?_) _ rfl rfl (by kernel_rfl) (by kernel_rfl) (by kernel_rfl) (fun _ _ _ h => h) (by rfl) ?_ (by assumption) ?_
    rotate_left
    · (intro w hSw; (try dsimp only at hSw); go_simp) <;> with_reducible rfl
    try simp only [Act.put, List.setIfInBounds_toArray, List.set_cons_zero, List.set_cons_succ]
    refine takeD (i := 1) (d := some 34) (v := ?_) _ rfl rfl (by kernel_rfl) (by kernel_rfl) (by kernel_rfl) (fun _ _ _ h => h) (by rfl) ?_ (by assumption) ?_
    rotate_left
    · (intro w hSw; (try dsimp only at hSw); go_simp) <;> with_reducible rfl
    try simp only [Act.put, List.setIfInBounds_toArray, List.set_cons_zero, List.set_cons_succ]
    refine takeD (i := 2) (d := some 35) (v := ?_) _ rfl rfl (by kernel_rfl) (by kernel_rfl) (by kernel_rfl) (fun _ _ _ h => h) (by rfl) ?_ (by assumption) ?_
    rotate_left
    · (intro w hSw; (try dsimp only at hSw); go_simp) <;> with_reducible rfl
    try simp only [Act.put, List.setIfInBounds_toArray, List.set_cons_zero, List.set_cons_succ]
    refine takeD (i := 3) (d := some 36) (v := ?_) _ rfl rfl (by kernel_rfl) (by kernel_rfl) (by kernel_rfl) (fun _ _ _ h => h) (by rfl) ?_ (by assumption) ?_
    rotate_left
    · (intro w hSw; (try dsimp only at hSw); go_simp) <;> with_reducible rfl
    try simp only [Act.put, List.setIfInBounds_toArray, List.set_cons_zero, List.set_cons_succ]
    refine takeD (i := 4) (d := some 37) (v := ?_) _ rfl rfl (by kernel_rfl) (by kernel_rfl) (by kernel_rfl) (fun _ _ _ h => h) (by rfl) ?_ (by assumption) ?_
    rotate_left
    · (intro w hSw; (try dsimp only at hSw); go_simp) <;> with_reducible rfl
    try simp only [Act.put, List.setIfInBounds_toArray, List.set_cons_zero, List.set_cons_succ]
    refine takeD (i := 5) (d := some 38) (v := ?_) _ rfl rfl (by kernel_rfl) (by kernel_rfl) (by kernel_rfl) (fun _ _ _ h => h) (by rfl) ?_ (by assumption) ?_
    rotate_left
    · (intro w hSw; (try dsimp only at hSw); go_simp) <;> with_reducible rfl
    try simp only [Act.put, List.setIfInBounds_toArray, List.set_cons_zero, List.set_cons_succ]
    refine takeD (i := 8) (d := some 41) (v := ?_) _ rfl rfl (by kernel_rfl) (by kernel_rfl) (by kernel_rfl) (fun _ _ _ h => h) (by rfl) ?_ (by assumption) ?_
    rotate_left
    · (intro w hSw; (try dsimp only at hSw); go_simp) <;> with_reducible rfl
    try simp only [Act.put, List.setIfInBounds_toArray, List.set_cons_zero, List.set_cons_succ]
    obtain ⟨V, hV⟩ : ∃ V, wc.drew = V := ⟨_, rfl⟩
    have HB1 : Hid (Below wc.heap.size wc V) := by rw [← hV]; exact (Below.refl _ _).drew
    rw [hV] at hHeld
    simp only [hV]
    clear hV
    refine wpAnyH_ready (rs := [6]) (by kernel_rfl) (by simp) ?_
    refine AllReadyH.cons rfl (fun K hK => ?_) AllReadyH.nil
    try go_simp
    go_at_call 24
    refine (CF.out _).mono ?_
    rintro e wf ⟨rfl, hw⟩
    have hw := hw.symm
    subst hw
    try go_wp2_with fail
    refine hK.out _ _ hHeld (fun hHeld => ?_)
    clear hK K
    try simp only [Act.put, List.getElem_toArray, List.getElem_cons_succ, List.getElem_cons_zero, List.setIfInBounds_toArray, List.set_cons_zero, List.set_cons_succ]
    refine wpAnyH_ready (rs := [7]) (by kernel_rfl) (by simp) ?_
    refine AllReadyH.cons rfl (fun K hK => ?_) AllReadyH.nil
    try go_simp
    go_at_call 13
    refine (CP.out _ (HBX.out.trans (HB1.out.mono HBX.out.size))).mono ?_
    rintro e w6 ⟨q, rfl, q6, n6⟩
    have HQ6 := Lib.hid q6
    have HN6 := Lib.hid n6
    have hz6 : w6.heap[X + 2]? = some (.cells #[.int .i64 0, .int .i64 0, .bool false, .slice none 0 0, .int .i64 0] 26 (0, 0)) := (n6.fo.block _ (by have := HZL.out; have := HB1.out.size; omega) (HPP.out _ (by omega))).trans ((HB1.out.block _ HZL.out).trans HZX.out)
    try go_wp2_with fail
    refine hK.out _ _ (And.intro ((n6.fo.cell (HPP.out bz (by have := HVX.out; omega)) hHeld.1)) (And.intro ((n6.fo.cell (HPP.out bz (by have := HVX.out; omega)) hHeld.2.1)) (And.intro ((n6.fo.cell (HPP.out bz (by have := HVX.out; omega)) hHeld.2.2.1)) (And.intro ((n6.fo.cell (HPP.out bz (by have := HVX.out; omega)) hHeld.2.2.2.1)) (And.intro ((n6.fo.cell (HPP.out bz (by have := HVX.out; omega)) hHeld.2.2.2.2.1)) (And.intro ((n6.fo.cell (HPP.out (X + 1) (by omega)) hHeld.2.2.2.2.2.1)) ((n6.fo.cell (HPP.out (X + 1) (by omega)) hHeld.2.2.2.2.2.2)))))))) (fun hHeld => ?_)
    clear q6 n6
    clear hK K
    try simp only [Act.put, List.getElem_toArray, List.getElem_cons_succ, List.getElem_cons_zero, List.setIfInBounds_toArray, List.set_cons_zero, List.set_cons_succ]
    refine takeD (i := 9) (d := some 42) (v := ?_) _ rfl rfl (by kernel_rfl) (by kernel_rfl) (by kernel_rfl) (fun _ _ _ h => h) (by rfl) ?_ (by assumption) ?_
    rotate_left
    · (intro w hSw; (try dsimp only at hSw); go_simp) <;> with_reducible rfl
    try simp only [Act.put, List.setIfInBounds_toArray, List.set_cons_zero, List.set_cons_succ]
    have z0 : w6.cell? ⟨X + 2, 0, none⟩ = some (.int .i64 0) := by rw [(row_cell hz6 0).1]; rfl
    have zf0 : w6.frozen? ⟨X + 2, 0, none⟩ = false := (row_cell hz6 0).2
    have z1 : w6.cell? ⟨X + 2, 1, none⟩ = some (.int .i64 0) := by rw [(row_cell hz6 1).1]; rfl
    have zf1 : w6.frozen? ⟨X + 2, 1, none⟩ = false := (row_cell hz6 1).2
    have z2 : w6.cell? ⟨X + 2, 2, none⟩ = some (.bool false) := by rw [(row_cell hz6 2).1]; rfl
    have zf2 : w6.frozen? ⟨X + 2, 2, none⟩ = false := (row_cell hz6 2).2
    have z3 : w6.cell? ⟨X + 2, 3, none⟩ = some (.slice none 0 0) := by rw [(row_cell hz6 3).1]; rfl
    have zf3 : w6.frozen? ⟨X + 2, 3, none⟩ = false := (row_cell hz6 3).2
    have z4 : w6.cell? ⟨X + 2, 4, none⟩ = some (.int .i64 0) := by rw [(row_cell hz6 4).1]; rfl
    have zf4 : w6.frozen? ⟨X + 2, 4, none⟩ = false := (row_cell hz6 4).2
    have hzA : Hid ((((((w6.setCell ⟨X + 2, 0, none⟩ (.int .i64 n)).setCell ⟨X + 2, 1, none⟩ (.int .i64 k)).setCell ⟨X + 2, 2, none⟩ (.bool has')).setCell ⟨X + 2, 3, none⟩ (.slice A' nm' c')).setCell ⟨X + 2, 4, none⟩ (.int .i64 st')).rangeAt (X + 2) 0 [.int .i64 n, .int .i64 k, .bool has', .slice A' nm' c', .int .i64 st']) := set_five hz6 _ _ _ _ _
    have hzF : Fo (fun b => b = X + 2) w6 (((((w6.setCell ⟨X + 2, 0, none⟩ (.int .i64 n)).setCell ⟨X + 2, 1, none⟩ (.int .i64 k)).setCell ⟨X + 2, 2, none⟩ (.bool has')).setCell ⟨X + 2, 3, none⟩ (.slice A' nm' c')).setCell ⟨X + 2, 4, none⟩ (.int .i64 st')) := (((((Fo.refl (fun b => b = X + 2) w6).setCell (.inl rfl) 0 _).setCell (.inl rfl) 1 _).setCell (.inl rfl) 2 _).setCell (.inl rfl) 3 _).setCell (.inl rfl) 4 _
    have HFF := Lib.hid hzF
    have hx2 := And.intro ((hzF.cell (by intro h7; have h8 : bz = X + 2 := h7; have := HVX.out; omega) hHeld.1)) (And.intro ((hzF.cell (by intro h7; have h8 : bz = X + 2 := h7; have := HVX.out; omega) hHeld.2.1)) (And.intro ((hzF.cell (by intro h7; have h8 : bz = X + 2 := h7; have := HVX.out; omega) hHeld.2.2.1)) (And.intro ((hzF.cell (by intro h7; have h8 : bz = X + 2 := h7; have := HVX.out; omega) hHeld.2.2.2.1)) (And.intro ((hzF.cell (by intro h7; have h8 : bz = X + 2 := h7; have := HVX.out; omega) hHeld.2.2.2.2.1)) (And.intro ((hzF.cell (by intro h7; have h8 : X + 1 = X + 2 := h7; omega) hHeld.2.2.2.2.2.1)) ((hzF.cell (by intro h7; have h8 : X + 1 = X + 2 := h7; omega) hHeld.2.2.2.2.2.2)))))))
    clear hzF
    refine wpAnyH_ready (rs := [10]) (by kernel_rfl) (by simp) ?_
    refine AllReadyH.cons rfl (fun K hK => ?_) AllReadyH.nil
    try go_simp
    refine hK.out _ _ hx2 (fun hHeld => ?_)
    clear hK K
    try simp only [Act.put, List.getElem_toArray, List.getElem_cons_succ, List.getElem_cons_zero, List.setIfInBounds_toArray, List.set_cons_zero, List.set_cons_succ]
    refine takeD (i := 11) (d := some 7) (v := ?_) _ rfl rfl (by kernel_rfl) (by kernel_rfl) (by kernel_rfl) (fun _ _ _ h => h) (by rfl) ?_ (by assumption) ?_
    rotate_left
    · (intro w hSw; (try dsimp only at hSw); go_simp) <;> with_reducible rfl
    try simp only [Act.put, List.setIfInBounds_toArray, List.set_cons_zero, List.set_cons_succ]
    refine wpAnyH_done (by kernel_rfl) ?_ _
    clear hHeld hx2 hz6 z0 z1 z2 z3 z4 zf0 zf1 zf2 zf3 zf4
    go_wp2_with fail
    refine bodyPost_ret (results_cell_tmp rfl _ _ (X + 2) _ _ rfl hzA.out Try.underlying26 rfl (by kernel_rfl)) rfl ?_
    exact ⟨q, A', c', rfl, fin_do hX (B0.out.trans ((HBX.out.trans (HB1.out.mono HBX.out.size)).mono (by have := S0.out; omega))) (by have := HZL.out; have := HB1.out.size; omega) hpx.out HQ6.out HN6.out HFF.out (HZQ.out.belowP HB1.out)⟩
end Go.Proofs.Ytmodkfboolmckaa.Sa
