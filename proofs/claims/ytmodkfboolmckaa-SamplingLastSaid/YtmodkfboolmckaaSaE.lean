/-
  The law's own functions: do, told. Each statement bears its own conditions.
-/
import Derived.Test.YtmodkfboolmckaaSaD
namespace Go.Proofs.Ytmodkfboolmckaa.Sa
open Go.RowKit Go.Proofs.Ytmodkfboolmckaa.F Go.Proofs.Ytmodkfboolmckaa.U
set_option linter.unusedVariables false
set_option linter.unusedSimpArgs false
set_option maxRecDepth 100000 in
set_option maxHeartbeats 8000000 in
theorem do_read (lo : Nat) (p : Nat → Prop) (g : Nat) (n k : Int) (has : Bool) (M : List Int) (st : Int) (Am : Option Addr) (nm cm : Nat) (Ak : Option Addr) (nk ck : Nat) (kd now : Int) (er : Int) (v : Bool) (K : List Int) (w : World)
    (h : PV lo w p g n k has M st) (hs : Sq w (fun b => ¬ p b) (.slice Am nm cm) nm (CU M)) (hk : (IntKind.u64.wrap kd).tmod 3 = 1) (hKl : K.length ≤ 5000)
    (cr : ∀ W, Below w.heap.size w W → Calls Try.prog 26 #[.agg #[.int .i64 n, .int .i64 k, .bool has, .slice Am nm cm, .int .i64 st], .int .i64 now] W fun e w' => ∃ r, e = .returned (.tuple #[r, .bool v, .int .i64 er]) ∧ Sq w' (fun _ => True) r K.length (CU K) ∧ Below W.heap.size W w')
    (cp : ∀ W, Below w.heap.size w W → Calls Try.prog 14 #[.pointer (some ⟨g, 0, none⟩), .int .i64 now] W fun e w' => ∃ r, e = .returned (.tuple #[r, .bool v, .int .i64 er]) ∧ Sq w' (fun _ => True) r K.length (CU K) ∧ Below W.heap.size W w') :
    Calls Try.prog 11 #[.pointer (some ⟨g, 0, none⟩), .agg #[.int .i64 n, .int .i64 k, .bool has, .slice Am nm cm, .int .i64 st], .agg #[.int .i64 kd, .int .i64 now, .slice Ak nk ck]] w fun e w' => e = .returned (.tuple #[.agg #[.int .i64 n, .int .i64 k, .bool has, .slice Am nm cm, .int .i64 st], .bool true]) ∧ PV lo w' p g n k has M st ∧ Sq w' (fun b => ¬ p b) (.slice Am nm cm) nm (CU M) ∧ Nx p p w w' := by
  obtain ⟨X, hX⟩ : ∃ X, w.heap.size = X := ⟨_, rfl⟩
  obtain ⟨W0, hW0⟩ : ∃ W0, ((w.alloc (.cells #[.int .i64 n, .int .i64 k, .bool has, .slice Am nm cm, .int .i64 st] 26)).alloc (.cells #[.int .i64 kd, .int .i64 now, .slice Ak nk ck] 33)).alloc (.cells #[.int .i64 0, .int .i64 0, .bool false, .slice none 0 0, .int .i64 0] 26) = W0 := ⟨_, rfl⟩
  have B0 : Hid (Below X w W0) := by rw [← hW0, ← hX]; exact ((((Below.refl _ _).alloc (Nat.le_refl _) _).alloc (by simp) _).alloc (by simp; omega) _)
  have S0 : Hid (W0.heap.size = X + 3) := by unfold Hid; rw [← hW0, ← hX]; simp
  have HX0 : Hid (W0.heap[X]? = some (.cells #[.int .i64 n, .int .i64 k, .bool has, .slice Am nm cm, .int .i64 st] 26 (0, 0))) := by
    rw [← hW0, ← hX]; exact (heap_old _ _ (by simp; omega)).trans ((heap_old _ _ (by simp)).trans (heap_alloc_new _ _))
  have HP0 : Hid (W0.heap[X + 1]? = some (.cells #[.int .i64 kd, .int .i64 now, .slice Ak nk ck] 33 (0, 0))) := by
    rw [← hW0, ← hX]; have := heap_alloc_new (w.alloc (.cells #[.int .i64 n, .int .i64 k, .bool has, .slice Am nm cm, .int .i64 st] 26)) (.cells #[.int .i64 kd, .int .i64 now, .slice Ak nk ck] 33); unfold Hid; exact (heap_old _ _ (by simp)).trans (by simpa using this)
  have HZ0 : Hid (W0.heap[X + 2]? = some (.cells #[.int .i64 0, .int .i64 0, .bool false, .slice none 0 0, .int .i64 0] 26 (0, 0))) := by
    rw [← hW0, ← hX]; have := heap_alloc_new ((w.alloc (.cells #[.int .i64 n, .int .i64 k, .bool has, .slice Am nm cm, .int .i64 st] 26)).alloc (.cells #[.int .i64 kd, .int .i64 now, .slice Ak nk ck] 33)) (.cells #[.int .i64 0, .int .i64 0, .bool false, .slice none 0 0, .int .i64 0] 26); unfold Hid; simpa using this
  have hpx : Hid (∀ b, p b → b < X) := fun b hb => by have := (h.low b hb).2; omega
  have B0w : Below w.heap.size w W0 := by rw [hX]; exact B0.out
  have CP := Lib.hid (cp W0 B0w)
  have CR : Hid (∀ W, Below W0.heap.size W0 W → Calls Try.prog 26 #[.agg #[.int .i64 n, .int .i64 k, .bool has, .slice Am nm cm, .int .i64 st], .int .i64 now] W fun e w' => ∃ r, e = .returned (.tuple #[r, .bool v, .int .i64 er]) ∧ Sq w' (fun _ => True) r K.length (CU K) ∧ Below W.heap.size W w') := fun W hb => cr W (B0w.trans (hb.mono B0w.size))
  have her : (er == er) = true := by simp
  have hvv : (v == v) = true := by simp
  have HKL := Lib.hid hKl
  have HFIN0 : Hid (∀ V wF, Below X w V → X + 3 ≤ V.heap.size → Fo (fun b => b = X + 2) V wF → PV lo wF p g n k has M st ∧ Sq wF (fun b => ¬ p b) (.slice Am nm cm) nm (CU M) ∧ Nx p p w wF) := fun V wF hb hl hf => by
    have hbw : Below w.heap.size w V := by rw [hX]; exact hb
    refine ⟨(h.below hbw).fo hf (fun b hb e => by have := hpx.out b hb; omega), ?_, ⟨(Fo.of_below hbw).trans hf fun i hi => .inr (by omega), fun b hb => .inl hb⟩⟩
    have h1 := hs.below hbw
    have h2 := h1.fo hf (fun b hb e => by have := hb.1; omega)
    exact h2.imp fun b _ hb => hb.2.2
  have x0 : W0.cell? ⟨X, 0, none⟩ = some (.int .i64 n) := by rw [(row_cell HX0.out 0).1]; rfl
  have x1 : W0.cell? ⟨X, 1, none⟩ = some (.int .i64 k) := by rw [(row_cell HX0.out 1).1]; rfl
  have x2 : W0.cell? ⟨X, 2, none⟩ = some (.bool has) := by rw [(row_cell HX0.out 2).1]; rfl
  have x3 : W0.cell? ⟨X, 3, none⟩ = some (.slice Am nm cm) := by rw [(row_cell HX0.out 3).1]; rfl
  have x4 : W0.cell? ⟨X, 4, none⟩ = some (.int .i64 st) := by rw [(row_cell HX0.out 4).1]; rfl
  have p0 : W0.cell? ⟨X + 1, 0, none⟩ = some (.int .i64 kd) := by rw [(row_cell HP0.out 0).1]; rfl
  have p1 : W0.cell? ⟨X + 1, 1, none⟩ = some (.int .i64 now) := by rw [(row_cell HP0.out 1).1]; rfl
  have p2 : W0.cell? ⟨X + 1, 2, none⟩ = some (.slice Ak nk ck) := by rw [(row_cell HP0.out 2).1]; rfl
  clear h hs cr cp B0w hKl
  go_enter Try.func11, Try.ntmps11
  go_wp2_with fail
  refine CP.out.mono ?_
  rintro e w1 ⟨r1, rfl, s1, b1⟩
  have hx1 : w1.heap[X]? = some (.cells #[.int .i64 n, .int .i64 k, .bool has, .slice Am nm cm, .int .i64 st] 26 (0, 0)) := (b1.block _ (by have := S0.out; omega)).trans HX0.out
  have hp1 : w1.heap[X + 1]? = some (.cells #[.int .i64 kd, .int .i64 now, .slice Ak nk ck] 33 (0, 0)) := (b1.block _ (by have := S0.out; omega)).trans HP0.out
  have B1 := Lib.hid b1
  have SQ1 := Lib.hid s1
  clear x0 x1 x2 x3 x4 p0 p1 p2
  have x0 : w1.cell? ⟨X, 0, none⟩ = some (.int .i64 n) := by rw [(row_cell hx1 0).1]; rfl
  have x1 : w1.cell? ⟨X, 1, none⟩ = some (.int .i64 k) := by rw [(row_cell hx1 1).1]; rfl
  have x2 : w1.cell? ⟨X, 2, none⟩ = some (.bool has) := by rw [(row_cell hx1 2).1]; rfl
  have x3 : w1.cell? ⟨X, 3, none⟩ = some (.slice Am nm cm) := by rw [(row_cell hx1 3).1]; rfl
  have x4 : w1.cell? ⟨X, 4, none⟩ = some (.int .i64 st) := by rw [(row_cell hx1 4).1]; rfl
  have p0 : w1.cell? ⟨X + 1, 0, none⟩ = some (.int .i64 kd) := by rw [(row_cell hp1 0).1]; rfl
  have p1 : w1.cell? ⟨X + 1, 1, none⟩ = some (.int .i64 now) := by rw [(row_cell hp1 1).1]; rfl
  have p2 : w1.cell? ⟨X + 1, 2, none⟩ = some (.slice Ak nk ck) := by rw [(row_cell hp1 2).1]; rfl
  clear b1 s1 hx1 hp1 CP
  go_wp2_with fail
  refine (CR.out _ B1.out).mono ?_
  rintro e w3 ⟨r3, rfl, s3, b3⟩
  have HB3 : Hid (Below W0.heap.size W0 w3) := B1.out.trans (b3.mono B1.out.size)
  have CWD : Hid (∀ W, Below w3.heap.size w3 W → Calls Try.prog 15 #[r1, r3] W fun e w' => e = .returned (.bool true) ∧ Below W.heap.size W w') := fun W hb =>
    (rwords_any _ _ r1 r3 K K W ((SQ1.out.below b3).imp (q := fun _ => True) (fun _ _ _ => trivial) |>.belowP hb).st (s3.belowP hb).st HKL.out).mono fun e w' h => ⟨by rw [h.1]; simp, h.2⟩
  have HZX : Hid (w3.heap[X + 2]? = some (.cells #[.int .i64 0, .int .i64 0, .bool false, .slice none 0 0, .int .i64 0] 26 (0, 0))) := (HB3.out.block _ (by have := S0.out; omega)).trans HZ0.out
  have HZL : Hid (X + 2 < w3.heap.size) := by have := S0.out; have := HB3.out.size; unfold Hid; omega
  have hx3 : w3.heap[X]? = some (.cells #[.int .i64 n, .int .i64 k, .bool has, .slice Am nm cm, .int .i64 st] 26 (0, 0)) := (HB3.out.block _ (by have := S0.out; omega)).trans HX0.out
  have HFIN : Hid (∀ w4 wF, Below w3.heap.size w3 w4 → Fo (fun b => b = X + 2) w4 wF → PV lo wF p g n k has M st ∧ Sq wF (fun b => ¬ p b) (.slice Am nm cm) nm (CU M) ∧ Nx p p w wF) := fun w4 wF h4 hf =>
    HFIN0.out w4 wF (B0.out.trans ((HB3.out.trans (h4.mono HB3.out.size)).mono (by have := S0.out; omega))) (by have := HZL.out; have := h4.size; omega) hf
  clear x0 x1 x2 x3 x4 p0 p1 p2
  have y0 : w3.cell? ⟨X, 0, none⟩ = some (.int .i64 n) := by rw [(row_cell hx3 0).1]; rfl
  have y1 : w3.cell? ⟨X, 1, none⟩ = some (.int .i64 k) := by rw [(row_cell hx3 1).1]; rfl
  have y2 : w3.cell? ⟨X, 2, none⟩ = some (.bool has) := by rw [(row_cell hx3 2).1]; rfl
  have y3 : w3.cell? ⟨X, 3, none⟩ = some (.slice Am nm cm) := by rw [(row_cell hx3 3).1]; rfl
  have y4 : w3.cell? ⟨X, 4, none⟩ = some (.int .i64 st) := by rw [(row_cell hx3 4).1]; rfl
  clear b3 s3 hx3 CR HFIN0
  go_wp2_with fail
  refine wp_region_held_drew (S := (fun w' => w'.cell? ⟨X, 0, none⟩ = some (.int .i64 n) ∧ w'.cell? ⟨X, 1, none⟩ = some (.int .i64 k) ∧ w'.cell? ⟨X, 2, none⟩ = some (.bool has) ∧ w'.cell? ⟨X, 3, none⟩ = some (.slice Am nm cm) ∧ w'.cell? ⟨X, 4, none⟩ = some (.int .i64 st))) (by kernel_rfl) ?_ (fun hHeld => ?_)
  · exact ⟨y0, y1, y2, y3, y4⟩
  clear y0 y1 y2 y3 y4
  refine takeD (i := 0) (d := some 61) (v := ?_) _ rfl rfl (by kernel_rfl) (by kernel_rfl) (by kernel_rfl) (fun _ _ _ h => h) (by rfl) ?_ (by assumption) ?_
  rotate_left
  · (intro w hSw; (try dsimp only at hSw); go_simp) <;> with_reducible rfl
  try simp only [Act.put, List.setIfInBounds_toArray, List.set_cons_zero, List.set_cons_succ]
  refine takeD (i := 1) (d := some 62) (v := ?_) _ rfl rfl (by kernel_rfl) (by kernel_rfl) (by kernel_rfl) (fun _ _ _ h => h) (by rfl) ?_ (by assumption) ?_
  rotate_left
  · (intro w hSw; (try dsimp only at hSw); go_simp) <;> with_reducible rfl
  try simp only [Act.put, List.setIfInBounds_toArray, List.set_cons_zero, List.set_cons_succ]
  refine takeD (i := 2) (d := some 63) (v := ?_) _ rfl rfl (by kernel_rfl) (by kernel_rfl) (by kernel_rfl) (fun _ _ _ h => h) (by rfl) ?_ (by assumption) ?_
  rotate_left
  · (intro w hSw; (try dsimp only at hSw); go_simp) <;> with_reducible rfl
  try simp only [Act.put, List.setIfInBounds_toArray, List.set_cons_zero, List.set_cons_succ]
  refine wpAnyH_ready (rs := [3]) (by kernel_rfl) (by simp) ?_
  refine AllReadyH.cons rfl (fun K0 hK => ?_) AllReadyH.nil
  try go_simp
  go_at_call 15
  refine (CWD.out _ (Below.refl _ _).drew).mono ?_
  rintro e w4 ⟨rfl, b4⟩
  have HB4 : Hid (Below w3.heap.size w3 w4) := (Below.refl w3.heap.size w3).drew.trans b4
  have hz4 : w4.heap[X + 2]? = some (.cells #[.int .i64 0, .int .i64 0, .bool false, .slice none 0 0, .int .i64 0] 26 (0, 0)) := (HB4.out.block _ HZL.out).trans HZX.out
  try go_wp2_with fail
  refine hK.out _ _ (And.intro (cell_later b4 hHeld.1) (And.intro (cell_later b4 hHeld.2.1) (And.intro (cell_later b4 hHeld.2.2.1) (And.intro (cell_later b4 hHeld.2.2.2.1) (cell_later b4 hHeld.2.2.2.2))))) (fun hHeld => ?_)
  clear b4
  clear hK K0
  try simp only [Act.put, List.getElem_toArray, List.getElem_cons_succ, List.getElem_cons_zero, List.setIfInBounds_toArray, List.set_cons_zero, List.set_cons_succ]
  refine takeD (i := 4) (d := some 65) (v := ?_) _ rfl rfl (by kernel_rfl) (by kernel_rfl) (by kernel_rfl) (fun _ _ _ h => h) (by rfl) ?_ (by assumption) ?_
  rotate_left
  · (intro w hSw; (try dsimp only at hSw); go_simp) <;> with_reducible rfl
  try simp only [Act.put, List.setIfInBounds_toArray, List.set_cons_zero, List.set_cons_succ]
  refine takeD (i := 5) (d := some 66) (v := ?_) _ rfl rfl (by kernel_rfl) (by kernel_rfl) (by kernel_rfl) (fun _ _ _ h => h) (by rfl) ?_ (by assumption) ?_
  rotate_left
  · (intro w hSw; (try dsimp only at hSw); go_simp) <;> with_reducible rfl
  try simp only [Act.put, List.setIfInBounds_toArray, List.set_cons_zero, List.set_cons_succ]
  refine takeD (i := 6) (d := some 67) (v := ?_) _ rfl rfl (by kernel_rfl) (by kernel_rfl) (by kernel_rfl) (fun _ _ _ h => h) (by rfl) ?_ (by assumption) ?_
  rotate_left
  · (intro w hSw; (try dsimp only at hSw); go_simp) <;> with_reducible rfl
  try simp only [Act.put, List.setIfInBounds_toArray, List.set_cons_zero, List.set_cons_succ]
  refine takeD (i := 7) (d := some 68) (v := ?_) _ rfl rfl (by kernel_rfl) (by kernel_rfl) (by kernel_rfl) (fun _ _ _ h => h) (by rfl) ?_ (by assumption) ?_
  rotate_left
  · (intro w hSw; (try dsimp only at hSw); go_simp) <;> with_reducible rfl
  try simp only [Act.put, List.setIfInBounds_toArray, List.set_cons_zero, List.set_cons_succ]
  refine takeD (i := 8) (d := some 69) (v := ?_) _ rfl rfl (by kernel_rfl) (by kernel_rfl) (by kernel_rfl) (fun _ _ _ h => h) (by rfl) ?_ (by assumption) ?_
  rotate_left
  · (intro w hSw; (try dsimp only at hSw); go_simp) <;> with_reducible rfl
  try simp only [Act.put, List.setIfInBounds_toArray, List.set_cons_zero, List.set_cons_succ]
  refine takeD (i := 9) (d := some 70) (v := ?_) _ rfl rfl (by kernel_rfl) (by kernel_rfl) (by kernel_rfl) (fun _ _ _ h => h) (by rfl) ?_ (by assumption) ?_
  rotate_left
  · (intro w hSw; (try dsimp only at hSw); go_simp) <;> with_reducible rfl
  try simp only [Act.put, List.setIfInBounds_toArray, List.set_cons_zero, List.set_cons_succ]
  refine takeD (i := 10) (d := some 71) (v := ?_) _ rfl rfl (by kernel_rfl) (by kernel_rfl) (by kernel_rfl) (fun _ _ _ h => h) (by rfl) ?_ (by assumption) ?_
  rotate_left
  · (intro w hSw; (try dsimp only at hSw); go_simp) <;> with_reducible rfl
  try simp only [Act.put, List.setIfInBounds_toArray, List.set_cons_zero, List.set_cons_succ]
  refine takeD (i := 11) (d := some 72) (v := ?_) _ rfl rfl (by kernel_rfl) (by kernel_rfl) (by kernel_rfl) (fun _ _ _ h => h) (by rfl) ?_ (by assumption) ?_
  rotate_left
  · (intro w hSw; (try dsimp only at hSw); go_simp) <;> with_reducible rfl
  try simp only [Act.put, List.setIfInBounds_toArray, List.set_cons_zero, List.set_cons_succ]
  refine takeD (i := 12) (d := some 73) (v := ?_) _ rfl rfl (by kernel_rfl) (by kernel_rfl) (by kernel_rfl) (fun _ _ _ h => h) (by rfl) ?_ (by assumption) ?_
  rotate_left
  · (intro w hSw; (try dsimp only at hSw); go_simp) <;> with_reducible rfl
  try simp only [Act.put, List.setIfInBounds_toArray, List.set_cons_zero, List.set_cons_succ]
  refine takeD (i := 13) (d := some 74) (v := ?_) _ rfl rfl (by kernel_rfl) (by kernel_rfl) (by kernel_rfl) (fun _ _ _ h => h) (by rfl) ?_ (by assumption) ?_
  rotate_left
  · (intro w hSw; (try dsimp only at hSw); go_simp) <;> with_reducible rfl
  try simp only [Act.put, List.setIfInBounds_toArray, List.set_cons_zero, List.set_cons_succ]
  have z0 : w4.cell? ⟨X + 2, 0, none⟩ = some (.int .i64 0) := by rw [(row_cell hz4 0).1]; rfl
  have zf0 : w4.frozen? ⟨X + 2, 0, none⟩ = false := (row_cell hz4 0).2
  have z1 : w4.cell? ⟨X + 2, 1, none⟩ = some (.int .i64 0) := by rw [(row_cell hz4 1).1]; rfl
  have zf1 : w4.frozen? ⟨X + 2, 1, none⟩ = false := (row_cell hz4 1).2
  have z2 : w4.cell? ⟨X + 2, 2, none⟩ = some (.bool false) := by rw [(row_cell hz4 2).1]; rfl
  have zf2 : w4.frozen? ⟨X + 2, 2, none⟩ = false := (row_cell hz4 2).2
  have z3 : w4.cell? ⟨X + 2, 3, none⟩ = some (.slice none 0 0) := by rw [(row_cell hz4 3).1]; rfl
  have zf3 : w4.frozen? ⟨X + 2, 3, none⟩ = false := (row_cell hz4 3).2
  have z4 : w4.cell? ⟨X + 2, 4, none⟩ = some (.int .i64 0) := by rw [(row_cell hz4 4).1]; rfl
  have zf4 : w4.frozen? ⟨X + 2, 4, none⟩ = false := (row_cell hz4 4).2
  have hzA : Hid ((((((w4.setCell ⟨X + 2, 0, none⟩ (.int .i64 n)).setCell ⟨X + 2, 1, none⟩ (.int .i64 k)).setCell ⟨X + 2, 2, none⟩ (.bool has)).setCell ⟨X + 2, 3, none⟩ (.slice Am nm cm)).setCell ⟨X + 2, 4, none⟩ (.int .i64 st)).rangeAt (X + 2) 0 [.int .i64 n, .int .i64 k, .bool has, .slice Am nm cm, .int .i64 st]) := set_five hz4 _ _ _ _ _
  have hzF : Fo (fun b => b = X + 2) w4 (((((w4.setCell ⟨X + 2, 0, none⟩ (.int .i64 n)).setCell ⟨X + 2, 1, none⟩ (.int .i64 k)).setCell ⟨X + 2, 2, none⟩ (.bool has)).setCell ⟨X + 2, 3, none⟩ (.slice Am nm cm)).setCell ⟨X + 2, 4, none⟩ (.int .i64 st)) := (((((Fo.refl (fun b => b = X + 2) w4).setCell (.inl rfl) 0 _).setCell (.inl rfl) 1 _).setCell (.inl rfl) 2 _).setCell (.inl rfl) 3 _).setCell (.inl rfl) 4 _
  have HFF := Lib.hid hzF
  have hx2 := And.intro ((hzF.cell (by intro h7; have h8 : X = X + 2 := h7; omega) hHeld.1)) (And.intro ((hzF.cell (by intro h7; have h8 : X = X + 2 := h7; omega) hHeld.2.1)) (And.intro ((hzF.cell (by intro h7; have h8 : X = X + 2 := h7; omega) hHeld.2.2.1)) (And.intro ((hzF.cell (by intro h7; have h8 : X = X + 2 := h7; omega) hHeld.2.2.2.1)) ((hzF.cell (by intro h7; have h8 : X = X + 2 := h7; omega) hHeld.2.2.2.2)))))
  clear hzF
  refine wpAnyH_ready (rs := [14]) (by kernel_rfl) (by simp) ?_
  refine AllReadyH.cons rfl (fun K0 hK => ?_) AllReadyH.nil
  try go_simp
  refine hK.out _ _ hx2 (fun hHeld => ?_)
  clear hK K0
  try simp only [Act.put, List.getElem_toArray, List.getElem_cons_succ, List.getElem_cons_zero, List.setIfInBounds_toArray, List.set_cons_zero, List.set_cons_succ]
  refine takeD (i := 15) (d := some 7) (v := ?_) _ rfl rfl (by kernel_rfl) (by kernel_rfl) (by kernel_rfl) (fun _ _ _ h => h) (by rfl) ?_ (by assumption) ?_
  rotate_left
  · (intro w hSw; (try dsimp only at hSw); go_simp) <;> with_reducible rfl
  try simp only [Act.put, List.setIfInBounds_toArray, List.set_cons_zero, List.set_cons_succ]
  refine wpAnyH_done (by kernel_rfl) ?_ _
  clear hHeld hx2 hz4 z0 z1 z2 z3 z4 zf0 zf1 zf2 zf3 zf4
  go_wp2_with fail
  refine bodyPost_ret (results_cell_tmp rfl _ _ (X + 2) _ _ rfl hzA.out Try.underlying26 rfl (by kernel_rfl)) rfl ?_
  exact ⟨rfl, HFIN.out w4 _ HB4.out HFF.out⟩
set_option maxRecDepth 100000 in
set_option maxHeartbeats 8000000 in
theorem do_clear (lo : Nat) (p : Nat → Prop) (g : Nat) (n k : Int) (has : Bool) (M : List Int) (st : Int) (Am : Option Addr) (nm cm : Nat) (Ak : Option Addr) (nk ck : Nat) (kd now : Int) (w : World)
    (h : PV lo w p g n k has M st) (hk : (IntKind.u64.wrap kd).tmod 3 = 2) :
    Calls Try.prog 11 #[.pointer (some ⟨g, 0, none⟩), .agg #[.int .i64 n, .int .i64 k, .bool has, .slice Am nm cm, .int .i64 st], .agg #[.int .i64 kd, .int .i64 now, .slice Ak nk ck]] w fun e w' => e = .returned (.tuple #[.agg #[.int .i64 n, .int .i64 k, .bool false, .slice none 0 0, .int .i64 0], .bool true]) ∧ PV lo w' p g n k false [] 0 ∧ Nx p p w w' := by
  obtain ⟨X, hX⟩ : ∃ X, w.heap.size = X := ⟨_, rfl⟩
  obtain ⟨W0, hW0⟩ : ∃ W0, ((w.alloc (.cells #[.int .i64 n, .int .i64 k, .bool has, .slice Am nm cm, .int .i64 st] 26)).alloc (.cells #[.int .i64 kd, .int .i64 now, .slice Ak nk ck] 33)).alloc (.cells #[.int .i64 0, .int .i64 0, .bool false, .slice none 0 0, .int .i64 0] 26) = W0 := ⟨_, rfl⟩
  have B0 : Hid (Below X w W0) := by rw [← hW0, ← hX]; exact ((((Below.refl _ _).alloc (Nat.le_refl _) _).alloc (by simp) _).alloc (by simp; omega) _)
  have S0 : Hid (W0.heap.size = X + 3) := by unfold Hid; rw [← hW0, ← hX]; simp
  have HX0 : Hid (W0.heap[X]? = some (.cells #[.int .i64 n, .int .i64 k, .bool has, .slice Am nm cm, .int .i64 st] 26 (0, 0))) := by
    rw [← hW0, ← hX]; exact (heap_old _ _ (by simp; omega)).trans ((heap_old _ _ (by simp)).trans (heap_alloc_new _ _))
  have HP0 : Hid (W0.heap[X + 1]? = some (.cells #[.int .i64 kd, .int .i64 now, .slice Ak nk ck] 33 (0, 0))) := by
    rw [← hW0, ← hX]; have := heap_alloc_new (w.alloc (.cells #[.int .i64 n, .int .i64 k, .bool has, .slice Am nm cm, .int .i64 st] 26)) (.cells #[.int .i64 kd, .int .i64 now, .slice Ak nk ck] 33); unfold Hid; exact (heap_old _ _ (by simp)).trans (by simpa using this)
  have HZ0 : Hid (W0.heap[X + 2]? = some (.cells #[.int .i64 0, .int .i64 0, .bool false, .slice none 0 0, .int .i64 0] 26 (0, 0))) := by
    rw [← hW0, ← hX]; have := heap_alloc_new ((w.alloc (.cells #[.int .i64 n, .int .i64 k, .bool has, .slice Am nm cm, .int .i64 st] 26)).alloc (.cells #[.int .i64 kd, .int .i64 now, .slice Ak nk ck] 33)) (.cells #[.int .i64 0, .int .i64 0, .bool false, .slice none 0 0, .int .i64 0] 26); unfold Hid; simpa using this
  have hpx : Hid (∀ b, p b → b < X) := fun b hb => by have := (h.low b hb).2; omega
  have HPP : Hid (∀ b, X ≤ b → ¬ p b) := fun b hb hq => by have := hpx.out b hq; omega
  have B0w : Below w.heap.size w W0 := by rw [hX]; exact B0.out
  have CP := Lib.hid (clear_any lo p g n k has M st W0 (h.below B0w))
  have HB0w := Lib.hid B0w
  have p0 : W0.cell? ⟨X + 1, 0, none⟩ = some (.int .i64 kd) := by rw [(row_cell HP0.out 0).1]; rfl
  have p1 : W0.cell? ⟨X + 1, 1, none⟩ = some (.int .i64 now) := by rw [(row_cell HP0.out 1).1]; rfl
  have p2 : W0.cell? ⟨X + 1, 2, none⟩ = some (.slice Ak nk ck) := by rw [(row_cell HP0.out 2).1]; rfl
  clear h B0w
  go_enter Try.func11, Try.ntmps11
  go_wp2_with fail
  refine CP.out.mono ?_
  rintro e w1 ⟨rfl, q1, n1⟩
  have Q1 := Lib.hid q1
  have N1 := Lib.hid n1
  have hx1 : w1.heap[X]? = some (.cells #[.int .i64 n, .int .i64 k, .bool has, .slice Am nm cm, .int .i64 st] 26 (0, 0)) := (n1.fo.block _ (by have := S0.out; omega) (HPP.out _ (by omega))).trans HX0.out
  have hz1 : w1.heap[X + 2]? = some (.cells #[.int .i64 0, .int .i64 0, .bool false, .slice none 0 0, .int .i64 0] 26 (0, 0)) := (n1.fo.block _ (by have := S0.out; omega) (HPP.out _ (by omega))).trans HZ0.out
  have HZ1 := Lib.hid hz1
  have x0 : w1.cell? ⟨X, 0, none⟩ = some (.int .i64 n) := by rw [(row_cell hx1 0).1]; rfl
  have x1 : w1.cell? ⟨X, 1, none⟩ = some (.int .i64 k) := by rw [(row_cell hx1 1).1]; rfl
  have x2 : w1.cell? ⟨X, 2, none⟩ = some (.bool has) := by rw [(row_cell hx1 2).1]; rfl
  have x3 : w1.cell? ⟨X, 3, none⟩ = some (.slice Am nm cm) := by rw [(row_cell hx1 3).1]; rfl
  have x4 : w1.cell? ⟨X, 4, none⟩ = some (.int .i64 st) := by rw [(row_cell hx1 4).1]; rfl
  have z0 : w1.cell? ⟨X + 2, 0, none⟩ = some (.int .i64 0) := by rw [(row_cell hz1 0).1]; rfl
  have zf0 : w1.frozen? ⟨X + 2, 0, none⟩ = false := (row_cell hz1 0).2
  have z1 : w1.cell? ⟨X + 2, 1, none⟩ = some (.int .i64 0) := by rw [(row_cell hz1 1).1]; rfl
  have zf1 : w1.frozen? ⟨X + 2, 1, none⟩ = false := (row_cell hz1 1).2
  have z2 : w1.cell? ⟨X + 2, 2, none⟩ = some (.bool false) := by rw [(row_cell hz1 2).1]; rfl
  have zf2 : w1.frozen? ⟨X + 2, 2, none⟩ = false := (row_cell hz1 2).2
  have z3 : w1.cell? ⟨X + 2, 3, none⟩ = some (.slice none 0 0) := by rw [(row_cell hz1 3).1]; rfl
  have zf3 : w1.frozen? ⟨X + 2, 3, none⟩ = false := (row_cell hz1 3).2
  have z4 : w1.cell? ⟨X + 2, 4, none⟩ = some (.int .i64 0) := by rw [(row_cell hz1 4).1]; rfl
  have zf4 : w1.frozen? ⟨X + 2, 4, none⟩ = false := (row_cell hz1 4).2
  clear q1 n1 hx1 hz1 CP p0 p1 p2
  go_wp2_with fail
  refine bodyPost_ret (results_cell_tmp rfl _ _ (X + 2) _ _ rfl (set_five HZ1.out _ _ _ _ _) Try.underlying26 rfl (by kernel_rfl)) rfl ?_
  have hf : Fo (fun b => b = X + 2) w1 (((((w1.setCell ⟨X + 2, 0, none⟩ (.int .i64 n)).setCell ⟨X + 2, 1, none⟩ (.int .i64 k)).setCell ⟨X + 2, 2, none⟩ (.bool false)).setCell ⟨X + 2, 3, none⟩ (.slice none 0 0)).setCell ⟨X + 2, 4, none⟩ (.int .i64 0)) := (((((Fo.refl (fun b => b = X + 2) w1).setCell (.inl rfl) 0 _).setCell (.inl rfl) 1 _).setCell (.inl rfl) 2 _).setCell (.inl rfl) 3 _).setCell (.inl rfl) 4 _
  exact ⟨rfl, Q1.out.fo hf (fun b hb e => by have := hpx.out b hb; omega), ((Fo.of_below HB0w.out).trans N1.out.fo fun i hi => .inl hi).trans hf fun i hi => .inr (by omega), fun b hb => .inl hb⟩
set_option maxRecDepth 100000 in
set_option maxHeartbeats 4000000 in
/-- Whatever is done with a port, and the document's: they answer alike, and are alike behind it. -/
theorem do_any (lo : Nat) (p : Nat → Prop) (g : Nat) (n k : Int) (has : Bool) (M : List Int) (st : Int) (Am : Option Addr) (nm cm : Nat) (Ak : Option Addr) (nk ck : Nat) (kd now : Int) (K : List Int) (w : World) (h : PV lo w p g n k has M st) (hs : Sq w (fun b => ¬ p b) (.slice Am M.length cm) M.length (CU M)) (hv : Sq w (fun b => ¬ p b) (.slice Ak nk ck) nk (CU K)) (hc : nk ≤ ck) (hA : Ak = none → ck = 0) :
    Calls Try.prog 11 #[.pointer (some ⟨g, 0, none⟩), .agg #[.int .i64 n, .int .i64 k, .bool has, .slice Am M.length cm, .int .i64 st], .agg #[.int .i64 kd, .int .i64 now, .slice Ak nk ck]] w fun e w' => ∃ q has' M' st' A' c', e = .returned (.tuple #[.agg #[.int .i64 n, .int .i64 k, .bool has', .slice A' (M' : List Int).length c', .int .i64 st'], .bool true]) ∧ PV lo w' q g n k has' M' st' ∧ Sq w' (fun b => ¬ q b) (.slice A' M'.length c') M'.length (CU M') ∧ Nx p q w w' := by
  have hb := u64_tmod kd 3 (by decide)
  have hp : ∀ b, p b → b < w.heap.size := fun b hb => (h.low b hb).2
  have hnl := h.nl
  rcases show (IntKind.u64.wrap kd).tmod 3 = 0 ∨ (IntKind.u64.wrap kd).tmod 3 = 1 ∨ (IntKind.u64.wrap kd).tmod 3 = 2 by omega with hk | hk | hk
  · have cf := fun W => few_any Ak nk ck W hc hA
    have hvt := Sq_take hv (Nat.min_le_left nk 40)
    have hkl : K.length = nk := by have := hv.len; simpa [CU] using this
    have hKt : (CU K).take (min nk 40) = CU (K.take (min nk 40)) := by simp [CU, List.map_take]
    have hKl : (K.take (min nk 40)).length = min nk 40 := by rw [List.length_take, hkl]; omega
    rw [hKt] at hvt
    have hvW : ∀ W, Below w.heap.size w W → Sq W (fun b => ¬ p b) (.slice Ak (min nk 40) ck) (K.take (min nk 40)).length (CU (K.take (min nk 40))) := fun W hb => by rw [hKl]; exact hvt.belowP hb
    by_cases ht : tk now
    rotate_left
    · refine (do_write lo p g n k has M st Am M.length cm Ak nk ck (min nk 40) kd now 1 has M M.length st w h hk cf (fun W hb => ?_) (fun W hb => ?_)).mono ?_
      · refine (rwrite_bad n k has Am M.length cm st now _ W ht).mono ?_
        rintro e w' ⟨rfl, b⟩
        exact ⟨Am, cm, rfl, ((hs.below hb).below b).imp fun b _ h => ⟨h.2.2, .inl h.2.1⟩, b⟩
      · refine (write_bad g now _ W ht).mono ?_
        rintro e w' ⟨rfl, rfl⟩
        exact ⟨p, rfl, h.below hb, Nx.refl _ _⟩
      · rintro e w' ⟨q, A', c', rfl, h1, h2, h3⟩
        exact ⟨q, has, M, st, A', c', rfl, h1, h2, h3⟩
    by_cases hn : ((min nk 40 : Nat) : Int) ≤ n
    rotate_left
    · refine (do_write lo p g n k has M st Am M.length cm Ak nk ck (min nk 40) kd now 2 has M M.length st w h hk cf (fun W hb => ?_) (fun W hb => ?_)).mono ?_
      · refine (rwrite_big n k has Am M.length cm st now Ak (min nk 40) ck W ht hn).mono ?_
        rintro e w' ⟨rfl, b⟩
        exact ⟨Am, cm, rfl, ((hs.below hb).below b).imp fun b _ h => ⟨h.2.2, .inl h.2.1⟩, b⟩
      · have := write_big lo p g n k has M st _ _ (K.take (min nk 40)) now W (h.below hb) ht (hvW W hb) (by rw [hKl]; exact hn)
        refine this.mono ?_
        rintro e w' ⟨rfl, rfl⟩
        exact ⟨p, rfl, h.below hb, Nx.refl _ _⟩
      · rintro e w' ⟨q, A', c', rfl, h1, h2, h3⟩
        exact ⟨q, has, M, st, A', c', rfl, h1, h2, h3⟩
    · refine (do_write lo p g n k has M st Am M.length cm Ak nk ck (min nk 40) kd now 0 true (K.take (min nk 40)) (min nk 40) now w h hk cf (fun W hb => ?_) (fun W hb => ?_)).mono ?_
      · have := rwrite_ok n k has Am M.length cm st _ (K.take (min nk 40)) now Ak (min nk 40) ck W ht (by have := hvW W hb; rwa [hKl] at this) hn (by omega)
        refine this.mono ?_
        rintro e w' ⟨A', c', rfl, o, b⟩
        exact ⟨A', c', rfl, (Ow.of_own o).sq.imp fun b _ h => ⟨fun hq => by have := hp b hq; have := hb.size; omega, .inr h⟩, b⟩
      · have := write_any lo p g n k has M st _ _ (K.take (min nk 40)) now W (h.below hb) ht (hvW W hb) (by rw [hKl]; exact hn)
        exact this
      · rintro e w' ⟨q, A', c', rfl, h1, h2, h3⟩
        refine ⟨q, true, K.take (min nk 40), now, A', c', ?_, h1, ?_, h3⟩
        · rw [hKl]
        · rw [hKl]; exact h2
  · have fin : ∀ (e : Ending) (w' : World), (e = Ending.returned (.tuple #[.agg #[.int .i64 n, .int .i64 k, .bool has, .slice Am M.length cm, .int .i64 st], .bool true]) ∧ PV lo w' p g n k has M st ∧ Sq w' (fun b => ¬ p b) (.slice Am M.length cm) M.length (CU M) ∧ Nx p p w w') → ∃ q has' M' st' A' c', e = Ending.returned (.tuple #[.agg #[.int .i64 n, .int .i64 k, .bool has', .slice A' (M' : List Int).length c', .int .i64 st'], .bool true]) ∧ PV lo w' q g n k has' M' st' ∧ Sq w' (fun b => ¬ q b) (.slice A' M'.length c') M'.length (CU M') ∧ Nx p q w w' :=
      fun e w' ⟨h0, h1, h2, h3⟩ => ⟨p, has, M, st, Am, cm, h0, h1, h2, h3⟩
    by_cases ht : tk now
    rotate_left
    · refine (do_read lo p g n k has M st Am M.length cm Ak nk ck kd now 1 false [] w h hs hk (by simp) (fun W hb => ?_) (fun W hb => ?_)).mono fin
      · refine (rread_bad n k has Am M.length cm st now W ht).mono ?_
        rintro e w' ⟨rfl, b⟩
        exact ⟨_, rfl, Sq.nil _ _, b⟩
      · refine (read_bad g now W ht).mono ?_
        rintro e w' ⟨rfl, rfl⟩
        exact ⟨_, rfl, Sq.nil _ _, Below.refl _ _⟩
    cases has with
    | false =>
      refine (do_read lo p g n k false M st Am M.length cm Ak nk ck kd now 9 false [] w h hs hk (by simp) (fun W hb => ?_) (fun W hb => ?_)).mono fin
      · refine (rread_none n k false Am M.length cm st now W ht rfl).mono ?_
        rintro e w' ⟨rfl, b⟩
        exact ⟨_, rfl, Sq.nil _ _, b⟩
      · refine (read_none lo p g n k false M st now W (h.below hb) ht rfl).mono ?_
        rintro e w' ⟨rfl, rfl⟩
        exact ⟨_, rfl, Sq.nil _ _, Below.refl _ _⟩
    | true =>
      refine (do_read lo p g n k true M st Am M.length cm Ak nk ck kd now 0 (decide (now ≤ st + k)) M w h hs hk (by omega) (fun W hb => ?_) (fun W hb => ?_)).mono fin
      · refine (rread_ok n k true Am M.length cm st _ M now W ht rfl (hs.belowP hb) (by omega) (by omega)).mono ?_
        rintro e w' ⟨r, rfl, o, b⟩
        exact ⟨_, rfl, (Ow.of_own o).sq.imp fun _ _ _ => trivial, b⟩
      · refine (read_any lo p g n k true M st now W (h.below hb) ht rfl).mono ?_
        rintro e w' ⟨r, rfl, o, b⟩
        exact ⟨_, rfl, (Ow.of_own o).sq.imp fun _ _ _ => trivial, b⟩
  · refine (do_clear lo p g n k has M st Am M.length cm Ak nk ck kd now w h hk).mono ?_
    rintro e w' ⟨rfl, h1, h3⟩
    exact ⟨p, false, [], 0, none, 0, rfl, h1, Sq.nil _ _, h3⟩
end Go.Proofs.Ytmodkfboolmckaa.Sa
