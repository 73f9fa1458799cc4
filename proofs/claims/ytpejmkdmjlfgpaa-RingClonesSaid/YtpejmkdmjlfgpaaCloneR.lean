/-
  The contract of the ring's Clone. Its statement bears its own conditions.
-/
import Derived.Test.YtpejmkdmjlfgpaaActsLaw
import Derived.Lib.SlBuf
import Derived.Deep.MidRow
namespace Go.Proofs.Ytpejmkdmjlfgpaa
open Go.RowKit
set_option linter.unusedSimpArgs false
set_option linter.unusedVariables false
/-- A new block that is to be a clone. -/
structure Shell (w : World) (g n m N : Nat) : Prop where
  lt : g < w.heap.size
  c0 : w.cell? ⟨g, 0, none⟩ = some (.int .i64 (n : Int))
  c1 : w.cell? ⟨g, 1, none⟩ = some (.int .i64 (m : Int))
  c2 : w.cell? ⟨g, 2, none⟩ = some (.int .i64 0)
  c3 : w.cell? ⟨g, 3, none⟩ = some (.int .i64 (N : Int))
  fz : ∀ o, w.frozen? ⟨g, o, none⟩ = false
  sl : ∀ i, i < 32 → (w.cell? ⟨g, 4 + i, none⟩).isSome = true
def shellL (n m N : Nat) : List Value := [.int .i64 (n : Int), .int .i64 (m : Int), .int .i64 0, .int .i64 (N : Int)] ++ List.replicate 32 (.slice none 0 0)
theorem shell_new (w : World) (n m N : Nat) (C : Array Value) (hC : C = (shellL n m N).toArray) : Shell (w.alloc (.cells C 66)) w.heap.size n m N := by
  subst hC
  refine ⟨by simp, by rw [World.cell?_alloc_new]; rfl, by rw [World.cell?_alloc_new]; rfl, by rw [World.cell?_alloc_new]; rfl, by rw [World.cell?_alloc_new]; rfl, fun o => by simp, fun i hi => ?_⟩
  rw [World.cell?_alloc_new]
  have e : (shellL n m N).length = 36 := rfl
  simp only [List.getElem?_toArray]
  rw [List.getElem?_eq_getElem (by omega)]; rfl
theorem Shell.below {w w' : World} {g n m N : Nat} (h : Shell w g n m N) (hb : Below w.heap.size w w') : Shell w' g n m N := by
  have hg := hb.block g h.lt
  exact ⟨Nat.lt_of_lt_of_le h.lt hb.size, (World.cell?_of_block (a := ⟨g, 0, none⟩) hg).trans h.c0, (World.cell?_of_block (a := ⟨g, 1, none⟩) hg).trans h.c1, (World.cell?_of_block (a := ⟨g, 2, none⟩) hg).trans h.c2, (World.cell?_of_block (a := ⟨g, 3, none⟩) hg).trans h.c3,
    fun o => (World.frozen?_of_block (a := ⟨g, o, none⟩) hg).trans (h.fz o), fun i hi => by rw [World.cell?_of_block (a := ⟨g, 4 + i, none⟩) hg]; exact h.sl i hi⟩
/-- The messages laid into it. -/
theorem shell_fill {w : World} {g n m : Nat} {L : List (List Int)} {vs : List Value} (h : Shell w g n m L.length) (hn : 1 ≤ n ∧ n ≤ 32) (hm : 1 ≤ m ∧ m ≤ 32) (hL : L.length ≤ n) (hsz : ∀ i, i < L.length → (L.getD i []).length ≤ 32) (hv : vs.length = L.length)
    (hs : ∀ j, j < L.length → Slot w (fun b => g < b ∧ b < w.heap.size) (vs.getD j undef) (L.getD j [])) : RingF (w.setCells g 4 vs) (fun b => g < b ∧ b < (w.setCells g 4 vs).heap.size) g n m 0 L := by
  have P : Past g w (w.setCells g 4 vs) := past_setCells vs 4 w (Past.refl g w)
  have co : ∀ i, i < 4 → (w.setCells g 4 vs).cell? ⟨g, i, none⟩ = w.cell? ⟨g, i, none⟩ := fun i hi => World.cell?_setCells_out g vs 4 w _ (fun _ _ => .inl hi)
  refine ⟨Nat.lt_of_lt_of_le h.lt P.size, fun hh => by omega, hn, hm, by omega, hL, hsz, (co 0 (by omega)).trans h.c0, (co 1 (by omega)).trans h.c1, (co 2 (by omega)).trans h.c2, (co 3 (by omega)).trans h.c3, fun i => by rw [World.frozen?_setCells]; exact h.fz i, fun i hi => World.isSome_setCells g vs 4 w _ (h.sl i hi), fun i hi => ?_⟩
  have hi2 : i < vs.length := by omega
  refine ⟨vs[i], ?_, ?_⟩
  · rw [Nat.zero_add, Nat.mod_eq_of_lt (by omega)]
    exact World.cell?_setCells_in g vs 4 w (fun j hj => h.sl j (by omega)) i hi2
  · have := hs i hi
    rw [List.getD_eq_getElem?_getD, List.getElem?_eq_getElem hi2] at this
    exact (this.keep P.size fun k hk hq => P.block k hk (by omega)).more fun b hb => ⟨hb.1, Nat.lt_of_lt_of_le hb.2 P.size⟩

set_option maxHeartbeats 2000000 in
theorem cloneR_any (w : World) (Q : Nat → Prop) (g n m f : Nat) (L : List (List Int)) (h : RingF w Q g n m f L) :
    Calls Try.prog 22 #[.pointer (some ⟨g, 0, none⟩)] w fun e w' => e = .returned (.pointer (some ⟨w.heap.size, 0, none⟩)) ∧ RingF w' (fun b => w.heap.size < b ∧ b < w'.heap.size) w.heap.size n m 0 L ∧ Below w.heap.size w w' := by
  have x0 := h.cell0
  have x1 := h.cell1
  have x3 := h.cell3
  have HR := Lib.hid h
  obtain ⟨NL, hNL⟩ : ∃ NL, Hid (L.length = NL) := ⟨_, rfl⟩
  rw [hNL.out] at x3
  clear h
  go_enter Try.func22, Try.ntmps22
  go_wp2_with fail
  refine wp_region_held_drew (S := (fun w' => Below w.heap.size w w' ∧ w'.cell? ⟨g, 0, none⟩ = some (.int .i64 (n : Int)) ∧ w'.cell? ⟨g, 1, none⟩ = some (.int .i64 (m : Int)) ∧ w'.cell? ⟨g, 3, none⟩ = some (.int .i64 (NL : Int)))) (by kernel_rfl) ?_ (fun hHeld => ?_)
  · exact ⟨(Below.refl _ _).drew, x0, x1, x3⟩
  refine takeD (i := 0) (d := some 6) (v := ?_) _ rfl rfl (by kernel_rfl) (by kernel_rfl) (by kernel_rfl) (fun _ _ _ h => h) (by rfl) ?_ (by assumption) ?_
  rotate_left
  · (intro w hSw; (try dsimp only at hSw); go_simp) <;> with_reducible rfl
  try simp only [Act.put, List.setIfInBounds_toArray, List.set_cons_zero, List.set_cons_succ]
  refine takeD (i := 1) (d := some 7) (v := ?_) _ rfl rfl (by kernel_rfl) (by kernel_rfl) (by kernel_rfl) (fun _ _ _ h => h) (by rfl) ?_ (by assumption) ?_
  rotate_left
  · (intro w hSw; (try dsimp only at hSw); go_simp) <;> with_reducible rfl
  try simp only [Act.put, List.setIfInBounds_toArray, List.set_cons_zero, List.set_cons_succ]
  refine takeD (i := 2) (d := some 8) (v := ?_) _ rfl rfl (by kernel_rfl) (by kernel_rfl) (by kernel_rfl) (fun _ _ _ h => h) (by rfl) ?_ (by assumption) ?_
  rotate_left
  · (intro w hSw; (try dsimp only at hSw); go_simp) <;> with_reducible rfl
  try simp only [Act.put, List.setIfInBounds_toArray, List.set_cons_zero, List.set_cons_succ]
  refine takeD (i := 3) (d := some 9) (v := ?_) _ rfl rfl (by kernel_rfl) (by kernel_rfl) (by kernel_rfl) (fun _ _ _ h => h) (by rfl) ?_ (by assumption) ?_
  rotate_left
  · (intro w hSw; (try dsimp only at hSw); go_simp) <;> with_reducible rfl
  try simp only [Act.put, List.setIfInBounds_toArray, List.set_cons_zero, List.set_cons_succ]
  refine takeD (i := 4) (d := some 10) (v := ?_) _ rfl rfl (by kernel_rfl) (by kernel_rfl) (by kernel_rfl) (fun _ _ _ h => h) (by rfl) ?_ (by assumption) ?_
  rotate_left
  · (intro w hSw; (try dsimp only at hSw); go_simp) <;> with_reducible rfl
  try simp only [Act.put, List.setIfInBounds_toArray, List.set_cons_zero, List.set_cons_succ]
  refine takeD (i := 5) (d := some 11) (v := ?_) _ rfl rfl (by kernel_rfl) (by kernel_rfl) (by kernel_rfl) (fun _ _ _ h => h) (by rfl) ?_ (by assumption) ?_
  rotate_left
  · (intro w hSw; (try dsimp only at hSw); go_simp) <;> with_reducible rfl
  try simp only [Act.put, List.setIfInBounds_toArray, List.set_cons_zero, List.set_cons_succ]
  refine takeD (i := 6) (d := some 12) (v := ?_) _ rfl rfl (by kernel_rfl) (by kernel_rfl) (by kernel_rfl) (fun _ _ _ h => h) (by rfl) ?_ (by assumption) ?_
  rotate_left
  · (intro w hSw; (try dsimp only at hSw); go_simp) <;> with_reducible rfl
  try simp only [Act.put, List.setIfInBounds_toArray, List.set_cons_zero, List.set_cons_succ]
  refine takeD (i := 7) (d := some 13) (v := ?_) _ rfl rfl (by kernel_rfl) (by kernel_rfl) (by kernel_rfl) (fun _ _ _ h => h) (by rfl) ?_ (by assumption) ?_
  rotate_left
  · (intro w hSw; (try dsimp only at hSw); go_simp) <;> with_reducible rfl
  try simp only [Act.put, List.setIfInBounds_toArray, List.set_cons_zero, List.set_cons_succ]
  refine takeD (i := 8) (d := some 14) (v := ?_) _ rfl rfl (by kernel_rfl) (by kernel_rfl) (by kernel_rfl) (fun _ _ _ h => h) (by rfl) ?_ (by assumption) ?_
  rotate_left
  · (intro w hSw; (try dsimp only at hSw); go_simp) <;> with_reducible rfl
  try simp only [Act.put, List.setIfInBounds_toArray, List.set_cons_zero, List.set_cons_succ]
  refine takeD (i := 9) (d := some 15) (v := ?_) _ rfl rfl (by kernel_rfl) (by kernel_rfl) (by kernel_rfl) (fun _ _ _ h => h) (by rfl) ?_ (by assumption) ?_
  rotate_left
  · (intro w hSw; (try dsimp only at hSw); go_simp) <;> with_reducible rfl
  try simp only [Act.put, List.setIfInBounds_toArray, List.set_cons_zero, List.set_cons_succ]
  refine takeD (i := 10) (d := some 16) (v := ?_) _ rfl rfl (by kernel_rfl) (by kernel_rfl) (by kernel_rfl) (fun _ _ _ h => h) (by rfl) ?_ (by assumption) ?_
  rotate_left
  · (intro w hSw; (try dsimp only at hSw); go_simp) <;> with_reducible rfl
  try simp only [Act.put, List.setIfInBounds_toArray, List.set_cons_zero, List.set_cons_succ]
  refine takeD (i := 11) (d := some 17) (v := ?_) _ rfl rfl (by kernel_rfl) (by kernel_rfl) (by kernel_rfl) (fun _ _ _ h => h) (by rfl) ?_ (by assumption) ?_
  rotate_left
  · (intro w hSw; (try dsimp only at hSw); go_simp) <;> with_reducible rfl
  try simp only [Act.put, List.setIfInBounds_toArray, List.set_cons_zero, List.set_cons_succ]
  refine takeD (i := 12) (d := some 18) (v := ?_) _ rfl rfl (by kernel_rfl) (by kernel_rfl) (by kernel_rfl) (fun _ _ _ h => h) (by rfl) ?_ (by assumption) ?_
  rotate_left
  · (intro w hSw; (try dsimp only at hSw); go_simp) <;> with_reducible rfl
  try simp only [Act.put, List.setIfInBounds_toArray, List.set_cons_zero, List.set_cons_succ]
  have HP := hHeld
  refine wpAnyH_ready (rs := [13]) (by kernel_rfl) (by simp) ?_
  refine AllReadyH.cons rfl (fun K hK => ?_) AllReadyH.nil
  go_simp
  refine hK.out _ _ ?_ (fun hHeld => ?_)
  · exact ⟨HP.1.alloc HP.1.size _, cell_al _ HP.2.1, cell_al _ HP.2.2.1, cell_al _ HP.2.2.2⟩
  clear hK K
  try simp only [Act.put, List.setIfInBounds_toArray, List.set_cons_zero, List.set_cons_succ]
  refine takeD (i := 14) (d := some 3) (v := ?_) _ rfl rfl (by kernel_rfl) (by kernel_rfl) (by kernel_rfl) (fun _ _ _ h => h) (by rfl) ?_ (by assumption) ?_
  rotate_left
  · (intro w hSw; (try dsimp only at hSw); go_simp) <;> with_reducible rfl
  try simp only [Act.put, List.setIfInBounds_toArray, List.set_cons_zero, List.set_cons_succ]
  refine wpAnyH_done (by kernel_rfl) ?_ _
  have SH : Shell ((w.alloc (.cells #[.int .i64 (n : Int), .int .i64 (m : Int), .int .i64 0, .int .i64 (NL : Int), .slice none 0 0, .slice none 0 0, .slice none 0 0, .slice none 0 0, .slice none 0 0, .slice none 0 0, .slice none 0 0, .slice none 0 0, .slice none 0 0, .slice none 0 0, .slice none 0 0, .slice none 0 0, .slice none 0 0, .slice none 0 0, .slice none 0 0, .slice none 0 0, .slice none 0 0, .slice none 0 0, .slice none 0 0, .slice none 0 0, .slice none 0 0, .slice none 0 0, .slice none 0 0, .slice none 0 0, .slice none 0 0, .slice none 0 0, .slice none 0 0, .slice none 0 0, .slice none 0 0, .slice none 0 0, .slice none 0 0, .slice none 0 0] 66)).drew) w.heap.size n m NL := (shell_new w n m NL _ rfl).below (Below.refl _ _).drew
  have BH : Below w.heap.size w ((w.alloc (.cells #[.int .i64 (n : Int), .int .i64 (m : Int), .int .i64 0, .int .i64 (NL : Int), .slice none 0 0, .slice none 0 0, .slice none 0 0, .slice none 0 0, .slice none 0 0, .slice none 0 0, .slice none 0 0, .slice none 0 0, .slice none 0 0, .slice none 0 0, .slice none 0 0, .slice none 0 0, .slice none 0 0, .slice none 0 0, .slice none 0 0, .slice none 0 0, .slice none 0 0, .slice none 0 0, .slice none 0 0, .slice none 0 0, .slice none 0 0, .slice none 0 0, .slice none 0 0, .slice none 0 0, .slice none 0 0, .slice none 0 0, .slice none 0 0, .slice none 0 0, .slice none 0 0, .slice none 0 0, .slice none 0 0, .slice none 0 0] 66)).drew) := ((Below.refl _ w).alloc (Nat.le_refl _) _).drew
  have SZ : ((w.alloc (.cells #[.int .i64 (n : Int), .int .i64 (m : Int), .int .i64 0, .int .i64 (NL : Int), .slice none 0 0, .slice none 0 0, .slice none 0 0, .slice none 0 0, .slice none 0 0, .slice none 0 0, .slice none 0 0, .slice none 0 0, .slice none 0 0, .slice none 0 0, .slice none 0 0, .slice none 0 0, .slice none 0 0, .slice none 0 0, .slice none 0 0, .slice none 0 0, .slice none 0 0, .slice none 0 0, .slice none 0 0, .slice none 0 0, .slice none 0 0, .slice none 0 0, .slice none 0 0, .slice none 0 0, .slice none 0 0, .slice none 0 0, .slice none 0 0, .slice none 0 0, .slice none 0 0, .slice none 0 0, .slice none 0 0, .slice none 0 0] 66)).drew).heap.size = w.heap.size + 1 := by simp
  clear hHeld HP
  go_wp2_with fail
  generalize (w.alloc (.cells #[.int .i64 (n : Int), .int .i64 (m : Int), .int .i64 0, .int .i64 (NL : Int), .slice none 0 0, .slice none 0 0, .slice none 0 0, .slice none 0 0, .slice none 0 0, .slice none 0 0, .slice none 0 0, .slice none 0 0, .slice none 0 0, .slice none 0 0, .slice none 0 0, .slice none 0 0, .slice none 0 0, .slice none 0 0, .slice none 0 0, .slice none 0 0, .slice none 0 0, .slice none 0 0, .slice none 0 0, .slice none 0 0, .slice none 0 0, .slice none 0 0, .slice none 0 0, .slice none 0 0, .slice none 0 0, .slice none 0 0, .slice none 0 0, .slice none 0 0, .slice none 0 0, .slice none 0 0, .slice none 0 0, .slice none 0 0] 66)).drew = W1 at *
  have RW := HR.out.below BH
  have AL := Lib.hid (all_any W1.drew Q g n m f L (RW.below (Below.refl _ _).drew))
  rw [hNL.out] at AL
  have gl := HR.out.lt
  have HSH := Lib.hid SH
  have HBH := Lib.hid BH
  have HSZ := Lib.hid SZ
  clear RW SH BH SZ x0 x1 x3
  refine wp_region_held_drew (S := (fun w' => Below w.heap.size w w')) (by kernel_rfl) ?_ (fun hHeld => ?_)
  · exact HBH.out.drew
  refine takeD (i := 0) (d := some 20) (v := ?_) _ rfl rfl (by kernel_rfl) (by kernel_rfl) (by kernel_rfl) (fun _ _ _ h => h) (by rfl) ?_ (by assumption) ?_
  rotate_left
  · (intro w hSw; (try dsimp only at hSw); go_simp) <;> with_reducible rfl
  try simp only [Act.put, List.setIfInBounds_toArray, List.set_cons_zero, List.set_cons_succ]
  refine takeD (i := 1) (d := some 21) (v := ?_) _ rfl rfl (by kernel_rfl) (by kernel_rfl) (by kernel_rfl) (fun _ _ _ h => h) (by rfl) ?_ (by assumption) ?_
  rotate_left
  · (intro w hSw; (try dsimp only at hSw); go_simp) <;> with_reducible rfl
  try simp only [Act.put, List.setIfInBounds_toArray, List.set_cons_zero, List.set_cons_succ]
  refine takeD (i := 2) (d := some 22) (v := ?_) _ rfl rfl (by kernel_rfl) (by kernel_rfl) (by kernel_rfl) (fun _ _ _ h => h) (by rfl) ?_ (by assumption) ?_
  rotate_left
  · (intro w hSw; (try dsimp only at hSw); go_simp) <;> with_reducible rfl
  try simp only [Act.put, List.setIfInBounds_toArray, List.set_cons_zero, List.set_cons_succ]
  refine takeD (i := 3) (d := some 23) (v := ?_) _ rfl rfl (by kernel_rfl) (by kernel_rfl) (by kernel_rfl) (fun _ _ _ h => h) (by rfl) ?_ (by assumption) ?_
  rotate_left
  · (intro w hSw; (try dsimp only at hSw); go_simp) <;> with_reducible rfl
  try simp only [Act.put, List.setIfInBounds_toArray, List.set_cons_zero, List.set_cons_succ]
  refine takeD (i := 4) (d := some 24) (v := ?_) _ rfl rfl (by kernel_rfl) (by kernel_rfl) (by kernel_rfl) (fun _ _ _ h => h) (by rfl) ?_ (by assumption) ?_
  rotate_left
  · (intro w hSw; (try dsimp only at hSw); go_simp) <;> with_reducible rfl
  try simp only [Act.put, List.setIfInBounds_toArray, List.set_cons_zero, List.set_cons_succ]
  refine wpAnyH_ready (rs := [5]) (by kernel_rfl) (by simp) ?_
  refine AllReadyH.cons rfl (fun K hK => ?_) AllReadyH.nil
  (go_simp; go_at_call 13; refine AL.out.mono ?_; rintro e wa ⟨A, c, vs, rfl, hoy, hsy, hby⟩; try go_wp2_with fail)
  refine hK.out _ _ ?_ (fun hHeld => ?_)
  · exact hHeld.trans (hby.mono hHeld.size)
  clear hK K
  try simp only [Act.put, List.setIfInBounds_toArray, List.set_cons_zero, List.set_cons_succ]
  have SA := (HSH.out.below (Below.refl _ _).drew).below hby
  have hvl : vs.length = NL := by have := hoy.1; simpa using this
  have hsl : ∀ j, j < L.length → Slot wa (fun b => w.heap.size < b ∧ b < wa.heap.size) (vs.getD j undef) (L.getD j []) := fun j hj => (hsy j (by rw [← hNL.out]; exact hj)).more fun b hb => ⟨by have := hb.1; have := HSZ.out; have e : W1.drew.heap.size = W1.heap.size := rfl; omega, hb.2.1⟩
  have FIN := shell_fill (g := w.heap.size) (by rw [hNL.out]; exact SA) HR.out.room HR.out.words HR.out.fit HR.out.size (by rw [hNL.out]; exact hvl) hsl
  have n32 : NL ≤ 32 := by have := HR.out.fit; have := HR.out.room; rw [← hNL.out]; omega
  have RUN : (Builtin.copy_ #[24, 24] 3 #[.slice (some ⟨w.heap.size, 4, none⟩) 32 32, .slice A NL c]).run Try.prog wa = .ok (goInt NL) (wa.setCells w.heap.size 4 vs) := by
    rcases Nat.eq_zero_or_pos NL with h0 | h0
    · subst h0
      have hv0 : vs = [] := List.eq_nil_of_length_eq_zero hvl
      subst hv0
      exact run_copy_none wa 24 24 3 32 _ _ 32 32 0 c Try.underlying24 (by kernel_rfl) (by simp)
    · obtain ⟨gl', rfl, _, _⟩ := own_at hoy h0
      have := run_copy_cells (P := Try.prog) wa 24 24 3 32 w.heap.size 4 32 32 ⟨gl', 0, none⟩ NL c vs Try.underlying24 (by kernel_rfl) (by rw [hvl]; exact (Nat.min_eq_left n32).symm)
        (fun j v hj => (Reads.of_own hoy).2 h0 |>.elim fun ad had => by
          obtain ⟨e, _, hc⟩ := had
          injection e with e; subst e
          exact hc j v hj) (fun j hj => SA.sl j (by omega)) (fun j hj => SA.fz _) (by
          intro u hu
          obtain ⟨i, hi, rfl⟩ := List.getElem_of_mem hu
          obtain ⟨A1, c1, hv, _⟩ := (hsl i (by rw [hNL.out]; omega)).ex
          rw [List.getD_eq_getElem?_getD, List.getElem?_eq_getElem hi] at hv
          have hv' : vs[i] = _ := hv
          rw [hv']; rfl)
      rw [hvl] at this; exact this
  have BB : Below w.heap.size w (wa.setCells w.heap.size 4 vs) := below_setCells w.heap.size (Nat.le_refl _) vs 4 wa hHeld
  refine wpAnyH_ready (rs := [6]) (by kernel_rfl) (by simp) ?_
  refine AllReadyH.cons rfl (fun K hK => ?_) AllReadyH.nil
  rw [if_pos (by rfl)]
  refine Lib.wp_copy_run _ (.tmp 23) (.tmp 25) 24 24 rfl _ _ rfl rfl RUN ?_
  refine hK.out _ _ ?_ (fun hHeld => ?_)
  · exact BB
  clear hK K
  try simp only [Act.put, List.setIfInBounds_toArray, List.set_cons_zero, List.set_cons_succ]
  refine wpAnyH_done (by kernel_rfl) ?_ _
  go_wp2_with fail
  go_ret
  exact ⟨rfl, FIN, BB⟩
end Go.Proofs.Ytpejmkdmjlfgpaa
