/-
  The law's do. Each statement bears its own conditions.
-/
import Derived.Test.YtehlgfflbbfjkaaEvC
namespace Go.Proofs.Ytehlgfflbbfjkaa.E
open Go.RowKit Go.Proofs.Ytehlgfflbbfjkaa.I
set_option linter.unusedVariables false
set_option linter.unusedSimpArgs false
theorem lowK (K : Int) (hK : 1 ≤ K ∧ K ≤ 100) (x : Int) : ∃ u q : Nat, IntKind.u64.wrap x = (u : Int) ∧ (u : Int) % K = (q : Int) ∧ ((u : Int).tmod K) = (q : Int) ∧ (q : Int) < K ∧ IntKind.i64.wrap (q : Int) = (q : Int) := by
  obtain ⟨u, hu⟩ : ∃ u : Nat, IntKind.u64.wrap x = (u : Int) := ⟨(IntKind.u64.wrap x).toNat, by rw [IntKind.wrap_u64]; omega⟩
  have h1 : 0 ≤ (u : Int) % K := Int.emod_nonneg _ (by omega)
  have h2 : (u : Int) % K < K := Int.emod_lt_of_pos _ (by omega)
  obtain ⟨q, hq⟩ : ∃ q : Nat, (u : Int) % K = (q : Int) := ⟨((u : Int) % K).toNat, by omega⟩
  refine ⟨u, q, hu, hq, ?_, by omega, wrap_ok (by omega) (by omega)⟩
  rw [Int.tmod_eq_emod_of_nonneg (by omega)]; exact hq
/-- What do leaves. -/
def DoP (lo g rb : Nat) (p : Nat → Prop) (up : Bool) (L : List Int) (w : World) (e : Ending) (w' : World) : Prop :=
  ∃ v' rb' up' L', e = .returned (.tuple #[.agg #[.bool up', v'], .bool true]) ∧ EV lo w' g rb' up' L' ∧ Rl w' v' (fun b => (b < w.heap.size ∧ p b) ∨ (w.heap.size ≤ b ∧ b ≠ rb')) L' ∧ Nx g rb rb' w w' ∧ ((up = true → L = []) → (up' = true → L' = [])) ∧ L'.length ≤ L.length + 1
theorem Ch.setCell {g rb : Nat} {w w' : World} (h : Ch g rb w w') {s : Nat} (hs : w.heap.size ≤ s) (o : Nat) (u : Value) : Ch g rb w (w'.setCell ⟨s, o, none⟩ u) :=
  ⟨h.os, h.tape, h.output, by simpa using h.size, fun k hk h1 h2 => (set_far o u (by omega)).trans (h.block k hk h1 h2)⟩
theorem do_fin {lo g rb rb' s : Nat} {up : Bool} {L : List Int} {v : Value} {p : Nat → Prop} {w wx : World} (hs : w.heap.size ≤ s) (hg : g < w.heap.size) (E : EV lo wx g rb' up L) (hr : rb' ≠ s) (R : Rl wx v p L) (hp : ∀ b, p b → b ≠ s) (N : Nx g rb rb' w wx) (a b : Value) :
    EV lo ((wx.setCell ⟨s, 0, none⟩ a).setCell ⟨s, 1, none⟩ b) g rb' up L ∧ Rl ((wx.setCell ⟨s, 0, none⟩ a).setCell ⟨s, 1, none⟩ b) v p L ∧ Nx g rb rb' w ((wx.setCell ⟨s, 0, none⟩ a).setCell ⟨s, 1, none⟩ b) := by
  refine ⟨E.keep (by simp) ?_ ?_, (R.keep (by simp) fun b _ hb => ?_).imp fun _ _ h => h.2, (N.ch.setCell hs _ _).setCell hs _ _, N.rb⟩
  · rw [set_far _ _ (by omega), set_far _ _ (by omega)]
  · rw [set_far _ _ hr, set_far _ _ hr]
  · rw [set_far _ _ (hp b hb), set_far _ _ (hp b hb)]
set_option maxRecDepth 100000 in
set_option maxHeartbeats 4000000 in
theorem do_0 (lo g rb : Nat) (up : Bool) (L : List Int) (v : Value) (p : Nat → Prop) (x id : Int) (u : Nat) (w : World) (h : EV lo w g rb up L) (hv : Rl w v p L) (hp : ∀ b, p b → b ≠ g ∧ b ≠ rb) (hL : L.length ≤ 900)
    (hu : IntKind.u64.wrap x = (u : Int)) (hq : (u : Int) % 4 = 0) (hq' : (u : Int).tmod 4 = 0) :
    Calls Try.prog 11 #[.pointer (some ⟨g, 0, none⟩), .agg #[.bool up, v], .agg #[.int .i64 x, .int .i64 id]] w (DoP lo g rb p up L w) := by
  obtain ⟨s, hs⟩ : ∃ s, w.heap.size = s := ⟨_, rfl⟩
  obtain ⟨W0, hW0⟩ : ∃ W0, ((w.alloc (.cells #[.bool up, v] 28)).alloc (.cells #[.int .i64 x, .int .i64 id] 32)).alloc (.cells #[.bool false, .slice none 0 0] 28) = W0 := ⟨_, rfl⟩
  have HS := Lib.hid hs
  have B0 : Hid (Below w.heap.size w W0) := by unfold Hid; rw [← hW0]; exact ((((Below.refl _ _).alloc (Nat.le_refl _) _).alloc (by simp) _).alloc (by simp; omega) _)
  have S0 : Hid (W0.heap.size = s + 3) := by unfold Hid; rw [← hW0, ← hs]; simp
  have HX0 : Hid (W0.heap[s]? = some (.cells #[.bool up, v] 28 (0, 0))) := by
    unfold Hid
    rw [← hW0, ← hs, heap_alloc_old _ _ (by simp; omega), heap_alloc_old _ _ (by simp)]
    exact heap_alloc_new _ _
  have HO0 : Hid (W0.heap[s + 1]? = some (.cells #[.int .i64 x, .int .i64 id] 32 (0, 0))) := by
    unfold Hid
    rw [← hW0, ← hs, heap_alloc_old _ _ (by simp)]
    have := heap_alloc_new (w.alloc (.cells #[.bool up, v] 28)) (.cells #[.int .i64 x, .int .i64 id] 32)
    simpa using this
  have HY0 : Hid (W0.heap[s + 2]? = some (.cells #[.bool false, .slice none 0 0] 28 (0, 0))) := by
    unfold Hid
    rw [← hW0, ← hs]
    have := heap_alloc_new ((w.alloc (.cells #[.bool up, v] 28)).alloc (.cells #[.int .i64 x, .int .i64 id] 32)) (.cells #[.bool false, .slice none 0 0] 28)
    simpa using this
  have x0 : W0.cell? ⟨s, 0, none⟩ = some (.bool up) := by rw [(row_cell HX0.out 0).1]; rfl
  have x1 : W0.cell? ⟨s, 1, none⟩ = some v := by rw [(row_cell HX0.out 1).1]; rfl
  have o0 : W0.cell? ⟨s + 1, 0, none⟩ = some (.int .i64 x) := by rw [(row_cell HO0.out 0).1]; rfl
  have o1 : W0.cell? ⟨s + 1, 1, none⟩ = some (.int .i64 id) := by rw [(row_cell HO0.out 1).1]; rfl
  have EW : Hid (∀ W, Below W0.heap.size W0 W → EV lo W g rb up L) := fun W hb => (h.below B0.out).below (hb)
  have RW : Hid (∀ W, Below W0.heap.size W0 W → Rl W v (fun b => b < s ∧ p b) L) := fun W hb => by
    have h1 := (hv.below B0.out).imp (q := fun b => b < s ∧ p b) fun b _ h => ⟨by rw [← hs]; exact h.1, h.2⟩
    exact h1.keep_below hb
  have HLT : Hid (g < s ∧ rb < s) := by rw [← hs]; exact h.lt
  have HP := Lib.hid hp
  have HL := Lib.hid hL
  have hw4 : IntKind.i64.wrap 0 = 0 := by kernel_rfl
  obtain ⟨Av, nv, cv, hv'⟩ : ∃ A n c, v = .slice A n c := by
    obtain ⟨b, hb⟩ := hv.row
    obtain ⟨A, c, hb⟩ := slice_form hb.own
    exact ⟨A, _, c, hb⟩
  subst hv'

  clear h hv hp hL
  go_enter Try.func11, Try.ntmps11
  go_wp2_with fail
  refine wp_region_held_drew (S := (fun w' => w'.cell? ⟨s, 1, none⟩ = some (.slice Av nv cv))) (by kernel_rfl) ?_ (fun hHeld => ?_)
  · exact x1
  refine takeD (i := 0) (d := some 18) (v := ?_) _ rfl rfl (by kernel_rfl) (by kernel_rfl) (by kernel_rfl) (fun _ _ _ h => h) (by rfl) ?_ (by assumption) ?_
  rotate_left
  · (intro w hSw; (try dsimp only at hSw); go_simp) <;> with_reducible rfl
  try simp only [Act.put, List.setIfInBounds_toArray, List.set_cons_zero, List.set_cons_succ]
  refine takeD (i := 1) (d := some 19) (v := ?_) _ rfl rfl (by kernel_rfl) (by kernel_rfl) (by kernel_rfl) (fun _ _ _ h => h) (by rfl) ?_ (by assumption) ?_
  rotate_left
  · (intro w hSw; (try dsimp only at hSw); go_simp) <;> with_reducible rfl
  try simp only [Act.put, List.setIfInBounds_toArray, List.set_cons_zero, List.set_cons_succ]
  refine takeD (i := 3) (d := some 21) (v := ?_) _ rfl rfl (by kernel_rfl) (by kernel_rfl) (by kernel_rfl) (fun _ _ _ h => h) (by rfl) ?_ (by assumption) ?_
  rotate_left
  · (intro w hSw; (try dsimp only at hSw); go_simp) <;> with_reducible rfl
  try simp only [Act.put, List.setIfInBounds_toArray, List.set_cons_zero, List.set_cons_succ]
  refine takeD (i := 4) (d := some 22) (v := ?_) _ rfl rfl (by kernel_rfl) (by kernel_rfl) (by kernel_rfl) (fun _ _ _ h => h) (by rfl) ?_ (by assumption) ?_
  rotate_left
  · (intro w hSw; (try dsimp only at hSw); go_simp) <;> with_reducible rfl
  try simp only [Act.put, List.setIfInBounds_toArray, List.set_cons_zero, List.set_cons_succ]
  refine wpAnyH_ready (rs := [2]) (by kernel_rfl) (by simp) ?_
  refine AllReadyH.cons rfl (fun K hK => ?_) AllReadyH.nil
  try go_simp
  go_at_call 19
  refine (set_any lo g rb up L _ (EW.out _ (Below.refl _ _).drew)).mono ?_
  rintro e w2 ⟨A, n, c, rx, rfl, r1, r2, r3, r4⟩
  have R1 := Lib.hid r1
  have R2 := Lib.hid r2
  have R3 := Lib.hid r3
  have R4 := Lib.hid r4
  clear r1 r2 r3 r4
  have C2 : ∀ j o u, s ≤ j → W0.cell? ⟨j, o, none⟩ = some u → w2.cell? ⟨j, o, none⟩ = some u := fun j o u hj hc => R4.out.ch.cell (by have := HLT.out; show j ≠ g; omega) (by have := HLT.out; show j ≠ rb; omega) hc
  have k1 := C2 s 1 _ (Nat.le_refl _) x1
  try go_wp2_with fail
  refine hK.out _ _ ?_ (fun hHeld => ?_)
  · exact k1
  clear hK K
  try simp only [Act.put, List.setIfInBounds_toArray, List.set_cons_zero, List.set_cons_succ]
  refine wpAnyH_ready (rs := [5]) (by kernel_rfl) (by simp) ?_
  refine AllReadyH.cons rfl (fun K hK => ?_) AllReadyH.nil
  try go_simp
  go_at_call 13
  obtain ⟨b, hb, hb2⟩ := (RW.out W0.drew (Below.refl _ _).drew).keep (w' := w2) R4.out.ch.size (fun b _ hb => R4.out.ch.block b (by have := S0.out; show b < W0.heap.size; have := hb.1; omega) (HP.out b hb.2).1 (HP.out b hb.2).2)
  refine (rsame_any _ _ rx b L L w2 R1.out hb (by have := HL.out; omega) (by have := HL.out; omega)).mono ?_
  rintro e w3 ⟨he3, b3⟩
  rw [decide_eq_true rfl] at he3
  subst he3
  have B3 := Lib.hid b3
  clear b3 hb hb2
  have Y3 : Hid (w3.heap[s + 2]? = some (.cells #[.bool false, .slice none 0 0] 28 (0, 0))) := (B3.out.block _ (by have := R4.out.ch.size; have := S0.out; have h1 : W0.drew.heap.size = W0.heap.size := rfl; omega)).trans ((R4.out.ch.block (s + 2) (by have := S0.out; show s + 2 < W0.heap.size; omega) (by have := HLT.out; omega) (by have := HLT.out; omega)).trans HY0.out)
  have k2 := cell_later B3.out k1
  try go_wp2_with fail
  refine hK.out _ _ ?_ (fun hHeld => ?_)
  · exact k2
  clear hK K
  try simp only [Act.put, List.setIfInBounds_toArray, List.set_cons_zero, List.set_cons_succ]
  refine wpAnyH_ready (rs := [6]) (by kernel_rfl) (by simp) ?_
  refine AllReadyH.cons rfl (fun K hK => ?_) AllReadyH.nil
  have y0 : w3.cell? ⟨s + 2, 0, none⟩ = some (.bool false) := by rw [(row_cell Y3.out 0).1]; rfl
  have y1 : w3.cell? ⟨s + 2, 1, none⟩ = some (.slice none 0 0) := by rw [(row_cell Y3.out 1).1]; rfl
  have z0 : w3.frozen? ⟨s + 2, 0, none⟩ = false := (row_cell Y3.out 0).2
  have z1 : w3.frozen? ⟨s + 2, 1, none⟩ = false := (row_cell Y3.out 1).2
  try go_simp
  refine hK.out _ _ ?_ (fun hHeld => ?_)
  · rw [World.cell?_setCell_other _ _ _ _ (by intro e; injection e with e; omega), World.cell?_setCell_other _ _ _ _ (by intro e; injection e with e; omega)]; exact k2
  clear hK K
  try simp only [Act.put, List.setIfInBounds_toArray, List.set_cons_zero, List.set_cons_succ]
  refine takeD (i := 7) (d := some 7) (v := ?_) _ rfl rfl (by kernel_rfl) (by kernel_rfl) (by kernel_rfl) (fun _ _ _ h => h) (by rfl) ?_ (by assumption) ?_
  rotate_left
  · (intro w hSw; (try dsimp only at hSw); go_simp) <;> with_reducible rfl
  try simp only [Act.put, List.setIfInBounds_toArray, List.set_cons_zero, List.set_cons_succ]
  refine wpAnyH_done (by kernel_rfl) ?_ _
  clear hHeld
  have hLT := HLT.out
  have hS0 := S0.out
  have hsz2 : s + 3 ≤ w2.heap.size := by have := R4.out.ch.size; have h1 : W0.drew.heap.size = W0.heap.size := rfl; omega
  have N2 : Nx g rb g w w2 := (Nx.of_below B0.out.drew).trans R4.out
  have N3 : Nx g rb g w w3 := N2.trans (Nx.of_below B3.out)
  have FIN := Lib.hid (do_fin (s := s + 2) (p := fun b => s + 3 ≤ b) (by rw [hs]; omega) (by rw [hs]; omega) (R3.out.below B3.out) (by omega) (Rl.nil w3 (fun b => s + 3 ≤ b)) (fun b hb => by omega) N3 (.bool true) (.slice none 0 0))
  go_wp2_with fail
  refine bodyPost_ret (results_cell_tmp rfl _ _ (s + 2) _ _ rfl (set_two Y3.out _ _) Try.underlying28 rfl (by kernel_rfl)) rfl ?_
  obtain ⟨f1, f2, f3⟩ := FIN.out
  exact ⟨_, g, true, [], rfl, f1, f2.imp fun b _ hb => .inr ⟨by omega, by omega⟩, f3, fun _ _ => rfl, by simp⟩
set_option maxRecDepth 100000 in
set_option maxHeartbeats 4000000 in
theorem do_1 (lo g rb : Nat) (up : Bool) (L : List Int) (v : Value) (p : Nat → Prop) (x id : Int) (u : Nat) (w : World) (h : EV lo w g rb up L) (hv : Rl w v p L) (hp : ∀ b, p b → b ≠ g ∧ b ≠ rb) (hL : L.length ≤ 900)
    (hu : IntKind.u64.wrap x = (u : Int)) (hq : (u : Int) % 4 = 1) (hq' : (u : Int).tmod 4 = 1) :
    Calls Try.prog 11 #[.pointer (some ⟨g, 0, none⟩), .agg #[.bool up, v], .agg #[.int .i64 x, .int .i64 id]] w (DoP lo g rb p up L w) := by
  obtain ⟨s, hs⟩ : ∃ s, w.heap.size = s := ⟨_, rfl⟩
  obtain ⟨W0, hW0⟩ : ∃ W0, ((w.alloc (.cells #[.bool up, v] 28)).alloc (.cells #[.int .i64 x, .int .i64 id] 32)).alloc (.cells #[.bool false, .slice none 0 0] 28) = W0 := ⟨_, rfl⟩
  have HS := Lib.hid hs
  have B0 : Hid (Below w.heap.size w W0) := by unfold Hid; rw [← hW0]; exact ((((Below.refl _ _).alloc (Nat.le_refl _) _).alloc (by simp) _).alloc (by simp; omega) _)
  have S0 : Hid (W0.heap.size = s + 3) := by unfold Hid; rw [← hW0, ← hs]; simp
  have HX0 : Hid (W0.heap[s]? = some (.cells #[.bool up, v] 28 (0, 0))) := by
    unfold Hid
    rw [← hW0, ← hs, heap_alloc_old _ _ (by simp; omega), heap_alloc_old _ _ (by simp)]
    exact heap_alloc_new _ _
  have HO0 : Hid (W0.heap[s + 1]? = some (.cells #[.int .i64 x, .int .i64 id] 32 (0, 0))) := by
    unfold Hid
    rw [← hW0, ← hs, heap_alloc_old _ _ (by simp)]
    have := heap_alloc_new (w.alloc (.cells #[.bool up, v] 28)) (.cells #[.int .i64 x, .int .i64 id] 32)
    simpa using this
  have HY0 : Hid (W0.heap[s + 2]? = some (.cells #[.bool false, .slice none 0 0] 28 (0, 0))) := by
    unfold Hid
    rw [← hW0, ← hs]
    have := heap_alloc_new ((w.alloc (.cells #[.bool up, v] 28)).alloc (.cells #[.int .i64 x, .int .i64 id] 32)) (.cells #[.bool false, .slice none 0 0] 28)
    simpa using this
  have x0 : W0.cell? ⟨s, 0, none⟩ = some (.bool up) := by rw [(row_cell HX0.out 0).1]; rfl
  have x1 : W0.cell? ⟨s, 1, none⟩ = some v := by rw [(row_cell HX0.out 1).1]; rfl
  have o0 : W0.cell? ⟨s + 1, 0, none⟩ = some (.int .i64 x) := by rw [(row_cell HO0.out 0).1]; rfl
  have o1 : W0.cell? ⟨s + 1, 1, none⟩ = some (.int .i64 id) := by rw [(row_cell HO0.out 1).1]; rfl
  have EW : Hid (∀ W, Below W0.heap.size W0 W → EV lo W g rb up L) := fun W hb => (h.below B0.out).below (hb)
  have RW : Hid (∀ W, Below W0.heap.size W0 W → Rl W v (fun b => b < s ∧ p b) L) := fun W hb => by
    have h1 := (hv.below B0.out).imp (q := fun b => b < s ∧ p b) fun b _ h => ⟨by rw [← hs]; exact h.1, h.2⟩
    exact h1.keep_below hb
  have HLT : Hid (g < s ∧ rb < s) := by rw [← hs]; exact h.lt
  have HP := Lib.hid hp
  have HL := Lib.hid hL
  have hw4 : IntKind.i64.wrap 1 = 1 := by kernel_rfl
  obtain ⟨Av, nv, cv, hv'⟩ : ∃ A n c, v = .slice A n c := by
    obtain ⟨b, hb⟩ := hv.row
    obtain ⟨A, c, hb⟩ := slice_form hb.own
    exact ⟨A, _, c, hb⟩
  subst hv'

  clear h hv hp hL
  go_enter Try.func11, Try.ntmps11
  go_wp2_with fail
  refine (reset_any lo g rb up L W0 (EW.out W0 (Below.refl _ _))).mono ?_
  rintro e w2 ⟨rfl, r1, r2⟩
  have R1 := Lib.hid r1
  have R2 := Lib.hid r2
  clear r1 r2
  have X2 : Hid (w2.heap[s]? = some (.cells #[.bool up, .slice Av nv cv] 28 (0, 0))) := (R2.out.ch.block s (by have := S0.out; omega) (by have := HLT.out; omega) (by have := HLT.out; omega)).trans HX0.out
  have Y2 : Hid (w2.heap[s + 2]? = some (.cells #[.bool false, .slice none 0 0] 28 (0, 0))) := (R2.out.ch.block (s + 2) (by have := S0.out; omega) (by have := HLT.out; omega) (by have := HLT.out; omega)).trans HY0.out
  obtain ⟨W3, hW3⟩ : ∃ W3, w2.setCell ⟨s, 0, none⟩ (.bool false) = W3 := ⟨_, rfl⟩
  have X3 : Hid (W3.heap[s]? = some (.cells #[.bool false, .slice Av nv cv] 28 (0, 0))) := by unfold Hid; rw [← hW3]; exact set_at X2.out 0 (.bool false)
  have Y3 : Hid (W3.heap[s + 2]? = some (.cells #[.bool false, .slice none 0 0] 28 (0, 0))) := by unfold Hid; rw [← hW3]; exact (set_far 0 _ (by omega)).trans Y2.out
  have q0 : w2.cell? ⟨s, 0, none⟩ = some (.bool up) := by rw [(row_cell X2.out 0).1]; rfl
  have q1 : w2.frozen? ⟨s, 0, none⟩ = false := (row_cell X2.out 0).2
  have r0 : W3.cell? ⟨s, 0, none⟩ = some (.bool false) := by rw [(row_cell X3.out 0).1]; rfl
  have r1 : W3.cell? ⟨s, 1, none⟩ = some (.slice Av nv cv) := by rw [(row_cell X3.out 1).1]; rfl
  have t0 : W3.cell? ⟨s + 2, 0, none⟩ = some (.bool false) := by rw [(row_cell Y3.out 0).1]; rfl
  have t1 : W3.cell? ⟨s + 2, 1, none⟩ = some (.slice none 0 0) := by rw [(row_cell Y3.out 1).1]; rfl
  have t2 : W3.frozen? ⟨s + 2, 0, none⟩ = false := (row_cell Y3.out 0).2
  have t3 : W3.frozen? ⟨s + 2, 1, none⟩ = false := (row_cell Y3.out 1).2
  have FIN : Hid (EV lo ((W3.setCell ⟨s + 2, 0, none⟩ (.bool false)).setCell ⟨s + 2, 1, none⟩ (.slice Av nv cv)) g rb false L ∧ Rl ((W3.setCell ⟨s + 2, 0, none⟩ (.bool false)).setCell ⟨s + 2, 1, none⟩ (.slice Av nv cv)) (.slice Av nv cv) (fun b => b < s ∧ p b) L ∧ Nx g rb rb w ((W3.setCell ⟨s + 2, 0, none⟩ (.bool false)).setCell ⟨s + 2, 1, none⟩ (.slice Av nv cv))) := by
    have hLT := HLT.out
    have hS0 := S0.out
    have N2 : Nx g rb rb w w2 := (Nx.of_below B0.out).trans R2.out
    have hR2 : Rl w2 (.slice Av nv cv) (fun b => b < s ∧ p b) L := ((RW.out W0 (Below.refl _ _)).keep R2.out.ch.size (fun b h1 hb => R2.out.ch.block b h1 (HP.out b hb.2).1 (HP.out b hb.2).2)).imp fun b _ h => h.2
    have E3 : EV lo W3 g rb false L := by rw [← hW3]; exact R1.out.keep (by simp) (set_far _ _ (by omega)) (set_far _ _ (by omega))
    have R3 : Rl W3 (.slice Av nv cv) (fun b => b < s ∧ p b) L := by rw [← hW3]; exact (hR2.keep (by simp) (fun b h1 hb => set_far _ _ (by omega))).imp fun b _ h => h.2
    have N3 : Nx g rb rb w W3 := by rw [← hW3]; exact ⟨N2.ch.setCell (by omega) _ _, .inl rfl⟩
    exact do_fin (by omega) (by omega) E3 (by omega) R3 (fun b hb => by omega) N3 _ _
  clear x0 x1 o0 o1
  go_wp2_with fail
  refine bodyPost_ret (results_cell_tmp rfl _ _ (s + 2) _ _ rfl (set_two Y3.out _ _) Try.underlying28 rfl (by kernel_rfl)) rfl ?_
  obtain ⟨f1, f2, f3⟩ := FIN.out
  exact ⟨_, rb, false, L, rfl, f1, f2.imp fun b _ hb => .inl ⟨by rw [hs]; exact hb.1, hb.2⟩, f3, fun _ h => (by cases h), by omega⟩
set_option maxRecDepth 100000 in
set_option maxHeartbeats 4000000 in
theorem do_2 (lo g rb : Nat) (up : Bool) (L : List Int) (v : Value) (p : Nat → Prop) (x id : Int) (u : Nat) (w : World) (h : EV lo w g rb up L) (hv : Rl w v p L) (hp : ∀ b, p b → b ≠ g ∧ b ≠ rb) (hL : L.length ≤ 900)
    (hu : IntKind.u64.wrap x = (u : Int)) (hq : (u : Int) % 4 = 2) (hq' : (u : Int).tmod 4 = 2) :
    Calls Try.prog 11 #[.pointer (some ⟨g, 0, none⟩), .agg #[.bool up, v], .agg #[.int .i64 x, .int .i64 id]] w (DoP lo g rb p up L w) := by
  obtain ⟨s, hs⟩ : ∃ s, w.heap.size = s := ⟨_, rfl⟩
  obtain ⟨W0, hW0⟩ : ∃ W0, ((w.alloc (.cells #[.bool up, v] 28)).alloc (.cells #[.int .i64 x, .int .i64 id] 32)).alloc (.cells #[.bool false, .slice none 0 0] 28) = W0 := ⟨_, rfl⟩
  have HS := Lib.hid hs
  have B0 : Hid (Below w.heap.size w W0) := by unfold Hid; rw [← hW0]; exact ((((Below.refl _ _).alloc (Nat.le_refl _) _).alloc (by simp) _).alloc (by simp; omega) _)
  have S0 : Hid (W0.heap.size = s + 3) := by unfold Hid; rw [← hW0, ← hs]; simp
  have HX0 : Hid (W0.heap[s]? = some (.cells #[.bool up, v] 28 (0, 0))) := by
    unfold Hid
    rw [← hW0, ← hs, heap_alloc_old _ _ (by simp; omega), heap_alloc_old _ _ (by simp)]
    exact heap_alloc_new _ _
  have HO0 : Hid (W0.heap[s + 1]? = some (.cells #[.int .i64 x, .int .i64 id] 32 (0, 0))) := by
    unfold Hid
    rw [← hW0, ← hs, heap_alloc_old _ _ (by simp)]
    have := heap_alloc_new (w.alloc (.cells #[.bool up, v] 28)) (.cells #[.int .i64 x, .int .i64 id] 32)
    simpa using this
  have HY0 : Hid (W0.heap[s + 2]? = some (.cells #[.bool false, .slice none 0 0] 28 (0, 0))) := by
    unfold Hid
    rw [← hW0, ← hs]
    have := heap_alloc_new ((w.alloc (.cells #[.bool up, v] 28)).alloc (.cells #[.int .i64 x, .int .i64 id] 32)) (.cells #[.bool false, .slice none 0 0] 28)
    simpa using this
  have x0 : W0.cell? ⟨s, 0, none⟩ = some (.bool up) := by rw [(row_cell HX0.out 0).1]; rfl
  have x1 : W0.cell? ⟨s, 1, none⟩ = some v := by rw [(row_cell HX0.out 1).1]; rfl
  have o0 : W0.cell? ⟨s + 1, 0, none⟩ = some (.int .i64 x) := by rw [(row_cell HO0.out 0).1]; rfl
  have o1 : W0.cell? ⟨s + 1, 1, none⟩ = some (.int .i64 id) := by rw [(row_cell HO0.out 1).1]; rfl
  have EW : Hid (∀ W, Below W0.heap.size W0 W → EV lo W g rb up L) := fun W hb => (h.below B0.out).below (hb)
  have RW : Hid (∀ W, Below W0.heap.size W0 W → Rl W v (fun b => b < s ∧ p b) L) := fun W hb => by
    have h1 := (hv.below B0.out).imp (q := fun b => b < s ∧ p b) fun b _ h => ⟨by rw [← hs]; exact h.1, h.2⟩
    exact h1.keep_below hb
  have HLT : Hid (g < s ∧ rb < s) := by rw [← hs]; exact h.lt
  have HP := Lib.hid hp
  have HL := Lib.hid hL
  have hw4 : IntKind.i64.wrap 2 = 2 := by kernel_rfl
  obtain ⟨Av, nv, cv, hv'⟩ : ∃ A n c, v = .slice A n c := by
    obtain ⟨b, hb⟩ := hv.row
    obtain ⟨A, c, hb⟩ := slice_form hb.own
    exact ⟨A, _, c, hb⟩
  subst hv'

  clear h hv hp hL
  go_enter Try.func11, Try.ntmps11
  go_wp2_with fail
  refine (rwait_any (fun b => b < s ∧ p b) up (.slice Av nv cv) L id W0 (RW.out W0 (Below.refl _ _)) (by have := HL.out; omega)).mono ?_
  rintro e w1 ⟨v1, rfl, r1, b1⟩
  obtain ⟨A1, n1, c1, rfl⟩ : ∃ A n c, v1 = .slice A n c := by
    obtain ⟨b, hb⟩ := r1.row
    obtain ⟨A, c, hb⟩ := slice_form hb.own
    exact ⟨A, _, c, hb⟩
  obtain ⟨W2, hW2⟩ : ∃ W2, w1.alloc (.cells #[.bool up, .slice A1 n1 c1] 28) = W2 := ⟨_, rfl⟩
  have B2 : Hid (Below W0.heap.size W0 W2) := by unfold Hid; rw [← hW2]; exact b1.alloc b1.size _
  have HW1 : Hid (s + 3 ≤ w1.heap.size) := by have := b1.size; have := S0.out; unfold Hid; omega
  have HW2 : Hid (W2.heap.size = w1.heap.size + 1) := by unfold Hid; rw [← hW2]; simp
  have T2 : Hid (W2.heap[w1.heap.size]? = some (.cells #[.bool up, .slice A1 n1 c1] 28 (0, 0))) := by unfold Hid; rw [← hW2]; exact heap_alloc_new _ _
  have RL2 : Hid (Rl W2 (.slice A1 n1 c1) (fun b => (b < s ∧ p b) ∨ s + 3 ≤ b) (waitI up L id)) := by
    have h1 := (r1.keep_below (w' := W2) (by rw [← hW2]; exact (Below.refl _ _).alloc (Nat.le_refl _) _)).imp (q := fun b => (b < s ∧ p b) ∨ s + 3 ≤ b) fun b _ h => by have := S0.out; rcases h with h | h; exact .inl h.2; exact .inr (by omega)
    exact h1
  have Y2 : Hid (W2.heap[s + 2]? = some (.cells #[.bool false, .slice none 0 0] 28 (0, 0))) := (B2.out.block (s + 2) (by have := S0.out; omega)).trans HY0.out
  have k0 : W2.cell? ⟨w1.heap.size, 0, none⟩ = some (.bool up) := by rw [(row_cell T2.out 0).1]; rfl
  have k1 : W2.cell? ⟨w1.heap.size, 1, none⟩ = some (.slice A1 n1 c1) := by rw [(row_cell T2.out 1).1]; rfl
  have o2 : w1.cell? ⟨s + 1, 1, none⟩ = some (.int .i64 id) := cell_later b1 o1
  have k2 : W2.cell? ⟨s + 1, 1, none⟩ = some (.int .i64 id) := cell_later B2.out o1
  clear r1 b1 x0 x1 o0 o1
  go_wp2_with fail
  refine wp_region_held_drew (S := (fun w' => w'.cell? ⟨w1.heap.size, 0, none⟩ = some (.bool up) ∧ w'.cell? ⟨w1.heap.size, 1, none⟩ = some (.slice A1 n1 c1) ∧ w'.cell? ⟨s + 1, 1, none⟩ = some (.int .i64 id))) (by kernel_rfl) ?_ (fun hHeld => ?_)
  · exact ⟨k0, k1, k2⟩
  refine takeD (i := 0) (d := some 39) (v := ?_) _ rfl rfl (by kernel_rfl) (by kernel_rfl) (by kernel_rfl) (fun _ _ _ h => h) (by rfl) ?_ (by assumption) ?_
  rotate_left
  · (intro w hSw; (try dsimp only at hSw); go_simp) <;> with_reducible rfl
  try simp only [Act.put, List.setIfInBounds_toArray, List.set_cons_zero, List.set_cons_succ]
  refine takeD (i := 1) (d := some 40) (v := ?_) _ rfl rfl (by kernel_rfl) (by kernel_rfl) (by kernel_rfl) (fun _ _ _ h => h) (by rfl) ?_ (by assumption) ?_
  rotate_left
  · (intro w hSw; (try dsimp only at hSw); go_simp) <;> with_reducible rfl
  try simp only [Act.put, List.setIfInBounds_toArray, List.set_cons_zero, List.set_cons_succ]
  refine takeD (i := 2) (d := some 41) (v := ?_) _ rfl rfl (by kernel_rfl) (by kernel_rfl) (by kernel_rfl) (fun _ _ _ h => h) (by rfl) ?_ (by assumption) ?_
  rotate_left
  · (intro w hSw; (try dsimp only at hSw); go_simp) <;> with_reducible rfl
  try simp only [Act.put, List.setIfInBounds_toArray, List.set_cons_zero, List.set_cons_succ]
  refine takeD (i := 3) (d := some 42) (v := ?_) _ rfl rfl (by kernel_rfl) (by kernel_rfl) (by kernel_rfl) (fun _ _ _ h => h) (by rfl) ?_ (by assumption) ?_
  rotate_left
  · (intro w hSw; (try dsimp only at hSw); go_simp) <;> with_reducible rfl
  try simp only [Act.put, List.setIfInBounds_toArray, List.set_cons_zero, List.set_cons_succ]
  refine takeD (i := 5) (d := some 44) (v := ?_) _ rfl rfl (by kernel_rfl) (by kernel_rfl) (by kernel_rfl) (fun _ _ _ h => h) (by rfl) ?_ (by assumption) ?_
  rotate_left
  · (intro w hSw; (try dsimp only at hSw); go_simp) <;> with_reducible rfl
  try simp only [Act.put, List.setIfInBounds_toArray, List.set_cons_zero, List.set_cons_succ]
  refine wpAnyH_ready (rs := [4]) (by kernel_rfl) (by simp) ?_
  refine AllReadyH.cons rfl (fun K hK => ?_) AllReadyH.nil
  try go_simp
  go_at_call 15
  refine (wait_any lo g rb up L id _ (EW.out _ B2.out.drew) (by have := HL.out; omega)).mono ?_
  rintro e w3 ⟨rfl, rb3, r3, r4⟩
  have R3 := Lib.hid r3
  have R4 := Lib.hid r4
  clear r3 r4
  have C3 : ∀ j o u, s ≤ j → W2.cell? ⟨j, o, none⟩ = some u → w3.cell? ⟨j, o, none⟩ = some u := fun j o u hj hc => R4.out.ch.cell (by have := HLT.out; show j ≠ g; omega) (by have := HLT.out; show j ≠ rb; omega) hc
  have j0 := C3 w1.heap.size 0 _ (by have := HW1.out; omega) k0
  have j1 := C3 w1.heap.size 1 _ (by have := HW1.out; omega) k1
  have j2 := C3 (s + 1) 1 _ (by omega) k2
  have Y3 : Hid (w3.heap[s + 2]? = some (.cells #[.bool false, .slice none 0 0] 28 (0, 0))) := (R4.out.ch.block (s + 2) (by have := HW1.out; have := HW2.out; show s + 2 < W2.heap.size; omega) (by have := HLT.out; omega) (by have := HLT.out; omega)).trans Y2.out
  have hW1 := HW1.out
  try go_wp2_with fail
  refine hK.out _ _ ?_ (fun hHeld => ?_)
  · exact ⟨j0, j1, j2⟩
  clear hK K
  try simp only [Act.put, List.setIfInBounds_toArray, List.set_cons_zero, List.set_cons_succ]
  refine takeD (i := 6) (d := some 45) (v := ?_) _ rfl rfl (by kernel_rfl) (by kernel_rfl) (by kernel_rfl) (fun _ _ _ h => h) (by rfl) ?_ (by assumption) ?_
  rotate_left
  · (intro w hSw; (try dsimp only at hSw); go_simp) <;> with_reducible rfl
  try simp only [Act.put, List.setIfInBounds_toArray, List.set_cons_zero, List.set_cons_succ]
  refine wpAnyH_ready (rs := [7]) (by kernel_rfl) (by simp) ?_
  refine AllReadyH.cons rfl (fun K hK => ?_) AllReadyH.nil
  have y0 : w3.cell? ⟨s + 2, 0, none⟩ = some (.bool false) := by rw [(row_cell Y3.out 0).1]; rfl
  have y1 : w3.cell? ⟨s + 2, 1, none⟩ = some (.slice none 0 0) := by rw [(row_cell Y3.out 1).1]; rfl
  have z0 : w3.frozen? ⟨s + 2, 0, none⟩ = false := (row_cell Y3.out 0).2
  have z1 : w3.frozen? ⟨s + 2, 1, none⟩ = false := (row_cell Y3.out 1).2
  try go_simp
  refine hK.out _ _ ?_ (fun hHeld => ?_)
  · exact ⟨by rw [World.cell?_setCell_other _ _ _ _ (by intro e; injection e with e e2; omega), World.cell?_setCell_other _ _ _ _ (by intro e; injection e with e e2; omega)]; exact j0, by rw [World.cell?_setCell_other _ _ _ _ (by intro e; injection e with e e2; omega), World.cell?_setCell_other _ _ _ _ (by intro e; injection e with e e2; omega)]; exact j1, by rw [World.cell?_setCell_other _ _ _ _ (by intro e; injection e with e e2; omega), World.cell?_setCell_other _ _ _ _ (by intro e; injection e with e e2; omega)]; exact j2⟩
  clear hK K
  try simp only [Act.put, List.setIfInBounds_toArray, List.set_cons_zero, List.set_cons_succ]
  refine takeD (i := 8) (d := some 7) (v := ?_) _ rfl rfl (by kernel_rfl) (by kernel_rfl) (by kernel_rfl) (fun _ _ _ h => h) (by rfl) ?_ (by assumption) ?_
  rotate_left
  · (intro w hSw; (try dsimp only at hSw); go_simp) <;> with_reducible rfl
  try simp only [Act.put, List.setIfInBounds_toArray, List.set_cons_zero, List.set_cons_succ]
  refine wpAnyH_done (by kernel_rfl) ?_ _
  clear hHeld
  have hLT := HLT.out
  have hS0 := S0.out
  have hW2s := HW2.out
  have N2 : Nx g rb rb w W2.drew := (Nx.of_below B0.out).trans (Nx.of_below B2.out.drew)
  have N3 : Nx g rb rb3 w w3 := N2.trans R4.out
  have hrb3 := R4.out.rb
  have hd : W2.drew.heap.size = W2.heap.size := rfl
  have RL3 : Rl w3 (.slice A1 n1 c1) (fun b => (b < s ∧ p b) ∨ (s + 3 ≤ b ∧ b < W2.heap.size)) (waitI up L id) := ((RL2.out.keep_below (w' := W2.drew) (Below.refl _ _).drew).keep (w' := w3) R4.out.ch.size (fun b h1 hb => R4.out.ch.block b h1 (by rcases hb with hb | hb; exact (HP.out b hb.2).1; omega) (by rcases hb with hb | hb; exact (HP.out b hb.2).2; omega))).imp fun b _ h => by
    rcases h.2 with h2 | h2
    · exact .inl h2
    · exact .inr ⟨h2, by have := h.1; omega⟩
  have FIN := Lib.hid (do_fin (s := s + 2) (by omega) (by omega) R3.out (by omega) RL3 (fun b hb => by omega) N3 (.bool up) (.slice A1 n1 c1))
  go_wp2_with fail
  refine bodyPost_ret (results_cell_tmp rfl _ _ (s + 2) _ _ rfl (set_two Y3.out _ _) Try.underlying28 rfl (by kernel_rfl)) rfl ?_
  obtain ⟨f1, f2, f3⟩ := FIN.out
  refine ⟨_, rb3, up, waitI up L id, rfl, f1, f2.imp fun b _ hb => ?_, f3, fun h1 h2 => by rw [waitI, if_pos h2]; exact h1 h2, waitI_len _ _ _⟩
  rcases hb with hb | hb
  · exact .inl ⟨by omega, hb.2⟩
  · exact .inr ⟨by omega, by omega⟩
set_option maxRecDepth 100000 in
set_option maxHeartbeats 4000000 in
theorem do_3 (lo g rb : Nat) (up : Bool) (L : List Int) (v : Value) (p : Nat → Prop) (x id : Int) (u : Nat) (w : World) (h : EV lo w g rb up L) (hv : Rl w v p L) (hp : ∀ b, p b → b ≠ g ∧ b ≠ rb) (hL : L.length ≤ 900)
    (hu : IntKind.u64.wrap x = (u : Int)) (hq : (u : Int) % 4 = 3) (hq' : (u : Int).tmod 4 = 3) :
    Calls Try.prog 11 #[.pointer (some ⟨g, 0, none⟩), .agg #[.bool up, v], .agg #[.int .i64 x, .int .i64 id]] w (DoP lo g rb p up L w) := by
  obtain ⟨s, hs⟩ : ∃ s, w.heap.size = s := ⟨_, rfl⟩
  obtain ⟨W0, hW0⟩ : ∃ W0, ((w.alloc (.cells #[.bool up, v] 28)).alloc (.cells #[.int .i64 x, .int .i64 id] 32)).alloc (.cells #[.bool false, .slice none 0 0] 28) = W0 := ⟨_, rfl⟩
  have HS := Lib.hid hs
  have B0 : Hid (Below w.heap.size w W0) := by unfold Hid; rw [← hW0]; exact ((((Below.refl _ _).alloc (Nat.le_refl _) _).alloc (by simp) _).alloc (by simp; omega) _)
  have S0 : Hid (W0.heap.size = s + 3) := by unfold Hid; rw [← hW0, ← hs]; simp
  have HX0 : Hid (W0.heap[s]? = some (.cells #[.bool up, v] 28 (0, 0))) := by
    unfold Hid
    rw [← hW0, ← hs, heap_alloc_old _ _ (by simp; omega), heap_alloc_old _ _ (by simp)]
    exact heap_alloc_new _ _
  have HO0 : Hid (W0.heap[s + 1]? = some (.cells #[.int .i64 x, .int .i64 id] 32 (0, 0))) := by
    unfold Hid
    rw [← hW0, ← hs, heap_alloc_old _ _ (by simp)]
    have := heap_alloc_new (w.alloc (.cells #[.bool up, v] 28)) (.cells #[.int .i64 x, .int .i64 id] 32)
    simpa using this
  have HY0 : Hid (W0.heap[s + 2]? = some (.cells #[.bool false, .slice none 0 0] 28 (0, 0))) := by
    unfold Hid
    rw [← hW0, ← hs]
    have := heap_alloc_new ((w.alloc (.cells #[.bool up, v] 28)).alloc (.cells #[.int .i64 x, .int .i64 id] 32)) (.cells #[.bool false, .slice none 0 0] 28)
    simpa using this
  have x0 : W0.cell? ⟨s, 0, none⟩ = some (.bool up) := by rw [(row_cell HX0.out 0).1]; rfl
  have x1 : W0.cell? ⟨s, 1, none⟩ = some v := by rw [(row_cell HX0.out 1).1]; rfl
  have o0 : W0.cell? ⟨s + 1, 0, none⟩ = some (.int .i64 x) := by rw [(row_cell HO0.out 0).1]; rfl
  have o1 : W0.cell? ⟨s + 1, 1, none⟩ = some (.int .i64 id) := by rw [(row_cell HO0.out 1).1]; rfl
  have EW : Hid (∀ W, Below W0.heap.size W0 W → EV lo W g rb up L) := fun W hb => (h.below B0.out).below (hb)
  have RW : Hid (∀ W, Below W0.heap.size W0 W → Rl W v (fun b => b < s ∧ p b) L) := fun W hb => by
    have h1 := (hv.below B0.out).imp (q := fun b => b < s ∧ p b) fun b _ h => ⟨by rw [← hs]; exact h.1, h.2⟩
    exact h1.keep_below hb
  have HLT : Hid (g < s ∧ rb < s) := by rw [← hs]; exact h.lt
  have HP := Lib.hid hp
  have HL := Lib.hid hL
  have hw4 : IntKind.i64.wrap 3 = 3 := by kernel_rfl
  obtain ⟨Av, nv, cv, hv'⟩ : ∃ A n c, v = .slice A n c := by
    obtain ⟨b, hb⟩ := hv.row
    obtain ⟨A, c, hb⟩ := slice_form hb.own
    exact ⟨A, _, c, hb⟩
  subst hv'

  clear h hv hp hL
  go_enter Try.func11, Try.ntmps11
  go_wp2_with fail
  obtain ⟨t, ht⟩ : ∃ t, decide (id ∈ L) = t := ⟨_, rfl⟩
  obtain ⟨m, hm⟩ : ∃ m, (outI L id).length = m := ⟨_, rfl⟩
  obtain ⟨rv, hrv⟩ := (RW.out W0 (Below.refl _ _)).row
  refine (has_any (.slice Av nv cv) rv L id W0 hrv (by have := HL.out; omega)).mono ?_
  rintro e w1 ⟨rfl, hw⟩
  have hw := hw.symm
  subst hw
  rw [ht]
  go_wp2_with fail
  refine (without_any (.slice Av nv cv) rv L id W0 hrv (by have := HL.out; omega)).mono ?_
  rintro e w1 ⟨A1, c1, rfl, r1, b1⟩
  rw [hm] at r1 ⊢
  have R1 : Hid (Rl w1 (.slice A1 m c1) (fun b => s + 3 ≤ b) (outI L id)) := (Rl.of_own (by rw [hm]; exact r1)).imp fun b _ h => by have := S0.out; omega
  have B1 := Lib.hid b1
  have HM := Lib.hid hm
  have HW1 : Hid (s + 3 ≤ w1.heap.size) := by have := b1.size; have := S0.out; unfold Hid; omega
  have X1 : Hid (w1.heap[s]? = some (.cells #[.bool up, .slice Av nv cv] 28 (0, 0))) := (b1.block s (by have := S0.out; omega)).trans HX0.out
  obtain ⟨W2, hW2⟩ : ∃ W2, w1.setCell ⟨s, 1, none⟩ (.slice A1 m c1) = W2 := ⟨_, rfl⟩
  have X2 : Hid (W2.heap[s]? = some (.cells #[.bool up, .slice A1 m c1] 28 (0, 0))) := by unfold Hid; rw [← hW2]; exact set_at X1.out 1 _
  have O2 : Hid (W2.heap[s + 1]? = some (.cells #[.int .i64 x, .int .i64 id] 32 (0, 0))) := by unfold Hid; rw [← hW2]; exact (set_far _ _ (by omega)).trans ((b1.block (s + 1) (by have := S0.out; omega)).trans HO0.out)
  have Y2 : Hid (W2.heap[s + 2]? = some (.cells #[.bool false, .slice none 0 0] 28 (0, 0))) := by unfold Hid; rw [← hW2]; exact (set_far _ _ (by omega)).trans ((b1.block (s + 2) (by have := S0.out; omega)).trans HY0.out)
  have HW2 : Hid (s + 3 ≤ W2.heap.size ∧ W2.heap.size = w1.heap.size) := by unfold Hid; rw [← hW2]; have := HW1.out; simp; omega
  have RL2 : Hid (Rl W2 (.slice A1 m c1) (fun b => s + 3 ≤ b) (outI L id)) := by
    unfold Hid; rw [← hW2]
    exact (R1.out.keep (by simp) (fun b _ hb => set_far _ _ (by omega))).imp fun b _ h => h.2
  have E2 : Hid (EV lo W2 g rb up L) := by
    unfold Hid; rw [← hW2]
    have h1 := EW.out w1 B1.out
    have := HLT.out
    exact h1.keep (by simp) (set_far _ _ (by omega)) (set_far _ _ (by omega))
  have BN2 : Hid (Nx g rb rb w W2) := by
    have h1 : Nx g rb rb w w1 := (Nx.of_below B0.out).trans (Nx.of_below B1.out)
    unfold Hid; rw [← hW2]
    exact ⟨h1.ch.setCell (by omega) _ _, .inl rfl⟩
  have DR : Hid (∀ W, Below W2.heap.size W2 W → Calls Try.prog 17 #[.pointer (some ⟨g, 0, none⟩), .int .i64 id] W fun e w' => e = .returned (.bool t) ∧ EV lo w' g rb up (outI L id) ∧ Nx g rb rb W w') := fun W hb => by
    have := drop_any lo g rb up L id W (E2.out.below hb) (by have := HL.out; omega)
    rw [ht] at this
    exact this
  have q0 : w1.cell? ⟨s, 1, none⟩ = some (.slice Av nv cv) := by rw [(row_cell X1.out 1).1]; rfl
  have q1 : w1.frozen? ⟨s, 1, none⟩ = false := (row_cell X1.out 1).2
  have k0 : W2.cell? ⟨s, 0, none⟩ = some (.bool up) := by rw [(row_cell X2.out 0).1]; rfl
  have k1 : W2.cell? ⟨s, 1, none⟩ = some (.slice A1 m c1) := by rw [(row_cell X2.out 1).1]; rfl
  have k2 : W2.cell? ⟨s + 1, 1, none⟩ = some (.int .i64 id) := by rw [(row_cell O2.out 1).1]; rfl
  clear r1 b1 hm hrv ht x0 x1 o0 o1
  go_wp2_with fail
  refine wp_region_held_drew (S := (fun w' => w'.cell? ⟨s, 0, none⟩ = some (.bool up) ∧ w'.cell? ⟨s, 1, none⟩ = some (.slice A1 m c1) ∧ w'.cell? ⟨s + 1, 1, none⟩ = some (.int .i64 id))) (by kernel_rfl) ?_ (fun hHeld => ?_)
  · exact ⟨k0, k1, k2⟩
  refine takeD (i := 0) (d := some 57) (v := ?_) _ rfl rfl (by kernel_rfl) (by kernel_rfl) (by kernel_rfl) (fun _ _ _ h => h) (by rfl) ?_ (by assumption) ?_
  rotate_left
  · (intro w hSw; (try dsimp only at hSw); go_simp) <;> with_reducible rfl
  try simp only [Act.put, List.setIfInBounds_toArray, List.set_cons_zero, List.set_cons_succ]
  refine takeD (i := 1) (d := some 58) (v := ?_) _ rfl rfl (by kernel_rfl) (by kernel_rfl) (by kernel_rfl) (fun _ _ _ h => h) (by rfl) ?_ (by assumption) ?_
  rotate_left
  · (intro w hSw; (try dsimp only at hSw); go_simp) <;> with_reducible rfl
  try simp only [Act.put, List.setIfInBounds_toArray, List.set_cons_zero, List.set_cons_succ]
  refine takeD (i := 2) (d := some 59) (v := ?_) _ rfl rfl (by kernel_rfl) (by kernel_rfl) (by kernel_rfl) (fun _ _ _ h => h) (by rfl) ?_ (by assumption) ?_
  rotate_left
  · (intro w hSw; (try dsimp only at hSw); go_simp) <;> with_reducible rfl
  try simp only [Act.put, List.setIfInBounds_toArray, List.set_cons_zero, List.set_cons_succ]
  refine takeD (i := 3) (d := some 60) (v := ?_) _ rfl rfl (by kernel_rfl) (by kernel_rfl) (by kernel_rfl) (fun _ _ _ h => h) (by rfl) ?_ (by assumption) ?_
  rotate_left
  · (intro w hSw; (try dsimp only at hSw); go_simp) <;> with_reducible rfl
  try simp only [Act.put, List.setIfInBounds_toArray, List.set_cons_zero, List.set_cons_succ]
  refine takeD (i := 5) (d := some 62) (v := ?_) _ rfl rfl (by kernel_rfl) (by kernel_rfl) (by kernel_rfl) (fun _ _ _ h => h) (by rfl) ?_ (by assumption) ?_
  rotate_left
  · (intro w hSw; (try dsimp only at hSw); go_simp) <;> with_reducible rfl
  try simp only [Act.put, List.setIfInBounds_toArray, List.set_cons_zero, List.set_cons_succ]
  refine wpAnyH_ready (rs := [4]) (by kernel_rfl) (by simp) ?_
  refine AllReadyH.cons rfl (fun K hK => ?_) AllReadyH.nil
  try go_simp
  go_at_call 17
  refine (DR.out _ (Below.refl _ _).drew).mono ?_
  rintro e w3 ⟨rfl, r3, r4⟩
  have R3 := Lib.hid r3
  have R4 := Lib.hid r4
  clear r3 r4
  have C3 : ∀ j o u, s ≤ j → W2.cell? ⟨j, o, none⟩ = some u → w3.cell? ⟨j, o, none⟩ = some u := fun j o u hj hc => R4.out.ch.cell (by have := HLT.out; show j ≠ g; omega) (by have := HLT.out; show j ≠ rb; omega) hc
  have j0 := C3 s 0 _ (Nat.le_refl _) k0
  have j1 := C3 s 1 _ (Nat.le_refl _) k1
  have j2 := C3 (s + 1) 1 _ (by omega) k2
  have Y3 : Hid (w3.heap[s + 2]? = some (.cells #[.bool false, .slice none 0 0] 28 (0, 0))) := (R4.out.ch.block (s + 2) (by have := HW2.out; show s + 2 < W2.heap.size; omega) (by have := HLT.out; omega) (by have := HLT.out; omega)).trans Y2.out
  try go_wp2_with fail
  refine hK.out _ _ ?_ (fun hHeld => ?_)
  · exact ⟨j0, j1, j2⟩
  clear hK K
  try simp only [Act.put, List.setIfInBounds_toArray, List.set_cons_zero, List.set_cons_succ]
  refine takeD (i := 6) (d := some 63) (v := ?_) _ rfl rfl (by kernel_rfl) (by kernel_rfl) (by kernel_rfl) (fun _ _ _ h => h) (by rfl) ?_ (by assumption) ?_
  rotate_left
  · (intro w hSw; (try dsimp only at hSw); go_simp) <;> with_reducible rfl
  try simp only [Act.put, List.setIfInBounds_toArray, List.set_cons_zero, List.set_cons_succ]
  refine wpAnyH_ready (rs := [7]) (by kernel_rfl) (by simp) ?_
  refine AllReadyH.cons rfl (fun K hK => ?_) AllReadyH.nil
  have y0 : w3.cell? ⟨s + 2, 0, none⟩ = some (.bool false) := by rw [(row_cell Y3.out 0).1]; rfl
  have y1 : w3.cell? ⟨s + 2, 1, none⟩ = some (.slice none 0 0) := by rw [(row_cell Y3.out 1).1]; rfl
  have z0 : w3.frozen? ⟨s + 2, 0, none⟩ = false := (row_cell Y3.out 0).2
  have z1 : w3.frozen? ⟨s + 2, 1, none⟩ = false := (row_cell Y3.out 1).2
  try go_simp
  refine hK.out _ _ ?_ (fun hHeld => ?_)
  · exact ⟨by rw [World.cell?_setCell_other _ _ _ _ (by intro e; injection e with e e2; omega), World.cell?_setCell_other _ _ _ _ (by intro e; injection e with e e2; omega)]; exact j0, by rw [World.cell?_setCell_other _ _ _ _ (by intro e; injection e with e e2; omega), World.cell?_setCell_other _ _ _ _ (by intro e; injection e with e e2; omega)]; exact j1, by rw [World.cell?_setCell_other _ _ _ _ (by intro e; injection e with e e2; omega), World.cell?_setCell_other _ _ _ _ (by intro e; injection e with e e2; omega)]; exact j2⟩
  clear hK K
  try simp only [Act.put, List.setIfInBounds_toArray, List.set_cons_zero, List.set_cons_succ]
  refine takeD (i := 8) (d := some 7) (v := ?_) _ rfl rfl (by kernel_rfl) (by kernel_rfl) (by kernel_rfl) (fun _ _ _ h => h) (by rfl) ?_ (by assumption) ?_
  rotate_left
  · (intro w hSw; (try dsimp only at hSw); go_simp) <;> with_reducible rfl
  try simp only [Act.put, List.setIfInBounds_toArray, List.set_cons_zero, List.set_cons_succ]
  refine wpAnyH_done (by kernel_rfl) ?_ _
  clear hHeld
  have hLT := HLT.out
  have hS0 := S0.out
  have hW2s := HW2.out
  have hd : W2.drew.heap.size = W2.heap.size := rfl
  have N3 : Nx g rb rb w w3 := (BN2.out.trans (Nx.of_below (Below.refl _ _).drew)).trans R4.out
  have RL3 : Rl w3 (.slice A1 m c1) (fun b => s + 3 ≤ b) (outI L id) := ((RL2.out.keep_below (w' := W2.drew) (Below.refl _ _).drew).keep (w' := w3) R4.out.ch.size (fun b h1 hb => R4.out.ch.block b h1 (by omega) (by omega))).imp fun b _ h => h.2
  have FIN := Lib.hid (do_fin (s := s + 2) (by omega) (by omega) R3.out (by omega) RL3 (fun b hb => by omega) N3 (.bool up) (.slice A1 m c1))
  go_wp2_with fail
  refine bodyPost_ret (results_cell_tmp rfl _ _ (s + 2) _ _ rfl (set_two Y3.out _ _) Try.underlying28 rfl (by kernel_rfl)) rfl ?_
  obtain ⟨f1, f2, f3⟩ := FIN.out
  exact ⟨_, rb, up, outI L id, rfl, f1, f2.imp fun b _ hb => .inr ⟨by omega, by omega⟩, f3, fun h1 h2 => by rw [h1 h2]; rfl, by have := outI_len L id; omega⟩
theorem do_any (lo g rb : Nat) (up : Bool) (L : List Int) (v : Value) (p : Nat → Prop) (x id : Int) (w : World) (h : EV lo w g rb up L) (hv : Rl w v p L) (hp : ∀ b, p b → b ≠ g ∧ b ≠ rb) (hL : L.length ≤ 900) :
    Calls Try.prog 11 #[.pointer (some ⟨g, 0, none⟩), .agg #[.bool up, v], .agg #[.int .i64 x, .int .i64 id]] w (DoP lo g rb p up L w) := by
  obtain ⟨u, q, hu, hq, hq', hlt, _⟩ := lowK 4 (by omega) x
  obtain hk | hk | hk | hk : q = 0 ∨ q = 1 ∨ q = 2 ∨ q = 3 := by omega
  · subst hk; exact do_0 lo g rb up L v p x id u w h hv hp hL hu hq hq'
  · subst hk; exact do_1 lo g rb up L v p x id u w h hv hp hL hu hq hq'
  · subst hk; exact do_2 lo g rb up L v p x id u w h hv hp hL hu hq hq'
  · subst hk; exact do_3 lo g rb up L v p x id u w h hv hp hL hu hq hq'
end Go.Proofs.Ytehlgfflbbfjkaa.E
