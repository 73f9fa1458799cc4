/-
  What a receiver takes. Each statement bears its own conditions.
-/
import Derived.Test.YtkbjonblflhkoaaLnX
import Derived.Lib.EndianBits
namespace Go.Proofs.Ytkbjonblflhkoaa.Ln
open Go.RowKit Go.Proofs.Ytkbjonblflhkoaa.F Go.Proofs.Ytkbjonblflhkoaa.U Go.Proofs.Ytkbjonblflhkoaa.Q
set_option linter.unusedVariables false
set_option linter.unusedSimpArgs false
theorem wraps_u64 : ∀ n : Int, 0 ≤ n → n < 2 ^ 64 → IntKind.u64.wrap n = n := fun n h0 h1 => by
  rw [IntKind.wrap_u64]; omega
theorem bit_test (A o : Nat) (hA : A < 18446744073709551616) (ho : o < 64) : (bits BinOp.and IntKind.u64 ((A : Int) / 2 ^ min o 64) 1 == 1) = A.testBit o := by
  rw [Nat.min_eq_left (by omega)]
  have e1 : (A : Int) / 2 ^ o = ((A / 2 ^ o : Nat) : Int) := by push_cast; rfl
  have hlt : A / 2 ^ o < 2 ^ 64 := Nat.lt_of_le_of_lt (Nat.div_le_self _ _) hA
  have e2 := (bits_nat .u64 64 (by decide) wraps_u64 (A / 2 ^ o) 1 hlt (by decide)).1
  rw [e1]
  rw [show ((1 : Int)) = ((1 : Nat) : Int) from rfl, e2, Nat.and_one_is_mod, Nat.testBit_eq_decide_div_mod_eq]
  by_cases h : A / 2 ^ o % 2 = 1
  · simp [h]
  · have h2 : A / 2 ^ o % 2 = 0 := by omega
    simp [h2]
theorem or_set (A o : Nat) (hA : A < 18446744073709551616) (ho : o < 64) : bits BinOp.or IntKind.u64 (A : Int) (IntKind.u64.wrap (2 ^ min o 64)) = ((A ||| 2 ^ o : Nat) : Int) := by
  rw [Nat.min_eq_left (by omega)]
  have hp : 2 ^ o < 2 ^ 64 := Nat.pow_lt_pow_right (by decide) ho
  have hpi : (2 : Int) ^ o < 2 ^ 64 := by exact_mod_cast hp
  have e1 : IntKind.u64.wrap ((2 : Int) ^ o) = ((2 ^ o : Nat) : Int) := by
    rw [wraps_u64 _ (by have := Int.pow_pos (n := 2) (m := o) (by decide); omega) hpi]
    push_cast; rfl
  rw [e1, (bits_nat .u64 64 (by decide) wraps_u64 A (2 ^ o) hA hp).2]
theorem or_lt (A o : Nat) (hA : A < 18446744073709551616) (ho : o < 64) : A ||| 2 ^ o < 18446744073709551616 :=
  Nat.or_lt_two_pow (n := 64) hA (Nat.pow_lt_pow_right (by decide) ho)
/-- How far a number is ahead; how much older. -/
def tkD (r : RcS) (num : Int) : Int := (num - r.newest + 256).tmod 256
def tkO (r : RcS) (num : Int) : Int := (256 - tkD r num).tmod 256
theorem tkD_bd {r : RcS} (h : r.ok) {num : Int} (hn : 0 ≤ num ∧ num ≤ 255) : 0 ≤ tkD r num ∧ tkD r num < 256 := by
  unfold tkD
  have := h.n
  exact ⟨Int.tmod_nonneg _ (by omega), Int.tmod_lt_of_pos _ (by decide)⟩
theorem tkO_bd {r : RcS} (h : r.ok) {num : Int} (hn : 0 ≤ num ∧ num ≤ 255) : 0 ≤ tkO r num ∧ tkO r num < 256 := by
  unfold tkO
  have := tkD_bd h hn
  exact ⟨Int.tmod_nonneg _ (by omega), Int.tmod_lt_of_pos _ (by decide)⟩
set_option maxRecDepth 100000 in
set_option maxHeartbeats 8000000 in
theorem take_arg (g : Nat) (r : RcS) (net num : Int) (Am : Option Addr) (m cm : Nat) (w : World) (h : RV w g r) (ha : ¬ (0 ≤ net ∧ net ≤ 1 ∧ 0 ≤ num ∧ num ≤ 255)) : Calls Try.prog 20 #[.pointer (some ⟨g, 0, none⟩), .int .i64 net, .agg #[.int .i64 num, .slice Am m cm]] w fun e w' => e = .returned (.tuple #[.slice none 0 0, .bool false, .int .i64 1]) ∧ Below w.heap.size w w' := by
  obtain ⟨X, hX⟩ : ∃ X, w.heap.size = X := ⟨_, rfl⟩
  obtain ⟨W0, hW0⟩ : ∃ W0, w.alloc (.cells #[.int .i64 num, .slice Am m cm] 44) = W0 := ⟨_, rfl⟩
  have B0 : Hid (Below X w W0) := by rw [← hW0, ← hX]; exact ((Below.refl _ _).alloc (Nat.le_refl _) _)
  have HB0 : Hid (W0.heap[X]? = some (.cells #[.int .i64 num, .slice Am m cm] 44 (0, 0)) ∧ W0.heap.size = X + 1) := by rw [← hW0, ← hX]; exact ⟨heap_alloc_new _ _, by simp⟩
  have HR0 := Lib.hid (h.below (by rw [hX]; exact B0.out))
  have x0 : W0.cell? ⟨X, 0, none⟩ = some (.int .i64 num) := by rw [(row_cell HB0.out.1 0).1]; rfl
  have x1 : W0.cell? ⟨X, 1, none⟩ = some (.slice Am m cm) := by rw [(row_cell HB0.out.1 1).1]; rfl
  have d0 : W0.cell? ⟨g, 0, none⟩ = some (.int .i64 r.words) := by rw [(row_cell HR0.out.ce 0).1]; rfl
  have d1 : W0.cell? ⟨g, 1, none⟩ = some (.int .i64 r.newest) := by rw [(row_cell HR0.out.ce 1).1]; rfl
  have d2 : W0.cell? ⟨g, 2, none⟩ = some (.int .u64 ((r.arr : Nat) : Int)) := by rw [(row_cell HR0.out.ce 2).1]; rfl
  have d3 : W0.cell? ⟨g, 3, none⟩ = some (.int .i64 r.lost) := by rw [(row_cell HR0.out.ce 3).1]; rfl
  clear h
  by_cases c1 : net < 0
  · have e1 : decide (net < 0) = true := by simpa using c1
    clear c1 ha
    go_enter Try.func20, Try.ntmps20
    go_wp2_with fail
    go_ret3
    exact ⟨rfl, by rw [hX]; exact B0.out⟩
  have e1 : decide (net < 0) = false := by simpa using c1
  by_cases c2 : 2 ≤ net
  · have e2 : decide (2 ≤ net) = true := by simpa using c2
    clear c1 c2 ha
    go_enter Try.func20, Try.ntmps20
    go_wp2_with fail
    go_ret3
    exact ⟨rfl, by rw [hX]; exact B0.out⟩
  have e2 : decide (2 ≤ net) = false := by simpa using c2
  by_cases c3 : num < 0
  · have e3 : decide (num < 0) = true := by simpa using c3
    clear c1 c2 c3 ha
    go_enter Try.func20, Try.ntmps20
    go_wp2_with fail
    go_ret3
    exact ⟨rfl, by rw [hX]; exact B0.out⟩
  have e3 : decide (num < 0) = false := by simpa using c3
  have c4 : 256 ≤ num := by omega
  have e4 : decide (256 ≤ num) = true := by simpa using c4
  clear c1 c2 c3 c4 ha
  go_enter Try.func20, Try.ntmps20
  go_wp2_with fail
  go_ret3
  exact ⟨rfl, by rw [hX]; exact B0.out⟩
theorem take_nil (net num : Int) (Am : Option Addr) (m cm : Nat) (w : World) : Calls Try.prog 20 #[.pointer none, .int .i64 net, .agg #[.int .i64 num, .slice Am m cm]] w fun e w' => e = .returned (.tuple #[.slice none 0 0, .bool false, .int .i64 1]) ∧ Below w.heap.size w w' := by
  have B0 : Hid (Below w.heap.size w (w.alloc (.cells #[.int .i64 num, .slice Am m cm] 44))) := ((Below.refl _ _).alloc (Nat.le_refl _) _)
  go_enter Try.func20, Try.ntmps20
  go_wp2_with fail
  go_ret3
  exact ⟨rfl, B0.out⟩
set_option maxRecDepth 100000 in
set_option maxHeartbeats 8000000 in
theorem take_range (g : Nat) (r : RcS) (net num : Int) (Am : Option Addr) (m cm : Nat) (w : World) (h : RV w g r) (ha : 0 ≤ net ∧ net ≤ 1 ∧ 0 ≤ num ∧ num ≤ 255) (hl : r.words < (m : Int)) : Calls Try.prog 20 #[.pointer (some ⟨g, 0, none⟩), .int .i64 net, .agg #[.int .i64 num, .slice Am m cm]] w fun e w' => e = .returned (.tuple #[.slice none 0 0, .bool false, .int .i64 2]) ∧ Below w.heap.size w w' := by
  obtain ⟨X, hX⟩ : ∃ X, w.heap.size = X := ⟨_, rfl⟩
  obtain ⟨W0, hW0⟩ : ∃ W0, w.alloc (.cells #[.int .i64 num, .slice Am m cm] 44) = W0 := ⟨_, rfl⟩
  have B0 : Hid (Below X w W0) := by rw [← hW0, ← hX]; exact ((Below.refl _ _).alloc (Nat.le_refl _) _)
  have HB0 : Hid (W0.heap[X]? = some (.cells #[.int .i64 num, .slice Am m cm] 44 (0, 0)) ∧ W0.heap.size = X + 1) := by rw [← hW0, ← hX]; exact ⟨heap_alloc_new _ _, by simp⟩
  have HR0 := Lib.hid (h.below (by rw [hX]; exact B0.out))
  have x0 : W0.cell? ⟨X, 0, none⟩ = some (.int .i64 num) := by rw [(row_cell HB0.out.1 0).1]; rfl
  have x1 : W0.cell? ⟨X, 1, none⟩ = some (.slice Am m cm) := by rw [(row_cell HB0.out.1 1).1]; rfl
  have d0 : W0.cell? ⟨g, 0, none⟩ = some (.int .i64 r.words) := by rw [(row_cell HR0.out.ce 0).1]; rfl
  have d1 : W0.cell? ⟨g, 1, none⟩ = some (.int .i64 r.newest) := by rw [(row_cell HR0.out.ce 1).1]; rfl
  have d2 : W0.cell? ⟨g, 2, none⟩ = some (.int .u64 ((r.arr : Nat) : Int)) := by rw [(row_cell HR0.out.ce 2).1]; rfl
  have d3 : W0.cell? ⟨g, 3, none⟩ = some (.int .i64 r.lost) := by rw [(row_cell HR0.out.ce 3).1]; rfl
  have c1 : decide (net < 0) = false := by simpa using ha.1
  have c2 : decide (2 ≤ net) = false := by simp; omega
  have c3 : decide (num < 0) = false := by simpa using ha.2.2.1
  have c4 : decide (256 ≤ num) = false := by simp; omega
  have c5 : decide (r.words < (m : Int)) = true := by simpa using hl
  clear h ha hl
  go_enter Try.func20, Try.ntmps20
  go_wp2_with fail
  refine wp_region_held_drew (S := (fun w' => Below W0.heap.size W0 w' ∧ w'.cell? ⟨X, 0, none⟩ = some (.int .i64 num) ∧ w'.cell? ⟨X, 1, none⟩ = some (.slice Am m cm) ∧ w'.cell? ⟨g, 0, none⟩ = some (.int .i64 r.words) ∧ w'.cell? ⟨g, 1, none⟩ = some (.int .i64 r.newest) ∧ w'.cell? ⟨g, 2, none⟩ = some (.int .u64 ((r.arr : Nat) : Int)) ∧ w'.cell? ⟨g, 3, none⟩ = some (.int .i64 r.lost))) (by kernel_rfl) ?_ (fun hHeld => ?_)
  · exact ⟨(Below.refl _ _).drew, x0, x1, d0, d1, d2, d3⟩
  refine takeD (i := 0) (d := some 33) (v := ?_) _ rfl rfl (by kernel_rfl) (by kernel_rfl) (by kernel_rfl) (fun _ _ _ h => h) (by rfl) ?_ (by assumption) ?_
  rotate_left
  · (intro w hSw; (try dsimp only at hSw); go_simp) <;> with_reducible rfl
  try simp only [Act.put, List.setIfInBounds_toArray, List.set_cons_zero, List.set_cons_succ]
  refine takeD (i := 1) (d := some 34) (v := ?_) _ rfl rfl (by kernel_rfl) (by kernel_rfl) (by kernel_rfl) (fun _ _ _ h => h) (by rfl) ?_ (by assumption) ?_
  rotate_left
  · (intro w hSw; (try dsimp only at hSw); go_simp) <;> with_reducible rfl
  try simp only [Act.put, List.setIfInBounds_toArray, List.set_cons_zero, List.set_cons_succ]
  refine takeD (i := 2) (d := some 35) (v := ?_) _ rfl rfl (by kernel_rfl) (by kernel_rfl) (by kernel_rfl) (fun _ _ _ h => h) (by rfl) ?_ (by assumption) ?_
  rotate_left
  · (intro w hSw; (try dsimp only at hSw); go_simp) <;> with_reducible rfl
  try simp only [Act.put, List.setIfInBounds_toArray, List.set_cons_zero, List.set_cons_succ]
  refine takeD (i := 3) (d := some 36) (v := ?_) _ rfl rfl (by kernel_rfl) (by kernel_rfl) (by kernel_rfl) (fun _ _ _ h => h) (by rfl) ?_ (by assumption) ?_
  rotate_left
  · (intro w hSw; (try dsimp only at hSw); go_simp) <;> with_reducible rfl
  try simp only [Act.put, List.setIfInBounds_toArray, List.set_cons_zero, List.set_cons_succ]
  refine takeD (i := 4) (d := some 37) (v := ?_) _ rfl rfl (by kernel_rfl) (by kernel_rfl) (by kernel_rfl) (fun _ _ _ h => h) (by rfl) ?_ (by assumption) ?_
  rotate_left
  · (intro w hSw; (try dsimp only at hSw); go_simp) <;> with_reducible rfl
  try simp only [Act.put, List.setIfInBounds_toArray, List.set_cons_zero, List.set_cons_succ]
  refine takeD (i := 5) (d := some 38) (v := ?_) _ rfl rfl (by kernel_rfl) (by kernel_rfl) (by kernel_rfl) (fun _ _ _ h => h) (by rfl) ?_ (by assumption) ?_
  rotate_left
  · (intro w hSw; (try dsimp only at hSw); go_simp) <;> with_reducible rfl
  try simp only [Act.put, List.setIfInBounds_toArray, List.set_cons_zero, List.set_cons_succ]
  refine takeD (i := 6) (d := some 39) (v := ?_) _ rfl rfl (by kernel_rfl) (by kernel_rfl) (by kernel_rfl) (fun _ _ _ h => h) (by rfl) ?_ (by assumption) ?_
  rotate_left
  · (intro w hSw; (try dsimp only at hSw); go_simp) <;> with_reducible rfl
  try simp only [Act.put, List.setIfInBounds_toArray, List.set_cons_zero, List.set_cons_succ]
  refine takeD (i := 7) (d := some 40) (v := ?_) _ rfl rfl (by kernel_rfl) (by kernel_rfl) (by kernel_rfl) (fun _ _ _ h => h) (by rfl) ?_ (by assumption) ?_
  rotate_left
  · (intro w hSw; (try dsimp only at hSw); go_simp) <;> with_reducible rfl
  try simp only [Act.put, List.setIfInBounds_toArray, List.set_cons_zero, List.set_cons_succ]
  refine takeD (i := 8) (d := some 32) (v := ?_) _ rfl rfl (by kernel_rfl) (by kernel_rfl) (by kernel_rfl) (fun _ _ _ h => h) (by rfl) ?_ (by assumption) ?_
  rotate_left
  · (intro w hSw; (try dsimp only at hSw); go_simp) <;> with_reducible rfl
  try simp only [Act.put, List.setIfInBounds_toArray, List.set_cons_zero, List.set_cons_succ]
  refine wpAnyH_done (by kernel_rfl) ?_ _
  obtain ⟨V1, hV1⟩ : ∃ V, W0.drew = V := ⟨_, rfl⟩
  rw [hV1] at hHeld
  rw [hV1]
  clear hV1 x0 x1 d0 d1 d2 d3
  obtain ⟨bV1, x0, x1, d0, d1, d2, d3⟩ := hHeld
  have BV1 := Lib.hid bV1
  clear bV1
  have BF : Hid (Below X w V1) := B0.out.trans (BV1.out.mono (by have := HB0.out.2; omega))
  go_wp2_with fail
  go_ret3
  exact ⟨rfl, by rw [hX]; exact BF.out⟩
set_option maxRecDepth 100000 in
set_option maxHeartbeats 8000000 in
theorem take_old (g : Nat) (r : RcS) (net num : Int) (Am : Option Addr) (m cm : Nat) (w : World) (h : RV w g r) (ha : 0 ≤ net ∧ net ≤ 1 ∧ 0 ≤ num ∧ num ≤ 255) (hl : (m : Int) ≤ r.words) (hdo : ¬ (1 ≤ tkD r num ∧ tkD r num ≤ 127)) (hoo : 64 ≤ tkO r num) : Calls Try.prog 20 #[.pointer (some ⟨g, 0, none⟩), .int .i64 net, .agg #[.int .i64 num, .slice Am m cm]] w fun e w' => e = .returned (.tuple #[.slice none 0 0, .bool false, .int .i64 18]) ∧ Below w.heap.size w w' := by
  obtain ⟨X, hX⟩ : ∃ X, w.heap.size = X := ⟨_, rfl⟩
  obtain ⟨W0, hW0⟩ : ∃ W0, w.alloc (.cells #[.int .i64 num, .slice Am m cm] 44) = W0 := ⟨_, rfl⟩
  have B0 : Hid (Below X w W0) := by rw [← hW0, ← hX]; exact ((Below.refl _ _).alloc (Nat.le_refl _) _)
  have HB0 : Hid (W0.heap[X]? = some (.cells #[.int .i64 num, .slice Am m cm] 44 (0, 0)) ∧ W0.heap.size = X + 1) := by rw [← hW0, ← hX]; exact ⟨heap_alloc_new _ _, by simp⟩
  have HR0 := Lib.hid (h.below (by rw [hX]; exact B0.out))
  have x0 : W0.cell? ⟨X, 0, none⟩ = some (.int .i64 num) := by rw [(row_cell HB0.out.1 0).1]; rfl
  have x1 : W0.cell? ⟨X, 1, none⟩ = some (.slice Am m cm) := by rw [(row_cell HB0.out.1 1).1]; rfl
  have d0 : W0.cell? ⟨g, 0, none⟩ = some (.int .i64 r.words) := by rw [(row_cell HR0.out.ce 0).1]; rfl
  have d1 : W0.cell? ⟨g, 1, none⟩ = some (.int .i64 r.newest) := by rw [(row_cell HR0.out.ce 1).1]; rfl
  have d2 : W0.cell? ⟨g, 2, none⟩ = some (.int .u64 ((r.arr : Nat) : Int)) := by rw [(row_cell HR0.out.ce 2).1]; rfl
  have d3 : W0.cell? ⟨g, 3, none⟩ = some (.int .i64 r.lost) := by rw [(row_cell HR0.out.ce 3).1]; rfl
  have c1 : decide (net < 0) = false := by simpa using ha.1
  have c2 : decide (2 ≤ net) = false := by simp; omega
  have c3 : decide (num < 0) = false := by simpa using ha.2.2.1
  have c4 : decide (256 ≤ num) = false := by simp; omega
  have c5 : decide (r.words < (m : Int)) = false := by simpa using hl
  obtain ⟨d, hdI⟩ : ∃ d : Nat, tkD r num = (d : Int) := ⟨(tkD r num).toNat, by have := tkD_bd h.ok ha.2.2; omega⟩
  obtain ⟨o, hoI⟩ : ∃ o : Nat, tkO r num = (o : Int) := ⟨(tkO r num).toNat, by have := tkO_bd h.ok ha.2.2; omega⟩
  have hd2 : (num - r.newest + 256).tmod 256 = (d : Int) := hdI
  have ho2 : (256 - (d : Int)).tmod 256 = (o : Int) := by rw [← hdI]; exact hoI
  have hbd := tkD_bd h.ok ha.2.2
  rw [hdI] at hbd hdo
  rw [hoI] at hoo
  have hw : IntKind.i64.wrap (num - r.newest) = num - r.newest := by have := h.ok.n; rw [IntKind.wrap_i64]; omega
  have hw2 : IntKind.i64.wrap (num - r.newest + 256) = num - r.newest + 256 := by have := h.ok.n; rw [IntKind.wrap_i64]; omega
  have hw3 : IntKind.i64.wrap (256 - (d : Int)) = 256 - (d : Int) := by rw [IntKind.wrap_i64]; omega
  have e8 : decide (64 ≤ (o : Int)) = true := by simp; omega
  clear h ha hl hdI hoI
  by_cases hd1 : 1 ≤ d
  · have e6 : decide (1 ≤ (d : Int)) = true := by simp; omega
    have e7 : decide ((d : Int) ≤ 127) = false := by simp; omega
    clear hdo hbd hd1 hoo
    go_enter Try.func20, Try.ntmps20
    go_wp2_with fail
    refine wp_region_held_drew (S := (fun w' => Below W0.heap.size W0 w' ∧ w'.cell? ⟨X, 0, none⟩ = some (.int .i64 num) ∧ w'.cell? ⟨X, 1, none⟩ = some (.slice Am m cm) ∧ w'.cell? ⟨g, 0, none⟩ = some (.int .i64 r.words) ∧ w'.cell? ⟨g, 1, none⟩ = some (.int .i64 r.newest) ∧ w'.cell? ⟨g, 2, none⟩ = some (.int .u64 ((r.arr : Nat) : Int)) ∧ w'.cell? ⟨g, 3, none⟩ = some (.int .i64 r.lost))) (by kernel_rfl) ?_ (fun hHeld => ?_)
    · exact ⟨(Below.refl _ _).drew, x0, x1, d0, d1, d2, d3⟩
    refine takeD (i := 0) (d := some 33) (v := ?_) _ rfl rfl (by kernel_rfl) (by kernel_rfl) (by kernel_rfl) (fun _ _ _ h => h) (by rfl) ?_ (by assumption) ?_
    rotate_left
    · (intro w hSw; (try dsimp only at hSw); go_simp) <;> with_reducible rfl
    try simp only [Act.put, List.setIfInBounds_toArray, List.set_cons_zero, List.set_cons_succ]
    refine takeD (i := 1) (d := some 34) (v := ?_) _ rfl rfl (by kernel_rfl) (by kernel_rfl) (by kernel_rfl) (fun _ _ _ h => h) (by rfl) ?_ (by assumption) ?_
    rotate_left
    · (intro w hSw; (try dsimp only at hSw); go_simp) <;> with_reducible rfl
    try simp only [Act.put, List.setIfInBounds_toArray, List.set_cons_zero, List.set_cons_succ]
    refine takeD (i := 2) (d := some 35) (v := ?_) _ rfl rfl (by kernel_rfl) (by kernel_rfl) (by kernel_rfl) (fun _ _ _ h => h) (by rfl) ?_ (by assumption) ?_
    rotate_left
    · (intro w hSw; (try dsimp only at hSw); go_simp) <;> with_reducible rfl
    try simp only [Act.put, List.setIfInBounds_toArray, List.set_cons_zero, List.set_cons_succ]
    refine takeD (i := 3) (d := some 36) (v := ?_) _ rfl rfl (by kernel_rfl) (by kernel_rfl) (by kernel_rfl) (fun _ _ _ h => h) (by rfl) ?_ (by assumption) ?_
    rotate_left
    · (intro w hSw; (try dsimp only at hSw); go_simp) <;> with_reducible rfl
    try simp only [Act.put, List.setIfInBounds_toArray, List.set_cons_zero, List.set_cons_succ]
    refine takeD (i := 4) (d := some 37) (v := ?_) _ rfl rfl (by kernel_rfl) (by kernel_rfl) (by kernel_rfl) (fun _ _ _ h => h) (by rfl) ?_ (by assumption) ?_
    rotate_left
    · (intro w hSw; (try dsimp only at hSw); go_simp) <;> with_reducible rfl
    try simp only [Act.put, List.setIfInBounds_toArray, List.set_cons_zero, List.set_cons_succ]
    refine takeD (i := 5) (d := some 38) (v := ?_) _ rfl rfl (by kernel_rfl) (by kernel_rfl) (by kernel_rfl) (fun _ _ _ h => h) (by rfl) ?_ (by assumption) ?_
    rotate_left
    · (intro w hSw; (try dsimp only at hSw); go_simp) <;> with_reducible rfl
    try simp only [Act.put, List.setIfInBounds_toArray, List.set_cons_zero, List.set_cons_succ]
    refine takeD (i := 6) (d := some 39) (v := ?_) _ rfl rfl (by kernel_rfl) (by kernel_rfl) (by kernel_rfl) (fun _ _ _ h => h) (by rfl) ?_ (by assumption) ?_
    rotate_left
    · (intro w hSw; (try dsimp only at hSw); go_simp) <;> with_reducible rfl
    try simp only [Act.put, List.setIfInBounds_toArray, List.set_cons_zero, List.set_cons_succ]
    refine takeD (i := 7) (d := some 40) (v := ?_) _ rfl rfl (by kernel_rfl) (by kernel_rfl) (by kernel_rfl) (fun _ _ _ h => h) (by rfl) ?_ (by assumption) ?_
    rotate_left
    · (intro w hSw; (try dsimp only at hSw); go_simp) <;> with_reducible rfl
    try simp only [Act.put, List.setIfInBounds_toArray, List.set_cons_zero, List.set_cons_succ]
    refine takeD (i := 8) (d := some 32) (v := ?_) _ rfl rfl (by kernel_rfl) (by kernel_rfl) (by kernel_rfl) (fun _ _ _ h => h) (by rfl) ?_ (by assumption) ?_
    rotate_left
    · (intro w hSw; (try dsimp only at hSw); go_simp) <;> with_reducible rfl
    try simp only [Act.put, List.setIfInBounds_toArray, List.set_cons_zero, List.set_cons_succ]
    refine wpAnyH_done (by kernel_rfl) ?_ _
    obtain ⟨V1, hV1⟩ : ∃ V, W0.drew = V := ⟨_, rfl⟩
    rw [hV1] at hHeld
    rw [hV1]
    clear hV1 x0 x1 d0 d1 d2 d3
    obtain ⟨bV1, x0, x1, d0, d1, d2, d3⟩ := hHeld
    have BV1 := Lib.hid bV1
    clear bV1
    go_wp2_with fail
    refine wp_region_held_drew (S := (fun w' => Below V1.heap.size V1 w' ∧ w'.cell? ⟨X, 0, none⟩ = some (.int .i64 num) ∧ w'.cell? ⟨X, 1, none⟩ = some (.slice Am m cm) ∧ w'.cell? ⟨g, 0, none⟩ = some (.int .i64 r.words) ∧ w'.cell? ⟨g, 1, none⟩ = some (.int .i64 r.newest) ∧ w'.cell? ⟨g, 2, none⟩ = some (.int .u64 ((r.arr : Nat) : Int)) ∧ w'.cell? ⟨g, 3, none⟩ = some (.int .i64 r.lost))) (by kernel_rfl) ?_ (fun hHeld => ?_)
    · exact ⟨(Below.refl _ _).drew, x0, x1, d0, d1, d2, d3⟩
    refine takeD (i := 0) (d := some 41) (v := ?_) _ rfl rfl (by kernel_rfl) (by kernel_rfl) (by kernel_rfl) (fun _ _ _ h => h) (by rfl) ?_ (by assumption) ?_
    rotate_left
    · (intro w hSw; (try dsimp only at hSw); go_simp) <;> with_reducible rfl
    try simp only [Act.put, List.setIfInBounds_toArray, List.set_cons_zero, List.set_cons_succ]
    refine takeD (i := 1) (d := some 42) (v := ?_) _ rfl rfl (by kernel_rfl) (by kernel_rfl) (by kernel_rfl) (fun _ _ _ h => h) (by rfl) ?_ (by assumption) ?_
    rotate_left
    · (intro w hSw; (try dsimp only at hSw); go_simp) <;> with_reducible rfl
    try simp only [Act.put, List.setIfInBounds_toArray, List.set_cons_zero, List.set_cons_succ]
    refine takeD (i := 2) (d := some 43) (v := ?_) _ rfl rfl (by kernel_rfl) (by kernel_rfl) (by kernel_rfl) (fun _ _ _ h => h) (by rfl) ?_ (by assumption) ?_
    rotate_left
    · (intro w hSw; (try dsimp only at hSw); go_simp) <;> with_reducible rfl
    try simp only [Act.put, List.setIfInBounds_toArray, List.set_cons_zero, List.set_cons_succ]
    refine takeD (i := 3) (d := some 44) (v := ?_) _ rfl rfl (by kernel_rfl) (by kernel_rfl) (by kernel_rfl) (fun _ _ _ h => h) (by rfl) ?_ (by assumption) ?_
    rotate_left
    · (intro w hSw; (try dsimp only at hSw); go_simp) <;> with_reducible rfl
    try simp only [Act.put, List.setIfInBounds_toArray, List.set_cons_zero, List.set_cons_succ]
    refine takeD (i := 4) (d := some 45) (v := ?_) _ rfl rfl (by kernel_rfl) (by kernel_rfl) (by kernel_rfl) (fun _ _ _ h => h) (by rfl) ?_ (by assumption) ?_
    rotate_left
    · (intro w hSw; (try dsimp only at hSw); go_simp) <;> with_reducible rfl
    try simp only [Act.put, List.setIfInBounds_toArray, List.set_cons_zero, List.set_cons_succ]
    refine takeD (i := 5) (d := some 46) (v := ?_) _ rfl rfl (by kernel_rfl) (by kernel_rfl) (by kernel_rfl) (fun _ _ _ h => h) (by rfl) ?_ (by assumption) ?_
    rotate_left
    · (intro w hSw; (try dsimp only at hSw); go_simp) <;> with_reducible rfl
    try simp only [Act.put, List.setIfInBounds_toArray, List.set_cons_zero, List.set_cons_succ]
    refine takeD (i := 6) (d := some 47) (v := ?_) _ rfl rfl (by kernel_rfl) (by kernel_rfl) (by kernel_rfl) (fun _ _ _ h => h) (by rfl) ?_ (by assumption) ?_
    rotate_left
    · (intro w hSw; (try dsimp only at hSw); go_simp) <;> with_reducible rfl
    try simp only [Act.put, List.setIfInBounds_toArray, List.set_cons_zero, List.set_cons_succ]
    refine takeD (i := 7) (d := some 48) (v := ?_) _ rfl rfl (by kernel_rfl) (by kernel_rfl) (by kernel_rfl) (fun _ _ _ h => h) (by rfl) ?_ (by assumption) ?_
    rotate_left
    · (intro w hSw; (try dsimp only at hSw); go_simp) <;> with_reducible rfl
    try simp only [Act.put, List.setIfInBounds_toArray, List.set_cons_zero, List.set_cons_succ]
    refine takeD (i := 8) (d := some 49) (v := ?_) _ rfl rfl (by kernel_rfl) (by kernel_rfl) (by kernel_rfl) (fun _ _ _ h => h) (by rfl) ?_ (by assumption) ?_
    rotate_left
    · (intro w hSw; (try dsimp only at hSw); go_simp) <;> with_reducible rfl
    try simp only [Act.put, List.setIfInBounds_toArray, List.set_cons_zero, List.set_cons_succ]
    refine takeD (i := 9) (d := some 9) (v := ?_) _ rfl rfl (by kernel_rfl) (by kernel_rfl) (by kernel_rfl) (fun _ _ _ h => h) (by rfl) ?_ (by assumption) ?_
    rotate_left
    · (intro w hSw; (try dsimp only at hSw); go_simp) <;> with_reducible rfl
    try simp only [Act.put, List.setIfInBounds_toArray, List.set_cons_zero, List.set_cons_succ]
    refine wpAnyH_done (by kernel_rfl) ?_ _
    obtain ⟨V2, hV2⟩ : ∃ V, V1.drew = V := ⟨_, rfl⟩
    rw [hV2] at hHeld
    rw [hV2]
    clear hV2 x0 x1 d0 d1 d2 d3
    obtain ⟨bV2, x0, x1, d0, d1, d2, d3⟩ := hHeld
    have BV2 := Lib.hid bV2
    clear bV2
    have BF : Hid (Below X w V2) := B0.out.trans ((BV1.out.trans (BV2.out.mono BV1.out.size)).mono (by have := HB0.out.2; omega))
    go_wp2_with fail
    go_ret3
    exact ⟨rfl, by rw [hX]; exact BF.out⟩
  · have e6 : decide (1 ≤ (d : Int)) = false := by simp; omega
    clear hdo hbd hd1 hoo
    go_enter Try.func20, Try.ntmps20
    go_wp2_with fail
    refine wp_region_held_drew (S := (fun w' => Below W0.heap.size W0 w' ∧ w'.cell? ⟨X, 0, none⟩ = some (.int .i64 num) ∧ w'.cell? ⟨X, 1, none⟩ = some (.slice Am m cm) ∧ w'.cell? ⟨g, 0, none⟩ = some (.int .i64 r.words) ∧ w'.cell? ⟨g, 1, none⟩ = some (.int .i64 r.newest) ∧ w'.cell? ⟨g, 2, none⟩ = some (.int .u64 ((r.arr : Nat) : Int)) ∧ w'.cell? ⟨g, 3, none⟩ = some (.int .i64 r.lost))) (by kernel_rfl) ?_ (fun hHeld => ?_)
    · exact ⟨(Below.refl _ _).drew, x0, x1, d0, d1, d2, d3⟩
    refine takeD (i := 0) (d := some 33) (v := ?_) _ rfl rfl (by kernel_rfl) (by kernel_rfl) (by kernel_rfl) (fun _ _ _ h => h) (by rfl) ?_ (by assumption) ?_
    rotate_left
    · (intro w hSw; (try dsimp only at hSw); go_simp) <;> with_reducible rfl
    try simp only [Act.put, List.setIfInBounds_toArray, List.set_cons_zero, List.set_cons_succ]
    refine takeD (i := 1) (d := some 34) (v := ?_) _ rfl rfl (by kernel_rfl) (by kernel_rfl) (by kernel_rfl) (fun _ _ _ h => h) (by rfl) ?_ (by assumption) ?_
    rotate_left
    · (intro w hSw; (try dsimp only at hSw); go_simp) <;> with_reducible rfl
    try simp only [Act.put, List.setIfInBounds_toArray, List.set_cons_zero, List.set_cons_succ]
    refine takeD (i := 2) (d := some 35) (v := ?_) _ rfl rfl (by kernel_rfl) (by kernel_rfl) (by kernel_rfl) (fun _ _ _ h => h) (by rfl) ?_ (by assumption) ?_
    rotate_left
    · (intro w hSw; (try dsimp only at hSw); go_simp) <;> with_reducible rfl
    try simp only [Act.put, List.setIfInBounds_toArray, List.set_cons_zero, List.set_cons_succ]
    refine takeD (i := 3) (d := some 36) (v := ?_) _ rfl rfl (by kernel_rfl) (by kernel_rfl) (by kernel_rfl) (fun _ _ _ h => h) (by rfl) ?_ (by assumption) ?_
    rotate_left
    · (intro w hSw; (try dsimp only at hSw); go_simp) <;> with_reducible rfl
    try simp only [Act.put, List.setIfInBounds_toArray, List.set_cons_zero, List.set_cons_succ]
    refine takeD (i := 4) (d := some 37) (v := ?_) _ rfl rfl (by kernel_rfl) (by kernel_rfl) (by kernel_rfl) (fun _ _ _ h => h) (by rfl) ?_ (by assumption) ?_
    rotate_left
    · (intro w hSw; (try dsimp only at hSw); go_simp) <;> with_reducible rfl
    try simp only [Act.put, List.setIfInBounds_toArray, List.set_cons_zero, List.set_cons_succ]
    refine takeD (i := 5) (d := some 38) (v := ?_) _ rfl rfl (by kernel_rfl) (by kernel_rfl) (by kernel_rfl) (fun _ _ _ h => h) (by rfl) ?_ (by assumption) ?_
    rotate_left
    · (intro w hSw; (try dsimp only at hSw); go_simp) <;> with_reducible rfl
    try simp only [Act.put, List.setIfInBounds_toArray, List.set_cons_zero, List.set_cons_succ]
    refine takeD (i := 6) (d := some 39) (v := ?_) _ rfl rfl (by kernel_rfl) (by kernel_rfl) (by kernel_rfl) (fun _ _ _ h => h) (by rfl) ?_ (by assumption) ?_
    rotate_left
    · (intro w hSw; (try dsimp only at hSw); go_simp) <;> with_reducible rfl
    try simp only [Act.put, List.setIfInBounds_toArray, List.set_cons_zero, List.set_cons_succ]
    refine takeD (i := 7) (d := some 40) (v := ?_) _ rfl rfl (by kernel_rfl) (by kernel_rfl) (by kernel_rfl) (fun _ _ _ h => h) (by rfl) ?_ (by assumption) ?_
    rotate_left
    · (intro w hSw; (try dsimp only at hSw); go_simp) <;> with_reducible rfl
    try simp only [Act.put, List.setIfInBounds_toArray, List.set_cons_zero, List.set_cons_succ]
    refine takeD (i := 8) (d := some 32) (v := ?_) _ rfl rfl (by kernel_rfl) (by kernel_rfl) (by kernel_rfl) (fun _ _ _ h => h) (by rfl) ?_ (by assumption) ?_
    rotate_left
    · (intro w hSw; (try dsimp only at hSw); go_simp) <;> with_reducible rfl
    try simp only [Act.put, List.setIfInBounds_toArray, List.set_cons_zero, List.set_cons_succ]
    refine wpAnyH_done (by kernel_rfl) ?_ _
    obtain ⟨V1, hV1⟩ : ∃ V, W0.drew = V := ⟨_, rfl⟩
    rw [hV1] at hHeld
    rw [hV1]
    clear hV1 x0 x1 d0 d1 d2 d3
    obtain ⟨bV1, x0, x1, d0, d1, d2, d3⟩ := hHeld
    have BV1 := Lib.hid bV1
    clear bV1
    go_wp2_with fail
    refine wp_region_held_drew (S := (fun w' => Below V1.heap.size V1 w' ∧ w'.cell? ⟨X, 0, none⟩ = some (.int .i64 num) ∧ w'.cell? ⟨X, 1, none⟩ = some (.slice Am m cm) ∧ w'.cell? ⟨g, 0, none⟩ = some (.int .i64 r.words) ∧ w'.cell? ⟨g, 1, none⟩ = some (.int .i64 r.newest) ∧ w'.cell? ⟨g, 2, none⟩ = some (.int .u64 ((r.arr : Nat) : Int)) ∧ w'.cell? ⟨g, 3, none⟩ = some (.int .i64 r.lost))) (by kernel_rfl) ?_ (fun hHeld => ?_)
    · exact ⟨(Below.refl _ _).drew, x0, x1, d0, d1, d2, d3⟩
    refine takeD (i := 0) (d := some 41) (v := ?_) _ rfl rfl (by kernel_rfl) (by kernel_rfl) (by kernel_rfl) (fun _ _ _ h => h) (by rfl) ?_ (by assumption) ?_
    rotate_left
    · (intro w hSw; (try dsimp only at hSw); go_simp) <;> with_reducible rfl
    try simp only [Act.put, List.setIfInBounds_toArray, List.set_cons_zero, List.set_cons_succ]
    refine takeD (i := 1) (d := some 42) (v := ?_) _ rfl rfl (by kernel_rfl) (by kernel_rfl) (by kernel_rfl) (fun _ _ _ h => h) (by rfl) ?_ (by assumption) ?_
    rotate_left
    · (intro w hSw; (try dsimp only at hSw); go_simp) <;> with_reducible rfl
    try simp only [Act.put, List.setIfInBounds_toArray, List.set_cons_zero, List.set_cons_succ]
    refine takeD (i := 2) (d := some 43) (v := ?_) _ rfl rfl (by kernel_rfl) (by kernel_rfl) (by kernel_rfl) (fun _ _ _ h => h) (by rfl) ?_ (by assumption) ?_
    rotate_left
    · (intro w hSw; (try dsimp only at hSw); go_simp) <;> with_reducible rfl
    try simp only [Act.put, List.setIfInBounds_toArray, List.set_cons_zero, List.set_cons_succ]
    refine takeD (i := 3) (d := some 44) (v := ?_) _ rfl rfl (by kernel_rfl) (by kernel_rfl) (by kernel_rfl) (fun _ _ _ h => h) (by rfl) ?_ (by assumption) ?_
    rotate_left
    · (intro w hSw; (try dsimp only at hSw); go_simp) <;> with_reducible rfl
    try simp only [Act.put, List.setIfInBounds_toArray, List.set_cons_zero, List.set_cons_succ]
    refine takeD (i := 4) (d := some 45) (v := ?_) _ rfl rfl (by kernel_rfl) (by kernel_rfl) (by kernel_rfl) (fun _ _ _ h => h) (by rfl) ?_ (by assumption) ?_
    rotate_left
    · (intro w hSw; (try dsimp only at hSw); go_simp) <;> with_reducible rfl
    try simp only [Act.put, List.setIfInBounds_toArray, List.set_cons_zero, List.set_cons_succ]
    refine takeD (i := 5) (d := some 46) (v := ?_) _ rfl rfl (by kernel_rfl) (by kernel_rfl) (by kernel_rfl) (fun _ _ _ h => h) (by rfl) ?_ (by assumption) ?_
    rotate_left
    · (intro w hSw; (try dsimp only at hSw); go_simp) <;> with_reducible rfl
    try simp only [Act.put, List.setIfInBounds_toArray, List.set_cons_zero, List.set_cons_succ]
    refine takeD (i := 6) (d := some 47) (v := ?_) _ rfl rfl (by kernel_rfl) (by kernel_rfl) (by kernel_rfl) (fun _ _ _ h => h) (by rfl) ?_ (by assumption) ?_
    rotate_left
    · (intro w hSw; (try dsimp only at hSw); go_simp) <;> with_reducible rfl
    try simp only [Act.put, List.setIfInBounds_toArray, List.set_cons_zero, List.set_cons_succ]
    refine takeD (i := 7) (d := some 48) (v := ?_) _ rfl rfl (by kernel_rfl) (by kernel_rfl) (by kernel_rfl) (fun _ _ _ h => h) (by rfl) ?_ (by assumption) ?_
    rotate_left
    · (intro w hSw; (try dsimp only at hSw); go_simp) <;> with_reducible rfl
    try simp only [Act.put, List.setIfInBounds_toArray, List.set_cons_zero, List.set_cons_succ]
    refine takeD (i := 8) (d := some 49) (v := ?_) _ rfl rfl (by kernel_rfl) (by kernel_rfl) (by kernel_rfl) (fun _ _ _ h => h) (by rfl) ?_ (by assumption) ?_
    rotate_left
    · (intro w hSw; (try dsimp only at hSw); go_simp) <;> with_reducible rfl
    try simp only [Act.put, List.setIfInBounds_toArray, List.set_cons_zero, List.set_cons_succ]
    refine takeD (i := 9) (d := some 9) (v := ?_) _ rfl rfl (by kernel_rfl) (by kernel_rfl) (by kernel_rfl) (fun _ _ _ h => h) (by rfl) ?_ (by assumption) ?_
    rotate_left
    · (intro w hSw; (try dsimp only at hSw); go_simp) <;> with_reducible rfl
    try simp only [Act.put, List.setIfInBounds_toArray, List.set_cons_zero, List.set_cons_succ]
    refine wpAnyH_done (by kernel_rfl) ?_ _
    obtain ⟨V2, hV2⟩ : ∃ V, V1.drew = V := ⟨_, rfl⟩
    rw [hV2] at hHeld
    rw [hV2]
    clear hV2 x0 x1 d0 d1 d2 d3
    obtain ⟨bV2, x0, x1, d0, d1, d2, d3⟩ := hHeld
    have BV2 := Lib.hid bV2
    clear bV2
    have BF : Hid (Below X w V2) := B0.out.trans ((BV1.out.trans (BV2.out.mono BV1.out.size)).mono (by have := HB0.out.2; omega))
    go_wp2_with fail
    go_ret3
    exact ⟨rfl, by rw [hX]; exact BF.out⟩
set_option maxRecDepth 100000 in
set_option maxHeartbeats 8000000 in
theorem take_twice (g : Nat) (r : RcS) (net num : Int) (Am : Option Addr) (m cm : Nat) (w : World) (h : RV w g r) (ha : 0 ≤ net ∧ net ≤ 1 ∧ 0 ≤ num ∧ num ≤ 255) (hl : (m : Int) ≤ r.words) (hdo : ¬ (1 ≤ tkD r num ∧ tkD r num ≤ 127)) (hoo : tkO r num < 64) (hb : r.arr.testBit (tkO r num).toNat = true) : Calls Try.prog 20 #[.pointer (some ⟨g, 0, none⟩), .int .i64 net, .agg #[.int .i64 num, .slice Am m cm]] w fun e w' => e = .returned (.tuple #[.slice none 0 0, .bool false, .int .i64 7]) ∧ Below w.heap.size w w' := by
  obtain ⟨X, hX⟩ : ∃ X, w.heap.size = X := ⟨_, rfl⟩
  obtain ⟨W0, hW0⟩ : ∃ W0, w.alloc (.cells #[.int .i64 num, .slice Am m cm] 44) = W0 := ⟨_, rfl⟩
  have B0 : Hid (Below X w W0) := by rw [← hW0, ← hX]; exact ((Below.refl _ _).alloc (Nat.le_refl _) _)
  have HB0 : Hid (W0.heap[X]? = some (.cells #[.int .i64 num, .slice Am m cm] 44 (0, 0)) ∧ W0.heap.size = X + 1) := by rw [← hW0, ← hX]; exact ⟨heap_alloc_new _ _, by simp⟩
  have HR0 := Lib.hid (h.below (by rw [hX]; exact B0.out))
  have x0 : W0.cell? ⟨X, 0, none⟩ = some (.int .i64 num) := by rw [(row_cell HB0.out.1 0).1]; rfl
  have x1 : W0.cell? ⟨X, 1, none⟩ = some (.slice Am m cm) := by rw [(row_cell HB0.out.1 1).1]; rfl
  have d0 : W0.cell? ⟨g, 0, none⟩ = some (.int .i64 r.words) := by rw [(row_cell HR0.out.ce 0).1]; rfl
  have d1 : W0.cell? ⟨g, 1, none⟩ = some (.int .i64 r.newest) := by rw [(row_cell HR0.out.ce 1).1]; rfl
  have d2 : W0.cell? ⟨g, 2, none⟩ = some (.int .u64 ((r.arr : Nat) : Int)) := by rw [(row_cell HR0.out.ce 2).1]; rfl
  have d3 : W0.cell? ⟨g, 3, none⟩ = some (.int .i64 r.lost) := by rw [(row_cell HR0.out.ce 3).1]; rfl
  have c1 : decide (net < 0) = false := by simpa using ha.1
  have c2 : decide (2 ≤ net) = false := by simp; omega
  have c3 : decide (num < 0) = false := by simpa using ha.2.2.1
  have c4 : decide (256 ≤ num) = false := by simp; omega
  have c5 : decide (r.words < (m : Int)) = false := by simpa using hl
  obtain ⟨d, hdI⟩ : ∃ d : Nat, tkD r num = (d : Int) := ⟨(tkD r num).toNat, by have := tkD_bd h.ok ha.2.2; omega⟩
  obtain ⟨o, hoI⟩ : ∃ o : Nat, tkO r num = (o : Int) := ⟨(tkO r num).toNat, by have := tkO_bd h.ok ha.2.2; omega⟩
  have hd2 : (num - r.newest + 256).tmod 256 = (d : Int) := hdI
  have ho2 : (256 - (d : Int)).tmod 256 = (o : Int) := by rw [← hdI]; exact hoI
  have hbd := tkD_bd h.ok ha.2.2
  rw [hdI] at hbd hdo
  rw [hoI] at hoo
  have hw : IntKind.i64.wrap (num - r.newest) = num - r.newest := by have := h.ok.n; rw [IntKind.wrap_i64]; omega
  have hw2 : IntKind.i64.wrap (num - r.newest + 256) = num - r.newest + 256 := by have := h.ok.n; rw [IntKind.wrap_i64]; omega
  have hw3 : IntKind.i64.wrap (256 - (d : Int)) = 256 - (d : Int) := by rw [IntKind.wrap_i64]; omega
  have e8 : decide (64 ≤ (o : Int)) = false := by simp; omega
  have e9 : (bits BinOp.and IntKind.u64 ((r.arr : Int) / 2 ^ min o 64) 1 == 1) = true := by
    rw [bit_test r.arr o h.ok.a (by omega)]
    rw [hoI] at hb
    simpa using hb
  clear h ha hl hdI hoI hb
  by_cases hd1 : 1 ≤ d
  · have e6 : decide (1 ≤ (d : Int)) = true := by simp; omega
    have e7 : decide ((d : Int) ≤ 127) = false := by simp; omega
    clear hdo hbd hd1 hoo
    go_enter Try.func20, Try.ntmps20
    go_wp2_with fail
    refine wp_region_held_drew (S := (fun w' => Below W0.heap.size W0 w' ∧ w'.cell? ⟨X, 0, none⟩ = some (.int .i64 num) ∧ w'.cell? ⟨X, 1, none⟩ = some (.slice Am m cm) ∧ w'.cell? ⟨g, 0, none⟩ = some (.int .i64 r.words) ∧ w'.cell? ⟨g, 1, none⟩ = some (.int .i64 r.newest) ∧ w'.cell? ⟨g, 2, none⟩ = some (.int .u64 ((r.arr : Nat) : Int)) ∧ w'.cell? ⟨g, 3, none⟩ = some (.int .i64 r.lost))) (by kernel_rfl) ?_ (fun hHeld => ?_)
    · exact ⟨(Below.refl _ _).drew, x0, x1, d0, d1, d2, d3⟩
    refine takeD (i := 0) (d := some 33) (v := ?_) _ rfl rfl (by kernel_rfl) (by kernel_rfl) (by kernel_rfl) (fun _ _ _ h => h) (by rfl) ?_ (by assumption) ?_
    rotate_left
    · (intro w hSw; (try dsimp only at hSw); go_simp) <;> with_reducible rfl
    try simp only [Act.put, List.setIfInBounds_toArray, List.set_cons_zero, List.set_cons_succ]
    refine takeD (i := 1) (d := some 34) (v := ?_) _ rfl rfl (by kernel_rfl) (by kernel_rfl) (by kernel_rfl) (fun _ _ _ h => h) (by rfl) ?_ (by assumption) ?_
    rotate_left
    · (intro w hSw; (try dsimp only at hSw); go_simp) <;> with_reducible rfl
    try simp only [Act.put, List.setIfInBounds_toArray, List.set_cons_zero, List.set_cons_succ]
    refine takeD (i := 2) (d := some 35) (v := ?_) _ rfl rfl (by kernel_rfl) (by kernel_rfl) (by kernel_rfl) (fun _ _ _ h => h) (by rfl) ?_ (by assumption) ?_
    rotate_left
    · (intro w hSw; (try dsimp only at hSw); go_simp) <;> with_reducible rfl
    try simp only [Act.put, List.setIfInBounds_toArray, List.set_cons_zero, List.set_cons_succ]
    refine takeD (i := 3) (d := some 36) (v := ?_) _ rfl rfl (by kernel_rfl) (by kernel_rfl) (by kernel_rfl) (fun _ _ _ h => h) (by rfl) ?_ (by assumption) ?_
    rotate_left
    · (intro w hSw; (try dsimp only at hSw); go_simp) <;> with_reducible rfl
    try simp only [Act.put, List.setIfInBounds_toArray, List.set_cons_zero, List.set_cons_succ]
    refine takeD (i := 4) (d := some 37) (v := ?_) _ rfl rfl (by kernel_rfl) (by kernel_rfl) (by kernel_rfl) (fun _ _ _ h => h) (by rfl) ?_ (by assumption) ?_
    rotate_left
    · (intro w hSw; (try dsimp only at hSw); go_simp) <;> with_reducible rfl
    try simp only [Act.put, List.setIfInBounds_toArray, List.set_cons_zero, List.set_cons_succ]
    refine takeD (i := 5) (d := some 38) (v := ?_) _ rfl rfl (by kernel_rfl) (by kernel_rfl) (by kernel_rfl) (fun _ _ _ h => h) (by rfl) ?_ (by assumption) ?_
    rotate_left
    · (intro w hSw; (try dsimp only at hSw); go_simp) <;> with_reducible rfl
    try simp only [Act.put, List.setIfInBounds_toArray, List.set_cons_zero, List.set_cons_succ]
    refine takeD (i := 6) (d := some 39) (v := ?_) _ rfl rfl (by kernel_rfl) (by kernel_rfl) (by kernel_rfl) (fun _ _ _ h => h) (by rfl) ?_ (by assumption) ?_
    rotate_left
    · (intro w hSw; (try dsimp only at hSw); go_simp) <;> with_reducible rfl
    try simp only [Act.put, List.setIfInBounds_toArray, List.set_cons_zero, List.set_cons_succ]
    refine takeD (i := 7) (d := some 40) (v := ?_) _ rfl rfl (by kernel_rfl) (by kernel_rfl) (by kernel_rfl) (fun _ _ _ h => h) (by rfl) ?_ (by assumption) ?_
    rotate_left
    · (intro w hSw; (try dsimp only at hSw); go_simp) <;> with_reducible rfl
    try simp only [Act.put, List.setIfInBounds_toArray, List.set_cons_zero, List.set_cons_succ]
    refine takeD (i := 8) (d := some 32) (v := ?_) _ rfl rfl (by kernel_rfl) (by kernel_rfl) (by kernel_rfl) (fun _ _ _ h => h) (by rfl) ?_ (by assumption) ?_
    rotate_left
    · (intro w hSw; (try dsimp only at hSw); go_simp) <;> with_reducible rfl
    try simp only [Act.put, List.setIfInBounds_toArray, List.set_cons_zero, List.set_cons_succ]
    refine wpAnyH_done (by kernel_rfl) ?_ _
    obtain ⟨V1, hV1⟩ : ∃ V, W0.drew = V := ⟨_, rfl⟩
    rw [hV1] at hHeld
    rw [hV1]
    clear hV1 x0 x1 d0 d1 d2 d3
    obtain ⟨bV1, x0, x1, d0, d1, d2, d3⟩ := hHeld
    have BV1 := Lib.hid bV1
    clear bV1
    go_wp2_with fail
    refine wp_region_held_drew (S := (fun w' => Below V1.heap.size V1 w' ∧ w'.cell? ⟨X, 0, none⟩ = some (.int .i64 num) ∧ w'.cell? ⟨X, 1, none⟩ = some (.slice Am m cm) ∧ w'.cell? ⟨g, 0, none⟩ = some (.int .i64 r.words) ∧ w'.cell? ⟨g, 1, none⟩ = some (.int .i64 r.newest) ∧ w'.cell? ⟨g, 2, none⟩ = some (.int .u64 ((r.arr : Nat) : Int)) ∧ w'.cell? ⟨g, 3, none⟩ = some (.int .i64 r.lost))) (by kernel_rfl) ?_ (fun hHeld => ?_)
    · exact ⟨(Below.refl _ _).drew, x0, x1, d0, d1, d2, d3⟩
    refine takeD (i := 0) (d := some 41) (v := ?_) _ rfl rfl (by kernel_rfl) (by kernel_rfl) (by kernel_rfl) (fun _ _ _ h => h) (by rfl) ?_ (by assumption) ?_
    rotate_left
    · (intro w hSw; (try dsimp only at hSw); go_simp) <;> with_reducible rfl
    try simp only [Act.put, List.setIfInBounds_toArray, List.set_cons_zero, List.set_cons_succ]
    refine takeD (i := 1) (d := some 42) (v := ?_) _ rfl rfl (by kernel_rfl) (by kernel_rfl) (by kernel_rfl) (fun _ _ _ h => h) (by rfl) ?_ (by assumption) ?_
    rotate_left
    · (intro w hSw; (try dsimp only at hSw); go_simp) <;> with_reducible rfl
    try simp only [Act.put, List.setIfInBounds_toArray, List.set_cons_zero, List.set_cons_succ]
    refine takeD (i := 2) (d := some 43) (v := ?_) _ rfl rfl (by kernel_rfl) (by kernel_rfl) (by kernel_rfl) (fun _ _ _ h => h) (by rfl) ?_ (by assumption) ?_
    rotate_left
    · (intro w hSw; (try dsimp only at hSw); go_simp) <;> with_reducible rfl
    try simp only [Act.put, List.setIfInBounds_toArray, List.set_cons_zero, List.set_cons_succ]
    refine takeD (i := 3) (d := some 44) (v := ?_) _ rfl rfl (by kernel_rfl) (by kernel_rfl) (by kernel_rfl) (fun _ _ _ h => h) (by rfl) ?_ (by assumption) ?_
    rotate_left
    · (intro w hSw; (try dsimp only at hSw); go_simp) <;> with_reducible rfl
    try simp only [Act.put, List.setIfInBounds_toArray, List.set_cons_zero, List.set_cons_succ]
    refine takeD (i := 4) (d := some 45) (v := ?_) _ rfl rfl (by kernel_rfl) (by kernel_rfl) (by kernel_rfl) (fun _ _ _ h => h) (by rfl) ?_ (by assumption) ?_
    rotate_left
    · (intro w hSw; (try dsimp only at hSw); go_simp) <;> with_reducible rfl
    try simp only [Act.put, List.setIfInBounds_toArray, List.set_cons_zero, List.set_cons_succ]
    refine takeD (i := 5) (d := some 46) (v := ?_) _ rfl rfl (by kernel_rfl) (by kernel_rfl) (by kernel_rfl) (fun _ _ _ h => h) (by rfl) ?_ (by assumption) ?_
    rotate_left
    · (intro w hSw; (try dsimp only at hSw); go_simp) <;> with_reducible rfl
    try simp only [Act.put, List.setIfInBounds_toArray, List.set_cons_zero, List.set_cons_succ]
    refine takeD (i := 6) (d := some 47) (v := ?_) _ rfl rfl (by kernel_rfl) (by kernel_rfl) (by kernel_rfl) (fun _ _ _ h => h) (by rfl) ?_ (by assumption) ?_
    rotate_left
    · (intro w hSw; (try dsimp only at hSw); go_simp) <;> with_reducible rfl
    try simp only [Act.put, List.setIfInBounds_toArray, List.set_cons_zero, List.set_cons_succ]
    refine takeD (i := 7) (d := some 48) (v := ?_) _ rfl rfl (by kernel_rfl) (by kernel_rfl) (by kernel_rfl) (fun _ _ _ h => h) (by rfl) ?_ (by assumption) ?_
    rotate_left
    · (intro w hSw; (try dsimp only at hSw); go_simp) <;> with_reducible rfl
    try simp only [Act.put, List.setIfInBounds_toArray, List.set_cons_zero, List.set_cons_succ]
    refine takeD (i := 8) (d := some 49) (v := ?_) _ rfl rfl (by kernel_rfl) (by kernel_rfl) (by kernel_rfl) (fun _ _ _ h => h) (by rfl) ?_ (by assumption) ?_
    rotate_left
    · (intro w hSw; (try dsimp only at hSw); go_simp) <;> with_reducible rfl
    try simp only [Act.put, List.setIfInBounds_toArray, List.set_cons_zero, List.set_cons_succ]
    refine takeD (i := 9) (d := some 9) (v := ?_) _ rfl rfl (by kernel_rfl) (by kernel_rfl) (by kernel_rfl) (fun _ _ _ h => h) (by rfl) ?_ (by assumption) ?_
    rotate_left
    · (intro w hSw; (try dsimp only at hSw); go_simp) <;> with_reducible rfl
    try simp only [Act.put, List.setIfInBounds_toArray, List.set_cons_zero, List.set_cons_succ]
    refine wpAnyH_done (by kernel_rfl) ?_ _
    obtain ⟨V2, hV2⟩ : ∃ V, V1.drew = V := ⟨_, rfl⟩
    rw [hV2] at hHeld
    rw [hV2]
    clear hV2 x0 x1 d0 d1 d2 d3
    obtain ⟨bV2, x0, x1, d0, d1, d2, d3⟩ := hHeld
    have BV2 := Lib.hid bV2
    clear bV2
    have BF : Hid (Below X w V2) := B0.out.trans ((BV1.out.trans (BV2.out.mono BV1.out.size)).mono (by have := HB0.out.2; omega))
    go_wp2_with fail
    go_ret3
    exact ⟨rfl, by rw [hX]; exact BF.out⟩
  · have e6 : decide (1 ≤ (d : Int)) = false := by simp; omega
    clear hdo hbd hd1 hoo
    go_enter Try.func20, Try.ntmps20
    go_wp2_with fail
    refine wp_region_held_drew (S := (fun w' => Below W0.heap.size W0 w' ∧ w'.cell? ⟨X, 0, none⟩ = some (.int .i64 num) ∧ w'.cell? ⟨X, 1, none⟩ = some (.slice Am m cm) ∧ w'.cell? ⟨g, 0, none⟩ = some (.int .i64 r.words) ∧ w'.cell? ⟨g, 1, none⟩ = some (.int .i64 r.newest) ∧ w'.cell? ⟨g, 2, none⟩ = some (.int .u64 ((r.arr : Nat) : Int)) ∧ w'.cell? ⟨g, 3, none⟩ = some (.int .i64 r.lost))) (by kernel_rfl) ?_ (fun hHeld => ?_)
    · exact ⟨(Below.refl _ _).drew, x0, x1, d0, d1, d2, d3⟩
    refine takeD (i := 0) (d := some 33) (v := ?_) _ rfl rfl (by kernel_rfl) (by kernel_rfl) (by kernel_rfl) (fun _ _ _ h => h) (by rfl) ?_ (by assumption) ?_
    rotate_left
    · (intro w hSw; (try dsimp only at hSw); go_simp) <;> with_reducible rfl
    try simp only [Act.put, List.setIfInBounds_toArray, List.set_cons_zero, List.set_cons_succ]
    refine takeD (i := 1) (d := some 34) (v := ?_) _ rfl rfl (by kernel_rfl) (by kernel_rfl) (by kernel_rfl) (fun _ _ _ h => h) (by rfl) ?_ (by assumption) ?_
    rotate_left
    · (intro w hSw; (try dsimp only at hSw); go_simp) <;> with_reducible rfl
    try simp only [Act.put, List.setIfInBounds_toArray, List.set_cons_zero, List.set_cons_succ]
    refine takeD (i := 2) (d := some 35) (v := ?_) _ rfl rfl (by kernel_rfl) (by kernel_rfl) (by kernel_rfl) (fun _ _ _ h => h) (by rfl) ?_ (by assumption) ?_
    rotate_left
    · (intro w hSw; (try dsimp only at hSw); go_simp) <;> with_reducible rfl
    try simp only [Act.put, List.setIfInBounds_toArray, List.set_cons_zero, List.set_cons_succ]
    refine takeD (i := 3) (d := some 36) (v := ?_) _ rfl rfl (by kernel_rfl) (by kernel_rfl) (by kernel_rfl) (fun _ _ _ h => h) (by rfl) ?_ (by assumption) ?_
    rotate_left
    · (intro w hSw; (try dsimp only at hSw); go_simp) <;> with_reducible rfl
    try simp only [Act.put, List.setIfInBounds_toArray, List.set_cons_zero, List.set_cons_succ]
    refine takeD (i := 4) (d := some 37) (v := ?_) _ rfl rfl (by kernel_rfl) (by kernel_rfl) (by kernel_rfl) (fun _ _ _ h => h) (by rfl) ?_ (by assumption) ?_
    rotate_left
    · (intro w hSw; (try dsimp only at hSw); go_simp) <;> with_reducible rfl
    try simp only [Act.put, List.setIfInBounds_toArray, List.set_cons_zero, List.set_cons_succ]
    refine takeD (i := 5) (d := some 38) (v := ?_) _ rfl rfl (by kernel_rfl) (by kernel_rfl) (by kernel_rfl) (fun _ _ _ h => h) (by rfl) ?_ (by assumption) ?_
    rotate_left
    · (intro w hSw; (try dsimp only at hSw); go_simp) <;> with_reducible rfl
    try simp only [Act.put, List.setIfInBounds_toArray, List.set_cons_zero, List.set_cons_succ]
    refine takeD (i := 6) (d := some 39) (v := ?_) _ rfl rfl (by kernel_rfl) (by kernel_rfl) (by kernel_rfl) (fun _ _ _ h => h) (by rfl) ?_ (by assumption) ?_
    rotate_left
    · (intro w hSw; (try dsimp only at hSw); go_simp) <;> with_reducible rfl
    try simp only [Act.put, List.setIfInBounds_toArray, List.set_cons_zero, List.set_cons_succ]
    refine takeD (i := 7) (d := some 40) (v := ?_) _ rfl rfl (by kernel_rfl) (by kernel_rfl) (by kernel_rfl) (fun _ _ _ h => h) (by rfl) ?_ (by assumption) ?_
    rotate_left
    · (intro w hSw; (try dsimp only at hSw); go_simp) <;> with_reducible rfl
    try simp only [Act.put, List.setIfInBounds_toArray, List.set_cons_zero, List.set_cons_succ]
    refine takeD (i := 8) (d := some 32) (v := ?_) _ rfl rfl (by kernel_rfl) (by kernel_rfl) (by kernel_rfl) (fun _ _ _ h => h) (by rfl) ?_ (by assumption) ?_
    rotate_left
    · (intro w hSw; (try dsimp only at hSw); go_simp) <;> with_reducible rfl
    try simp only [Act.put, List.setIfInBounds_toArray, List.set_cons_zero, List.set_cons_succ]
    refine wpAnyH_done (by kernel_rfl) ?_ _
    obtain ⟨V1, hV1⟩ : ∃ V, W0.drew = V := ⟨_, rfl⟩
    rw [hV1] at hHeld
    rw [hV1]
    clear hV1 x0 x1 d0 d1 d2 d3
    obtain ⟨bV1, x0, x1, d0, d1, d2, d3⟩ := hHeld
    have BV1 := Lib.hid bV1
    clear bV1
    go_wp2_with fail
    refine wp_region_held_drew (S := (fun w' => Below V1.heap.size V1 w' ∧ w'.cell? ⟨X, 0, none⟩ = some (.int .i64 num) ∧ w'.cell? ⟨X, 1, none⟩ = some (.slice Am m cm) ∧ w'.cell? ⟨g, 0, none⟩ = some (.int .i64 r.words) ∧ w'.cell? ⟨g, 1, none⟩ = some (.int .i64 r.newest) ∧ w'.cell? ⟨g, 2, none⟩ = some (.int .u64 ((r.arr : Nat) : Int)) ∧ w'.cell? ⟨g, 3, none⟩ = some (.int .i64 r.lost))) (by kernel_rfl) ?_ (fun hHeld => ?_)
    · exact ⟨(Below.refl _ _).drew, x0, x1, d0, d1, d2, d3⟩
    refine takeD (i := 0) (d := some 41) (v := ?_) _ rfl rfl (by kernel_rfl) (by kernel_rfl) (by kernel_rfl) (fun _ _ _ h => h) (by rfl) ?_ (by assumption) ?_
    rotate_left
    · (intro w hSw; (try dsimp only at hSw); go_simp) <;> with_reducible rfl
    try simp only [Act.put, List.setIfInBounds_toArray, List.set_cons_zero, List.set_cons_succ]
    refine takeD (i := 1) (d := some 42) (v := ?_) _ rfl rfl (by kernel_rfl) (by kernel_rfl) (by kernel_rfl) (fun _ _ _ h => h) (by rfl) ?_ (by assumption) ?_
    rotate_left
    · (intro w hSw; (try dsimp only at hSw); go_simp) <;> with_reducible rfl
    try simp only [Act.put, List.setIfInBounds_toArray, List.set_cons_zero, List.set_cons_succ]
    refine takeD (i := 2) (d := some 43) (v := ?_) _ rfl rfl (by kernel_rfl) (by kernel_rfl) (by kernel_rfl) (fun _ _ _ h => h) (by rfl) ?_ (by assumption) ?_
    rotate_left
    · (intro w hSw; (try dsimp only at hSw); go_simp) <;> with_reducible rfl
    try simp only [Act.put, List.setIfInBounds_toArray, List.set_cons_zero, List.set_cons_succ]
    refine takeD (i := 3) (d := some 44) (v := ?_) _ rfl rfl (by kernel_rfl) (by kernel_rfl) (by kernel_rfl) (fun _ _ _ h => h) (by rfl) ?_ (by assumption) ?_
    rotate_left
    · (intro w hSw; (try dsimp only at hSw); go_simp) <;> with_reducible rfl
    try simp only [Act.put, List.setIfInBounds_toArray, List.set_cons_zero, List.set_cons_succ]
    refine takeD (i := 4) (d := some 45) (v := ?_) _ rfl rfl (by kernel_rfl) (by kernel_rfl) (by kernel_rfl) (fun _ _ _ h => h) (by rfl) ?_ (by assumption) ?_
    rotate_left
    · (intro w hSw; (try dsimp only at hSw); go_simp) <;> with_reducible rfl
    try simp only [Act.put, List.setIfInBounds_toArray, List.set_cons_zero, List.set_cons_succ]
    refine takeD (i := 5) (d := some 46) (v := ?_) _ rfl rfl (by kernel_rfl) (by kernel_rfl) (by kernel_rfl) (fun _ _ _ h => h) (by rfl) ?_ (by assumption) ?_
    rotate_left
    · (intro w hSw; (try dsimp only at hSw); go_simp) <;> with_reducible rfl
    try simp only [Act.put, List.setIfInBounds_toArray, List.set_cons_zero, List.set_cons_succ]
    refine takeD (i := 6) (d := some 47) (v := ?_) _ rfl rfl (by kernel_rfl) (by kernel_rfl) (by kernel_rfl) (fun _ _ _ h => h) (by rfl) ?_ (by assumption) ?_
    rotate_left
    · (intro w hSw; (try dsimp only at hSw); go_simp) <;> with_reducible rfl
    try simp only [Act.put, List.setIfInBounds_toArray, List.set_cons_zero, List.set_cons_succ]
    refine takeD (i := 7) (d := some 48) (v := ?_) _ rfl rfl (by kernel_rfl) (by kernel_rfl) (by kernel_rfl) (fun _ _ _ h => h) (by rfl) ?_ (by assumption) ?_
    rotate_left
    · (intro w hSw; (try dsimp only at hSw); go_simp) <;> with_reducible rfl
    try simp only [Act.put, List.setIfInBounds_toArray, List.set_cons_zero, List.set_cons_succ]
    refine takeD (i := 8) (d := some 49) (v := ?_) _ rfl rfl (by kernel_rfl) (by kernel_rfl) (by kernel_rfl) (fun _ _ _ h => h) (by rfl) ?_ (by assumption) ?_
    rotate_left
    · (intro w hSw; (try dsimp only at hSw); go_simp) <;> with_reducible rfl
    try simp only [Act.put, List.setIfInBounds_toArray, List.set_cons_zero, List.set_cons_succ]
    refine takeD (i := 9) (d := some 9) (v := ?_) _ rfl rfl (by kernel_rfl) (by kernel_rfl) (by kernel_rfl) (fun _ _ _ h => h) (by rfl) ?_ (by assumption) ?_
    rotate_left
    · (intro w hSw; (try dsimp only at hSw); go_simp) <;> with_reducible rfl
    try simp only [Act.put, List.setIfInBounds_toArray, List.set_cons_zero, List.set_cons_succ]
    refine wpAnyH_done (by kernel_rfl) ?_ _
    obtain ⟨V2, hV2⟩ : ∃ V, V1.drew = V := ⟨_, rfl⟩
    rw [hV2] at hHeld
    rw [hV2]
    clear hV2 x0 x1 d0 d1 d2 d3
    obtain ⟨bV2, x0, x1, d0, d1, d2, d3⟩ := hHeld
    have BV2 := Lib.hid bV2
    clear bV2
    have BF : Hid (Below X w V2) := B0.out.trans ((BV1.out.trans (BV2.out.mono BV1.out.size)).mono (by have := HB0.out.2; omega))
    go_wp2_with fail
    go_ret3
    exact ⟨rfl, by rw [hX]; exact BF.out⟩
end Go.Proofs.Ytkbjonblflhkoaa.Ln
