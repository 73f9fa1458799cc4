/-
  What the operations and, or, xor, shl, shr and the jumps do. Each statement bears its own conditions.
-/
import Derived.Test.YthmalhakkdjilaaDoorCp2
import Derived.Laws.Shifts
namespace Go.Proofs.YthmalhakkdjilaaDoor
open Go.RowKit
set_option linter.unusedVariables false
set_option linter.unusedSimpArgs false
theorem shl_min (x : Int) (n : Nat) : IntKind.u32.wrap (x * 2 ^ min n 32) = IntKind.u32.wrap (x * 2 ^ n) := by
  by_cases h : n ≤ 32
  · rw [Nat.min_eq_left h]
  · rw [Nat.min_eq_right (by omega)]
    obtain ⟨m, rfl⟩ : ∃ m, n = 32 + m := ⟨n - 32, by omega⟩
    rw [IntKind.wrap_u32, IntKind.wrap_u32, Int.pow_add, ← Int.mul_assoc, Int.mul_right_comm]
    have e : (2 : Int) ^ 32 = 4294967296 := rfl
    rw [e, Int.mul_emod_left, Int.mul_emod_left]
theorem shr_min (x : Int) (n : Nat) (h0 : 0 ≤ x) (h1 : x < 4294967296) : x / 2 ^ min n 32 = x / 2 ^ n := by
  by_cases h : n ≤ 32
  · rw [Nat.min_eq_left h]
  · rw [Nat.min_eq_right (by omega)]
    have e : (2 : Int) ^ 32 = 4294967296 := rfl
    have hp : (4294967296 : Int) ≤ 2 ^ n := by
      have h3 : (2 : Nat) ^ 32 ≤ 2 ^ n := Nat.pow_le_pow_right (by decide) (by omega)
      have h4 : ((2 ^ n : Nat) : Int) = (2 : Int) ^ n := by rw [Int.natCast_pow]; rfl
      have h5 : (2 : Nat) ^ 32 = 4294967296 := rfl
      omega
    rw [e, Int.ediv_eq_zero_of_lt h0 h1, Int.ediv_eq_zero_of_lt h0 (by omega)]
theorem run_e7 (args : Array Value) (W : World) : (callFunc 28 args).run Tryd.prog W = .ok (.enter 28 args) W := by go_simp
theorem clo_e7 (x y : Int) (W : World) (hx : U32 x) (hy : U32 y) : Calls Tryd.prog 28 #[.int .u32 x, .int .u32 y] W fun e w' => e = .returned (.int .u32 (wordF 8 x y)) ∧ W = w' := by
  clear hx hy
  go_enter Tryd.func28, Tryd.ntmps28
  go_wp2_with fail
  go_ret
  exact ⟨rfl, rfl⟩
theorem effC_8 : EffC 8 (effV 8) := effC_word 8 28 (by decide) rfl run_e7 clo_e7
theorem run_e8 (args : Array Value) (W : World) : (callFunc 29 args).run Tryd.prog W = .ok (.enter 29 args) W := by go_simp
theorem clo_e8 (x y : Int) (W : World) (hx : U32 x) (hy : U32 y) : Calls Tryd.prog 29 #[.int .u32 x, .int .u32 y] W fun e w' => e = .returned (.int .u32 (wordF 9 x y)) ∧ W = w' := by
  clear hx hy
  go_enter Tryd.func29, Tryd.ntmps29
  go_wp2_with fail
  go_ret
  exact ⟨rfl, rfl⟩
theorem effC_9 : EffC 9 (effV 9) := effC_word 9 29 (by decide) rfl run_e8 clo_e8
theorem run_e9 (args : Array Value) (W : World) : (callFunc 30 args).run Tryd.prog W = .ok (.enter 30 args) W := by go_simp
theorem clo_e9 (x y : Int) (W : World) (hx : U32 x) (hy : U32 y) : Calls Tryd.prog 30 #[.int .u32 x, .int .u32 y] W fun e w' => e = .returned (.int .u32 (wordF 10 x y)) ∧ W = w' := by
  clear hx hy
  go_enter Tryd.func30, Tryd.ntmps30
  go_wp2_with fail
  go_ret
  exact ⟨rfl, rfl⟩
theorem effC_10 : EffC 10 (effV 10) := effC_word 10 30 (by decide) rfl run_e9 clo_e9
theorem run_e10 (args : Array Value) (W : World) : (callFunc 31 args).run Tryd.prog W = .ok (.enter 31 args) W := by go_simp
theorem clo_e10 (x y : Int) (W : World) (hx : U32 x) (hy : U32 y) : Calls Tryd.prog 31 #[.int .u32 x, .int .u32 y] W fun e w' => e = .returned (.int .u32 (wordF 11 x y)) ∧ W = w' := by
  have hs := (shift_shl_any .u32 .u32 x y hy.1).trans (congrArg (fun z => (pure (Value.int .u32 z) : Sem Value)) (shl_min x y.toNat))
  clear hx hy
  go_enter Tryd.func31, Tryd.ntmps31
  go_wp2_with fail
  trace_state
  go_ret
  exact ⟨rfl, rfl⟩
theorem effC_11 : EffC 11 (effV 11) := effC_number 11 31 (by decide) rfl run_e10 clo_e10
theorem run_e11 (args : Array Value) (W : World) : (callFunc 32 args).run Tryd.prog W = .ok (.enter 32 args) W := by go_simp
theorem clo_e11 (x y : Int) (W : World) (hx : U32 x) (hy : U32 y) : Calls Tryd.prog 32 #[.int .u32 x, .int .u32 y] W fun e w' => e = .returned (.int .u32 (wordF 12 x y)) ∧ W = w' := by
  have hs := (shift_shr_any .u32 .u32 x y hy.1).trans (congrArg (fun z => (pure (Value.int .u32 z) : Sem Value)) (shr_min x y.toNat hx.1 hx.2))
  clear hx hy
  go_enter Tryd.func32, Tryd.ntmps32
  go_wp2_with fail
  trace_state
  go_ret
  exact ⟨rfl, rfl⟩
theorem effC_12 : EffC 12 (effV 12) := effC_number 12 32 (by decide) rfl run_e11 clo_e11
set_option maxRecDepth 100000 in
set_option maxHeartbeats 8000000 in
theorem jump_any (F : Nat) (f : Int → Bool) (y : Bool) (fb : Nat) (g : Nat) (r : List Int) (mv : Value) (call o a b n : Int) (w : World) (hs : ST w g r mv call) (hr : RegOk r) (hi : InOk a b n) (hy : f (r.getD a.toNat 0) = y)
    (hf : w.heap[fb]? = some (.cells #[.func (.func F) #[] #[]] 65 (0, 0)))
    (RF : ∀ (args : Array Value) (W : World), (callFunc F args).run Tryd.prog W = .ok (.enter F args) W)
    (CF : ∀ (x : Int) (W : World), U32 x → Calls Tryd.prog F #[.int .u32 x] W fun e w' => e = .returned (.bool (f x)) ∧ W = w') :
    Calls Tryd.prog 49 #[.pointer (some ⟨g, 0, none⟩), .agg #[.int .i64 o, .int .i64 a, .int .i64 b, .int .i64 n], .pointer (some ⟨fb, 0, none⟩)] w fun e w' =>
      e = .returned (.int .i64 0) ∧ ST w' g (if y = true then r.set 16 (IntKind.u32.wrap (r.getD 16 0 + IntKind.u32.wrap n)) else r) mv call ∧ Past g w w' := by
  obtain ⟨A, rfl⟩ : ∃ A : Nat, a = (A : Int) := ⟨a.toNat, by have := hi.a; omega⟩
  have hA : A < 16 := by have := hi.a; omega
  have hAI : (A : Int) < 16 := by omega
  have hA0 : (0 : Int) ≤ A := by omega
  simp only [Int.toNat_natCast] at hy ⊢
  obtain ⟨W1, hW1⟩ : ∃ W1, w.alloc (.cells #[.int .i64 o, .int .i64 (A : Int), .int .i64 b, .int .i64 n] 66) = W1 := ⟨_, rfl⟩
  obtain ⟨g1, hg1⟩ : ∃ g1, w.heap.size = g1 := ⟨_, rfl⟩
  have b1 : Below w.heap.size w W1 := by rw [← hW1]; exact (Below.refl _ _).alloc (Nat.le_refl _) _
  have h1 : W1.heap[g1]? = some (.cells #[.int .i64 o, .int .i64 (A : Int), .int .i64 b, .int .i64 n] 66 (0, 0)) := by rw [← hW1, ← hg1]; exact heap_alloc_new _ _
  have hs1 : RB W1 g r [mv, .int .i64 call] 70 := RB.below hs b1
  have hne : g1 ≠ g := by have := RB.lt hs; omega
  have hl := hr.len
  have i1 := (row_cell h1 1).1
  simp at i1
  have hf1 := heap_keep b1 hf
  have iA := hs1.cellk (o := A) (by omega) (kd_reg (by omega))
  have c0 := (row_cell hf1 0).1
  simp at c0
  have hx := hr.u32 (j := A) (by omega)
  obtain ⟨x, hxe⟩ : ∃ x, r.getD A 0 = x := ⟨_, rfl⟩
  rw [hxe] at iA hx hy
  have C := Lib.hid (CF x W1.drew hx)
  have hcf := RF #[.int .u32 x] W1.drew
  have HS1 : Hid (ST W1.drew g r mv call) := hs1.keep rfl
  have HB := Lib.hid (b1.drew)
  have H1 : Hid (W1.drew.heap[g1]? = some (.cells #[.int .i64 o, .int .i64 (A : Int), .int .i64 b, .int .i64 n] 66 (0, 0))) := h1
  have HL := Lib.hid hl
  rw [hy] at C
  obtain ⟨pc, hpc⟩ : ∃ pc, r.getD 16 0 = pc := ⟨_, rfl⟩
  rw [hpc]
  obtain ⟨N, hN⟩ : ∃ N, IntKind.u32.wrap n = N := ⟨_, rfl⟩
  rw [hN]
  obtain ⟨np, hnp⟩ : ∃ np, IntKind.u32.wrap (pc + N) = np := ⟨_, rfl⟩
  rw [hnp]
  clear hs hr hi hf CF RF b1 h1 hs1 hf1 hl hx hxe hne hy
  go_enter Tryd.func49, Tryd.ntmps49
  go_wp2_with fail
  refine wp_region_still_lit (by kernel_rfl) (by kernel_rfl) ?_
  repeat still_step
  still_call ((C.out).mono fun _ _ h => ⟨h.1, h.2.symm⟩)
  repeat still_step
  refine wpStill_nil ?_
  change Exit.then _ _ _ _ W1.drew
  clear iA c0 i1 C hcf hW1 hg1
  generalize W1.drew = W2 at HS1 HB H1 ⊢
  cases y with
  | false =>
    clear hnp hN
    go_wp2_with fail
    go_ret
    exact ⟨rfl, by simpa using HS1.out, Past.of_below HB.out⟩
  | true =>
    have i3 := (row_cell H1.out 3).1
    simp at i3
    have c16 := RB.cellk (k := .u32) (o := 16) HS1.out (by rw [HL.out]; decide) (kd_reg (by decide))
    rw [hpc] at c16
    have f16 := RB.frozen HS1.out 16
    have HS : Hid (ST (W2.setCell ⟨g, 16, none⟩ (.int .u32 np)) g (r.set 16 np) mv call) := RB.set (k := .u32) (o := 16) HS1.out (by rw [HL.out]; decide) (kd_reg (by decide)) np
    have HP : Hid (Past g w (W2.setCell ⟨g, 16, none⟩ (.int .u32 np))) := (Past.of_below HB.out).trans ((Past.refl g W2).setCell 16 _)
    have j16 : W2.drew.cell? ⟨g, 16, none⟩ = some (.int .u32 pc) := c16
    have jf : W2.drew.frozen? ⟨g, 16, none⟩ = false := f16
    go_wp2_with fail
    go_still_tail 12, (by kernel_rfl)
    repeat still_step
    try refine wpStill_nil ?_
    clear c16 f16 i3
    go_wp2_with fail
    go_ret
    exact ⟨rfl, RB.keep (w := W2.setCell ⟨g, 16, none⟩ (.int .u32 np)) HS.out rfl, HP.out.drew⟩
end Go.Proofs.YthmalhakkdjilaaDoor
