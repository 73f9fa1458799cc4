/-
  All operations: what they do, and that registers stay registers. Each statement bears its own conditions.
-/
import Derived.Test.YthmalhakkdjilaaDoorCp8
import Derived.Test.YthmalhakkdjilaaDoorCpR
import Derived.Laws.Closers25b
namespace Go.Proofs.YthmalhakkdjilaaDoor
open Go.RowKit
set_option linter.unusedVariables false
set_option linter.unusedSimpArgs false
theorem word_u32' (k : Nat) {x y : Int} (hk : k = 8 ∨ k = 9 ∨ k = 10 ∨ k = 11 ∨ k = 12) (hx : U32 x) (hy : U32 y) : U32 (wordF k x y) := by
  have hb : ∀ op : BinOp, U32 (bits op .u32 x y) := fun op => ⟨bits_lo_u32 op x y, by have := bits_hi_u32 op x y; omega⟩
  rcases hk with rfl | rfl | rfl | rfl | rfl
  · show U32 (bits .and .u32 x y); exact hb .and
  · show U32 (bits .or .u32 x y); exact hb .or
  · show U32 (bits .xor .u32 x y); exact hb .xor
  · exact num_u32 _
  · show U32 (x / 2 ^ y.toNat)
    have h2 : (0 : Int) ≤ 2 ^ y.toNat := Int.pow_nonneg (by decide)
    have h1 := Int.ediv_nonneg hx.1 h2
    have h3 := Int.ediv_le_self (2 ^ y.toNat) hx.1
    have := hx.2
    exact ⟨h1, by omega⟩
theorem fine_word (k : Nat) (hk : k = 8 ∨ k = 9 ∨ k = 10 ∨ k = 11 ∨ k = 12) : Fine k := by
  intro a b n r μ _ hr hd hi _
  have hA : a.toNat < 16 := by have := hi.a; omega
  have hB : b.toNat < 16 := by have := hi.b; omega
  have hx := hr.u32 (j := a.toNat) (by omega)
  have hy := hr.u32 (j := b.toNat) (by omega)
  unfold effV
  rw [if_neg (by omega)]
  by_cases h1 : k = 1 ∨ k = 4 ∨ k = 11 ∨ k = 12
  · rw [if_pos h1]
    exact ⟨hr.set _ _ (by rw [kd_reg (by omega)]; exact word_u32' k hk hx (num_u32 n)), depOk_reg hd (by omega)⟩
  · rw [if_neg h1, if_pos (by omega)]
    exact ⟨hr.set _ _ (by rw [kd_reg (by omega)]; exact word_u32' k hk hx hy), depOk_reg hd (by omega)⟩
theorem fine_nop : Fine 0 := fun a b n r μ _ hr hd hi _ => ⟨hr, hd⟩
theorem fine_div : Fine 7 := by
  intro a b n r μ _ hr hd hi _
  have hA : a.toNat < 16 := by have := hi.a; omega
  have hB : b.toNat < 16 := by have := hi.b; omega
  have hx := hr.u32 (j := a.toNat) (by omega)
  have hy := hr.u32 (j := b.toNat) (by omega)
  show RegOk (if r.getD b.toNat 0 = 0 then (⟨14, r, -1, μ⟩ : ER) else ⟨0, r.set a.toNat (r.getD a.toNat 0 / r.getD b.toNat 0), -1, μ⟩).r ∧ DepOk (if r.getD b.toNat 0 = 0 then (⟨14, r, -1, μ⟩ : ER) else ⟨0, r.set a.toNat (r.getD a.toNat 0 / r.getD b.toNat 0), -1, μ⟩).r
  split
  · exact ⟨hr, hd⟩
  · refine ⟨hr.set _ _ ?_, depOk_reg hd (by omega)⟩
    rw [kd_reg (by omega)]
    have h1 := Int.ediv_nonneg hx.1 hy.1
    have h2 := Int.ediv_le_self (r.getD b.toNat 0) hx.1
    exact ⟨h1, by have := hx.2; omega⟩
theorem fine_load : Fine 13 := by
  intro a b n r μ hu hr hd hi _
  have hA : a.toNat < 16 := by have := hi.a; omega
  show RegOk (r.set a.toNat _) ∧ DepOk (r.set a.toNat _)
  exact ⟨hr.set _ _ (by rw [kd_reg (by omega)]; exact ld_u32 hu (num_u32 _).1), depOk_reg hd (by omega)⟩
theorem fine_store : Fine 14 := fun a b n r μ _ hr hd hi _ => ⟨hr, hd⟩
theorem fine_jump (k : Nat) (hk : k = 15 ∨ k = 16 ∨ k = 17) : Fine k := by
  intro a b n r μ _ hr hd hi _
  have e0 : effV k a b n r μ = if (k = 15 ∨ k = 16 ∧ r.getD a.toNat 0 = 0 ∨ k = 17 ∧ r.getD a.toNat 0 ≠ 0) then (⟨0, r.set 16 (IntKind.u32.wrap (r.getD 16 0 + IntKind.u32.wrap n)), -1, μ⟩ : ER) else ⟨0, r, -1, μ⟩ := by
    unfold effV
    rcases hk with rfl | rfl | rfl <;> simp
  rw [e0]
  split
  · exact ⟨hr.set 16 _ (by rw [kd_reg (by omega)]; exact num_u32 _), depOk_reg hd (by omega)⟩
  · exact ⟨hr, hd⟩
theorem fine_call : Fine 19 := by
  intro a b n r μ hu hr hd hi he
  have e1 : effV 19 a b n r μ = ⟨(putV r μ (r.getD 16 0)).e, (putV r μ (r.getD 16 0)).r.set 16 (IntKind.u32.wrap n), -1, (putV r μ (r.getD 16 0)).μ⟩ := rfl
  rw [e1] at he ⊢
  have h0 : RegOk (putV r μ (r.getD 16 0)).r ∧ DepOk (putV r μ (r.getD 16 0)).r := by
    unfold putV at he ⊢
    split at he
    next => cases he
    next h =>
      rw [if_neg h]
      have u := hr.u32 (j := 17) (by omega)
      have u2 := hr.u32 (j := 18) (by omega)
      exact ⟨hr.set 17 _ (by rw [kd_reg (by omega)]; exact ⟨by omega, by omega⟩), depOk_reg hd (by omega)⟩
  exact ⟨h0.1.set 16 _ (by rw [kd_reg (by omega)]; exact num_u32 _), depOk_reg h0.2 (by omega)⟩
theorem fine_ret : Fine 20 := by
  intro a b n r μ hu hr hd hi he
  have e1 : effV 20 a b n r μ = ⟨(takeV r μ).1, (takeV r μ).2.2.set 16 (takeV r μ).2.1, -1, μ⟩ := rfl
  rw [e1] at he ⊢
  unfold takeV at he ⊢
  split at he
  next => cases he
  next h =>
    rw [if_neg h]
    have u := hr.u32 (j := 17) (by omega)
    have u2 := hr.u32 (j := 19) (by omega)
    dsimp only
    refine ⟨(hr.set 17 _ (by rw [kd_reg (by omega)]; exact ⟨by omega, by omega⟩)).set _ _ (by rw [kd_reg (by omega)]; exact ld_u32 hu u.1), depOk_reg (depOk_reg hd (by omega)) (by omega)⟩
/-- All operations. -/
theorem eff_all : ∀ k, k < 24 → EffC k (effV k) ∧ Fine k
  | 0, _ => ⟨effC_nop, fine_nop⟩
  | 1, _ => ⟨effC_1, fine_reg 1 (by decide) (by decide)⟩
  | 2, _ => ⟨effC_2, fine_reg 2 (by decide) (by decide)⟩
  | 3, _ => ⟨effC_3, fine_reg 3 (by decide) (by decide)⟩
  | 4, _ => ⟨effC_4, fine_reg 4 (by decide) (by decide)⟩
  | 5, _ => ⟨effC_5, fine_reg 5 (by decide) (by decide)⟩
  | 6, _ => ⟨effC_6, fine_reg 6 (by decide) (by decide)⟩
  | 7, _ => ⟨effC_7, fine_div⟩
  | 8, _ => ⟨effC_8, fine_word 8 (by decide)⟩
  | 9, _ => ⟨effC_9, fine_word 9 (by decide)⟩
  | 10, _ => ⟨effC_10, fine_word 10 (by decide)⟩
  | 11, _ => ⟨effC_11, fine_word 11 (by decide)⟩
  | 12, _ => ⟨effC_12, fine_word 12 (by decide)⟩
  | 13, _ => ⟨effC_13, fine_load⟩
  | 14, _ => ⟨effC_14, fine_store⟩
  | 15, _ => ⟨effC_15, fine_jump 15 (by decide)⟩
  | 16, _ => ⟨effC_16, fine_jump 16 (by decide)⟩
  | 17, _ => ⟨effC_17, fine_jump 17 (by decide)⟩
  | 18, _ => ⟨effC_loop, fine_loop⟩
  | 19, _ => ⟨effC_19, fine_call⟩
  | 20, _ => ⟨effC_20, fine_ret⟩
  | 21, _ => ⟨effC_push, fine_push⟩
  | 22, _ => ⟨effC_pop, fine_pop⟩
  | 23, _ => ⟨effC_trap, fine_trap⟩
  | n + 24, h => absurd h (by omega)
/-- Whatever registers and memory: a step over words is what is said. -/
theorem ok_any (r : List Int) (μ : MS) : okMem r μ := by
  intro h
  obtain ⟨_, k, hk, hk24, _⟩ := next_ok h
  have : (nextV r μ).o.toNat = k := by rw [hk]; simp
  rw [this]
  exact eff_all k hk24
theorem okGo_any (most : Int) : ∀ (n : Nat) (s : RS), okGo stV1 okMem most n s
  | 0, s => trivial
  | n + 1, s => fun _ => ⟨ok_any _ _, okGo_any most n _⟩
end Go.Proofs.YthmalhakkdjilaaDoor
