/-
  Bits as sums and rests; what a valid instruction has. Each statement bears its own conditions.
-/
import Derived.Test.YthmalhakkdjilaaDoorIsB
import Derived.Lib.EndianBits
namespace Go.Proofs.YthmalhakkdjilaaDoor
open Go.RowKit
set_option linter.unusedVariables false
set_option linter.unusedSimpArgs false
theorem valid_of {o a b n : Int} (h : validV o a b n = true) : 0 ≤ o ∧ o < 24 ∧ 0 ≤ a ∧ a ≤ 15 ∧ 0 ≤ b ∧ b ≤ 15 ∧ -262144 ≤ n ∧ n ≤ 262143 := by
  unfold validV at h
  simp only [Bool.and_eq_true, decide_eq_true_eq] at h
  obtain ⟨⟨h0, h1⟩, ⟨⟨⟨h2, h3⟩, h4⟩, h5⟩, _⟩ := h
  have ha := fitsV_le h2
  have hb := fitsV_le h3
  have hr : ∀ k, k < 24 → -262144 ≤ leastL.getD k 0 ∧ mostL.getD k 0 ≤ 262143 := by decide
  have := hr o.toNat (by omega)
  omega
theorem or32 (i : Nat) (x y : Int) (hx₀ : 0 ≤ x) (hx : x % 2 ^ i = 0) (hx₁ : x < 2 ^ 32) (hy₀ : 0 ≤ y) (hy : y < 2 ^ i) (hy₁ : y < 2 ^ 32) : bits .or .u32 x y = x + y :=
  bits_join .u32 32 (by decide) wraps_u32 i x y hx₀ hx hx₁ hy₀ hy hy₁
theorem and32 (i : Nat) (hi : i ≤ 32) (x : Int) (hx₀ : 0 ≤ x) (hx₁ : x < 2 ^ 32) : bits .and .u32 x (((2 ^ i - 1 : Nat) : Int)) = x % 2 ^ i := by
  obtain ⟨a, rfl⟩ := Int.eq_ofNat_of_zero_le hx₀
  have ha : a < 2 ^ 32 := by exact_mod_cast hx₁
  have hm : 2 ^ i - 1 < 2 ^ 32 := by
    have := Nat.pow_le_pow_right (n := 2) (by omega) hi
    have := Nat.two_pow_pos i
    omega
  rw [(bits_nat .u32 32 (by decide) wraps_u32 a (2 ^ i - 1) ha hm).1, Nat.and_two_pow_sub_one_eq_mod]
  push_cast; rfl
end Go.Proofs.YthmalhakkdjilaaDoor
