/-
  Words of bits: which bit is the first, and the contracts of bits.Len64 and first. Each statement bears its own conditions.
-/
import Derived.Test.YtbkjcjkbicaibaaRow
import Derived.Lib.BitFns
import Derived.Laws.BitsAllLaws
import Derived.Lib.Small
import Derived.Lib.Walk
import Derived.Lib.Strings
namespace Go.Proofs.Ytbkjcjkbicaibaa
open Go.RowKit
set_option linter.unusedVariables false
set_option linter.unusedSimpArgs false
theorem tab_of (i : Int) (h : i.toNat < Lib.len8tab.size) (h0 : 0 ≤ i) (h1 : i ≤ 255) : ((Lib.len8tab[i.toNat]'h).toNat : Int) = (Lib.bitLen i.toNat : Int) := by
  rw [← Lib.len8_of i h0 h1]
  unfold Lib.len8
  rw [getElem?_pos Lib.len8tab i.toNat h]
  rfl
set_option maxHeartbeats 4000000 in
set_option maxRecDepth 100000 in
theorem len64_any (x : Int) (w : World) (h0 : 0 ≤ x) (h1 : x ≤ 18446744073709551615) :
    Calls Try.prog 40 #[.int .u64 x] w fun e w' => e = .returned (.int .i64 (Lib.bitLen x.toNat)) ∧ w' = w := by
  go_enter Try.func40, Try.ntmps40
  go_wp2
  · rename_i hsz
    go_ret
    refine ⟨congrArg Ending.returned (congrArg (Value.int IntKind.i64) ?_), rfl⟩
    have e : (x / 4294967296 / 65536 / 256).toNat = x.toNat / 72057594037927936 := by omega
    have l := Lib.bitLen_le8' (x / 4294967296 / 65536 / 256) (by omega) (by omega)
    have s := Lib.bitLen_shift 56 x.toNat (by omega) (by omega)
    rw [tab_of (x / 4294967296 / 65536 / 256) _ (by omega) (by omega)]
    rw [e] at l ⊢
    simp only [Nat.reducePow] at s
    generalize Lib.bitLen (x.toNat / 72057594037927936) = u at *
    generalize Lib.bitLen x.toNat = u' at *
    unfold wrap64
    clear e hsz h0 h1
    omega
  · rename_i hsz
    exfalso
    rw [Lib.len8tab_size] at hsz
    omega
  · rename_i hsz
    go_ret
    refine ⟨congrArg Ending.returned (congrArg (Value.int IntKind.i64) ?_), rfl⟩
    have e : (x / 4294967296 / 65536).toNat = x.toNat / 281474976710656 := by omega
    have l := Lib.bitLen_le8' (x / 4294967296 / 65536) (by omega) (by omega)
    have s := Lib.bitLen_shift 48 x.toNat (by omega) (by omega)
    rw [tab_of (x / 4294967296 / 65536) _ (by omega) (by omega)]
    rw [e] at l ⊢
    simp only [Nat.reducePow] at s
    generalize Lib.bitLen (x.toNat / 281474976710656) = u at *
    generalize Lib.bitLen x.toNat = u' at *
    unfold wrap64
    clear e hsz h0 h1
    omega
  · rename_i hsz
    exfalso
    rw [Lib.len8tab_size] at hsz
    omega
  · rename_i hsz
    go_ret
    refine ⟨congrArg Ending.returned (congrArg (Value.int IntKind.i64) ?_), rfl⟩
    have e : (x / 4294967296 / 256).toNat = x.toNat / 1099511627776 := by omega
    have l := Lib.bitLen_le8' (x / 4294967296 / 256) (by omega) (by omega)
    have s := Lib.bitLen_shift 40 x.toNat (by omega) (by omega)
    rw [tab_of (x / 4294967296 / 256) _ (by omega) (by omega)]
    rw [e] at l ⊢
    simp only [Nat.reducePow] at s
    generalize Lib.bitLen (x.toNat / 1099511627776) = u at *
    generalize Lib.bitLen x.toNat = u' at *
    unfold wrap64
    clear e hsz h0 h1
    omega
  · rename_i hsz
    exfalso
    rw [Lib.len8tab_size] at hsz
    omega
  · rename_i hsz
    go_ret
    refine ⟨congrArg Ending.returned (congrArg (Value.int IntKind.i64) ?_), rfl⟩
    have e : (x / 4294967296).toNat = x.toNat / 4294967296 := by omega
    have l := Lib.bitLen_le8' (x / 4294967296) (by omega) (by omega)
    have s := Lib.bitLen_shift 32 x.toNat (by omega) (by omega)
    rw [tab_of (x / 4294967296) _ (by omega) (by omega)]
    rw [e] at l ⊢
    simp only [Nat.reducePow] at s
    generalize Lib.bitLen (x.toNat / 4294967296) = u at *
    generalize Lib.bitLen x.toNat = u' at *
    unfold wrap64
    clear e hsz h0 h1
    omega
  · rename_i hsz
    exfalso
    rw [Lib.len8tab_size] at hsz
    omega
  · rename_i hsz
    go_ret
    refine ⟨congrArg Ending.returned (congrArg (Value.int IntKind.i64) ?_), rfl⟩
    have e : (x / 65536 / 256).toNat = x.toNat / 16777216 := by omega
    have l := Lib.bitLen_le8' (x / 65536 / 256) (by omega) (by omega)
    have s := Lib.bitLen_shift 24 x.toNat (by omega) (by omega)
    rw [tab_of (x / 65536 / 256) _ (by omega) (by omega)]
    rw [e] at l ⊢
    simp only [Nat.reducePow] at s
    generalize Lib.bitLen (x.toNat / 16777216) = u at *
    generalize Lib.bitLen x.toNat = u' at *
    unfold wrap64
    clear e hsz h0 h1
    omega
  · rename_i hsz
    exfalso
    rw [Lib.len8tab_size] at hsz
    omega
  · rename_i hsz
    go_ret
    refine ⟨congrArg Ending.returned (congrArg (Value.int IntKind.i64) ?_), rfl⟩
    have e : (x / 65536).toNat = x.toNat / 65536 := by omega
    have l := Lib.bitLen_le8' (x / 65536) (by omega) (by omega)
    have s := Lib.bitLen_shift 16 x.toNat (by omega) (by omega)
    rw [tab_of (x / 65536) _ (by omega) (by omega)]
    rw [e] at l ⊢
    simp only [Nat.reducePow] at s
    generalize Lib.bitLen (x.toNat / 65536) = u at *
    generalize Lib.bitLen x.toNat = u' at *
    unfold wrap64
    clear e hsz h0 h1
    omega
  · rename_i hsz
    exfalso
    rw [Lib.len8tab_size] at hsz
    omega
  · rename_i hsz
    go_ret
    refine ⟨congrArg Ending.returned (congrArg (Value.int IntKind.i64) ?_), rfl⟩
    have e : (x / 256).toNat = x.toNat / 256 := by omega
    have l := Lib.bitLen_le8' (x / 256) (by omega) (by omega)
    have s := Lib.bitLen_shift 8 x.toNat (by omega) (by omega)
    rw [tab_of (x / 256) _ (by omega) (by omega)]
    rw [e] at l ⊢
    simp only [Nat.reducePow] at s
    generalize Lib.bitLen (x.toNat / 256) = u at *
    generalize Lib.bitLen x.toNat = u' at *
    unfold wrap64
    clear e hsz h0 h1
    omega
  · rename_i hsz
    exfalso
    rw [Lib.len8tab_size] at hsz
    omega
  · go_ret
    refine ⟨congrArg Ending.returned (congrArg (Value.int IntKind.i64) ?_), rfl⟩
    have l := Lib.bitLen_le8' x (by omega) (by omega)
    rw [tab_of x _ (by omega) (by omega)]
    unfold wrap64
    omega
/-- p is the first bit of F. -/
structure Top (F p : Nat) : Prop where
  lt : p < 64
  bit : F.testBit p = true
  none_ : ∀ q, p < q → F.testBit q = false
theorem Top.ge {F p : Nat} (h : Top F p) : 2 ^ p ≤ F := Nat.ge_two_pow_of_testBit h.bit
theorem Top.lt_ {F p : Nat} (h : Top F p) : F < 2 ^ (p + 1) := Nat.lt_pow_two_of_testBit F fun i hi => h.none_ i (by omega)
theorem Top.len {F p : Nat} (h : Top F p) : Lib.bitLen F = p + 1 := by
  have h1 := h.ge
  have h2 := h.lt_
  have h3 : F < 2 ^ 64 := Nat.lt_of_lt_of_le h2 (Nat.pow_le_pow_right (by omega) (by have := h.lt; omega))
  rw [Lib.bitLen_shift p F h1 h3]
  have h4 : F / 2 ^ p = 1 := by
    refine Nat.div_eq_of_lt_le (by omega) ?_
    rw [Nat.pow_succ] at h2; omega
  rw [h4]; rfl
theorem top_of {F : Nat} (h : F < 2 ^ 64) (h0 : F ≠ 0) : ∃ p, Top F p := by
  have h1 := Nat.log2_self_le h0
  have h2 := @Nat.lt_log2_self F
  have hp : F.log2 < 64 := (Nat.log2_lt h0).2 h
  refine ⟨F.log2, hp, ?_, fun q hq => Nat.testBit_lt_two_pow (Nat.lt_of_lt_of_le h2 (Nat.pow_le_pow_right (by omega) (by omega)))⟩
  have h3 : F / 2 ^ F.log2 = 1 := by
    refine Nat.div_eq_of_lt_le (by omega) ?_
    rw [Nat.pow_succ] at h2; omega
  rw [Nat.testBit_eq_decide_div_mod_eq, h3]; rfl
theorem first_any (F p : Nat) (w : World) (h : Top F p) :
    Calls Try.prog 33 #[.int .u64 (F : Int)] w fun e w' => e = .returned (.int .i64 (p : Int)) ∧ w' = w := by
  have h3 : F < 2 ^ 64 := Nat.lt_of_lt_of_le h.lt_ (Nat.pow_le_pow_right (by omega) (by have := h.lt; omega))
  have L := Lib.hid (len64_any (F : Int) w (by omega) (by omega))
  have HL : Hid (Lib.bitLen (F : Int).toNat = p + 1) := by unfold Hid; rw [Int.toNat_natCast]; exact h.len
  have hp : Hid (p < 64) := h.lt
  clear h h3
  go_enter Try.func33, Try.ntmps33
  go_wp2_with fail
  refine L.out.mono ?_
  rintro e w' ⟨rfl, rfl⟩
  rw [HL.out]
  go_wp2_with fail
  go_ret
  have hp := hp.out
  refine ⟨congrArg Ending.returned (congrArg (Value.int IntKind.i64) ?_), rfl⟩
  first | rfl | (unfold wrap64; omega) | (simp; omega) | omega
/-- F without the bit p; F with it. -/
def clr (F p : Nat) : Nat := F &&& (18446744073709551615 - 2 ^ p)
def put1 (F p : Nat) : Nat := F ||| 2 ^ p
theorem pow_lt {p : Nat} (h : p < 64) : 2 ^ p < 18446744073709551616 := Nat.pow_lt_pow_right (by omega) h
theorem clr_bit {F p : Nat} (hF : F < 2 ^ 64) (hp : p < 64) (q : Nat) : (clr F p).testBit q = (F.testBit q && decide (q ≠ p)) := by
  unfold clr
  have h1 : (18446744073709551615 - 2 ^ p : Nat) = 2 ^ 64 - (2 ^ p + 1) := by have := pow_lt hp; omega
  rw [Nat.testBit_and, h1, Nat.testBit_two_pow_sub_succ (pow_lt hp), Nat.testBit_two_pow]
  by_cases hq : q < 64
  · by_cases h : p = q <;> simp [h, hq, eq_comm]
  · rw [Nat.testBit_lt_two_pow (Nat.lt_of_lt_of_le hF (Nat.pow_le_pow_right (by omega) (by omega)))]; simp
theorem clr_lt {F : Nat} (p : Nat) (hF : F < 2 ^ 64) : clr F p < 2 ^ 64 := Nat.lt_of_le_of_lt Nat.and_le_left hF
theorem put1_bit (F p q : Nat) : (put1 F p).testBit q = (F.testBit q || decide (q = p)) := by
  unfold put1
  rw [Nat.testBit_or, Nat.testBit_two_pow]
  by_cases h : p = q <;> simp [h, eq_comm]
theorem put1_lt {F p : Nat} (hF : F < 2 ^ 64) (hp : p < 64) : put1 F p < 2 ^ 64 := Nat.or_lt_two_pow hF (pow_lt hp)
theorem shl_run {p : Nat} (hp : p < 64) (w : World) : (binOp .shl 45 (.int .u64 1) (.int .i64 (p : Int))).run Try.prog w = .ok (.int .u64 ((2 ^ p : Nat) : Int)) w := by
  have hl := pow_lt hp
  go_simp
  rw [show IntKind.u64.wrap (2 ^ p : Int) = ((2 ^ p : Nat) : Int) by
    rw [show ((2 : Int) ^ p) = ((2 ^ p : Nat) : Int) by simp]
    generalize 2 ^ p = z at hl
    simp [IntKind.wrap, IntKind.bits, IntKind.signed]
    omega]
  try simp
theorem andNot_run {F p : Nat} (hF : F < 2 ^ 64) (hp : p < 64) (w : World) : (binOp .andNot 45 (.int .u64 (F : Int)) (.int .u64 ((2 ^ p : Nat) : Int))).run Try.prog w = .ok (.int .u64 ((clr F p : Nat) : Int)) w := by
  have e := u64_andNot_nat F (2 ^ p) (by simpa using hF) (pow_lt hp)
  go_simp
  rw [show ((2 : Int) ^ p) = ((2 ^ p : Nat) : Int) by simp, e]
  rfl
theorem or_run {F p : Nat} (hF : F < 2 ^ 64) (hp : p < 64) (w : World) : (binOp .or 45 (.int .u64 (F : Int)) (.int .u64 ((2 ^ p : Nat) : Int))).run Try.prog w = .ok (.int .u64 ((put1 F p : Nat) : Int)) w := by
  have e := u64_or_nat F (2 ^ p) (by simpa using hF) (pow_lt hp)
  go_simp
  rw [show ((2 : Int) ^ p) = ((2 ^ p : Nat) : Int) by simp, e]
  rfl
theorem wrap_pow {p : Nat} (hp : p < 64) : IntKind.u64.wrap (2 ^ p : Int) = ((2 ^ p : Nat) : Int) := by
  have hl := pow_lt hp
  rw [show ((2 : Int) ^ p) = ((2 ^ p : Nat) : Int) by simp]
  generalize 2 ^ p = z at hl
  simp [IntKind.wrap, IntKind.bits, IntKind.signed]
  omega
theorem clr_eq {F p : Nat} (hF : F < 2 ^ 64) (hp : p < 64) : bits .andNot .u64 (F : Int) (IntKind.u64.wrap (2 ^ p)) = ((clr F p : Nat) : Int) := by
  rw [wrap_pow hp, u64_andNot_nat F (2 ^ p) (by simpa using hF) (pow_lt hp)]; rfl
theorem put_eq {F p : Nat} (hF : F < 2 ^ 64) (hp : p < 64) : bits .or .u64 (F : Int) (IntKind.u64.wrap (2 ^ p)) = ((put1 F p : Nat) : Int) := by
  rw [wrap_pow hp, u64_or_nat F (2 ^ p) (by simpa using hF) (pow_lt hp)]; rfl
end Go.Proofs.Ytbkjcjkbicaibaa
