/-
  The mathematics of the sum: a shift of the register by one bit; four of them are one step through the table; the register's difference.
-/
import Derived.Test.YthcegmijphbhgaaDoorCrc
import Derived.Laws.BitsAllLaws
namespace Go.Proofs.YthcegmijphbhgaaDoor
open Go.RowKit
set_option linter.unusedSimpArgs false
set_option linter.unusedVariables false
/-- A shift by one bit. -/
def st (r : BitVec 32) : BitVec 32 := (r <<< 1) ^^^ (if r.getLsbD 31 then 0x04c11db7#32 else 0#32)
theorem st_xor (a b : BitVec 32) : st (a ^^^ b) = st a ^^^ st b := by
  unfold st
  rw [BitVec.shiftLeft_xor_distrib, BitVec.getLsbD_xor]
  cases a.getLsbD 31 <;> cases b.getLsbD 31
  · simp
  · simp; ac_rfl
  · simp; ac_rfl
  · simp only [Bool.xor_self, Bool.false_eq_true, if_false, if_true]
    rw [show a <<< 1 ^^^ 79764919#32 ^^^ (b <<< 1 ^^^ 79764919#32) = a <<< 1 ^^^ b <<< 1 ^^^ (79764919#32 ^^^ 79764919#32) by ac_rfl, BitVec.xor_self]
theorem st_zero : st 0 = 0 := by decide
theorem st_inj0 (a : BitVec 32) (h : st a = 0) : a = 0 := by
  unfold st at h
  cases ha : a.getLsbD 31
  · rw [ha] at h
    simp at h
    apply BitVec.eq_of_getLsbD_eq
    intro i hi
    by_cases h31 : i = 31
    · subst h31; rw [ha]; simp
    · have := congrArg (fun v => v.getLsbD (i + 1)) h
      simp at this
      have := this (by omega)
      simpa using this
  · rw [ha] at h
    have := congrArg (fun v => v.getLsbD 0) h
    simp at this
/-- So many shifts. -/
def sts : Nat → BitVec 32 → BitVec 32
  | 0, r => r
  | n + 1, r => sts n (st r)
theorem sts_xor (n : Nat) (a b : BitVec 32) : sts n (a ^^^ b) = sts n a ^^^ sts n b := by
  induction n generalizing a b with
  | zero => rfl
  | succ n ih => simp only [sts]; rw [st_xor, ih]
theorem sts_zero (n : Nat) : sts n 0 = 0 := by
  induction n with
  | zero => rfl
  | succ n ih => simp only [sts]; rw [st_zero, ih]
theorem sts_inj0 (n : Nat) (a : BitVec 32) (h : sts n a = 0) : a = 0 := by
  induction n generalizing a with
  | zero => exact h
  | succ n ih => exact st_inj0 a (ih _ h)
theorem sts_add (m n : Nat) (a : BitVec 32) : sts (m + n) a = sts n (sts m a) := by
  induction m generalizing a with
  | zero => simp [sts]
  | succ m ih => rw [show m + 1 + n = (m + n) + 1 by omega]; simp only [sts]; exact ih _
theorem st_low (a : BitVec 32) (h : a.getLsbD 31 = false) : st a = a <<< 1 := by unfold st; rw [h]; simp
theorem sts4_low (a : BitVec 32) (h : a < 0x10000000#32) : sts 4 a = a <<< 4 := by
  have hn : a.toNat < 268435456 := by simpa [BitVec.lt_def] using h
  have hb : ∀ i, 28 ≤ i → a.getLsbD i = false := fun i hi => by
    unfold BitVec.getLsbD
    exact Nat.testBit_lt_two_pow (Nat.lt_of_lt_of_le hn (by have := Nat.pow_le_pow_right (n := 2) (by omega) hi; omega))
  simp only [sts]
  rw [st_low a (hb 31 (by omega)), st_low (a <<< 1) (by rw [BitVec.getLsbD_shiftLeft]; simp [hb, ← BitVec.getLsbD_eq_getElem]), st_low (a <<< 1 <<< 1) (by rw [BitVec.getLsbD_shiftLeft]; simp [hb, ← BitVec.getLsbD_eq_getElem]), st_low (a <<< 1 <<< 1 <<< 1) (by rw [BitVec.getLsbD_shiftLeft]; simp [hb, ← BitVec.getLsbD_eq_getElem])]
  rw [← BitVec.shiftLeft_add, ← BitVec.shiftLeft_add, ← BitVec.shiftLeft_add]
theorem sts4_high : ∀ t : Fin 16, sts 4 (BitVec.ofNat 32 (t.val * 268435456)) = BitVec.ofInt 32 (stepsL.getD t.val 0) := by decide +kernel
theorem steps_bd : ∀ t : Fin 16, ((BitVec.ofInt 32 (stepsL.getD t.val 0)).toNat : Int) = stepsL.getD t.val 0 := by decide +kernel
/-- Four shifts are a step through the table. -/
theorem nib_sts (R : BitVec 32) : nib (R.toNat : Int) = ((sts 4 R).toNat : Int) := by
  have hR : R.toNat < 4294967296 := R.isLt
  have ht : R.toNat / 268435456 < 16 := by omega
  have hH : (R >>> 28) <<< 28 = BitVec.ofNat 32 (R.toNat / 268435456 * 268435456) := by
    apply BitVec.eq_of_toNat_eq
    simp [BitVec.toNat_shiftLeft, BitVec.toNat_ushiftRight, Nat.shiftRight_eq_div_pow, Nat.shiftLeft_eq]
  have hL : (R <<< 4) >>> 4 < 0x10000000#32 := by
    simp [BitVec.lt_def, BitVec.toNat_shiftLeft, BitVec.toNat_ushiftRight, Nat.shiftRight_eq_div_pow, Nat.shiftLeft_eq]; omega
  have hS : R = (R >>> 28) <<< 28 ^^^ (R <<< 4) >>> 4 := by
    apply BitVec.eq_of_getLsbD_eq
    intro i hi
    simp only [BitVec.getLsbD_xor, BitVec.getLsbD_shiftLeft, BitVec.getLsbD_ushiftRight]
    by_cases h : i < 28
    · have : 4 + i < 32 := by omega
      simp [h, this]
    · have h1 : ¬ 4 + i < 32 := by omega
      have h2 : 28 + (i - 28) = i := by omega
      simp [h, h1, h2, hi]
  have h4 : ((R <<< 4) >>> 4) <<< 4 = R <<< 4 := by
    apply BitVec.eq_of_getLsbD_eq
    intro i hi
    simp only [BitVec.getLsbD_shiftLeft, BitVec.getLsbD_ushiftRight]
    by_cases h : i < 4
    · simp [h]
    · have h2 : 4 + (i - 4) = i := by omega
      simp [h, h2, hi]
  have e1 : sts 4 R = BitVec.ofInt 32 (stepsL.getD (R.toNat / 268435456) 0) ^^^ (R <<< 4) := by
    conv => lhs; rw [hS]
    rw [sts_xor, hH, sts4_low _ hL, h4]
    exact congrArg (· ^^^ R <<< 4) (sts4_high ⟨_, ht⟩)
  have e2 : ((R.toNat : Int) / 268435456).toNat = R.toNat / 268435456 := by omega
  have e3 : (fun z : Int => z * 16 % 4294967296) (R.toNat : Int) = (((R <<< 4).toNat : Nat) : Int) := by
    simp [BitVec.toNat_shiftLeft, Nat.shiftLeft_eq]
  dsimp only at e3
  unfold nib
  rw [e2, e3, ← steps_bd ⟨_, ht⟩, u32_xor_nat _ _ (R <<< 4).isLt (BitVec.isLt _), e1, BitVec.toNat_xor, Nat.xor_comm]
/-- The register behind bytes. -/
def feedB (R : BitVec 32) (y : Int) : BitVec 32 := sts 8 (R ^^^ BitVec.ofNat 32 (y.toNat * 16777216))
def feed (R : BitVec 32) (l : List Int) : BitVec 32 := l.foldl feedB R
theorem crcB_feed (R : BitVec 32) (y : Int) (y0 : 0 ≤ y) (y1 : y ≤ 255) : crcB (R.toNat : Int) y = ((feedB R y).toNat : Int) := by
  have e : y * 16777216 = (((BitVec.ofNat 32 (y.toNat * 16777216)).toNat : Nat) : Int) := by
    rw [BitVec.toNat_ofNat]; omega
  unfold crcB feedB
  rw [e, u32_xor_nat _ _ R.isLt (BitVec.isLt _), ← BitVec.toNat_xor, nib_sts, nib_sts, ← sts_add]
def Octets (l : List Int) : Prop := ∀ y ∈ l, 0 ≤ y ∧ y ≤ 255
theorem octets_of {l : List Int} (h : Bytes l) : Octets l := by
  intro y hy
  obtain ⟨i, hi, rfl⟩ := List.getElem_of_mem hy
  have := h i hi
  simpa [List.getD_eq_getElem?_getD, List.getElem?_eq_getElem hi] using this
theorem fold_feed (l : List Int) (R : BitVec 32) (h : Octets l) : l.foldl crcB (R.toNat : Int) = ((feed R l).toNat : Int) := by
  induction l generalizing R with
  | nil => rfl
  | cons y l ih =>
    have hy := h y (by simp)
    simp only [List.foldl_cons, feed]
    rw [crcB_feed R y hy.1 hy.2]
    exact ih _ fun z hz => h z (by simp [hz])
theorem crcL_feed (l : List Int) (h : Octets l) : crcL l = ((feed 0xffffffff#32 l).toNat : Int) := fold_feed l 0xffffffff#32 h

/-! The register bit by bit. -/
def hi1 (b : Bool) : BitVec 32 := if b then 0x80000000#32 else 0#32
def feedBits (R : BitVec 32) (bs : List Bool) : BitVec 32 := bs.foldl (fun R b => st (R ^^^ hi1 b)) R
theorem feedBits_cons (R : BitVec 32) (b : Bool) (bs : List Bool) : feedBits R (b :: bs) = feedBits (st (R ^^^ hi1 b)) bs := rfl
theorem feedBits_app (R : BitVec 32) (xs bs : List Bool) : feedBits R (xs ++ bs) = feedBits (feedBits R xs) bs := by
  unfold feedBits; rw [List.foldl_append]
theorem zero_xor' (a : BitVec 32) : 0#32 ^^^ a = a := by simp
theorem feedBits_lin (R : BitVec 32) (bs : List Bool) : feedBits R bs = sts bs.length R ^^^ feedBits 0#32 bs := by
  induction bs generalizing R with
  | nil => simp [feedBits, sts]
  | cons b bs ih =>
    rw [feedBits_cons, feedBits_cons, ih, ih (st (0#32 ^^^ hi1 b)), zero_xor', st_xor, sts_xor, List.length_cons]
    simp only [sts]
    ac_rfl
/-- Bits as a word. -/
def wd : List Bool → BitVec 32
  | [] => 0#32
  | b :: bs => hi1 b ^^^ (wd bs >>> 1)
theorem hi1_bit (b : Bool) (i : Nat) : (hi1 b).getLsbD i = (decide (i = 31) && b) := by
  unfold hi1
  cases b
  · simp
  · by_cases h : i = 31
    · subst h; decide
    · by_cases h' : i < 32
      · have : ∀ j : Fin 32, j.val ≠ 31 → (0x80000000#32).getLsbD j.val = false := by decide +kernel
        simpa [h] using this ⟨i, h'⟩ h
      · have := BitVec.getLsbD_of_ge (0x80000000#32) i (by omega)
        simp [h, this]
theorem wd_bit (bs : List Bool) (i : Nat) (hi : i < 32) : (wd bs).getLsbD (31 - i) = bs.getD i false := by
  induction bs generalizing i with
  | nil => simp [wd]
  | cons b bs ih =>
    simp only [wd, BitVec.getLsbD_xor, BitVec.getLsbD_ushiftRight, hi1_bit]
    cases i with
    | zero => simp [BitVec.getLsbD_of_ge]
    | succ i =>
      have h1 : ¬ 31 - (i + 1) = 31 := by omega
      have h2 : 1 + (31 - (i + 1)) = 31 - i := by omega
      simp only [h1, h2, decide_false, Bool.false_and, Bool.false_xor, List.getD_cons_succ]
      exact ih i (by omega)
theorem feedBits_wd (bs : List Bool) (h : bs.length ≤ 32) : feedBits 0#32 bs = sts bs.length (wd bs) := by
  induction bs with
  | nil => rfl
  | cons b bs ih =>
    have hl : bs.length ≤ 31 := by simpa using h
    rw [feedBits_cons, feedBits_lin, zero_xor', ih (by omega), List.length_cons]
    simp only [sts, wd]
    rw [st_xor, sts_xor]
    have h0 : (wd bs).getLsbD 0 = false := by
      have := wd_bit bs 31 (by omega)
      simpa [List.getD_eq_getElem?_getD, List.getElem?_eq_none (show bs.length ≤ 31 from hl)] using this
    have h1 : st (wd bs >>> 1) = wd bs := by
      rw [st_low _ (by simp [BitVec.getLsbD_ushiftRight, BitVec.getLsbD_of_ge])]
      apply BitVec.eq_of_getLsbD_eq
      intro i hi
      simp only [BitVec.getLsbD_shiftLeft, BitVec.getLsbD_ushiftRight]
      cases i with
      | zero => simpa using h0.symm
      | succ i => simp [hi, Nat.add_comm]
    rw [h1]
theorem wd_inj (xs bs : List Bool) (h : xs.length = bs.length) (h32 : xs.length ≤ 32) (he : wd xs = wd bs) : xs = bs := by
  refine List.ext_getElem h fun i h1 h2 => ?_
  have := congrArg (fun v => v.getLsbD (31 - i)) he
  simp only [wd_bit _ i (show i < 32 by omega)] at this
  simpa [List.getD_eq_getElem?_getD, List.getElem?_eq_getElem h1, List.getElem?_eq_getElem h2] using this
theorem xor_ne {a b : BitVec 32} (h : a ^^^ b = 0) : a = b := by
  have : a ^^^ b ^^^ b = 0 ^^^ b := congrArg (· ^^^ b) h
  simpa [BitVec.xor_assoc] using this
theorem sts_inj (n : Nat) (a b : BitVec 32) (h : sts n a = sts n b) : a = b := by
  apply xor_ne
  apply sts_inj0 n
  rw [sts_xor, h, BitVec.xor_self]
  rfl
/-- Bits that differ in at most 32 in a row leave another register. -/
theorem burst (R : BitVec 32) (xs ms ns zs : List Bool) (hl : ms.length = ns.length) (h32 : ms.length ≤ 32) (hne : ms ≠ ns) : feedBits R (xs ++ ms ++ zs) ≠ feedBits R (xs ++ ns ++ zs) := by
  intro he
  rw [feedBits_app, feedBits_app, feedBits_app, feedBits_app] at he
  rw [feedBits_lin, feedBits_lin (feedBits (feedBits R xs) ns)] at he
  have he : sts zs.length (feedBits (feedBits R xs) ms) = sts zs.length (feedBits (feedBits R xs) ns) := by
    have := congrArg (· ^^^ feedBits 0#32 zs) he
    simpa [BitVec.xor_assoc] using this
  have he := sts_inj _ _ _ he
  rw [feedBits_lin, feedBits_lin _ ns, hl] at he
  have he : feedBits 0#32 ms = feedBits 0#32 ns := by
    have := congrArg (sts ns.length (feedBits R xs) ^^^ ·) he
    simpa [← BitVec.xor_assoc] using this
  rw [feedBits_wd _ h32, feedBits_wd _ (by omega), hl] at he
  exact hne (wd_inj _ _ hl h32 (sts_inj _ _ _ he))
end Go.Proofs.YthcegmijphbhgaaDoor
