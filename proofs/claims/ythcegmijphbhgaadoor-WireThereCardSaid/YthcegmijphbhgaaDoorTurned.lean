/-
  The mathematics of the sum, in bytes: the bits of bytes; what is sealed leaves one register; turned bits within 32 leave another.
-/
import Derived.Test.YthcegmijphbhgaaDoorMath
namespace Go.Proofs.YthcegmijphbhgaaDoor
open Go.RowKit
set_option linter.unusedSimpArgs false
set_option linter.unusedVariables false
def bits8 (y : Int) : List Bool := [y.toNat.testBit 7, y.toNat.testBit 6, y.toNat.testBit 5, y.toNat.testBit 4, y.toNat.testBit 3, y.toNat.testBit 2, y.toNat.testBit 1, y.toNat.testBit 0]
theorem bits8_ok : ∀ y : Fin 256, sts 8 (BitVec.ofNat 32 (y.val * 16777216)) = feedBits 0#32 (bits8 (y.val : Int)) := by decide +kernel
theorem feedB_bits (R : BitVec 32) (y : Int) (y0 : 0 ≤ y) (y1 : y ≤ 255) : feedB R y = feedBits R (bits8 y) := by
  have := bits8_ok ⟨y.toNat, by omega⟩
  rw [show ((y.toNat : Nat) : Int) = y by omega] at this
  rw [feedBits_lin, ← this]
  unfold feedB
  rw [sts_xor]
  rfl
def bitsOf (l : List Int) : List Bool := l.flatMap bits8
theorem feed_bits (l : List Int) (R : BitVec 32) (h : Octets l) : feed R l = feedBits R (bitsOf l) := by
  induction l generalizing R with
  | nil => rfl
  | cons y l ih =>
    have hy := h y (by simp)
    simp only [bitsOf, List.flatMap_cons]
    rw [feedBits_app, ← feedB_bits R y hy.1 hy.2]
    exact ih _ fun z hz => h z (by simp [hz])
def bitL (l : List Int) (k : Nat) : Bool := (l.getD (k / 8) 0).toNat.testBit (7 - k % 8)
theorem bitsOf_len (l : List Int) : (bitsOf l).length = 8 * l.length := by
  induction l with
  | nil => rfl
  | cons y l ih => simp only [bitsOf, List.flatMap_cons, List.length_append] at *; rw [ih]; simp [bits8]; omega
theorem bitsOf_get (l : List Int) (k : Nat) (hk : k < 8 * l.length) : (bitsOf l).getD k false = bitL l k := by
  induction l generalizing k with
  | nil => simp at hk
  | cons y l ih =>
    simp only [bitsOf, List.flatMap_cons]
    by_cases h : k < 8
    · have e1 : k / 8 = 0 := by omega
      have e2 : k % 8 = k := by omega
      rw [List.getD_eq_getElem?_getD, List.getElem?_append_left (by simpa [bits8] using h), ← List.getD_eq_getElem?_getD]
      unfold bitL
      rw [e1, e2]
      match k, h with
      | 0, _ => rfl
      | 1, _ => rfl
      | 2, _ => rfl
      | 3, _ => rfl
      | 4, _ => rfl
      | 5, _ => rfl
      | 6, _ => rfl
      | 7, _ => rfl
    · rw [List.getD_eq_getElem?_getD, List.getElem?_append_right (by simp [bits8]; omega), ← List.getD_eq_getElem?_getD]
      have e : (bits8 y).length = 8 := rfl
      rw [e]
      refine (ih (k - 8) (by simp at hk; omega)).trans ?_
      unfold bitL
      have e1 : k / 8 = (k - 8) / 8 + 1 := by omega
      have e2 : k % 8 = (k - 8) % 8 := by omega
      rw [e1, e2, List.getD_cons_succ]
theorem sts8_low (a : Nat) (h : a < 16777216) : sts 8 (BitVec.ofNat 32 a) = BitVec.ofNat 32 (a * 256) := by
  have h1 : BitVec.ofNat 32 a < 0x10000000#32 := by simp [BitVec.lt_def]; omega
  have e1 : BitVec.ofNat 32 a <<< 4 = BitVec.ofNat 32 (a * 16) := by
    apply BitVec.eq_of_toNat_eq; simp [BitVec.toNat_shiftLeft, Nat.shiftLeft_eq]
  have h2 : BitVec.ofNat 32 (a * 16) < 0x10000000#32 := by simp [BitVec.lt_def]; omega
  rw [show (8 : Nat) = 4 + 4 from rfl, sts_add, sts4_low _ h1, e1, sts4_low _ h2]
  apply BitVec.eq_of_toNat_eq
  simp [BitVec.toNat_shiftLeft, Nat.shiftLeft_eq]
  omega
theorem feed4 (R : BitVec 32) (y0 y1 y2 y3 : Nat) (h0 : y0 < 256) (h1 : y1 < 256) (h2 : y2 < 256) (h3 : y3 < 256) :
    feed R [(y0 : Int), y1, y2, y3] = sts 32 (R ^^^ (BitVec.ofNat 32 (y0 * 16777216) ^^^ (BitVec.ofNat 32 (y1 * 65536) ^^^ (BitVec.ofNat 32 (y2 * 256) ^^^ BitVec.ofNat 32 y3)))) := by
  have h16 : ∀ X, sts 16 X = sts 8 (sts 8 X) := fun X => by rw [← sts_add]
  have h24 : ∀ X, sts 24 X = sts 8 (sts 8 (sts 8 X)) := fun X => by rw [← sts_add, ← sts_add]
  have h32 : ∀ X, sts 32 X = sts 8 (sts 8 (sts 8 (sts 8 X))) := fun X => by rw [← sts_add, ← sts_add, ← sts_add]
  have a1 : BitVec.ofNat 32 (y1 * 16777216) = sts 8 (BitVec.ofNat 32 (y1 * 65536)) := by rw [sts8_low _ (by omega), Nat.mul_assoc]
  have a2 : BitVec.ofNat 32 (y2 * 16777216) = sts 8 (sts 8 (BitVec.ofNat 32 (y2 * 256))) := by
    rw [sts8_low _ (by omega), sts8_low _ (by omega), Nat.mul_assoc, Nat.mul_assoc]
  have a3 : BitVec.ofNat 32 (y3 * 16777216) = sts 8 (sts 8 (sts 8 (BitVec.ofNat 32 y3))) := by
    rw [sts8_low _ (by omega), sts8_low _ (by omega), sts8_low _ (by omega), Nat.mul_assoc, Nat.mul_assoc]
  simp only [feed, List.foldl_cons, List.foldl_nil, feedB, Int.toNat_natCast]
  rw [a1, a2, a3, h32]
  simp only [sts_xor, BitVec.xor_assoc]
theorem xor_add (a b i : Nat) (h : b < 2 ^ i) : (a * 2 ^ i) ^^^ b = a * 2 ^ i + b := by
  apply Nat.eq_of_testBit_eq
  intro j
  rw [Nat.testBit_xor, Nat.mul_comm, Nat.testBit_two_pow_mul_add _ h, Nat.testBit_two_pow_mul]
  by_cases hj : j < i
  · simp [hj, show ¬ j ≥ i by omega]
  · have : b.testBit j = false := Nat.testBit_lt_two_pow (Nat.lt_of_lt_of_le h (Nat.pow_le_pow_right (by omega) (by omega)))
    simp [hj, this, show j ≥ i by omega]
/-- Are bytes those that are opened? -/
def okL (l : List Int) : Prop := wordV (l.drop (l.length - 4)) = sumV (l.take (l.length - 4))
theorem sealed (l : List Int) (h : Octets l) (h4 : 4 ≤ l.length) (hok : okL l) : feed 0xffffffff#32 l = sts 32 0xffffffff#32 := by
  have hs : l = l.take (l.length - 4) ++ l.drop (l.length - 4) := (List.take_append_drop _ _).symm
  unfold okL at hok
  have hF : Octets (l.take (l.length - 4)) := fun y hy => h y (List.mem_of_mem_take hy)
  have hB : Octets (l.drop (l.length - 4)) := fun y hy => h y (List.mem_of_mem_drop hy)
  have hBl : (l.drop (l.length - 4)).length = 4 := by simp; omega
  generalize l.take (l.length - 4) = F at *
  generalize l.drop (l.length - 4) = K at *
  match K, hBl with
  | [z0, z1, z2, z3], _ =>
    have q0 := hB z0 (by simp)
    have q1 := hB z1 (by simp)
    have q2 := hB z2 (by simp)
    have q3 := hB z3 (by simp)
    obtain ⟨y0, rfl⟩ := Int.eq_ofNat_of_zero_le q0.1
    obtain ⟨y1, rfl⟩ := Int.eq_ofNat_of_zero_le q1.1
    obtain ⟨y2, rfl⟩ := Int.eq_ofNat_of_zero_le q2.1
    obtain ⟨y3, rfl⟩ := Int.eq_ofNat_of_zero_le q3.1
    rw [hs]
    have e : feed 0xffffffff#32 (F ++ [(y0 : Int), y1, y2, y3]) = feed (feed 0xffffffff#32 F) [(y0 : Int), y1, y2, y3] := by unfold feed; rw [List.foldl_append]
    rw [e, feed4 _ _ _ _ _ (by omega) (by omega) (by omega) (by omega)]
    unfold sumV at hok
    rw [crcL_feed F hF] at hok
    generalize feed 0xffffffff#32 F = R at *
    have e2 := u32_xor_nat 4294967295 R.toNat (by omega) R.isLt
    rw [show ((4294967295 : Nat) : Int) = 4294967295 from rfl] at e2
    rw [e2] at hok
    simp only [wordV, List.getD_cons_zero, List.getD_cons_succ] at hok
    have hN : y0 * 16777216 + (y1 * 65536 + (y2 * 256 + y3)) = 4294967295 ^^^ R.toNat := by
      generalize 4294967295 ^^^ R.toNat = q at *
      omega
    have hV : (BitVec.ofNat 32 (y0 * 16777216) ^^^ (BitVec.ofNat 32 (y1 * 65536) ^^^ (BitVec.ofNat 32 (y2 * 256) ^^^ BitVec.ofNat 32 y3))) = 0xffffffff#32 ^^^ R := by
      apply BitVec.eq_of_toNat_eq
      rw [BitVec.toNat_xor, BitVec.toNat_xor, BitVec.toNat_xor, BitVec.toNat_xor, BitVec.toNat_ofNat, BitVec.toNat_ofNat, BitVec.toNat_ofNat, BitVec.toNat_ofNat]
      rw [Nat.mod_eq_of_lt (by omega), Nat.mod_eq_of_lt (by omega), Nat.mod_eq_of_lt (by omega), Nat.mod_eq_of_lt (by omega)]
      have b1 := xor_add y2 y3 8 (by omega)
      have b2 := xor_add y1 (y2 * 256 + y3) 16 (by omega)
      have b3 := xor_add y0 (y1 * 65536 + (y2 * 256 + y3)) 24 (by omega)
      simp only [Nat.reducePow] at b1 b2 b3
      rw [b1, b2, b3, hN]
      rfl
    rw [hV]
    congr 1
    rw [BitVec.xor_comm 0xffffffff#32 R, ← BitVec.xor_assoc, BitVec.xor_self]
    simp
/-- Turned bits, all within 32 in a row: what was sealed is not opened. -/
theorem turned (l m : List Int) (first : Nat) (hl : Octets l) (hm : Octets m) (hlen : m.length = l.length) (h4 : 4 ≤ l.length) (hok : okL l) (hf : first + 32 ≤ 8 * l.length)
    (hsame : ∀ k, k < 8 * l.length → k < first ∨ first + 32 ≤ k → bitL l k = bitL m k) (hdiff : ∃ k, k < 8 * l.length ∧ bitL l k ≠ bitL m k) : ¬ okL m := by
  intro hok'
  have e1 := sealed l hl h4 hok
  have e2 := sealed m hm (by omega) hok'
  rw [feed_bits l _ hl] at e1
  rw [feed_bits m _ hm] at e2
  have g : ∀ k, k < 8 * l.length → (bitsOf l).getD k false = bitL l k := fun k hk => bitsOf_get l k hk
  have g' : ∀ k, k < 8 * l.length → (bitsOf m).getD k false = bitL m k := fun k hk => bitsOf_get m k (by omega)
  have len := bitsOf_len l
  have len' := bitsOf_len m
  rw [hlen] at len'
  have cut : ∀ L : List Bool, L = L.take first ++ (L.drop first).take 32 ++ L.drop (first + 32) := fun L => by
    rw [List.append_assoc, ← List.drop_drop, List.take_append_drop, List.take_append_drop]
  have a : (bitsOf l).take first = (bitsOf m).take first := by
    refine List.ext_getElem (by simp; omega) fun i h1 h2 => ?_
    have hi : i < first := by simp at h1; omega
    have := hsame i (by omega) (.inl hi)
    rw [← g i (by omega), ← g' i (by omega)] at this
    simpa [List.getD_eq_getElem?_getD, List.getElem?_eq_getElem (show i < (bitsOf l).length by omega), List.getElem?_eq_getElem (show i < (bitsOf m).length by omega)] using this
  have z : (bitsOf l).drop (first + 32) = (bitsOf m).drop (first + 32) := by
    refine List.ext_getElem (by simp; omega) fun i h1 h2 => ?_
    have hi : first + 32 + i < 8 * l.length := by simp at h1; omega
    have := hsame (first + 32 + i) hi (.inr (by omega))
    rw [← g _ hi, ← g' _ hi] at this
    simpa [List.getD_eq_getElem?_getD, List.getElem?_eq_getElem (show first + 32 + i < (bitsOf l).length by omega), List.getElem?_eq_getElem (show first + 32 + i < (bitsOf m).length by omega)] using this
  have hne : bitsOf l ≠ bitsOf m := by
    intro he
    obtain ⟨k, hk, hd⟩ := hdiff
    rw [← g k hk, ← g' k hk, he] at hd
    exact hd rfl
  refine burst 0xffffffff#32 ((bitsOf l).take first) (((bitsOf l).drop first).take 32) (((bitsOf m).drop first).take 32) ((bitsOf l).drop (first + 32)) (by simp; omega) (by simp; omega) ?_ ?_
  · intro hmm
    apply hne
    rw [cut (bitsOf l), cut (bitsOf m), ← a, ← z, hmm]
  · rw [← cut (bitsOf l), a, z, ← cut (bitsOf m), e1, e2]
end Go.Proofs.YthcegmijphbhgaaDoor
