/-
  The mathematics of turned bits: one bit of a list of bytes turned; which bits a loop has turned; what was sealed and is not so any more.
-/
import Derived.Test.YthcegmijphbhgaaDoorTurned
namespace Go.Proofs.YthcegmijphbhgaaDoor
open Go.RowKit
set_option linter.unusedSimpArgs false
set_option linter.unusedVariables false
/-- The one bit of a byte. -/
def oneB (r : Nat) : Int := ((128 / 2 ^ r : Nat) : Int)
theorem flip_byte : ∀ v : Fin 256, ∀ r : Fin 8, ∀ j : Fin 8, (bits BinOp.xor IntKind.u8 (v.val : Int) (oneB r.val)).toNat.testBit (7 - j.val) = (v.val.testBit (7 - j.val) ^^ decide (j = r)) := by decide +kernel
theorem flip_bd (v r : Int) : 0 ≤ bits BinOp.xor IntKind.u8 v r ∧ bits BinOp.xor IntKind.u8 v r ≤ 255 := by
  exact bounds_u8 (wf_bits BinOp.xor IntKind.u8 v r)
theorem bytes_of {l : List Int} (h : Octets l) : Bytes l := by
  intro i hi
  have := h l[i] (List.getElem_mem hi)
  simpa [List.getD_eq_getElem?_getD, List.getElem?_eq_getElem hi] using this
theorem octets_set {m : List Int} (h : Octets m) (q : Nat) (x : Int) (hx : 0 ≤ x ∧ x ≤ 255) : Octets (m.set q x) := by
  intro y hy
  rcases List.mem_or_eq_of_mem_set hy with h1 | h1
  · exact h y h1
  · subst h1; exact hx
/-- One bit turned. -/
theorem flip_one {m : List Int} (h : Octets m) (q r p : Nat) (hq : q < m.length) (hr : r < 8) :
    bitL (m.set q (bits BinOp.xor IntKind.u8 (m.getD q 0) (oneB r))) p = (bitL m p ^^ decide (p = 8 * q + r)) := by
  have hv := bytes_of h q hq
  unfold bitL
  by_cases hp : p / 8 = q
  · have e : (m.set q (bits BinOp.xor IntKind.u8 (m.getD q 0) (oneB r))).getD (p / 8) 0 = bits BinOp.xor IntKind.u8 (m.getD q 0) (oneB r) := by
      rw [hp, List.getD_eq_getElem?_getD, List.getElem?_set]; simp [hq]
    rw [e, hp]
    obtain ⟨v, hv'⟩ : ∃ v : Nat, m.getD q 0 = (v : Int) := ⟨(m.getD q 0).toNat, by omega⟩
    rw [hv'] at hv ⊢
    have := flip_byte ⟨v, by omega⟩ ⟨r, hr⟩ ⟨p % 8, Nat.mod_lt _ (by omega)⟩
    simp only [Fin.mk.injEq] at this
    rw [this, Int.toNat_natCast]
    congr 1
    simp only [decide_eq_decide]
    omega
  · have e : (m.set q (bits BinOp.xor IntKind.u8 (m.getD q 0) (oneB r))).getD (p / 8) 0 = m.getD (p / 8) 0 := by
      rw [List.getD_eq_getElem?_getD, List.getElem?_set, if_neg (fun h => hp h.symm), ← List.getD_eq_getElem?_getD]
    have d : decide (p = 8 * q + r) = false := by simp; omega
    rw [e, d]; simp
/-- What the loop has turned. -/
structure Flip (l m : List Int) (F i T : Nat) : Prop where
  len : m.length = l.length
  oct : Octets m
  bits : ∀ q, q < 8 * l.length → bitL m q = (bitL l q ^^ (decide (F ≤ q) && decide (q < F + i) && T.testBit (q - F)))
theorem Flip.zero {l : List Int} (h : Octets l) (F T : Nat) : Flip l l F 0 T := ⟨rfl, h, fun q _ => by
  have : (decide (F ≤ q) && decide (q < F + 0)) = false := by simp
  rw [this]; simp⟩
theorem Flip.even {l m : List Int} {F i T : Nat} (h : Flip l m F i T) (hT : T.testBit i = false) : Flip l m F (i + 1) T := ⟨h.len, h.oct, fun q hq => by
  rw [h.bits q hq]
  congr 1
  by_cases e : q = F + i
  · subst e
    have a : decide (F + i < F + i) = false := by simp
    have b : F + i - F = i := by omega
    rw [a, b, hT]; simp
  · have a : decide (q < F + (i + 1)) = decide (q < F + i) := by simp only [decide_eq_decide]; omega
    rw [a]⟩
theorem Flip.odd {l m : List Int} {F i T : Nat} (h : Flip l m F i T) (hT : T.testBit i = true) (q r : Nat) (hq : q < l.length) (hr : r < 8) (e : F + i = 8 * q + r) :
    Flip l (m.set q (_root_.Go.bits BinOp.xor IntKind.u8 (m.getD q 0) (oneB r))) F (i + 1) T := ⟨by rw [List.length_set]; exact h.len, octets_set h.oct q _ (flip_bd _ _), fun p hp => by
  rw [flip_one h.oct q r p (by rw [h.len]; exact hq) hr, h.bits p hp, ← e]
  by_cases ep : p = F + i
  · subst ep
    have a : decide (F + i < F + i) = false := by simp
    have a' : decide (F + i < F + (i + 1)) = true := by simp
    have b : F + i - F = i := by omega
    have c : decide (F ≤ F + i) = true := by simp
    rw [a, a', b, hT, c]; simp
  · have a : decide (p < F + (i + 1)) = decide (p < F + i) := by simp only [decide_eq_decide]; omega
    have d : decide (p = F + i) = false := by simp [ep]
    rw [a, d]; simp⟩
theorem test_odd {T Tn i : Nat} (hT : T = Tn / 2 ^ i) (h : T % 2 = 1) : Tn.testBit i = true := by
  rw [Nat.testBit_eq_decide_div_mod_eq, ← hT]; simp [h]
theorem test_even {T Tn i : Nat} (hT : T = Tn / 2 ^ i) (h : T % 2 = 0) : Tn.testBit i = false := by
  rw [Nat.testBit_eq_decide_div_mod_eq, ← hT]; simp [h]
theorem next_half {T Tn i : Nat} (hT : T = Tn / 2 ^ i) : T / 2 = Tn / 2 ^ (i + 1) := by
  rw [hT, Nat.div_div_eq_div_mul, Nat.pow_succ]
theorem word_back (x : Int) (x0 : 0 ≤ x) (x1 : x ≤ 4294967295) : wordV (wordB x) = x := by
  simp only [wordV, wordB, List.getD_cons_zero, List.getD_cons_succ]; omega
theorem word_octets (x : Int) (x0 : 0 ≤ x) (x1 : x ≤ 4294967295) : Octets (wordB x) := by
  intro y hy
  simp only [wordB, List.mem_cons, List.not_mem_nil, or_false] at hy
  rcases hy with h | h | h | h <;> omega
theorem seal_oct {l : List Int} (h : Bytes l) : Octets (l ++ wordB (sumV l)) := by
  intro y hy
  rcases List.mem_append.mp hy with h1 | h1
  · exact octets_of h y h1
  · exact word_octets _ (sumV_bd l).1 (sumV_bd l).2 y h1
theorem seal_len (l : List Int) : (l ++ wordB (sumV l)).length = l.length + 4 := by simp [wordB]
theorem seal_ok (l : List Int) : okL (l ++ wordB (sumV l)) := by
  unfold okL
  rw [seal_len, show l.length + 4 - 4 = l.length by omega, List.drop_left, List.take_left]
  exact word_back _ (sumV_bd l).1 (sumV_bd l).2
/-- Turned: not opened. -/
theorem flip_shut {l m : List Int} {F T : Nat} (hl : Bytes l) (h : Flip (l ++ wordB (sumV l)) m F 32 T) (hF : F + 32 ≤ 8 * (l.length + 4)) (hT : T ≠ 0) (hT' : T ≤ 4294967295) : openE m = 5 ∧ openL m = [] ∧ Bytes m := by
  have hlen := h.len
  rw [seal_len] at hlen
  obtain ⟨i, hi⟩ := Nat.exists_testBit_of_ne_zero hT
  have hi32 : i < 32 := by
    rcases Nat.lt_or_ge i 32 with h1 | h1
    · exact h1
    · have : T.testBit i = false := Nat.testBit_lt_two_pow (Nat.lt_of_lt_of_le (show T < 2 ^ 32 by omega) (Nat.pow_le_pow_right (by omega) h1))
      rw [this] at hi; cases hi
  have hno : ¬ okL m := by
    refine turned (l ++ wordB (sumV l)) m F (seal_oct hl) h.oct h.len (by rw [seal_len]; omega) (seal_ok l) (by rw [seal_len]; exact hF) ?_ ⟨F + i, by rw [seal_len]; omega, ?_⟩
    · intro k hk hout
      rw [h.bits k hk]
      have : (decide (F ≤ k) && decide (k < F + 32)) = false := by simp; omega
      rw [this]; simp
    · rw [h.bits _ (by rw [seal_len]; omega)]
      have a : decide (F ≤ F + i) = true := by simp
      have b : decide (F + i < F + 32) = true := by simp [hi32]
      have c : F + i - F = i := by omega
      rw [a, b, c, hi]; simp
  have e : openE m = 5 := by
    unfold okL at hno
    unfold openE
    rw [if_neg (by omega), if_neg hno]
  refine ⟨e, ?_, bytes_of h.oct⟩
  unfold openL
  rw [e]; rfl
end Go.Proofs.YthcegmijphbhgaaDoor
