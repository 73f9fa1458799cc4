/-
  What is put is read: of lists of numbers, without code. Each statement bears its own conditions.
-/
import Derived.Test.YthcegmijphbhgaaDoorKinds
namespace Go.Proofs.YthcegmijphbhgaaDoor
open Go.RowKit
set_option linter.unusedSimpArgs false
set_option linter.unusedVariables false
theorem lead_app (A : List Int) (x : Int) (R : List Int) (hA : ∀ u ∈ A, 128 ≤ u) (hx : x < 128) : lead (A ++ x :: R) = A.length := by
  induction A with
  | nil => simp [lead, hx]
  | cons a A ih =>
    have ha := hA a (by simp)
    have := ih (fun u hu => hA u (by simp [hu]))
    simp only [List.cons_append, lead, List.length_cons]
    rw [if_neg (by omega), this]
theorem restB_ge : ∀ q, ∀ u ∈ restB q, 128 ≤ u := by
  intro q
  induction q using Nat.strongRecOn with
  | _ q ih =>
    intro u hu
    by_cases h : q = 0
    · subst h; rw [restB_zero] at hu; cases hu
    · rw [restB_pos h, List.mem_append, List.mem_singleton] at hu
      rcases hu with hu | hu
      · exact ih (q / 128) (by omega) u hu
      · omega
theorem restB_acc : ∀ q, q < 144115188075855872 → accW (restB q) = (q : Int) := by
  intro q
  induction q using Nat.strongRecOn with
  | _ q ih =>
    intro hq
    by_cases h : q = 0
    · subst h; rw [restB_zero]; rfl
    · rw [restB_pos h, accW_snoc, ih (q / 128) (by omega) (by omega)]; omega
/-- The first byte: more than 128; and at nine bytes no more than 129. -/
theorem restB_head : ∀ q D, restB q ≠ [] → (restB q).length = D + 1 → (restB q).headD 0 = 128 + (q : Int) / 128 ^ D ∧ (1 : Int) ≤ (q : Int) / 128 ^ D := by
  intro q
  induction q using Nat.strongRecOn with
  | _ q ih =>
    intro D hne hl
    have h : q ≠ 0 := fun h => by subst h; rw [restB_zero] at hne; exact hne rfl
    rw [restB_pos h] at hl ⊢
    by_cases h1 : q / 128 = 0
    · rw [h1, restB_zero] at hl ⊢
      have hD : D = 0 := by simp at hl; omega
      subst hD
      simp only [List.nil_append, List.headD_cons, Int.pow_zero]
      omega
    · have hne1 : restB (q / 128) ≠ [] := by rw [restB_pos h1]; simp
      obtain ⟨D', rfl⟩ : ∃ D', D = D' + 1 := by
        rcases Nat.eq_zero_or_pos D with hD | hD
        · have := List.length_pos_iff.2 hne1; simp at hl; omega
        · exact ⟨D - 1, by omega⟩
      have := ih (q / 128) (by omega) D' hne1 (by simp at hl; omega)
      have hh : (restB (q / 128) ++ [((128 + q % 128 : Nat) : Int)]).headD 0 = (restB (q / 128)).headD 0 := by
        cases hx : restB (q / 128) with
        | nil => exact absurd hx hne1
        | cons a b => rfl
      rw [hh]
      have e : (q : Int) / 128 ^ (D' + 1) = ((q / 128 : Nat) : Int) / 128 ^ D' := by
        rw [Int.pow_succ, Int.mul_comm, ← Int.ediv_ediv_of_nonneg (by omega)]; rfl
      rw [e]; exact this
theorem varB_num (m : Nat) (hm : m < 18446744073709551616) (R : List Int) : numV (varB m ++ R) = (m : Int) ∧ numK (varB m ++ R) = (varB m).length ∧ numR (varB m ++ R) = 0 := by
  have hv := varB_rest m hm
  have hlen := varB_len m hm
  rw [← hv] at hlen ⊢
  obtain ⟨A, hA⟩ : ∃ A, restB (m / 128) = A := ⟨_, rfl⟩
  have hge := restB_ge (m / 128)
  have hacc := restB_acc (m / 128) (by omega)
  have hhd := restB_head (m / 128)
  rw [hA] at hlen hge hacc hhd ⊢
  have hx : ((m % 128 : Nat) : Int) < 128 := by omega
  have hassoc : A ++ [((m % 128 : Nat) : Int)] ++ R = A ++ ((m % 128 : Nat) : Int) :: R := by simp
  rw [hassoc]
  have hl := lead_app A ((m % 128 : Nat) : Int) R hge hx
  have hA9 : A.length ≤ 9 := by simp at hlen; omega
  have hhead : (A ++ ((m % 128 : Nat) : Int) :: R).headD 0 ≠ 128 ∧ (A.length = 9 → (A ++ ((m % 128 : Nat) : Int) :: R).headD 0 ≤ 129) := by
    cases hc : A with
    | nil => simp; omega
    | cons a b =>
      have hne : A ≠ [] := by rw [hc]; simp
      obtain ⟨D, hD⟩ : ∃ D, A.length = D + 1 := ⟨A.length - 1, by have := List.length_pos_iff.2 hne; omega⟩
      obtain ⟨h1, h2⟩ := hhd D hne hD
      rw [hc] at h1
      simp only [List.headD_cons, List.cons_append] at h1 ⊢
      refine ⟨by omega, fun h9 => ?_⟩
      have : D = 8 := by rw [hc] at hD; omega
      subst this
      have : ((m / 128 : Nat) : Int) / 128 ^ 8 ≤ 1 := by omega
      omega
  have hneg : ¬ (10 ≤ A.length ∨ A.length = (A ++ ((m % 128 : Nat) : Int) :: R).length ∨ (A ++ ((m % 128 : Nat) : Int) :: R).headD 0 = 128 ∨ (A.length = 9 ∧ 129 < (A ++ ((m % 128 : Nat) : Int) :: R).headD 0)) := by
    rintro (h | h | h | ⟨h1, h2⟩)
    · omega
    · simp at h
    · exact hhead.1 h
    · have := hhead.2 h1; omega
  refine ⟨?_, ?_, ?_⟩
  · unfold numV
    rw [hl, if_neg hneg]
    have : (A ++ ((m % 128 : Nat) : Int) :: R).take (A.length + 1) = A ++ [((m % 128 : Nat) : Int)] := by
      rw [show A ++ ((m % 128 : Nat) : Int) :: R = (A ++ [((m % 128 : Nat) : Int)]) ++ R by simp]
      exact List.take_left' (by simp)
    rw [this, accW_snoc, hacc]; omega
  · unfold numK
    rw [hl, if_neg hneg]; simp
  · unfold numR
    rw [hl, if_neg (fun h => hneg (.inr (.inl h.2))), if_neg (fun h => hneg (by rcases h with h | h | h; exact .inl h; exact .inr (.inr (.inl h)); exact .inr (.inr (.inr h))))]
theorem varB_bound (m : Nat) (M : Int) (hm : m < 18446744073709551616) (hM : (m : Int) ≤ M) (R : List Int) : boundV M (varB m ++ R) = (m : Int) ∧ boundK M (varB m ++ R) = (varB m).length ∧ boundR M (varB m ++ R) = 0 := by
  obtain ⟨h1, h2, h3⟩ := varB_num m hm R
  have hn : ¬ (numR (varB m ++ R) = 0 ∧ M < numV (varB m ++ R)) := by rw [h1]; omega
  exact ⟨by rw [boundV, if_neg hn, h1], by rw [boundK, if_neg hn, h2], by rw [boundR, if_neg hn, h3]⟩
theorem strOf_sB (s : ByteArray) : strOfNums (sB s) = s := by
  unfold strOfNums sB
  rw [List.map_map]
  have : ((fun n : Int => UInt8.ofNat n.toNat) ∘ fun b : UInt8 => (b.toNat : Int)) = id := by
    funext b; simp
  rw [this, List.map_id]
theorem text_back (s : ByteArray) (M : Int) (hs : s.size ≤ 1048576) (hM : (s.size : Int) ≤ M) (R : List Int) :
    textV M (varB s.size ++ sB s ++ R) = s ∧ textK M (varB s.size ++ sB s ++ R) = (varB s.size).length + s.size ∧ textR M (varB s.size ++ sB s ++ R) = 0 := by
  obtain ⟨h1, h2, h3⟩ := varB_bound s.size (mostM M) (by omega) (by unfold mostM; omega) (sB s ++ R)
  rw [← List.append_assoc] at h1 h2 h3
  have hr : textR M (varB s.size ++ sB s ++ R) = 0 := by
    unfold textR
    rw [h1, h2, h3, if_neg (by simp), if_neg]
    simp [sB_len]; omega
  refine ⟨?_, ?_, hr⟩
  · unfold textV textL
    rw [if_pos hr, h1, h2, List.append_assoc, List.drop_left, Int.toNat_natCast]
    rw [List.take_left' (sB_len s)]
    exact strOf_sB s
  · unfold textK
    rw [if_pos hr, h1, h2, Int.toNat_natCast]
theorem word_again (x : Int) (x0 : 0 ≤ x) (x1 : x ≤ 4294967295) (R : List Int) : wordV (wordB x ++ R) = x := by
  unfold wordV wordB
  simp [List.getD]
  omega
/-- Lists one behind the other. -/
def catF (f : Nat → List Int) : Nat → List Int
  | 0 => []
  | i + 1 => catF f i ++ f i
theorem catF_split (f : Nat → List Int) (i k : Nat) (h : i < k) : ∃ R, catF f k = catF f i ++ (f i ++ R) := by
  induction k with
  | zero => omega
  | succ k ih =>
    by_cases e : i = k
    · subst e; exact ⟨[], by simp [catF]⟩
    · obtain ⟨R, hR⟩ := ih (by omega)
      exact ⟨R ++ f k, by rw [catF, hR]; simp⟩
theorem catF_len (f : Nat → List Int) (B : Nat) (h : ∀ i, (f i).length ≤ B) (k : Nat) : (catF f k).length ≤ B * k := by
  induction k with
  | zero => simp [catF]
  | succ k ih => rw [catF, List.length_append, Nat.mul_succ]; have := h k; omega
theorem bytes_app {a b : List Int} (ha : ∀ u ∈ a, 0 ≤ u ∧ u ≤ 255) (hb : ∀ u ∈ b, 0 ≤ u ∧ u ≤ 255) : ∀ u ∈ a ++ b, 0 ≤ u ∧ u ≤ 255 := fun u hu => by
  rcases List.mem_append.1 hu with h | h
  · exact ha u h
  · exact hb u h
theorem catF_bytes (f : Nat → List Int) (h : ∀ i, ∀ u ∈ f i, 0 ≤ u ∧ u ≤ 255) (k : Nat) : ∀ u ∈ catF f k, 0 ≤ u ∧ u ≤ 255 := by
  induction k with
  | zero => intro u hu; cases hu
  | succ k ih => exact bytes_app ih (h k)
theorem bytes_mem {l : List Int} (h : ∀ u ∈ l, 0 ≤ u ∧ u ≤ 255) : Bytes l := fun i hi => by
  rw [List.getD_eq_getElem?_getD, List.getElem?_eq_getElem hi]
  exact h _ (List.getElem_mem hi)
theorem restB_le : ∀ q, ∀ u ∈ restB q, 0 ≤ u ∧ u ≤ 255 := by
  intro q
  induction q using Nat.strongRecOn with
  | _ q ih =>
    intro u hu
    by_cases h : q = 0
    · subst h; rw [restB_zero] at hu; cases hu
    · rw [restB_pos h, List.mem_append, List.mem_singleton] at hu
      rcases hu with hu | hu
      · exact ih (q / 128) (by omega) u hu
      · omega
theorem varB_mem (m : Nat) (hm : m < 18446744073709551616) : ∀ u ∈ varB m, 0 ≤ u ∧ u ≤ 255 := by
  rw [← varB_rest m hm]
  refine bytes_app (restB_le _) fun u hu => ?_
  rw [List.mem_singleton] at hu; omega
theorem sB_mem (s : ByteArray) : ∀ u ∈ sB s, 0 ≤ u ∧ u ≤ 255 := by
  intro u hu
  unfold sB at hu
  obtain ⟨b, _, rfl⟩ := List.mem_map.1 hu
  have := b.toNat_lt; omega
theorem wordB_mem (x : Int) (x0 : 0 ≤ x) (x1 : x ≤ 4294967295) : ∀ u ∈ wordB x, 0 ≤ u ∧ u ≤ 255 := by
  intro u hu
  simp [wordB] at hu
  omega
end Go.Proofs.YthcegmijphbhgaaDoor
