/-
  Plain arithmetic of beats, continued: one tick more, and the first beginning from a tick on. No Go in sight; each statement bears its own conditions.
-/
import Derived.Test.YthcoldehpaambaaPlain
namespace Go.Proofs.Ythcoldehpaambaa

theorem ediv_succ {p E : Int} (hE : 1 ≤ E) : (p % E + 1 < E ∧ (p + 1) / E = p / E ∧ (p + 1) % E = p % E + 1) ∨ (p % E + 1 = E ∧ (p + 1) / E = p / E + 1 ∧ (p + 1) % E = 0) := by
  have m0 : 0 ≤ p % E := Int.emod_nonneg _ (by omega)
  have m1 : p % E < E := Int.emod_lt_of_pos _ (by omega)
  have e := Int.mul_ediv_add_emod p E
  obtain ⟨q, hq⟩ : ∃ q, p / E = q := ⟨_, rfl⟩
  obtain ⟨r, hr⟩ : ∃ r, p % E = r := ⟨_, rfl⟩
  rw [hq, hr] at e
  rw [hr] at m0 m1
  rw [hq, hr]
  by_cases h : r + 1 < E
  · left
    have : p + 1 = (r + 1) + E * q := by omega
    refine ⟨h, ?_, ?_⟩
    · rw [this, Int.add_mul_ediv_left _ _ (by omega), Int.ediv_eq_zero_of_lt (by omega) h]; omega
    · rw [this, Int.add_mul_emod_self_left, Int.emod_eq_of_lt (by omega) h]
  · right
    have : p + 1 = E * (q + 1) := by rw [Int.mul_add]; omega
    refine ⟨by omega, ?_, ?_⟩
    · rw [this, Int.mul_ediv_cancel_left _ (by omega)]
    · rw [this]; exact Int.mul_emod_right _ _

/-- One tick more: one of the beat more just if it is of the beat. -/
theorem before_step {F E L t : Int} (h : Ok F E L) : beforeT F E L (t + 1) = beforeT F E L t + if atB F E L t = true then 1 else 0 := by
  obtain ⟨_, _, a3, a4, a5, a6⟩ := h
  have m0 : 0 ≤ (t - F) % E := Int.emod_nonneg _ (by omega)
  have m1 : (t - F) % E < E := Int.emod_lt_of_pos _ (by omega)
  have e : t + 1 - F = (t - F) + 1 := by omega
  unfold beforeT atB
  simp only [Bool.and_eq_true, decide_eq_true_eq]
  by_cases c1 : t + 1 ≤ F
  · rw [if_pos c1, if_pos (by omega), if_neg (by omega)]; rfl
  · rw [if_neg c1, e]
    by_cases c2 : t ≤ F
    · obtain rfl : t = F := by omega
      rw [if_pos c2]
      have z : (t - t : Int) = 0 := by omega
      rw [z]
      simp only [Int.zero_emod, Int.le_refl, true_and, Int.zero_add]
      rw [if_pos (by omega)]
      by_cases hE : E = 1
      · subst hE
        obtain rfl : L = 1 := by omega
        simp
        omega
      · rw [Int.ediv_eq_zero_of_lt (by omega) (by omega), Int.emod_eq_of_lt (by omega) (by omega)]; omega
    · rw [if_neg c2]
      rcases ediv_succ (p := t - F) a3 with ⟨s1, s2, s3⟩ | ⟨s1, s2, s3⟩
      · rw [s2, s3]; split <;> omega
      · rw [s2, s3, Int.add_mul]; split <;> omega

/-- Does a span of the beat begin at t? -/
def begB (F E t : Int) : Bool := decide (F ≤ t) && decide ((t - F) % E = 0)

theorem beg_next {F E t : Int} (hE : 1 ≤ E) : begB F E (nextT F E t) = true := by
  obtain ⟨n1, n2, n3, n4⟩ := next_spec (F := F) (t := t) hE
  unfold begB
  simp only [Bool.and_eq_true, decide_eq_true_eq]
  exact ⟨n2, n3⟩

theorem beg_none {F E t x : Int} (hE : 1 ≤ E) (h1 : t ≤ x) (h2 : x < nextT F E t) : begB F E x = false := by
  obtain ⟨n1, n2, n3, n4⟩ := next_spec (F := F) (t := t) hE
  cases h : begB F E x with
  | false => rfl
  | true =>
    exfalso
    unfold begB at h
    simp only [Bool.and_eq_true, decide_eq_true_eq] at h
    obtain ⟨f, m⟩ := h
    obtain ⟨n, hn⟩ : ∃ n, nextT F E t = n := ⟨_, rfl⟩
    rw [hn] at h2 n1 n2 n3 n4
    rcases n4 with n4 | n4
    · omega
    · obtain ⟨i, hi⟩ := Int.dvd_of_emod_eq_zero m
      obtain ⟨j, hj⟩ := Int.dvd_of_emod_eq_zero n3
      have : n - x = E * (j - i) := by rw [Int.mul_sub]; omega
      rcases Int.lt_or_le 0 (j - i) with c | c
      · have := Int.mul_le_mul_of_nonneg_left (show 1 ≤ j - i by omega) (show 0 ≤ E by omega)
        omega
      · have := Int.mul_nonneg (show 0 ≤ E by omega) (show 0 ≤ -(j - i) by omega)
        rw [Int.mul_neg] at this
        omega
theorem next_bd {F E t : Int} (hE : 1 ≤ E) : t ≤ nextT F E t ∧ (nextT F E t ≤ F ∨ nextT F E t < t + E) := by
  obtain ⟨n1, n2, n3, n4⟩ := next_spec (F := F) (t := t) hE
  omega
end Go.Proofs.Ythcoldehpaambaa
