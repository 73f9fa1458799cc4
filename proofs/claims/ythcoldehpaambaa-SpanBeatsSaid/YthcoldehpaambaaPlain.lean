/-
  Plain arithmetic of beats: when two beats meet, and how many of a beat's ticks lie below a tick. No Go in sight; each statement bears its own conditions.
-/
import Derived.Test.YthcoldehpaambaaMeet
namespace Go.Proofs.Ythcoldehpaambaa

theorem bez (a b : Nat) : ∃ x y : Int, ((Nat.gcd a b : Nat) : Int) = (a : Int) * x + (b : Int) * y := by
  induction a, b using Nat.gcd.induction with
  | H0 n => exact ⟨0, 1, by simp⟩
  | H1 m n hm ih =>
    obtain ⟨x, y, h⟩ := ih
    refine ⟨y - ((n : Int) / (m : Int)) * x, x, ?_⟩
    rw [Nat.gcd_rec, h]
    have e : ((n % m : Nat) : Int) = (n : Int) - (m : Int) * ((n : Int) / (m : Int)) := by
      have := Int.mul_ediv_add_emod (n : Int) (m : Int)
      rw [Int.natCast_emod]; omega
    rw [e, Int.sub_mul, Int.mul_sub, Int.mul_assoc]
    omega

/-- A number that the common divisor divides is, but for a multiple of the one, a multiple of the other. -/
theorem bez_solve {E1 E2 d : Int} (h1 : 1 ≤ E1) (h2 : 1 ≤ E2) (hd : d % (Nat.gcd E1.natAbs E2.natAbs : Nat) = 0) : ∃ j : Int, (d + j * E2) % E1 = 0 := by
  obtain ⟨x, y, hxy⟩ := bez E1.natAbs E2.natAbs
  obtain ⟨k, hk⟩ := Int.dvd_of_emod_eq_zero hd
  have e1 : (E1.natAbs : Int) = E1 := by omega
  have e2 : (E2.natAbs : Int) = E2 := by omega
  rw [e1, e2] at hxy
  refine ⟨-(y * k), ?_⟩
  have : d + -(y * k) * E2 = E1 * (x * k) := by
    rw [hk, hxy, Int.add_mul, Int.neg_mul, Int.mul_assoc, Int.mul_assoc, Int.mul_comm (y * k) E2]; omega
  rw [this]
  exact Int.mul_emod_right _ _

theorem at_of {F E t u : Int} (hu0 : 0 ≤ u) (huE : u < E) (h : (t - F - u) % E = 0) : (t - F) % E = u := by
  obtain ⟨k, hk⟩ := Int.dvd_of_emod_eq_zero h
  have : t - F = u + E * k := by omega
  rw [this, Int.add_mul_emod_self_left, Int.emod_eq_of_lt hu0 huE]

/-- Two beats whose spans' places fit by the common divisor have a common tick in each row of so many ticks. -/
theorem common {aF aE bF bE u v fr : Int} (ha : 1 ≤ aE) (hb : 1 ≤ bE) (u0 : 0 ≤ u) (u1 : u < aE) (v0 : 0 ≤ v) (v1 : v < bE)
    (hd : (bF + v - aF - u) % (Nat.gcd aE.natAbs bE.natAbs : Nat) = 0) : ∃ t, fr ≤ t ∧ t < fr + aE * bE ∧ (t - aF) % aE = u ∧ (t - bF) % bE = v := by
  obtain ⟨j, hj⟩ := bez_solve ha hb hd
  have hpos : 0 < aE * bE := Int.mul_pos (by omega) (by omega)
  obtain ⟨q, hq⟩ : ∃ q, (bF + v + j * bE) - fr = (aE * bE) * q + ((bF + v + j * bE) - fr) % (aE * bE) := ⟨_, (Int.mul_ediv_add_emod _ _).symm⟩
  have m0 : 0 ≤ ((bF + v + j * bE) - fr) % (aE * bE) := Int.emod_nonneg _ (by omega)
  have m1 : ((bF + v + j * bE) - fr) % (aE * bE) < aE * bE := Int.emod_lt_of_pos _ hpos
  obtain ⟨r, hr⟩ : ∃ r, ((bF + v + j * bE) - fr) % (aE * bE) = r := ⟨_, rfl⟩
  rw [hr] at hq m0 m1
  refine ⟨fr + r, by omega, by omega, at_of u0 u1 ?_, at_of v0 v1 ?_⟩
  · have : fr + r - aF - u = (bF + v - aF - u + j * bE) - aE * (bE * q) := by rw [← Int.mul_assoc]; omega
    rw [this, Int.sub_mul_emod_self_left]
    exact hj
  · have : fr + r - bF - v = bE * (j - aE * q) := by
      rw [Int.mul_sub, Int.mul_comm bE j, ← Int.mul_assoc, Int.mul_comm bE aE]; omega
    rw [this]
    exact Int.mul_emod_right _ _

/-- Is t a tick of the beat? -/
def atB (F E L t : Int) : Bool := decide (F ≤ t) && decide ((t - F) % E < L)

theorem meet_no {aF aE aL bF bE bL t : Int} (ha : Ok aF aE aL) (hb : Ok bF bE bL) (h : meetB aF aE aL bF bE bL = false) : (atB aF aE aL t && atB bF bE bL t) = false := by
  obtain ⟨_, _, a3, a4, a5, a6⟩ := ha
  obtain ⟨_, _, b3, b4, b5, b6⟩ := hb
  unfold meetB at h
  obtain ⟨g1, _⟩ := gcd_bd (b := bE) a3 a4
  obtain ⟨ka, hka⟩ : ((Nat.gcd aE.natAbs bE.natAbs : Nat) : Int) ∣ aE := by have h := Int.ofNat_dvd.mpr (Nat.gcd_dvd_left aE.natAbs bE.natAbs); have e : (aE.natAbs : Int) = aE := (by omega); rwa [e] at h
  obtain ⟨kb, hkb⟩ : ((Nat.gcd aE.natAbs bE.natAbs : Nat) : Int) ∣ bE := by have h := Int.ofNat_dvd.mpr (Nat.gcd_dvd_right aE.natAbs bE.natAbs); have e : (bE.natAbs : Int) = bE := (by omega); rwa [e] at h
  obtain ⟨g, hg⟩ : ∃ g : Int, ((Nat.gcd aE.natAbs bE.natAbs : Nat) : Int) = g := ⟨_, rfl⟩
  rw [hg] at h g1 hka hkb
  simp only [Bool.or_eq_false_iff, decide_eq_false_iff_not] at h
  obtain ⟨h1, h2⟩ := h
  cases hA : (atB aF aE aL t && atB bF bE bL t) with
  | false => rfl
  | true =>
    exfalso
    simp only [atB, Bool.and_eq_true, decide_eq_true_eq] at hA
    obtain ⟨⟨_, hu⟩, _, hv⟩ := hA
    have u0 : 0 ≤ (t - aF) % aE := Int.emod_nonneg _ (by omega)
    have v0 : 0 ≤ (t - bF) % bE := Int.emod_nonneg _ (by omega)
    have eu := Int.mul_ediv_add_emod (t - aF) aE
    have ev := Int.mul_ediv_add_emod (t - bF) bE
    obtain ⟨u, hu'⟩ : ∃ u, (t - aF) % aE = u := ⟨_, rfl⟩
    obtain ⟨v, hv'⟩ : ∃ v, (t - bF) % bE = v := ⟨_, rfl⟩
    obtain ⟨i, hi⟩ : ∃ i, (t - aF) / aE = i := ⟨_, rfl⟩
    obtain ⟨j, hj⟩ : ∃ j, (t - bF) / bE = j := ⟨_, rfl⟩
    rw [hu'] at hu u0 eu
    rw [hv'] at hv v0 ev
    rw [hi] at eu
    rw [hj] at ev
    have er := Int.mul_ediv_add_emod (bF - aF) g
    have r0 : 0 ≤ (bF - aF) % g := Int.emod_nonneg _ (by omega)
    have r1 : (bF - aF) % g < g := Int.emod_lt_of_pos _ (by omega)
    obtain ⟨r, hr⟩ : ∃ r, (bF - aF) % g = r := ⟨_, rfl⟩
    obtain ⟨q, hq⟩ : ∃ q, (bF - aF) / g = q := ⟨_, rfl⟩
    rw [hr] at er r0 r1 h1 h2
    rw [hq] at er
    -- u - v - r is a multiple of g
    have key : u - v - r = g * (q - ka * i + kb * j) := by
      have e1 : aE * i = g * (ka * i) := by rw [← Int.mul_assoc, ← hka]
      have e2 : bE * j = g * (kb * j) := by rw [← Int.mul_assoc, ← hkb]
      rw [Int.mul_add, Int.mul_sub]; omega
    obtain ⟨m, hm⟩ : ∃ m, q - ka * i + kb * j = m := ⟨_, rfl⟩
    rw [hm] at key
    rcases Int.lt_or_le m 0 with hneg | hpos
    · have : g * m ≤ g * (-1) := Int.mul_le_mul_of_nonneg_left (by omega) (by omega)
      omega
    · have : 0 ≤ g * m := Int.mul_nonneg (by omega) hpos
      omega

theorem meet_yes {aF aE aL bF bE bL : Int} (ha : Ok aF aE aL) (hb : Ok bF bE bL) (fr : Int) (f1 : aF ≤ fr) (f2 : bF ≤ fr) (h : meetB aF aE aL bF bE bL = true) : ∃ t, fr ≤ t ∧ t < fr + aE * bE ∧ (atB aF aE aL t && atB bF bE bL t) = true := by
  obtain ⟨_, _, a3, a4, a5, a6⟩ := ha
  obtain ⟨_, _, b3, b4, b5, b6⟩ := hb
  obtain ⟨g1, _⟩ := gcd_bd (b := bE) a3 a4
  have ga : (Nat.gcd aE.natAbs bE.natAbs : Int) ≤ aE := by have := Nat.gcd_le_left (m := aE.natAbs) bE.natAbs (by omega); omega
  have gb : (Nat.gcd aE.natAbs bE.natAbs : Int) ≤ bE := by have := Nat.gcd_le_right (m := aE.natAbs) (n := bE.natAbs) (by omega); omega
  unfold meetB at h
  have hc := @common aF aE bF bE
  obtain ⟨g, hg⟩ : ∃ g : Int, ((Nat.gcd aE.natAbs bE.natAbs : Nat) : Int) = g := ⟨_, rfl⟩
  rw [hg] at h g1 hc ga gb
  have er := Int.mul_ediv_add_emod (bF - aF) g
  have r0 : 0 ≤ (bF - aF) % g := Int.emod_nonneg _ (by omega)
  have r1 : (bF - aF) % g < g := Int.emod_lt_of_pos _ (by omega)
  obtain ⟨r, hr⟩ : ∃ r, (bF - aF) % g = r := ⟨_, rfl⟩
  rw [hr] at er r0 r1 h
  simp only [Bool.or_eq_true, decide_eq_true_eq] at h
  rcases h with h | h
  · obtain ⟨t, t1, t2, t3, t4⟩ := hc (u := r) (v := 0) (fr := fr) a3 b3 r0 (by omega) (by omega) (by omega) (by
      have : bF + 0 - aF - r = g * ((bF - aF) / g) := by omega
      rw [this]; exact Int.mul_emod_right _ _)
    exact ⟨t, t1, t2, by simp only [atB, Bool.and_eq_true, decide_eq_true_eq]; omega⟩
  · by_cases hz : r = 0
    · obtain ⟨t, t1, t2, t3, t4⟩ := hc (u := 0) (v := 0) (fr := fr) a3 b3 (by omega) (by omega) (by omega) (by omega) (by
        have : bF + 0 - aF - 0 = g * ((bF - aF) / g) := by omega
        rw [this]; exact Int.mul_emod_right _ _)
      exact ⟨t, t1, t2, by simp only [atB, Bool.and_eq_true, decide_eq_true_eq]; omega⟩
    · obtain ⟨t, t1, t2, t3, t4⟩ := hc (u := 0) (v := g - r) (fr := fr) a3 b3 (by omega) (by omega) (by omega) (by omega) (by
        have : bF + (g - r) - aF - 0 = g * ((bF - aF) / g + 1) := by rw [Int.mul_add]; omega
        rw [this]; exact Int.mul_emod_right _ _)
      exact ⟨t, t1, t2, by simp only [atB, Bool.and_eq_true, decide_eq_true_eq]; omega⟩

theorem meet_self {F E L : Int} (h : Ok F E L) : meetB F E L F E L = true := by
  obtain ⟨_, _, _, _, a5, _⟩ := h
  unfold meetB
  simp
  omega

theorem meet_comm {aF aE aL bF bE bL : Int} (ha : Ok aF aE aL) (hb : Ok bF bE bL) : meetB bF bE bL aF aE aL = meetB aF aE aL bF bE bL := by
  cases h1 : meetB aF aE aL bF bE bL with
  | true =>
    cases h2 : meetB bF bE bL aF aE aL with
    | true => rfl
    | false =>
      obtain ⟨t, _, _, ht⟩ := meet_yes ha hb (max aF bF) (by omega) (by omega) h1
      have := meet_no hb ha h2 (t := t)
      rw [Bool.and_comm, ht] at this
      exact absurd this (by simp)
  | false =>
    cases h2 : meetB bF bE bL aF aE aL with
    | false => rfl
    | true =>
      obtain ⟨t, _, _, ht⟩ := meet_yes hb ha (max aF bF) (by omega) (by omega) h2
      have := meet_no ha hb h1 (t := t)
      rw [Bool.and_comm, ht] at this
      exact absurd this (by simp)

/-- More ticks: no fewer of them are of a beat, and no more of them than there are. -/
theorem before_mono {F E L s t : Int} (h : Ok F E L) (hst : s ≤ t) : beforeT F E L s ≤ beforeT F E L t ∧ beforeT F E L t - beforeT F E L s ≤ t - s := by
  have hs := beforeT_bd s h
  have ht := beforeT_bd t h
  by_cases c1 : s ≤ F
  · have := hs.2.2 c1
    by_cases c2 : t ≤ F
    · have := ht.2.2 c2; omega
    · have := ht.2.1 (by omega); omega
  · obtain ⟨_, _, a3, a4, a5, a6⟩ := h
    unfold beforeT
    rw [if_neg c1, if_neg (by omega)]
    obtain ⟨p, hp⟩ : ∃ p, s - F = p := ⟨_, rfl⟩
    obtain ⟨p', hp'⟩ : ∃ p', t - F = p' := ⟨_, rfl⟩
    rw [hp, hp']
    have e := Int.mul_ediv_add_emod p E
    have e' := Int.mul_ediv_add_emod p' E
    have m0 : 0 ≤ p % E := Int.emod_nonneg _ (by omega)
    have m1 : p % E < E := Int.emod_lt_of_pos _ (by omega)
    have m0' : 0 ≤ p' % E := Int.emod_nonneg _ (by omega)
    have m1' : p' % E < E := Int.emod_lt_of_pos _ (by omega)
    have hq : p / E ≤ p' / E := Int.ediv_le_ediv (by omega) (by omega)
    obtain ⟨d, hd⟩ : ∃ d, p' / E = p / E + d := ⟨p' / E - p / E, by omega⟩
    rw [hd] at e' ⊢
    rw [Int.mul_add] at e'
    rw [Int.add_mul]
    have hd0 : 0 ≤ d := by omega
    by_cases hdz : d = 0
    · subst hdz; omega
    · have k1 : L ≤ d * L := by have := Int.mul_le_mul_of_nonneg_right (show 1 ≤ d by omega) (show 0 ≤ L by omega); omega
      have k2 : E - L ≤ d * (E - L) := by have := Int.mul_le_mul_of_nonneg_right (show 1 ≤ d by omega) (show 0 ≤ E - L by omega); omega
      rw [Int.mul_sub, Int.mul_comm d E] at k2
      omega

theorem before_shift (F E L t y : Int) : beforeT (F + y) E L (t + y) = beforeT F E L t := by
  have e : t + y - (F + y) = t - F := by omega
  unfold beforeT
  rw [e]
  by_cases h : t ≤ F
  · rw [if_pos h, if_pos (by omega)]
  · rw [if_neg h, if_neg (by omega)]

theorem next_shift (F E t y : Int) : nextT (F + y) E (t + y) = nextT F E t + y := by
  have e : t + y - (F + y) = t - F := by omega
  unfold nextT
  rw [e]
  by_cases h : t ≤ F
  · rw [if_pos h, if_pos (by omega)]
  · rw [if_neg h, if_neg (by omega)]
    split <;> omega

theorem next_spec {F E t : Int} (hE : 1 ≤ E) : t ≤ nextT F E t ∧ F ≤ nextT F E t ∧ (nextT F E t - F) % E = 0 ∧ (nextT F E t = F ∨ nextT F E t - E < t) := by
  have m0 : 0 ≤ (t - F) % E := Int.emod_nonneg _ (by omega)
  have m1 : (t - F) % E < E := Int.emod_lt_of_pos _ (by omega)
  unfold nextT
  by_cases h : t ≤ F
  · rw [if_pos h]; simp; omega
  · rw [if_neg h]
    by_cases h2 : (t - F) % E = 0
    · rw [if_pos h2]; omega
    · rw [if_neg h2]
      refine ⟨by omega, by omega, ?_, by omega⟩
      have e := Int.mul_ediv_add_emod (t - F) E
      have : t - (t - F) % E + E - F = E * ((t - F) / E + 1) := by rw [Int.mul_add]; omega
      rw [this]
      exact Int.mul_emod_right _ _
end Go.Proofs.Ythcoldehpaambaa
