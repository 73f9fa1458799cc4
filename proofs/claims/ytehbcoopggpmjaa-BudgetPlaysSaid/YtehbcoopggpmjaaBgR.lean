/-
  What the reference keeps, beside the server's state. Each statement bears its own conditions.
-/
import Derived.Test.YtehbcoopggpmjaaBgC
namespace Go.Proofs.Ytehbcoopggpmjaa.Bg
open Go.RowKit Go.Proofs.Ytehbcoopggpmjaa.F
set_option linter.unusedVariables false
set_option linter.unusedSimpArgs false
/-- One step of the sum of the last period. -/
def fl (x c : Int × Int) : Int × Int := if x.1 = c.1 then (x.1, x.2 + c.2) else (c.1, c.2)
/-- What was charged in a period. -/
def sumQ (q : Int) : List (Int × Int) → Int
  | [] => 0
  | c :: r => (if c.1 = q then c.2 else 0) + sumQ q r
theorem sumQ_app (q : Int) (a b : List (Int × Int)) : sumQ q (a ++ b) = sumQ q a + sumQ q b := by
  induction a with
  | nil => simp [sumQ]
  | cons c r ih => simp only [List.cons_append, sumQ, ih]; omega
/-- What is charged, in order. -/
structure RelS (s : Sv) (L : List (Int × Int)) : Prop where
  pos : ∀ c ∈ L, 1 ≤ c.2 ∧ c.2 ≤ 1048576
  fold : L.foldl fl (0, 0) = (s.last, s.used)
  pre : ∀ j, 0 ≤ ((L.take j).foldl fl (0, 0)).2 ∧ ((L.take j).foldl fl (0, 0)).2 ≤ 1048576
  sum : ∀ q, s.last ≤ q → sumQ q L = if q = s.last then s.used else 0
  last : ∀ c, L[L.length - 1]? = some c → c.1 = s.last
  nil : L = [] → s.last = 0 ∧ s.used = 0
  some_ : ¬ L = [] → 0 < s.used
theorem RelS.new (z p f : Int) : RelS ⟨z, p, f, 0, 0⟩ [] :=
  ⟨by simp, rfl, fun j => by simp, fun q _ => by simp [sumQ], fun c h => by simp at h, fun _ => ⟨rfl, rfl⟩, fun h => absurd rfl h⟩
theorem sumQ_nonneg {L : List (Int × Int)} (h : ∀ c ∈ L, 1 ≤ c.2) (q : Int) : 0 ≤ sumQ q L := by
  induction L with
  | nil => simp [sumQ]
  | cons c r ih =>
    have h1 := h c (by simp)
    have h2 := ih (fun d hd => h d (by simp [hd]))
    unfold sumQ
    split <;> omega
theorem sumQ_take_le {L : List (Int × Int)} (h : ∀ c ∈ L, 1 ≤ c.2) (q : Int) (j : Nat) : 0 ≤ sumQ q (L.take j) ∧ sumQ q (L.take j) ≤ sumQ q L := by
  have h1 := sumQ_nonneg (L := L.take j) (fun c hc => h c (List.mem_of_mem_take hc)) q
  have h2 := sumQ_nonneg (L := L.drop j) (fun c hc => h c (List.mem_of_mem_drop hc)) q
  have h3 := sumQ_app q (L.take j) (L.drop j)
  rw [List.take_append_drop] at h3
  omega
theorem take_step {L : List (Int × Int)} {j : Nat} {c : Int × Int} (h : L[j]? = some c) : L.take (j + 1) = L.take j ++ [c] := by
  rw [List.take_add_one, h]; rfl
/-- One more charge. -/
theorem RelS.more {s : Sv} {L : List (Int × Int)} (h : RelS s L) {q n : Int} (hq : s.last ≤ q) (hn : 1 ≤ n) (hk : (useS s q n).ok) (hz : s.ok) : RelS (useS s q n) (L ++ [(q, n)]) := by
  have hu := hk.us
  have hs1 : (useS s q n).size = s.size := by unfold useS; split <;> rfl
  have hsz : s.size ≤ 1048576 := by have := hz.sp; have := hz.pm; omega
  have hpos := h.pos
  have e1 : (useS s q n).last = q := by
    unfold useS
    split
    · rename_i e; exact e.symm
    · rfl
  have e2 : (useS s q n).used = (if q = s.last then s.used + n else n) := by
    unfold useS
    split <;> rfl
  have hn1 : n ≤ 1048576 := by
    rw [hs1, e2] at hu
    have := hz.u0
    split at hu <;> omega
  have hf : (L ++ [(q, n)]).foldl fl (0, 0) = ((useS s q n).last, (useS s q n).used) := by
    rw [List.foldl_append, h.fold, e1, e2]
    show fl (s.last, s.used) (q, n) = _
    unfold fl
    simp only
    by_cases e : q = s.last
    · rw [if_pos e.symm, if_pos e, e]
    · rw [if_neg (fun x => e x.symm), if_neg e]
  refine ⟨?_, hf, fun j => ?_, fun q' hq' => ?_, fun c hc => ?_, fun h0 => ?_, fun _ => ?_⟩
  · intro c hc
    rcases List.mem_append.1 hc with h1 | h1
    · exact hpos c h1
    · simp at h1; subst h1; exact ⟨hn, hn1⟩
  · by_cases hj : j ≤ L.length
    · rw [List.take_append_of_le_length hj]; exact h.pre j
    · rw [List.take_of_length_le (by simp; omega), hf]
      show 0 ≤ (useS s q n).used ∧ (useS s q n).used ≤ 1048576
      rw [hs1] at hu
      exact ⟨hk.u0, by omega⟩
  · rw [e1] at hq' ⊢
    rw [sumQ_app, h.sum q' (by omega), e2]
    simp only [sumQ]
    by_cases e : q' = q
    · subst e; simp; split <;> omega
    · have e4 : ¬ q = q' := fun x => e x.symm
      rw [if_neg e, if_neg e4]
      by_cases e3 : q' = s.last
      · exfalso; omega
      · rw [if_neg e3]; omega
  · rw [e1]
    simp at hc
    rw [← hc]
  · simp at h0
  · rw [e2]
    have := hz.u0
    split <;> omega
/-- How many ticks may be run. -/
theorem RelS.left {s : Sv} {L : List (Int × Int)} (h : RelS s L) (hz : s.ok) {t : Int} (ht : hasP s t) (hq : s.last ≤ whV s t) :
    leftV s t = min (s.size - sumQ (whV s t) L) (nextV s t - t) := by
  unfold leftV
  rw [if_neg (fun e => e ht), if_neg (by omega), h.sum _ hq]
  split
  · rfl
  · rw [Int.sub_zero]
theorem RelS.may {s : Sv} {L : List (Int × Int)} (h : RelS s L) (hz : s.ok) {t : Int} (ht : hasP s t) : (L = [] ∨ s.last ≤ whV s t) ↔ s.last ≤ whV s t := by
  constructor
  · rintro (e | e)
    · rw [(h.nil e).1]; exact (wh_facts hz ht).1
    · exact e
  · exact .inr
end Go.Proofs.Ytehbcoopggpmjaa.Bg
