/-
  LockOrder: the order in which those who wait stand. Each statement bears its own conditions.
-/
import Derived.Test.YtbnnpfhgpbaedaaLkK
namespace Go.Proofs.Ytbnnpfhgpbaedaa.K
open Go.RowKit
set_option linter.unusedVariables false
set_option linter.unusedSimpArgs false
/-- x stands ahead of y. -/
def Bf (x y : Int × Int) : Prop := y.2 < x.2 ∨ (y.2 = x.2 ∧ x.1 < y.1)
theorem plc_before {L : List (Int × Int)} {q : Int} {x : Int × Int} (h : x ∈ L.take (plc L q)) : q ≤ x.2 := by
  obtain ⟨i, hi⟩ := List.mem_iff_getElem?.1 h
  have hik : i < plc L q := by
    have := (List.getElem?_eq_some_iff.1 hi).1
    rw [List.length_take] at this; omega
  rw [List.getElem?_take_of_lt hik] at hi
  have hil := (List.getElem?_eq_some_iff.1 hi).1
  have := List.not_of_lt_findIdx (p := fun x : Int × Int => decide (x.2 < q)) (xs := L) (i := i) hik
  rw [(List.getElem?_eq_some_iff.1 hi).2] at this
  simp at this
  exact this
theorem plc_at {L : List (Int × Int)} {q : Int} (h : plc L q < L.length) : (L[plc L q]).2 < q := by
  have := List.findIdx_getElem (p := fun x : Int × Int => decide (x.2 < q)) (xs := L) (w := h)
  exact of_decide_eq_true this
theorem joinP_mem {L : List (Int × Int)} {id q : Int} {x : Int × Int} : x ∈ joinP L id q ↔ x = (id, q) ∨ x ∈ L := by
  unfold joinP
  rw [List.mem_append, List.mem_cons]
  have h := List.take_append_drop (plc L q) L
  constructor
  · rintro (h1 | h1 | h1)
    · exact .inr (List.mem_of_mem_take h1)
    · exact .inl h1
    · exact .inr (List.mem_of_mem_drop h1)
  · rintro (h1 | h1)
    · exact .inr (.inl h1)
    · rw [← h, List.mem_append] at h1
      rcases h1 with h1 | h1
      · exact .inl h1
      · exact .inr (.inr h1)
theorem joinP_srt {L : List (Int × Int)} {id q : Int} (h : L.Pairwise Bf) (hid : ∀ x ∈ L, x.1 < id) : (joinP L id q).Pairwise Bf := by
  unfold joinP
  have hs : (L.take (plc L q) ++ L.drop (plc L q)).Pairwise Bf := by rw [List.take_append_drop]; exact h
  rw [List.pairwise_append] at hs ⊢
  have hdrop : ∀ y ∈ L.drop (plc L q), y.2 < q := by
    intro y hy
    by_cases hlt : plc L q < L.length
    · have hd : L.drop (plc L q) = L[plc L q] :: L.drop (plc L q + 1) := List.drop_eq_getElem_cons hlt
      have h2 := hs.2.1
      rw [hd] at hy h2
      have h3 := plc_at hlt
      rcases List.mem_cons.1 hy with h4 | h4
      · rw [h4]; exact h3
      · rcases (List.pairwise_cons.1 h2).1 y h4 with h5 | h5 <;> omega
    · rw [List.drop_eq_nil_of_le (by omega)] at hy; cases hy
  refine ⟨hs.1, ?_, fun a ha b hb => ?_⟩
  · rw [List.pairwise_cons]
    exact ⟨fun y hy => .inl (hdrop y hy), hs.2.1⟩
  · rcases List.mem_cons.1 hb with h1 | h1
    · subst h1
      have h2 := plc_before ha
      have h3 := hid a (List.mem_of_mem_take ha)
      by_cases h4 : q = a.2
      · exact .inr ⟨h4, h3⟩
      · left; show q < a.2; omega
    · exact hs.2.2 a ha b h1
/-- The priority that a number has. -/
def prz (zs : List Int) (k : Int) : Int := 1 + (zs.getD k.toNat 0).tmod 63
/-- Those that wait, of the first j. -/
structure Srt (zs : List Int) (j : Nat) (L : List (Int × Int)) : Prop where
  srt : L.Pairwise Bf
  mem : ∀ x ∈ L, 0 ≤ x.1 ∧ x.1 < (j : Int) ∧ x.2 = prz zs x.1
theorem Srt.nil (zs : List Int) : Srt zs 0 [] := ⟨List.Pairwise.nil, fun x hx => by cases hx⟩
theorem Srt.join {zs : List Int} {j : Nat} {L : List (Int × Int)} (h : Srt zs j L) : Srt zs (j + 1) (joinP L (j : Int) (prz zs (j : Int))) := by
  refine ⟨joinP_srt h.srt (fun x hx => (h.mem x hx).2.1), fun x hx => ?_⟩
  rcases joinP_mem.1 hx with h1 | h1
  · subst h1
    exact ⟨by simp, by show (j : Int) < _; omega, rfl⟩
  · have := h.mem x h1
    exact ⟨this.1, by omega, this.2.2⟩
theorem Srt.tail {zs : List Int} {j : Nat} {x : Int × Int} {L : List (Int × Int)} (h : Srt zs j (x :: L)) : Srt zs j L := ⟨(List.pairwise_cons.1 h.srt).2, fun y hy => h.mem y (List.mem_cons_of_mem _ hy)⟩
theorem Srt.other {zs : List Int} {j : Nat} {x : Int × Int} {L : List (Int × Int)} (h : Srt zs j (x :: L)) : ∀ y ∈ L, y.1 ≠ x.1 := by
  intro y hy e
  have h1 := (List.pairwise_cons.1 h.srt).1 y hy
  have h2 := (h.mem y (List.mem_cons_of_mem _ hy)).2.2
  have h3 := (h.mem x (List.mem_cons_self ..)).2.2
  rw [e] at h2
  rcases h1 with h1 | h1 <;> omega
theorem noId_one {ws : Nat → List (Int × Int)} {id : Int} (h : ∀ x ∈ ws 0, x.1 ≠ id) : NoId ws 1 id := fun i hi x hx => by
  have : i = 0 := by omega
  subst this
  exact h x hx
end Go.Proofs.Ytbnnpfhgpbaedaa.K
