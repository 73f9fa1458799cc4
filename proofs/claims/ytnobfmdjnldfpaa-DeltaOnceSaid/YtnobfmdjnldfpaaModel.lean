/-
  The reference's list and the timers': one is the other in order. Each statement bears its own conditions.
-/
import Derived.Test.YtnobfmdjnldfpaaOrd
namespace Go.Proofs.Ytnobfmdjnldfpaa
open Go.RowKit
set_option linter.unusedVariables false
set_option linter.unusedSimpArgs false
theorem ins_filter {D : List (Int × Int)} (h : Srt D) (x : Int × Int) (p : Int × Int → Bool) : (ins D x).filter p = if p x then ins (D.filter p) x else D.filter p := by
  obtain ⟨c1, c2⟩ := cnt_cut h x.2
  obtain ⟨A, hA⟩ : ∃ A, D.take (cnt D x.2) = A := ⟨_, rfl⟩
  obtain ⟨B, hB⟩ : ∃ B, D.drop (cnt D x.2) = B := ⟨_, rfl⟩
  have hD : D = A ++ B := by rw [← hA, ← hB, List.take_append_drop]
  unfold ins
  rw [hA] at c1 ⊢
  rw [hB] at c2 ⊢
  have hF : D.filter p = A.filter p ++ B.filter p := by rw [hD, List.filter_append]
  rw [List.filter_append]
  by_cases hp : p x = true
  · rw [if_pos hp, List.filter_cons_of_pos hp]
    have hc : cnt (D.filter p) x.2 = (A.filter p).length := by
      rw [hF]
      unfold cnt
      rw [List.countP_append, List.countP_eq_length.2 (fun y hy => by simpa using c1 y ((List.mem_filter.1 hy).1)), List.countP_eq_zero.2 (fun y hy => by have := c2 y ((List.mem_filter.1 hy).1); simp; omega)]
      rfl
    rw [hc, hF, List.take_left, List.drop_left]
  · rw [if_neg hp, List.filter_cons_of_neg hp, hF]
theorem ord_filter_take (m : List (Int × Int)) (p : Int × Int → Bool) : ∀ n, n ≤ m.length → ord ((m.take n).filter p) = (ord (m.take n)).filter p := by
  intro n
  induction n with
  | zero => intro _; simp [ord]
  | succ n ih =>
    intro h
    have hs := (ord_srt_len m n (by omega)).1
    rw [take_getD (by omega), List.filter_append, ord_app, ins_filter hs, ← ih (by omega)]
    by_cases hp : p (m.getD n (0, 0)) = true
    · rw [if_pos hp, List.filter_cons_of_pos hp, List.filter_nil, ord_app]
    · rw [if_neg hp, List.filter_cons_of_neg hp, List.filter_nil, List.append_nil]
theorem ord_filter (m : List (Int × Int)) (p : Int × Int → Bool) : ord (m.filter p) = (ord m).filter p := by
  have := ord_filter_take m p m.length (Nat.le_refl _)
  rwa [List.take_length] at this
theorem ord_srt (m : List (Int × Int)) : Srt (ord m) := by
  have := (ord_srt_len m m.length (Nat.le_refl _)).1
  rwa [List.take_length] at this
theorem ord_len (m : List (Int × Int)) : (ord m).length = m.length := by
  have := (ord_srt_len m m.length (Nat.le_refl _)).2
  rwa [List.take_length] at this
theorem ord_perm_take (m : List (Int × Int)) : ∀ n, n ≤ m.length → (ord (m.take n)).Perm (m.take n) := by
  intro n
  induction n with
  | zero => intro _; simp [ord]
  | succ n ih =>
    intro h
    rw [take_getD (by omega), ord_app]
    exact (ins_perm _ _).trans ((List.Perm.cons _ (ih (by omega))).trans (List.perm_append_singleton _ _).symm)
theorem ord_perm (m : List (Int × Int)) : (ord m).Perm m := by
  have := ord_perm_take m m.length (Nat.le_refl _)
  rwa [List.take_length] at this
theorem ord_dst {m : List (Int × Int)} : Dst (ord m) ↔ Dst m := ((ord_perm m).map Prod.fst).nodup_iff
theorem cut_dst {m : List (Int × Int)} (h : Dst m) (id : Int) : Dst (cut m id) := List.Nodup.sublist (List.filter_sublist.map _) h
theorem ord_cut {m : List (Int × Int)} (h : Dst m) (id : Int) : ord (cut m id) = del (ord m) id := by
  unfold cut
  rw [ord_filter, del_filter (ord_dst.2 h)]
theorem ord_mset {m : List (Int × Int)} (h : Dst m) (id at_ : Int) : ord (mset m id at_) = setL (ord m) id at_ := by
  unfold mset
  rw [ord_app, ord_cut h]; rfl
theorem mset_dst {m : List (Int × Int)} (h : Dst m) (id at_ : Int) : Dst (mset m id at_) := by
  rw [← ord_dst, ord_mset h]
  exact setL_dst (ord_dst.2 h) id at_
theorem bnd_ord {m : List (Int × Int)} : Bnd (ord m) ↔ Bnd m := ⟨fun h x hx => h x ((ord_perm m).mem_iff.2 hx), fun h x hx => h x ((ord_perm m).mem_iff.1 hx)⟩
/-- What is due, and what is left, of a list in order. -/
theorem take_filter {L : List (Int × Int)} (h : Srt L) (a : Int) : L.filter (fun x => decide (x.2 ≤ a)) = L.take (cnt L a) ∧ L.filter (fun x => decide (a < x.2)) = L.drop (cnt L a) := by
  obtain ⟨c1, c2⟩ := cnt_cut h a
  obtain ⟨A, hA⟩ : ∃ A, L.take (cnt L a) = A := ⟨_, rfl⟩
  obtain ⟨B, hB⟩ : ∃ B, L.drop (cnt L a) = B := ⟨_, rfl⟩
  have hD : L = A ++ B := by rw [← hA, ← hB, List.take_append_drop]
  rw [hA] at c1 ⊢
  rw [hB] at c2 ⊢
  rw [hD, List.filter_append, List.filter_append]
  refine ⟨?_, ?_⟩
  · rw [List.filter_eq_self.2 (fun x hx => by simpa using c1 x hx), List.filter_eq_nil_iff.2 (fun x hx => by have := c2 x hx; simp; omega), List.append_nil]
  · rw [List.filter_eq_nil_iff.2 (fun x hx => by have := c1 x hx; simp; omega), List.filter_eq_self.2 (fun x hx => by simpa using c2 x hx), List.nil_append]
theorem left_ord (m : List (Int × Int)) (a : Int) : ord (m.filter (fun x => decide (a < x.2))) = (ord m).drop (cnt (ord m) a) := by
  rw [ord_filter, (take_filter (ord_srt m) a).2]
/-- Where an id is, its time. -/
theorem at_mem {L : List (Int × Int)} (h : Dst L) {id a : Int} (hm : (id, a) ∈ L) : hasB L id = true ∧ atV L id = a := by
  have hlt : pos L id < L.length := List.findIdx_lt_length_of_exists ⟨_, hm, by simp⟩
  refine ⟨by unfold hasB; simp [hlt], ?_⟩
  unfold atV
  rw [if_pos hlt]
  have hg : L.getD (pos L id) (0, 0) = L[pos L id] := by simp [List.getD_eq_getElem?_getD, List.getElem?_eq_getElem hlt]
  have h1 : L[pos L id].1 = id := by
    have := List.findIdx_getElem (xs := L) (p := fun x : Int × Int => decide (x.1 = id)) (w := hlt)
    exact of_decide_eq_true this
  rw [hg]
  obtain ⟨i, hi, hL⟩ := List.mem_iff_getElem.1 hm
  have e : (L.map Prod.fst)[i]'(by simpa using hi) = (L.map Prod.fst)[pos L id]'(by simpa using hlt) := by
    rw [List.getElem_map, List.getElem_map, hL, h1]
  have hn := List.pairwise_iff_getElem.1 h
  have : i = pos L id := by
    rcases Nat.lt_trichotomy i (pos L id) with h3 | h3 | h3
    · exact absurd e (hn i (pos L id) (by simpa using hi) (by simpa using hlt) h3)
    · exact h3
    · exact absurd e.symm (hn (pos L id) i (by simpa using hlt) (by simpa using hi) h3)
  have h2 : L[pos L id] = (id, a) := by rw [← hL]; congr 1; exact this.symm
  rw [h2]
theorem at_ord {m : List (Int × Int)} (h : Dst m) (id : Int) : hasB (ord m) id = hasB m id ∧ atV (ord m) id = atV m id := by
  by_cases hx : ∃ a, (id, a) ∈ m
  · obtain ⟨a, ha⟩ := hx
    obtain ⟨x1, x2⟩ := at_mem h ha
    obtain ⟨y1, y2⟩ := at_mem (ord_dst.2 h) ((ord_perm m).mem_iff.2 ha)
    exact ⟨by rw [x1, y1], by rw [x2, y2]⟩
  · have f : ∀ L : List (Int × Int), (∀ x, x ∈ L → x ∈ m) → hasB L id = false ∧ atV L id = 0 := by
      intro L hL
      have h1 := hasB_none (L := L) (id := id) (fun x hm e => hx ⟨x.2, by have := hL x hm; rw [← e]; exact this⟩)
      refine ⟨h1, ?_⟩
      unfold atV
      unfold hasB at h1
      rw [if_neg (of_decide_eq_false h1)]
    obtain ⟨x1, x2⟩ := f m (fun x hx => hx)
    obtain ⟨y1, y2⟩ := f (ord m) (fun x hx => (ord_perm m).mem_iff.1 hx)
    exact ⟨by rw [x1, y1], by rw [x2, y2]⟩
end Go.Proofs.Ytnobfmdjnldfpaa
