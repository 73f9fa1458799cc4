/-
  Lists of timers: what is true of them, whatever the memory. Each statement bears its own conditions.
-/
import Derived.Test.YtnobfmdjnldfpaaSpeaks
namespace Go.Proofs.Ytnobfmdjnldfpaa
open Go.RowKit
set_option linter.unusedVariables false
set_option linter.unusedSimpArgs false
/-- No id twice. -/
def Dst (L : List (Int × Int)) : Prop := (L.map Prod.fst).Nodup
theorem del_erase (L : List (Int × Int)) (id : Int) : del L id = L.eraseP (fun x => decide (x.1 = id)) := by
  unfold del pos
  induction L with
  | nil => simp
  | cons x L ih =>
    by_cases h : x.1 = id
    · simp [List.findIdx_cons, h]
    · simp only [List.findIdx_cons, List.eraseP_cons, h, decide_false, cond_false, List.length_cons]
      by_cases h2 : L.findIdx (fun x => decide (x.1 = id)) < L.length
      · rw [if_pos (by omega)]
        rw [if_pos h2] at ih
        simpa using ih
      · rw [if_neg (by omega)]
        rw [if_neg h2] at ih
        simpa using ih
theorem del_sub (L : List (Int × Int)) (id : Int) : (del L id).Sublist L := by rw [del_erase]; exact List.eraseP_sublist
theorem del_srt {L : List (Int × Int)} (h : Srt L) (id : Int) : Srt (del L id) := h.sublist (del_sub L id)
theorem del_dst {L : List (Int × Int)} (h : Dst L) (id : Int) : Dst (del L id) := List.Nodup.sublist ((del_sub L id).map _) h
theorem del_out {L : List (Int × Int)} (h : Dst L) (id : Int) : ∀ x ∈ del L id, x.1 ≠ id := by
  rw [del_erase]
  unfold Dst at h
  induction L with
  | nil => simp
  | cons x L ih =>
    rw [List.map_cons, List.nodup_cons] at h
    by_cases hx : x.1 = id
    · rw [List.eraseP_cons_of_pos (by simp [hx])]
      intro y hy e
      exact h.1 (by rw [hx, ← e]; exact List.mem_map_of_mem hy)
    · rw [List.eraseP_cons_of_neg (by simp [hx])]
      intro y hy
      rcases List.mem_cons.1 hy with rfl | hy
      · exact hx
      · exact ih h.2 y hy
theorem del_none {L : List (Int × Int)} {id : Int} (h : ∀ x ∈ L, x.1 ≠ id) : del L id = L := by
  rw [del_erase, List.eraseP_of_forall_not]
  intro x hx; simp [h x hx]
theorem cnt_cut {L : List (Int × Int)} (h : Srt L) (a : Int) : (∀ x ∈ L.take (cnt L a), x.2 ≤ a) ∧ (∀ x ∈ L.drop (cnt L a), a < x.2) := by
  unfold cnt
  induction L with
  | nil => simp
  | cons y L ih =>
    have h1 := (List.pairwise_cons.1 h).1
    have h2 := (List.pairwise_cons.1 h).2
    by_cases hy : y.2 ≤ a
    · rw [List.countP_cons_of_pos (by simp [hy])]
      obtain ⟨a1, a2⟩ := ih h2
      refine ⟨fun x hx => ?_, fun x hx => a2 x (by simpa using hx)⟩
      rw [List.take_succ_cons] at hx
      rcases List.mem_cons.1 hx with rfl | hx
      · exact hy
      · exact a1 x hx
    · have h0 : (y :: L).countP (fun x => decide (x.2 ≤ a)) = 0 := by
        rw [List.countP_eq_zero]
        intro x hx
        rcases List.mem_cons.1 hx with rfl | hx
        · simp [hy]
        · have := h1 x hx; simp; omega
      rw [h0]
      refine ⟨by simp, fun x hx => ?_⟩
      rcases List.mem_cons.1 (by simpa using hx) with rfl | hx
      · omega
      · have := h1 x hx; omega
theorem setL_srt {L : List (Int × Int)} (h : Srt L) (id at_ : Int) : Srt (setL L id at_) := by
  have hD := del_srt h id
  obtain ⟨c1, c2⟩ := cnt_cut hD at_
  unfold setL Srt
  refine List.pairwise_append.2 ⟨hD.sublist (List.take_sublist _ _), List.pairwise_cons.2 ⟨fun y hy => Int.le_of_lt (c2 y hy), hD.sublist (List.drop_sublist _ _)⟩, fun x hx y hy => ?_⟩
  rcases List.mem_cons.1 hy with rfl | hy
  · exact c1 x hx
  · exact Int.le_trans (c1 x hx) (Int.le_of_lt (c2 y hy))
theorem setL_perm (L : List (Int × Int)) (id at_ : Int) : (setL L id at_).Perm ((id, at_) :: del L id) := by
  unfold setL
  refine List.perm_middle.trans ?_
  rw [List.take_append_drop]
theorem setL_dst {L : List (Int × Int)} (h : Dst L) (id at_ : Int) : Dst (setL L id at_) := by
  unfold Dst
  rw [((setL_perm L id at_).map Prod.fst).nodup_iff, List.map_cons, List.nodup_cons]
  refine ⟨fun hm => ?_, del_dst h id⟩
  obtain ⟨x, hx, e⟩ := List.mem_map.1 hm
  exact del_out h id x hx e
theorem setL_len (L : List (Int × Int)) (id at_ : Int) : (setL L id at_).length ≤ L.length + 1 := by
  rw [(setL_perm L id at_).length_eq, List.length_cons]
  have := del_len L id; omega
theorem setL_again {L : List (Int × Int)} (h : Dst L) (id at_ : Int) : setL (del L id) id at_ = setL L id at_ := by
  unfold setL
  rw [del_none (del_out h id)]
theorem setL_at {L : List (Int × Int)} (h : Dst L) (id at_ : Int) : hasB (setL L id at_) id = true ∧ atV (setL L id at_) id = at_ := by
  have hp := setL_perm L id at_
  have hm : (id, at_) ∈ setL L id at_ := hp.mem_iff.2 (List.mem_cons_self)
  have hlt : pos (setL L id at_) id < (setL L id at_).length := List.findIdx_lt_length_of_exists ⟨_, hm, by simp⟩
  refine ⟨by unfold hasB; simp [hlt], ?_⟩
  unfold atV
  rw [if_pos hlt]
  have hg : (setL L id at_).getD (pos (setL L id at_) id) (0, 0) = (setL L id at_)[pos (setL L id at_) id] := by
    simp [List.getD_eq_getElem?_getD, List.getElem?_eq_getElem hlt]
  have h1 : (setL L id at_)[pos (setL L id at_) id].1 = id := by
    have := List.findIdx_getElem (xs := setL L id at_) (p := fun x : Int × Int => decide (x.1 = id)) (w := hlt)
    exact of_decide_eq_true this
  rw [hg]
  rcases List.mem_cons.1 (hp.mem_iff.1 (List.getElem_mem hlt)) with e | e
  · rw [e]
  · exact absurd h1 (del_out h id _ e)
end Go.Proofs.Ytnobfmdjnldfpaa
