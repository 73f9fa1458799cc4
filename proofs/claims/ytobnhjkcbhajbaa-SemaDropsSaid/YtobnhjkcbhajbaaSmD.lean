/-
  The example. Each statement bears its own conditions.
-/
import Derived.Test.YtobnhjkcbhajbaaSmC
namespace Go.Proofs.Ytobnhjkcbhajbaa.S
open Go.RowKit Go.Proofs.Ytobnhjkcbhajbaa.W
set_option linter.unusedVariables false
set_option linter.unusedSimpArgs false
set_option maxRecDepth 100000 in
set_option maxHeartbeats 4000000 in
theorem speaks_any (w : World) : Calls Try.prog 9 #[] w fun e w' => e = .returned (.bool true) ∧ Below w.heap.size w w' := by
  have he : ∀ (x : Nat) (w : World), (binOp .eql 24 (.pointer (some ⟨x, 0, none⟩)) (.pointer none)).run Try.prog w = .ok (.bool false) w := fun _ _ => rfl
  obtain ⟨lo, hlo⟩ : ∃ lo, w.heap.size = lo := ⟨_, rfl⟩
  have NW := Lib.hid (new_any 0 1 true w (by omega))
  rw [hlo] at NW ⊢
  clear hlo
  go_enter Try.func9, Try.ntmps9
  go_wp2_with fail
  refine NW.out.mono ?_
  rintro e w1 ⟨rfl, q1, b1⟩
  have Q1 := Lib.hid q1
  have B1 := Lib.hid b1
  clear q1 b1 NW
  go_wp2_with fail
  refine (wait_join_true lo _ _ 0 1 [] 1 5 _ Q1.out (by simp) (by simp [idsP]) (by omega) (by simp [Srt])).mono ?_
  rintro e w2 ⟨rfl, r2, q2, n2⟩
  have Q2 : Hid (SV lo w2 lo r2 ⟨0, 1, true⟩ [(1, 5)]) := by
    have h : joinP [] 1 (wq true 5) = [(1, 5)] := by decide
    rw [h] at q2
    exact q2
  have B2 : Hid (Below lo w w2) := B1.out.trans (n2.below Q1.out)
  clear q2 n2 Q1 B1
  go_wp2_with fail
  refine (wait_join_true lo _ _ 0 1 [(1, 5)] 2 9 _ Q2.out (by simp) (by simp [idsP]) (by omega) (by simp [Srt])).mono ?_
  rintro e w3 ⟨rfl, r3, q3, n3⟩
  have Q3 : Hid (SV lo w3 lo r3 ⟨0, 1, true⟩ [(2, 9), (1, 5)]) := by
    have h : joinP [(1, 5)] 2 (wq true 9) = [(2, 9), (1, 5)] := by decide
    rw [h] at q3
    exact q3
  have B3 : Hid (Below lo w w3) := B2.out.trans (n3.below Q2.out)
  clear q3 n3 Q2 B2
  go_wp2_with fail
  refine (wait_join_true lo _ _ 0 1 [(2, 9), (1, 5)] 3 9 _ Q3.out (by simp) (by simp [idsP]) (by omega) (by simp [Srt])).mono ?_
  rintro e w4 ⟨rfl, r4, q4, n4⟩
  have Q4 : Hid (SV lo w4 lo r4 ⟨0, 1, true⟩ [(2, 9), (3, 9), (1, 5)]) := by
    have h : joinP [(2, 9), (1, 5)] 3 (wq true 9) = [(2, 9), (3, 9), (1, 5)] := by decide
    rw [h] at q4
    exact q4
  have B4 : Hid (Below lo w w4) := B3.out.trans (n4.below Q3.out)
  clear q4 n4 Q3 B3
  go_wp2_with fail
  refine (signal_wakes lo _ _ _ (2, 9) [(3, 9), (1, 5)] _ Q4.out (by simp)).mono ?_
  rintro e w5 ⟨rfl, r5, q5, n5⟩
  have Q5 := Lib.hid q5
  have B5 : Hid (Below lo w w5) := B4.out.trans (n5.below Q4.out)
  clear q5 n5 Q4 B4
  go_wp2_with fail
  refine (signal_wakes lo _ _ _ (3, 9) [(1, 5)] _ Q5.out (by simp)).mono ?_
  rintro e w6 ⟨rfl, r6, q6, n6⟩
  have Q6 := Lib.hid q6
  have B6 : Hid (Below lo w w6) := B5.out.trans (n6.below Q5.out)
  clear q6 n6 Q5 B5
  go_wp2_with fail
  refine (signal_wakes lo _ _ _ (1, 5) [] _ Q6.out (by simp)).mono ?_
  rintro e w7 ⟨rfl, r7, q7, n7⟩
  have Q7 := Lib.hid q7
  have B7 : Hid (Below lo w w7) := B6.out.trans (n7.below Q6.out)
  clear q7 n7 Q6 B6
  go_wp2_with fail
  go_ret
  exact ⟨rfl, B7.out⟩
/-- Who waits: the ids from a on, ahead of b. -/
def seqP (a b : Nat) : List (Int × Int) := (List.range' a (b - a)).map fun (i : Nat) => ((i : Int), (0 : Int))
theorem seqP_nil {a b : Nat} (h : b ≤ a) : seqP a b = [] := by unfold seqP; rw [show b - a = 0 by omega]; rfl
theorem seqP_cons {a b : Nat} (h : a < b) : seqP a b = ((a : Int), 0) :: seqP (a + 1) b := by
  unfold seqP
  rw [show b - a = (b - (a + 1)) + 1 by omega, List.range'_succ]
  rfl
theorem seqP_snoc {a b : Nat} (h : a ≤ b) : seqP a (b + 1) = seqP a b ++ [((b : Int), 0)] := by
  unfold seqP
  rw [show b + 1 - a = (b - a) + 1 by omega, List.range'_1_concat, List.map_append, show a + (b - a) = b by omega]
  rfl
theorem seqP_len (a b : Nat) : (seqP a b).length = b - a := by simp [seqP]
theorem seqP_mem {a b : Nat} {x : Int × Int} (h : x ∈ seqP a b) : x.2 = 0 ∧ x.1 < (b : Int) := by
  obtain ⟨i, hi, rfl⟩ := List.mem_map.1 h
  rw [List.mem_range'_1] at hi
  exact ⟨rfl, by show (i : Int) < b; omega⟩
theorem seqP_ids {a b : Nat} {x : Int} (h : (b : Int) ≤ x) : x ∉ idsP (seqP a b) := fun hm => by
  obtain ⟨y, hy, rfl⟩ := List.mem_map.1 hm
  have := (seqP_mem hy).2
  omega
theorem srt_zero {L : List (Int × Int)} (h : ∀ x ∈ L, x.2 = 0) : Srt L := by
  unfold Srt
  induction L with
  | nil => exact List.Pairwise.nil
  | cons x r ih =>
    refine List.Pairwise.cons (fun y hy => ?_) (ih fun y hy => h y (List.mem_cons_of_mem _ hy))
    rw [h x (List.mem_cons_self ..), h y (List.mem_cons_of_mem _ hy)]
    exact Int.le_refl _
theorem join_zero {L : List (Int × Int)} (h : ∀ x ∈ L, x.2 = 0) (id : Int) : joinP L id 0 = L ++ [(id, 0)] := by
  have hc : cnt L 0 = L.length := by
    unfold cnt
    rw [List.countP_eq_length]
    intro x hx
    rw [decide_eq_true_iff, h x hx]
    exact Int.le_refl _
  unfold joinP
  rw [hc, List.take_length, List.drop_length]
end Go.Proofs.Ytobnhjkcbhajbaa.S
