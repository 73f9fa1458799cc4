/-
  What is in a list of numbers, and where. Each statement bears its own conditions.
-/
import Derived.Test.YtfmcmhgpgkeplaaFo
namespace Go.Proofs.Ytfmcmhgpgkeplaa.F
open Go.RowKit Go.Proofs.Ytfmcmhgpgkeplaa.F
set_option linter.unusedVariables false
set_option linter.unusedSimpArgs false
theorem getD_in {L : List Int} {j : Nat} (h : j < L.length) : L.getD j 0 ∈ L := by
  rw [List.getD_eq_getElem?_getD, List.getElem?_eq_getElem h]; exact List.getElem_mem h
theorem take_getD {L : List Int} {j : Nat} (h : j < L.length) : L.take (j + 1) = L.take j ++ [L.getD j 0] := by
  rw [List.take_add_one]; simp [List.getD_eq_getElem?_getD, List.getElem?_eq_getElem h]
theorem notin_next {L : List Int} {x a : Int} {j : Nat} (h : j < L.length) (h1 : x ∉ L.take j) (ha : L.getD j 0 = a) (hx : ¬ a = x) : x ∉ L.take (j + 1) := by
  rw [take_getD h, ha, List.mem_append]
  rintro (h | h)
  · exact h1 h
  · exact hx (List.mem_singleton.1 h).symm
/-- Where a number is first; nowhere: -1. -/
def Ix (L : List Int) (x : Int) (e : Ending) : Prop := (∃ k : Nat, k < L.length ∧ L[k]? = some x ∧ x ∉ L.take k ∧ e = .returned (.int .i64 (k : Int))) ∨ (x ∉ L ∧ e = .returned (.int .i64 (-1)))
theorem cut_erase {L : List Int} {x : Int} {k : Nat} (h : L[k]? = some x) (h1 : x ∉ L.take k) : L.take k ++ L.drop (k + 1) = L.erase x := by
  induction L generalizing k with
  | nil => simp at h
  | cons a L ih =>
    cases k with
    | zero => simp at h; subst h; simp
    | succ k =>
      simp at h h1
      have ha : ¬ a = x := fun e => h1.1 e.symm
      rw [List.erase_cons_tail (by simpa using ha)]
      simp only [List.take_succ_cons, List.drop_succ_cons, List.cons_append]
      rw [ih h (by simpa using h1.2)]
structure HRelindex (L : List Int) (x : Int) (n : Nat) (w : World) (iv : Value) (wr : World) : Prop where
  ex : ∃ j : Nat, j ≤ n ∧ iv = .int .i64 (j : Int) ∧ x ∉ L.take j ∧ wr = w
set_option maxRecDepth 100000 in
set_option maxHeartbeats 1000000 in
theorem index_any (p : Nat → Prop) (v : Value) (L : List Int) (x : Int) (w : World) (hr : Sq w p v L.length (C L)) (hL : L.length ≤ 1000) :
    Calls Try.prog 32 #[v, .int .i64 x] w fun e w' => Ix L x e ∧ w' = w := by
  obtain ⟨A, c, rfl⟩ := hr.form
  obtain ⟨n, hn⟩ : ∃ n, L.length = n := ⟨_, rfl⟩
  have HR := Lib.hid hr
  have HN := Lib.hid hn
  have HL : Hid (n ≤ 1000) := by unfold Hid; omega
  rw [hn] at HR ⊢
  clear hr hL hn
  go_enter Try.func32, Try.ntmps32
  go_wp2_with fail
  go_loopw [8] (fun i wr => HRelindex L x n w i wr) (fun i _ => 1001 - (intOf i).toNat)
  case atStart => exact ⟨⟨0, Nat.zero_le _, rfl, by simp, rfl⟩⟩
  case round =>
    obtain ⟨⟨j, hj, rfl, hno, rfl⟩⟩ := hrel
    have HJ := Lib.hid hj
    have HNO := Lib.hid hno
    clear hj hno
    by_cases hlt : j < n
    · obtain ⟨_, b, off, rfl, _, _, hc⟩ := HR.out.at_ (by omega)
      obtain ⟨a, ha⟩ : ∃ a, Hid (L.getD j 0 = a) := ⟨_, rfl⟩
      have d0 := hc j _ (C_at L j (by rw [HN.out]; exact hlt))
      rw [ha.out] at d0
      clear hc
      have hjI : (j : Int) < (n : Int) := by omega
      have hj2 : (j : Int) < 1000 := by have := HL.out; omega
      have HX : Hid (j < n) := hlt
      clear hlt
      by_cases hxe : a = x
      · have HF : Hid (x ∈ L) := by
          unfold Hid
          rw [← hxe, ← ha.out]
          exact getD_in (by rw [HN.out]; exact HX.out)
        have HG : Hid (L[j]? = some x) := by
          unfold Hid
          rw [← hxe, ← ha.out, List.getD_eq_getElem?_getD, List.getElem?_eq_getElem (by rw [HN.out]; exact HX.out)]
          rfl
        have hxB : (a == x) = true := by rw [beq_iff_eq]; exact hxe
        have hxB' : (x == a) = true := by rw [beq_iff_eq]; exact hxe.symm
        subst hxe
        go_wp2_with fail
        go_ret
        exact ⟨.inl ⟨j, by rw [HN.out]; exact HX.out, HG.out, HNO.out, rfl⟩, rfl⟩
      · have hxB : (a == x) = false := by rw [beq_eq_false_iff_ne]; exact hxe
        have hxB' : (x == a) = false := by rw [beq_eq_false_iff_ne]; exact fun h => hxe h.symm
        have HNX : Hid (x ∉ L.take (j + 1)) := notin_next (by rw [HN.out]; exact HX.out) HNO.out ha.out hxe
        go_wp2_with fail
        go_roundw
        case rel =>
          have Q : HRelindex L x n wr (.int .i64 ((j : Int) + 1)) wr := ⟨⟨j + 1, HX.out, by go_num, HNX.out, rfl⟩⟩
          first | exact Q | ((repeat apply Exists.intro); exact ⟨Q, rfl⟩)
        case measure => have := HX.out; have := HL.out; simp [intOf]; omega
    · have hjI : ¬ (j : Int) < (n : Int) := by omega
      have HF : Hid (x ∉ L) := by
        have := HNO.out
        rwa [List.take_of_length_le (by rw [HN.out]; omega)] at this
      clear hlt
      go_wp2_with fail
      go_ret
      exact ⟨.inr ⟨HF.out, rfl⟩, rfl⟩
set_option maxRecDepth 100000 in
theorem contains_any (p : Nat → Prop) (v : Value) (L : List Int) (x : Int) (w : World) (hr : Sq w p v L.length (C L)) (hL : L.length ≤ 1000) :
    Calls Try.prog 25 #[v, .int .i64 x] w fun e w' => e = .returned (.bool (decide (x ∈ L))) ∧ w' = w := by
  have IX := Lib.hid (index_any p v L x w hr hL)
  obtain ⟨A, c, rfl⟩ := hr.form
  clear hr hL
  go_enter Try.func25, Try.ntmps25
  go_wp2_with fail
  refine IX.out.mono ?_
  rintro e w1 ⟨h, rfl⟩
  rcases h with ⟨k, hk, hm, _, rfl⟩ | ⟨hm, rfl⟩
  · have hkI : (0 : Int) ≤ (k : Int) := by omega
    have HM : Hid (x ∈ L) := List.mem_of_getElem? hm
    clear hm hk
    go_wp2_with fail
    go_ret
    exact ⟨by rw [decide_eq_true HM.out]; rfl, rfl⟩
  · have HM := Lib.hid hm
    clear hm
    go_wp2_with fail
    go_ret
    exact ⟨by rw [decide_eq_false HM.out]; rfl, rfl⟩
end Go.Proofs.Ytfmcmhgpgkeplaa.F
