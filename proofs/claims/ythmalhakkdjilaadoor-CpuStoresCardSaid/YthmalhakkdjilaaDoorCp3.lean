/-
  The steps of push and pop over words, reckoned. Each statement bears its own conditions.
-/
import Derived.Test.YthmalhakkdjilaaDoorCp2
import Derived.Test.YthmalhakkdjilaaDoorCpV
namespace Go.Proofs.YthmalhakkdjilaaDoor
open Go.RowKit
set_option linter.unusedVariables false
set_option linter.unusedSimpArgs false
def w21 : Int := 2826960896
def w22 : Int := 2969567232
/-- Registers of the law's run: R1, R2, Pc, Sp, Top. -/
def PR (x1 x2 pc sp tp : Int) : List Int := [0, x1, x2, 0, 0, 0, 0, 0, 0, 0, 0, 0, 0, 0, 0, 0, pc, sp, 2, tp, 0, 0, 0, 0, 0, 0, 0, 0, 0, 0, 0, 0, 0, 0, 0, 0, 0, 0, 0, 0, 0, 0, 0, 0, 0]
def PM (D : List Int) (st : Int) : MS := ⟨w21 :: w22 :: D, 2, st⟩
theorem pr_len (x1 x2 pc sp tp : Int) : (PR x1 x2 pc sp tp).length = 45 := rfl
theorem pr_fresh (T : Int) : freshR 0 2 T = PR 0 0 0 T T := rfl
theorem pr_ok {x1 x2 pc sp tp : Int} (h1 : U32 x1) (h2 : U32 x2) (h3 : U32 pc) (h4 : U32 sp) (h5 : U32 tp) : RegOk (PR x1 x2 pc sp tp) := by
  have h := (((((fresh_ok (pc := 0) (floor := 2) (top := 0) ⟨by decide, by decide⟩ ⟨by decide, by decide⟩ ⟨by decide, by decide⟩).set 1 x1 h1).set 2 x2 h2).set 16 pc h3).set 17 sp h4).set 19 tp h5
  exact h
theorem dec_push : decV w21 = ⟨21, 1, 0, 0, priceV 21, 0⟩ := by kernel_rfl
theorem dec_pop : decV w22 = ⟨22, 2, 0, 0, priceV 22, 0⟩ := by kernel_rfl
theorem next_push (x1 x2 sp tp st : Int) (D : List Int) : nextV (PR x1 x2 0 sp tp) (PM D st) = ⟨21, 1, 0, 0, priceV 21, 0⟩ := by
  have e0 : (PR x1 x2 0 sp tp).getD 44 0 = 0 := rfl
  have e1 : (PR x1 x2 0 sp tp).getD 16 0 = 0 := rfl
  have h : (0 : Int) < ((w21 :: w22 :: D).length : Int) := by simp only [List.length_cons]; omega
  unfold nextV
  rw [e0, e1, if_neg (by omega)]
  have e2 : ftE (PM D st).W (PM D st).code 0 = 0 := by
    show ftE (w21 :: w22 :: D) 2 0 = 0
    unfold ftE
    rw [if_pos h]; rfl
  have e3 : ftX (PM D st).W (PM D st).code 0 = w21 := by
    show ftX (w21 :: w22 :: D) 2 0 = w21
    unfold ftX
    rw [if_pos h]; rfl
  rw [e2, if_pos rfl, e3, dec_push]
theorem next_pop (x1 x2 sp tp st : Int) (D : List Int) : nextV (PR x1 x2 1 sp tp) (PM D st) = ⟨22, 2, 0, 0, priceV 22, 0⟩ := by
  have e0 : (PR x1 x2 1 sp tp).getD 44 0 = 0 := rfl
  have e1 : (PR x1 x2 1 sp tp).getD 16 0 = 1 := rfl
  have h : (1 : Int) < ((w21 :: w22 :: D).length : Int) := by simp only [List.length_cons]; omega
  unfold nextV
  rw [e0, e1, if_neg (by omega)]
  have e2 : ftE (PM D st).W (PM D st).code 1 = 0 := by
    show ftE (w21 :: w22 :: D) 2 1 = 0
    unfold ftE
    rw [if_pos h]; rfl
  have e3 : ftX (PM D st).W (PM D st).code 1 = w22 := by
    show ftX (w21 :: w22 :: D) 2 1 = w22
    unfold ftX
    rw [if_pos h]; rfl
  rw [e2, if_pos rfl, e3, dec_pop]
theorem ok_push (x1 x2 sp tp st : Int) (D : List Int) : okMem (PR x1 x2 0 sp tp) (PM D st) := ok_of 21 (by rw [next_push]; rfl) effC_push fine_push
theorem ok_pop (x1 x2 sp tp st : Int) (D : List Int) : okMem (PR x1 x2 1 sp tp) (PM D st) := ok_of 22 (by rw [next_pop]; rfl) effC_pop fine_pop
theorem pr_settled (x1 x2 pc sp tp : Int) : settledV (PR x1 x2 pc sp tp) = PR x1 x2 pc sp tp := settled_same rfl
theorem push_full (x1 x2 tp st : Int) (D : List Int) : stV1 (PR x1 x2 0 2 tp) (PM D st) = ⟨PR x1 x2 0 2 tp, priceV 21, -1, 13, PM D st⟩ := by
  unfold stV1
  rw [next_push]
  dsimp only
  rw [if_pos rfl]
  have ee : effV (21 : Int).toNat 1 0 0 ((PR x1 x2 0 2 tp).set 16 (IntKind.u32.wrap ((PR x1 x2 0 2 tp).getD 16 0 + 1))) (PM D st) = ⟨13, PR x1 x2 1 2 tp, -1, PM D st⟩ := by
    have : effV (21 : Int).toNat 1 0 0 ((PR x1 x2 0 2 tp).set 16 (IntKind.u32.wrap ((PR x1 x2 0 2 tp).getD 16 0 + 1))) (PM D st) = putV (PR x1 x2 1 2 tp) (PM D st) x1 := rfl
    rw [this]
    unfold putV
    rw [if_pos (Or.inl (by show (2 : Int) ≤ 2; omega))]
  rw [ee]
  dsimp only
  rw [if_neg (by decide)]
theorem push_ok (x1 x2 tp st : Int) (D : List Int) (m : Nat) (hD : D.length = 20) (hm : m < 20) (hp : (m : Int) + 3 ≤ tp) : stV1 (PR x1 x2 0 ((m : Int) + 3) tp) (PM D st) = ⟨PR x1 x2 1 ((m : Int) + 2) tp, priceV 21, -1, 0, PM (D.set m x1) (IntKind.i64.wrap (st + 1))⟩ := by
  unfold stV1
  rw [next_push]
  dsimp only
  rw [if_pos rfl]
  have ee : effV (21 : Int).toNat 1 0 0 ((PR x1 x2 0 ((m : Int) + 3) tp).set 16 (IntKind.u32.wrap ((PR x1 x2 0 ((m : Int) + 3) tp).getD 16 0 + 1))) (PM D st) = ⟨0, PR x1 x2 1 ((m : Int) + 2) tp, -1, PM (D.set m x1) (IntKind.i64.wrap (st + 1))⟩ := by
    have : effV (21 : Int).toNat 1 0 0 ((PR x1 x2 0 ((m : Int) + 3) tp).set 16 (IntKind.u32.wrap ((PR x1 x2 0 ((m : Int) + 3) tp).getD 16 0 + 1))) (PM D st) = putV (PR x1 x2 1 ((m : Int) + 3) tp) (PM D st) x1 := rfl
    rw [this]
    unfold putV
    have g17 : (PR x1 x2 1 ((m : Int) + 3) tp).getD 17 0 = (m : Int) + 3 := rfl
    have g18 : (PR x1 x2 1 ((m : Int) + 3) tp).getD 18 0 = 2 := rfl
    have g19 : (PR x1 x2 1 ((m : Int) + 3) tp).getD 19 0 = tp := rfl
    rw [g17, g18, g19, if_neg (by omega)]
    have e1 : (m : Int) + 3 - 1 = (m : Int) + 2 := by omega
    rw [e1]
    have hs : stV (PM D st) ((m : Int) + 2) x1 = (PM (D.set m x1) (IntKind.i64.wrap (st + 1)), 0) := by
      unfold stV
      have hl : ((PM D st).W.length : Int) = 22 := by show (((w21 :: w22 :: D).length : Nat) : Int) = 22; simp only [List.length_cons]; omega
      have hc : ((PM D st).code : Int) = 2 := rfl
      have ht : ((m : Int) + 2).toNat = m + 2 := by omega
      rw [hl, hc, if_pos (by omega), if_neg (by omega), ht]
      rfl
    rw [hs]
    rfl
  rw [ee]
  dsimp only
  rw [if_pos rfl, pr_settled]
theorem pop_empty (x1 x2 tp st : Int) (D : List Int) : stV1 (PR x1 x2 1 tp tp) (PM D st) = ⟨PR x1 x2 1 tp tp, priceV 22, -1, 13, PM D st⟩ := by
  unfold stV1
  rw [next_pop]
  dsimp only
  rw [if_pos rfl]
  have ee : effV (22 : Int).toNat 2 0 0 ((PR x1 x2 1 tp tp).set 16 (IntKind.u32.wrap ((PR x1 x2 1 tp tp).getD 16 0 + 1))) (PM D st) = ⟨13, PR x1 0 2 tp tp, -1, PM D st⟩ := by
    have : effV (22 : Int).toNat 2 0 0 ((PR x1 x2 1 tp tp).set 16 (IntKind.u32.wrap ((PR x1 x2 1 tp tp).getD 16 0 + 1))) (PM D st) = ⟨(takeV (PR x1 x2 2 tp tp) (PM D st)).1, (takeV (PR x1 x2 2 tp tp) (PM D st)).2.2.set 2 (takeV (PR x1 x2 2 tp tp) (PM D st)).2.1, -1, PM D st⟩ := rfl
    rw [this]
    have ht : takeV (PR x1 x2 2 tp tp) (PM D st) = (13, 0, PR x1 x2 2 tp tp) := by unfold takeV; rw [if_pos (Or.inl (by show tp ≤ tp; omega))]
    rw [ht]
    rfl
  rw [ee]
  dsimp only
  rw [if_neg (by decide)]
theorem pop_ok (x1 x2 tp st : Int) (D : List Int) (m : Nat) (hD : D.length = 20) (hm : m < 20) (hp : (m : Int) + 2 < tp) : stV1 (PR x1 x2 1 ((m : Int) + 2) tp) (PM D st) = ⟨PR x1 (D.getD m 0) 2 ((m : Int) + 3) tp, priceV 22, -1, 0, PM D st⟩ := by
  unfold stV1
  rw [next_pop]
  dsimp only
  rw [if_pos rfl]
  have ee : effV (22 : Int).toNat 2 0 0 ((PR x1 x2 1 ((m : Int) + 2) tp).set 16 (IntKind.u32.wrap ((PR x1 x2 1 ((m : Int) + 2) tp).getD 16 0 + 1))) (PM D st) = ⟨0, PR x1 (D.getD m 0) 2 ((m : Int) + 3) tp, -1, PM D st⟩ := by
    have : effV (22 : Int).toNat 2 0 0 ((PR x1 x2 1 ((m : Int) + 2) tp).set 16 (IntKind.u32.wrap ((PR x1 x2 1 ((m : Int) + 2) tp).getD 16 0 + 1))) (PM D st) = ⟨(takeV (PR x1 x2 2 ((m : Int) + 2) tp) (PM D st)).1, (takeV (PR x1 x2 2 ((m : Int) + 2) tp) (PM D st)).2.2.set 2 (takeV (PR x1 x2 2 ((m : Int) + 2) tp) (PM D st)).2.1, -1, PM D st⟩ := rfl
    rw [this]
    have ht : takeV (PR x1 x2 2 ((m : Int) + 2) tp) (PM D st) = (0, D.getD m 0, PR x1 x2 2 ((m : Int) + 3) tp) := by
      unfold takeV
      have g17 : (PR x1 x2 2 ((m : Int) + 2) tp).getD 17 0 = (m : Int) + 2 := rfl
      have g18 : (PR x1 x2 2 ((m : Int) + 2) tp).getD 18 0 = 2 := rfl
      have g19 : (PR x1 x2 2 ((m : Int) + 2) tp).getD 19 0 = tp := rfl
      rw [g17, g18, g19, if_neg (by omega)]
      have hl : ((PM D st).W.length : Int) = 22 := by show (((w21 :: w22 :: D).length : Nat) : Int) = 22; simp only [List.length_cons]; omega
      have ht : ((m : Int) + 2).toNat = m + 2 := by omega
      have e1 : (m : Int) + 2 + 1 = (m : Int) + 3 := by omega
      have a1 : ldE (PM D st).W ((m : Int) + 2) = 0 := by unfold ldE; rw [hl, if_pos (by omega)]
      have a2 : ldX (PM D st).W ((m : Int) + 2) = D.getD m 0 := by unfold ldX; rw [hl, if_pos (by omega), ht]; rfl
      rw [a1, a2, e1]
      rfl
    rw [ht]
    rfl
  rw [ee]
  dsimp only
  rw [if_pos rfl, pr_settled]
end Go.Proofs.YthmalhakkdjilaaDoor
