/-
  The contract of toNumber. Each statement bears its own conditions.
-/
import Derived.Test.YthcegmijphbhgaaDoorReader
import Derived.WalkMore
import Derived.Scope
namespace Go.Proofs.YthcegmijphbhgaaDoor
open Go.RowKit
set_option linter.unusedSimpArgs false
set_option linter.unusedVariables false
def accW (l : List Int) : Int := l.foldl (fun a b => a * 128 % 18446744073709551616 + b % 128) 0
/-- How many bytes lead that say 'more'. -/
def lead : List Int → Nat
  | [] => 0
  | b :: l => if b < 128 then 0 else lead l + 1
theorem lead_le : ∀ L, lead L ≤ L.length
  | [] => Nat.le_refl _
  | b :: L => by unfold lead; split <;> simp [lead_le L]
theorem lead_lt : ∀ (L : List Int) (j : Nat), j < lead L → 128 ≤ L.getD j 0
  | [], j, h => by simp [lead] at h
  | b :: L, j, h => by
    unfold lead at h
    split at h
    · omega
    · cases j with
      | zero => simp; omega
      | succ j => simpa using lead_lt L j (by omega)
theorem lead_at : ∀ (L : List Int), lead L < L.length → L.getD (lead L) 0 < 128
  | [], h => by simp at h
  | b :: L, h => by
    unfold lead at h ⊢
    by_cases hb : b < 128
    · simp [hb]
    · simp only [if_neg hb] at h ⊢
      simpa using lead_at L (by simpa using h)
theorem accW_snoc (l : List Int) (b : Int) : accW (l ++ [b]) = accW l * 128 % 18446744073709551616 + b % 128 := by simp [accW]
theorem take_snoc {L : List Int} {j : Nat} (h : j < L.length) : L.take (j + 1) = L.take j ++ [L.getD j 0] := by
  rw [List.take_add_one]; simp [List.getD_eq_getElem?_getD, List.getElem?_eq_getElem h]
theorem accW_bd (l : List Int) : 0 ≤ accW l ∧ accW l < 18446744073709551616 := by
  rcases List.eq_nil_or_concat l with rfl | ⟨l', b, rfl⟩
  · simp [accW]
  · rw [List.concat_eq_append, accW_snoc]; omega
def numV (L : List Int) : Int := if 10 ≤ lead L ∨ lead L = L.length ∨ L.headD 0 = 128 ∨ (lead L = 9 ∧ 129 < L.headD 0) then 0 else accW (L.take (lead L + 1))
def numK (L : List Int) : Nat := if 10 ≤ lead L ∨ lead L = L.length ∨ L.headD 0 = 128 ∨ (lead L = 9 ∧ 129 < L.headD 0) then 0 else lead L + 1
def numR (L : List Int) : Int := if lead L < 10 ∧ lead L = L.length then 4 else if 10 ≤ lead L ∨ L.headD 0 = 128 ∨ (lead L = 9 ∧ 129 < L.headD 0) then 3 else 0
theorem num_form (L : List Int) (h : 10 ≤ lead L ∨ (lead L ≠ L.length ∧ (L.headD 0 = 128 ∨ (lead L = 9 ∧ 129 < L.headD 0)))) : numV L = 0 ∧ numK L = 0 ∧ numR L = 3 := by
  have c3 : 10 ≤ lead L ∨ L.headD 0 = 128 ∨ (lead L = 9 ∧ 129 < L.headD 0) := by
    rcases h with h | ⟨_, h⟩
    · exact .inl h
    · exact .inr h
  have c1 : 10 ≤ lead L ∨ lead L = L.length ∨ L.headD 0 = 128 ∨ (lead L = 9 ∧ 129 < L.headD 0) := by
    rcases c3 with h | h
    · exact .inl h
    · exact .inr (.inr h)
  have c2 : ¬ (lead L < 10 ∧ lead L = L.length) := fun hh => by
    rcases h with h | ⟨h, _⟩
    · omega
    · exact h hh.2
  exact ⟨if_pos c1, if_pos c1, by rw [numR, if_neg c2, if_pos c3]⟩
theorem step_or (a b : Int) (h0 : 0 ≤ b) (h1 : b ≤ 255) : bits BinOp.or IntKind.u64 (a * 128 % 18446744073709551616) (b % 128) = a * 128 % 18446744073709551616 + b % 128 :=
  bits_join .u64 64 (by decide) wraps_u64 7 _ _ (by omega) (by omega) (by omega) (by omega) (by omega) (by omega)
theorem andNot_b (b : Int) (h0 : 0 ≤ b) (h1 : b ≤ 255) : bits BinOp.andNot IntKind.u8 b 128 = b % 128 := by
  have := andNot128 ⟨b.toNat, by omega⟩
  simp only at this
  rw [show ((b.toNat : Nat) : Int) = b by omega] at this
  rw [this]; omega
structure NR (L : List Int) (w : World) (n u e i : Value) (wr : World) : Prop where
  ex : ∃ j : Nat, j ≤ L.length ∧ j < 10 ∧ j ≤ lead L ∧ n = .int .u64 (accW (L.take j)) ∧ u = .int .i64 (j : Int) ∧ e = .bool false ∧ i = .int .i64 (j : Int) ∧ wr = w
theorem toNumber_any (A : Option Addr) (n c : Nat) (L : List Int) (w : World) (h : Reads w w.heap.size 1 A n (U L)) (hl : L.length = n) (hy : Bytes L) (hn : n ≤ 1048576) :
    Calls Tryd.prog 51 #[.slice A n c] w fun e w' => e = .returned (.tuple #[.int .u64 (numV L), .int .i64 (numK L : Int), .int .i64 (numR L)]) ∧ Below w.heap.size w w' := by
  have H := Lib.hid h
  have HL := Lib.hid hl
  have HY := Lib.hid hy
  have HN := Lib.hid hn
  clear h hl hy hn
  go_enter Tryd.func51, Tryd.ntmps51
  go_wp2_with fail
  apply wp_scope_straight
  go_wp2_with fail
  apply wp_label
  go_wp2_with fail
  go_loopw [2, 3, 5, 10] (fun n u e i wr => NR L w n u e i wr) (fun _ _ _ i _ => 10 - (intOf i).toNat)
  case atStart => exact ⟨⟨0, by omega, by omega, by omega, rfl, rfl, rfl, rfl, rfl⟩⟩
  case round =>
    obtain ⟨⟨j, hj, hj10, hjl, rfl, rfl, rfl, rfl, rfl⟩⟩ := hrel
    by_cases hlt : j < n
    · obtain ⟨b, off, hA, _, _, hc⟩ := place_of H.out (by omega)
      subst hA
      obtain ⟨x, hx⟩ : ∃ x, L.getD j 0 = x := ⟨_, rfl⟩
      obtain ⟨y, hy⟩ : ∃ y, L.getD 0 0 = y := ⟨_, rfl⟩
      have c0 := hc 0 (by omega)
      have cj := hc j (by omega)
      have hxb := HY.out j (by have := HL.out; omega)
      have hyb := HY.out 0 (by have := HL.out; omega)
      rw [hx] at hxb cj
      rw [hy] at hyb c0
      rw [Nat.add_zero] at c0
      obtain ⟨x0, x1⟩ := hxb
      obtain ⟨y0, y1⟩ := hyb
      have hlt' : (j : Int) < (n : Int) := by omega
      have hn0 : (0 : Int) < (n : Int) := by omega
      obtain ⟨a, ha⟩ : ∃ a, accW (L.take j) = a := ⟨_, rfl⟩
      have b1 := andNot_b x x0 x1
      have b2 := step_or a x x0 x1
      have b3 : IntKind.u64.wrap (a * 128) = a * 128 % 18446744073709551616 := by rw [IntKind.wrap_u64]
      have b4 : IntKind.u64.wrap (x % 128) = x % 128 := by rw [IntKind.wrap_u64]; omega
      have HX := Lib.hid hx
      have HJ := Lib.hid hjl
      have HYY : Hid (L.headD 0 = y) := by unfold Hid; rw [← hy]; cases L <;> rfl
      have HJL : Hid (j < L.length) := by have := HL.out; unfold Hid; omega
      have HT : Hid (accW (L.take (j + 1)) = a * 128 % 18446744073709551616 + x % 128) := by unfold Hid; rw [take_snoc HJL.out, accW_snoc, ha, hx]
      rw [ha]
      clear hc hj ha hx hy hjl
      by_cases hx8 : x < 128
      · have LE : Hid (lead L = j) := by
          unfold Hid
          have h1 := HJ.out
          rcases Nat.lt_or_ge j (lead L) with h2 | h2
          · have := lead_lt L j h2; rw [HX.out] at this; omega
          · omega
        have hsh : Hid (¬ lead L = L.length) := by have := LE.out; have := HJL.out; unfold Hid; omega
        by_cases hy8 : y = 128
        · have V : numV L = 0 ∧ numK L = 0 ∧ numR L = 3 := by
            exact num_form L (.inr ⟨hsh.out, .inl (HYY.out.trans hy8)⟩)
          have HV := Lib.hid V
          clear V
          go_wp2_with fail
          (first | go_ret3 | (unfold Exit.noGoto; go_ret3) | (unfold Exit.noGoto; dsimp only; go_ret3))
          exact ⟨by rw [HV.out.1, HV.out.2.1, HV.out.2.2]; rfl, Below.refl _ _⟩
        · by_cases h9 : j = 9 ∧ 129 < y
          · obtain ⟨h9, hy9⟩ := h9
            have V : numV L = 0 ∧ numK L = 0 ∧ numR L = 3 := by
              exact num_form L (.inr ⟨hsh.out, .inr ⟨LE.out.trans h9, by rw [HYY.out]; exact hy9⟩⟩)
            have HV := Lib.hid V
            clear V
            subst h9
            go_wp2_with fail
            (first | go_ret3 | (unfold Exit.noGoto; go_ret3) | (unfold Exit.noGoto; dsimp only; go_ret3))
            exact ⟨by rw [HV.out.1, HV.out.2.1, HV.out.2.2]; rfl, Below.refl _ _⟩
          · have V : numV L = a * 128 % 18446744073709551616 + x % 128 ∧ numK L = j + 1 ∧ numR L = 0 := by
              have h1 := LE.out; have h2 := hsh.out; have h3 := HYY.out
              have h4 : ¬ (10 ≤ lead L ∨ lead L = L.length ∨ L.headD 0 = 128 ∨ (lead L = 9 ∧ 129 < L.headD 0)) := by rw [h3]; omega
              refine ⟨?_, ?_, ?_⟩
              · rw [numV, if_neg h4, h1]; exact HT.out
              · rw [numK, if_neg h4, h1]
              · rw [numR, if_neg (fun hh => h2 hh.2), if_neg (fun hh => h4 (by rcases hh with q | q | q; exact .inl q; exact .inr (.inr (.inl q)); exact .inr (.inr (.inr q))))]
            have HV := Lib.hid V
            clear V
            by_cases h99 : j = 9
            · subst h99
              have hy9 : ¬ 129 < y := fun hh => h9 ⟨rfl, hh⟩
              go_wp2_with fail
              (first | go_ret3 | (unfold Exit.noGoto; go_ret3) | (unfold Exit.noGoto; dsimp only; go_ret3))
              exact ⟨by rw [HV.out.1, HV.out.2.1, HV.out.2.2]; simp, Below.refl _ _⟩
            · have h9' : ¬ (j : Int) + 1 = 10 := by omega
              go_wp2_with fail
              (first | go_ret3 | (unfold Exit.noGoto; go_ret3) | (unfold Exit.noGoto; dsimp only; go_ret3))
              exact ⟨by rw [HV.out.1, HV.out.2.1, HV.out.2.2]; simp, Below.refl _ _⟩
      · have LE : Hid (j + 1 ≤ lead L) := by
          unfold Hid
          have h1 := HJ.out
          rcases Nat.lt_or_ge j (lead L) with h2 | h2
          · exact h2
          · have h3 : lead L = j := by omega
            have := lead_at L (by have := HJL.out; omega)
            rw [h3, HX.out] at this; omega
        by_cases h9 : j = 9
        · have V : numV L = 0 ∧ numK L = 0 ∧ numR L = 3 := by
            exact num_form L (.inl (by have := LE.out; omega))
          have HV := Lib.hid V
          clear V
          subst h9
          go_wp2_with fail
          (first | go_ret3 | (unfold Exit.noGoto; go_ret3) | (unfold Exit.noGoto; dsimp only; go_ret3))
          exact ⟨by rw [HV.out.1, HV.out.2.1, HV.out.2.2]; rfl, Below.refl _ _⟩
        · have h9' : ¬ (j : Int) + 1 = 10 := by omega
          have hj11 : j + 1 < 10 := by omega
          go_wp2_with fail
          go_roundw
          case rel => first | exact ⟨⟨j + 1, HJL.out, hj11, LE.out, by rw [HT.out], by go_num, rfl, by go_num, rfl⟩⟩ | ((repeat apply Exists.intro); exact ⟨⟨⟨j + 1, HJL.out, hj11, LE.out, by rw [HT.out], by go_num, rfl, by go_num, rfl⟩⟩, rfl⟩)
          case measure => simp [intOf]; omega
    · have hlt' : ¬ (j : Int) < (n : Int) := by omega
      have V : numV L = 0 ∧ numK L = 0 ∧ numR L = 4 := by
        have h0 := lead_le L
        have h1 := HL.out
        have h2 : lead L = L.length := by omega
        have h3 : lead L < 10 := by omega
        refine ⟨?_, ?_, ?_⟩
        · rw [numV, if_pos (.inr (.inl h2))]
        · rw [numK, if_pos (.inr (.inl h2))]
        · rw [numR, if_pos ⟨h3, h2⟩]
      have HV := Lib.hid V
      have hjI : (j : Int) < 10 := by omega
      clear V hjl
      go_wp2_with fail
      (first | go_ret3 | (unfold Exit.noGoto; go_ret3) | (unfold Exit.noGoto; dsimp only; go_ret3))
      exact ⟨by rw [HV.out.1, HV.out.2.1, HV.out.2.2]; rfl, Below.refl _ _⟩
def boundV (m : Int) (L : List Int) : Int := if numR L = 0 ∧ m < numV L then 0 else numV L
def boundK (m : Int) (L : List Int) : Nat := if numR L = 0 ∧ m < numV L then 0 else numK L
def boundR (m : Int) (L : List Int) : Int := if numR L = 0 ∧ m < numV L then 2 else numR L
theorem toBounded_any (A : Option Addr) (n c : Nat) (m : Int) (L : List Int) (w : World) (h : Reads w w.heap.size 1 A n (U L)) (hl : L.length = n) (hy : Bytes L) (hn : n ≤ 1048576) :
    Calls Tryd.prog 46 #[.slice A n c, .int .u64 m] w fun e w' => e = .returned (.tuple #[.int .u64 (boundV m L), .int .i64 (boundK m L : Int), .int .i64 (boundR m L)]) ∧ Below w.heap.size w w' := by
  have TN := Lib.hid (toNumber_any A n c L w h hl hy hn)
  obtain ⟨v, hv⟩ : ∃ v, numV L = v := ⟨_, rfl⟩
  obtain ⟨k, hk⟩ : ∃ k, numK L = k := ⟨_, rfl⟩
  obtain ⟨r, hr⟩ : ∃ r, numR L = r := ⟨_, rfl⟩
  unfold boundV boundK boundR
  rw [hv, hk, hr] at TN ⊢
  clear h hl hy hn hv hk hr
  by_cases h0 : r = 0
  · subst h0
    by_cases h1 : m < v
    · simp only [true_and, if_pos h1]
      go_enter Tryd.func46, Tryd.ntmps46
      go_wp2_with fail
      refine TN.out.mono ?_
      rintro e w1 ⟨rfl, b1⟩
      clear TN
      go_wp2_with fail
      go_ret3
      exact ⟨rfl, b1⟩
    · simp only [true_and, if_neg h1]
      go_enter Tryd.func46, Tryd.ntmps46
      go_wp2_with fail
      refine TN.out.mono ?_
      rintro e w1 ⟨rfl, b1⟩
      clear TN
      go_wp2_with fail
      go_ret3
      exact ⟨rfl, b1⟩
  · simp only [if_neg (show ¬ (r = 0 ∧ m < v) from fun hh => h0 hh.1)]
    go_enter Tryd.func46, Tryd.ntmps46
    go_wp2_with fail
    refine TN.out.mono ?_
    rintro e w1 ⟨rfl, b1⟩
    clear TN
    go_wp2_with fail
    go_ret3
    exact ⟨rfl, b1⟩
end Go.Proofs.YthcegmijphbhgaaDoor
