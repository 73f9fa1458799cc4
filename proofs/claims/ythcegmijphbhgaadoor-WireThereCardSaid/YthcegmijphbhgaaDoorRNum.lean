/-
  The mathematics of numbers read byte by byte, and the contract of the model's number. Each statement bears its own conditions.
-/
import Derived.Test.YthcegmijphbhgaaDoorVar
import Derived.Test.YthcegmijphbhgaaDoorRTake
namespace Go.Proofs.YthcegmijphbhgaaDoor
open Go.RowKit
set_option linter.unusedSimpArgs false
set_option linter.unusedVariables false
def accG (a : Int) (l : List Int) : Int := l.foldl (fun a b => a * 128 % 18446744073709551616 + b % 128) a
theorem accG_cons (a b : Int) (l : List Int) : accG a (b :: l) = accG (a * 128 % 18446744073709551616 + b % 128) l := rfl
theorem accG_far (l : List Int) : ∀ a : Int, 0 ≤ a → (a + 1) * 128 ^ l.length ≤ 18446744073709551616 → accG a l = a * 128 ^ l.length + accG 0 l ∧ 0 ≤ accG 0 l ∧ accG 0 l < 128 ^ l.length := by
  induction l with
  | nil => intro a _ _; simp [accG]
  | cons b l ih =>
    intro a ha h
    have hp : (1 : Int) ≤ 128 ^ l.length := by
      have := Int.pow_pos (n := 128) (m := l.length) (by omega); omega
    obtain ⟨P, hP⟩ : ∃ P : Int, 128 ^ l.length = P := ⟨_, rfl⟩
    have hlen : (128 : Int) ^ (b :: l).length = 128 * P := by rw [List.length_cons, Int.pow_succ, hP, Int.mul_comm]
    rw [hlen] at h ⊢
    rw [hP] at ih hp
    have hb0 : 0 ≤ b % 128 := by omega
    have hb1 : b % 128 ≤ 127 := by omega
    have hbig : (a + 1) * 128 ≤ 18446744073709551616 := by
      have : (a + 1) * 128 * 1 ≤ (a + 1) * 128 * P := Int.mul_le_mul_of_nonneg_left hp (by omega)
      rw [Int.mul_one] at this
      have e : (a + 1) * 128 * P = (a + 1) * (128 * P) := Int.mul_assoc _ _ _
      omega
    have hm : a * 128 % 18446744073709551616 = a * 128 := by omega
    have h1 : (a * 128 + b % 128 + 1) * P ≤ 18446744073709551616 := by
      have : (a * 128 + b % 128 + 1) * P ≤ ((a + 1) * 128) * P := Int.mul_le_mul_of_nonneg_right (by omega) (by omega)
      have e : (a + 1) * 128 * P = (a + 1) * (128 * P) := Int.mul_assoc _ _ _
      omega
    have h2 : (b % 128 + 1) * P ≤ 18446744073709551616 := by
      have : (b % 128 + 1) * P ≤ (a * 128 + b % 128 + 1) * P := Int.mul_le_mul_of_nonneg_right (by omega) (by omega)
      omega
    obtain ⟨i1, i2, i3⟩ := ih (a * 128 + b % 128) (by omega) h1
    obtain ⟨j1, _, _⟩ := ih (b % 128) hb0 h2
    have e0 : accG 0 (b :: l) = (b % 128) * P + accG 0 l := by
      rw [accG_cons, show (0 : Int) * 128 % 18446744073709551616 + b % 128 = b % 128 by omega]; exact j1
    refine ⟨?_, ?_, ?_⟩
    · rw [accG_cons, hm, i1, e0, Int.add_mul, Int.mul_assoc, Int.add_assoc]
    · rw [e0]; have := Int.mul_nonneg hb0 (show (0 : Int) ≤ P by omega); omega
    · rw [e0]
      have : b % 128 * P ≤ 127 * P := Int.mul_le_mul_of_nonneg_right hb1 (by omega)
      omega
theorem acc_small (L : List Int) (i : Nat) (h : i ≤ 8) : ¬ 144115188075855871 < accW (L.take i) := by
  have hl : (L.take i).length ≤ 8 := by rw [List.length_take]; omega
  obtain ⟨M, hM⟩ : ∃ M, L.take i = M := ⟨_, rfl⟩
  rw [hM] at hl ⊢
  have hpw : (128 : Int) ^ M.length ≤ 72057594037927936 := by
    have : (128 : Nat) ^ M.length ≤ 128 ^ 8 := Nat.pow_le_pow_right (by omega) hl
    have h2 : ((128 ^ M.length : Nat) : Int) ≤ ((128 ^ 8 : Nat) : Int) := by exact_mod_cast this
    simpa using h2
  obtain ⟨_, _, h3⟩ := accG_far M 0 (by omega) (by omega)
  have : accG 0 M = accW M := rfl
  omega
theorem acc_nine (L : List Int) (hl : 9 ≤ L.length) (h0 : 128 ≤ L.headD 0) (h1 : L.headD 0 ≤ 255) : 144115188075855871 < accW (L.take 9) ↔ 129 < L.headD 0 := by
  cases L with
  | nil => simp at hl
  | cons b l =>
    simp only [List.headD_cons] at h0 h1 ⊢
    have hl8 : (l.take 8).length = 8 := by rw [List.length_take]; simp at hl; omega
    have e : (b :: l).take 9 = b :: l.take 8 := rfl
    obtain ⟨h2, h3, h4⟩ := accG_far (l.take 8) (b % 128) (by omega) (by rw [hl8]; omega)
    rw [hl8] at h2 h4
    have h5 : accW ((b :: l).take 9) = b % 128 * 128 ^ 8 + accG 0 (l.take 8) := by
      rw [e, ← h2]
      show accG 0 (b :: l.take 8) = _
      rw [accG_cons, show (0 : Int) * 128 % 18446744073709551616 + b % 128 = b % 128 by omega]
    rw [h5]
    omega
structure KR (L : List Int) (w : World) (k : Value) (wr : World) : Prop where
  ex : ∃ j : Nat, j ≤ L.length ∧ j ≤ 10 ∧ j ≤ lead L ∧ k = .int .i64 (j : Int) ∧ wr = w
structure VR (L : List Int) (j : Nat) (w : World) (v i : Value) (wr : World) : Prop where
  ex : ∃ t : Nat, t ≤ j + 1 ∧ (t = 10 → ¬ 144115188075855871 < accW (L.take 9)) ∧ v = .int .u64 (accW (L.take t)) ∧ i = .int .i64 (t : Int) ∧ wr = w
set_option maxHeartbeats 1000000 in
theorem number_any (A : Option Addr) (n c : Nat) (L : List Int) (w : World) (h : Reads w w.heap.size 1 A n (U L)) (hl : L.length = n) (hy : Bytes L) (hn : n ≤ 1048576) :
    Calls Tryd.prog 47 #[.slice A n c] w fun e w' => e = .returned (.tuple #[.int .u64 (numV L), .int .i64 (numK L : Int), .int .i64 (numR L)]) ∧ Below w.heap.size w w' := by
  have H := Lib.hid h
  have HL := Lib.hid hl
  have HY := Lib.hid hy
  have HN := Lib.hid hn
  clear h hl hy hn
  go_enter Tryd.func47, Tryd.ntmps47
  go_wp2_with fail
  go_loopw [5] (fun k wr => KR L w k wr) (fun k _ => 10 - (intOf k).toNat)
  case atStart => exact ⟨⟨0, by omega, by omega, by omega, rfl, rfl⟩⟩
  case round =>
    obtain ⟨⟨j, hj, hj10, hjl, rfl, rfl⟩⟩ := hrel
    by_cases h10 : j = 10
    · have HJ : Hid (10 ≤ lead L) := by unfold Hid; omega
      have g1 : ¬ (j : Int) < 10 := by omega
      have g2 : (j : Int) = 10 := by omega
      have HNN : Hid (10 ≤ n) := by have := HL.out; unfold Hid; omega
      have V : numV L = 0 ∧ numK L = 0 ∧ numR L = 3 := num_form L (.inl HJ.out)
      have HV := Lib.hid V
      clear V h10 hj hj10 hjl
      have g3 : ((j : Int) == 10) = true := by rw [g2]; rfl
      clear g2
      by_cases hlt : (j : Int) < (n : Int)
      · have g4 : ((j : Int) == (n : Int)) = false := by rw [beq_eq_false_iff_ne]; omega
        go_wp2_with fail
        go_ret3
        exact ⟨by rw [HV.out.1, HV.out.2.1, HV.out.2.2]; rfl, Below.refl _ _⟩
      · by_cases hjn : (j : Int) = (n : Int)
        · have g4 : ((j : Int) == (n : Int)) = true := by rw [beq_iff_eq]; exact hjn
          clear hjn
          go_wp2_with fail
          go_ret3
          exact ⟨by rw [HV.out.1, HV.out.2.1, HV.out.2.2]; rfl, Below.refl _ _⟩
        · have g4 : ((j : Int) == (n : Int)) = false := by rw [beq_eq_false_iff_ne]; exact hjn
          clear hjn
          go_wp2_with fail
          go_ret3
          exact ⟨by rw [HV.out.1, HV.out.2.1, HV.out.2.2]; rfl, Below.refl _ _⟩
    by_cases hlt : j < n
    · obtain ⟨b, off, hA, _, _, hc⟩ := place_of H.out (by omega)
      subst hA
      obtain ⟨x, hx⟩ : ∃ x, L.getD j 0 = x := ⟨_, rfl⟩
      obtain ⟨y, hy⟩ : ∃ y, L.getD 0 0 = y := ⟨_, rfl⟩
      have c0 := hc 0 (by omega)
      have cj := hc j (by omega)
      have hxb := HY.out j (by have := HL.out; omega)
      have hyb := HY.out 0 (by have := HL.out; omega)
      rw [hx] at hxb cj
      rw [hy] at hyb c0
      rw [Nat.add_zero] at c0
      have HC := Lib.hid hc
      obtain ⟨x0, x1⟩ := hxb
      obtain ⟨y0, y1⟩ := hyb
      have hlt' : (j : Int) < (n : Int) := by omega
      have hn0 : (0 : Int) < (n : Int) := by omega
      have hne : ((j : Int) == (n : Int)) = false := by rw [beq_eq_false_iff_ne]; omega
      have HX := Lib.hid hx
      have HJ := Lib.hid hjl
      have HYY : Hid (L.headD 0 = y) := by unfold Hid; rw [← hy]; cases L <;> rfl
      have HJL : Hid (j < L.length) := by have := HL.out; unfold Hid; omega
      clear hc hj hx hy hjl
      have hj10' : (j : Int) < 10 := by omega
      have hne10 : ((j : Int) == 10) = false := by rw [beq_eq_false_iff_ne]; omega
      by_cases hx8 : 128 ≤ x
      · have hjl' : Hid (j + 1 ≤ lead L) := by
          unfold Hid
          have h1 := HJ.out
          rcases Nat.lt_or_ge j (lead L) with h2 | h2
          · exact h2
          · have h3 : lead L = j := by omega
            have := lead_at L (by have := HJL.out; omega)
            rw [h3, HX.out] at this; omega
        have hj11 : j + 1 ≤ 10 := by omega
        go_wp2_with fail
        go_roundw
        case rel => exact ⟨⟨j + 1, HJL.out, hj11, hjl'.out, by go_num, rfl⟩⟩
        case measure => simp [intOf]; omega
      · have LE : Hid (lead L = j) := by
          unfold Hid
          have h1 := HJ.out
          rcases Nat.lt_or_ge j (lead L) with h2 | h2
          · have := lead_lt L j h2; rw [HX.out] at this; omega
          · omega
        have hsh : Hid (¬ lead L = L.length) := by have := LE.out; have := HJL.out; unfold Hid; omega
        have hwj : IntKind.i64.wrap ((j : Int) + 1) = (j : Int) + 1 := by rw [IntKind.wrap_i64]; omega
        by_cases hy8 : y = 128
        · have V : numV L = 0 ∧ numK L = 0 ∧ numR L = 3 := num_form L (.inr ⟨hsh.out, .inl (HYY.out.trans hy8)⟩)
          have HV := Lib.hid V
          clear V
          go_wp2_with fail
          go_ret3
          exact ⟨by rw [HV.out.1, HV.out.2.1, HV.out.2.2]; rfl, Below.refl _ _⟩
        · have hy8' : (y == 128) = false := by rw [beq_eq_false_iff_ne]; exact hy8
          go_wp2_with fail
          go_loopw [6, 7] (fun v i wx => VR L j wr v i wx) (fun _ i _ => 11 - (intOf i).toNat)
          case atStart => exact ⟨⟨0, by omega, by omega, rfl, rfl, rfl⟩⟩
          case round =>
            obtain ⟨⟨t, ht, ht9, rfl, rfl, rfl⟩⟩ := hrel
            have HT9 := Lib.hid ht9
            clear ht9
            obtain ⟨a, ha⟩ : ∃ a, accW (L.take t) = a := ⟨_, rfl⟩
            have hab := accW_bd (L.take t)
            rw [ha] at hab
            obtain ⟨a0, a1⟩ := hab
            by_cases htj : t ≤ j
            · obtain ⟨z, hz⟩ : ∃ z, L.getD t 0 = z := ⟨_, rfl⟩
              have cz := HC.out t (by have := HL.out; have := HJL.out; omega)
              have hzb := HY.out t (by have := HL.out; have := HJL.out; omega)
              rw [hz] at hzb cz
              obtain ⟨z0, z1⟩ := hzb
              have htI : (t : Int) ≤ (j : Int) := by omega
              have htn : (t : Int) < (n : Int) := by omega
              by_cases hbad : 144115188075855871 < a
              · have V : numV L = 0 ∧ numK L = 0 ∧ numR L = 3 := by
                  have h8 : ¬ t ≤ 8 := fun h8 => acc_small L t h8 (by rw [ha]; exact hbad)
                  have h9 : t = 9 := by omega
                  subst h9
                  have hj9 : j = 9 := by omega
                  have h0 := lead_lt L 0 (by have := LE.out; omega)
                  have e0 : L.getD 0 0 = L.headD 0 := by cases L <;> rfl
                  rw [e0] at h0
                  have := (acc_nine L (by have := HJL.out; omega) h0 (by rw [HYY.out]; exact y1)).1 (by rw [ha]; exact hbad)
                  exact num_form L (.inr ⟨hsh.out, .inr ⟨LE.out.trans hj9, this⟩⟩)
                have HV := Lib.hid V
                rw [ha]
                clear V ha hz ht
                go_wp2_with fail
                go_ret3
                exact ⟨by rw [HV.out.1, HV.out.2.1, HV.out.2.2]; rfl, Below.refl _ _⟩
              · have HT : Hid (accW (L.take (t + 1)) = 128 * a + z % 128) := by
                  unfold Hid
                  rw [take_snoc (by have := HJL.out; omega), accW_snoc, ha, hz]; omega
                have b3 : IntKind.u64.wrap (128 * a) = 128 * a := by rw [IntKind.wrap_u64]; omega
                have b4 : IntKind.u64.wrap (128 * a + z % 128) = 128 * a + z % 128 := by rw [IntKind.wrap_u64]; omega
                have b5 : IntKind.u64.wrap (z % 128) = z % 128 := by rw [IntKind.wrap_u64]; omega
                have htj1 : t + 1 ≤ j + 1 := by omega
                have ht10 : Hid (t + 1 = 10 → ¬ 144115188075855871 < accW (L.take 9)) := by
                  unfold Hid; intro q
                  have : t = 9 := by omega
                  subst this; rw [ha]; exact hbad
                rw [ha]
                clear ha hz ht
                go_wp2_with fail
                go_roundw
                case rel => exact ⟨⟨t + 1, htj1, ht10.out, by rw [HT.out], by go_num, rfl⟩⟩
                case measure => simp [intOf]; omega
            · have htI : ¬ (t : Int) ≤ (j : Int) := by omega
              have V : numV L = a ∧ numK L = j + 1 ∧ numR L = 0 := by
                have h1 := LE.out; have h2 := hsh.out; have h3 := HYY.out
                have ht1 : t = j + 1 := by omega
                have h9 : ¬ (lead L = 9 ∧ 129 < L.headD 0) := by
                  rintro ⟨q1, q2⟩
                  have h0 := lead_lt L 0 (by omega)
                  have e0 : L.getD 0 0 = L.headD 0 := by cases L <;> rfl
                  rw [e0] at h0
                  exact HT9.out (by omega) ((acc_nine L (by have := HJL.out; omega) h0 (by rw [HYY.out]; exact y1)).2 q2)
                have h4 : ¬ (10 ≤ lead L ∨ lead L = L.length ∨ L.headD 0 = 128 ∨ (lead L = 9 ∧ 129 < L.headD 0)) := by rw [h3] at h9 ⊢; omega
                refine ⟨?_, ?_, ?_⟩
                · rw [numV, if_neg h4, h1, ← ht1]; exact ha
                · rw [numK, if_neg h4, h1]
                · rw [numR, if_neg (fun hh => h2 hh.2), if_neg (fun hh => h4 (by rcases hh with q | q | q; exact .inl q; exact .inr (.inr (.inl q)); exact .inr (.inr (.inr q))))]
              have HV := Lib.hid V
              rw [ha]
              clear V ha ht
              go_wp2_with fail
              go_ret3
              exact ⟨by rw [HV.out.1, HV.out.2.1, HV.out.2.2]; simp, Below.refl _ _⟩
    · have V : numV L = 0 ∧ numK L = 0 ∧ numR L = 4 := by
        have h0 := lead_le L
        have h1 := HL.out
        have h2 : lead L = L.length := by omega
        have h3 : lead L < 10 := by omega
        refine ⟨?_, ?_, ?_⟩
        · rw [numV, if_pos (.inr (.inl h2))]
        · rw [numK, if_pos (.inr (.inl h2))]
        · rw [numR, if_pos ⟨h3, h2⟩]
      have HV := Lib.hid V
      have hjn : j = n := by have := HL.out; omega
      subst hjn
      have hjI : (j : Int) < 10 := by omega
      clear V hjl
      go_wp2_with fail
      go_ret3
      exact ⟨by rw [HV.out.1, HV.out.2.1, HV.out.2.2]; rfl, Below.refl _ _⟩
end Go.Proofs.YthcegmijphbhgaaDoor
