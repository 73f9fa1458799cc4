/-
  The contracts of addWord, PutWord, addNumber, PutVar, PutText. Each statement bears its own conditions.
-/
import Derived.Test.YthcegmijphbhgaaDoorBase
import Derived.Laws.BitsAllLaws
import Derived.Lib.ItoaNum
namespace Go.Proofs.YthcegmijphbhgaaDoor
open Go.RowKit
set_option linter.unusedSimpArgs false
set_option linter.unusedVariables false

/-- What an append onto a row of the call's own leaves, as a row of the call's own. -/
theorem own_of {B : Nat} {W w w' : World} {v v' : Value} {n n' : Nat} {l l' : List Int} (hown : w.ownsRow B 5 1 v n (U l)) (hW : Below B W w) (hB : B ≤ w.heap.size) (hown' : w'.ownsRow B 5 1 v' n' (U l')) (hg : w.grownBy w' v.ownBlock) :
    ∃ A c, v' = .slice A n' c ∧ w'.ownsRow B 5 1 (.slice A n' c) n' (U l') ∧ Below B W w' := by
  obtain ⟨A, c, hv⟩ := slice_form hown'
  exact ⟨A, c, hv, hv ▸ hown', hW.grown hg hB (fun q hq => (hown.lt q hq).1)⟩

theorem addWord_any (B : Nat) (A : Option Addr) (n c : Nat) (l : List Int) (x : Int) (w : World) (hown : w.ownsRow B 5 1 (.slice A n c) n (U l)) (hB : B ≤ w.heap.size) (hn : n ≤ 1099511627776) (x0 : 0 ≤ x) (x1 : x ≤ 4294967295) :
    Calls Tryd.prog 37 #[.slice A n c, .int .u32 x] w (Own B w (n + 4) (l ++ wordB x)) := by
  obtain ⟨i0, hi, hz0, hz1, hz2⟩ := info_parts byte_info
  go_enter Tryd.func37, Tryd.ntmps37
  go_wp2_with (at_builtin; refine wpList_append_any _ rfl (.tmp 5) (.tmp 17) _ rfl B 5 i0 _ 1 1 Tryd.underlying22 hi hz0 hz1 hz2 rfl (by omega) (.slice A n c) n (U l) rfl (hown.alloc _) (w.heap.size + 1) (some ⟨w.heap.size, 0, none⟩) 4 4 (U (wordB x)) rfl (reads_new w (U (wordB x)) 5) (U_one _) ?c2 ?c3 ?c4 ?_)
  case c2 => unfold maxLen; omega
  case c3 => omega
  case c4 => simp; omega
  intro v1 w1 hown1 hg1 _
  rw [← List.map_append] at hown1
  obtain ⟨A1, c1, hv, ho, hb⟩ := own_of (hown.alloc _) ((Below.refl B w).alloc hB _) (by simp; omega) hown1 hg1
  rw [hv]
  clear hv hown1 hg1
  go_wp2_with fail
  go_ret
  exact ⟨A1, c1, rfl, ho, hb⟩

theorem putWord_any (A : Option Addr) (n c : Nat) (l : List Int) (x : Int) (w : World) (h : Reads w w.heap.size 1 A n (U l)) (hn : n ≤ 1048576) (x0 : 0 ≤ x) (x1 : x ≤ 4294967295) :
    Calls Tryd.prog 12 #[.slice A n c, .int .u32 x] w (Own w.heap.size w (n + 4) (l ++ wordB x)) := by
  go_enter Tryd.func12, Tryd.ntmps12
  go_wp2_with fail
  refine (fresh_any A n c 4 l w h (by omega)).mono ?_
  rintro e w1 ⟨A1, c1, rfl, ho, hb⟩
  go_wp2_with fail
  refine (addWord_any w.heap.size A1 n c1 l x w1 ho hb.size (by omega) x0 x1).mono ?_
  rintro e w2 ⟨A2, c2, rfl, ho2, hb2⟩
  go_wp2_with fail
  go_ret
  exact ⟨A2, c2, rfl, ho2, hb.trans hb2⟩

/-- A number's bytes: those ahead of the last one, and all. -/
def hiB : Nat → Nat → List Int
  | 0, _ => []
  | k + 1, m => hiB k (m / 128) ++ [((128 + m % 128 : Nat) : Int)]
def varB (m : Nat) : List Int := hiB ((Lib.bitLen (m ||| 1) - 1) / 7) (m / 128) ++ [((m % 128 : Nat) : Int)]

theorem or128 : ∀ x : Fin 256, bits BinOp.or IntKind.u8 (x.val : Int) 128 = ((128 + x.val % 128 : Nat) : Int) := by decide +kernel
theorem andNot128 : ∀ x : Fin 256, bits BinOp.andNot IntKind.u8 (x.val : Int) 128 = ((x.val % 128 : Nat) : Int) := by decide +kernel

theorem or_one (m : Nat) (h : m < 18446744073709551616) : bits BinOp.or IntKind.u64 (m : Int) 1 = ((m ||| 1 : Nat) : Int) :=
  u64_or_nat m 1 h (by omega)
theorem bitLen_or (m : Nat) (h : m < 18446744073709551616) : 1 ≤ Lib.bitLen (m ||| 1) ∧ Lib.bitLen (m ||| 1) ≤ 64 := by
  have h1 : m ||| 1 < 2 ^ 64 := Nat.or_lt_two_pow (n := 64) h (by omega)
  have h2 : m ||| 1 ≠ 0 := by
    have : 1 ≤ m ||| 1 := Nat.right_le_or
    omega
  exact ⟨(Lib.bitLenAux_bounds 64 _ h1 h2).1, Lib.bitLen_le _ 64 (by omega) h1⟩
theorem digit_of (m k : Nat) : bits BinOp.or IntKind.u8 ((m : Int) / 2 ^ (7 * k) % 256) 128 = ((128 + m / 128 ^ k % 128 : Nat) : Int) := by
  have e : ((m : Int) / 2 ^ (7 * k) % 256) = ((m / 128 ^ k % 256 : Nat) : Int) := by
    have p : (2 : Nat) ^ (7 * k) = 128 ^ k := by rw [Nat.pow_mul]
    have : ((2 : Int) ^ (7 * k)) = ((128 ^ k : Nat) : Int) := by rw [← p]; simp
    rw [this]; omega
  rw [e]
  have := or128 ⟨m / 128 ^ k % 256, Nat.mod_lt _ (by omega)⟩
  simp only at this
  rw [this]
  congr 1; omega
theorem last_of (m : Nat) : bits BinOp.andNot IntKind.u8 ((m : Int) % 256) 128 = ((m % 128 : Nat) : Int) := by
  have := andNot128 ⟨m % 256, Nat.mod_lt _ (by omega)⟩
  simp only at this
  have e : ((m : Int) % 256) = ((m % 256 : Nat) : Int) := by omega
  rw [e, this]
  congr 1; omega
theorem hiB_len (k m : Nat) : (hiB k m).length = k := by
  induction k generalizing m with
  | zero => rfl
  | succ k ih => simp [hiB, ih]

/-- The loop's relation: k bytes ahead of the last one are still to come. -/
def NumRel (B n : Nat) (l : List Int) (D m : Nat) (W : World) (v s : Value) (wr : World) : Prop :=
  ∃ (k : Nat) (A : Option Addr) (c : Nat), k ≤ D ∧ s = .int .i64 ((7 * k : Nat) : Int) ∧ v = .slice A (n + (D - k)) c ∧ wr.ownsRow B 5 1 (.slice A (n + (D - k)) c) (n + (D - k)) (U (l ++ hiB (D - k) (m / 128 ^ (k + 1)))) ∧ Below B W wr

theorem addNumber_any (B : Nat) (A : Option Addr) (n c : Nat) (l : List Int) (m : Nat) (w : World) (hown : w.ownsRow B 5 1 (.slice A n c) n (U l)) (hB : B ≤ w.heap.size) (hn : n ≤ 1099511627776) (hm : m < 18446744073709551616) :
    Calls Tryd.prog 35 #[.slice A n c, .int .u64 (m : Int)] w (Own B w (n + (varB m).length) (l ++ varB m)) := by
  obtain ⟨i0, hi, hz0, hz1, hz2⟩ := info_parts byte_info
  have ho := or_one m hm
  have hm1 : m ||| 1 < 18446744073709551616 := Nat.or_lt_two_pow (n := 64) hm (by omega)
  obtain ⟨b1, b2⟩ := bitLen_or m hm
  have L := Tryd.bits_Len64 ((m ||| 1 : Nat) : Int) w (by omega) (by omega)
  rw [Int.toNat_natCast] at L
  obtain ⟨q, hq⟩ : ∃ q, Hid (Lib.bitLen (m ||| 1) = q) := ⟨_, rfl⟩
  rw [hq.out] at L b1 b2
  rw [← ho] at L
  have HM := Lib.hid hm
  clear ho hm1 hm
  obtain ⟨D, hD⟩ : ∃ D, Hid ((q - 1) / 7 = D) := ⟨_, rfl⟩
  have hD1 : ((q : Int) - 1) / 7 * 7 = ((7 * D : Nat) : Int) := by have := hD.out; omega
  have hDl : D ≤ 9 := by have := hD.out; omega
  have hV : Hid (varB m = hiB D (m / 128) ++ [((m % 128 : Nat) : Int)]) := by unfold varB Hid; rw [hq.out, hD.out]
  go_enter Tryd.func35, Tryd.ntmps35
  go_wp2_with fail
  refine L.mono ?_
  clear L
  rintro e w1 ⟨rfl, rfl⟩
  go_wp2_with fail
  go_loopw [0, 5] (fun v s wr => NumRel B n l D m w1 v s wr) (fun _ s _ => (intOf s).toNat)
  case atStart => exact ⟨D, A, c, Nat.le_refl _, by go_num, by simp, by simpa [hiB] using hown, Below.refl _ _⟩
  case round =>
    obtain ⟨k, A, c, hk, rfl, rfl, hown, hbel⟩ := hrel
    have hBr : B ≤ wr.heap.size := Nat.le_trans hB hbel.size
    by_cases hk0 : k = 0
    · subst hk0
      have hl : U (l ++ hiB (D - 0) (m / 128 ^ (0 + 1))) = U (l ++ hiB D (m / 128)) := by simp
      rw [hl] at hown
      obtain ⟨dg, hdig, hdg⟩ : ∃ dg, bits BinOp.andNot IntKind.u8 ((m : Int) % 256) 128 = dg ∧ Hid (dg = ((m % 128 : Nat) : Int)) := ⟨_, rfl, last_of m⟩
      go_wp2_with (at_builtin; refine wpList_append_any _ rfl (.tmp 24) (.tmp 28) _ rfl B 5 i0 _ 1 1 Tryd.underlying22 hi hz0 hz1 hz2 rfl (by omega) (.slice A (n + (D - 0)) c) (n + (D - 0)) (U (l ++ hiB D (m / 128))) rfl (hown.alloc _) (wr.heap.size + 1) (some ⟨wr.heap.size, 0, none⟩) 1 1 (U [dg]) rfl (reads_new wr (U [dg]) 5) (U_one _) ?c2 ?c3 ?c4 ?_)
      case c2 => unfold maxLen; omega
      case c3 => omega
      case c4 => simp; omega
      intro v1 w3 hown1 hg1 _
      have hown1' : w3.ownsRow B 5 1 v1 (n + D + 1) (U (l ++ hiB D (m / 128) ++ [dg])) := by simpa using hown1
      obtain ⟨A1, c1, hv, ho1, hb1⟩ := own_of (hown.alloc _) (hbel.alloc hBr _) (by simp; omega) hown1' hg1
      rw [hv]
      clear hv hown1 hown1' hg1 hdig
      go_wp2_with fail
      go_ret
      have e1 : n + (varB m).length = n + D + 1 := by rw [hV.out]; simp [hiB_len]; omega
      have e2 : l ++ varB m = l ++ hiB D (m / 128) ++ [dg] := by rw [hV.out, hdg.out, List.append_assoc]
      unfold Own
      rw [e1, e2]
      exact ⟨A1, c1, rfl, ho1, hb1⟩
    · have k1 : (0 : Int) < ((7 * k : Nat) : Int) := by omega
      have k2 : ((7 * k : Nat) : Int) ≤ 63 := by omega
      obtain ⟨dg, hdig, hdg⟩ : ∃ dg, bits BinOp.or IntKind.u8 ((m : Int) / 2 ^ (7 * k) % 256) 128 = dg ∧ Hid (dg = ((128 + m / 128 ^ k % 128 : Nat) : Int)) := ⟨_, rfl, digit_of m k⟩
      go_wp2_with (at_builtin; refine wpList_append_any _ rfl (.tmp 16) (.tmp 22) _ rfl B 5 i0 _ 1 1 Tryd.underlying22 hi hz0 hz1 hz2 rfl (by omega) (.slice A (n + (D - k)) c) (n + (D - k)) (U (l ++ hiB (D - k) (m / 128 ^ (k + 1)))) rfl (hown.alloc _) (wr.heap.size + 1) (some ⟨wr.heap.size, 0, none⟩) 1 1 (U [dg]) rfl (reads_new wr (U [dg]) 5) (U_one _) ?c2 ?c3 ?c4 ?_)
      case c2 => unfold maxLen; omega
      case c3 => omega
      case c4 => simp; omega
      intro v1 w3 hown1 hg1 _
      have hown1' : w3.ownsRow B 5 1 v1 (n + (D - k) + 1) (U (l ++ hiB (D - k) (m / 128 ^ (k + 1)) ++ [dg])) := by simpa using hown1
      obtain ⟨A1, c1, hv, ho1, hb1⟩ := own_of (hown.alloc _) (hbel.alloc hBr _) (by simp; omega) hown1' hg1
      have e1 : n + (D - k) + 1 = n + (D - (k - 1)) := by omega
      have e2 : l ++ hiB (D - k) (m / 128 ^ (k + 1)) ++ [dg] = l ++ hiB (D - (k - 1)) (m / 128 ^ ((k - 1) + 1)) := by
        have a1 : D - (k - 1) = (D - k) + 1 := by omega
        have a2 : (k - 1) + 1 = k := by omega
        rw [a1, a2, hdg.out, hiB, Nat.div_div_eq_div_mul, ← Nat.pow_succ, List.append_assoc]
      rw [e2, e1] at ho1
      rw [e1] at hv
      rw [hv]
      have e3 : ((7 * k : Nat) : Int) - 7 = ((7 * (k - 1) : Nat) : Int) := by omega
      clear hv hown1 hown1' hg1 hdig e1 e2
      go_wp2_with fail
      go_roundw
      case rel => first | exact ⟨k - 1, A1, c1, by omega, by go_num, rfl, ho1, hb1⟩ | ((repeat apply Exists.intro); exact ⟨⟨k - 1, A1, c1, by omega, by go_num, rfl, ho1, hb1⟩, rfl⟩)
      case measure => simp [intOf]; omega
end Go.Proofs.YthcegmijphbhgaaDoor
