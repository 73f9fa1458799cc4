/-
  The contract of told. Each statement bears its own conditions.
-/
import Derived.Test.YtnobfmdjnldfpaaModel
namespace Go.Proofs.Ytnobfmdjnldfpaa
open Go.RowKit
set_option linter.unusedVariables false
set_option linter.unusedSimpArgs false
set_option maxRecDepth 100000 in
set_option maxHeartbeats 1000000 in
theorem told_any (g rb : Nat) (A : Option Addr) (n c : Nat) (id : Int) (m : List (Int × Int)) (w : World) (B : Nat) (h : TF w g rb (ord m)) (hr : Reads w B 2 A n (C m)) (hm : m.length = n) (hd : Dst m) (hn : n ≤ 1000) (hB : B ≤ w.heap.size) :
    Calls Try.prog 21 #[.pointer (some ⟨g, 0, none⟩), .slice A n c, .int .i64 id] w fun e w' => e = .returned (.bool true) ∧ Below w.heap.size w w' := by
  have HAT := Lib.hid (And.intro (at_ord hd id).2 (at_ord hd id).1)
  have HLn : Hid ((ord m).length = n) := by unfold Hid; rw [ord_len, hm]
  obtain ⟨L, hL⟩ : ∃ L, ord m = L := ⟨_, rfl⟩
  have HO := Lib.hid hL
  rw [hL] at h HAT HLn
  have HT := Lib.hid h
  have HR := Lib.hid hr
  have HM := Lib.hid hm
  have HN := Lib.hid hn
  have HBs := Lib.hid hB
  clear h hr hm hd hn hB hL
  by_cases h0 : n = 0
  · skip
    have HZ : Hid (n = 0) := h0
    have hnB : decide (0 < n) = false := by rw [decide_eq_false_iff_not]; omega
    clear h0
    go_enter Try.func21, Try.ntmps21
    go_wp2_with fail
    refine (at_any g rb id L w HT.out (by have := HLn.out; have := HN.out; omega)).mono ?_
    rintro e w2 ⟨rfl, b2⟩
    rw [HAT.out.1, HAT.out.2]
    have T2 := Lib.hid (HT.out.below b2)
    have R2 := Lib.hid ((HR.out.below (b2.mono HBs.out)))
    have B2 := Lib.hid b2
    have HBs2 : Hid (B ≤ w2.heap.size) := Nat.le_trans HBs.out b2.size
    clear b2
    go_wp2_with fail
    refine (rat_any A n c id m w2 B R2.out HM.out HN.out HBs2.out).mono ?_
    rintro e w4 ⟨rfl, b4⟩
    obtain ⟨av, hav⟩ : ∃ x, atV m id = x := ⟨_, rfl⟩
    obtain ⟨bv, hbv⟩ : ∃ x, hasB m id = x := ⟨_, rfl⟩
    rw [hav, hbv]
    have T4 := Lib.hid (T2.out.below b4)
    have R4 := Lib.hid (R2.out.below (b4.mono HBs2.out))
    have B4 := Lib.hid (B2.out.trans (b4.mono B2.out.size))
    have HBs4 : Hid (B ≤ w4.heap.size) := Nat.le_trans HBs2.out b4.size
    clear b4 hav hbv
    go_wp2_with fail
    refine (len_any g rb L w4 T4.out).mono ?_
    rintro e w3 ⟨rfl, h3⟩
    have h3 := h3.symm
    subst h3
    rw [HLn.out]
    go_wp2_with fail
    refine (next_any g rb L w4 T4.out).mono ?_
    rintro e w5 ⟨rfl, h5⟩
    have h5 := h5.symm
    subst h5
    rw [decide_eq_false (show ¬ 0 < L.length by have := HLn.out; have := HZ.out; omega), show (L.headD (0, 0)).2 = 0 by have := HLn.out; have := HZ.out; cases L with | nil => rfl | cons _ _ => simp at this; omega]
    go_wp2_with fail
    refine (order_any A n c m w4 B R4.out HM.out HN.out HBs4.out).mono ?_
    rintro e w6 ⟨A6, c6, rfl, o6, b6⟩
    have B6 := Lib.hid (B4.out.trans (b6.mono B4.out.size))
    rw [HO.out] at o6
    clear o6 b6
    go_wp2_with fail
    go_ret
    exact ⟨rfl, B6.out⟩
  · skip
    have HZ : Hid (0 < n) := by unfold Hid; omega
    have hnB : decide (0 < n) = true := by rw [decide_eq_true_iff]; omega
    clear h0
    go_enter Try.func21, Try.ntmps21
    go_wp2_with fail
    refine (at_any g rb id L w HT.out (by have := HLn.out; have := HN.out; omega)).mono ?_
    rintro e w2 ⟨rfl, b2⟩
    rw [HAT.out.1, HAT.out.2]
    have T2 := Lib.hid (HT.out.below b2)
    have R2 := Lib.hid ((HR.out.below (b2.mono HBs.out)))
    have B2 := Lib.hid b2
    have HBs2 : Hid (B ≤ w2.heap.size) := Nat.le_trans HBs.out b2.size
    clear b2
    go_wp2_with fail
    refine (rat_any A n c id m w2 B R2.out HM.out HN.out HBs2.out).mono ?_
    rintro e w4 ⟨rfl, b4⟩
    obtain ⟨av, hav⟩ : ∃ x, atV m id = x := ⟨_, rfl⟩
    obtain ⟨bv, hbv⟩ : ∃ x, hasB m id = x := ⟨_, rfl⟩
    rw [hav, hbv]
    have T4 := Lib.hid (T2.out.below b4)
    have R4 := Lib.hid (R2.out.below (b4.mono HBs2.out))
    have B4 := Lib.hid (B2.out.trans (b4.mono B2.out.size))
    have HBs4 : Hid (B ≤ w4.heap.size) := Nat.le_trans HBs2.out b4.size
    clear b4 hav hbv
    go_wp2_with fail
    refine (len_any g rb L w4 T4.out).mono ?_
    rintro e w3 ⟨rfl, h3⟩
    have h3 := h3.symm
    subst h3
    rw [HLn.out]
    go_wp2_with fail
    refine (next_any g rb L w4 T4.out).mono ?_
    rintro e w5 ⟨rfl, h5⟩
    have h5 := h5.symm
    subst h5
    rw [decide_eq_true (show 0 < L.length by have := HLn.out; have := HZ.out; omega)]
    obtain ⟨y, hy⟩ : ∃ y, (L.headD (0, 0)).2 = y := ⟨_, rfl⟩
    have HY : Hid ((L.getD 0 (0, 0)).2 = y) := by unfold Hid; rw [← hy]; cases L <;> rfl
    rw [hy]
    clear hy
    go_wp2_with fail
    refine (order_any A n c m w4 B R4.out HM.out HN.out HBs4.out).mono ?_
    rintro e w6 ⟨A6, c6, rfl, o6, b6⟩
    have B6 := Lib.hid (B4.out.trans (b6.mono B4.out.size))
    rw [HO.out] at o6
    obtain ⟨q, off, rfl, _, _, hc⟩ := place_p (Reads.of_own o6) HZ.out
    have e1 := (hc 0 HZ.out).2
    rw [HY.out, Nat.zero_mul, Nat.add_zero] at e1
    have hnI : (0 : Int) < (n : Int) := by have := HZ.out; omega
    clear o6 b6 hc
    go_wp2_with fail
    go_ret
    exact ⟨rfl, B6.out⟩
end Go.Proofs.Ytnobfmdjnldfpaa
