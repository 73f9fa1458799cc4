/-
  SemaTurns' walk. Each statement bears its own conditions.
-/
import Derived.Test.YtobnhjkcbhajbaaSmD
namespace Go.Proofs.Ytobnhjkcbhajbaa.S
open Go.RowKit Go.Proofs.Ytobnhjkcbhajbaa.W
set_option linter.unusedVariables false
set_option linter.unusedSimpArgs false
theorem u8_wf (n : Int) (h : (Lit.int .u8 n).wf = true) : 0 ≤ n ∧ n ≤ 255 := by
  simp only [Lit.wf, Bool.and_eq_true, decide_eq_true_eq] at h
  exact h
/-- Behind the first j that ask. -/
structure TA (lo g f m n : Nat) (w : World) (iv : Value) (wr : World) : Prop where
  ex : ∃ j rb : Nat, j ≤ n ∧ iv = .int .i64 (j : Int) ∧ SV lo wr g rb ⟨((f - j : Nat) : Int), (m : Int), false⟩ (seqP f j) ∧ Below lo w wr
/-- Those ahead of k are woken. -/
structure TB (lo g f m n : Nat) (w : World) (iv : Value) (wr : World) : Prop where
  ex : ∃ k rb : Nat, f ≤ k ∧ iv = .int .i64 (k : Int) ∧ (k = f ∨ k ≤ n) ∧ SV lo wr g rb ⟨((f - n : Nat) : Int), (m : Int), false⟩ (seqP k n) ∧ Below lo w wr
def cntOf (w : World) (g : Nat) : Nat := match w.cell? ⟨g, 0, none⟩ with
  | some (.int _ c) => c.toNat
  | _ => 0
theorem SV.cntOf {lo : Nat} {w : World} {g rb : Nat} {c m : Int} {p : Bool} {L : List (Int × Int)} (h : SV lo w g rb ⟨c, m, p⟩ L) : cntOf w g = c.toNat := by
  obtain ⟨v, a, _⟩ := h.ex
  have h0 : w.cell? ⟨g, 0, none⟩ = some (.int .i64 c) := by rw [(row_cell a 0).1]; rfl
  unfold S.cntOf
  rw [h0]
structure TC (lo g m : Nat) (w wr : World) : Prop where
  ex : ∃ c rb : Nat, c ≤ m ∧ SV lo wr g rb ⟨(c : Int), (m : Int), false⟩ [] ∧ Below lo w wr
set_option maxRecDepth 100000 in
set_option maxHeartbeats 8000000 in
theorem turns_walk (b0 b1 b2 : Nat) (w : World) (h0 : b0 ≤ 255) (h1 : b1 ≤ 255) (h2 : b2 ≤ 255) : Calls Try.prog 7 #[.int .u8 (b0 : Int), .int .u8 (b1 : Int), .int .u8 (b2 : Int)] w fun e w' => e = .returned (.bool true) ∧ Below w.heap.size w w' := by
  have he : ∀ (x : Nat) (w : World), (binOp .eql 24 (.pointer (some ⟨x, 0, none⟩)) (.pointer none)).run Try.prog w = .ok (.bool false) w := fun _ _ => rfl
  obtain ⟨lo, hlo⟩ : ∃ lo, w.heap.size = lo := ⟨_, rfl⟩
  have SP := Lib.hid (speaks_any w)
  have HLO : Hid (lo ≤ w.heap.size ∧ w.heap.size ≤ lo) := by unfold Hid; omega
  obtain ⟨q1, hq1⟩ : ∃ q1, b1 % 40 = q1 := ⟨_, rfl⟩
  obtain ⟨m, hm⟩ : ∃ m, 1 + q1 = m := ⟨_, rfl⟩
  obtain ⟨f, hf⟩ : ∃ f, b0 % (m + 1) = f := ⟨_, rfl⟩
  obtain ⟨n, hn⟩ : ∃ n, b2 % 40 = n := ⟨_, rfl⟩
  have hfm : f < m + 1 := by rw [← hf]; exact Nat.mod_lt _ (by omega)
  have HM : Hid (1 ≤ m ∧ m ≤ 40 ∧ f ≤ m ∧ n ≤ 39) := by unfold Hid; omega
  have t1 : (b1 : Int).tmod 40 = (q1 : Int) := by rw [Int.tmod_eq_emod_of_nonneg (by omega)]; omega
  have t0 : (b0 : Int).tmod ((m : Int) + 1) = (f : Int) := by
    rw [Int.tmod_eq_emod_of_nonneg (by omega), ← hf]
    first | exact (Int.natCast_emod b0 (m + 1)).symm | exact (Int.ofNat_emod b0 (m + 1)).symm | (push_cast; rfl)
  have t2 : (b2 : Int).tmod 40 = (n : Int) := by rw [Int.tmod_eq_emod_of_nonneg (by omega)]; omega
  have hmq : (1 : Int) + (q1 : Int) = (m : Int) := by omega
  have hm40 : (m : Int) ≤ 40 := by omega
  have hq39 : (q1 : Int) ≤ 39 := by omega
  have hnz : ¬ ((m : Int) + 1 = 0) := by omega
  rw [hlo] at SP ⊢
  clear hlo hq1 hm hf hn hfm
  go_enter Try.func7, Try.ntmps7
  go_wp2_with fail
  refine SP.out.mono ?_
  rintro e w4 ⟨rfl, b4⟩
  have B4 := Lib.hid b4
  clear b4 SP
  go_wp2_with fail
  obtain ⟨g, hg⟩ : ∃ g, w4.heap.size = g := ⟨_, rfl⟩
  have NW := Lib.hid (new_any (f : Int) (m : Int) false w4 (by have := HM.out; omega))
  have HG : Hid (lo ≤ g) := by have := B4.out.size; have := HLO.out; unfold Hid; omega
  rw [hg] at NW
  clear hg
  refine NW.out.mono ?_
  rintro e w5 ⟨rfl, q5, b5⟩
  have Q5 : Hid (SV lo w5 g g ⟨(f : Int), (m : Int), false⟩ []) := q5.less HG.out
  have B5 : Hid (Below lo w w5) := B4.out.trans (b5.mono HG.out)
  clear q5 b5 NW B4 t1 t0 t2 hmq hnz
  go_wp2_with fail
  go_loopw [51] (fun iv wr => TA lo g f m n w iv wr) (fun i _ => n - (intOf i).toNat)
  case atStart => exact ⟨⟨0, g, Nat.zero_le _, rfl, by rw [seqP_nil (Nat.zero_le _)]; exact Q5.out, B5.out⟩⟩
  case round =>
    clear Q5 B5
    obtain ⟨⟨j, rb, hj, rfl, hs, hb⟩⟩ := hrel
    have HS := Lib.hid hs
    have HB := Lib.hid hb
    have HJ : Hid (j ≤ n ∧ n ≤ 39 ∧ f ≤ m ∧ m ≤ 40) := by have := HM.out; unfold Hid; omega
    clear hs hb
    by_cases hlt : j < n
    · have hjI : (j : Int) < (n : Int) := by omega
      have hj39 : (j : Int) ≤ 39 := by have := HJ.out; omega
      have HX : Hid (j < n) := hlt
      by_cases hjf : j < f
      · have hjf1 : (j : Int) < (f : Int) := by omega
        have HF : Hid (j < f) := hjf
        have HS1 : Hid (SV lo wr g rb ⟨((f - j : Nat) : Int), (m : Int), false⟩ []) := by have := HS.out; rw [seqP_nil (by omega)] at this; exact this
        clear hj hlt hjf
        go_wp2_with fail
        refine (wait_take lo g rb _ _ _ [] (j : Int) (63 - (j : Int)) wr HS1.out (by simp) (by simp [idsP]) (by have := HF.out; omega) (by have := HJ.out; omega)).mono ?_
        rintro e w6 ⟨rfl, q6, n6⟩
        have Q6 : Hid (SV lo w6 g rb ⟨((f - (j + 1) : Nat) : Int), (m : Int), false⟩ (seqP f (j + 1))) := by
          have h1 : ((f - j : Nat) : Int) - 1 = ((f - (j + 1) : Nat) : Int) := by have := HF.out; omega
          rw [h1] at q6
          rw [seqP_nil (by have := HF.out; omega)]
          exact q6
        have B6 : Hid (Below lo w w6) := HB.out.trans (n6.below HS1.out)
        clear q6 n6
        go_wp2_with fail
        go_roundw
        case rel =>
          have Q : TA lo g f m n w (.int .i64 ((j : Int) + 1)) w6 := ⟨⟨j + 1, rb, HX.out, by go_num, Q6.out, B6.out⟩⟩
          first | exact Q | ((repeat apply Exists.intro); exact ⟨Q, rfl⟩)
        case measure => have := HX.out; simp [intOf]; omega
      · have hjf1 : ¬ (j : Int) < (f : Int) := by omega
        have HF : Hid (f ≤ j) := by unfold Hid; omega
        have HS1 : Hid (SV lo wr g rb ⟨0, (m : Int), false⟩ (seqP f j)) := by
          have := HS.out
          rw [show ((f - j : Nat) : Int) = 0 by omega] at this
          exact this
        clear hj hlt hjf
        go_wp2_with fail
        refine (wait_join_false lo g rb 0 _ (seqP f j) (j : Int) (63 - (j : Int)) wr HS1.out (by rw [seqP_len]; have := HJ.out; omega) (seqP_ids (Int.le_refl _)) (by omega) (srt_zero fun x hx => (seqP_mem hx).1)).mono ?_
        rintro e w6 ⟨rfl, rb6, q6, n6⟩
        have Q6 : Hid (SV lo w6 g rb6 ⟨((f - (j + 1) : Nat) : Int), (m : Int), false⟩ (seqP f (j + 1))) := by
          have h1 : wq false (63 - (j : Int)) = 0 := rfl
          rw [h1, join_zero (fun x hx => (seqP_mem hx).1)] at q6
          rw [seqP_snoc HF.out, show ((f - (j + 1) : Nat) : Int) = 0 by have := HF.out; omega]
          exact q6
        have B6 : Hid (Below lo w w6) := HB.out.trans (n6.below HS1.out)
        clear q6 n6
        go_wp2_with fail
        go_roundw
        case rel =>
          have Q : TA lo g f m n w (.int .i64 ((j : Int) + 1)) w6 := ⟨⟨j + 1, rb6, HX.out, by go_num, Q6.out, B6.out⟩⟩
          first | exact Q | ((repeat apply Exists.intro); exact ⟨Q, rfl⟩)
        case measure => have := HX.out; simp [intOf]; omega
    · have hjI : ¬ (j : Int) < (n : Int) := by omega
      obtain rfl : j = n := by omega
      clear hlt
      go_wp2_with fail
      go_loopw [13] (fun iv wr => TB lo g f m j w iv wr) (fun i _ => j - (intOf i).toNat)
      case atStart => exact ⟨⟨f, rb, Nat.le_refl _, rfl, .inl rfl, HS.out, HB.out⟩⟩
      case round =>
        clear HS HB
        obtain ⟨⟨k, rb2, hk1, rfl, hk2, hs, hb⟩⟩ := hrel
        have HS := Lib.hid hs
        have HB := Lib.hid hb
        have HK : Hid (f ≤ k ∧ (k = f ∨ k ≤ j)) := ⟨hk1, hk2⟩
        clear hs hb hk1 hk2
        by_cases hlt : k < j
        · have hkI : (k : Int) < (j : Int) := by omega
          have hk39 : (k : Int) ≤ 39 := by have := HJ.out; omega
          have HX : Hid (k < j) := hlt
          have HS1 : Hid (SV lo wr g rb2 ⟨((f - j : Nat) : Int), (m : Int), false⟩ (((k : Int), 0) :: seqP (k + 1) j)) := by have := HS.out; rw [seqP_cons hlt] at this; exact this
          clear hlt
          go_wp2_with fail
          refine (signal_wakes lo g rb2 _ _ (seqP (k + 1) j) wr HS1.out (by rw [seqP_len]; have := HJ.out; omega)).mono ?_
          rintro e w6 ⟨rfl, rb6, q6, n6⟩
          have Q6 := Lib.hid q6
          have B6 : Hid (Below lo w w6) := HB.out.trans (n6.below HS1.out)
          clear q6 n6
          go_wp2_with fail
          go_roundw
          case rel =>
            have Q : TB lo g f m j w (.int .i64 ((k : Int) + 1)) w6 := ⟨⟨k + 1, rb6, by have := HK.out; omega, by go_num, .inr HX.out, Q6.out, B6.out⟩⟩
            first | exact Q | ((repeat apply Exists.intro); exact ⟨Q, rfl⟩)
          case measure => have := HX.out; simp [intOf]; omega
        · have hkI : ¬ (k : Int) < (j : Int) := by omega
          have HS1 : Hid (SV lo wr g rb2 ⟨((f - j : Nat) : Int), (m : Int), false⟩ []) := by have := HS.out; rw [seqP_nil (by omega)] at this; exact this
          clear hlt
          go_wp2_with fail
          go_loopw [17] (fun v wr => TC lo g m w wr) (fun _ wr => m - cntOf wr g)
          case atStart => exact ⟨⟨f - j, rb2, by have := HJ.out; omega, HS1.out, HB.out⟩⟩
          case round =>
            clear HS HS1 HB
            obtain ⟨⟨c, rb3, hcm, hs, hb⟩⟩ := hrel
            have HS := Lib.hid hs
            have HB := Lib.hid hb
            have HC : Hid (c ≤ m) := hcm
            clear hs hb
            by_cases hlt : c < m
            · have hcI : (c : Int) < (m : Int) := by omega
              have hc40 : (c : Int) ≤ 39 := by have := HJ.out; omega
              have HX : Hid (c < m) := hlt
              clear hcm hlt
              go_wp2_with fail
              refine (count_any lo g rb3 _ _ wr HS.out).mono ?_
              rintro e w6 ⟨rfl, hw⟩
              have hw := hw.symm
              subst hw
              go_wp2_with fail
              refine (count_any lo g rb3 _ _ wr HS.out).mono ?_
              rintro e w6 ⟨rfl, hw⟩
              have hw := hw.symm
              subst hw
              go_wp2_with fail
              refine (signal_more lo g rb3 _ _ _ wr HS.out (by have := HX.out; omega) (by have := HX.out; have := HJ.out; omega)).mono ?_
              rintro e w6 ⟨rfl, q6, n6⟩
              have Q6 := Lib.hid q6
              have B6 : Hid (Below lo w w6) := HB.out.trans (n6.below HS.out)
              clear q6 n6
              go_wp2_with fail
              refine (count_any lo g rb3 _ _ w6 Q6.out).mono ?_
              rintro e w7 ⟨rfl, hw⟩
              have hw := hw.symm
              subst hw
              go_wp2_with fail
              go_roundw
              case rel =>
                have Q : TC lo g m w w6 := ⟨⟨c + 1, rb3, HX.out, by rw [Int.natCast_add, Int.natCast_one]; exact Q6.out, B6.out⟩⟩
                first | exact Q | ((repeat apply Exists.intro); exact ⟨Q, rfl⟩)
              case measure =>
                have h1 := HS.out.cntOf
                have h2 := Q6.out.cntOf
                have h3 := HX.out
                rw [h1, h2]
                omega
            · have hcI : ¬ (c : Int) < (m : Int) := by omega
              obtain rfl : c = m := by omega
              clear hcm hlt
              go_wp2_with fail
              refine (count_any lo g rb3 _ _ wr HS.out).mono ?_
              rintro e w6 ⟨rfl, hw⟩
              have hw := hw.symm
              subst hw
              go_wp2_with fail
              refine (signal_full lo g rb3 _ _ _ wr HS.out rfl).mono ?_
              rintro e w6 ⟨rfl, q6, n6⟩
              have Q6 := Lib.hid q6
              have B6 : Hid (Below lo w w6) := HB.out.trans (n6.below HS.out)
              clear q6 n6
              go_wp2_with fail
              refine (count_any lo g rb3 _ _ w6 Q6.out).mono ?_
              rintro e w7 ⟨rfl, hw⟩
              have hw := hw.symm
              subst hw
              go_wp2_with fail
              go_ret
              exact ⟨rfl, B6.out⟩
end Go.Proofs.Ytobnhjkcbhajbaa.S
