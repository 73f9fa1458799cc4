/-
  QueuingLost's walk. Each statement bears its own conditions.
-/
import Derived.Test.YtejambofnffopaaQuG
namespace Go.Proofs.Ytejambofnffopaa.Q
open Go.RowKit Go.Proofs.Ytejambofnffopaa.F Go.Proofs.Ytejambofnffopaa.U
set_option linter.unusedVariables false
set_option linter.unusedSimpArgs false
/-- Messages of one number each. -/
def ms1 (m : Nat) : List (List Int) := (List.range m).map (fun i : Nat => [(i : Int)])
theorem ms1_len (m : Nat) : (ms1 m).length = m := by simp [ms1]
theorem ms1_succ (m : Nat) : ms1 (m + 1) = ms1 m ++ [[(m : Int)]] := by simp [ms1, List.range_succ]
theorem ms1_drop {m i : Nat} (h : i < m) : (ms1 m).drop i = [(i : Int)] :: (ms1 m).drop (i + 1) := by
  rw [List.drop_eq_getElem_cons (by rw [ms1_len]; exact h)]
  congr 1
  simp [ms1]
theorem mk2 (w : World) : (Instr.makeSlice 33 (.int .i64 2) (.int .i64 2)).run Try.prog w = .ok (.slice (some ⟨w.heap.size, 0, none⟩) 2 2) (w.alloc (.cells #[.int .u32 0, .int .u32 0] 52)) := by kernel_rfl
structure L1 (lo g : Nat) (nn rm : Nat) (w : World) (iv : Value) (wr : World) : Prop where
  ex : ∃ (j : Nat) (p : Nat → Prop), j ≤ nn ∧ iv = .int .i64 (j : Int) ∧ QV lo wr p (fun _ => True) g 1 (rm : Int) (ms1 (min j rm)) (decide (rm < j)) ∧ Below lo w wr
structure L2 (lo g : Nat) (nn rm mm : Nat) (w : World) (iv : Value) (wr : World) : Prop where
  ex : ∃ (i : Nat) (p : Nat → Prop) (lb : Bool), i ≤ mm + 1 ∧ iv = .int .i64 (i : Int) ∧ QV lo wr p (fun _ => True) g 1 (rm : Int) ((ms1 mm).drop i) lb ∧ (i = 0 → lb = decide (rm < nn)) ∧ (0 < i → lb = false) ∧ Below lo w wr
set_option maxRecDepth 100000 in
set_option maxHeartbeats 16000000 in
theorem lost_walk (a0 a1 : Int) (w : World) : Calls Try.prog 8 #[.int .i64 a0, .int .i64 a1] w fun e w' => e = .returned (.bool true) ∧ Below w.heap.size w w' := by
  have he := he_qu
  have hmk := mk2
  obtain ⟨lo, hlo⟩ : ∃ lo, w.heap.size = lo := ⟨_, rfl⟩
  have HLO : Hid (lo ≤ w.heap.size ∧ w.heap.size ≤ lo) := by unfold Hid; omega
  have u1 := u64_tmod a0 32 (by decide)
  have u2 := u64_tmod a1 60 (by decide)
  obtain ⟨q1, hq1⟩ : ∃ q : Int, (IntKind.u64.wrap a0).tmod 32 = q := ⟨_, rfl⟩
  obtain ⟨nn, hnn⟩ : ∃ nn : Nat, (IntKind.u64.wrap a1).tmod 60 = (nn : Int) := ⟨((IntKind.u64.wrap a1).tmod 60).toNat, by omega⟩
  rw [hq1] at u1
  rw [hnn] at u2
  obtain ⟨rm, hrm⟩ : ∃ rm : Nat, 1 + q1 = (rm : Int) := ⟨(1 + q1).toNat, by omega⟩
  have l1 : 0 ≤ q1 := u1.1
  have l2 : q1 ≤ 31 := by omega
  have l3 : (nn : Int) ≤ 59 := by omega
  have l4 : (rm : Int) ≤ 32 := by omega
  have l5 : (1 : Int) ≤ (rm : Int) := by omega
  obtain ⟨mm, hmm⟩ : ∃ mm : Nat, min nn rm = mm := ⟨_, rfl⟩
  have hmI : min (nn : Int) (rm : Int) = (mm : Int) := by omega
  have HND : Hid (nn ≤ 59 ∧ 1 ≤ rm ∧ rm ≤ 32 ∧ min nn rm = mm) := ⟨by omega, by omega, by omega, hmm⟩
  have lmm : (mm : Int) ≤ 32 := by omega
  have NW := Lib.hid (new_any (fun _ => True) 1 (rm : Int) w (by omega) (by omega) (by omega) (by omega))
  rw [hlo] at NW ⊢
  clear u1 u2 hlo hmm
  go_enter Try.func8, Try.ntmps8
  go_wp2_with fail
  refine NW.out.mono ?_
  rintro e w1 ⟨rfl, q1', b1⟩
  obtain ⟨g, hg⟩ : ∃ g, lo = g := ⟨_, rfl⟩
  have Q1 : Hid (QV lo w1 (fun b => b = g) (fun _ => True) g 1 (rm : Int) (ms1 (min 0 rm)) (decide (rm < 0))) := by
    rw [show min 0 rm = 0 by omega, decide_eq_false (show ¬ rm < 0 by omega), ← hg]; exact q1'
  have B1 := Lib.hid b1
  have HG := Lib.hid hg
  rw [hg]
  rw [hg] at Q1 B1
  clear q1' b1 NW
  subst hg
  go_wp2_with fail
  go_loopw [7] (fun iv wr => L1 lo lo nn rm w iv wr) (fun i _ => nn - (intOf i).toNat)
  case atStart => exact ⟨⟨0, _, Nat.zero_le _, rfl, Q1.out, B1.out⟩⟩
  case round =>
    obtain ⟨⟨j, p, hj, rfl, hq, hb⟩⟩ := hrel
    have HQ := Lib.hid hq
    have HB := Lib.hid hb
    clear hq hb
    by_cases hlt : j < nn
    rotate_left
    · have hjn : j = nn := by omega
      subst hjn
      have hjI : ¬ (j : Int) < (j : Int) := by omega
      have Q2 : Hid (QV lo wr p (fun _ => True) lo 1 (rm : Int) ((ms1 mm).drop 0) (decide (rm < j))) := by rw [← HND.out.2.2.2]; exact HQ.out
      clear hlt hj
      go_wp2_with fail
      go_loopw [9] (fun iv wr => L2 lo lo j rm mm w iv wr) (fun i _ => 40 - (intOf i).toNat)
      case atStart => exact ⟨⟨0, _, _, by omega, rfl, Q2.out, fun _ => rfl, fun h => by omega, HB.out⟩⟩
      case round =>
        obtain ⟨⟨i, p, lb, hi, rfl, hq, hz, hp, hb⟩⟩ := hrel
        have HQ := Lib.hid hq
        have HB := Lib.hid hb
        have HZ : Hid ((i = 0 → lb = decide (rm < j)) ∧ (0 < i → lb = false)) := ⟨hz, hp⟩
        clear hq hb hz hp Q2
        by_cases hle : i ≤ mm
        rotate_left
        · have hiI : ¬ (i : Int) ≤ (mm : Int) := by omega
          have Q3 : Hid (QV lo wr p (fun _ => True) lo 1 (rm : Int) [] lb) := by
            rw [show ([] : List (List Int)) = (ms1 mm).drop i from (List.drop_eq_nil_of_le (by rw [ms1_len]; omega)).symm]; exact HQ.out
          clear hle hi
          go_wp2_with fail
          refine (known_any wr).mono ?_
          rintro e w2 ⟨rfl, b2⟩
          have Q4 := Lib.hid (Q3.out.below b2)
          have B4 : Hid (Below lo w w2) := HB.out.trans (b2.mono Q3.out.nil)
          clear b2 Q3
          go_wp2_with fail
          refine (free_any lo p (fun _ => True) lo 1 (rm : Int) [] lb w2 Q4.out).mono ?_
          rintro e w3 ⟨he3, b3⟩
          rw [show (rm : Int) - (([] : List (List Int)).length : Int) = (rm : Int) by simp] at he3
          subst he3
          have B5 : Hid (Below lo w w3) := B4.out.trans (b3.mono Q4.out.nil)
          clear b3
          go_wp2_with fail
          go_ret
          exact ⟨rfl, B5.out⟩
        have hiI : (i : Int) ≤ (mm : Int) := by omega
        have HX : Hid (i ≤ mm) := hle
        have hi33 : (i : Int) ≤ 32 := by omega
        have hw32 : IntKind.u32.wrap (i : Int) = (i : Int) := IntWalk.u32_in _ ⟨by omega, by omega⟩
        by_cases hlt : i < mm
        · skip
          by_cases hz : i = 0
          · skip
            have hmI2 : (i : Int) < (mm : Int) := by omega
            have hmb : decide ((i : Int) < (mm : Int)) = true := by simpa using hmI2
            have HX : Hid (i < mm) := hlt
            have hlb : lb = decide (rm < j) := HZ.out.1 hz
            have hib : ((i : Int) == 0) = true := by rw [beq_iff_eq]; omega
            have hlb2 : decide ((rm : Int) < (j : Int)) = lb := by rw [hlb]; exact decide_eq_decide.2 (by omega)
            have hll : (lb != lb) = false := by simp
            have hll2 : (!lb == decide (rm < j)) = false := by rw [← hlb]; cases lb <;> rfl
            clear hlb hz hle hi hlt
            go_wp2_with fail
            refine (receive_some lo p (fun _ => True) lo 1 (rm : Int) _ lb [(i : Int)] _ wr HQ.out (ms1_drop (by have := HX.out; omega))).mono ?_
            rintro e w2 ⟨A2, c2, q, rfl, o2, q2, n2⟩
            have O2 := Lib.hid o2
            have Q2 := Lib.hid q2
            have B2 : Hid (Below lo w w2) := HB.out.trans (HQ.out.nx n2)
            clear o2 q2 n2
            have hx : Below w2.heap.size w2 (w2.alloc (.cells #[.int .u32 (i : Int)] 52)) := (Below.refl _ _).alloc (Nat.le_refl _) _
            have L3 := Lib.hid (Sq.lit w2 #[.int .u32 (i : Int)] 52 1 1 rfl)
            have O3 := Lib.hid (O2.out.below hx)
            have Q3 := Lib.hid (Q2.out.below hx)
            have B3 : Hid (Below lo w (w2.alloc (.cells #[.int .u32 (i : Int)] 52))) := B2.out.trans (hx.mono Q2.out.nil)
            clear hx O2 Q2 B2
            go_wp2_with fail
            refine (lsame_any _ _ _ _ [(i : Int)] [(i : Int)] _ O3.out.sq.st L3.out.st (by simp)).mono ?_
            rintro e w4 ⟨he4, b4⟩
            simp only [decide_true] at he4
            subst he4
            have Q4 := Lib.hid (Q3.out.below b4)
            have B4 : Hid (Below lo w w4) := B3.out.trans (b4.mono Q3.out.nil)
            clear b4 O3 L3 Q3 B3
            go_wp2_with fail
            go_roundw
            case rel =>
              have Q : L2 lo lo j rm mm w (.int .i64 ((i : Int) + 1)) w4 := ⟨⟨i + 1, q, false, by have := HX.out; omega, by go_num, Q4.out, fun h => by omega, fun _ => rfl, B4.out⟩⟩
              first | exact Q | ((repeat apply Exists.intro); exact ⟨Q, rfl⟩)
            case measure => have := HX.out; have := HND.out; simp [intOf]; omega

          skip
          have hmI2 : (i : Int) < (mm : Int) := by omega
          have hmb : decide ((i : Int) < (mm : Int)) = true := by simpa using hmI2
          have HX : Hid (i < mm) := hlt
          have hlb : lb = false := HZ.out.2 (by omega)
          subst hlb
          have hib : ((i : Int) == 0) = false := by rw [beq_eq_false_iff_ne]; omega
          have hi0 : ¬ (i : Int) = 0 := by omega
          clear hz hle hi hlt
          go_wp2_with fail
          refine (receive_some lo p (fun _ => True) lo 1 (rm : Int) _ false [(i : Int)] _ wr HQ.out (ms1_drop (by have := HX.out; omega))).mono ?_
          rintro e w2 ⟨A2, c2, q, rfl, o2, q2, n2⟩
          have O2 := Lib.hid o2
          have Q2 := Lib.hid q2
          have B2 : Hid (Below lo w w2) := HB.out.trans (HQ.out.nx n2)
          clear o2 q2 n2
          have hx : Below w2.heap.size w2 (w2.alloc (.cells #[.int .u32 (i : Int)] 52)) := (Below.refl _ _).alloc (Nat.le_refl _) _
          have L3 := Lib.hid (Sq.lit w2 #[.int .u32 (i : Int)] 52 1 1 rfl)
          have O3 := Lib.hid (O2.out.below hx)
          have Q3 := Lib.hid (Q2.out.below hx)
          have B3 : Hid (Below lo w (w2.alloc (.cells #[.int .u32 (i : Int)] 52))) := B2.out.trans (hx.mono Q2.out.nil)
          clear hx O2 Q2 B2
          go_wp2_with fail
          refine (lsame_any _ _ _ _ [(i : Int)] [(i : Int)] _ O3.out.sq.st L3.out.st (by simp)).mono ?_
          rintro e w4 ⟨he4, b4⟩
          simp only [decide_true] at he4
          subst he4
          have Q4 := Lib.hid (Q3.out.below b4)
          have B4 : Hid (Below lo w w4) := B3.out.trans (b4.mono Q3.out.nil)
          clear b4 O3 L3 Q3 B3
          go_wp2_with fail
          go_roundw
          case rel =>
            have Q : L2 lo lo j rm mm w (.int .i64 ((i : Int) + 1)) w4 := ⟨⟨i + 1, q, false, by have := HX.out; omega, by go_num, Q4.out, fun h => by omega, fun _ => rfl, B4.out⟩⟩
            first | exact Q | ((repeat apply Exists.intro); exact ⟨Q, rfl⟩)
          case measure => have := HX.out; have := HND.out; simp [intOf]; omega

        by_cases hz : i = 0
        · skip
          have hmI2 : ¬ (i : Int) < (mm : Int) := by omega
          have hmb : decide ((i : Int) < (mm : Int)) = false := by simpa using hmI2
          have HX : Hid (i = mm) := by have := HX.out; unfold Hid; omega
          have hlb : lb = decide (rm < j) := HZ.out.1 hz
          have hib : ((i : Int) == 0) = true := by rw [beq_iff_eq]; omega
          have hlb2 : decide ((rm : Int) < (j : Int)) = lb := by rw [hlb]; exact decide_eq_decide.2 (by omega)
          have hll : (lb != lb) = false := by simp
          have hll2 : (!lb == decide (rm < j)) = false := by rw [← hlb]; cases lb <;> rfl
          clear hlb hz hle hi hlt
          go_wp2_with fail
          refine (receive_none lo p (fun _ => True) lo 1 (rm : Int) _ lb wr HQ.out (List.drop_eq_nil_of_le (by rw [ms1_len]; have := HX.out; omega))).mono ?_
          rintro e w2 ⟨q, rfl, q2, n2⟩
          have Q2 : Hid (QV lo w2 q (fun _ => True) lo 1 (rm : Int) ((ms1 mm).drop (i + 1)) false) := by
            rw [show (ms1 mm).drop (i + 1) = [] from List.drop_eq_nil_of_le (by rw [ms1_len]; have := HX.out; omega)]; exact q2
          have B2 : Hid (Below lo w w2) := HB.out.trans (HQ.out.nx n2)
          clear q2 n2
          go_wp2_with fail
          go_roundw
          case rel =>
            have Q : L2 lo lo j rm mm w (.int .i64 ((i : Int) + 1)) w2 := ⟨⟨i + 1, q, false, by have := HX.out; omega, by go_num, Q2.out, fun h => by omega, fun _ => rfl, B2.out⟩⟩
            first | exact Q | ((repeat apply Exists.intro); exact ⟨Q, rfl⟩)
          case measure => have := HX.out; have := HND.out; simp [intOf]; omega

        skip
        have hmI2 : ¬ (i : Int) < (mm : Int) := by omega
        have hmb : decide ((i : Int) < (mm : Int)) = false := by simpa using hmI2
        have HX : Hid (i = mm) := by have := HX.out; unfold Hid; omega
        have hlb : lb = false := HZ.out.2 (by omega)
        subst hlb
        have hib : ((i : Int) == 0) = false := by rw [beq_eq_false_iff_ne]; omega
        have hi0 : ¬ (i : Int) = 0 := by omega
        clear hz hle hi hlt
        go_wp2_with fail
        refine (receive_none lo p (fun _ => True) lo 1 (rm : Int) _ false wr HQ.out (List.drop_eq_nil_of_le (by rw [ms1_len]; have := HX.out; omega))).mono ?_
        rintro e w2 ⟨q, rfl, q2, n2⟩
        have Q2 : Hid (QV lo w2 q (fun _ => True) lo 1 (rm : Int) ((ms1 mm).drop (i + 1)) false) := by
          rw [show (ms1 mm).drop (i + 1) = [] from List.drop_eq_nil_of_le (by rw [ms1_len]; have := HX.out; omega)]; exact q2
        have B2 : Hid (Below lo w w2) := HB.out.trans (HQ.out.nx n2)
        clear q2 n2
        go_wp2_with fail
        go_roundw
        case rel =>
          have Q : L2 lo lo j rm mm w (.int .i64 ((i : Int) + 1)) w2 := ⟨⟨i + 1, q, false, by have := HX.out; omega, by go_num, Q2.out, fun h => by omega, fun _ => rfl, B2.out⟩⟩
          first | exact Q | ((repeat apply Exists.intro); exact ⟨Q, rfl⟩)
        case measure => have := HX.out; have := HND.out; simp [intOf]; omega
    have hjI : (j : Int) < (nn : Int) := by omega
    have HX : Hid (j < nn) := hlt
    have hw32 : IntKind.u32.wrap (j : Int) = (j : Int) := IntWalk.u32_in _ ⟨by omega, by omega⟩
    by_cases hjr : rm ≤ j
    · have hjr' : (rm : Int) ≤ (j : Int) := by omega
      have hjb : decide ((rm : Int) ≤ (j : Int)) = true := by simpa using hjr'
      have HJ : Hid (rm ≤ j) := hjr
      clear hlt hj hjr
      have hx : Below wr.heap.size wr (wr.alloc (.cells #[.int .u32 (j : Int)] 52)) := (Below.refl _ _).alloc (Nat.le_refl _) _
      have S2 := Lib.hid (Sq.lit wr #[.int .u32 (j : Int)] 52 1 1 rfl)
      have Q2 := Lib.hid (HQ.out.below hx)
      have B2 : Hid (Below lo w (wr.alloc (.cells #[.int .u32 (j : Int)] 52))) := HB.out.trans (hx.mono HQ.out.nil)
      clear hx
      go_wp2_with fail
      refine (push_full lo p (fun _ => True) lo 1 (rm : Int) _ _ _ _ 1 1 [(j : Int)] _ Q2.out S2.out (by rw [chk_one, ms1_len]; have := HJ.out; rw [if_neg (by simp), if_pos (by omega)])).mono ?_
      rintro e w3 ⟨q, rfl, q3, n3⟩
      have hq3 : ms1 (min j rm) = ms1 (min (j + 1) rm) := by have := HJ.out; rw [show min j rm = min (j + 1) rm by omega]
      have Q3 : Hid (QV lo w3 q (fun _ => True) lo 1 (rm : Int) (ms1 (min (j + 1) rm)) (decide (rm < j + 1))) := by
        rw [← hq3, decide_eq_true (show rm < j + 1 by have := HJ.out; omega)]; exact q3
      have B3 : Hid (Below lo w w3) := B2.out.trans (Q2.out.nx n3)
      clear q3 n3 hq3 S2 Q2 B2
      have hx : Below w3.heap.size w3 (w3.alloc (.cells #[.int .u32 0, .int .u32 0] 52)) := (Below.refl _ _).alloc (Nat.le_refl _) _
      have S4 := Lib.hid (Sq.lit w3 #[.int .u32 0, .int .u32 0] 52 2 2 rfl)
      have Q4 := Lib.hid (Q3.out.below hx)
      have B4 : Hid (Below lo w (w3.alloc (.cells #[.int .u32 0, .int .u32 0] 52))) := B3.out.trans (hx.mono Q3.out.nil)
      clear hx Q3 B3
      go_wp2_with fail
      refine (send_no lo q (fun _ => True) lo 1 (rm : Int) _ _ _ _ 2 2 [0, 0] 2 _ Q4.out S4.out (by rw [chk_one]; rfl) (by decide)).mono ?_
      rintro e w5 ⟨rfl, b5⟩
      have Q5 := Lib.hid (Q4.out.below b5)
      have B5 : Hid (Below lo w w5) := B4.out.trans (b5.mono Q4.out.nil)
      clear b5 S4 Q4 B4
      go_wp2_with fail
      go_roundw
      case rel =>
        have Q : L1 lo lo nn rm w (.int .i64 ((j : Int) + 1)) w5 := ⟨⟨j + 1, q, by have := HX.out; omega, by go_num, Q5.out, B5.out⟩⟩
        first | exact Q | ((repeat apply Exists.intro); exact ⟨Q, rfl⟩)
      case measure => have := HX.out; simp [intOf]; omega

    have hjr' : ¬ (rm : Int) ≤ (j : Int) := by omega
    have hjb : decide ((rm : Int) ≤ (j : Int)) = false := by simpa using hjr'
    have HJ : Hid (j < rm) := by unfold Hid; omega
    clear hlt hj hjr
    have hx : Below wr.heap.size wr (wr.alloc (.cells #[.int .u32 (j : Int)] 52)) := (Below.refl _ _).alloc (Nat.le_refl _) _
    have S2 := Lib.hid (Sq.lit wr #[.int .u32 (j : Int)] 52 1 1 rfl)
    have Q2 := Lib.hid (HQ.out.below hx)
    have B2 : Hid (Below lo w (wr.alloc (.cells #[.int .u32 (j : Int)] 52))) := HB.out.trans (hx.mono HQ.out.nil)
    clear hx
    go_wp2_with fail
    refine (push_ok lo p (fun _ => True) lo 1 (rm : Int) _ _ _ _ 1 1 [(j : Int)] _ Q2.out S2.out (by rw [chk_one, ms1_len]; have := HJ.out; rw [if_neg (by simp), if_neg (by omega)]) (fun _ _ => trivial)).mono ?_
    rintro e w3 ⟨q, rfl, q3, n3⟩
    have hq3 : ms1 (min j rm) ++ [[(j : Int)]] = ms1 (min (j + 1) rm) := by have := HJ.out; rw [show min j rm = j by omega, show min (j + 1) rm = j + 1 by omega, ms1_succ]
    have Q3 : Hid (QV lo w3 q (fun _ => True) lo 1 (rm : Int) (ms1 (min (j + 1) rm)) (decide (rm < j + 1))) := by
      have h1 : decide (rm < j) = decide (rm < j + 1) := by have := HJ.out; rw [decide_eq_false (by omega), decide_eq_false (by omega)]
      rw [← hq3, ← h1]; exact q3
    have B3 : Hid (Below lo w w3) := B2.out.trans (Q2.out.nx n3)
    clear q3 n3 hq3 S2 Q2 B2
    have hx : Below w3.heap.size w3 (w3.alloc (.cells #[.int .u32 0, .int .u32 0] 52)) := (Below.refl _ _).alloc (Nat.le_refl _) _
    have S4 := Lib.hid (Sq.lit w3 #[.int .u32 0, .int .u32 0] 52 2 2 rfl)
    have Q4 := Lib.hid (Q3.out.below hx)
    have B4 : Hid (Below lo w (w3.alloc (.cells #[.int .u32 0, .int .u32 0] 52))) := B3.out.trans (hx.mono Q3.out.nil)
    clear hx Q3 B3
    go_wp2_with fail
    refine (send_no lo q (fun _ => True) lo 1 (rm : Int) _ _ _ _ 2 2 [0, 0] 2 _ Q4.out S4.out (by rw [chk_one]; rfl) (by decide)).mono ?_
    rintro e w5 ⟨rfl, b5⟩
    have Q5 := Lib.hid (Q4.out.below b5)
    have B5 : Hid (Below lo w w5) := B4.out.trans (b5.mono Q4.out.nil)
    clear b5 S4 Q4 B4
    go_wp2_with fail
    go_roundw
    case rel =>
      have Q : L1 lo lo nn rm w (.int .i64 ((j : Int) + 1)) w5 := ⟨⟨j + 1, q, by have := HX.out; omega, by go_num, Q5.out, B5.out⟩⟩
      first | exact Q | ((repeat apply Exists.intro); exact ⟨Q, rfl⟩)
    case measure => have := HX.out; simp [intOf]; omega
end Go.Proofs.Ytejambofnffopaa.Q
