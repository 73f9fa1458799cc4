/-
  QueuingBacks's walk. Each statement bears its own conditions.
-/
import Derived.Test.YtejambofnffopaaQuI
namespace Go.Proofs.Ytejambofnffopaa.Q
open Go.RowKit Go.Proofs.Ytejambofnffopaa.F Go.Proofs.Ytejambofnffopaa.U
set_option linter.unusedVariables false
set_option linter.unusedSimpArgs false
structure BR (lo g g2 len : Nat) (n k : Int) (w : World) (iv : Value) (wr : World) : Prop where
  ex : ∃ (i : Nat) (p p2 : Nat → Prop) (LL : List (List Int)) (lost : Bool), i ≤ len ∧ iv = .int .i64 (i : Int) ∧ QV lo wr p (fun _ => True) g n k LL lost ∧ QV lo wr p2 (fun _ => True) g2 n k LL lost ∧ (∀ b, p b → ¬ p2 b) ∧ Below lo w wr
structure BE (lo g g2 : Nat) (n k : Int) (w : World) (wr : World) : Prop where
  ex : ∃ (p p2 : Nat → Prop) (LL : List (List Int)) (lost : Bool), QV lo wr p (fun _ => True) g n k LL lost ∧ QV lo wr p2 (fun _ => True) g2 n k LL lost ∧ (∀ b, p b → ¬ p2 b) ∧ Below lo w wr
set_option maxRecDepth 100000 in
set_option maxHeartbeats 16000000 in
theorem backs_walk (a0 a1 : Int) (a : Option Addr) (len cap : Nat) (m2 : List (List Int)) (a3 : Int) (w : World) (h0 : Row w 1 (RL w) (.slice a len cap) m2) : Calls Try.prog 7 #[.int .i64 a0, .int .i64 a1, .slice a len cap, .int .i64 a3] w fun e w' => e = .returned (.bool true) ∧ Below w.heap.size w w' := by
  have HR := Lib.hid h0
  have he := he_qu
  obtain ⟨lo, hlo⟩ : ∃ lo, w.heap.size = lo := ⟨_, rfl⟩
  have HLO : Hid (lo ≤ w.heap.size ∧ w.heap.size ≤ lo) := by unfold Hid; omega
  have u1 := u64_tmod a0 32 (by decide)
  have u2 := u64_tmod a1 32 (by decide)
  obtain ⟨q1, hq1⟩ : ∃ q : Int, (IntKind.u64.wrap a0).tmod 32 = q := ⟨_, rfl⟩
  obtain ⟨q2, hq2⟩ : ∃ q : Int, (IntKind.u64.wrap a1).tmod 32 = q := ⟨_, rfl⟩
  rw [hq1] at u1
  rw [hq2] at u2
  obtain ⟨n, hn⟩ : ∃ n : Int, 1 + q1 = n := ⟨_, rfl⟩
  obtain ⟨k, hk⟩ : ∃ k : Int, 1 + q2 = k := ⟨_, rfl⟩
  have l1 : 0 ≤ q1 := u1.1
  have l2 : q1 ≤ 31 := by omega
  have l3 : 0 ≤ q2 := u2.1
  have l4 : q2 ≤ 31 := by omega
  have HND : Hid (1 ≤ n ∧ n ≤ 32 ∧ 1 ≤ k ∧ k ≤ 32) := ⟨by omega, by omega, by omega, by omega⟩
  have NW := Lib.hid (new_any (fun _ => True) n k w HND.out.1 HND.out.2.1 HND.out.2.2.1 HND.out.2.2.2)
  rw [hlo] at NW ⊢
  clear u1 u2 hlo h0
  go_enter Try.func7, Try.ntmps7
  go_wp2_with fail
  refine NW.out.mono ?_
  rintro e w1 ⟨rfl, q1', b1⟩
  have Q1 := Lib.hid q1'
  have B1 := Lib.hid b1
  clear q1' b1 NW
  go_wp2_with fail
  refine (new_any (fun _ => True) n k w1 HND.out.1 HND.out.2.1 HND.out.2.2.1 HND.out.2.2.2).mono ?_
  rintro e w2 ⟨rfl, q2', b2⟩
  obtain ⟨g2, hg2⟩ : ∃ g2, w1.heap.size = g2 := ⟨_, rfl⟩
  have HG : Hid (lo < g2) := by have := Q1.out.lt; unfold Hid; omega
  rw [hg2] at q2' b2
  have P2 := Lib.hid (q2'.less (Nat.le_of_lt HG.out))
  have Q2 := Lib.hid (Q1.out.below (by rw [hg2]; exact b2))
  have B2 : Hid (Below lo w w2) := B1.out.trans (b2.mono (Nat.le_of_lt HG.out))
  have HD : Hid (∀ b, b = lo → ¬ b = g2) := fun b hb hp => by have := HG.out; omega
  simp only [hg2]
  clear q2' b2 hg2 Q1 B1
  go_upto_block 0 with fail
  go_cut [13] (fun iv wx => BE lo lo g2 n k w wx)
  case first =>
    go_wp2_with fail
    go_loopw [13] (fun iv wr => BR lo lo g2 len n k w iv wr) (fun i _ => len - (intOf i).toNat)
    case atStart => exact ⟨⟨0, _, _, [], false, Nat.zero_le _, rfl, Q2.out, P2.out, HD.out, B2.out⟩⟩
    case round =>
      obtain ⟨⟨i, p, p2, LL, lost, hi, rfl, hq, hq2, hd, hb⟩⟩ := hrel
      have HQ := Lib.hid hq
      have HQ2 := Lib.hid hq2
      have HD := Lib.hid hd
      have HB := Lib.hid hb
      clear hq hq2 hd hb
      by_cases hlt : i < len
      rotate_left
      · have hjI : ¬ (i : Int) < (len : Int) := by omega
        have hjb : decide ((i : Int) < (len : Int)) = false := by simpa using hjI
        clear hlt hi
        go_wp2_with fail
        go_meet
        case rel => exact ⟨⟨p, p2, LL, lost, HQ.out, HQ2.out, HD.out, HB.out⟩⟩
      by_cases hcap : i < 40
      rotate_left
      · have hjI : (i : Int) < (len : Int) := by omega
        have hjb : decide ((i : Int) < (len : Int)) = true := by simpa using hjI
        have hcI : ¬ (i : Int) < 40 := by omega
        have hcb : decide ((i : Int) < 40) = false := by simpa using hcI
        clear hlt hi hcap
        go_wp2_with fail
        go_meet
        case rel => exact ⟨⟨p, p2, LL, lost, HQ.out, HQ2.out, HD.out, HB.out⟩⟩
      have hjI : (i : Int) < (len : Int) := by omega
      have hjb : decide ((i : Int) < (len : Int)) = true := by simpa using hjI
      have hcI : (i : Int) < 40 := by omega
      have hcb : decide ((i : Int) < 40) = true := by simpa using hcI
      have HX : Hid (i < len) := hlt
      obtain ⟨hlen, b, off, K, cs, hax, hbl, _, hRA, _, hc⟩ := HR.out.at_ i hlt
      clear hlen
      subst hax
      obtain ⟨v', rfl, hK⟩ := hRA
      have HBL : Hid (b < lo) := by have := HLO.out; unfold Hid; omega
      have e0 : wr.cell? ⟨b, off + i, none⟩ = some v' := by
        have := cell_low HB.out HBL.out (hc 0 _ rfl)
        simpa using this
      obtain ⟨Ak, ck, rfl⟩ := hK.form
      have hK2 := hK.sq.2
      obtain ⟨nk, hnk⟩ : ∃ nk, K.length = nk := ⟨_, rfl⟩
      rw [hnk] at e0 hK2
      obtain ⟨jm, hjm⟩ : ∃ jm, min nk 40 = jm := ⟨_, rfl⟩
      have hmn : min (nk : Int) 40 = (jm : Int) := by omega
      have hj1 : (jm : Int) ≤ (ck : Int) := by have := hK2.2.1; omega
      have hj0 : (0 : Int) ≤ (jm : Int) := by omega
      have hj2 : jm ≤ ck := by have := hK2.2.1; omega
      have hT := Sq_take (j := jm) hK2.1 (by omega)
      obtain ⟨KT, hKT⟩ : ∃ KT, K.take jm = KT := ⟨_, rfl⟩
      have HKS : Hid (Sq wr (fun b => b < lo) (.slice Ak jm ck) jm (CU KT)) := by
        have : (CU K).take jm = CU KT := by rw [← hKT]; simp [CU, List.map_take]
        rw [this] at hT
        exact sq_low (hT.imp fun b _ hb => by have := HLO.out; omega) HB.out
      have HEQ : Hid (∀ x : Int, (x == x) = true ∧ (x != x) = false) := fun x => ⟨by simp, by simp⟩
      obtain ⟨ev, hev⟩ : ∃ ev, chkV n (k - (LL.length : Int)) 17 [KT] = ev := ⟨_, rfl⟩
      have hee : (ev != ev) = false := (HEQ.out ev).2
      have HEV := Lib.hid hev
      clear hc hbl hlt hi hK hK2 hnk hcap hjm hT hKT hev
      go_wp2_with fail
      refine wp_region_held_drew (S := (fun w' => Below wr.heap.size wr w' ∧ w'.cell? ⟨b, off + i, none⟩ = some (.slice Ak nk ck))) (by kernel_rfl) ?_ (fun hHeld => ?_)
      · exact ⟨(Below.refl _ _).drew, e0⟩
      refine takeD (i := 0) (d := some 65) (v := ?_) _ rfl rfl (by kernel_rfl) (by kernel_rfl) (by kernel_rfl) (fun _ _ _ h => h) (by rfl) ?_ (by assumption) ?_
      rotate_left
      · (intro w hSw; (try dsimp only at hSw); go_simp) <;> with_reducible rfl
      try simp only [Act.put, List.setIfInBounds_toArray, List.set_cons_zero, List.set_cons_succ]
      refine takeD (i := 1) (d := some 66) (v := ?_) _ rfl rfl (by kernel_rfl) (by kernel_rfl) (by kernel_rfl) (fun _ _ _ h => h) (by rfl) ?_ (by assumption) ?_
      rotate_left
      · (intro w hSw; (try dsimp only at hSw); go_simp) <;> with_reducible rfl
      try simp only [Act.put, List.setIfInBounds_toArray, List.set_cons_zero, List.set_cons_succ]
      refine takeD (i := 2) (d := some 67) (v := ?_) _ rfl rfl (by kernel_rfl) (by kernel_rfl) (by kernel_rfl) (fun _ _ _ h => h) (by rfl) ?_ (by assumption) ?_
      rotate_left
      · (intro w hSw; (try dsimp only at hSw); go_simp) <;> with_reducible rfl
      try simp only [Act.put, List.setIfInBounds_toArray, List.set_cons_zero, List.set_cons_succ]
      refine takeD (i := 3) (d := some 68) (v := ?_) _ rfl rfl (by kernel_rfl) (by kernel_rfl) (by kernel_rfl) (fun _ _ _ h => h) (by rfl) ?_ (by assumption) ?_
      rotate_left
      · (intro w hSw; (try dsimp only at hSw); go_simp) <;> with_reducible rfl
      try simp only [Act.put, List.setIfInBounds_toArray, List.set_cons_zero, List.set_cons_succ]
      refine takeD (i := 4) (d := some 69) (v := ?_) _ rfl rfl (by kernel_rfl) (by kernel_rfl) (by kernel_rfl) (fun _ _ _ h => h) (by rfl) ?_ (by assumption) ?_
      rotate_left
      · (intro w hSw; (try dsimp only at hSw); go_simp) <;> with_reducible rfl
      try simp only [Act.put, List.setIfInBounds_toArray, List.set_cons_zero, List.set_cons_succ]
      refine takeD (i := 5) (d := some 70) (v := ?_) _ rfl rfl (by kernel_rfl) (by kernel_rfl) (by kernel_rfl) (fun _ _ _ h => h) (by rfl) ?_ (by assumption) ?_
      rotate_left
      · (intro w hSw; (try dsimp only at hSw); go_simp) <;> with_reducible rfl
      try simp only [Act.put, List.setIfInBounds_toArray, List.set_cons_zero, List.set_cons_succ]
      refine takeD (i := 6) (d := some 71) (v := ?_) _ rfl rfl (by kernel_rfl) (by kernel_rfl) (by kernel_rfl) (fun _ _ _ h => h) (by rfl) ?_ (by assumption) ?_
      rotate_left
      · (intro w hSw; (try dsimp only at hSw); go_simp) <;> with_reducible rfl
      try simp only [Act.put, List.setIfInBounds_toArray, List.set_cons_zero, List.set_cons_succ]
      refine takeD (i := 7) (d := some 72) (v := ?_) _ rfl rfl (by kernel_rfl) (by kernel_rfl) (by kernel_rfl) (fun _ _ _ h => h) (by rfl) ?_ (by assumption) ?_
      rotate_left
      · (intro w hSw; (try dsimp only at hSw); go_simp) <;> with_reducible rfl
      try simp only [Act.put, List.setIfInBounds_toArray, List.set_cons_zero, List.set_cons_succ]
      refine takeD (i := 8) (d := some 73) (v := ?_) _ rfl rfl (by kernel_rfl) (by kernel_rfl) (by kernel_rfl) (fun _ _ _ h => h) (by rfl) ?_ (by assumption) ?_
      rotate_left
      · (intro w hSw; (try dsimp only at hSw); go_simp) <;> with_reducible rfl
      try simp only [Act.put, List.setIfInBounds_toArray, List.set_cons_zero, List.set_cons_succ]
      refine takeD (i := 9) (d := some 74) (v := ?_) _ rfl rfl (by kernel_rfl) (by kernel_rfl) (by kernel_rfl) (fun _ _ _ h => h) (by rfl) ?_ (by assumption) ?_
      rotate_left
      · (intro w hSw; (try dsimp only at hSw); go_simp) <;> with_reducible rfl
      try simp only [Act.put, List.setIfInBounds_toArray, List.set_cons_zero, List.set_cons_succ]
      refine takeD (i := 10) (d := some 75) (v := ?_) _ rfl rfl (by kernel_rfl) (by kernel_rfl) (by kernel_rfl) (fun _ _ _ h => h) (by rfl) ?_ (by assumption) ?_
      rotate_left
      · (intro w hSw; (try dsimp only at hSw); go_simp) <;> with_reducible rfl
      try simp only [Act.put, List.setIfInBounds_toArray, List.set_cons_zero, List.set_cons_succ]
      refine takeD (i := 11) (d := some 14) (v := ?_) _ rfl rfl (by kernel_rfl) (by kernel_rfl) (by kernel_rfl) (fun _ _ _ h => h) (by rfl) ?_ (by assumption) ?_
      rotate_left
      · (intro w hSw; (try dsimp only at hSw); go_simp) <;> with_reducible rfl
      try simp only [Act.put, List.setIfInBounds_toArray, List.set_cons_zero, List.set_cons_succ]
      refine wpAnyH_done (by kernel_rfl) ?_ _
      have HF := Lib.hid hHeld.1
      clear hHeld e0
      obtain ⟨w2, hw2⟩ : ∃ w2, wr.drew = w2 := ⟨_, rfl⟩
      rw [hw2] at HF
      rw [hw2]
      clear hw2
      have Q2 := Lib.hid (HQ.out.below HF.out)
      have P2 := Lib.hid (HQ2.out.below HF.out)
      have S2 := Lib.hid (HKS.out.belowP HF.out)
      have B2 : Hid (Below lo w w2) := HB.out.trans (HF.out.mono HQ.out.nil)
      clear HQ HQ2 HKS HF HB
      go_wp2_with fail
      refine (push_any lo p (fun _ => True) lo n k LL lost _ Ak jm ck KT w2 Q2.out S2.out (fun _ _ => trivial)).mono ?_
      rintro e w3 ⟨q, he3, q3, n3⟩
      rw [HEV.out] at he3
      subst he3
      have Q3 := Lib.hid q3
      have P3 := Lib.hid (P2.out.fot n3.fo (fun b hb hp => HD.out b hp hb) Q2.out.ty)
      have HD3 : Hid (∀ b, q b → ¬ p2 b) := fun b hb hp => by
        rcases n3.sub b hb with h | h
        · exact HD.out b h hp
        · have := (P2.out.low b hp).2; omega
      have B3 : Hid (Below lo w w3) := B2.out.trans (Q2.out.nx n3)
      have S3 := Lib.hid (sq_low S2.out (Q2.out.nx n3))
      clear q3 n3 Q2 P2 HD B2 S2
      go_wp2_with fail
      refine (push_any lo p2 (fun _ => True) g2 n k LL lost _ Ak jm ck KT w3 P3.out S3.out (fun _ _ => trivial)).mono ?_
      rintro e w4 ⟨q2, he4, q4, n4⟩
      rw [HEV.out] at he4
      subst he4
      have P4 := Lib.hid q4
      have Q4 := Lib.hid (Q3.out.fot n4.fo (fun b hb hp => HD3.out b hb hp) P3.out.ty)
      have HD4 : Hid (∀ b, q b → ¬ q2 b) := fun b hb hp => by
        rcases n4.sub b hp with h | h
        · exact HD3.out b hb h
        · have := (Q3.out.low b hb).2; omega
      have B4 : Hid (Below lo w w4) := B3.out.trans (P3.out.nx n4)
      clear q4 n4 Q3 P3 HD3 B3 S3
      go_wp2_with fail
      go_roundw
      case rel =>
        have Q : BR lo lo g2 len n k w (.int .i64 ((i : Int) + 1)) w4 := ⟨⟨i + 1, q, q2, _, _, HX.out, by go_num, Q4.out, P4.out, HD4.out, B4.out⟩⟩
        first | exact Q | ((repeat apply Exists.intro); exact ⟨Q, rfl⟩)
      case measure => have := HX.out; simp [intOf]; omega

  case rest =>
    obtain ⟨w3', hw3⟩ : ∃ w', w' = wc := ⟨_, rfl⟩
    subst hw3
    obtain ⟨⟨p, p2, LL, lost, hq, hq2, hd, hb⟩⟩ := hcut
    have Q3 := Lib.hid hq
    have P3 := Lib.hid hq2
    have HD3 := Lib.hid hd
    have B3 := Lib.hid hb
    have HBD : Hid ((LL.length : Int) ≤ k ∧ (∀ L ∈ LL, (L.length : Int) ≤ n) ∧ k ≤ 32) := ⟨hq.bd.2.2.2.2.1, hq.bd.2.2.2.2.2, HND.out.2.2.2⟩
    clear hq hq2 hd hb Q2 P2 HD B2
    go_wp2_with fail
    refine (clone_any lo p (fun _ => True) lo n k LL lost w3' Q3.out (fun _ _ => trivial)).mono ?_
    rintro e w4 ⟨gc, qc, rfl, c4, b4⟩
    have C4 := Lib.hid (c4.less Q3.out.nil)
    have HQC : Hid ((∀ b, qc b → w3'.heap.size ≤ b) ∧ (∀ b, p b → b < w3'.heap.size) ∧ (∀ b, p2 b → b < w3'.heap.size)) := ⟨fun b hb => (c4.low b hb).1, fun b hb => (Q3.out.low b hb).2, fun b hb => (P3.out.low b hb).2⟩
    have Q4 := Lib.hid (Q3.out.below b4)
    have P4 := Lib.hid (P3.out.below b4)
    have B4 : Hid (Below lo w w4) := B3.out.trans (b4.mono Q3.out.nil)
    have HC4 : Hid (∀ b, qc b → b < w4.heap.size) := fun b hb => (c4.low b hb).2
    clear c4 b4 Q3 P3 B3
    go_wp2_with fail
    refine (drain_any lo p (fun _ => True) lo n k LL lost w4 Q4.out).mono ?_
    rintro e w5 ⟨vx, Sx, q5, rfl, ox, mx, q5', n5, e5⟩
    obtain ⟨Ax, cx, rfl⟩ := ox.sl
    have Q5 := Lib.hid q5'
    have X5 := Lib.hid ox
    have M5 := Lib.hid mx
    have HE5 := Lib.hid e5
    have P5 := Lib.hid (P4.out.fot n5.fo (fun b hb hp => HD3.out b hp hb) Q4.out.ty)
    have C5 := Lib.hid (C4.out.fot n5.fo (fun b hb hp => by have := HQC.out.1 b hb; have := HQC.out.2.1 b hp; omega) Q4.out.ty)
    have B5 : Hid (Below lo w w5) := B4.out.trans (Q4.out.nx n5)
    have HPG : Hid (p lo) := Q4.out.pg
    clear ox mx q5' n5 e5 Q4 P4 C4 B4
    go_wp2_with fail
    refine (drain_any lo p2 (fun _ => True) g2 n k LL lost w5 P5.out).mono ?_
    rintro e w6 ⟨vy, Sy, q6, rfl, oy, my, q6', n6, e6⟩
    obtain ⟨Ay, cy, rfl⟩ := oy.sl
    have P6 := Lib.hid q6'
    have Y6 := Lib.hid oy
    have N6 := Lib.hid my
    have HE6 := Lib.hid e6
    have HPG2 : Hid (p2 g2) := P5.out.pg
    have X6 : Hid (Ow 33 w6 (fun b => p b ∧ ¬ q5 b) (.slice Ax LL.length cx) LL.length (CS Sx)) := X5.out.fo n6.fo fun b hb hp => HD3.out b hb.1 hp
    have M6 := Lib.hid (M5.out.keepq P5.out n6)
    have Q6 := Lib.hid (Q5.out.fot n6.fo (fun b hb hp => by have := HE5.out b hb; subst this; exact HD3.out _ HPG.out hp) P5.out.ty)
    have C6 := Lib.hid (C5.out.fot n6.fo (fun b hb hp => by have := HQC.out.1 b hb; have := HQC.out.2.2 b hp; omega) P5.out.ty)
    have B6 : Hid (Below lo w w6) := B5.out.trans (P5.out.nx n6)
    clear oy my q6' n6 e6 Q5 P5 C5 B5 X5 M5
    go_wp2_with fail
    refine (all_any lo q5 (fun _ => True) lo n k [] lost w6 Q6.out).mono ?_
    rintro e w7 ⟨v7, S7, rfl, o7, m7, b7⟩
    obtain ⟨A7, c7, hv7⟩ := o7.sl
    subst hv7
    have Q7 := Lib.hid (Q6.out.below b7)
    have P7 := Lib.hid (P6.out.below b7)
    have C7 := Lib.hid (C6.out.below b7)
    have X7 := Lib.hid (X6.out.below b7)
    have M7 := Lib.hid (M6.out.below b7)
    have Y7 := Lib.hid (Y6.out.below b7)
    have N7 := Lib.hid (N6.out.below b7)
    have B7 : Hid (Below lo w w7) := B6.out.trans (b7.mono Q6.out.nil)
    clear o7 m7 b7 Q6 P6 C6 X6 M6 Y6 N6 B6
    go_wp2_with fail
    refine (free_any lo q5 (fun _ => True) lo n k [] lost w7 Q7.out).mono ?_
    rintro e w8 ⟨he8, b8⟩
    rw [show k - (([] : List (List Int)).length : Int) = k by simp] at he8
    subst he8
    have hkk : (k != k) = false := by simp
    have Q8 := Lib.hid (Q7.out.below b8)
    have P8 := Lib.hid (P7.out.below b8)
    have C8 := Lib.hid (C7.out.below b8)
    have X8 := Lib.hid (X7.out.below b8)
    have M8 := Lib.hid (M7.out.below b8)
    have Y8 := Lib.hid (Y7.out.below b8)
    have N8 := Lib.hid (N7.out.below b8)
    have B8 : Hid (Below lo w w8) := B7.out.trans (b8.mono Q7.out.nil)
    clear b8 Q7 P7 C7 X7 M7 Y7 N7 B7
    go_wp2_with fail
    have BK := back_ok lo q5 (fun _ => True) lo n k [] lost _ _ Ax LL.length cx Sx LL w8 Q8.out X8.out.sq M8.out.mr (by have := HBD.out; omega) (chk_fits HBD.out.2.1 (by have := HBD.out; simp; omega)) (fun _ _ => trivial)
    refine BK.mono ?_
    rintro e w9 ⟨q9, rfl, q9', n9⟩
    rw [List.append_nil] at q9'
    have Q9 := Lib.hid q9'
    have P9 := Lib.hid (P8.out.fot n9.fo (fun b hb hp => by have h1 := HE5.out b hp; have h2 := HE6.out b hb; rw [h1] at h2; have := HG.out; omega) Q8.out.ty)
    have C9 := Lib.hid (C8.out.fot n9.fo (fun b hb hp => by have h1 := HE5.out b hp; have := HQC.out.1 b hb; have := HQC.out.2.1 lo HPG.out; omega) Q8.out.ty)
    have Y9 : Hid (Ow 33 w9 (fun b => p2 b ∧ ¬ q6 b) (.slice Ay LL.length cy) LL.length (CS Sy)) := Y8.out.fo n9.fo fun b hb hp => by have h1 := HE5.out b hp; subst h1; exact HD3.out _ HPG.out hb.1
    have N9 := Lib.hid (N8.out.keepq Q8.out n9)
    have B9 : Hid (Below lo w w9) := B8.out.trans (Q8.out.nx n9)
    clear q9' n9 Q8 P8 C8 X8 M8 Y8 N8 B8 BK
    go_wp2_with fail
    refine (same_any lo lo q9 qc (fun _ => True) (fun _ => True) lo gc n n k k LL LL lost lost w9 Q9.out C9.out).mono ?_
    rintro e w10 ⟨he_, b10⟩
    simp only [and_self, decide_true, Bool.and_self] at he_
    subst he_
    have P10 := Lib.hid (P9.out.below b10)
    have C10 := Lib.hid (C9.out.below b10)
    have Y10 := Lib.hid (Y9.out.below b10)
    have N10 := Lib.hid (N9.out.below b10)
    have B10 : Hid (Below lo w w10) := B9.out.trans (b10.mono Q9.out.nil)
    clear b10 Q9 P9 C9 Y9 N9 B9
    have hl32 : (LL.length : Int) ≤ 32 := by have := HBD.out; omega
    have u3 := u64_tmod a3 ((LL.length : Int) + 1) (by omega)
    obtain ⟨kk, hkk⟩ : ∃ kk : Nat, (IntKind.u64.wrap a3).tmod ((LL.length : Int) + 1) = (kk : Int) := ⟨((IntKind.u64.wrap a3).tmod ((LL.length : Int) + 1)).toNat, by omega⟩
    rw [hkk] at u3
    have hkl : (kk : Int) ≤ (LL.length : Int) := by omega
    have hku : IntKind.u64.wrap ((LL.length : Int) + 1) = (LL.length : Int) + 1 := by rw [IntKind.wrap_u64]; omega
    have hkz : ¬ (LL.length : Int) + 1 = 0 := by omega
    have HKL : Hid (kk ≤ LL.length ∧ LL.length ≤ cy) := ⟨by omega, ow_cap Y10.out⟩
    have hkc : (kk : Int) ≤ (cy : Int) := by have := HKL.out; omega
    have hlc : (LL.length : Int) ≤ (cy : Int) := by have := HKL.out; omega
    clear u3
    go_wp2_with fail
    refine (known_any w10).mono ?_
    rintro e w11 ⟨rfl, b11⟩
    have P11 := Lib.hid (P10.out.below b11)
    have C11 := Lib.hid (C10.out.below b11)
    have Y11 := Lib.hid (Y10.out.below b11)
    have N11 := Lib.hid (N10.out.below b11)
    have B11 : Hid (Below lo w w11) := B10.out.trans (b11.mono C10.out.nil)
    clear b11 P10 C10 Y10 N10 B10
    obtain ⟨A1, hA1⟩ : ∃ A1, (if cy = kk then Ay else Ay.map (fun x => x.add kk)) = A1 := ⟨_, rfl⟩
    have SQ := Lib.hid (Sq_drop Y11.out.sq HKL.out.1 HKL.out.2)
    rw [hA1, CS_drop] at SQ
    have hk1 : (0 : Int) ≤ (kk : Int) := by omega
    go_wp2_with fail
    have hdl : ∀ L ∈ LL.drop kk, (L.length : Int) ≤ n := fun L hL => HBD.out.2.1 L (List.mem_of_mem_drop hL)
    have htl : ∀ L ∈ LL.take kk, (L.length : Int) ≤ n := fun L hL => HBD.out.2.1 L (List.mem_of_mem_take hL)
    have HDT := Lib.hid (And.intro hdl htl)
    clear hdl htl
    have BK := back_ok lo q6 (fun _ => True) g2 n k [] lost _ _ A1 (LL.length - kk) (cy - kk) (Sy.drop kk) (LL.drop kk) w11 P11.out SQ.out (N11.out.mr.drop kk) (by have := HBD.out; omega) (chk_fits HDT.out.1 (by have := HBD.out; have := HKL.out; simp; omega)) (fun _ _ => trivial)
    refine BK.mono ?_
    rintro e w12 ⟨q12, rfl, q12', n12⟩
    rw [List.append_nil] at q12'
    have P12 := Lib.hid q12'
    have HXX : Hid (∀ b, q12 b → ¬ qc b) := fun b hb hc => by
      rcases n12.sub b hb with h | h
      · have h1 := HE6.out b h; have h2 := HQC.out.1 b hc; have h3 := HQC.out.2.2 g2 HPG2.out; omega
      · have := (C11.out.low b hc).2; omega
    have C12 := Lib.hid (C11.out.fot n12.fo (fun b hb hp => by have h1 := HE6.out b hp; have h2 := HQC.out.1 b hb; have h3 := HQC.out.2.2 g2 HPG2.out; omega) P11.out.ty)
    have Y12 : Hid (Ow 33 w12 (fun b => p2 b ∧ ¬ q6 b) (.slice Ay LL.length cy) LL.length (CS Sy)) := Y11.out.fo n12.fo fun b hb hp => hb.2 hp
    have N12 := Lib.hid (N11.out.keepq P11.out n12)
    have B12 : Hid (Below lo w w12) := B11.out.trans (P11.out.nx n12)
    have SQ2 := Lib.hid (Sq_take Y12.out.sq HKL.out.1)
    rw [CS_take] at SQ2
    clear q12' n12 P11 C11 Y11 N11 B11 BK SQ
    go_wp2_with fail
    have BK := back_ok lo q12 (fun _ => True) g2 n k (LL.drop kk) lost _ _ Ay kk cy (Sy.take kk) (LL.take kk) w12 P12.out SQ2.out (N12.out.mr.take kk) (by have := HBD.out; have := HKL.out; omega) (chk_fits HDT.out.2 (by have := HBD.out; have := HKL.out; simp; omega)) (fun _ _ => trivial)
    refine BK.mono ?_
    rintro e w13 ⟨q13, rfl, q13', n13⟩
    rw [List.take_append_drop] at q13'
    have P13 := Lib.hid q13'
    have C13 := Lib.hid (C12.out.fot n13.fo (fun b hb hp => HXX.out b hp hb) P12.out.ty)
    have B13 : Hid (Below lo w w13) := B12.out.trans (P12.out.nx n13)
    clear q13' n13 P12 C12 Y12 N12 B12 BK SQ2
    go_wp2_with fail
    refine (same_any lo lo q13 qc (fun _ => True) (fun _ => True) g2 gc n n k k LL LL lost lost w13 P13.out C13.out).mono ?_
    rintro e w14 ⟨he_, b14⟩
    simp only [and_self, decide_true, Bool.and_self] at he_
    subst he_
    have B14 : Hid (Below lo w w14) := B13.out.trans (b14.mono P13.out.nil)
    clear b14
    go_wp2_with fail
    go_ret
    exact ⟨rfl, B14.out⟩
end Go.Proofs.Ytejambofnffopaa.Q
