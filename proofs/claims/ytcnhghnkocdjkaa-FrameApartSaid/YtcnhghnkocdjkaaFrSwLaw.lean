/-
  The walk of FrameSwitch. Each statement bears its own conditions.
-/
import Derived.Test.YtcnhghnkocdjkaaFrQ
namespace Go.Proofs.Ytcnhghnkocdjkaa
open Go.RowKit
set_option linter.unusedVariables false
set_option linter.unusedSimpArgs false
theorem little_len (ts : List MT) : (little ts).length ≤ 9 := by unfold little; rw [List.length_map, List.length_take]; omega
theorem little_ws (ts : List MT) : ∀ t ∈ little ts, t.ws.length ≤ 70 := by
  intro t ht
  unfold little at ht
  obtain ⟨x, _, rfl⟩ := List.mem_map.1 ht
  show (x.ws.take 70).length ≤ 70
  rw [List.length_take]; omega
theorem newErr_zero {ts : List MT} {mode : Int} (h : newErr ts mode = 0) : 1 ≤ ts.length ∧ ts.length ≤ 8 ∧ chkTs ts = 0 ∧ 0 ≤ mode ∧ mode < ts.length := by
  unfold newErr at h
  by_cases h1 : ts.length < 1
  · rw [if_pos h1] at h; cases h
  rw [if_neg h1] at h
  by_cases h2 : 8 < ts.length
  · rw [if_pos h2] at h; cases h
  rw [if_neg h2] at h
  by_cases h3 : chkTs ts = 0
  · rw [if_pos h3] at h
    by_cases h4 : 0 ≤ mode
    · rw [if_pos h4] at h
      by_cases h5 : mode < ts.length
      · exact ⟨by omega, by omega, h3, h4, h5⟩
      · rw [if_neg h5] at h; cases h
    · rw [if_neg h4] at h; cases h
  · rw [if_neg h3] at h
    exact absurd h h3
theorem newErr_of {ts : List MT} {mode : Int} (h1 : 1 ≤ ts.length) (h2 : ts.length ≤ 8) (h3 : chkTs ts = 0) (h4 : 0 ≤ mode) (h5 : mode < ts.length) : newErr ts mode = 0 := by
  unfold newErr
  rw [if_neg (by omega), if_neg (by omega), if_pos h3, if_pos h4, if_pos h5]
structure SwRel (l : List MT) (m wn q : Nat) (fr : Int) (hi1 g1 lo2 hi2 g2 : Nat) (W1 : World) (v : Value) (wr : World) : Prop where
  ex : ∃ k : Nat, (k : Int) ≤ fr ∧ v = .int .i64 (k : Int) ∧ PF W1.heap.size hi1 g1 wr (if (k : Int) = fr then ⟨l, wn, wn, fr, 0⟩ else ⟨l, m, if k ≤ q then (m : Int) else wn, k, k⟩) ∧ PF lo2 hi2 g2 wr (if (k : Int) = fr then ⟨l, m, m, fr, 0⟩ else ⟨l, m, m, k, k⟩) ∧ Below W1.heap.size W1 wr
structure SwRel2 (l : List MT) (wn : Nat) (fr fr2 : Int) (hi1 g1 lo3 hi3 g3 : Nat) (W1 : World) (v : Value) (wr : World) : Prop where
  ex : ∃ k : Nat, (k : Int) ≤ fr2 ∧ v = .int .i64 (k : Int) ∧ PF W1.heap.size hi1 g1 wr (if (k : Int) = fr2 then ⟨l, wn, wn, (k : Int) + fr, 0⟩ else ⟨l, wn, wn, (k : Int) + fr, k⟩) ∧ PF lo3 hi3 g3 wr (if (k : Int) = fr2 then ⟨l, wn, wn, k, 0⟩ else ⟨l, wn, wn, k, k⟩) ∧ Below W1.heap.size W1 wr
theorem neqU_self (a b c d : Int) (x y z : Bool) (W : World) : (binOp .neq 63 (.agg #[.int .i64 a, .int .i64 b, .int .i64 c, .int .i64 d, .bool x, .bool y, .bool z]) (.agg #[.int .i64 a, .int .i64 b, .int .i64 c, .int .i64 d, .bool x, .bool y, .bool z])).run Try.prog W = .ok (.bool false) W := by
  go_simp
set_option maxRecDepth 100000 in
set_option maxHeartbeats 8000000 in
theorem switch_walk (v : Value) (ts : List MT) (mode wanted at_ : Int) (w : World) (h : Row w 2 (RTc w) v ts) (hmode : I64 mode) (hwanted : I64 wanted) (hat : I64 at_) :
    Calls Try.prog 6 #[v, .int .i64 mode, .int .i64 wanted, .int .i64 at_] w fun e w' => e = .returned (.bool true) ∧ Below w.heap.size w w' := by
  have CL := Lib.hid (little_any v ts w h)
  have HLW := Lib.hid (little_ws ts)
  obtain ⟨l, hl⟩ : ∃ l, little ts = l := ⟨_, rfl⟩
  rw [hl] at CL HLW
  obtain ⟨a0, c0, rfl, _⟩ := h.form
  have HM := Lib.hid hmode
  have HWT := Lib.hid hwanted
  have HAT := Lib.hid hat
  clear h hl hmode hwanted hat
  go_enter Try.func6, Try.ntmps6
  go_wp2_with fail
  refine CL.out.mono ?_
  rintro e W1 ⟨⟨r, rfl, hr⟩, b1⟩
  obtain ⟨ra, rc, rfl, hrm⟩ := hr.form
  have HR := Lib.hid hr
  have B1 := Lib.hid b1
  obtain ⟨n, hn⟩ : ∃ n, l.length = n := ⟨_, rfl⟩
  have HN := Lib.hid hn
  have CN := Lib.hid fun W (hb : Below W1.heap.size W1 W) (md : Int) (hmd : I64 md) => new_any (.slice ra l.length rc) l md W (HR.out.keep hb fun _ _ h => h.below hb) HLW.out hmd
  rw [hn] at CN
  simp only [hn]
  obtain ⟨er, her⟩ : ∃ er, newErr l mode = er := ⟨_, rfl⟩
  have HER := Lib.hid her
  have hnm : n ≤ 8796093021952 := by unfold rowMax at hrm; omega
  clear CL hr b1 hn hrm her
  have HR2 : Hid (Row W1 2 (RT W1) (.slice ra n rc) l) := by have := HR.out; rw [HN.out] at this; exact this
  go_wp2_with fail
  refine (CN.out W1 (Below.refl _ _) mode HM.out).mono ?_
  rintro e W2 ⟨hor, b2⟩
  rw [HER.out] at hor
  have B2 := Lib.hid b2
  clear b2
  by_cases he0 : er = 0
  rotate_left
  · have heb : (er == 0) = false := by simpa using he0
    have hec : (er != 0) = true := by simpa using he0
    rcases hor with ⟨_, rfl⟩ | ⟨h0, _⟩
    rotate_left
    · exact absurd h0 he0
    go_wp2_with fail
    refine (CN.out W2 B2.out mode HM.out).mono ?_
    rintro e W3 ⟨hor, b3⟩
    rw [HER.out] at hor
    rcases hor with ⟨_, rfl⟩ | ⟨h0, _⟩
    rotate_left
    · exact absurd h0 he0
    have B3 : Hid (Below w.heap.size w W3) := B1.out.trans ((B2.out.trans (b3.mono B2.out.size)).mono B1.out.size)
    clear b3
    go_wp2_with fail
    refine (known_any _).mono ?_
    rintro e W4 ⟨rfl, b4⟩
    go_wp2_with fail
    go_ret
    exact ⟨rfl, B3.out.trans (b4.mono B3.out.size)⟩
  subst he0
  rcases hor with ⟨h0, _⟩ | ⟨_, g1, hi1, rfl, hp1⟩
  · exact absurd rfl h0
  obtain ⟨z1, z2, z3, z4, z5⟩ := newErr_zero HER.out
  have HP1 := Lib.hid hp1
  have HQ1 := Lib.hid hp1.lt
  clear hp1
  go_wp2_with fail
  refine (CN.out W2 B2.out mode HM.out).mono ?_
  rintro e W3 ⟨hor, b3⟩
  rw [HER.out] at hor
  rcases hor with ⟨h0, _⟩ | ⟨_, g2, hi2, rfl, hp2⟩
  · exact absurd rfl h0
  have HP2 := Lib.hid hp2
  have HP1 : Hid (PF W1.heap.size hi1 g1 W3 ⟨l, mode, mode, 0, 0⟩) := HP1.out.below b3
  have B3 : Hid (Below W1.heap.size W1 W3) := B2.out.trans (b3.mono B2.out.size)
  have HAP : Hid (g1 < W2.heap.size ∧ hi1 ≤ W2.heap.size ∧ W2.heap.size ≤ g2 ∧ W1.heap.size ≤ g1 ∧ W1.heap.size ≤ W2.heap.size) := by
    have q1 := HQ1.out
    have q2 := hp2.lt
    have q3 := B2.out.size
    exact ⟨by omega, by omega, by omega, by omega, by omega⟩
  clear b3 hp2
  have z5n : mode < (n : Int) := by have := HN.out; omega
  by_cases hw0 : 0 ≤ wanted
  rotate_left
  · go_wp2_with fail
    refine (known_any _).mono ?_
    rintro e W4 ⟨rfl, b4⟩
    go_wp2_with fail
    go_ret
    exact ⟨rfl, (B1.out.trans (B3.out.mono B1.out.size)).trans (b4.mono (B1.out.trans (B3.out.mono B1.out.size)).size)⟩
  by_cases hw1 : wanted < (n : Int)
  rotate_left
  · go_wp2_with fail
    refine (known_any _).mono ?_
    rintro e W4 ⟨rfl, b4⟩
    go_wp2_with fail
    go_ret
    exact ⟨rfl, (B1.out.trans (B3.out.mono B1.out.size)).trans (b4.mono (B1.out.trans (B3.out.mono B1.out.size)).size)⟩
  obtain ⟨m, rfl⟩ : ∃ m : Nat, mode = (m : Int) := ⟨mode.toNat, by omega⟩
  obtain ⟨wn, rfl⟩ : ∃ wn : Nat, wanted = (wn : Int) := ⟨wanted.toNat, by omega⟩
  have hmn : m < n := by omega
  have hwn : wn < n := by omega
  obtain ⟨hnx, b, off, x, cs, rfl, hbl, hx, hRx, _, hcx⟩ := HR2.out.at_ m hmn
  obtain ⟨hnx', b', off', y, cs', e', hbl', hy, hRy, _, hcy⟩ := HR2.out.at_ wn hwn
  injection e' with e'
  injection e' with e1 e2
  subst e1 e2
  obtain ⟨fr, ws⟩ := x
  obtain ⟨fr2, ws2⟩ := y
  obtain ⟨vx, rfl, hxi, hxr⟩ := hRx
  obtain ⟨vy, rfl, hyi, hyr⟩ := hRy
  have hgood := chkTs_zero z3
  have hck1 := chk_zero (hgood _ (List.mem_of_getElem? hx))
  have hck2 := chk_zero (hgood _ (List.mem_of_getElem? hy))
  dsimp only at hck1 hck2
  have HFR : Hid (1 ≤ fr ∧ fr ≤ 1048576 ∧ 1 ≤ fr2 ∧ fr2 ≤ 1048576) := ⟨hck1.1, hck1.2.1, hck2.1, hck2.2.1⟩
  have d0 : W3.cell? ⟨b, off + m * 2, none⟩ = some (.int .i64 fr) := cell_later B3.out (hcx 0 _ rfl)
  have D1 : Hid (W1.cell? ⟨b, off + wn * 2, none⟩ = some (.int .i64 fr2)) := hcy 0 _ rfl
  have HX := Lib.hid hx
  have HY := Lib.hid hy
  have HG := Lib.hid hgood
  have HZ : Hid (1 ≤ l.length ∧ l.length ≤ 8 ∧ chkTs l = 0) := ⟨z1, z2, z3⟩
  clear hnx hnx' hbl hbl' hcx hcy hxi hxr hyi hyr hck1 hck2 hgood hx hy z1 z2 z3 z4 z5 HR
  have hb0 : decide ((wn : Int) < 0) = false := decide_eq_false (by omega)
  have hb1 : decide ((n : Int) ≤ (wn : Int)) = false := decide_eq_false (by omega)
  have hb2 : decide (n ≤ wn) = false := decide_eq_false (by omega)
  obtain ⟨A, hA, hA0⟩ : ∃ A, IntKind.u64.wrap at_ = A ∧ 0 ≤ A := ⟨_, rfl, by rw [IntKind.wrap_u64]; omega⟩
  have hu1 : IntKind.u64.wrap fr = fr := by rw [IntKind.wrap_u64]; have := HFR.out; omega
  have hfr0 : ¬ fr = 0 := by have := HFR.out; omega
  have hfr0b : (fr == 0) = false := by simpa using hfr0
  have htm : A.tmod fr = A % fr := Int.tmod_eq_emod_of_nonneg hA0
  obtain ⟨q, hq⟩ : ∃ q : Nat, A % fr = (q : Int) := ⟨(A % fr).toNat, by have := Int.emod_nonneg A hfr0; omega⟩
  have hqf : (q : Int) < fr := by rw [← hq]; exact Int.emod_lt_of_pos _ (by have := HFR.out; omega)
  have hq1 : IntKind.u64.wrap (q : Int) = (q : Int) := by rw [IntKind.wrap_u64]; have := HFR.out; omega
  have hq2 : IntKind.i64.wrap (q : Int) = (q : Int) := wrap_ok (by omega) (by have := HFR.out; omega)
  have HQF := Lib.hid hqf
  clear hqf hA0
  go_upto_block 0 with fail
  clear hA hu1 hfr0 hfr0b htm hq hq1 hq2
  obtain ⟨W1s, hW1s⟩ : ∃ k, W1.heap.size = k := ⟨_, rfl⟩
  obtain ⟨lo2, hlo2⟩ : ∃ k, W2.heap.size = k := ⟨_, rfl⟩
  have HP2 : Hid (PF lo2 hi2 g2 W3 ⟨l, (m : Int), (m : Int), 0, 0⟩) := by rw [← hlo2]; exact HP2.out
  rw [hlo2] at HAP
  have HWN : Hid (wn < n ∧ m < n) := ⟨hwn, hmn⟩
  clear hb0 hb1 hb2 hlo2 hW1s d0 B2 hw0 hw1 hwn hmn z5n
  go_wp2_with fail
  go_loopw [14] (fun v wr => SwRel l m wn q fr hi1 g1 lo2 hi2 g2 W1 v wr) (fun v => fun _ => fr.toNat - (intOf v).toNat)
  case atStart =>
    refine ⟨0, by have := HFR.out; omega, rfl, ?_, ?_, B3.out⟩
    · rw [if_neg (by have := HFR.out; omega), if_pos (Nat.zero_le _)]; exact HP1.out
    · rw [if_neg (by have := HFR.out; omega)]; exact HP2.out
  case round =>
    obtain ⟨⟨k, hk, rfl, hq1, hq2, hb⟩⟩ := hrel
    have HB := Lib.hid hb
    by_cases hlt : (k : Int) < fr
    · rw [if_neg (by omega)] at hq1 hq2
      have HX0 : Hid ((k : Int) < fr) := hlt
      have hwk : IntKind.i64.wrap ((k : Int) + 1) = (k : Int) + 1 := wrap_ok (by omega) (by have := HFR.out; omega)
      obtain ⟨nx, hnx⟩ : ∃ nx : Int, (if k + 1 ≤ q then (m : Int) else wn) = nx := ⟨_, rfl⟩
      have HNX : Hid (0 ≤ nx ∧ nx < (l.length : Int)) := by
        have := HN.out
        have := HWN.out
        unfold Hid
        rw [← hnx]
        split <;> omega
      have HNX2 := Lib.hid hnx
      have HPI1 : Hid (PI ⟨l, (m : Int), nx, k, k⟩ ⟨fr, ws⟩) := ⟨HZ.out.2.1, HG.out, by simpa using HX.out, by simp, HNX.out, ⟨by simp, hlt⟩, ⟨by simp, by have := HFR.out; dsimp only; omega⟩⟩
      have HPI2 : Hid (PI ⟨l, (m : Int), (m : Int), k, k⟩ ⟨fr, ws⟩) := ⟨HZ.out.2.1, HG.out, by simpa using HX.out, by simp, ⟨by simp, by have := HN.out; have := HWN.out; dsimp only; omega⟩, ⟨by simp, hlt⟩, ⟨by simp, by have := HFR.out; dsimp only; omega⟩⟩
      obtain ⟨uw, ul, ub, ue, uf, hU⟩ : ∃ uw ul ub ue uf, turnOf ⟨l, (m : Int), (m : Int), k, k⟩ ⟨fr, ws⟩ = ⟨k, m, uw, ul, ub, ue, uf⟩ := ⟨_, _, _, _, _, rfl⟩
      have hU1 : turnOf ⟨l, (m : Int), nx, k, k⟩ ⟨fr, ws⟩ = ⟨k, m, uw, ul, ub, ue, uf⟩ := hU
      have CT1 : Hid (∀ W, PF W1.heap.size hi1 g1 W ⟨l, (m : Int), nx, k, k⟩ → Calls Try.prog 27 #[.pointer (some ⟨g1, 0, none⟩)] W fun e w' => e = .returned (.agg #[.int .i64 (k : Int), .int .i64 (m : Int), .int .i64 uw, .int .i64 ul, .bool ub, .bool ue, .bool uf]) ∧ PF W1.heap.size hi1 g1 w' (stepOf ⟨l, (m : Int), nx, k, k⟩ ⟨fr, ws⟩) ∧ Past g1 W w') := fun W hp => by
        have h := tick_any _ _ _ _ _ W hp HPI1.out
        rw [hU1] at h
        exact h
      have CT2 : Hid (∀ W, PF lo2 hi2 g2 W ⟨l, (m : Int), (m : Int), k, k⟩ → Calls Try.prog 27 #[.pointer (some ⟨g2, 0, none⟩)] W fun e w' => e = .returned (.agg #[.int .i64 (k : Int), .int .i64 (m : Int), .int .i64 uw, .int .i64 ul, .bool ub, .bool ue, .bool uf]) ∧ PF lo2 hi2 g2 w' (stepOf ⟨l, (m : Int), (m : Int), k, k⟩ ⟨fr, ws⟩) ∧ Past g2 W w') := fun W hp => by
        have h := tick_any _ _ _ _ _ W hp HPI2.out
        rw [hU] at h
        exact h
      have HS1 : Hid (stepOf ⟨l, (m : Int), nx, k, k⟩ ⟨fr, ws⟩ = if ((k + 1 : Nat) : Int) = fr then ⟨l, wn, wn, fr, 0⟩ else ⟨l, m, if k + 1 ≤ q then (m : Int) else wn, (k + 1 : Nat), (k + 1 : Nat)⟩) := by
        unfold Hid stepOf
        dsimp only
        by_cases he : (k : Int) + 1 = fr
        · have hnw : nx = (wn : Int) := by rw [← hnx, if_neg (by have := HQF.out; omega)]
          rw [if_pos he, if_pos (by omega), hnw, he]
        · rw [if_neg he, if_neg (by omega), hnx]
          simp
      have HS2 : Hid (stepOf ⟨l, (m : Int), (m : Int), k, k⟩ ⟨fr, ws⟩ = if ((k + 1 : Nat) : Int) = fr then ⟨l, m, m, fr, 0⟩ else ⟨l, m, m, (k + 1 : Nat), (k + 1 : Nat)⟩) := by
        unfold Hid stepOf
        dsimp only
        by_cases he : (k : Int) + 1 = fr
        · rw [if_pos he, if_pos (by omega), he]
        · rw [if_neg he, if_neg (by omega)]
          simp
      have HQ1 := Lib.hid hq1
      have HQ2 := Lib.hid hq2
      have RUN := fun W => neqU_self (k : Int) (m : Int) uw ul ub ue uf W
      clear hk hq1 hq2 hb hU hU1 hnx
      by_cases hkq : k = q
      · have hkb : ((k : Int) == (q : Int)) = true := by simp [hkq]
        have hwnl : 0 ≤ (wn : Int) ∧ (wn : Int) < ((⟨l, (m : Int), if k ≤ q then (m : Int) else wn, k, k⟩ : MP).ts.length : Int) := ⟨by simp, by have := HN.out; have := HWN.out; dsimp only; omega⟩
        have CR := Lib.hid (request_ok _ _ _ _ (wn : Int) wr HQ1.out hwnl)
        have HNW : Hid (nx = (wn : Int)) := by unfold Hid; rw [← HNX2.out, if_neg (by omega)]
        clear hwnl hkq
        go_wp2_with fail
        refine CR.out.mono ?_
        rintro e W4 ⟨rfl, hp4, hpast⟩
        (try dsimp only at hp4)
        rw [← HNW.out] at hp4
        have HP4 := Lib.hid hp4
        have HQ4 : Hid (PF lo2 hi2 g2 W4 ⟨l, (m : Int), (m : Int), k, k⟩) := HQ2.out.other hpast (.inl (by have := HAP.out; omega))
        have HB4 : Hid (Below W1.heap.size W1 W4) := HB.out.trans (hpast.below HAP.out.2.2.2.1 HB.out.size)
        clear hp4 hpast CR
        go_wp2_with fail
        refine (CT1.out W4 HP4.out).mono ?_
        rintro e W5 ⟨rfl, hp5, hpast⟩
        have HP5 := Lib.hid hp5
        have HQ5 : Hid (PF lo2 hi2 g2 W5 ⟨l, (m : Int), (m : Int), k, k⟩) := HQ4.out.other hpast (.inl (by have := HAP.out; omega))
        have HB5 : Hid (Below W1.heap.size W1 W5) := HB4.out.trans (hpast.below HAP.out.2.2.2.1 HB4.out.size)
        clear hp5 hpast CT1
        go_wp2_with fail
        refine (CT2.out W5 HQ5.out).mono ?_
        rintro e W6 ⟨rfl, hp6, hpast⟩
        have HP6 : Hid (PF W1.heap.size hi1 g1 W6 (stepOf ⟨l, (m : Int), nx, k, k⟩ ⟨fr, ws⟩)) := HP5.out.other hpast (.inr (by have := HAP.out; omega))
        have HQ6 := Lib.hid hp6
        have HB6 : Hid (Below W1.heap.size W1 W6) := HB5.out.trans (hpast.below (by have := HAP.out; omega) HB5.out.size)
        clear hp6 hpast CT2
        have HFIN : Hid (∀ o1 o2, SwRel l m wn q fr hi1 g1 lo2 hi2 g2 W1 (.int .i64 ((k : Int) + 1)) ((W6.alloc o1).alloc o2)) := fun o1 o2 => by
          have hbb : Below W6.heap.size W6 ((W6.alloc o1).alloc o2) := ((Below.refl _ _).alloc (Nat.le_refl _) _).alloc (by simp) _
          refine ⟨k + 1, by have := HX0.out; omega, by simp, ?_, ?_, HB6.out.trans (hbb.mono HB6.out.size)⟩
          · rw [← HS1.out]; exact HP6.out.below hbb
          · rw [← HS2.out]; exact HQ6.out.below hbb
        go_wp2_with fail
        go_roundw
        case rel => first | exact HFIN.out _ _ | ((repeat apply Exists.intro); exact ⟨HFIN.out _ _, rfl⟩)
        case measure => have := HX0.out; simp [intOf]; omega
      · have hkb : ((k : Int) == (q : Int)) = false := by simpa using fun h => hkq (by omega)
        have hsame : (if k ≤ q then (m : Int) else wn) = nx := by
          rw [← HNX2.out]
          by_cases h1 : k + 1 ≤ q
          · rw [if_pos h1, if_pos (by omega)]
          · rw [if_neg h1, if_neg (by omega)]
        have HP4 : Hid (PF W1.heap.size hi1 g1 wr ⟨l, (m : Int), nx, k, k⟩) := by have := HQ1.out; rw [hsame] at this; exact this
        obtain ⟨W4, hW4⟩ : ∃ W4, W4 = wr := ⟨_, rfl⟩
        subst hW4
        have HQ4 : Hid (PF lo2 hi2 g2 W4 ⟨l, (m : Int), (m : Int), k, k⟩) := HQ2.out
        have HB4 : Hid (Below W1.heap.size W1 W4) := HB.out
        clear hsame hkq
        go_wp2_with fail
        refine (CT1.out W4 HP4.out).mono ?_
        rintro e W5 ⟨rfl, hp5, hpast⟩
        have HP5 := Lib.hid hp5
        have HQ5 : Hid (PF lo2 hi2 g2 W5 ⟨l, (m : Int), (m : Int), k, k⟩) := HQ4.out.other hpast (.inl (by have := HAP.out; omega))
        have HB5 : Hid (Below W1.heap.size W1 W5) := HB4.out.trans (hpast.below HAP.out.2.2.2.1 HB4.out.size)
        clear hp5 hpast CT1
        go_wp2_with fail
        refine (CT2.out W5 HQ5.out).mono ?_
        rintro e W6 ⟨rfl, hp6, hpast⟩
        have HP6 : Hid (PF W1.heap.size hi1 g1 W6 (stepOf ⟨l, (m : Int), nx, k, k⟩ ⟨fr, ws⟩)) := HP5.out.other hpast (.inr (by have := HAP.out; omega))
        have HQ6 := Lib.hid hp6
        have HB6 : Hid (Below W1.heap.size W1 W6) := HB5.out.trans (hpast.below (by have := HAP.out; omega) HB5.out.size)
        clear hp6 hpast CT2
        have HFIN : Hid (∀ o1 o2, SwRel l m wn q fr hi1 g1 lo2 hi2 g2 W1 (.int .i64 ((k : Int) + 1)) ((W6.alloc o1).alloc o2)) := fun o1 o2 => by
          have hbb : Below W6.heap.size W6 ((W6.alloc o1).alloc o2) := ((Below.refl _ _).alloc (Nat.le_refl _) _).alloc (by simp) _
          refine ⟨k + 1, by have := HX0.out; omega, by simp, ?_, ?_, HB6.out.trans (hbb.mono HB6.out.size)⟩
          · rw [← HS1.out]; exact HP6.out.below hbb
          · rw [← HS2.out]; exact HQ6.out.below hbb
        go_wp2_with fail
        go_roundw
        case rel => first | exact HFIN.out _ _ | ((repeat apply Exists.intro); exact ⟨HFIN.out _ _, rfl⟩)
        case measure => have := HX0.out; simp [intOf]; omega
    · have hke : (k : Int) = fr := by omega
      rw [if_pos hke] at hq1 hq2
      have HQ1 := Lib.hid hq1
      have HQ2 := Lib.hid hq2
      have hkI : ¬ (k : Int) < fr := hlt
      obtain ⟨W5, hW5⟩ : ∃ W5, W5 = wr := ⟨_, rfl⟩
      subst hW5
      clear hk hq1 hq2 hb hke
      have HE2 : Hid (newErr l (wn : Int) = 0) := newErr_of HZ.out.1 HZ.out.2.1 HZ.out.2.2 (by simp) (by have := HN.out; have := HWN.out; omega)
      have hwnn : (wn : Int) < (n : Int) := by have := HWN.out; omega
      have hbw : ((wn : Int) == (wn : Int)) = true := by simp
      go_wp2_with fail
      refine (CN.out W5 HB.out (wn : Int) HWT.out).mono ?_
      rintro e W6 ⟨hor, b6⟩
      rw [HE2.out] at hor
      rcases hor with ⟨h0, _⟩ | ⟨_, g3, hi3, rfl, hp3⟩
      · exact absurd rfl h0
      have HP6 := Lib.hid (HQ1.out.below b6)
      have HB6 : Hid (Below W1.heap.size W1 W6) := HB.out.trans (b6.mono HB.out.size)
      have HAP3 : Hid (hi1 ≤ W5.heap.size ∧ W5.heap.size ≤ g3 ∧ W1.heap.size ≤ W5.heap.size) := ⟨HQ1.out.lt.2.2, hp3.lt.1, HB.out.size⟩
      have HR3 := Lib.hid hp3
      obtain ⟨lo3, hlo3⟩ : ∃ k, W5.heap.size = k := ⟨_, rfl⟩
      rw [hlo3] at HR3 HAP3
      clear b6 hp3 hlo3
      go_wp2_with fail
      refine (mode_any _ _ _ _ W6 HP6.out).mono ?_
      rintro e W7 ⟨rfl, b7⟩
      have HP7 := Lib.hid (HP6.out.below b7)
      have HR7 := Lib.hid (HR3.out.below b7)
      have HB7 : Hid (Below W1.heap.size W1 W7) := HB6.out.trans (b7.mono HB6.out.size)
      clear b7
      go_wp2_with fail
      have CW := Lib.hid (wanted_any _ _ _ _ W7 HP7.out)
      rw [if_pos rfl] at CW
      refine CW.out.mono ?_
      rintro e W8 ⟨rfl, b8⟩
      have HP8 := Lib.hid (HP7.out.below b8)
      have HR8 := Lib.hid (HR7.out.below b8)
      have HB8 : Hid (Below W1.heap.size W1 W8) := HB7.out.trans (b8.mono HB7.out.size)
      clear b8 CW
      go_wp2_with fail
      go_loopw [21] (fun v wr => SwRel2 l wn fr fr2 hi1 g1 lo3 hi3 g3 W1 v wr) (fun v => fun _ => fr2.toNat - (intOf v).toNat)
      case atStart =>
        refine ⟨0, by have := HFR.out; omega, rfl, ?_, ?_, HB8.out⟩
        · rw [if_neg (by have := HFR.out; omega)]
          have h := HP8.out
          rw [show fr = ((0 : Nat) : Int) + fr by omega] at h
          exact h
        · rw [if_neg (by have := HFR.out; omega)]; exact HR8.out
      case round =>
        obtain ⟨⟨j, hj, rfl, hq1, hq2, hb⟩⟩ := hrel
        have HBJ := Lib.hid hb
        have d1 : wr.cell? ⟨b, off + wn * 2, none⟩ = some (.int .i64 fr2) := cell_later hb D1.out
        by_cases hjlt : (j : Int) < fr2
        · rw [if_neg (by omega)] at hq1 hq2
          have HX0 : Hid ((j : Int) < fr2) := hjlt
          have hwj : IntKind.i64.wrap ((j : Int) + 1) = (j : Int) + 1 := wrap_ok (by omega) (by have := HFR.out; omega)
          have hwjf : IntKind.i64.wrap ((j : Int) + fr) = (j : Int) + fr := wrap_ok (by have := HFR.out; omega) (by have := HFR.out; omega)
          have HPI1 : Hid (PI ⟨l, (wn : Int), (wn : Int), (j : Int) + fr, j⟩ ⟨fr2, ws2⟩) := ⟨HZ.out.2.1, HG.out, by simpa using HY.out, by simp, ⟨by simp, by have := HN.out; have := HWN.out; dsimp only; omega⟩, ⟨by simp, hjlt⟩, ⟨by have := HFR.out; dsimp only; omega, by have := HFR.out; dsimp only; omega⟩⟩
          have HPI2 : Hid (PI ⟨l, (wn : Int), (wn : Int), j, j⟩ ⟨fr2, ws2⟩) := ⟨HZ.out.2.1, HG.out, by simpa using HY.out, by simp, ⟨by simp, by have := HN.out; have := HWN.out; dsimp only; omega⟩, ⟨by simp, hjlt⟩, ⟨by simp, by have := HFR.out; dsimp only; omega⟩⟩
          obtain ⟨uw, ul, ub, ue, uf, hU⟩ : ∃ uw ul ub ue uf, turnOf ⟨l, (wn : Int), (wn : Int), j, j⟩ ⟨fr2, ws2⟩ = ⟨j, wn, uw, ul, ub, ue, uf⟩ := ⟨_, _, _, _, _, rfl⟩
          have hU1 : turnOf ⟨l, (wn : Int), (wn : Int), (j : Int) + fr, j⟩ ⟨fr2, ws2⟩ = ⟨(j : Int) + fr, wn, uw, ul, ub, ue, uf⟩ := by
            have h1 := congrArg MU.who hU
            have h2 := congrArg MU.left hU
            have h3 := congrArg MU.begins hU
            have h4 := congrArg MU.ends hU
            have h5 := congrArg MU.frame hU
            dsimp only at h1 h2 h3 h4 h5
            rw [← h1, ← h2, ← h3, ← h4, ← h5]
            rfl
          have CT1 : Hid (∀ W, PF W1.heap.size hi1 g1 W ⟨l, (wn : Int), (wn : Int), (j : Int) + fr, j⟩ → Calls Try.prog 27 #[.pointer (some ⟨g1, 0, none⟩)] W fun e w' => e = .returned (.agg #[.int .i64 ((j : Int) + fr), .int .i64 (wn : Int), .int .i64 uw, .int .i64 ul, .bool ub, .bool ue, .bool uf]) ∧ PF W1.heap.size hi1 g1 w' (stepOf ⟨l, (wn : Int), (wn : Int), (j : Int) + fr, j⟩ ⟨fr2, ws2⟩) ∧ Past g1 W w') := fun W hp => by
            have h := tick_any _ _ _ _ _ W hp HPI1.out
            rw [hU1] at h
            exact h
          have CT2 : Hid (∀ W, PF lo3 hi3 g3 W ⟨l, (wn : Int), (wn : Int), j, j⟩ → Calls Try.prog 27 #[.pointer (some ⟨g3, 0, none⟩)] W fun e w' => e = .returned (.agg #[.int .i64 (j : Int), .int .i64 (wn : Int), .int .i64 uw, .int .i64 ul, .bool ub, .bool ue, .bool uf]) ∧ PF lo3 hi3 g3 w' (stepOf ⟨l, (wn : Int), (wn : Int), j, j⟩ ⟨fr2, ws2⟩) ∧ Past g3 W w') := fun W hp => by
            have h := tick_any _ _ _ _ _ W hp HPI2.out
            rw [hU] at h
            exact h
          have HS1 : Hid (stepOf ⟨l, (wn : Int), (wn : Int), (j : Int) + fr, j⟩ ⟨fr2, ws2⟩ = if ((j + 1 : Nat) : Int) = fr2 then ⟨l, wn, wn, ((j + 1 : Nat) : Int) + fr, 0⟩ else ⟨l, wn, wn, ((j + 1 : Nat) : Int) + fr, (j + 1 : Nat)⟩) := by
            unfold Hid stepOf
            dsimp only
            have hr : (j : Int) + fr + 1 = ((j + 1 : Nat) : Int) + fr := by omega
            by_cases he : (j : Int) + 1 = fr2
            · rw [if_pos he, if_pos (by omega), hr]
            · rw [if_neg he, if_neg (by omega), hr]
              simp
          have HS2 : Hid (stepOf ⟨l, (wn : Int), (wn : Int), j, j⟩ ⟨fr2, ws2⟩ = if ((j + 1 : Nat) : Int) = fr2 then ⟨l, wn, wn, (j + 1 : Nat), 0⟩ else ⟨l, wn, wn, (j + 1 : Nat), (j + 1 : Nat)⟩) := by
            unfold Hid stepOf
            dsimp only
            by_cases he : (j : Int) + 1 = fr2
            · rw [if_pos he, if_pos (by omega)]
              simp
            · rw [if_neg he, if_neg (by omega)]
              simp
          have HQ1 := Lib.hid hq1
          have HQ2 := Lib.hid hq2
          have RUN := fun W => neqU_self ((j : Int) + fr) (wn : Int) uw ul ub ue uf W
          clear hj hq1 hq2 hb hU hU1
          go_wp2_with fail
          refine (CT1.out wr HQ1.out).mono ?_
          rintro e W9 ⟨rfl, hp5, hpast⟩
          have HP5 := Lib.hid hp5
          have HQ5 : Hid (PF lo3 hi3 g3 W9 ⟨l, (wn : Int), (wn : Int), j, j⟩) := HQ2.out.other hpast (.inl (by have := HAP3.out; have := HQ1.out.lt; omega))
          have HB5 : Hid (Below W1.heap.size W1 W9) := HBJ.out.trans (hpast.below HAP.out.2.2.2.1 HBJ.out.size)
          clear hp5 hpast CT1 d1
          go_wp2_with fail
          refine (CT2.out W9 HQ5.out).mono ?_
          rintro e W10 ⟨rfl, hp6, hpast⟩
          have HP10 : Hid (PF W1.heap.size hi1 g1 W10 (stepOf ⟨l, (wn : Int), (wn : Int), (j : Int) + fr, j⟩ ⟨fr2, ws2⟩)) := HP5.out.other hpast (.inr (by have := HAP3.out; omega))
          have HQ10 := Lib.hid hp6
          have HB10 : Hid (Below W1.heap.size W1 W10) := HB5.out.trans (hpast.below (by have := HAP3.out; omega) HB5.out.size)
          clear hp6 hpast CT2
          have HFIN : Hid (∀ o1 o2, SwRel2 l wn fr fr2 hi1 g1 lo3 hi3 g3 W1 (.int .i64 ((j : Int) + 1)) ((W10.alloc o1).alloc o2)) := fun o1 o2 => by
            have hbb : Below W10.heap.size W10 ((W10.alloc o1).alloc o2) := ((Below.refl _ _).alloc (Nat.le_refl _) _).alloc (by simp) _
            refine ⟨j + 1, by have := HX0.out; omega, by simp, ?_, ?_, HB10.out.trans (hbb.mono HB10.out.size)⟩
            · rw [← HS1.out]; exact HP10.out.below hbb
            · rw [← HS2.out]; exact HQ10.out.below hbb
          go_wp2_with fail
          go_roundw
          case rel => first | exact HFIN.out _ _ | ((repeat apply Exists.intro); exact ⟨HFIN.out _ _, rfl⟩)
          case measure => have := HX0.out; simp [intOf]; omega
        · clear hj hq1 hq2 hb
          go_wp2_with fail
          refine (known_any _).mono ?_
          rintro e W9 ⟨rfl, b9⟩
          have B9 : Hid (Below w.heap.size w W9) := B1.out.trans ((HBJ.out.trans (b9.mono HBJ.out.size)).mono B1.out.size)
          clear b9
          go_wp2_with fail
          go_ret
          exact ⟨rfl, B9.out⟩
end Go.Proofs.Ytcnhghnkocdjkaa
