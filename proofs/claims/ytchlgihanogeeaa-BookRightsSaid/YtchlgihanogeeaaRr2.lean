/-
  What the program's Right answers in the reference: what is spoken through. Each statement bears its own conditions.
-/
import Derived.Test.YtchlgihanogeeaaRr1
import Derived.Test.YtchlgihanogeeaaR2
namespace Go.Proofs.Ytchlgihanogeeaa
open Go.RowKit
set_option linter.unusedVariables false
set_option linter.unusedSimpArgs false
set_option maxRecDepth 100000 in
set_option maxHeartbeats 8000000 in
theorem rspoken_any (qa : ByteArray) (qb : List MArea) (qc : List MTask) (qd : List MLock) (qe : List MSema) (qf : List MEvent) (qg : List MBoard) (qh : List MBuffer) (qi : List MPort) (qj : List MRule) (qk : Int) (ql : Int) (qm : Int) (vqb vqc vqd vqe vqf vqg vqh vqi vqj : Value) (w : World) (hsqa : qa.size ≤ maxLen) (hqb : Row w 6 RArea vqb qb) (hqc : Row w 8 RTask vqc qc) (hqd : Row w 2 RLock vqd qd) (hqe : Row w 4 RSema vqe qe) (hqf : Row w 1 REvent vqf qf) (hqg : Row w 2 RBoard vqg qg) (hqh : Row w 4 RBuffer vqh qh) (hqi : Row w 6 RPort vqi qi) (hqj : Row w 3 RRule vqj qj) (hlqg : qg.length ≤ 16) (hlqh : qh.length ≤ 16) (hlqi : qi.length ≤ 16) :
    Calls Try.prog 103 #[.agg #[.string qa, vqb, vqc, vqd, vqe, vqf, vqg, vqh, vqi, vqj, .int .i64 qk, .int .i64 ql, .int .i64 qm]] w fun e w' => e = .returned (.bool (qg.all rightBoard && qh.all rightBuffer && qi.all rightPort)) ∧ Below w.heap.size w w' := by
  obtain ⟨aqb, cqb, rfl, hmqb⟩ := hqb.form
  obtain ⟨nqb, hnqb⟩ : ∃ n, qb.length = n := ⟨_, rfl⟩
  rw [hnqb] at hqb hmqb ⊢
  unfold rowMax at hmqb
  have HNqb := Lib.hid hnqb
  have HMqb := Lib.hid hmqb
  clear hnqb hmqb
  obtain ⟨aqc, cqc, rfl, hmqc⟩ := hqc.form
  obtain ⟨nqc, hnqc⟩ : ∃ n, qc.length = n := ⟨_, rfl⟩
  rw [hnqc] at hqc hmqc ⊢
  unfold rowMax at hmqc
  have HNqc := Lib.hid hnqc
  have HMqc := Lib.hid hmqc
  clear hnqc hmqc
  obtain ⟨aqd, cqd, rfl, hmqd⟩ := hqd.form
  obtain ⟨nqd, hnqd⟩ : ∃ n, qd.length = n := ⟨_, rfl⟩
  rw [hnqd] at hqd hmqd ⊢
  unfold rowMax at hmqd
  have HNqd := Lib.hid hnqd
  have HMqd := Lib.hid hmqd
  clear hnqd hmqd
  obtain ⟨aqe, cqe, rfl, hmqe⟩ := hqe.form
  obtain ⟨nqe, hnqe⟩ : ∃ n, qe.length = n := ⟨_, rfl⟩
  rw [hnqe] at hqe hmqe ⊢
  unfold rowMax at hmqe
  have HNqe := Lib.hid hnqe
  have HMqe := Lib.hid hmqe
  clear hnqe hmqe
  obtain ⟨aqf, cqf, rfl, hmqf⟩ := hqf.form
  obtain ⟨nqf, hnqf⟩ : ∃ n, qf.length = n := ⟨_, rfl⟩
  rw [hnqf] at hqf hmqf ⊢
  unfold rowMax at hmqf
  have HNqf := Lib.hid hnqf
  have HMqf := Lib.hid hmqf
  clear hnqf hmqf
  obtain ⟨aqg, cqg, rfl, hmqg⟩ := hqg.form
  obtain ⟨nqg, hnqg⟩ : ∃ n, qg.length = n := ⟨_, rfl⟩
  rw [hnqg] at hqg hmqg ⊢
  unfold rowMax at hmqg
  have HNqg := Lib.hid hnqg
  have HMqg := Lib.hid hmqg
  clear hnqg hmqg
  obtain ⟨aqh, cqh, rfl, hmqh⟩ := hqh.form
  obtain ⟨nqh, hnqh⟩ : ∃ n, qh.length = n := ⟨_, rfl⟩
  rw [hnqh] at hqh hmqh ⊢
  unfold rowMax at hmqh
  have HNqh := Lib.hid hnqh
  have HMqh := Lib.hid hmqh
  clear hnqh hmqh
  obtain ⟨aqi, cqi, rfl, hmqi⟩ := hqi.form
  obtain ⟨nqi, hnqi⟩ : ∃ n, qi.length = n := ⟨_, rfl⟩
  rw [hnqi] at hqi hmqi ⊢
  unfold rowMax at hmqi
  have HNqi := Lib.hid hnqi
  have HMqi := Lib.hid hmqi
  clear hnqi hmqi
  obtain ⟨aqj, cqj, rfl, hmqj⟩ := hqj.form
  obtain ⟨nqj, hnqj⟩ : ∃ n, qj.length = n := ⟨_, rfl⟩
  rw [hnqj] at hqj hmqj ⊢
  unfold rowMax at hmqj
  have HNqj := Lib.hid hnqj
  have HMqj := Lib.hid hmqj
  clear hnqj hmqj
  rw [HNqg.out] at hlqg
  have hlqgI : (nqg : Int) ≤ 16 := by omega
  clear hlqg
  rw [HNqh.out] at hlqh
  have hlqhI : (nqh : Int) ≤ 16 := by omega
  clear hlqh
  rw [HNqi.out] at hlqi
  have hlqiI : (nqi : Int) ≤ 16 := by omega
  clear hlqi
  obtain ⟨r, hr⟩ : ∃ r, (qg.all rightBoard && qh.all rightBuffer && qi.all rightPort) = r := ⟨_, rfl⟩
  rw [hr]
  have HRS := Lib.hid hr
  clear hr
  go_enter Try.func103, Try.ntmps103
  go_wp2_with fail
  obtain ⟨W0, hW0⟩ : ∃ W0, w.alloc (.cells #[.string qa, .slice aqb nqb cqb, .slice aqc nqc cqc, .slice aqd nqd cqd, .slice aqe nqe cqe, .slice aqf nqf cqf, .slice aqg nqg cqg, .slice aqh nqh cqh, .slice aqi nqi cqi, .slice aqj nqj cqj, .int .i64 qk, .int .i64 ql, .int .i64 qm] 52) = W0 := ⟨_, rfl⟩
  obtain ⟨g0, hg0⟩ : ∃ g, w.heap.size = g := ⟨_, rfl⟩
  have HC0 : Hid (Cells W0 g0 [.string qa, .slice aqb nqb cqb, .slice aqc nqc cqc, .slice aqd nqd cqd, .slice aqe nqe cqe, .slice aqf nqf cqf, .slice aqg nqg cqg, .slice aqh nqh cqh, .slice aqi nqi cqi, .slice aqj nqj cqj, .int .i64 qk, .int .i64 ql, .int .i64 qm]) := fun j u hu => by rw [← hW0, ← hg0, World.cell?_alloc_new]; simpa using hu
  have BW : Hid (Below w.heap.size w W0) := by rw [← hW0]; exact (Below.refl _ _).alloc (Nat.le_refl _) _
  have B0 : Hid (Below W0.heap.size W0 W0) := Below.refl _ _
  have HRqb : Hid (Row W0 6 RArea (.slice aqb nqb cqb) qb) := hqb.below BW.out
  have HRqc : Hid (Row W0 8 RTask (.slice aqc nqc cqc) qc) := hqc.below BW.out
  have HRqd : Hid (Row W0 2 RLock (.slice aqd nqd cqd) qd) := hqd.below BW.out
  have HRqe : Hid (Row W0 4 RSema (.slice aqe nqe cqe) qe) := hqe.below BW.out
  have HRqf : Hid (Row W0 1 REvent (.slice aqf nqf cqf) qf) := hqf.below BW.out
  have HRqg : Hid (Row W0 2 RBoard (.slice aqg nqg cqg) qg) := hqg.below BW.out
  have HRqh : Hid (Row W0 4 RBuffer (.slice aqh nqh cqh) qh) := hqh.below BW.out
  have HRqi : Hid (Row W0 6 RPort (.slice aqi nqi cqi) qi) := hqi.below BW.out
  have HRqj : Hid (Row W0 3 RRule (.slice aqj nqj cqj) qj) := hqj.below BW.out
  have d0 := HC0.out 0 _ rfl
  have d1 := HC0.out 1 _ rfl
  have d2 := HC0.out 2 _ rfl
  have d3 := HC0.out 3 _ rfl
  have d4 := HC0.out 4 _ rfl
  have d5 := HC0.out 5 _ rfl
  have d6 := HC0.out 6 _ rfl
  have d7 := HC0.out 7 _ rfl
  have d8 := HC0.out 8 _ rfl
  have d9 := HC0.out 9 _ rfl
  have d10 := HC0.out 10 _ rfl
  have d11 := HC0.out 11 _ rfl
  have d12 := HC0.out 12 _ rfl
  rw [hW0, hg0]
  clear hW0 hg0 hqb hqc hqd hqe hqf hqg hqh hqi hqj
  go_loopw [3] (fun v wr => LRel rightBoard nqg qg W0 v wr) (fun v => fun _ => nqg - (intOf v).toNat)
  case atStart => exact LRel.start B0.out
  case round =>
    clear B0
    obtain ⟨⟨k1, hk, rfl, hall, hb⟩⟩ := hrel
    obtain ⟨wo1, hwo⟩ : ∃ wo, wo = wr := ⟨_, rfl⟩
    subst hwo
    have HK1 := Lib.hid hk
    have HA1 := Lib.hid hall
    have HB1 := Lib.hid hb
    clear hk hall hb
    have d0 := cell_later (HB1.out) (HC0.out 0 _ rfl)
    have d1 := cell_later (HB1.out) (HC0.out 1 _ rfl)
    have d2 := cell_later (HB1.out) (HC0.out 2 _ rfl)
    have d3 := cell_later (HB1.out) (HC0.out 3 _ rfl)
    have d4 := cell_later (HB1.out) (HC0.out 4 _ rfl)
    have d5 := cell_later (HB1.out) (HC0.out 5 _ rfl)
    have d6 := cell_later (HB1.out) (HC0.out 6 _ rfl)
    have d7 := cell_later (HB1.out) (HC0.out 7 _ rfl)
    have d8 := cell_later (HB1.out) (HC0.out 8 _ rfl)
    have d9 := cell_later (HB1.out) (HC0.out 9 _ rfl)
    have d10 := cell_later (HB1.out) (HC0.out 10 _ rfl)
    have d11 := cell_later (HB1.out) (HC0.out 11 _ rfl)
    have d12 := cell_later (HB1.out) (HC0.out 12 _ rfl)
    by_cases hlt : k1 < nqg
    · have hkI1 : (k1 : Int) < (nqg : Int) := by omega
      have HX1 : Hid (k1 < nqg) := hlt
      obtain ⟨hnx, b1, off1, x, cs, hax, hbl, hx, hR, _, hc⟩ := HRqg.out.at_ k1 hlt
      clear hnx
      subst hax
      have HXS1 := Lib.hid hx
      obtain ⟨qa_1, qb_1⟩ := x
      obtain ⟨rfl, hsqa_1⟩ := hR
      have e0_1 : wo1.cell? ⟨b1, off1 + k1 * 2, none⟩ = some (.string qa_1) := cell_later HB1.out (hc 0 _ rfl)
      have e1_1 : wo1.cell? ⟨b1, off1 + k1 * 2 + 1, none⟩ = some (.int .i64 qb_1) := cell_later HB1.out (hc 1 _ rfl)
      clear hc hx
      obtain ⟨t1_0, h1_0⟩ : ∃ t : Bool, nameB qa_1 = t := ⟨_, rfl⟩
      obtain ⟨t1_1, h1_1⟩ : ∃ t : Bool, inB qb_1 1 32 = t := ⟨_, rfl⟩
      have HRT1 : Hid (rightBoard ⟨qa_1, qb_1⟩ = (t1_0 && t1_1)) := by unfold Hid rightBoard; dsimp only; rw [h1_0, h1_1]
      have C1_0 : Hid (∀ W, Calls Try.prog 9 #[.string qa_1] W fun e w' => e = .returned (.bool t1_0) ∧ w' = W) := fun W => by rw [← h1_0]; exact rname_any qa_1 W hsqa_1
      have C1_1 : Hid (∀ W, Calls Try.prog 39 #[.int .i64 qb_1, .int .i64 1, .int .i64 32] W fun e w' => e = .returned (.bool t1_1) ∧ w' = W) := fun W => by rw [← h1_1]; exact rin_any qb_1 _ _ W
      clear hlt h1_0 h1_1 hsqa_1
      go_wp2_with fail
      refine (C1_0.out _).mono ?_
      rintro e WQ ⟨rfl, h⟩
      have h := h.symm
      subst h
      cases t1_0 with
      | false =>
        have HE : Hid (qg.all rightBoard = false) := all_false HXS1.out (by have e := HRT1.out; simpa using e)
        go_wp2_with fail
        have HF : Hid (r = false) := by unfold Hid; rw [← HRS.out, HE.out]; simp
        go_ret
        exact ⟨by rw [HF.out]; rfl, BW.out.trans (HB1.out.mono BW.out.size)⟩
      | true =>
        go_wp2_with fail
        refine (C1_1.out _).mono ?_
        rintro e WQ ⟨rfl, h⟩
        have h := h.symm
        subst h
        cases t1_1 with
        | false =>
          have HE : Hid (qg.all rightBoard = false) := all_false HXS1.out (by have e := HRT1.out; simpa using e)
          go_wp2_with fail
          have HF : Hid (r = false) := by unfold Hid; rw [← HRS.out, HE.out]; simp
          go_ret
          exact ⟨by rw [HF.out]; rfl, BW.out.trans (HB1.out.mono BW.out.size)⟩
        | true =>
          go_wp2_with fail
          go_roundw
          case rel =>
            have Q : LRel rightBoard nqg qg W0 (.int .i64 ((k1 : Int) + 1)) wo1 := LRel.next HX1.out HXS1.out (by have e := HRT1.out; simpa using e) HA1.out HB1.out
            first | exact Q | ((repeat apply Exists.intro); exact ⟨Q, rfl⟩)
          case measure => have := HX1.out; simp [intOf]; omega
    · have hkI1 : ¬ (k1 : Int) < (nqg : Int) := by omega
      have HAll1 : Hid (qg.all rightBoard = true) := LRel.done HK1.out HNqg.out hlt HA1.out
      clear hlt HK1 HA1
      go_wp2_with fail
      go_loopw [4] (fun v wr => LRel rightBuffer nqh qh W0 v wr) (fun v => fun _ => nqh - (intOf v).toNat)
      case atStart => exact LRel.start HB1.out
      case round =>
        clear HB1
        obtain ⟨⟨k2, hk, rfl, hall, hb⟩⟩ := hrel
        obtain ⟨wo2, hwo⟩ : ∃ wo, wo = wr := ⟨_, rfl⟩
        subst hwo
        have HK2 := Lib.hid hk
        have HA2 := Lib.hid hall
        have HB2 := Lib.hid hb
        clear hk hall hb
        have d0 := cell_later (HB2.out) (HC0.out 0 _ rfl)
        have d1 := cell_later (HB2.out) (HC0.out 1 _ rfl)
        have d2 := cell_later (HB2.out) (HC0.out 2 _ rfl)
        have d3 := cell_later (HB2.out) (HC0.out 3 _ rfl)
        have d4 := cell_later (HB2.out) (HC0.out 4 _ rfl)
        have d5 := cell_later (HB2.out) (HC0.out 5 _ rfl)
        have d6 := cell_later (HB2.out) (HC0.out 6 _ rfl)
        have d7 := cell_later (HB2.out) (HC0.out 7 _ rfl)
        have d8 := cell_later (HB2.out) (HC0.out 8 _ rfl)
        have d9 := cell_later (HB2.out) (HC0.out 9 _ rfl)
        have d10 := cell_later (HB2.out) (HC0.out 10 _ rfl)
        have d11 := cell_later (HB2.out) (HC0.out 11 _ rfl)
        have d12 := cell_later (HB2.out) (HC0.out 12 _ rfl)
        by_cases hlt : k2 < nqh
        · have hkI2 : (k2 : Int) < (nqh : Int) := by omega
          have HX2 : Hid (k2 < nqh) := hlt
          obtain ⟨hnx, b2, off2, x, cs, hax, hbl, hx, hR, _, hc⟩ := HRqh.out.at_ k2 hlt
          clear hnx
          subst hax
          have HXS2 := Lib.hid hx
          obtain ⟨qa_2, qb_2, qc_2, qd_2⟩ := x
          obtain ⟨rfl, hsqa_2⟩ := hR
          have e0_2 : wo2.cell? ⟨b2, off2 + k2 * 4, none⟩ = some (.string qa_2) := cell_later HB2.out (hc 0 _ rfl)
          have e1_2 : wo2.cell? ⟨b2, off2 + k2 * 4 + 1, none⟩ = some (.int .i64 qb_2) := cell_later HB2.out (hc 1 _ rfl)
          have e2_2 : wo2.cell? ⟨b2, off2 + k2 * 4 + 2, none⟩ = some (.int .i64 qc_2) := cell_later HB2.out (hc 2 _ rfl)
          have e3_2 : wo2.cell? ⟨b2, off2 + k2 * 4 + 3, none⟩ = some (.bool qd_2) := cell_later HB2.out (hc 3 _ rfl)
          clear hc hx
          obtain ⟨t2_0, h2_0⟩ : ∃ t : Bool, nameB qa_2 = t := ⟨_, rfl⟩
          obtain ⟨t2_1, h2_1⟩ : ∃ t : Bool, inB qb_2 1 32 = t := ⟨_, rfl⟩
          obtain ⟨t2_2, h2_2⟩ : ∃ t : Bool, inB qc_2 1 32 = t := ⟨_, rfl⟩
          have HRT2 : Hid (rightBuffer ⟨qa_2, qb_2, qc_2, qd_2⟩ = (t2_0 && t2_1 && t2_2)) := by unfold Hid rightBuffer; dsimp only; rw [h2_0, h2_1, h2_2]
          have C2_0 : Hid (∀ W, Calls Try.prog 9 #[.string qa_2] W fun e w' => e = .returned (.bool t2_0) ∧ w' = W) := fun W => by rw [← h2_0]; exact rname_any qa_2 W hsqa_2
          have C2_1 : Hid (∀ W, Calls Try.prog 39 #[.int .i64 qb_2, .int .i64 1, .int .i64 32] W fun e w' => e = .returned (.bool t2_1) ∧ w' = W) := fun W => by rw [← h2_1]; exact rin_any qb_2 _ _ W
          have C2_2 : Hid (∀ W, Calls Try.prog 39 #[.int .i64 qc_2, .int .i64 1, .int .i64 32] W fun e w' => e = .returned (.bool t2_2) ∧ w' = W) := fun W => by rw [← h2_2]; exact rin_any qc_2 _ _ W
          clear hlt h2_0 h2_1 h2_2 hsqa_2
          go_wp2_with fail
          obtain ⟨W2, hW⟩ : ∃ W, wo2.alloc (.cells #[.string qa_2, .int .i64 qb_2, .int .i64 qc_2, .bool qd_2] 119) = W := ⟨_, rfl⟩
          obtain ⟨g2, hg⟩ : ∃ g, wo2.heap.size = g := ⟨_, rfl⟩
          have HC2 : Hid (Cells W2 g2 [.string qa_2, .int .i64 qb_2, .int .i64 qc_2, .bool qd_2]) := fun j u hu => by rw [← hW, ← hg, World.cell?_alloc_new]; simpa using hu
          have x0_2 := HC2.out 0 _ rfl
          have x1_2 := HC2.out 1 _ rfl
          have x2_2 := HC2.out 2 _ rfl
          have x3_2 := HC2.out 3 _ rfl
          have BA2 : Hid (Below W0.heap.size W0 W2) := by rw [← hW]; exact HB2.out.alloc HB2.out.size _
          replace d0 := cell_later (BA2.out) (HC0.out 0 _ rfl)
          replace d1 := cell_later (BA2.out) (HC0.out 1 _ rfl)
          replace d2 := cell_later (BA2.out) (HC0.out 2 _ rfl)
          replace d3 := cell_later (BA2.out) (HC0.out 3 _ rfl)
          replace d4 := cell_later (BA2.out) (HC0.out 4 _ rfl)
          replace d5 := cell_later (BA2.out) (HC0.out 5 _ rfl)
          replace d6 := cell_later (BA2.out) (HC0.out 6 _ rfl)
          replace d7 := cell_later (BA2.out) (HC0.out 7 _ rfl)
          replace d8 := cell_later (BA2.out) (HC0.out 8 _ rfl)
          replace d9 := cell_later (BA2.out) (HC0.out 9 _ rfl)
          replace d10 := cell_later (BA2.out) (HC0.out 10 _ rfl)
          replace d11 := cell_later (BA2.out) (HC0.out 11 _ rfl)
          replace d12 := cell_later (BA2.out) (HC0.out 12 _ rfl)
          rw [hW, hg]
          clear hW hg e0_2 e1_2 e2_2 e3_2
          refine (C2_0.out _).mono ?_
          rintro e WQ ⟨rfl, h⟩
          have h := h.symm
          subst h
          cases t2_0 with
          | false =>
            have HE : Hid (qh.all rightBuffer = false) := all_false HXS2.out (by have e := HRT2.out; simpa using e)
            go_wp2_with fail
            have HF : Hid (r = false) := by unfold Hid; rw [← HRS.out, HE.out]; simp
            go_ret
            exact ⟨by rw [HF.out]; rfl, BW.out.trans (BA2.out.mono BW.out.size)⟩
          | true =>
            go_wp2_with fail
            refine (C2_1.out _).mono ?_
            rintro e WQ ⟨rfl, h⟩
            have h := h.symm
            subst h
            cases t2_1 with
            | false =>
              have HE : Hid (qh.all rightBuffer = false) := all_false HXS2.out (by have e := HRT2.out; simpa using e)
              go_wp2_with fail
              have HF : Hid (r = false) := by unfold Hid; rw [← HRS.out, HE.out]; simp
              go_ret
              exact ⟨by rw [HF.out]; rfl, BW.out.trans (BA2.out.mono BW.out.size)⟩
            | true =>
              go_wp2_with fail
              refine (C2_2.out _).mono ?_
              rintro e WQ ⟨rfl, h⟩
              have h := h.symm
              subst h
              cases t2_2 with
              | false =>
                have HE : Hid (qh.all rightBuffer = false) := all_false HXS2.out (by have e := HRT2.out; simpa using e)
                go_wp2_with fail
                have HF : Hid (r = false) := by unfold Hid; rw [← HRS.out, HE.out]; simp
                go_ret
                exact ⟨by rw [HF.out]; rfl, BW.out.trans (BA2.out.mono BW.out.size)⟩
              | true =>
                go_wp2_with fail
                go_roundw
                case rel =>
                  have Q : LRel rightBuffer nqh qh W0 (.int .i64 ((k2 : Int) + 1)) W2 := LRel.next HX2.out HXS2.out (by have e := HRT2.out; simpa using e) HA2.out BA2.out
                  first | exact Q | ((repeat apply Exists.intro); exact ⟨Q, rfl⟩)
                case measure => have := HX2.out; simp [intOf]; omega
        · have hkI2 : ¬ (k2 : Int) < (nqh : Int) := by omega
          have HAll2 : Hid (qh.all rightBuffer = true) := LRel.done HK2.out HNqh.out hlt HA2.out
          clear hlt HK2 HA2
          go_wp2_with fail
          go_loopw [6] (fun v wr => LRel rightPort nqi qi W0 v wr) (fun v => fun _ => nqi - (intOf v).toNat)
          case atStart => exact LRel.start HB2.out
          case round =>
            clear HB2
            obtain ⟨⟨k3, hk, rfl, hall, hb⟩⟩ := hrel
            obtain ⟨wo3, hwo⟩ : ∃ wo, wo = wr := ⟨_, rfl⟩
            subst hwo
            have HK3 := Lib.hid hk
            have HA3 := Lib.hid hall
            have HB3 := Lib.hid hb
            clear hk hall hb
            have d0 := cell_later (HB3.out) (HC0.out 0 _ rfl)
            have d1 := cell_later (HB3.out) (HC0.out 1 _ rfl)
            have d2 := cell_later (HB3.out) (HC0.out 2 _ rfl)
            have d3 := cell_later (HB3.out) (HC0.out 3 _ rfl)
            have d4 := cell_later (HB3.out) (HC0.out 4 _ rfl)
            have d5 := cell_later (HB3.out) (HC0.out 5 _ rfl)
            have d6 := cell_later (HB3.out) (HC0.out 6 _ rfl)
            have d7 := cell_later (HB3.out) (HC0.out 7 _ rfl)
            have d8 := cell_later (HB3.out) (HC0.out 8 _ rfl)
            have d9 := cell_later (HB3.out) (HC0.out 9 _ rfl)
            have d10 := cell_later (HB3.out) (HC0.out 10 _ rfl)
            have d11 := cell_later (HB3.out) (HC0.out 11 _ rfl)
            have d12 := cell_later (HB3.out) (HC0.out 12 _ rfl)
            by_cases hlt : k3 < nqi
            · have hkI3 : (k3 : Int) < (nqi : Int) := by omega
              have HX3 : Hid (k3 < nqi) := hlt
              obtain ⟨hnx, b3, off3, x, cs, hax, hbl, hx, hR, _, hc⟩ := HRqi.out.at_ k3 hlt
              clear hnx
              subst hax
              have HXS3 := Lib.hid hx
              obtain ⟨qa_3, qb_3, qc_3, qd_3, qe_3, qf_3⟩ := x
              obtain ⟨rfl, hsqa_3⟩ := hR
              have e0_3 : wo3.cell? ⟨b3, off3 + k3 * 6, none⟩ = some (.string qa_3) := cell_later HB3.out (hc 0 _ rfl)
              have e1_3 : wo3.cell? ⟨b3, off3 + k3 * 6 + 1, none⟩ = some (.bool qb_3) := cell_later HB3.out (hc 1 _ rfl)
              have e2_3 : wo3.cell? ⟨b3, off3 + k3 * 6 + 2, none⟩ = some (.bool qc_3) := cell_later HB3.out (hc 2 _ rfl)
              have e3_3 : wo3.cell? ⟨b3, off3 + k3 * 6 + 3, none⟩ = some (.int .i64 qd_3) := cell_later HB3.out (hc 3 _ rfl)
              have e4_3 : wo3.cell? ⟨b3, off3 + k3 * 6 + 4, none⟩ = some (.int .i64 qe_3) := cell_later HB3.out (hc 4 _ rfl)
              have e5_3 : wo3.cell? ⟨b3, off3 + k3 * 6 + 5, none⟩ = some (.int .i64 qf_3) := cell_later HB3.out (hc 5 _ rfl)
              clear hc hx
              obtain ⟨t3_0, h3_0⟩ : ∃ t : Bool, nameB qa_3 = t := ⟨_, rfl⟩
              obtain ⟨t3_1, h3_1⟩ : ∃ t : Bool, inB qd_3 1 32 = t := ⟨_, rfl⟩
              obtain ⟨t3_2, h3_2⟩ : ∃ t : Bool, inB qe_3 0 32 = t := ⟨_, rfl⟩
              obtain ⟨t3_3, h3_3⟩ : ∃ t : Bool, inB qf_3 0 1048576 = t := ⟨_, rfl⟩
              have HRT3 : Hid (rightPort ⟨qa_3, qb_3, qc_3, qd_3, qe_3, qf_3⟩ = (t3_0 && t3_1 && t3_2 && t3_3)) := by unfold Hid rightPort; dsimp only; rw [h3_0, h3_1, h3_2, h3_3]
              have C3_0 : Hid (∀ W, Calls Try.prog 9 #[.string qa_3] W fun e w' => e = .returned (.bool t3_0) ∧ w' = W) := fun W => by rw [← h3_0]; exact rname_any qa_3 W hsqa_3
              have C3_1 : Hid (∀ W, Calls Try.prog 39 #[.int .i64 qd_3, .int .i64 1, .int .i64 32] W fun e w' => e = .returned (.bool t3_1) ∧ w' = W) := fun W => by rw [← h3_1]; exact rin_any qd_3 _ _ W
              have C3_2 : Hid (∀ W, Calls Try.prog 39 #[.int .i64 qe_3, .int .i64 0, .int .i64 32] W fun e w' => e = .returned (.bool t3_2) ∧ w' = W) := fun W => by rw [← h3_2]; exact rin_any qe_3 _ _ W
              have C3_3 : Hid (∀ W, Calls Try.prog 39 #[.int .i64 qf_3, .int .i64 0, .int .i64 1048576] W fun e w' => e = .returned (.bool t3_3) ∧ w' = W) := fun W => by rw [← h3_3]; exact rin_any qf_3 _ _ W
              clear hlt h3_0 h3_1 h3_2 h3_3 hsqa_3
              go_wp2_with fail
              obtain ⟨W3, hW⟩ : ∃ W, wo3.alloc (.cells #[.string qa_3, .bool qb_3, .bool qc_3, .int .i64 qd_3, .int .i64 qe_3, .int .i64 qf_3] 57) = W := ⟨_, rfl⟩
              obtain ⟨g3, hg⟩ : ∃ g, wo3.heap.size = g := ⟨_, rfl⟩
              have HC3 : Hid (Cells W3 g3 [.string qa_3, .bool qb_3, .bool qc_3, .int .i64 qd_3, .int .i64 qe_3, .int .i64 qf_3]) := fun j u hu => by rw [← hW, ← hg, World.cell?_alloc_new]; simpa using hu
              have x0_3 := HC3.out 0 _ rfl
              have x1_3 := HC3.out 1 _ rfl
              have x2_3 := HC3.out 2 _ rfl
              have x3_3 := HC3.out 3 _ rfl
              have x4_3 := HC3.out 4 _ rfl
              have x5_3 := HC3.out 5 _ rfl
              have BA3 : Hid (Below W0.heap.size W0 W3) := by rw [← hW]; exact HB3.out.alloc HB3.out.size _
              replace d0 := cell_later (BA3.out) (HC0.out 0 _ rfl)
              replace d1 := cell_later (BA3.out) (HC0.out 1 _ rfl)
              replace d2 := cell_later (BA3.out) (HC0.out 2 _ rfl)
              replace d3 := cell_later (BA3.out) (HC0.out 3 _ rfl)
              replace d4 := cell_later (BA3.out) (HC0.out 4 _ rfl)
              replace d5 := cell_later (BA3.out) (HC0.out 5 _ rfl)
              replace d6 := cell_later (BA3.out) (HC0.out 6 _ rfl)
              replace d7 := cell_later (BA3.out) (HC0.out 7 _ rfl)
              replace d8 := cell_later (BA3.out) (HC0.out 8 _ rfl)
              replace d9 := cell_later (BA3.out) (HC0.out 9 _ rfl)
              replace d10 := cell_later (BA3.out) (HC0.out 10 _ rfl)
              replace d11 := cell_later (BA3.out) (HC0.out 11 _ rfl)
              replace d12 := cell_later (BA3.out) (HC0.out 12 _ rfl)
              rw [hW, hg]
              clear hW hg e0_3 e1_3 e2_3 e3_3 e4_3 e5_3
              refine (C3_0.out _).mono ?_
              rintro e WQ ⟨rfl, h⟩
              have h := h.symm
              subst h
              cases t3_0 with
              | false =>
                have HE : Hid (qi.all rightPort = false) := all_false HXS3.out (by have e := HRT3.out; simpa using e)
                go_wp2_with fail
                have HF : Hid (r = false) := by unfold Hid; rw [← HRS.out, HE.out]; simp
                go_ret
                exact ⟨by rw [HF.out]; rfl, BW.out.trans (BA3.out.mono BW.out.size)⟩
              | true =>
                go_wp2_with fail
                refine (C3_1.out _).mono ?_
                rintro e WQ ⟨rfl, h⟩
                have h := h.symm
                subst h
                cases t3_1 with
                | false =>
                  have HE : Hid (qi.all rightPort = false) := all_false HXS3.out (by have e := HRT3.out; simpa using e)
                  go_wp2_with fail
                  have HF : Hid (r = false) := by unfold Hid; rw [← HRS.out, HE.out]; simp
                  go_ret
                  exact ⟨by rw [HF.out]; rfl, BW.out.trans (BA3.out.mono BW.out.size)⟩
                | true =>
                  go_wp2_with fail
                  refine (C3_2.out _).mono ?_
                  rintro e WQ ⟨rfl, h⟩
                  have h := h.symm
                  subst h
                  cases t3_2 with
                  | false =>
                    have HE : Hid (qi.all rightPort = false) := all_false HXS3.out (by have e := HRT3.out; simpa using e)
                    go_wp2_with fail
                    have HF : Hid (r = false) := by unfold Hid; rw [← HRS.out, HE.out]; simp
                    go_ret
                    exact ⟨by rw [HF.out]; rfl, BW.out.trans (BA3.out.mono BW.out.size)⟩
                  | true =>
                    go_wp2_with fail
                    refine (C3_3.out _).mono ?_
                    rintro e WQ ⟨rfl, h⟩
                    have h := h.symm
                    subst h
                    cases t3_3 with
                    | false =>
                      have HE : Hid (qi.all rightPort = false) := all_false HXS3.out (by have e := HRT3.out; simpa using e)
                      go_wp2_with fail
                      have HF : Hid (r = false) := by unfold Hid; rw [← HRS.out, HE.out]; simp
                      go_ret
                      exact ⟨by rw [HF.out]; rfl, BW.out.trans (BA3.out.mono BW.out.size)⟩
                    | true =>
                      go_wp2_with fail
                      go_roundw
                      case rel =>
                        have Q : LRel rightPort nqi qi W0 (.int .i64 ((k3 : Int) + 1)) W3 := LRel.next HX3.out HXS3.out (by have e := HRT3.out; simpa using e) HA3.out BA3.out
                        first | exact Q | ((repeat apply Exists.intro); exact ⟨Q, rfl⟩)
                      case measure => have := HX3.out; simp [intOf]; omega
            · have hkI3 : ¬ (k3 : Int) < (nqi : Int) := by omega
              have HAll3 : Hid (qi.all rightPort = true) := LRel.done HK3.out HNqi.out hlt HA3.out
              clear hlt HK3 HA3
              have HF : Hid (r = true) := by rw [← HRS.out, HAll1.out, HAll2.out, HAll3.out]; rfl
              go_wp2_with fail
              go_ret
              exact ⟨by rw [HF.out]; rfl, BW.out.trans (HB3.out.mono BW.out.size)⟩
end Go.Proofs.Ytchlgihanogeeaa
