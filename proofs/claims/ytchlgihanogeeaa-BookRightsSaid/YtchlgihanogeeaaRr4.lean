/-
  What the program's Right answers in the reference: a module. Each statement bears its own conditions.
-/
import Derived.Test.YtchlgihanogeeaaRr3
import Derived.Test.YtchlgihanogeeaaR6
namespace Go.Proofs.Ytchlgihanogeeaa
open Go.RowKit
set_option linter.unusedVariables false
set_option linter.unusedSimpArgs false
set_option maxRecDepth 100000 in
set_option maxHeartbeats 16000000 in
theorem rright_any (qa : ByteArray) (qb : List MPartition) (qc : List MSchedule) (qd : Int) (qe : List MChannel) (qf : List MLink) (qg : List MRule) (vqb vqc vqe vqf vqg : Value) (w : World) (hsqa : qa.size ≤ maxLen) (hqb : Row w 13 (RPartition w) vqb qb) (hqc : Row w 3 (RSchedule w) vqc qc) (hqe : Row w 3 (RChannel w) vqe qe) (hqf : Row w 3 RLink vqf qf) (hqg : Row w 3 RRule vqg qg) :
    Calls Try.prog 12 #[.agg #[.string qa, vqb, vqc, .int .i64 qd, vqe, vqf, vqg]] w fun e w' => e = .returned (.bool (rightModule ⟨qa, qb, qc, qd, qe, qf, qg⟩)) ∧ Below w.heap.size w w' := by
  obtain ⟨aqb, cqb, rfl, hmqb⟩ := hqb.form
  obtain ⟨nqb, hnqb⟩ : ∃ n, qb.length = n := ⟨_, rfl⟩
  rw [hnqb] at hqb hmqb ⊢
  unfold rowMax at hmqb
  have HNqb := Lib.hid hnqb
  have HMqb := Lib.hid hmqb
  clear hnqb hmqb
  obtain ⟨aqc, cqc, rfl, hmqc⟩ := hqc.form
  obtain ⟨nqc, hnqc⟩ : ∃ n, qc.length = n := ⟨_, rfl⟩
  rw [hnqc] at hqc hmqc ⊢
  unfold rowMax at hmqc
  have HNqc := Lib.hid hnqc
  have HMqc := Lib.hid hmqc
  clear hnqc hmqc
  obtain ⟨aqe, cqe, rfl, hmqe⟩ := hqe.form
  obtain ⟨nqe, hnqe⟩ : ∃ n, qe.length = n := ⟨_, rfl⟩
  rw [hnqe] at hqe hmqe ⊢
  unfold rowMax at hmqe
  have HNqe := Lib.hid hnqe
  have HMqe := Lib.hid hmqe
  clear hnqe hmqe
  obtain ⟨aqf, cqf, rfl, hmqf⟩ := hqf.form
  obtain ⟨nqf, hnqf⟩ : ∃ n, qf.length = n := ⟨_, rfl⟩
  rw [hnqf] at hqf hmqf ⊢
  unfold rowMax at hmqf
  have HNqf := Lib.hid hnqf
  have HMqf := Lib.hid hmqf
  clear hnqf hmqf
  obtain ⟨aqg, cqg, rfl, hmqg⟩ := hqg.form
  obtain ⟨nqg, hnqg⟩ : ∃ n, qg.length = n := ⟨_, rfl⟩
  rw [hnqg] at hqg hmqg ⊢
  unfold rowMax at hmqg
  have HNqg := Lib.hid hnqg
  have HMqg := Lib.hid hmqg
  clear hnqg hmqg
  obtain ⟨r, hr⟩ : ∃ r, rightModule ⟨qa, qb, qc, qd, qe, qf, qg⟩ = r := ⟨_, rfl⟩
  rw [hr]
  have HB0r : Hid (nameB qa = false → r = false) := fun h => by rw [← hr]; unfold rightModule; dsimp only; rw [h]; simp
  have HB1r : Hid (inB qd 0 7 = false → r = false) := fun h => by rw [← hr]; unfold rightModule; dsimp only; rw [h]; simp
  have HB2r : Hid (allB 16 rightPartition qb = false → r = false) := fun h => by rw [← hr]; unfold rightModule; dsimp only; rw [h]; simp
  have HB3r : Hid (allB 8 rightSchedule qc = false → r = false) := fun h => by rw [← hr]; unfold rightModule; dsimp only; rw [h]; simp
  have HB4r : Hid (allB 32 rightChannel qe = false → r = false) := fun h => by rw [← hr]; unfold rightModule; dsimp only; rw [h]; simp
  have HB5r : Hid (allB 32 rightLink qf = false → r = false) := fun h => by rw [← hr]; unfold rightModule; dsimp only; rw [h]; simp
  have HB6r : Hid (allB 32 rightRule qg = false → r = false) := fun h => by rw [← hr]; unfold rightModule; dsimp only; rw [h]; simp
  have HGr : Hid (nameB qa = true → inB qd 0 7 = true → allB 16 rightPartition qb = true → allB 8 rightSchedule qc = true → allB 32 rightChannel qe = true → allB 32 rightLink qf = true → allB 32 rightRule qg = true → r = true) := by
    intro z0 z1 z2 z3 z4 z5 z6
    rw [← hr]; unfold rightModule; dsimp only; rw [z0, z1, z2, z3, z4, z5, z6]; rfl
  clear hr
  obtain ⟨tqa, hqat⟩ : ∃ t : Bool, nameB qa = t := ⟨_, rfl⟩
  have HTqa := Lib.hid hqat
  have Cqa : Hid (∀ W, Calls Try.prog 9 #[.string qa] W fun e w' => e = .returned (.bool tqa) ∧ w' = W) := fun W => by rw [← hqat]; exact rname_any qa W hsqa
  clear hqat
  obtain ⟨tqd, hqdt⟩ : ∃ t : Bool, inB qd 0 7 = t := ⟨_, rfl⟩
  have HTqd := Lib.hid hqdt
  have Cqd : Hid (∀ W, Calls Try.prog 39 #[.int .i64 qd, .int .i64 0, .int .i64 7] W fun e w' => e = .returned (.bool tqd) ∧ w' = W) := fun W => by rw [← hqdt]; exact rin_any qd _ _ W
  clear hqdt
  obtain ⟨tqg, hqgt⟩ : ∃ t : Bool, allB 32 rightRule qg = t := ⟨_, rfl⟩
  have HTqg := Lib.hid hqgt
  have Cqg : Hid (∀ W, Below w.heap.size w W → Calls Try.prog 40 #[.slice aqg nqg cqg] W fun e w' => e = .returned (.bool tqg) ∧ Below W.heap.size W w') := fun W hB => by rw [← hqgt]; exact rrules_any _ qg W (hqg.below hB)
  clear hqgt
  clear hsqa
  go_enter Try.func12, Try.ntmps12
  go_wp2_with fail
  obtain ⟨W0, hW0⟩ : ∃ W0, w.alloc (.cells #[.string qa, .slice aqb nqb cqb, .slice aqc nqc cqc, .int .i64 qd, .slice aqe nqe cqe, .slice aqf nqf cqf, .slice aqg nqg cqg] 30) = W0 := ⟨_, rfl⟩
  obtain ⟨g0, hg0⟩ : ∃ g, w.heap.size = g := ⟨_, rfl⟩
  have HC0 : Hid (Cells W0 g0 [.string qa, .slice aqb nqb cqb, .slice aqc nqc cqc, .int .i64 qd, .slice aqe nqe cqe, .slice aqf nqf cqf, .slice aqg nqg cqg]) := fun j u hu => by rw [← hW0, ← hg0, World.cell?_alloc_new]; simpa using hu
  have BW : Hid (Below w.heap.size w W0) := by rw [← hW0]; exact (Below.refl _ _).alloc (Nat.le_refl _) _
  have B0 : Hid (Below W0.heap.size W0 W0) := Below.refl _ _
  have HRqb : Hid (Row W0 13 (RPartition W0) (.slice aqb nqb cqb) qb) := hqb.keep BW.out (fun _ _ h => h.below BW.out)
  have HRqc : Hid (Row W0 3 (RSchedule W0) (.slice aqc nqc cqc) qc) := hqc.keep BW.out (fun _ _ h => h.below BW.out)
  have HRqe : Hid (Row W0 3 (RChannel W0) (.slice aqe nqe cqe) qe) := hqe.keep BW.out (fun _ _ h => h.below BW.out)
  have HRqf : Hid (Row W0 3 RLink (.slice aqf nqf cqf) qf) := hqf.below BW.out
  have HRqg : Hid (Row W0 3 RRule (.slice aqg nqg cqg) qg) := hqg.below BW.out
  have d0 := HC0.out 0 _ rfl
  have d1 := HC0.out 1 _ rfl
  have d2 := HC0.out 2 _ rfl
  have d3 := HC0.out 3 _ rfl
  have d4 := HC0.out 4 _ rfl
  have d5 := HC0.out 5 _ rfl
  have d6 := HC0.out 6 _ rfl
  rw [hW0, hg0]
  clear hW0 hg0 hqb hqc hqe hqf hqg
  refine (Cqa.out _).mono ?_
  rintro e WQ ⟨rfl, h⟩
  have h := h.symm
  subst h
  cases tqa with
  | false =>
    have HF : Hid (r = false) := HB0r.out HTqa.out
    go_wp2_with fail
    go_ret
    exact ⟨by rw [HF.out]; rfl, BW.out.trans (B0.out.mono BW.out.size)⟩
  | true =>
    by_cases hgqb : (16 : Int) < (nqb : Int)
    · have HF : Hid (r = false) := HB2r.out (allB_len HNqb.out hgqb)
      go_wp2_with fail
      go_ret
      exact ⟨by rw [HF.out]; rfl, BW.out.trans (B0.out.mono BW.out.size)⟩
    · have hlqb : (nqb : Int) ≤ 16 := by omega
      have HLqb := Lib.hid hlqb
      clear hgqb
      by_cases hgqc : (8 : Int) < (nqc : Int)
      · have HF : Hid (r = false) := HB3r.out (allB_len HNqc.out hgqc)
        go_wp2_with fail
        go_ret
        exact ⟨by rw [HF.out]; rfl, BW.out.trans (B0.out.mono BW.out.size)⟩
      · have hlqc : (nqc : Int) ≤ 8 := by omega
        have HLqc := Lib.hid hlqc
        clear hgqc
        by_cases hgqe : (32 : Int) < (nqe : Int)
        · have HF : Hid (r = false) := HB4r.out (allB_len HNqe.out hgqe)
          go_wp2_with fail
          go_ret
          exact ⟨by rw [HF.out]; rfl, BW.out.trans (B0.out.mono BW.out.size)⟩
        · have hlqe : (nqe : Int) ≤ 32 := by omega
          have HLqe := Lib.hid hlqe
          clear hgqe
          by_cases hgqf : (32 : Int) < (nqf : Int)
          · have HF : Hid (r = false) := HB5r.out (allB_len HNqf.out hgqf)
            go_wp2_with fail
            go_ret
            exact ⟨by rw [HF.out]; rfl, BW.out.trans (B0.out.mono BW.out.size)⟩
          · have hlqf : (nqf : Int) ≤ 32 := by omega
            have HLqf := Lib.hid hlqf
            clear hgqf
            go_wp2_with fail
            refine (Cqd.out _).mono ?_
            rintro e WQ ⟨rfl, h⟩
            have h := h.symm
            subst h
            cases tqd with
            | false =>
              have HF : Hid (r = false) := HB1r.out HTqd.out
              go_wp2_with fail
              go_ret
              exact ⟨by rw [HF.out]; rfl, BW.out.trans (B0.out.mono BW.out.size)⟩
            | true =>
              go_wp2_with fail
              refine (Cqg.out _ (BW.out.trans (B0.out.mono BW.out.size))).mono ?_
              rintro e Wqg ⟨rfl, b⟩
              have Bqg : Hid (Below W0.heap.size W0 Wqg) := B0.out.trans (b.mono B0.out.size)
              clear b
              replace d0 := cell_later (Bqg.out) (HC0.out 0 _ rfl)
              replace d1 := cell_later (Bqg.out) (HC0.out 1 _ rfl)
              replace d2 := cell_later (Bqg.out) (HC0.out 2 _ rfl)
              replace d3 := cell_later (Bqg.out) (HC0.out 3 _ rfl)
              replace d4 := cell_later (Bqg.out) (HC0.out 4 _ rfl)
              replace d5 := cell_later (Bqg.out) (HC0.out 5 _ rfl)
              replace d6 := cell_later (Bqg.out) (HC0.out 6 _ rfl)
              cases tqg with
              | false =>
                have HF : Hid (r = false) := HB6r.out HTqg.out
                go_wp2_with fail
                go_ret
                exact ⟨by rw [HF.out]; rfl, BW.out.trans (Bqg.out.mono BW.out.size)⟩
              | true =>
                go_wp2_with fail
                go_loopw [3] (fun v wr => LRel rightPartition nqb qb W0 v wr) (fun v => fun _ => nqb - (intOf v).toNat)
                case atStart => exact LRel.start Bqg.out
                case round =>
                  clear Bqg
                  obtain ⟨⟨k1, hk, rfl, hall, hb⟩⟩ := hrel
                  obtain ⟨wo1, hwo⟩ : ∃ wo, wo = wr := ⟨_, rfl⟩
                  subst hwo
                  have HK1 := Lib.hid hk
                  have HA1 := Lib.hid hall
                  have HB1 := Lib.hid hb
                  clear hk hall hb
                  have d0 := cell_later (HB1.out) (HC0.out 0 _ rfl)
                  have d1 := cell_later (HB1.out) (HC0.out 1 _ rfl)
                  have d2 := cell_later (HB1.out) (HC0.out 2 _ rfl)
                  have d3 := cell_later (HB1.out) (HC0.out 3 _ rfl)
                  have d4 := cell_later (HB1.out) (HC0.out 4 _ rfl)
                  have d5 := cell_later (HB1.out) (HC0.out 5 _ rfl)
                  have d6 := cell_later (HB1.out) (HC0.out 6 _ rfl)
                  by_cases hlt : k1 < nqb
                  · have hkI1 : (k1 : Int) < (nqb : Int) := by omega
                    have HX1 : Hid (k1 < nqb) := hlt
                    obtain ⟨hnx, b1, off1, x, cs, hax, hbl, hx, hR, _, hc⟩ := HRqb.out.at_ k1 hlt
                    clear hnx
                    subst hax
                    have HXS1 := Lib.hid hx
                    obtain ⟨qa_1, qb_1, qc_1, qd_1, qe_1, qf_1, qg_1, qh_1, qi_1, qj_1, qk_1, ql_1, qm_1⟩ := x
                    replace hR : RPartition W0 _ cs := hR
                    obtain ⟨vqb_1, vqc_1, vqd_1, vqe_1, vqf_1, vqg_1, vqh_1, vqi_1, vqj_1, rfl, hsqa_1, hqb_1, hqc_1, hqd_1, hqe_1, hqf_1, hqg_1, hqh_1, hqi_1, hqj_1⟩ := hR
                    obtain ⟨aqb_1, cqb_1, rfl, hmqb_1⟩ := hqb_1.form
                    obtain ⟨nqb_1, hnqb_1⟩ : ∃ n, qb_1.length = n := ⟨_, rfl⟩
                    rw [hnqb_1] at hqb_1 hmqb_1 hc
                    unfold rowMax at hmqb_1
                    have HNqb_1 := Lib.hid hnqb_1
                    clear hnqb_1
                    obtain ⟨aqc_1, cqc_1, rfl, hmqc_1⟩ := hqc_1.form
                    obtain ⟨nqc_1, hnqc_1⟩ : ∃ n, qc_1.length = n := ⟨_, rfl⟩
                    rw [hnqc_1] at hqc_1 hmqc_1 hc
                    unfold rowMax at hmqc_1
                    have HNqc_1 := Lib.hid hnqc_1
                    clear hnqc_1
                    obtain ⟨aqd_1, cqd_1, rfl, hmqd_1⟩ := hqd_1.form
                    obtain ⟨nqd_1, hnqd_1⟩ : ∃ n, qd_1.length = n := ⟨_, rfl⟩
                    rw [hnqd_1] at hqd_1 hmqd_1 hc
                    unfold rowMax at hmqd_1
                    have HNqd_1 := Lib.hid hnqd_1
                    clear hnqd_1
                    obtain ⟨aqe_1, cqe_1, rfl, hmqe_1⟩ := hqe_1.form
                    obtain ⟨nqe_1, hnqe_1⟩ : ∃ n, qe_1.length = n := ⟨_, rfl⟩
                    rw [hnqe_1] at hqe_1 hmqe_1 hc
                    unfold rowMax at hmqe_1
                    have HNqe_1 := Lib.hid hnqe_1
                    clear hnqe_1
                    obtain ⟨aqf_1, cqf_1, rfl, hmqf_1⟩ := hqf_1.form
                    obtain ⟨nqf_1, hnqf_1⟩ : ∃ n, qf_1.length = n := ⟨_, rfl⟩
                    rw [hnqf_1] at hqf_1 hmqf_1 hc
                    unfold rowMax at hmqf_1
                    have HNqf_1 := Lib.hid hnqf_1
                    clear hnqf_1
                    obtain ⟨aqg_1, cqg_1, rfl, hmqg_1⟩ := hqg_1.form
                    obtain ⟨nqg_1, hnqg_1⟩ : ∃ n, qg_1.length = n := ⟨_, rfl⟩
                    rw [hnqg_1] at hqg_1 hmqg_1 hc
                    unfold rowMax at hmqg_1
                    have HNqg_1 := Lib.hid hnqg_1
                    clear hnqg_1
                    obtain ⟨aqh_1, cqh_1, rfl, hmqh_1⟩ := hqh_1.form
                    obtain ⟨nqh_1, hnqh_1⟩ : ∃ n, qh_1.length = n := ⟨_, rfl⟩
                    rw [hnqh_1] at hqh_1 hmqh_1 hc
                    unfold rowMax at hmqh_1
                    have HNqh_1 := Lib.hid hnqh_1
                    clear hnqh_1
                    obtain ⟨aqi_1, cqi_1, rfl, hmqi_1⟩ := hqi_1.form
                    obtain ⟨nqi_1, hnqi_1⟩ : ∃ n, qi_1.length = n := ⟨_, rfl⟩
                    rw [hnqi_1] at hqi_1 hmqi_1 hc
                    unfold rowMax at hmqi_1
                    have HNqi_1 := Lib.hid hnqi_1
                    clear hnqi_1
                    obtain ⟨aqj_1, cqj_1, rfl, hmqj_1⟩ := hqj_1.form
                    obtain ⟨nqj_1, hnqj_1⟩ : ∃ n, qj_1.length = n := ⟨_, rfl⟩
                    rw [hnqj_1] at hqj_1 hmqj_1 hc
                    unfold rowMax at hmqj_1
                    have HNqj_1 := Lib.hid hnqj_1
                    clear hnqj_1
                    have e0_1 : wo1.cell? ⟨b1, off1 + k1 * 13, none⟩ = some (.string qa_1) := cell_later HB1.out (hc 0 _ rfl)
                    have e1_1 : wo1.cell? ⟨b1, off1 + k1 * 13 + 1, none⟩ = some (.slice aqb_1 nqb_1 cqb_1) := cell_later HB1.out (hc 1 _ rfl)
                    have e2_1 : wo1.cell? ⟨b1, off1 + k1 * 13 + 2, none⟩ = some (.slice aqc_1 nqc_1 cqc_1) := cell_later HB1.out (hc 2 _ rfl)
                    have e3_1 : wo1.cell? ⟨b1, off1 + k1 * 13 + 3, none⟩ = some (.slice aqd_1 nqd_1 cqd_1) := cell_later HB1.out (hc 3 _ rfl)
                    have e4_1 : wo1.cell? ⟨b1, off1 + k1 * 13 + 4, none⟩ = some (.slice aqe_1 nqe_1 cqe_1) := cell_later HB1.out (hc 4 _ rfl)
                    have e5_1 : wo1.cell? ⟨b1, off1 + k1 * 13 + 5, none⟩ = some (.slice aqf_1 nqf_1 cqf_1) := cell_later HB1.out (hc 5 _ rfl)
                    have e6_1 : wo1.cell? ⟨b1, off1 + k1 * 13 + 6, none⟩ = some (.slice aqg_1 nqg_1 cqg_1) := cell_later HB1.out (hc 6 _ rfl)
                    have e7_1 : wo1.cell? ⟨b1, off1 + k1 * 13 + 7, none⟩ = some (.slice aqh_1 nqh_1 cqh_1) := cell_later HB1.out (hc 7 _ rfl)
                    have e8_1 : wo1.cell? ⟨b1, off1 + k1 * 13 + 8, none⟩ = some (.slice aqi_1 nqi_1 cqi_1) := cell_later HB1.out (hc 8 _ rfl)
                    have e9_1 : wo1.cell? ⟨b1, off1 + k1 * 13 + 9, none⟩ = some (.slice aqj_1 nqj_1 cqj_1) := cell_later HB1.out (hc 9 _ rfl)
                    have e10_1 : wo1.cell? ⟨b1, off1 + k1 * 13 + 10, none⟩ = some (.int .i64 qk_1) := cell_later HB1.out (hc 10 _ rfl)
                    have e11_1 : wo1.cell? ⟨b1, off1 + k1 * 13 + 11, none⟩ = some (.int .i64 ql_1) := cell_later HB1.out (hc 11 _ rfl)
                    have e12_1 : wo1.cell? ⟨b1, off1 + k1 * 13 + 12, none⟩ = some (.int .i64 qm_1) := cell_later HB1.out (hc 12 _ rfl)
                    clear hc hx
                    obtain ⟨t1, h1⟩ : ∃ t : Bool, rightPartition ⟨qa_1, qb_1, qc_1, qd_1, qe_1, qf_1, qg_1, qh_1, qi_1, qj_1, qk_1, ql_1, qm_1⟩ = t := ⟨_, rfl⟩
                    have HT1 := Lib.hid h1
                    have C1 : Hid (∀ W, Below W0.heap.size W0 W → Calls Try.prog 41 #[.agg #[.string qa_1, .slice aqb_1 nqb_1 cqb_1, .slice aqc_1 nqc_1 cqc_1, .slice aqd_1 nqd_1 cqd_1, .slice aqe_1 nqe_1 cqe_1, .slice aqf_1 nqf_1 cqf_1, .slice aqg_1 nqg_1 cqg_1, .slice aqh_1 nqh_1 cqh_1, .slice aqi_1 nqi_1 cqi_1, .slice aqj_1 nqj_1 cqj_1, .int .i64 qk_1, .int .i64 ql_1, .int .i64 qm_1]] W fun e w' => e = .returned (.bool t1) ∧ Below W.heap.size W w') := fun W hB => by
                      rw [← h1]
                      exact rpartition_any qa_1 qb_1 qc_1 qd_1 qe_1 qf_1 qg_1 qh_1 qi_1 qj_1 qk_1 ql_1 qm_1 _ _ _ _ _ _ _ _ _ W hsqa_1 (hqb_1.below hB) (hqc_1.below hB) (hqd_1.below hB) (hqe_1.below hB) (hqf_1.below hB) (hqg_1.below hB) (hqh_1.below hB) (hqi_1.below hB) (hqj_1.below hB)
                    clear h1 hlt
                    go_wp2_with fail
                    refine (C1.out _ HB1.out).mono ?_
                    rintro e W1 ⟨rfl, b⟩
                    have BN1 : Hid (Below W0.heap.size W0 W1) := HB1.out.trans (b.mono HB1.out.size)
                    clear b C1
                    cases t1 with
                    | false =>
                      have HE : Hid (qb.all rightPartition = false) := all_false HXS1.out HT1.out
                      go_wp2_with fail
                      have HF : Hid (r = false) := HB2r.out (allB_el HE.out)
                      go_ret
                      exact ⟨by rw [HF.out]; rfl, BW.out.trans (BN1.out.mono BW.out.size)⟩
                    | true =>
                      go_wp2_with fail
                      go_roundw
                      case rel =>
                        have Q : LRel rightPartition nqb qb W0 (.int .i64 ((k1 : Int) + 1)) W1 := LRel.next HX1.out HXS1.out HT1.out HA1.out BN1.out
                        first | exact Q | ((repeat apply Exists.intro); exact ⟨Q, rfl⟩)
                      case measure => have := HX1.out; simp [intOf]; omega
                  · have hkI1 : ¬ (k1 : Int) < (nqb : Int) := by omega
                    have HAll1 : Hid (qb.all rightPartition = true) := LRel.done HK1.out HNqb.out hlt HA1.out
                    clear hlt HK1 HA1
                    go_wp2_with fail
                    go_loopw [4] (fun v wr => LRel rightSchedule nqc qc W0 v wr) (fun v => fun _ => nqc - (intOf v).toNat)
                    case atStart => exact LRel.start HB1.out
                    case round =>
                      clear HB1
                      obtain ⟨⟨k2, hk, rfl, hall, hb⟩⟩ := hrel
                      obtain ⟨wo2, hwo⟩ : ∃ wo, wo = wr := ⟨_, rfl⟩
                      subst hwo
                      have HK2 := Lib.hid hk
                      have HA2 := Lib.hid hall
                      have HB2 := Lib.hid hb
                      clear hk hall hb
                      have d0 := cell_later (HB2.out) (HC0.out 0 _ rfl)
                      have d1 := cell_later (HB2.out) (HC0.out 1 _ rfl)
                      have d2 := cell_later (HB2.out) (HC0.out 2 _ rfl)
                      have d3 := cell_later (HB2.out) (HC0.out 3 _ rfl)
                      have d4 := cell_later (HB2.out) (HC0.out 4 _ rfl)
                      have d5 := cell_later (HB2.out) (HC0.out 5 _ rfl)
                      have d6 := cell_later (HB2.out) (HC0.out 6 _ rfl)
                      by_cases hlt : k2 < nqc
                      · have hkI2 : (k2 : Int) < (nqc : Int) := by omega
                        have HX2 : Hid (k2 < nqc) := hlt
                        obtain ⟨hnx, b2, off2, x, cs, hax, hbl, hx, hR, _, hc⟩ := HRqc.out.at_ k2 hlt
                        clear hnx
                        subst hax
                        have HXS2 := Lib.hid hx
                        obtain ⟨qa_2, qb_2, qc_2⟩ := x
                        replace hR : RSchedule W0 _ cs := hR
                        obtain ⟨vqc_2, rfl, hsqa_2, hqc_2⟩ := hR
                        obtain ⟨aqc_2, cqc_2, rfl, hmqc_2⟩ := hqc_2.form
                        obtain ⟨nqc_2, hnqc_2⟩ : ∃ n, qc_2.length = n := ⟨_, rfl⟩
                        rw [hnqc_2] at hqc_2 hmqc_2 hc
                        unfold rowMax at hmqc_2
                        have HNqc_2 := Lib.hid hnqc_2
                        clear hnqc_2
                        have e0_2 : wo2.cell? ⟨b2, off2 + k2 * 3, none⟩ = some (.string qa_2) := cell_later HB2.out (hc 0 _ rfl)
                        have e1_2 : wo2.cell? ⟨b2, off2 + k2 * 3 + 1, none⟩ = some (.int .i64 qb_2) := cell_later HB2.out (hc 1 _ rfl)
                        have e2_2 : wo2.cell? ⟨b2, off2 + k2 * 3 + 2, none⟩ = some (.slice aqc_2 nqc_2 cqc_2) := cell_later HB2.out (hc 2 _ rfl)
                        clear hc hx
                        obtain ⟨t2_0, h2_0⟩ : ∃ t : Bool, nameB qa_2 = t := ⟨_, rfl⟩
                        obtain ⟨t2_1, h2_1⟩ : ∃ t : Bool, inB qb_2 1 1048576 = t := ⟨_, rfl⟩
                        have HRT2 : Hid (rightSchedule ⟨qa_2, qb_2, qc_2⟩ = (t2_0 && t2_1 && allB 64 rightWindow qc_2)) := by unfold Hid rightSchedule; dsimp only; rw [h2_0, h2_1]
                        have C2_0 : Hid (∀ W, Calls Try.prog 9 #[.string qa_2] W fun e w' => e = .returned (.bool t2_0) ∧ w' = W) := fun W => by rw [← h2_0]; exact rname_any qa_2 W hsqa_2
                        have C2_1 : Hid (∀ W, Calls Try.prog 39 #[.int .i64 qb_2, .int .i64 1, .int .i64 1048576] W fun e w' => e = .returned (.bool t2_1) ∧ w' = W) := fun W => by rw [← h2_1]; exact rin_any qb_2 _ _ W
                        clear hlt h2_0 h2_1 hsqa_2
                        go_wp2_with fail
                        obtain ⟨W2, hW⟩ : ∃ W, wo2.alloc (.cells #[.string qa_2, .int .i64 qb_2, .slice aqc_2 nqc_2 cqc_2] 65) = W := ⟨_, rfl⟩
                        obtain ⟨g2, hg⟩ : ∃ g, wo2.heap.size = g := ⟨_, rfl⟩
                        have HC2 : Hid (Cells W2 g2 [.string qa_2, .int .i64 qb_2, .slice aqc_2 nqc_2 cqc_2]) := fun j u hu => by rw [← hW, ← hg, World.cell?_alloc_new]; simpa using hu
                        have x0_2 := HC2.out 0 _ rfl
                        have x1_2 := HC2.out 1 _ rfl
                        have x2_2 := HC2.out 2 _ rfl
                        have BA2 : Hid (Below W0.heap.size W0 W2) := by rw [← hW]; exact HB2.out.alloc HB2.out.size _
                        replace d0 := cell_later (BA2.out) (HC0.out 0 _ rfl)
                        replace d1 := cell_later (BA2.out) (HC0.out 1 _ rfl)
                        replace d2 := cell_later (BA2.out) (HC0.out 2 _ rfl)
                        replace d3 := cell_later (BA2.out) (HC0.out 3 _ rfl)
                        replace d4 := cell_later (BA2.out) (HC0.out 4 _ rfl)
                        replace d5 := cell_later (BA2.out) (HC0.out 5 _ rfl)
                        replace d6 := cell_later (BA2.out) (HC0.out 6 _ rfl)
                        rw [hW, hg]
                        clear hW hg e0_2 e1_2 e2_2
                        refine (C2_0.out _).mono ?_
                        rintro e WQ ⟨rfl, h⟩
                        have h := h.symm
                        subst h
                        cases t2_0 with
                        | false =>
                          have HE : Hid (qc.all rightSchedule = false) := all_false HXS2.out (by have e := HRT2.out; simpa using e)
                          go_wp2_with fail
                          have HF : Hid (r = false) := HB3r.out (allB_el HE.out)
                          go_ret
                          exact ⟨by rw [HF.out]; rfl, BW.out.trans (BA2.out.mono BW.out.size)⟩
                        | true =>
                          go_wp2_with fail
                          refine (C2_1.out _).mono ?_
                          rintro e WQ ⟨rfl, h⟩
                          have h := h.symm
                          subst h
                          cases t2_1 with
                          | false =>
                            have HE : Hid (qc.all rightSchedule = false) := all_false HXS2.out (by have e := HRT2.out; simpa using e)
                            go_wp2_with fail
                            have HF : Hid (r = false) := HB3r.out (allB_el HE.out)
                            go_ret
                            exact ⟨by rw [HF.out]; rfl, BW.out.trans (BA2.out.mono BW.out.size)⟩
                          | true =>
                            by_cases hgt2 : (64 : Int) < (nqc_2 : Int)
                            · have HE : Hid (qc.all rightSchedule = false) := all_false HXS2.out (by rw [HRT2.out, allB_len HNqc_2.out hgt2]; simp)
                              go_wp2_with fail
                              have HF : Hid (r = false) := HB3r.out (allB_el HE.out)
                              go_ret
                              exact ⟨by rw [HF.out]; rfl, BW.out.trans (BA2.out.mono BW.out.size)⟩
                            · have hle2 : (nqc_2 : Int) ≤ 64 := by omega
                              have HLE2 := Lib.hid hle2
                              have HRqc_2 : Hid (Row W2 3 RWindow (.slice aqc_2 nqc_2 cqc_2) qc_2) := hqc_2.below BA2.out
                              clear hgt2 hqc_2
                              go_wp2_with fail
                              clear x0_2 x1_2 x2_2
                              have BI2 : Hid (Below W2.heap.size W2 W2) := Below.refl _ _
                              go_loopw [6] (fun v wr => LRel rightWindow nqc_2 qc_2 W2 v wr) (fun v => fun _ => nqc_2 - (intOf v).toNat)
                              case atStart => exact LRel.start BI2.out
                              case round =>
                                clear BI2
                                obtain ⟨⟨k3, hk, rfl, hall, hb⟩⟩ := hrel
                                obtain ⟨wo3, hwo⟩ : ∃ wo, wo = wr := ⟨_, rfl⟩
                                subst hwo
                                have HK3 := Lib.hid hk
                                have HA3 := Lib.hid hall
                                have HB3 := Lib.hid hb
                                clear hk hall hb
                                have x0_2' := cell_later (HB3.out) (HC2.out 0 _ rfl)
                                have x1_2' := cell_later (HB3.out) (HC2.out 1 _ rfl)
                                have x2_2' := cell_later (HB3.out) (HC2.out 2 _ rfl)
                                by_cases hlt : k3 < nqc_2
                                · have hkI3 : (k3 : Int) < (nqc_2 : Int) := by omega
                                  have HX3 : Hid (k3 < nqc_2) := hlt
                                  obtain ⟨hnx, b3, off3, x, cs, hax, hbl, hx, hR, _, hc⟩ := HRqc_2.out.at_ k3 hlt
                                  clear hnx
                                  subst hax
                                  have HXS3 := Lib.hid hx
                                  obtain ⟨qa_3, qb_3, qc_3⟩ := x
                                  obtain ⟨rfl, _⟩ := hR
                                  have e0_3 : wo3.cell? ⟨b3, off3 + k3 * 3, none⟩ = some (.int .i64 qa_3) := cell_later HB3.out (hc 0 _ rfl)
                                  have e1_3 : wo3.cell? ⟨b3, off3 + k3 * 3 + 1, none⟩ = some (.int .i64 qb_3) := cell_later HB3.out (hc 1 _ rfl)
                                  have e2_3 : wo3.cell? ⟨b3, off3 + k3 * 3 + 2, none⟩ = some (.int .i64 qc_3) := cell_later HB3.out (hc 2 _ rfl)
                                  clear hc hx
                                  obtain ⟨t3_0, h3_0⟩ : ∃ t : Bool, inB qa_3 0 15 = t := ⟨_, rfl⟩
                                  obtain ⟨t3_1, h3_1⟩ : ∃ t : Bool, inB qb_3 0 1048576 = t := ⟨_, rfl⟩
                                  obtain ⟨t3_2, h3_2⟩ : ∃ t : Bool, inB qc_3 1 1048576 = t := ⟨_, rfl⟩
                                  have HRT3 : Hid (rightWindow ⟨qa_3, qb_3, qc_3⟩ = (t3_0 && t3_1 && t3_2)) := by unfold Hid rightWindow; dsimp only; rw [h3_0, h3_1, h3_2]
                                  have C3_0 : Hid (∀ W, Calls Try.prog 39 #[.int .i64 qa_3, .int .i64 0, .int .i64 15] W fun e w' => e = .returned (.bool t3_0) ∧ w' = W) := fun W => by rw [← h3_0]; exact rin_any qa_3 _ _ W
                                  have C3_1 : Hid (∀ W, Calls Try.prog 39 #[.int .i64 qb_3, .int .i64 0, .int .i64 1048576] W fun e w' => e = .returned (.bool t3_1) ∧ w' = W) := fun W => by rw [← h3_1]; exact rin_any qb_3 _ _ W
                                  have C3_2 : Hid (∀ W, Calls Try.prog 39 #[.int .i64 qc_3, .int .i64 1, .int .i64 1048576] W fun e w' => e = .returned (.bool t3_2) ∧ w' = W) := fun W => by rw [← h3_2]; exact rin_any qc_3 _ _ W
                                  clear hlt h3_0 h3_1 h3_2
                                  go_wp2_with fail
                                  obtain ⟨W3, hW⟩ : ∃ W, wo3.alloc (.cells #[.int .i64 qa_3, .int .i64 qb_3, .int .i64 qc_3] 84) = W := ⟨_, rfl⟩
                                  obtain ⟨g3, hg⟩ : ∃ g, wo3.heap.size = g := ⟨_, rfl⟩
                                  have HC3 : Hid (Cells W3 g3 [.int .i64 qa_3, .int .i64 qb_3, .int .i64 qc_3]) := fun j u hu => by rw [← hW, ← hg, World.cell?_alloc_new]; simpa using hu
                                  have x0_3 := HC3.out 0 _ rfl
                                  have x1_3 := HC3.out 1 _ rfl
                                  have x2_3 := HC3.out 2 _ rfl
                                  have BA3 : Hid (Below W2.heap.size W2 W3) := by rw [← hW]; exact HB3.out.alloc HB3.out.size _
                                  have x0_2' := cell_later (BA3.out) (HC2.out 0 _ rfl)
                                  have x1_2' := cell_later (BA3.out) (HC2.out 1 _ rfl)
                                  have x2_2' := cell_later (BA3.out) (HC2.out 2 _ rfl)
                                  rw [hW, hg]
                                  clear hW hg e0_3 e1_3 e2_3
                                  refine (C3_0.out _).mono ?_
                                  rintro e WQ ⟨rfl, h⟩
                                  have h := h.symm
                                  subst h
                                  cases t3_0 with
                                  | false =>
                                    have HE : Hid (qc_2.all rightWindow = false) := all_false HXS3.out (by have e := HRT3.out; simpa using e)
                                    go_wp2_with fail
                                    have HE2 : Hid (qc.all rightSchedule = false) := all_false HXS2.out (by rw [HRT2.out, allB_el HE.out]; simp)
                                    have BO : Hid (Below W0.heap.size W0 _) := BA2.out.trans (BA3.out.mono BA2.out.size)
                                    have HF : Hid (r = false) := HB3r.out (allB_el HE2.out)
                                    go_ret
                                    exact ⟨by rw [HF.out]; rfl, BW.out.trans (BO.out.mono BW.out.size)⟩
                                  | true =>
                                    go_wp2_with fail
                                    refine (C3_1.out _).mono ?_
                                    rintro e WQ ⟨rfl, h⟩
                                    have h := h.symm
                                    subst h
                                    cases t3_1 with
                                    | false =>
                                      have HE : Hid (qc_2.all rightWindow = false) := all_false HXS3.out (by have e := HRT3.out; simpa using e)
                                      go_wp2_with fail
                                      have HE2 : Hid (qc.all rightSchedule = false) := all_false HXS2.out (by rw [HRT2.out, allB_el HE.out]; simp)
                                      have BO : Hid (Below W0.heap.size W0 _) := BA2.out.trans (BA3.out.mono BA2.out.size)
                                      have HF : Hid (r = false) := HB3r.out (allB_el HE2.out)
                                      go_ret
                                      exact ⟨by rw [HF.out]; rfl, BW.out.trans (BO.out.mono BW.out.size)⟩
                                    | true =>
                                      go_wp2_with fail
                                      refine (C3_2.out _).mono ?_
                                      rintro e WQ ⟨rfl, h⟩
                                      have h := h.symm
                                      subst h
                                      cases t3_2 with
                                      | false =>
                                        have HE : Hid (qc_2.all rightWindow = false) := all_false HXS3.out (by have e := HRT3.out; simpa using e)
                                        go_wp2_with fail
                                        have HE2 : Hid (qc.all rightSchedule = false) := all_false HXS2.out (by rw [HRT2.out, allB_el HE.out]; simp)
                                        have BO : Hid (Below W0.heap.size W0 _) := BA2.out.trans (BA3.out.mono BA2.out.size)
                                        have HF : Hid (r = false) := HB3r.out (allB_el HE2.out)
                                        go_ret
                                        exact ⟨by rw [HF.out]; rfl, BW.out.trans (BO.out.mono BW.out.size)⟩
                                      | true =>
                                        go_wp2_with fail
                                        go_roundw
                                        case rel =>
                                          have Q : LRel rightWindow nqc_2 qc_2 W2 (.int .i64 ((k3 : Int) + 1)) W3 := LRel.next HX3.out HXS3.out (by have e := HRT3.out; simpa using e) HA3.out BA3.out
                                          first | exact Q | ((repeat apply Exists.intro); exact ⟨Q, rfl⟩)
                                        case measure => have := HX3.out; simp [intOf]; omega
                                · have hkI3 : ¬ (k3 : Int) < (nqc_2 : Int) := by omega
                                  have HAll3 : Hid (qc_2.all rightWindow = true) := LRel.done HK3.out HNqc_2.out hlt HA3.out
                                  clear hlt HK3 HA3
                                  have BO : Hid (Below W0.heap.size W0 wo3) := BA2.out.trans (HB3.out.mono BA2.out.size)
                                  go_wp2_with fail
                                  go_roundw
                                  case rel =>
                                    have Q : LRel rightSchedule nqc qc W0 (.int .i64 ((k2 : Int) + 1)) wo3 := LRel.next HX2.out HXS2.out (by rw [HRT2.out, allB_ok HNqc_2.out HLE2.out HAll3.out]; rfl) HA2.out BO.out
                                    first | exact Q | ((repeat apply Exists.intro); exact ⟨Q, rfl⟩)
                                  case measure => have := HX2.out; simp [intOf]; omega
                      · have hkI2 : ¬ (k2 : Int) < (nqc : Int) := by omega
                        have HAll2 : Hid (qc.all rightSchedule = true) := LRel.done HK2.out HNqc.out hlt HA2.out
                        clear hlt HK2 HA2
                        go_wp2_with fail
                        go_loopw [8] (fun v wr => LRel rightChannel nqe qe W0 v wr) (fun v => fun _ => nqe - (intOf v).toNat)
                        case atStart => exact LRel.start HB2.out
                        case round =>
                          clear HB2
                          obtain ⟨⟨k4, hk, rfl, hall, hb⟩⟩ := hrel
                          obtain ⟨wo4, hwo⟩ : ∃ wo, wo = wr := ⟨_, rfl⟩
                          subst hwo
                          have HK4 := Lib.hid hk
                          have HA4 := Lib.hid hall
                          have HB4 := Lib.hid hb
                          clear hk hall hb
                          have d0 := cell_later (HB4.out) (HC0.out 0 _ rfl)
                          have d1 := cell_later (HB4.out) (HC0.out 1 _ rfl)
                          have d2 := cell_later (HB4.out) (HC0.out 2 _ rfl)
                          have d3 := cell_later (HB4.out) (HC0.out 3 _ rfl)
                          have d4 := cell_later (HB4.out) (HC0.out 4 _ rfl)
                          have d5 := cell_later (HB4.out) (HC0.out 5 _ rfl)
                          have d6 := cell_later (HB4.out) (HC0.out 6 _ rfl)
                          by_cases hlt : k4 < nqe
                          · have hkI4 : (k4 : Int) < (nqe : Int) := by omega
                            have HX4 : Hid (k4 < nqe) := hlt
                            obtain ⟨hnx, b4, off4, x, cs, hax, hbl, hx, hR, _, hc⟩ := HRqe.out.at_ k4 hlt
                            clear hnx
                            subst hax
                            have HXS4 := Lib.hid hx
                            obtain ⟨qa_4, qb_4, qc_4⟩ := x
                            replace hR : RChannel W0 _ cs := hR
                            obtain ⟨vqc_4, rfl, hqc_4⟩ := hR
                            obtain ⟨aqc_4, cqc_4, rfl, hmqc_4⟩ := hqc_4.form
                            obtain ⟨nqc_4, hnqc_4⟩ : ∃ n, qc_4.length = n := ⟨_, rfl⟩
                            rw [hnqc_4] at hqc_4 hmqc_4 hc
                            unfold rowMax at hmqc_4
                            have HNqc_4 := Lib.hid hnqc_4
                            clear hnqc_4
                            have e0_4 : wo4.cell? ⟨b4, off4 + k4 * 3, none⟩ = some (.int .i64 qa_4) := cell_later HB4.out (hc 0 _ rfl)
                            have e1_4 : wo4.cell? ⟨b4, off4 + k4 * 3 + 1, none⟩ = some (.int .i64 qb_4) := cell_later HB4.out (hc 1 _ rfl)
                            have e2_4 : wo4.cell? ⟨b4, off4 + k4 * 3 + 2, none⟩ = some (.slice aqc_4 nqc_4 cqc_4) := cell_later HB4.out (hc 2 _ rfl)
                            clear hc hx
                            obtain ⟨t4_0, h4_0⟩ : ∃ t : Bool, rightEnd ⟨qa_4, qb_4⟩ = t := ⟨_, rfl⟩
                            have HRT4 : Hid (rightChannel ⟨qa_4, qb_4, qc_4⟩ = (t4_0 && allB 8 rightEnd qc_4)) := by unfold Hid rightChannel; dsimp only; rw [h4_0]
                            have C4_0 : Hid (∀ W, Calls Try.prog 42 #[.agg #[.int .i64 qa_4, .int .i64 qb_4]] W fun e w' => e = .returned (.bool t4_0) ∧ Below W.heap.size W w') := fun W => by rw [← h4_0]; exact rend_core qa_4 qb_4 W
                            clear hlt h4_0
                            go_wp2_with fail
                            obtain ⟨W4, hW⟩ : ∃ W, wo4.alloc (.cells #[.int .i64 qa_4, .int .i64 qb_4, .slice aqc_4 nqc_4 cqc_4] 72) = W := ⟨_, rfl⟩
                            obtain ⟨g4, hg⟩ : ∃ g, wo4.heap.size = g := ⟨_, rfl⟩
                            have HC4 : Hid (Cells W4 g4 [.int .i64 qa_4, .int .i64 qb_4, .slice aqc_4 nqc_4 cqc_4]) := fun j u hu => by rw [← hW, ← hg, World.cell?_alloc_new]; simpa using hu
                            have x0_4 := HC4.out 0 _ rfl
                            have x1_4 := HC4.out 1 _ rfl
                            have x2_4 := HC4.out 2 _ rfl
                            have BA4 : Hid (Below W0.heap.size W0 W4) := by rw [← hW]; exact HB4.out.alloc HB4.out.size _
                            replace d0 := cell_later (BA4.out) (HC0.out 0 _ rfl)
                            replace d1 := cell_later (BA4.out) (HC0.out 1 _ rfl)
                            replace d2 := cell_later (BA4.out) (HC0.out 2 _ rfl)
                            replace d3 := cell_later (BA4.out) (HC0.out 3 _ rfl)
                            replace d4 := cell_later (BA4.out) (HC0.out 4 _ rfl)
                            replace d5 := cell_later (BA4.out) (HC0.out 5 _ rfl)
                            replace d6 := cell_later (BA4.out) (HC0.out 6 _ rfl)
                            rw [hW, hg]
                            clear hW hg e0_4 e1_4 e2_4
                            refine (C4_0.out _).mono ?_
                            rintro e WS4 ⟨rfl, b⟩
                            have BS4 : Hid (Below W0.heap.size W0 WS4) := BA4.out.trans (b.mono BA4.out.size)
                            replace x0_4 := cell_later b x0_4
                            replace x1_4 := cell_later b x1_4
                            replace x2_4 := cell_later b x2_4
                            have HC4' : Hid (Cells WS4 g4 [.int .i64 qa_4, .int .i64 qb_4, .slice aqc_4 nqc_4 cqc_4]) := fun j u hu => cell_later b (HC4.out j u hu)
                            clear HC4
                            have HC4 := HC4'
                            clear HC4'
                            replace d0 := cell_later (BS4.out) (HC0.out 0 _ rfl)
                            replace d1 := cell_later (BS4.out) (HC0.out 1 _ rfl)
                            replace d2 := cell_later (BS4.out) (HC0.out 2 _ rfl)
                            replace d3 := cell_later (BS4.out) (HC0.out 3 _ rfl)
                            replace d4 := cell_later (BS4.out) (HC0.out 4 _ rfl)
                            replace d5 := cell_later (BS4.out) (HC0.out 5 _ rfl)
                            replace d6 := cell_later (BS4.out) (HC0.out 6 _ rfl)
                            clear b
                            cases t4_0 with
                            | false =>
                              have HE : Hid (qe.all rightChannel = false) := all_false HXS4.out (by have e := HRT4.out; simpa using e)
                              go_wp2_with fail
                              have HF : Hid (r = false) := HB4r.out (allB_el HE.out)
                              go_ret
                              exact ⟨by rw [HF.out]; rfl, BW.out.trans (BS4.out.mono BW.out.size)⟩
                            | true =>
                              by_cases hgt4 : (8 : Int) < (nqc_4 : Int)
                              · have HE : Hid (qe.all rightChannel = false) := all_false HXS4.out (by rw [HRT4.out, allB_len HNqc_4.out hgt4]; simp)
                                go_wp2_with fail
                                have HF : Hid (r = false) := HB4r.out (allB_el HE.out)
                                go_ret
                                exact ⟨by rw [HF.out]; rfl, BW.out.trans (BS4.out.mono BW.out.size)⟩
                              · have hle4 : (nqc_4 : Int) ≤ 8 := by omega
                                have HLE4 := Lib.hid hle4
                                have HRqc_4 : Hid (Row WS4 2 REnd (.slice aqc_4 nqc_4 cqc_4) qc_4) := hqc_4.below BS4.out
                                clear hgt4 hqc_4
                                go_wp2_with fail
                                clear x0_4 x1_4 x2_4
                                have BI4 : Hid (Below WS4.heap.size WS4 WS4) := Below.refl _ _
                                go_loopw [10] (fun v wr => LRel rightEnd nqc_4 qc_4 WS4 v wr) (fun v => fun _ => nqc_4 - (intOf v).toNat)
                                case atStart => exact LRel.start BI4.out
                                case round =>
                                  clear BI4
                                  obtain ⟨⟨k5, hk, rfl, hall, hb⟩⟩ := hrel
                                  obtain ⟨wo5, hwo⟩ : ∃ wo, wo = wr := ⟨_, rfl⟩
                                  subst hwo
                                  have HK5 := Lib.hid hk
                                  have HA5 := Lib.hid hall
                                  have HB5 := Lib.hid hb
                                  clear hk hall hb
                                  have x0_4' := cell_later (HB5.out) (HC4.out 0 _ rfl)
                                  have x1_4' := cell_later (HB5.out) (HC4.out 1 _ rfl)
                                  have x2_4' := cell_later (HB5.out) (HC4.out 2 _ rfl)
                                  by_cases hlt : k5 < nqc_4
                                  · have hkI5 : (k5 : Int) < (nqc_4 : Int) := by omega
                                    have HX5 : Hid (k5 < nqc_4) := hlt
                                    obtain ⟨hnx, b5, off5, x, cs, hax, hbl, hx, hR, _, hc⟩ := HRqc_4.out.at_ k5 hlt
                                    clear hnx
                                    subst hax
                                    have HXS5 := Lib.hid hx
                                    obtain ⟨qa_5, qb_5⟩ := x
                                    obtain ⟨rfl, _⟩ := hR
                                    have e0_5 : wo5.cell? ⟨b5, off5 + k5 * 2, none⟩ = some (.int .i64 qa_5) := cell_later HB5.out (hc 0 _ rfl)
                                    have e1_5 : wo5.cell? ⟨b5, off5 + k5 * 2 + 1, none⟩ = some (.int .i64 qb_5) := cell_later HB5.out (hc 1 _ rfl)
                                    clear hc hx
                                    obtain ⟨t5, h5⟩ : ∃ t : Bool, rightEnd ⟨qa_5, qb_5⟩ = t := ⟨_, rfl⟩
                                    have HT5 := Lib.hid h5
                                    have C5 : Hid (∀ W, Calls Try.prog 42 #[.agg #[.int .i64 qa_5, .int .i64 qb_5]] W fun e w' => e = .returned (.bool t5) ∧ Below W.heap.size W w') := fun W => by rw [← h5]; exact rend_core qa_5 qb_5 W
                                    clear h5 hlt
                                    go_wp2_with fail
                                    refine (C5.out _).mono ?_
                                    rintro e W5 ⟨rfl, b⟩
                                    have BN5 : Hid (Below WS4.heap.size WS4 W5) := HB5.out.trans (b.mono HB5.out.size)
                                    clear b C5
                                    cases t5 with
                                    | false =>
                                      have HE : Hid (qc_4.all rightEnd = false) := all_false HXS5.out HT5.out
                                      go_wp2_with fail
                                      have HE2 : Hid (qe.all rightChannel = false) := all_false HXS4.out (by rw [HRT4.out, allB_el HE.out]; simp)
                                      have BO : Hid (Below W0.heap.size W0 _) := BS4.out.trans (BN5.out.mono BS4.out.size)
                                      have HF : Hid (r = false) := HB4r.out (allB_el HE2.out)
                                      go_ret
                                      exact ⟨by rw [HF.out]; rfl, BW.out.trans (BO.out.mono BW.out.size)⟩
                                    | true =>
                                      go_wp2_with fail
                                      go_roundw
                                      case rel =>
                                        have Q : LRel rightEnd nqc_4 qc_4 WS4 (.int .i64 ((k5 : Int) + 1)) W5 := LRel.next HX5.out HXS5.out HT5.out HA5.out BN5.out
                                        first | exact Q | ((repeat apply Exists.intro); exact ⟨Q, rfl⟩)
                                      case measure => have := HX5.out; simp [intOf]; omega
                                  · have hkI5 : ¬ (k5 : Int) < (nqc_4 : Int) := by omega
                                    have HAll5 : Hid (qc_4.all rightEnd = true) := LRel.done HK5.out HNqc_4.out hlt HA5.out
                                    clear hlt HK5 HA5
                                    have BO : Hid (Below W0.heap.size W0 wo5) := BS4.out.trans (HB5.out.mono BS4.out.size)
                                    go_wp2_with fail
                                    go_roundw
                                    case rel =>
                                      have Q : LRel rightChannel nqe qe W0 (.int .i64 ((k4 : Int) + 1)) wo5 := LRel.next HX4.out HXS4.out (by rw [HRT4.out, allB_ok HNqc_4.out HLE4.out HAll5.out]; rfl) HA4.out BO.out
                                      first | exact Q | ((repeat apply Exists.intro); exact ⟨Q, rfl⟩)
                                    case measure => have := HX4.out; simp [intOf]; omega
                          · have hkI4 : ¬ (k4 : Int) < (nqe : Int) := by omega
                            have HAll4 : Hid (qe.all rightChannel = true) := LRel.done HK4.out HNqe.out hlt HA4.out
                            clear hlt HK4 HA4
                            go_wp2_with fail
                            go_loopw [11] (fun v wr => LRel rightLink nqf qf W0 v wr) (fun v => fun _ => nqf - (intOf v).toNat)
                            case atStart => exact LRel.start HB4.out
                            case round =>
                              clear HB4
                              obtain ⟨⟨k6, hk, rfl, hall, hb⟩⟩ := hrel
                              obtain ⟨wo6, hwo⟩ : ∃ wo, wo = wr := ⟨_, rfl⟩
                              subst hwo
                              have HK6 := Lib.hid hk
                              have HA6 := Lib.hid hall
                              have HB6 := Lib.hid hb
                              clear hk hall hb
                              have d0 := cell_later (HB6.out) (HC0.out 0 _ rfl)
                              have d1 := cell_later (HB6.out) (HC0.out 1 _ rfl)
                              have d2 := cell_later (HB6.out) (HC0.out 2 _ rfl)
                              have d3 := cell_later (HB6.out) (HC0.out 3 _ rfl)
                              have d4 := cell_later (HB6.out) (HC0.out 4 _ rfl)
                              have d5 := cell_later (HB6.out) (HC0.out 5 _ rfl)
                              have d6 := cell_later (HB6.out) (HC0.out 6 _ rfl)
                              by_cases hlt : k6 < nqf
                              · have hkI6 : (k6 : Int) < (nqf : Int) := by omega
                                have HX6 : Hid (k6 < nqf) := hlt
                                obtain ⟨hnx, b6, off6, x, cs, hax, hbl, hx, hR, _, hc⟩ := HRqf.out.at_ k6 hlt
                                clear hnx
                                subst hax
                                have HXS6 := Lib.hid hx
                                obtain ⟨qa_6, qb_6, qc_6⟩ := x
                                obtain ⟨rfl, hsqa_6⟩ := hR
                                have e0_6 : wo6.cell? ⟨b6, off6 + k6 * 3, none⟩ = some (.string qa_6) := cell_later HB6.out (hc 0 _ rfl)
                                have e1_6 : wo6.cell? ⟨b6, off6 + k6 * 3 + 1, none⟩ = some (.int .i64 qb_6) := cell_later HB6.out (hc 1 _ rfl)
                                have e2_6 : wo6.cell? ⟨b6, off6 + k6 * 3 + 2, none⟩ = some (.int .i64 qc_6) := cell_later HB6.out (hc 2 _ rfl)
                                clear hc hx
                                obtain ⟨t6_0, h6_0⟩ : ∃ t : Bool, nameB qa_6 = t := ⟨_, rfl⟩
                                obtain ⟨t6_1, h6_1⟩ : ∃ t : Bool, inB qb_6 0 31 = t := ⟨_, rfl⟩
                                obtain ⟨t6_2, h6_2⟩ : ∃ t : Bool, inB qc_6 0 1048576 = t := ⟨_, rfl⟩
                                have HRT6 : Hid (rightLink ⟨qa_6, qb_6, qc_6⟩ = (t6_0 && t6_1 && t6_2)) := by unfold Hid rightLink; dsimp only; rw [h6_0, h6_1, h6_2]
                                have C6_0 : Hid (∀ W, Calls Try.prog 9 #[.string qa_6] W fun e w' => e = .returned (.bool t6_0) ∧ w' = W) := fun W => by rw [← h6_0]; exact rname_any qa_6 W hsqa_6
                                have C6_1 : Hid (∀ W, Calls Try.prog 39 #[.int .i64 qb_6, .int .i64 0, .int .i64 31] W fun e w' => e = .returned (.bool t6_1) ∧ w' = W) := fun W => by rw [← h6_1]; exact rin_any qb_6 _ _ W
                                have C6_2 : Hid (∀ W, Calls Try.prog 39 #[.int .i64 qc_6, .int .i64 0, .int .i64 1048576] W fun e w' => e = .returned (.bool t6_2) ∧ w' = W) := fun W => by rw [← h6_2]; exact rin_any qc_6 _ _ W
                                clear hlt h6_0 h6_1 h6_2 hsqa_6
                                go_wp2_with fail
                                refine (C6_0.out _).mono ?_
                                rintro e WQ ⟨rfl, h⟩
                                have h := h.symm
                                subst h
                                cases t6_0 with
                                | false =>
                                  have HE : Hid (qf.all rightLink = false) := all_false HXS6.out (by have e := HRT6.out; simpa using e)
                                  go_wp2_with fail
                                  have HF : Hid (r = false) := HB5r.out (allB_el HE.out)
                                  go_ret
                                  exact ⟨by rw [HF.out]; rfl, BW.out.trans (HB6.out.mono BW.out.size)⟩
                                | true =>
                                  go_wp2_with fail
                                  refine (C6_1.out _).mono ?_
                                  rintro e WQ ⟨rfl, h⟩
                                  have h := h.symm
                                  subst h
                                  cases t6_1 with
                                  | false =>
                                    have HE : Hid (qf.all rightLink = false) := all_false HXS6.out (by have e := HRT6.out; simpa using e)
                                    go_wp2_with fail
                                    have HF : Hid (r = false) := HB5r.out (allB_el HE.out)
                                    go_ret
                                    exact ⟨by rw [HF.out]; rfl, BW.out.trans (HB6.out.mono BW.out.size)⟩
                                  | true =>
                                    go_wp2_with fail
                                    refine (C6_2.out _).mono ?_
                                    rintro e WQ ⟨rfl, h⟩
                                    have h := h.symm
                                    subst h
                                    cases t6_2 with
                                    | false =>
                                      have HE : Hid (qf.all rightLink = false) := all_false HXS6.out (by have e := HRT6.out; simpa using e)
                                      go_wp2_with fail
                                      have HF : Hid (r = false) := HB5r.out (allB_el HE.out)
                                      go_ret
                                      exact ⟨by rw [HF.out]; rfl, BW.out.trans (HB6.out.mono BW.out.size)⟩
                                    | true =>
                                      go_wp2_with fail
                                      go_roundw
                                      case rel =>
                                        have Q : LRel rightLink nqf qf W0 (.int .i64 ((k6 : Int) + 1)) wo6 := LRel.next HX6.out HXS6.out (by have e := HRT6.out; simpa using e) HA6.out HB6.out
                                        first | exact Q | ((repeat apply Exists.intro); exact ⟨Q, rfl⟩)
                                      case measure => have := HX6.out; simp [intOf]; omega
                              · have hkI6 : ¬ (k6 : Int) < (nqf : Int) := by omega
                                have HAll6 : Hid (qf.all rightLink = true) := LRel.done HK6.out HNqf.out hlt HA6.out
                                clear hlt HK6 HA6
                                have HF : Hid (r = true) := HGr.out HTqa.out HTqd.out (allB_ok HNqb.out HLqb.out HAll1.out) (allB_ok HNqc.out HLqc.out HAll2.out) (allB_ok HNqe.out HLqe.out HAll4.out) (allB_ok HNqf.out HLqf.out HAll6.out) HTqg.out
                                go_wp2_with fail
                                go_ret
                                exact ⟨by rw [HF.out]; rfl, BW.out.trans (HB6.out.mono BW.out.size)⟩
end Go.Proofs.Ytchlgihanogeeaa
