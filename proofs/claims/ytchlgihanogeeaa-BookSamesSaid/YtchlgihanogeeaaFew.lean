/-
  The reference's Size, and Few. Each statement bears its own conditions.
-/
import Derived.Test.YtchlgihanogeeaaZ2
namespace Go.Proofs.Ytchlgihanogeeaa
open Go.RowKit
set_option linter.unusedVariables false
set_option linter.unusedSimpArgs false
structure SzRel {α : Type} (f : α → Nat) (n s0 B : Nat) (xs : List α) (W0 : World) (v3 v : Value) (wr : World) : Prop where
  ex : ∃ k s : Nat, k ≤ n ∧ v3 = .int .i64 (s : Int) ∧ v = .int .i64 (k : Int) ∧ s = s0 + ((xs.take k).map f).sum ∧ s ≤ B + k * (9 * rowMax) ∧ Below W0.heap.size W0 wr
set_option maxRecDepth 100000 in
set_option maxHeartbeats 8000000 in
theorem rsize_core (qa : ByteArray) (qb : List MPartition) (qc : List MSchedule) (qd : Int) (qe : List MChannel) (qf : List MLink) (qg : List MRule) (vqb vqc vqe vqf vqg : Value) (w : World) (hqb : Row w 13 (RPartition w) vqb qb) (hqc : Row w 3 (RSchedule w) vqc qc) (hqe : Row w 3 (RChannel w) vqe qe) (hqf : Row w 3 RLink vqf qf) (hqg : Row w 3 RRule vqg qg) (hl1 : qb.length ≤ 100) (hl2 : qc.length ≤ 100) (hl3 : qe.length ≤ 100) :
    Calls Try.prog 16 #[.agg #[.string qa, vqb, vqc, .int .i64 qd, vqe, vqf, vqg]] w fun e w' => e = .returned (.int .i64 (szModule ⟨qa, qb, qc, qd, qe, qf, qg⟩ : Nat)) ∧ Below w.heap.size w w' := by
  have HLqb := Lib.hid hl1
  have HLqc := Lib.hid hl2
  have HLqe := Lib.hid hl3
  clear hl1 hl2 hl3
  obtain ⟨aqb, cqb, rfl, hmqb⟩ := hqb.form
  obtain ⟨nqb, hnqb⟩ : ∃ n, qb.length = n := ⟨_, rfl⟩
  rw [hnqb] at hqb hmqb ⊢
  have HNqb := Lib.hid hnqb
  unfold rowMax at hmqb
  clear hnqb
  obtain ⟨aqc, cqc, rfl, hmqc⟩ := hqc.form
  obtain ⟨nqc, hnqc⟩ : ∃ n, qc.length = n := ⟨_, rfl⟩
  rw [hnqc] at hqc hmqc ⊢
  have HNqc := Lib.hid hnqc
  unfold rowMax at hmqc
  clear hnqc
  obtain ⟨aqe, cqe, rfl, hmqe⟩ := hqe.form
  obtain ⟨nqe, hnqe⟩ : ∃ n, qe.length = n := ⟨_, rfl⟩
  rw [hnqe] at hqe hmqe ⊢
  have HNqe := Lib.hid hnqe
  unfold rowMax at hmqe
  clear hnqe
  obtain ⟨aqf, cqf, rfl, hmqf⟩ := hqf.form
  obtain ⟨nqf, hnqf⟩ : ∃ n, qf.length = n := ⟨_, rfl⟩
  rw [hnqf] at hqf hmqf ⊢
  have HNqf := Lib.hid hnqf
  unfold rowMax at hmqf
  clear hnqf
  obtain ⟨aqg, cqg, rfl, hmqg⟩ := hqg.form
  obtain ⟨nqg, hnqg⟩ : ∃ n, qg.length = n := ⟨_, rfl⟩
  rw [hnqg] at hqg hmqg ⊢
  have HNqg := Lib.hid hnqg
  unfold rowMax at hmqg
  clear hnqg
  obtain ⟨r, hr⟩ : ∃ r, szModule ⟨qa, qb, qc, qd, qe, qf, qg⟩ = r := ⟨_, rfl⟩
  rw [hr]
  have HRES := Lib.hid hr
  clear hr
  obtain ⟨s0, hs0⟩ : ∃ s0 : Nat, nqb + nqc + nqe + nqf + nqg = s0 := ⟨_, rfl⟩
  have HS0 := Lib.hid hs0
  have HB01 : Hid (s0 ≤ 5 * rowMax) := by unfold Hid rowMax; omega
  go_enter Try.func16, Try.ntmps16
  clear hs0
  go_wp2_with fail
  have hsum : (nqb : Int) + (nqc : Int) + (nqe : Int) + (nqf : Int) + (nqg : Int) = (s0 : Int) := by have := HS0.out; omega
  rw [hsum]
  clear hsum
  obtain ⟨W0, hW0⟩ : ∃ W0, w.alloc (.cells #[.string qa, .slice aqb nqb cqb, .slice aqc nqc cqc, .int .i64 qd, .slice aqe nqe cqe, .slice aqf nqf cqf, .slice aqg nqg cqg] 30) = W0 := ⟨_, rfl⟩
  have HC : Hid (∀ (j : Nat) u, [.string qa, .slice aqb nqb cqb, .slice aqc nqc cqc, .int .i64 qd, .slice aqe nqe cqe, .slice aqf nqf cqf, .slice aqg nqg cqg][j]? = some u → W0.cell? ⟨w.heap.size, j, none⟩ = some u) := fun j u hu => by rw [← hW0, World.cell?_alloc_new]; simpa using hu
  have BW : Hid (Below w.heap.size w W0) := by rw [← hW0]; exact (Below.refl _ _).alloc (Nat.le_refl _) _
  have HBw1 : Hid (Below W0.heap.size W0 W0) := Below.refl _ _
  have HRqb : Hid (Row W0 13 (RPartition W0) (.slice aqb nqb cqb) qb) := hqb.keep BW.out (fun _ _ h => h.below BW.out)
  have HRqc : Hid (Row W0 3 (RSchedule W0) (.slice aqc nqc cqc) qc) := hqc.keep BW.out (fun _ _ h => h.below BW.out)
  have HRqe : Hid (Row W0 3 (RChannel W0) (.slice aqe nqe cqe) qe) := hqe.keep BW.out (fun _ _ h => h.below BW.out)
  rw [hW0]
  clear hW0 hqb hqc hqe hqf hqg hmqb hmqc hmqe hmqf hmqg
  go_loopw [3, 4] (fun v3 v wr => SzRel szPartition nqb s0 (5 * rowMax) qb W0 v3 v wr) (fun _ v => fun _ => nqb - (intOf v).toNat)
  case atStart => exact ⟨⟨0, s0, Nat.zero_le _, rfl, rfl, by simp, by have := HB01.out; omega, HBw1.out⟩⟩
  case round =>
    clear HBw1
    obtain ⟨⟨k1, s1, hk, rfl, rfl, hs, hsl, hb⟩⟩ := hrel
    obtain ⟨wo1, hwo⟩ : ∃ wo, wo = wr := ⟨_, rfl⟩
    subst hwo
    have HK1 := Lib.hid hk
    have HS1 := Lib.hid hs
    have HSL1 := Lib.hid hsl
    have HB1 := Lib.hid hb
    have hs91 : (s1 : Int) ≤ 100000000000000000 := by have := HLqb.out; have := HNqb.out; have : k1 * (9 * rowMax) ≤ 100 * (9 * rowMax) := Nat.mul_le_mul_right _ (by omega); unfold rowMax at this hsl; omega
    clear hk hs hb hsl
    have d0 := cell_later HB1.out (HC.out 0 _ rfl)
    have d1 := cell_later HB1.out (HC.out 1 _ rfl)
    have d2 := cell_later HB1.out (HC.out 2 _ rfl)
    have d3 := cell_later HB1.out (HC.out 3 _ rfl)
    have d4 := cell_later HB1.out (HC.out 4 _ rfl)
    have d5 := cell_later HB1.out (HC.out 5 _ rfl)
    have d6 := cell_later HB1.out (HC.out 6 _ rfl)
    by_cases hlt : k1 < nqb
    · have hkI1 : (k1 : Int) < (nqb : Int) := by omega
      have hk91 : (k1 : Int) ≤ 100 := by have := HLqb.out; have := HNqb.out; omega
      have HX1 : Hid (k1 < nqb) := hlt
      obtain ⟨hnx, b1, off1, x, cs, hax, hbl, hx, hR, _, hc⟩ := HRqb.out.at_ k1 hlt
      clear hnx hbl
      subst hax
      have HXS1 := Lib.hid hx
      have hq := szPartition_le hR
      have HQL1 := Lib.hid hq
      clear hq
      obtain ⟨qa_1, qb_1, qc_1, qd_1, qe_1, qf_1, qg_1, qh_1, qi_1, qj_1, qk_1, ql_1, qm_1⟩ := x
      obtain ⟨vqb_1, vqc_1, vqd_1, vqe_1, vqf_1, vqg_1, vqh_1, vqi_1, vqj_1, rfl, _, hqb_1, hqc_1, hqd_1, hqe_1, hqf_1, hqg_1, hqh_1, hqi_1, hqj_1⟩ := hR
      obtain ⟨aqb_1, cqb_1, rfl, hmqb_1⟩ := hqb_1.form
      obtain ⟨nqb_1, hnqb_1⟩ : ∃ n, qb_1.length = n := ⟨_, rfl⟩
      rw [hnqb_1] at hmqb_1 hc
      have HNqb_1 := Lib.hid hnqb_1
      unfold rowMax at hmqb_1
      clear hnqb_1 hqb_1
      obtain ⟨aqc_1, cqc_1, rfl, hmqc_1⟩ := hqc_1.form
      obtain ⟨nqc_1, hnqc_1⟩ : ∃ n, qc_1.length = n := ⟨_, rfl⟩
      rw [hnqc_1] at hmqc_1 hc
      have HNqc_1 := Lib.hid hnqc_1
      unfold rowMax at hmqc_1
      clear hnqc_1 hqc_1
      obtain ⟨aqd_1, cqd_1, rfl, hmqd_1⟩ := hqd_1.form
      obtain ⟨nqd_1, hnqd_1⟩ : ∃ n, qd_1.length = n := ⟨_, rfl⟩
      rw [hnqd_1] at hmqd_1 hc
      have HNqd_1 := Lib.hid hnqd_1
      unfold rowMax at hmqd_1
      clear hnqd_1 hqd_1
      obtain ⟨aqe_1, cqe_1, rfl, hmqe_1⟩ := hqe_1.form
      obtain ⟨nqe_1, hnqe_1⟩ : ∃ n, qe_1.length = n := ⟨_, rfl⟩
      rw [hnqe_1] at hmqe_1 hc
      have HNqe_1 := Lib.hid hnqe_1
      unfold rowMax at hmqe_1
      clear hnqe_1 hqe_1
      obtain ⟨aqf_1, cqf_1, rfl, hmqf_1⟩ := hqf_1.form
      obtain ⟨nqf_1, hnqf_1⟩ : ∃ n, qf_1.length = n := ⟨_, rfl⟩
      rw [hnqf_1] at hmqf_1 hc
      have HNqf_1 := Lib.hid hnqf_1
      unfold rowMax at hmqf_1
      clear hnqf_1 hqf_1
      obtain ⟨aqg_1, cqg_1, rfl, hmqg_1⟩ := hqg_1.form
      obtain ⟨nqg_1, hnqg_1⟩ : ∃ n, qg_1.length = n := ⟨_, rfl⟩
      rw [hnqg_1] at hmqg_1 hc
      have HNqg_1 := Lib.hid hnqg_1
      unfold rowMax at hmqg_1
      clear hnqg_1 hqg_1
      obtain ⟨aqh_1, cqh_1, rfl, hmqh_1⟩ := hqh_1.form
      obtain ⟨nqh_1, hnqh_1⟩ : ∃ n, qh_1.length = n := ⟨_, rfl⟩
      rw [hnqh_1] at hmqh_1 hc
      have HNqh_1 := Lib.hid hnqh_1
      unfold rowMax at hmqh_1
      clear hnqh_1 hqh_1
      obtain ⟨aqi_1, cqi_1, rfl, hmqi_1⟩ := hqi_1.form
      obtain ⟨nqi_1, hnqi_1⟩ : ∃ n, qi_1.length = n := ⟨_, rfl⟩
      rw [hnqi_1] at hmqi_1 hc
      have HNqi_1 := Lib.hid hnqi_1
      unfold rowMax at hmqi_1
      clear hnqi_1 hqi_1
      obtain ⟨aqj_1, cqj_1, rfl, hmqj_1⟩ := hqj_1.form
      obtain ⟨nqj_1, hnqj_1⟩ : ∃ n, qj_1.length = n := ⟨_, rfl⟩
      rw [hnqj_1] at hmqj_1 hc
      have HNqj_1 := Lib.hid hnqj_1
      unfold rowMax at hmqj_1
      clear hnqj_1 hqj_1
      have e0 : wo1.cell? ⟨b1, off1 + k1 * 13, none⟩ = some (.string qa_1) := cell_later HB1.out (hc 0 _ rfl)
      have e1 : wo1.cell? ⟨b1, off1 + k1 * 13 + 1, none⟩ = some (.slice aqb_1 nqb_1 cqb_1) := cell_later HB1.out (hc 1 _ rfl)
      have e2 : wo1.cell? ⟨b1, off1 + k1 * 13 + 2, none⟩ = some (.slice aqc_1 nqc_1 cqc_1) := cell_later HB1.out (hc 2 _ rfl)
      have e3 : wo1.cell? ⟨b1, off1 + k1 * 13 + 3, none⟩ = some (.slice aqd_1 nqd_1 cqd_1) := cell_later HB1.out (hc 3 _ rfl)
      have e4 : wo1.cell? ⟨b1, off1 + k1 * 13 + 4, none⟩ = some (.slice aqe_1 nqe_1 cqe_1) := cell_later HB1.out (hc 4 _ rfl)
      have e5 : wo1.cell? ⟨b1, off1 + k1 * 13 + 5, none⟩ = some (.slice aqf_1 nqf_1 cqf_1) := cell_later HB1.out (hc 5 _ rfl)
      have e6 : wo1.cell? ⟨b1, off1 + k1 * 13 + 6, none⟩ = some (.slice aqg_1 nqg_1 cqg_1) := cell_later HB1.out (hc 6 _ rfl)
      have e7 : wo1.cell? ⟨b1, off1 + k1 * 13 + 7, none⟩ = some (.slice aqh_1 nqh_1 cqh_1) := cell_later HB1.out (hc 7 _ rfl)
      have e8 : wo1.cell? ⟨b1, off1 + k1 * 13 + 8, none⟩ = some (.slice aqi_1 nqi_1 cqi_1) := cell_later HB1.out (hc 8 _ rfl)
      have e9 : wo1.cell? ⟨b1, off1 + k1 * 13 + 9, none⟩ = some (.slice aqj_1 nqj_1 cqj_1) := cell_later HB1.out (hc 9 _ rfl)
      have e10 : wo1.cell? ⟨b1, off1 + k1 * 13 + 10, none⟩ = some (.int .i64 qk_1) := cell_later HB1.out (hc 10 _ rfl)
      have e11 : wo1.cell? ⟨b1, off1 + k1 * 13 + 11, none⟩ = some (.int .i64 ql_1) := cell_later HB1.out (hc 11 _ rfl)
      have e12 : wo1.cell? ⟨b1, off1 + k1 * 13 + 12, none⟩ = some (.int .i64 qm_1) := cell_later HB1.out (hc 12 _ rfl)
      have HQ1 : Hid (((szPartition ⟨qa_1, qb_1, qc_1, qd_1, qe_1, qf_1, qg_1, qh_1, qi_1, qj_1, qk_1, ql_1, qm_1⟩ : Nat) : Int) = (nqb_1 : Int) + (nqc_1 : Int) + (nqd_1 : Int) + (nqe_1 : Int) + (nqf_1 : Int) + (nqg_1 : Int) + (nqh_1 : Int) + (nqi_1 : Int) + (nqj_1 : Int)) := by unfold Hid szPartition; dsimp only; rw [HNqb_1.out, HNqc_1.out, HNqd_1.out, HNqe_1.out, HNqf_1.out, HNqg_1.out, HNqh_1.out, HNqi_1.out, HNqj_1.out]; omega
      clear hc hlt hx
      go_wp2_with fail
      go_roundw
      case rel =>
        have Q : SzRel szPartition nqb s0 (5 * rowMax) qb W0 (.int .i64 ((s1 : Int) + (nqb_1 : Int) + (nqc_1 : Int) + (nqd_1 : Int) + (nqe_1 : Int) + (nqf_1 : Int) + (nqg_1 : Int) + (nqh_1 : Int) + (nqi_1 : Int) + (nqj_1 : Int))) (.int .i64 ((k1 : Int) + 1)) (wo1.alloc (.cells #[.string qa_1, .slice aqb_1 nqb_1 cqb_1, .slice aqc_1 nqc_1 cqc_1, .slice aqd_1 nqd_1 cqd_1, .slice aqe_1 nqe_1 cqe_1, .slice aqf_1 nqf_1 cqf_1, .slice aqg_1 nqg_1 cqg_1, .slice aqh_1 nqh_1 cqh_1, .slice aqi_1 nqi_1 cqi_1, .slice aqj_1 nqj_1 cqj_1, .int .i64 qk_1, .int .i64 ql_1, .int .i64 qm_1] 52)) := ⟨⟨k1 + 1, s1 + szPartition ⟨qa_1, qb_1, qc_1, qd_1, qe_1, qf_1, qg_1, qh_1, qi_1, qj_1, qk_1, ql_1, qm_1⟩, HX1.out, congrArg (Value.int .i64) (by have := HQ1.out; omega), by go_num, by
        have := take_snoc_map szPartition HXS1.out
        rw [this, HS1.out]; omega, by have := HSL1.out; have := HQL1.out; rw [Nat.add_mul]; omega, (HB1.out.alloc HB1.out.size _)⟩⟩
        first | exact Q | ((repeat apply Exists.intro); exact ⟨Q, rfl⟩)
      case measure => have := HX1.out; simp [intOf]; omega
    · have hkI1 : ¬ (k1 : Int) < (nqb : Int) := by omega
      have HSUM1 : Hid (s1 = s0 + (qb.map szPartition).sum) := by
        have := HS1.out
        rwa [List.take_of_length_le (by have := HNqb.out; omega)] at this
      have HB02 : Hid (s1 ≤ 5 * rowMax + 100 * (9 * rowMax)) := by
        have h1 := HSL1.out
        have : k1 * (9 * rowMax) ≤ 100 * (9 * rowMax) := Nat.mul_le_mul_right _ (by have := HLqb.out; have := HNqb.out; have := HK1.out; omega)
        unfold Hid; omega
      have HBw2 := HB1
      clear hlt hs91
      go_wp2_with fail
      go_loopw [3, 6] (fun v3 v wr => SzRel szSchedule nqc s1 (5 * rowMax + 100 * (9 * rowMax)) qc W0 v3 v wr) (fun _ v => fun _ => nqc - (intOf v).toNat)
      case atStart => exact ⟨⟨0, s1, Nat.zero_le _, rfl, rfl, by simp, by have := HB02.out; omega, HBw2.out⟩⟩
      case round =>
        clear HBw2
        obtain ⟨⟨k2, s2, hk, rfl, rfl, hs, hsl, hb⟩⟩ := hrel
        obtain ⟨wo2, hwo⟩ : ∃ wo, wo = wr := ⟨_, rfl⟩
        subst hwo
        have HK2 := Lib.hid hk
        have HS2 := Lib.hid hs
        have HSL2 := Lib.hid hsl
        have HB2 := Lib.hid hb
        have hs92 : (s2 : Int) ≤ 100000000000000000 := by have := HLqc.out; have := HNqc.out; have : k2 * (9 * rowMax) ≤ 100 * (9 * rowMax) := Nat.mul_le_mul_right _ (by omega); unfold rowMax at this hsl; omega
        clear hk hs hb hsl
        have d0 := cell_later HB2.out (HC.out 0 _ rfl)
        have d1 := cell_later HB2.out (HC.out 1 _ rfl)
        have d2 := cell_later HB2.out (HC.out 2 _ rfl)
        have d3 := cell_later HB2.out (HC.out 3 _ rfl)
        have d4 := cell_later HB2.out (HC.out 4 _ rfl)
        have d5 := cell_later HB2.out (HC.out 5 _ rfl)
        have d6 := cell_later HB2.out (HC.out 6 _ rfl)
        by_cases hlt : k2 < nqc
        · have hkI2 : (k2 : Int) < (nqc : Int) := by omega
          have hk92 : (k2 : Int) ≤ 100 := by have := HLqc.out; have := HNqc.out; omega
          have HX2 : Hid (k2 < nqc) := hlt
          obtain ⟨hnx, b2, off2, x, cs, hax, hbl, hx, hR, _, hc⟩ := HRqc.out.at_ k2 hlt
          clear hnx hbl
          subst hax
          have HXS2 := Lib.hid hx
          have hq := szSchedule_le hR
          have HQL2 := Lib.hid hq
          clear hq
          obtain ⟨qa_2, qb_2, qc_2⟩ := x
          obtain ⟨vqc_2, rfl, _, hqc_2⟩ := hR
          obtain ⟨aqc_2, cqc_2, rfl, hmqc_2⟩ := hqc_2.form
          obtain ⟨nqc_2, hnqc_2⟩ : ∃ n, qc_2.length = n := ⟨_, rfl⟩
          rw [hnqc_2] at hmqc_2 hc
          have HNqc_2 := Lib.hid hnqc_2
          unfold rowMax at hmqc_2
          clear hnqc_2 hqc_2
          have e0 : wo2.cell? ⟨b2, off2 + k2 * 3, none⟩ = some (.string qa_2) := cell_later HB2.out (hc 0 _ rfl)
          have e1 : wo2.cell? ⟨b2, off2 + k2 * 3 + 1, none⟩ = some (.int .i64 qb_2) := cell_later HB2.out (hc 1 _ rfl)
          have e2 : wo2.cell? ⟨b2, off2 + k2 * 3 + 2, none⟩ = some (.slice aqc_2 nqc_2 cqc_2) := cell_later HB2.out (hc 2 _ rfl)
          have HQ2 : Hid (((szSchedule ⟨qa_2, qb_2, qc_2⟩ : Nat) : Int) = (nqc_2 : Int)) := by unfold Hid szSchedule; dsimp only; rw [HNqc_2.out]
          clear hc hlt hx
          go_wp2_with fail
          go_roundw
          case rel =>
            have Q : SzRel szSchedule nqc s1 (5 * rowMax + 100 * (9 * rowMax)) qc W0 (.int .i64 ((s2 : Int) + (nqc_2 : Int))) (.int .i64 ((k2 : Int) + 1)) wo2 := ⟨⟨k2 + 1, s2 + szSchedule ⟨qa_2, qb_2, qc_2⟩, HX2.out, congrArg (Value.int .i64) (by have := HQ2.out; omega), by go_num, by
        have := take_snoc_map szSchedule HXS2.out
        rw [this, HS2.out]; omega, by have := HSL2.out; have := HQL2.out; rw [Nat.add_mul]; omega, HB2.out⟩⟩
            first | exact Q | ((repeat apply Exists.intro); exact ⟨Q, rfl⟩)
          case measure => have := HX2.out; simp [intOf]; omega
        · have hkI2 : ¬ (k2 : Int) < (nqc : Int) := by omega
          have HSUM2 : Hid (s2 = s1 + (qc.map szSchedule).sum) := by
            have := HS2.out
            rwa [List.take_of_length_le (by have := HNqc.out; omega)] at this
          have HB03 : Hid (s2 ≤ 5 * rowMax + 100 * (9 * rowMax) + 100 * (9 * rowMax)) := by
            have h1 := HSL2.out
            have : k2 * (9 * rowMax) ≤ 100 * (9 * rowMax) := Nat.mul_le_mul_right _ (by have := HLqc.out; have := HNqc.out; have := HK2.out; omega)
            unfold Hid; omega
          have HBw3 := HB2
          clear hlt hs92
          go_wp2_with fail
          go_loopw [3, 7] (fun v3 v wr => SzRel szChannel nqe s2 (5 * rowMax + 100 * (9 * rowMax) + 100 * (9 * rowMax)) qe W0 v3 v wr) (fun _ v => fun _ => nqe - (intOf v).toNat)
          case atStart => exact ⟨⟨0, s2, Nat.zero_le _, rfl, rfl, by simp, by have := HB03.out; omega, HBw3.out⟩⟩
          case round =>
            clear HBw3
            obtain ⟨⟨k3, s3, hk, rfl, rfl, hs, hsl, hb⟩⟩ := hrel
            obtain ⟨wo3, hwo⟩ : ∃ wo, wo = wr := ⟨_, rfl⟩
            subst hwo
            have HK3 := Lib.hid hk
            have HS3 := Lib.hid hs
            have HSL3 := Lib.hid hsl
            have HB3 := Lib.hid hb
            have hs93 : (s3 : Int) ≤ 100000000000000000 := by have := HLqe.out; have := HNqe.out; have : k3 * (9 * rowMax) ≤ 100 * (9 * rowMax) := Nat.mul_le_mul_right _ (by omega); unfold rowMax at this hsl; omega
            clear hk hs hb hsl
            have d0 := cell_later HB3.out (HC.out 0 _ rfl)
            have d1 := cell_later HB3.out (HC.out 1 _ rfl)
            have d2 := cell_later HB3.out (HC.out 2 _ rfl)
            have d3 := cell_later HB3.out (HC.out 3 _ rfl)
            have d4 := cell_later HB3.out (HC.out 4 _ rfl)
            have d5 := cell_later HB3.out (HC.out 5 _ rfl)
            have d6 := cell_later HB3.out (HC.out 6 _ rfl)
            by_cases hlt : k3 < nqe
            · have hkI3 : (k3 : Int) < (nqe : Int) := by omega
              have hk93 : (k3 : Int) ≤ 100 := by have := HLqe.out; have := HNqe.out; omega
              have HX3 : Hid (k3 < nqe) := hlt
              obtain ⟨hnx, b3, off3, x, cs, hax, hbl, hx, hR, _, hc⟩ := HRqe.out.at_ k3 hlt
              clear hnx hbl
              subst hax
              have HXS3 := Lib.hid hx
              have hq := szChannel_le hR
              have HQL3 := Lib.hid hq
              clear hq
              obtain ⟨qa_3, qb_3, qc_3⟩ := x
              obtain ⟨vqc_3, rfl, hqc_3⟩ := hR
              obtain ⟨aqc_3, cqc_3, rfl, hmqc_3⟩ := hqc_3.form
              obtain ⟨nqc_3, hnqc_3⟩ : ∃ n, qc_3.length = n := ⟨_, rfl⟩
              rw [hnqc_3] at hmqc_3 hc
              have HNqc_3 := Lib.hid hnqc_3
              unfold rowMax at hmqc_3
              clear hnqc_3 hqc_3
              have e0 : wo3.cell? ⟨b3, off3 + k3 * 3, none⟩ = some (.int .i64 qa_3) := cell_later HB3.out (hc 0 _ rfl)
              have e1 : wo3.cell? ⟨b3, off3 + k3 * 3 + 1, none⟩ = some (.int .i64 qb_3) := cell_later HB3.out (hc 1 _ rfl)
              have e2 : wo3.cell? ⟨b3, off3 + k3 * 3 + 2, none⟩ = some (.slice aqc_3 nqc_3 cqc_3) := cell_later HB3.out (hc 2 _ rfl)
              have HQ3 : Hid (((szChannel ⟨qa_3, qb_3, qc_3⟩ : Nat) : Int) = (nqc_3 : Int)) := by unfold Hid szChannel; dsimp only; rw [HNqc_3.out]
              clear hc hlt hx
              go_wp2_with fail
              go_roundw
              case rel =>
                have Q : SzRel szChannel nqe s2 (5 * rowMax + 100 * (9 * rowMax) + 100 * (9 * rowMax)) qe W0 (.int .i64 ((s3 : Int) + (nqc_3 : Int))) (.int .i64 ((k3 : Int) + 1)) wo3 := ⟨⟨k3 + 1, s3 + szChannel ⟨qa_3, qb_3, qc_3⟩, HX3.out, congrArg (Value.int .i64) (by have := HQ3.out; omega), by go_num, by
        have := take_snoc_map szChannel HXS3.out
        rw [this, HS3.out]; omega, by have := HSL3.out; have := HQL3.out; rw [Nat.add_mul]; omega, HB3.out⟩⟩
                first | exact Q | ((repeat apply Exists.intro); exact ⟨Q, rfl⟩)
              case measure => have := HX3.out; simp [intOf]; omega
            · have hkI3 : ¬ (k3 : Int) < (nqe : Int) := by omega
              have HSUM3 : Hid (s3 = s2 + (qe.map szChannel).sum) := by
                have := HS3.out
                rwa [List.take_of_length_le (by have := HNqe.out; omega)] at this
              have HB04 : Hid (s3 ≤ 5 * rowMax + 100 * (9 * rowMax) + 100 * (9 * rowMax) + 100 * (9 * rowMax)) := by
                have h1 := HSL3.out
                have : k3 * (9 * rowMax) ≤ 100 * (9 * rowMax) := Nat.mul_le_mul_right _ (by have := HLqe.out; have := HNqe.out; have := HK3.out; omega)
                unfold Hid; omega
              have HBw4 := HB3
              clear hlt hs93
              have HF : Hid (s3 = r) := by
                unfold Hid
                rw [← HRES.out, HSUM3.out, HSUM2.out, HSUM1.out, ← HS0.out]
                unfold szModule
                dsimp only
                rw [HNqb.out, HNqc.out, HNqe.out, HNqf.out, HNqg.out]
                omega
              go_wp2_with fail
              go_ret
              exact ⟨by rw [HF.out]; rfl, BW.out.trans (HBw4.out.mono BW.out.size)⟩
/-- Has a module no more things than are looked at? -/
def fewB (x : MModule) : Bool := decide (x.qb.length ≤ 40) && decide (x.qc.length ≤ 20) && decide (x.qe.length ≤ 60) && decide (x.qf.length ≤ 60) && decide (szModule x ≤ 1000)
set_option maxRecDepth 100000 in
set_option maxHeartbeats 8000000 in
theorem few_core (qa : ByteArray) (qb : List MPartition) (qc : List MSchedule) (qd : Int) (qe : List MChannel) (qf : List MLink) (qg : List MRule) (vqb vqc vqe vqf vqg : Value) (w : World) (hqb : Row w 13 (RPartition w) vqb qb) (hqc : Row w 3 (RSchedule w) vqc qc) (hqe : Row w 3 (RChannel w) vqe qe) (hqf : Row w 3 RLink vqf qf) (hqg : Row w 3 RRule vqg qg) :
    Calls Try.prog 10 #[.agg #[.string qa, vqb, vqc, .int .i64 qd, vqe, vqf, vqg]] w fun e w' => e = .returned (.bool (fewB ⟨qa, qb, qc, qd, qe, qf, qg⟩)) ∧ Below w.heap.size w w' := by
  obtain ⟨aqb, cqb, rfl, hmqb⟩ := hqb.form
  obtain ⟨nqb, hnqb⟩ : ∃ n, qb.length = n := ⟨_, rfl⟩
  rw [hnqb] at hqb hmqb ⊢
  have HNqb := Lib.hid hnqb
  unfold rowMax at hmqb
  clear hnqb
  obtain ⟨aqc, cqc, rfl, hmqc⟩ := hqc.form
  obtain ⟨nqc, hnqc⟩ : ∃ n, qc.length = n := ⟨_, rfl⟩
  rw [hnqc] at hqc hmqc ⊢
  have HNqc := Lib.hid hnqc
  unfold rowMax at hmqc
  clear hnqc
  obtain ⟨aqe, cqe, rfl, hmqe⟩ := hqe.form
  obtain ⟨nqe, hnqe⟩ : ∃ n, qe.length = n := ⟨_, rfl⟩
  rw [hnqe] at hqe hmqe ⊢
  have HNqe := Lib.hid hnqe
  unfold rowMax at hmqe
  clear hnqe
  obtain ⟨aqf, cqf, rfl, hmqf⟩ := hqf.form
  obtain ⟨nqf, hnqf⟩ : ∃ n, qf.length = n := ⟨_, rfl⟩
  rw [hnqf] at hqf hmqf ⊢
  have HNqf := Lib.hid hnqf
  unfold rowMax at hmqf
  clear hnqf
  obtain ⟨aqg, cqg, rfl, hmqg⟩ := hqg.form
  obtain ⟨nqg, hnqg⟩ : ∃ n, qg.length = n := ⟨_, rfl⟩
  rw [hnqg] at hqg hmqg ⊢
  have HNqg := Lib.hid hnqg
  unfold rowMax at hmqg
  clear hnqg
  clear hmqb hmqc hmqe hmqf hmqg
  have HF : Hid (∀ b : Bool, (decide (nqb ≤ 40) && decide (nqc ≤ 20) && decide (nqe ≤ 60) && decide (nqf ≤ 60) && decide (szModule ⟨qa, qb, qc, qd, qe, qf, qg⟩ ≤ 1000)) = b → fewB ⟨qa, qb, qc, qd, qe, qf, qg⟩ = b) := fun b h => by rw [← h]; unfold fewB; dsimp only; rw [HNqb.out, HNqc.out, HNqe.out, HNqf.out]
  by_cases gnqb : 40 < nqb
  · have gnqbI : (40 : Int) < (nqb : Int) := by omega
    have HE : Hid (fewB ⟨qa, qb, qc, qd, qe, qf, qg⟩ = false) := HF.out false (by simp; omega)
    clear hqb hqc hqe hqf hqg gnqb
    go_enter Try.func10, Try.ntmps10
    go_wp2_with fail
    go_ret
    exact ⟨by rw [HE.out]; rfl, (Below.refl _ _).alloc (Nat.le_refl _) _⟩
  have gnqbI : ¬ (40 : Int) < (nqb : Int) := by omega
  by_cases gnqc : 20 < nqc
  · have gnqcI : (20 : Int) < (nqc : Int) := by omega
    have HE : Hid (fewB ⟨qa, qb, qc, qd, qe, qf, qg⟩ = false) := HF.out false (by simp; omega)
    clear hqb hqc hqe hqf hqg gnqb gnqc
    go_enter Try.func10, Try.ntmps10
    go_wp2_with fail
    go_ret
    exact ⟨by rw [HE.out]; rfl, (Below.refl _ _).alloc (Nat.le_refl _) _⟩
  have gnqcI : ¬ (20 : Int) < (nqc : Int) := by omega
  by_cases gnqe : 60 < nqe
  · have gnqeI : (60 : Int) < (nqe : Int) := by omega
    have HE : Hid (fewB ⟨qa, qb, qc, qd, qe, qf, qg⟩ = false) := HF.out false (by simp; omega)
    clear hqb hqc hqe hqf hqg gnqb gnqc gnqe
    go_enter Try.func10, Try.ntmps10
    go_wp2_with fail
    go_ret
    exact ⟨by rw [HE.out]; rfl, (Below.refl _ _).alloc (Nat.le_refl _) _⟩
  have gnqeI : ¬ (60 : Int) < (nqe : Int) := by omega
  by_cases gnqf : 60 < nqf
  · have gnqfI : (60 : Int) < (nqf : Int) := by omega
    have HE : Hid (fewB ⟨qa, qb, qc, qd, qe, qf, qg⟩ = false) := HF.out false (by simp; omega)
    clear hqb hqc hqe hqf hqg gnqb gnqc gnqe gnqf
    go_enter Try.func10, Try.ntmps10
    go_wp2_with fail
    go_ret
    exact ⟨by rw [HE.out]; rfl, (Below.refl _ _).alloc (Nat.le_refl _) _⟩
  have gnqfI : ¬ (60 : Int) < (nqf : Int) := by omega
  have BZ : Below w.heap.size w (w.alloc (.cells #[.string qa, .slice aqb nqb cqb, .slice aqc nqc cqc, .int .i64 qd, .slice aqe nqe cqe, .slice aqf nqf cqf, .slice aqg nqg cqg] 30)) := (Below.refl _ _).alloc (Nat.le_refl _) _
  have C := Lib.hid (rsize_core qa qb qc qd qe qf qg (.slice aqb nqb cqb) (.slice aqc nqc cqc) (.slice aqe nqe cqe) (.slice aqf nqf cqf) (.slice aqg nqg cqg) _ (hqb.keep BZ (fun _ _ h => h.below BZ)) (hqc.keep BZ (fun _ _ h => h.below BZ)) (hqe.keep BZ (fun _ _ h => h.below BZ)) (hqf.below BZ) (hqg.below BZ) (by rw [HNqb.out]; omega) (by rw [HNqc.out]; omega) (by rw [HNqe.out]; omega))
  obtain ⟨z, hz⟩ : ∃ z, szModule ⟨qa, qb, qc, qd, qe, qf, qg⟩ = z := ⟨_, rfl⟩
  rw [hz] at C
  have HE : Hid (fewB ⟨qa, qb, qc, qd, qe, qf, qg⟩ = decide (z ≤ 1000)) := HF.out _ (by rw [← hz, decide_eq_true (show nqb ≤ 40 by omega), decide_eq_true (show nqc ≤ 20 by omega), decide_eq_true (show nqe ≤ 60 by omega), decide_eq_true (show nqf ≤ 60 by omega)]; rfl)
  clear BZ HF hz hqb hqc hqe hqf hqg gnqb gnqc gnqe gnqf
  go_enter Try.func10, Try.ntmps10
  go_wp2_with fail
  refine C.out.mono ?_
  rintro e W1 ⟨rfl, b1⟩
  have HB1 : Hid (Below w.heap.size w W1) := ((Below.refl _ _).alloc (Nat.le_refl _) _).trans (b1.mono (by simp))
  clear b1 C
  go_wp2_with fail
  go_ret
  have he : decide ((z : Int) ≤ 1000) = decide (z ≤ 1000) := by rw [decide_eq_decide]; omega
  refine ⟨?_, HB1.out⟩
  show Ending.returned (.bool (decide ((z : Int) ≤ 1000))) = _
  rw [HE.out, he]
end Go.Proofs.Ytchlgihanogeeaa
