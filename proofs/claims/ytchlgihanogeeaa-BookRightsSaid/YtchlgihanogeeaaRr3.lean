/-
  What the program's Right answers in the reference: a partition. Each statement bears its own conditions.
-/
import Derived.Test.YtchlgihanogeeaaRr2
import Derived.Test.YtchlgihanogeeaaR5
namespace Go.Proofs.Ytchlgihanogeeaa
open Go.RowKit
set_option linter.unusedVariables false
set_option linter.unusedSimpArgs false
set_option maxRecDepth 100000 in
set_option maxHeartbeats 16000000 in
theorem rpartition_any (qa : ByteArray) (qb : List MArea) (qc : List MTask) (qd : List MLock) (qe : List MSema) (qf : List MEvent) (qg : List MBoard) (qh : List MBuffer) (qi : List MPort) (qj : List MRule) (qk : Int) (ql : Int) (qm : Int) (vqb vqc vqd vqe vqf vqg vqh vqi vqj : Value) (w : World) (hsqa : qa.size ≤ maxLen) (hqb : Row w 6 RArea vqb qb) (hqc : Row w 8 RTask vqc qc) (hqd : Row w 2 RLock vqd qd) (hqe : Row w 4 RSema vqe qe) (hqf : Row w 1 REvent vqf qf) (hqg : Row w 2 RBoard vqg qg) (hqh : Row w 4 RBuffer vqh qh) (hqi : Row w 6 RPort vqi qi) (hqj : Row w 3 RRule vqj qj) :
    Calls Try.prog 41 #[.agg #[.string qa, vqb, vqc, vqd, vqe, vqf, vqg, vqh, vqi, vqj, .int .i64 qk, .int .i64 ql, .int .i64 qm]] w fun e w' => e = .returned (.bool (rightPartition ⟨qa, qb, qc, qd, qe, qf, qg, qh, qi, qj, qk, ql, qm⟩)) ∧ Below w.heap.size w w' := by
  obtain ⟨aqb, cqb, rfl, hmqb⟩ := hqb.form
  obtain ⟨nqb, hnqb⟩ : ∃ n, qb.length = n := ⟨_, rfl⟩
  rw [hnqb] at hqb hmqb ⊢
  unfold rowMax at hmqb
  have HNqb := Lib.hid hnqb
  have HMqb := Lib.hid hmqb
  clear hnqb hmqb
  obtain ⟨aqc, cqc, rfl, hmqc⟩ := hqc.form
  obtain ⟨nqc, hnqc⟩ : ∃ n, qc.length = n := ⟨_, rfl⟩
  rw [hnqc] at hqc hmqc ⊢
  unfold rowMax at hmqc
  have HNqc := Lib.hid hnqc
  have HMqc := Lib.hid hmqc
  clear hnqc hmqc
  obtain ⟨aqd, cqd, rfl, hmqd⟩ := hqd.form
  obtain ⟨nqd, hnqd⟩ : ∃ n, qd.length = n := ⟨_, rfl⟩
  rw [hnqd] at hqd hmqd ⊢
  unfold rowMax at hmqd
  have HNqd := Lib.hid hnqd
  have HMqd := Lib.hid hmqd
  clear hnqd hmqd
  obtain ⟨aqe, cqe, rfl, hmqe⟩ := hqe.form
  obtain ⟨nqe, hnqe⟩ : ∃ n, qe.length = n := ⟨_, rfl⟩
  rw [hnqe] at hqe hmqe ⊢
  unfold rowMax at hmqe
  have HNqe := Lib.hid hnqe
  have HMqe := Lib.hid hmqe
  clear hnqe hmqe
  obtain ⟨aqf, cqf, rfl, hmqf⟩ := hqf.form
  obtain ⟨nqf, hnqf⟩ : ∃ n, qf.length = n := ⟨_, rfl⟩
  rw [hnqf] at hqf hmqf ⊢
  unfold rowMax at hmqf
  have HNqf := Lib.hid hnqf
  have HMqf := Lib.hid hmqf
  clear hnqf hmqf
  obtain ⟨aqg, cqg, rfl, hmqg⟩ := hqg.form
  obtain ⟨nqg, hnqg⟩ : ∃ n, qg.length = n := ⟨_, rfl⟩
  rw [hnqg] at hqg hmqg ⊢
  unfold rowMax at hmqg
  have HNqg := Lib.hid hnqg
  have HMqg := Lib.hid hmqg
  clear hnqg hmqg
  obtain ⟨aqh, cqh, rfl, hmqh⟩ := hqh.form
  obtain ⟨nqh, hnqh⟩ : ∃ n, qh.length = n := ⟨_, rfl⟩
  rw [hnqh] at hqh hmqh ⊢
  unfold rowMax at hmqh
  have HNqh := Lib.hid hnqh
  have HMqh := Lib.hid hmqh
  clear hnqh hmqh
  obtain ⟨aqi, cqi, rfl, hmqi⟩ := hqi.form
  obtain ⟨nqi, hnqi⟩ : ∃ n, qi.length = n := ⟨_, rfl⟩
  rw [hnqi] at hqi hmqi ⊢
  unfold rowMax at hmqi
  have HNqi := Lib.hid hnqi
  have HMqi := Lib.hid hmqi
  clear hnqi hmqi
  obtain ⟨aqj, cqj, rfl, hmqj⟩ := hqj.form
  obtain ⟨nqj, hnqj⟩ : ∃ n, qj.length = n := ⟨_, rfl⟩
  rw [hnqj] at hqj hmqj ⊢
  unfold rowMax at hmqj
  have HNqj := Lib.hid hnqj
  have HMqj := Lib.hid hmqj
  clear hnqj hmqj
  obtain ⟨r, hr⟩ : ∃ r, rightPartition ⟨qa, qb, qc, qd, qe, qf, qg, qh, qi, qj, qk, ql, qm⟩ = r := ⟨_, rfl⟩
  rw [hr]
  have HB0r : Hid (nameB qa = false → r = false) := fun h => by rw [← hr]; unfold rightPartition rightBudget; dsimp only; rw [h]; simp
  have HB1r : Hid (inB qk 0 1000 = false → r = false) := fun h => by rw [← hr]; unfold rightPartition rightBudget; dsimp only; rw [h]; simp
  have HB2r : Hid (inB ql 0 1048576 = false → r = false) := fun h => by rw [← hr]; unfold rightPartition rightBudget; dsimp only; rw [h]; simp
  have HB3r : Hid (inB qm 0 1048576 = false → r = false) := fun h => by rw [← hr]; unfold rightPartition rightBudget; dsimp only; rw [h]; simp
  have HB4r : Hid (allB 16 rightArea qb = false → r = false) := fun h => by rw [← hr]; unfold rightPartition rightBudget; dsimp only; rw [h]; simp
  have HB5r : Hid (allB 16 rightTask qc = false → r = false) := fun h => by rw [← hr]; unfold rightPartition rightBudget; dsimp only; rw [h]; simp
  have HB6r : Hid (allB 16 rightLock qd = false → r = false) := fun h => by rw [← hr]; unfold rightPartition rightBudget; dsimp only; rw [h]; simp
  have HB7r : Hid (allB 16 rightSema qe = false → r = false) := fun h => by rw [← hr]; unfold rightPartition rightBudget; dsimp only; rw [h]; simp
  have HB8r : Hid (allB 16 rightEvent qf = false → r = false) := fun h => by rw [← hr]; unfold rightPartition rightBudget; dsimp only; rw [h]; simp
  have HB9r : Hid (allB 16 rightBoard qg = false → r = false) := fun h => by rw [← hr]; unfold rightPartition rightBudget; dsimp only; rw [h]; simp
  have HB10r : Hid (allB 16 rightBuffer qh = false → r = false) := fun h => by rw [← hr]; unfold rightPartition rightBudget; dsimp only; rw [h]; simp
  have HB11r : Hid (allB 16 rightPort qi = false → r = false) := fun h => by rw [← hr]; unfold rightPartition rightBudget; dsimp only; rw [h]; simp
  have HB12r : Hid (allB 32 rightRule qj = false → r = false) := fun h => by rw [← hr]; unfold rightPartition rightBudget; dsimp only; rw [h]; simp
  have HGr : Hid (nameB qa = true → inB qk 0 1000 = true → inB ql 0 1048576 = true → inB qm 0 1048576 = true → allB 16 rightArea qb = true → allB 16 rightTask qc = true → allB 16 rightLock qd = true → allB 16 rightSema qe = true → allB 16 rightEvent qf = true → allB 16 rightBoard qg = true → allB 16 rightBuffer qh = true → allB 16 rightPort qi = true → allB 32 rightRule qj = true → r = true) := by
    intro z0 z1 z2 z3 z4 z5 z6 z7 z8 z9 z10 z11 z12
    rw [← hr]; unfold rightPartition rightBudget; dsimp only; rw [z0, z1, z2, z3, z4, z5, z6, z7, z8, z9, z10, z11, z12]; rfl
  clear hr
  obtain ⟨tqa, hqat⟩ : ∃ t : Bool, nameB qa = t := ⟨_, rfl⟩
  have HTqa := Lib.hid hqat
  have Cqa : Hid (∀ W, Calls Try.prog 9 #[.string qa] W fun e w' => e = .returned (.bool tqa) ∧ w' = W) := fun W => by rw [← hqat]; exact rname_any qa W hsqa
  clear hqat
  obtain ⟨tqj, hqjt⟩ : ∃ t : Bool, allB 32 rightRule qj = t := ⟨_, rfl⟩
  have HTqj := Lib.hid hqjt
  have Cqj : Hid (∀ W, Below w.heap.size w W → Calls Try.prog 40 #[.slice aqj nqj cqj] W fun e w' => e = .returned (.bool tqj) ∧ Below W.heap.size W w') := fun W hB => by rw [← hqjt]; exact rrules_any _ qj W (hqj.below hB)
  clear hqjt
  obtain ⟨tqk, hqkt⟩ : ∃ t : Bool, inB qk 0 1000 = t := ⟨_, rfl⟩
  have HTqk := Lib.hid hqkt
  have Cqk : Hid (∀ W, Calls Try.prog 39 #[.int .i64 qk, .int .i64 0, .int .i64 1000] W fun e w' => e = .returned (.bool tqk) ∧ w' = W) := fun W => by rw [← hqkt]; exact rin_any qk _ _ W
  clear hqkt
  obtain ⟨tql, hqlt⟩ : ∃ t : Bool, inB ql 0 1048576 = t := ⟨_, rfl⟩
  have HTql := Lib.hid hqlt
  have Cql : Hid (∀ W, Calls Try.prog 39 #[.int .i64 ql, .int .i64 0, .int .i64 1048576] W fun e w' => e = .returned (.bool tql) ∧ w' = W) := fun W => by rw [← hqlt]; exact rin_any ql _ _ W
  clear hqlt
  obtain ⟨tqm, hqmt⟩ : ∃ t : Bool, inB qm 0 1048576 = t := ⟨_, rfl⟩
  have HTqm := Lib.hid hqmt
  have Cqm : Hid (∀ W, Calls Try.prog 39 #[.int .i64 qm, .int .i64 0, .int .i64 1048576] W fun e w' => e = .returned (.bool tqm) ∧ w' = W) := fun W => by rw [← hqmt]; exact rin_any qm _ _ W
  clear hqmt
  have HSQ := Lib.hid hsqa
  clear hsqa
  obtain ⟨ts, hts⟩ : ∃ t : Bool, (qg.all rightBoard && qh.all rightBuffer && qi.all rightPort) = t := ⟨_, rfl⟩
  have HTS := Lib.hid hts
  have CS : Hid (∀ W, Below w.heap.size w W → qg.length ≤ 16 → qh.length ≤ 16 → qi.length ≤ 16 → Calls Try.prog 103 #[.agg #[.string qa, .slice aqb nqb cqb, .slice aqc nqc cqc, .slice aqd nqd cqd, .slice aqe nqe cqe, .slice aqf nqf cqf, .slice aqg nqg cqg, .slice aqh nqh cqh, .slice aqi nqi cqi, .slice aqj nqj cqj, .int .i64 qk, .int .i64 ql, .int .i64 qm]] W fun e w' => e = .returned (.bool ts) ∧ Below W.heap.size W w') := fun W hB l1 l2 l3 => by
    rw [← hts]
    exact rspoken_any qa qb qc qd qe qf qg qh qi qj qk ql qm _ _ _ _ _ _ _ _ _ W HSQ.out (hqb.below hB) (hqc.below hB) (hqd.below hB) (hqe.below hB) (hqf.below hB) (hqg.below hB) (hqh.below hB) (hqi.below hB) (hqj.below hB) l1 l2 l3
  clear hts
  go_enter Try.func41, Try.ntmps41
  go_wp2_with fail
  obtain ⟨W0, hW0⟩ : ∃ W0, w.alloc (.cells #[.string qa, .slice aqb nqb cqb, .slice aqc nqc cqc, .slice aqd nqd cqd, .slice aqe nqe cqe, .slice aqf nqf cqf, .slice aqg nqg cqg, .slice aqh nqh cqh, .slice aqi nqi cqi, .slice aqj nqj cqj, .int .i64 qk, .int .i64 ql, .int .i64 qm] 52) = W0 := ⟨_, rfl⟩
  obtain ⟨g0, hg0⟩ : ∃ g, w.heap.size = g := ⟨_, rfl⟩
  have HC0 : Hid (Cells W0 g0 [.string qa, .slice aqb nqb cqb, .slice aqc nqc cqc, .slice aqd nqd cqd, .slice aqe nqe cqe, .slice aqf nqf cqf, .slice aqg nqg cqg, .slice aqh nqh cqh, .slice aqi nqi cqi, .slice aqj nqj cqj, .int .i64 qk, .int .i64 ql, .int .i64 qm]) := fun j u hu => by rw [← hW0, ← hg0, World.cell?_alloc_new]; simpa using hu
  have BW : Hid (Below w.heap.size w W0) := by rw [← hW0]; exact (Below.refl _ _).alloc (Nat.le_refl _) _
  have B0 : Hid (Below W0.heap.size W0 W0) := Below.refl _ _
  have HRqb : Hid (Row W0 6 RArea (.slice aqb nqb cqb) qb) := hqb.below BW.out
  have HRqc : Hid (Row W0 8 RTask (.slice aqc nqc cqc) qc) := hqc.below BW.out
  have HRqd : Hid (Row W0 2 RLock (.slice aqd nqd cqd) qd) := hqd.below BW.out
  have HRqe : Hid (Row W0 4 RSema (.slice aqe nqe cqe) qe) := hqe.below BW.out
  have HRqf : Hid (Row W0 1 REvent (.slice aqf nqf cqf) qf) := hqf.below BW.out
  have HRqg : Hid (Row W0 2 RBoard (.slice aqg nqg cqg) qg) := hqg.below BW.out
  have HRqh : Hid (Row W0 4 RBuffer (.slice aqh nqh cqh) qh) := hqh.below BW.out
  have HRqi : Hid (Row W0 6 RPort (.slice aqi nqi cqi) qi) := hqi.below BW.out
  have HRqj : Hid (Row W0 3 RRule (.slice aqj nqj cqj) qj) := hqj.below BW.out
  have d0 := HC0.out 0 _ rfl
  have d1 := HC0.out 1 _ rfl
  have d2 := HC0.out 2 _ rfl
  have d3 := HC0.out 3 _ rfl
  have d4 := HC0.out 4 _ rfl
  have d5 := HC0.out 5 _ rfl
  have d6 := HC0.out 6 _ rfl
  have d7 := HC0.out 7 _ rfl
  have d8 := HC0.out 8 _ rfl
  have d9 := HC0.out 9 _ rfl
  have d10 := HC0.out 10 _ rfl
  have d11 := HC0.out 11 _ rfl
  have d12 := HC0.out 12 _ rfl
  rw [hW0, hg0]
  clear hW0 hg0 hqb hqc hqd hqe hqf hqg hqh hqi hqj
  refine (Cqa.out _).mono ?_
  rintro e WQ ⟨rfl, h⟩
  have h := h.symm
  subst h
  cases tqa with
  | false =>
    have HF : Hid (r = false) := HB0r.out HTqa.out
    go_wp2_with fail
    go_ret
    exact ⟨by rw [HF.out]; rfl, BW.out.trans (B0.out.mono BW.out.size)⟩
  | true =>
    by_cases hgqb : (16 : Int) < (nqb : Int)
    · have HF : Hid (r = false) := HB4r.out (allB_len HNqb.out hgqb)
      go_wp2_with fail
      go_ret
      exact ⟨by rw [HF.out]; rfl, BW.out.trans (B0.out.mono BW.out.size)⟩
    · have hlqb : (nqb : Int) ≤ 16 := by omega
      have HLqb := Lib.hid hlqb
      clear hgqb
      by_cases hgqc : (16 : Int) < (nqc : Int)
      · have HF : Hid (r = false) := HB5r.out (allB_len HNqc.out hgqc)
        go_wp2_with fail
        go_ret
        exact ⟨by rw [HF.out]; rfl, BW.out.trans (B0.out.mono BW.out.size)⟩
      · have hlqc : (nqc : Int) ≤ 16 := by omega
        have HLqc := Lib.hid hlqc
        clear hgqc
        by_cases hgqd : (16 : Int) < (nqd : Int)
        · have HF : Hid (r = false) := HB6r.out (allB_len HNqd.out hgqd)
          go_wp2_with fail
          go_ret
          exact ⟨by rw [HF.out]; rfl, BW.out.trans (B0.out.mono BW.out.size)⟩
        · have hlqd : (nqd : Int) ≤ 16 := by omega
          have HLqd := Lib.hid hlqd
          clear hgqd
          by_cases hgqe : (16 : Int) < (nqe : Int)
          · have HF : Hid (r = false) := HB7r.out (allB_len HNqe.out hgqe)
            go_wp2_with fail
            go_ret
            exact ⟨by rw [HF.out]; rfl, BW.out.trans (B0.out.mono BW.out.size)⟩
          · have hlqe : (nqe : Int) ≤ 16 := by omega
            have HLqe := Lib.hid hlqe
            clear hgqe
            by_cases hgqf : (16 : Int) < (nqf : Int)
            · have HF : Hid (r = false) := HB8r.out (allB_len HNqf.out hgqf)
              go_wp2_with fail
              go_ret
              exact ⟨by rw [HF.out]; rfl, BW.out.trans (B0.out.mono BW.out.size)⟩
            · have hlqf : (nqf : Int) ≤ 16 := by omega
              have HLqf := Lib.hid hlqf
              clear hgqf
              by_cases hgqg : (16 : Int) < (nqg : Int)
              · have HF : Hid (r = false) := HB9r.out (allB_len HNqg.out hgqg)
                go_wp2_with fail
                go_ret
                exact ⟨by rw [HF.out]; rfl, BW.out.trans (B0.out.mono BW.out.size)⟩
              · have hlqg : (nqg : Int) ≤ 16 := by omega
                have HLqg := Lib.hid hlqg
                clear hgqg
                by_cases hgqh : (16 : Int) < (nqh : Int)
                · have HF : Hid (r = false) := HB10r.out (allB_len HNqh.out hgqh)
                  go_wp2_with fail
                  go_ret
                  exact ⟨by rw [HF.out]; rfl, BW.out.trans (B0.out.mono BW.out.size)⟩
                · have hlqh : (nqh : Int) ≤ 16 := by omega
                  have HLqh := Lib.hid hlqh
                  clear hgqh
                  by_cases hgqi : (16 : Int) < (nqi : Int)
                  · have HF : Hid (r = false) := HB11r.out (allB_len HNqi.out hgqi)
                    go_wp2_with fail
                    go_ret
                    exact ⟨by rw [HF.out]; rfl, BW.out.trans (B0.out.mono BW.out.size)⟩
                  · have hlqi : (nqi : Int) ≤ 16 := by omega
                    have HLqi := Lib.hid hlqi
                    clear hgqi
                    go_wp2_with fail
                    go_loopw [3] (fun v wr => LRel rightArea nqb qb W0 v wr) (fun v => fun _ => nqb - (intOf v).toNat)
                    case atStart => exact LRel.start B0.out
                    case round =>
                      clear B0
                      obtain ⟨⟨k1, hk, rfl, hall, hb⟩⟩ := hrel
                      obtain ⟨wo1, hwo⟩ : ∃ wo, wo = wr := ⟨_, rfl⟩
                      subst hwo
                      have HK1 := Lib.hid hk
                      have HA1 := Lib.hid hall
                      have HB1 := Lib.hid hb
                      clear hk hall hb
                      have d0 := cell_later (HB1.out) (HC0.out 0 _ rfl)
                      have d1 := cell_later (HB1.out) (HC0.out 1 _ rfl)
                      have d2 := cell_later (HB1.out) (HC0.out 2 _ rfl)
                      have d3 := cell_later (HB1.out) (HC0.out 3 _ rfl)
                      have d4 := cell_later (HB1.out) (HC0.out 4 _ rfl)
                      have d5 := cell_later (HB1.out) (HC0.out 5 _ rfl)
                      have d6 := cell_later (HB1.out) (HC0.out 6 _ rfl)
                      have d7 := cell_later (HB1.out) (HC0.out 7 _ rfl)
                      have d8 := cell_later (HB1.out) (HC0.out 8 _ rfl)
                      have d9 := cell_later (HB1.out) (HC0.out 9 _ rfl)
                      have d10 := cell_later (HB1.out) (HC0.out 10 _ rfl)
                      have d11 := cell_later (HB1.out) (HC0.out 11 _ rfl)
                      have d12 := cell_later (HB1.out) (HC0.out 12 _ rfl)
                      by_cases hlt : k1 < nqb
                      · have hkI1 : (k1 : Int) < (nqb : Int) := by omega
                        have HX1 : Hid (k1 < nqb) := hlt
                        obtain ⟨hnx, b1, off1, x, cs, hax, hbl, hx, hR, _, hc⟩ := HRqb.out.at_ k1 hlt
                        clear hnx
                        subst hax
                        have HXS1 := Lib.hid hx
                        obtain ⟨qa_1, qb_1, qc_1, qd_1, qe_1, qf_1⟩ := x
                        obtain ⟨rfl, hsqa_1⟩ := hR
                        have e0_1 : wo1.cell? ⟨b1, off1 + k1 * 6, none⟩ = some (.string qa_1) := cell_later HB1.out (hc 0 _ rfl)
                        have e1_1 : wo1.cell? ⟨b1, off1 + k1 * 6 + 1, none⟩ = some (.int .i64 qb_1) := cell_later HB1.out (hc 1 _ rfl)
                        have e2_1 : wo1.cell? ⟨b1, off1 + k1 * 6 + 2, none⟩ = some (.int .i64 qc_1) := cell_later HB1.out (hc 2 _ rfl)
                        have e3_1 : wo1.cell? ⟨b1, off1 + k1 * 6 + 3, none⟩ = some (.bool qd_1) := cell_later HB1.out (hc 3 _ rfl)
                        have e4_1 : wo1.cell? ⟨b1, off1 + k1 * 6 + 4, none⟩ = some (.bool qe_1) := cell_later HB1.out (hc 4 _ rfl)
                        have e5_1 : wo1.cell? ⟨b1, off1 + k1 * 6 + 5, none⟩ = some (.bool qf_1) := cell_later HB1.out (hc 5 _ rfl)
                        clear hc hx
                        obtain ⟨t1_0, h1_0⟩ : ∃ t : Bool, nameB qa_1 = t := ⟨_, rfl⟩
                        obtain ⟨t1_1, h1_1⟩ : ∃ t : Bool, inB qb_1 0 4095 = t := ⟨_, rfl⟩
                        obtain ⟨t1_2, h1_2⟩ : ∃ t : Bool, inB qc_1 1 4096 = t := ⟨_, rfl⟩
                        have HRT1 : Hid (rightArea ⟨qa_1, qb_1, qc_1, qd_1, qe_1, qf_1⟩ = (t1_0 && t1_1 && t1_2)) := by unfold Hid rightArea; dsimp only; rw [h1_0, h1_1, h1_2]
                        have C1_0 : Hid (∀ W, Calls Try.prog 9 #[.string qa_1] W fun e w' => e = .returned (.bool t1_0) ∧ w' = W) := fun W => by rw [← h1_0]; exact rname_any qa_1 W hsqa_1
                        have C1_1 : Hid (∀ W, Calls Try.prog 39 #[.int .i64 qb_1, .int .i64 0, .int .i64 4095] W fun e w' => e = .returned (.bool t1_1) ∧ w' = W) := fun W => by rw [← h1_1]; exact rin_any qb_1 _ _ W
                        have C1_2 : Hid (∀ W, Calls Try.prog 39 #[.int .i64 qc_1, .int .i64 1, .int .i64 4096] W fun e w' => e = .returned (.bool t1_2) ∧ w' = W) := fun W => by rw [← h1_2]; exact rin_any qc_1 _ _ W
                        clear hlt h1_0 h1_1 h1_2 hsqa_1
                        go_wp2_with fail
                        obtain ⟨W1, hW⟩ : ∃ W, wo1.alloc (.cells #[.string qa_1, .int .i64 qb_1, .int .i64 qc_1, .bool qd_1, .bool qe_1, .bool qf_1] 107) = W := ⟨_, rfl⟩
                        obtain ⟨g1, hg⟩ : ∃ g, wo1.heap.size = g := ⟨_, rfl⟩
                        have HC1 : Hid (Cells W1 g1 [.string qa_1, .int .i64 qb_1, .int .i64 qc_1, .bool qd_1, .bool qe_1, .bool qf_1]) := fun j u hu => by rw [← hW, ← hg, World.cell?_alloc_new]; simpa using hu
                        have x0_1 := HC1.out 0 _ rfl
                        have x1_1 := HC1.out 1 _ rfl
                        have x2_1 := HC1.out 2 _ rfl
                        have x3_1 := HC1.out 3 _ rfl
                        have x4_1 := HC1.out 4 _ rfl
                        have x5_1 := HC1.out 5 _ rfl
                        have BA1 : Hid (Below W0.heap.size W0 W1) := by rw [← hW]; exact HB1.out.alloc HB1.out.size _
                        replace d0 := cell_later (BA1.out) (HC0.out 0 _ rfl)
                        replace d1 := cell_later (BA1.out) (HC0.out 1 _ rfl)
                        replace d2 := cell_later (BA1.out) (HC0.out 2 _ rfl)
                        replace d3 := cell_later (BA1.out) (HC0.out 3 _ rfl)
                        replace d4 := cell_later (BA1.out) (HC0.out 4 _ rfl)
                        replace d5 := cell_later (BA1.out) (HC0.out 5 _ rfl)
                        replace d6 := cell_later (BA1.out) (HC0.out 6 _ rfl)
                        replace d7 := cell_later (BA1.out) (HC0.out 7 _ rfl)
                        replace d8 := cell_later (BA1.out) (HC0.out 8 _ rfl)
                        replace d9 := cell_later (BA1.out) (HC0.out 9 _ rfl)
                        replace d10 := cell_later (BA1.out) (HC0.out 10 _ rfl)
                        replace d11 := cell_later (BA1.out) (HC0.out 11 _ rfl)
                        replace d12 := cell_later (BA1.out) (HC0.out 12 _ rfl)
                        rw [hW, hg]
                        clear hW hg e0_1 e1_1 e2_1 e3_1 e4_1 e5_1
                        refine (C1_0.out _).mono ?_
                        rintro e WQ ⟨rfl, h⟩
                        have h := h.symm
                        subst h
                        cases t1_0 with
                        | false =>
                          have HE : Hid (qb.all rightArea = false) := all_false HXS1.out (by have e := HRT1.out; simpa using e)
                          go_wp2_with fail
                          have HF : Hid (r = false) := HB4r.out (allB_el HE.out)
                          go_ret
                          exact ⟨by rw [HF.out]; rfl, BW.out.trans (BA1.out.mono BW.out.size)⟩
                        | true =>
                          go_wp2_with fail
                          refine (C1_1.out _).mono ?_
                          rintro e WQ ⟨rfl, h⟩
                          have h := h.symm
                          subst h
                          cases t1_1 with
                          | false =>
                            have HE : Hid (qb.all rightArea = false) := all_false HXS1.out (by have e := HRT1.out; simpa using e)
                            go_wp2_with fail
                            have HF : Hid (r = false) := HB4r.out (allB_el HE.out)
                            go_ret
                            exact ⟨by rw [HF.out]; rfl, BW.out.trans (BA1.out.mono BW.out.size)⟩
                          | true =>
                            go_wp2_with fail
                            refine (C1_2.out _).mono ?_
                            rintro e WQ ⟨rfl, h⟩
                            have h := h.symm
                            subst h
                            cases t1_2 with
                            | false =>
                              have HE : Hid (qb.all rightArea = false) := all_false HXS1.out (by have e := HRT1.out; simpa using e)
                              go_wp2_with fail
                              have HF : Hid (r = false) := HB4r.out (allB_el HE.out)
                              go_ret
                              exact ⟨by rw [HF.out]; rfl, BW.out.trans (BA1.out.mono BW.out.size)⟩
                            | true =>
                              go_wp2_with fail
                              go_roundw
                              case rel =>
                                have Q : LRel rightArea nqb qb W0 (.int .i64 ((k1 : Int) + 1)) W1 := LRel.next HX1.out HXS1.out (by have e := HRT1.out; simpa using e) HA1.out BA1.out
                                first | exact Q | ((repeat apply Exists.intro); exact ⟨Q, rfl⟩)
                              case measure => have := HX1.out; simp [intOf]; omega
                      · have hkI1 : ¬ (k1 : Int) < (nqb : Int) := by omega
                        have HAll1 : Hid (qb.all rightArea = true) := LRel.done HK1.out HNqb.out hlt HA1.out
                        clear hlt HK1 HA1
                        go_wp2_with fail
                        go_loopw [5] (fun v wr => LRel rightTask nqc qc W0 v wr) (fun v => fun _ => nqc - (intOf v).toNat)
                        case atStart => exact LRel.start HB1.out
                        case round =>
                          clear HB1
                          obtain ⟨⟨k2, hk, rfl, hall, hb⟩⟩ := hrel
                          obtain ⟨wo2, hwo⟩ : ∃ wo, wo = wr := ⟨_, rfl⟩
                          subst hwo
                          have HK2 := Lib.hid hk
                          have HA2 := Lib.hid hall
                          have HB2 := Lib.hid hb
                          clear hk hall hb
                          have d0 := cell_later (HB2.out) (HC0.out 0 _ rfl)
                          have d1 := cell_later (HB2.out) (HC0.out 1 _ rfl)
                          have d2 := cell_later (HB2.out) (HC0.out 2 _ rfl)
                          have d3 := cell_later (HB2.out) (HC0.out 3 _ rfl)
                          have d4 := cell_later (HB2.out) (HC0.out 4 _ rfl)
                          have d5 := cell_later (HB2.out) (HC0.out 5 _ rfl)
                          have d6 := cell_later (HB2.out) (HC0.out 6 _ rfl)
                          have d7 := cell_later (HB2.out) (HC0.out 7 _ rfl)
                          have d8 := cell_later (HB2.out) (HC0.out 8 _ rfl)
                          have d9 := cell_later (HB2.out) (HC0.out 9 _ rfl)
                          have d10 := cell_later (HB2.out) (HC0.out 10 _ rfl)
                          have d11 := cell_later (HB2.out) (HC0.out 11 _ rfl)
                          have d12 := cell_later (HB2.out) (HC0.out 12 _ rfl)
                          by_cases hlt : k2 < nqc
                          · have hkI2 : (k2 : Int) < (nqc : Int) := by omega
                            have HX2 : Hid (k2 < nqc) := hlt
                            obtain ⟨hnx, b2, off2, x, cs, hax, hbl, hx, hR, _, hc⟩ := HRqc.out.at_ k2 hlt
                            clear hnx
                            subst hax
                            have HXS2 := Lib.hid hx
                            obtain ⟨qa_2, qb_2, qc_2, qd_2, qe_2, qf_2, qg_2, qh_2⟩ := x
                            obtain ⟨rfl, hsqa_2⟩ := hR
                            have e0_2 : wo2.cell? ⟨b2, off2 + k2 * 8, none⟩ = some (.string qa_2) := cell_later HB2.out (hc 0 _ rfl)
                            have e1_2 : wo2.cell? ⟨b2, off2 + k2 * 8 + 1, none⟩ = some (.int .i64 qb_2) := cell_later HB2.out (hc 1 _ rfl)
                            have e2_2 : wo2.cell? ⟨b2, off2 + k2 * 8 + 2, none⟩ = some (.int .i64 qc_2) := cell_later HB2.out (hc 2 _ rfl)
                            have e3_2 : wo2.cell? ⟨b2, off2 + k2 * 8 + 3, none⟩ = some (.int .i64 qd_2) := cell_later HB2.out (hc 3 _ rfl)
                            have e4_2 : wo2.cell? ⟨b2, off2 + k2 * 8 + 4, none⟩ = some (.int .i64 qe_2) := cell_later HB2.out (hc 4 _ rfl)
                            have e5_2 : wo2.cell? ⟨b2, off2 + k2 * 8 + 5, none⟩ = some (.int .i64 qf_2) := cell_later HB2.out (hc 5 _ rfl)
                            have e6_2 : wo2.cell? ⟨b2, off2 + k2 * 8 + 6, none⟩ = some (.int .i64 qg_2) := cell_later HB2.out (hc 6 _ rfl)
                            have e7_2 : wo2.cell? ⟨b2, off2 + k2 * 8 + 7, none⟩ = some (.int .i64 qh_2) := cell_later HB2.out (hc 7 _ rfl)
                            clear hc hx
                            obtain ⟨t2_0, h2_0⟩ : ∃ t : Bool, nameB qa_2 = t := ⟨_, rfl⟩
                            obtain ⟨t2_1, h2_1⟩ : ∃ t : Bool, inB qb_2 0 4095 = t := ⟨_, rfl⟩
                            obtain ⟨t2_2, h2_2⟩ : ∃ t : Bool, inB qc_2 0 4096 = t := ⟨_, rfl⟩
                            obtain ⟨t2_3, h2_3⟩ : ∃ t : Bool, inB qd_2 1 63 = t := ⟨_, rfl⟩
                            obtain ⟨t2_4, h2_4⟩ : ∃ t : Bool, inB qe_2 0 1048576 = t := ⟨_, rfl⟩
                            obtain ⟨t2_5, h2_5⟩ : ∃ t : Bool, inB qf_2 0 1048576 = t := ⟨_, rfl⟩
                            obtain ⟨t2_6, h2_6⟩ : ∃ t : Bool, inB qg_2 0 1048576 = t := ⟨_, rfl⟩
                            obtain ⟨t2_7, h2_7⟩ : ∃ t : Bool, inB qh_2 0 1048576 = t := ⟨_, rfl⟩
                            have HRT2 : Hid (rightTask ⟨qa_2, qb_2, qc_2, qd_2, qe_2, qf_2, qg_2, qh_2⟩ = (t2_0 && t2_1 && t2_2 && t2_3 && t2_4 && t2_5 && t2_6 && t2_7)) := by unfold Hid rightTask; dsimp only; rw [h2_0, h2_1, h2_2, h2_3, h2_4, h2_5, h2_6, h2_7]
                            have C2_0 : Hid (∀ W, Calls Try.prog 9 #[.string qa_2] W fun e w' => e = .returned (.bool t2_0) ∧ w' = W) := fun W => by rw [← h2_0]; exact rname_any qa_2 W hsqa_2
                            have C2_1 : Hid (∀ W, Calls Try.prog 39 #[.int .i64 qb_2, .int .i64 0, .int .i64 4095] W fun e w' => e = .returned (.bool t2_1) ∧ w' = W) := fun W => by rw [← h2_1]; exact rin_any qb_2 _ _ W
                            have C2_2 : Hid (∀ W, Calls Try.prog 39 #[.int .i64 qc_2, .int .i64 0, .int .i64 4096] W fun e w' => e = .returned (.bool t2_2) ∧ w' = W) := fun W => by rw [← h2_2]; exact rin_any qc_2 _ _ W
                            have C2_3 : Hid (∀ W, Calls Try.prog 39 #[.int .i64 qd_2, .int .i64 1, .int .i64 63] W fun e w' => e = .returned (.bool t2_3) ∧ w' = W) := fun W => by rw [← h2_3]; exact rin_any qd_2 _ _ W
                            have C2_4 : Hid (∀ W, Calls Try.prog 39 #[.int .i64 qe_2, .int .i64 0, .int .i64 1048576] W fun e w' => e = .returned (.bool t2_4) ∧ w' = W) := fun W => by rw [← h2_4]; exact rin_any qe_2 _ _ W
                            have C2_5 : Hid (∀ W, Calls Try.prog 39 #[.int .i64 qf_2, .int .i64 0, .int .i64 1048576] W fun e w' => e = .returned (.bool t2_5) ∧ w' = W) := fun W => by rw [← h2_5]; exact rin_any qf_2 _ _ W
                            have C2_6 : Hid (∀ W, Calls Try.prog 39 #[.int .i64 qg_2, .int .i64 0, .int .i64 1048576] W fun e w' => e = .returned (.bool t2_6) ∧ w' = W) := fun W => by rw [← h2_6]; exact rin_any qg_2 _ _ W
                            have C2_7 : Hid (∀ W, Calls Try.prog 39 #[.int .i64 qh_2, .int .i64 0, .int .i64 1048576] W fun e w' => e = .returned (.bool t2_7) ∧ w' = W) := fun W => by rw [← h2_7]; exact rin_any qh_2 _ _ W
                            clear hlt h2_0 h2_1 h2_2 h2_3 h2_4 h2_5 h2_6 h2_7 hsqa_2
                            go_wp2_with fail
                            obtain ⟨W2, hW⟩ : ∃ W, wo2.alloc (.cells #[.string qa_2, .int .i64 qb_2, .int .i64 qc_2, .int .i64 qd_2, .int .i64 qe_2, .int .i64 qf_2, .int .i64 qg_2, .int .i64 qh_2] 109) = W := ⟨_, rfl⟩
                            obtain ⟨g2, hg⟩ : ∃ g, wo2.heap.size = g := ⟨_, rfl⟩
                            have HC2 : Hid (Cells W2 g2 [.string qa_2, .int .i64 qb_2, .int .i64 qc_2, .int .i64 qd_2, .int .i64 qe_2, .int .i64 qf_2, .int .i64 qg_2, .int .i64 qh_2]) := fun j u hu => by rw [← hW, ← hg, World.cell?_alloc_new]; simpa using hu
                            have x0_2 := HC2.out 0 _ rfl
                            have x1_2 := HC2.out 1 _ rfl
                            have x2_2 := HC2.out 2 _ rfl
                            have x3_2 := HC2.out 3 _ rfl
                            have x4_2 := HC2.out 4 _ rfl
                            have x5_2 := HC2.out 5 _ rfl
                            have x6_2 := HC2.out 6 _ rfl
                            have x7_2 := HC2.out 7 _ rfl
                            have BA2 : Hid (Below W0.heap.size W0 W2) := by rw [← hW]; exact HB2.out.alloc HB2.out.size _
                            replace d0 := cell_later (BA2.out) (HC0.out 0 _ rfl)
                            replace d1 := cell_later (BA2.out) (HC0.out 1 _ rfl)
                            replace d2 := cell_later (BA2.out) (HC0.out 2 _ rfl)
                            replace d3 := cell_later (BA2.out) (HC0.out 3 _ rfl)
                            replace d4 := cell_later (BA2.out) (HC0.out 4 _ rfl)
                            replace d5 := cell_later (BA2.out) (HC0.out 5 _ rfl)
                            replace d6 := cell_later (BA2.out) (HC0.out 6 _ rfl)
                            replace d7 := cell_later (BA2.out) (HC0.out 7 _ rfl)
                            replace d8 := cell_later (BA2.out) (HC0.out 8 _ rfl)
                            replace d9 := cell_later (BA2.out) (HC0.out 9 _ rfl)
                            replace d10 := cell_later (BA2.out) (HC0.out 10 _ rfl)
                            replace d11 := cell_later (BA2.out) (HC0.out 11 _ rfl)
                            replace d12 := cell_later (BA2.out) (HC0.out 12 _ rfl)
                            rw [hW, hg]
                            clear hW hg e0_2 e1_2 e2_2 e3_2 e4_2 e5_2 e6_2 e7_2
                            refine (C2_0.out _).mono ?_
                            rintro e WQ ⟨rfl, h⟩
                            have h := h.symm
                            subst h
                            cases t2_0 with
                            | false =>
                              have HE : Hid (qc.all rightTask = false) := all_false HXS2.out (by have e := HRT2.out; simpa using e)
                              go_wp2_with fail
                              have HF : Hid (r = false) := HB5r.out (allB_el HE.out)
                              go_ret
                              exact ⟨by rw [HF.out]; rfl, BW.out.trans (BA2.out.mono BW.out.size)⟩
                            | true =>
                              go_wp2_with fail
                              refine (C2_1.out _).mono ?_
                              rintro e WQ ⟨rfl, h⟩
                              have h := h.symm
                              subst h
                              cases t2_1 with
                              | false =>
                                have HE : Hid (qc.all rightTask = false) := all_false HXS2.out (by have e := HRT2.out; simpa using e)
                                go_wp2_with fail
                                have HF : Hid (r = false) := HB5r.out (allB_el HE.out)
                                go_ret
                                exact ⟨by rw [HF.out]; rfl, BW.out.trans (BA2.out.mono BW.out.size)⟩
                              | true =>
                                go_wp2_with fail
                                refine (C2_2.out _).mono ?_
                                rintro e WQ ⟨rfl, h⟩
                                have h := h.symm
                                subst h
                                cases t2_2 with
                                | false =>
                                  have HE : Hid (qc.all rightTask = false) := all_false HXS2.out (by have e := HRT2.out; simpa using e)
                                  go_wp2_with fail
                                  have HF : Hid (r = false) := HB5r.out (allB_el HE.out)
                                  go_ret
                                  exact ⟨by rw [HF.out]; rfl, BW.out.trans (BA2.out.mono BW.out.size)⟩
                                | true =>
                                  go_wp2_with fail
                                  refine (C2_3.out _).mono ?_
                                  rintro e WQ ⟨rfl, h⟩
                                  have h := h.symm
                                  subst h
                                  cases t2_3 with
                                  | false =>
                                    have HE : Hid (qc.all rightTask = false) := all_false HXS2.out (by have e := HRT2.out; simpa using e)
                                    go_wp2_with fail
                                    have HF : Hid (r = false) := HB5r.out (allB_el HE.out)
                                    go_ret
                                    exact ⟨by rw [HF.out]; rfl, BW.out.trans (BA2.out.mono BW.out.size)⟩
                                  | true =>
                                    go_wp2_with fail
                                    refine (C2_4.out _).mono ?_
                                    rintro e WQ ⟨rfl, h⟩
                                    have h := h.symm
                                    subst h
                                    cases t2_4 with
                                    | false =>
                                      have HE : Hid (qc.all rightTask = false) := all_false HXS2.out (by have e := HRT2.out; simpa using e)
                                      go_wp2_with fail
                                      have HF : Hid (r = false) := HB5r.out (allB_el HE.out)
                                      go_ret
                                      exact ⟨by rw [HF.out]; rfl, BW.out.trans (BA2.out.mono BW.out.size)⟩
                                    | true =>
                                      go_wp2_with fail
                                      refine (C2_5.out _).mono ?_
                                      rintro e WQ ⟨rfl, h⟩
                                      have h := h.symm
                                      subst h
                                      cases t2_5 with
                                      | false =>
                                        have HE : Hid (qc.all rightTask = false) := all_false HXS2.out (by have e := HRT2.out; simpa using e)
                                        go_wp2_with fail
                                        have HF : Hid (r = false) := HB5r.out (allB_el HE.out)
                                        go_ret
                                        exact ⟨by rw [HF.out]; rfl, BW.out.trans (BA2.out.mono BW.out.size)⟩
                                      | true =>
                                        go_wp2_with fail
                                        refine (C2_6.out _).mono ?_
                                        rintro e WQ ⟨rfl, h⟩
                                        have h := h.symm
                                        subst h
                                        cases t2_6 with
                                        | false =>
                                          have HE : Hid (qc.all rightTask = false) := all_false HXS2.out (by have e := HRT2.out; simpa using e)
                                          go_wp2_with fail
                                          have HF : Hid (r = false) := HB5r.out (allB_el HE.out)
                                          go_ret
                                          exact ⟨by rw [HF.out]; rfl, BW.out.trans (BA2.out.mono BW.out.size)⟩
                                        | true =>
                                          go_wp2_with fail
                                          refine (C2_7.out _).mono ?_
                                          rintro e WQ ⟨rfl, h⟩
                                          have h := h.symm
                                          subst h
                                          cases t2_7 with
                                          | false =>
                                            have HE : Hid (qc.all rightTask = false) := all_false HXS2.out (by have e := HRT2.out; simpa using e)
                                            go_wp2_with fail
                                            have HF : Hid (r = false) := HB5r.out (allB_el HE.out)
                                            go_ret
                                            exact ⟨by rw [HF.out]; rfl, BW.out.trans (BA2.out.mono BW.out.size)⟩
                                          | true =>
                                            go_wp2_with fail
                                            go_roundw
                                            case rel =>
                                              have Q : LRel rightTask nqc qc W0 (.int .i64 ((k2 : Int) + 1)) W2 := LRel.next HX2.out HXS2.out (by have e := HRT2.out; simpa using e) HA2.out BA2.out
                                              first | exact Q | ((repeat apply Exists.intro); exact ⟨Q, rfl⟩)
                                            case measure => have := HX2.out; simp [intOf]; omega
                          · have hkI2 : ¬ (k2 : Int) < (nqc : Int) := by omega
                            have HAll2 : Hid (qc.all rightTask = true) := LRel.done HK2.out HNqc.out hlt HA2.out
                            clear hlt HK2 HA2
                            go_wp2_with fail
                            go_loopw [7] (fun v wr => LRel rightLock nqd qd W0 v wr) (fun v => fun _ => nqd - (intOf v).toNat)
                            case atStart => exact LRel.start HB2.out
                            case round =>
                              clear HB2
                              obtain ⟨⟨k3, hk, rfl, hall, hb⟩⟩ := hrel
                              obtain ⟨wo3, hwo⟩ : ∃ wo, wo = wr := ⟨_, rfl⟩
                              subst hwo
                              have HK3 := Lib.hid hk
                              have HA3 := Lib.hid hall
                              have HB3 := Lib.hid hb
                              clear hk hall hb
                              have d0 := cell_later (HB3.out) (HC0.out 0 _ rfl)
                              have d1 := cell_later (HB3.out) (HC0.out 1 _ rfl)
                              have d2 := cell_later (HB3.out) (HC0.out 2 _ rfl)
                              have d3 := cell_later (HB3.out) (HC0.out 3 _ rfl)
                              have d4 := cell_later (HB3.out) (HC0.out 4 _ rfl)
                              have d5 := cell_later (HB3.out) (HC0.out 5 _ rfl)
                              have d6 := cell_later (HB3.out) (HC0.out 6 _ rfl)
                              have d7 := cell_later (HB3.out) (HC0.out 7 _ rfl)
                              have d8 := cell_later (HB3.out) (HC0.out 8 _ rfl)
                              have d9 := cell_later (HB3.out) (HC0.out 9 _ rfl)
                              have d10 := cell_later (HB3.out) (HC0.out 10 _ rfl)
                              have d11 := cell_later (HB3.out) (HC0.out 11 _ rfl)
                              have d12 := cell_later (HB3.out) (HC0.out 12 _ rfl)
                              by_cases hlt : k3 < nqd
                              · have hkI3 : (k3 : Int) < (nqd : Int) := by omega
                                have HX3 : Hid (k3 < nqd) := hlt
                                obtain ⟨hnx, b3, off3, x, cs, hax, hbl, hx, hR, _, hc⟩ := HRqd.out.at_ k3 hlt
                                clear hnx
                                subst hax
                                have HXS3 := Lib.hid hx
                                obtain ⟨qa_3, qb_3⟩ := x
                                obtain ⟨rfl, hsqa_3⟩ := hR
                                have e0_3 : wo3.cell? ⟨b3, off3 + k3 * 2, none⟩ = some (.string qa_3) := cell_later HB3.out (hc 0 _ rfl)
                                have e1_3 : wo3.cell? ⟨b3, off3 + k3 * 2 + 1, none⟩ = some (.int .i64 qb_3) := cell_later HB3.out (hc 1 _ rfl)
                                clear hc hx
                                obtain ⟨t3_0, h3_0⟩ : ∃ t : Bool, nameB qa_3 = t := ⟨_, rfl⟩
                                obtain ⟨t3_1, h3_1⟩ : ∃ t : Bool, inB qb_3 1 63 = t := ⟨_, rfl⟩
                                have HRT3 : Hid (rightLock ⟨qa_3, qb_3⟩ = (t3_0 && t3_1)) := by unfold Hid rightLock; dsimp only; rw [h3_0, h3_1]
                                have C3_0 : Hid (∀ W, Calls Try.prog 9 #[.string qa_3] W fun e w' => e = .returned (.bool t3_0) ∧ w' = W) := fun W => by rw [← h3_0]; exact rname_any qa_3 W hsqa_3
                                have C3_1 : Hid (∀ W, Calls Try.prog 39 #[.int .i64 qb_3, .int .i64 1, .int .i64 63] W fun e w' => e = .returned (.bool t3_1) ∧ w' = W) := fun W => by rw [← h3_1]; exact rin_any qb_3 _ _ W
                                clear hlt h3_0 h3_1 hsqa_3
                                go_wp2_with fail
                                refine (C3_0.out _).mono ?_
                                rintro e WQ ⟨rfl, h⟩
                                have h := h.symm
                                subst h
                                cases t3_0 with
                                | false =>
                                  have HE : Hid (qd.all rightLock = false) := all_false HXS3.out (by have e := HRT3.out; simpa using e)
                                  go_wp2_with fail
                                  have HF : Hid (r = false) := HB6r.out (allB_el HE.out)
                                  go_ret
                                  exact ⟨by rw [HF.out]; rfl, BW.out.trans (HB3.out.mono BW.out.size)⟩
                                | true =>
                                  go_wp2_with fail
                                  refine (C3_1.out _).mono ?_
                                  rintro e WQ ⟨rfl, h⟩
                                  have h := h.symm
                                  subst h
                                  cases t3_1 with
                                  | false =>
                                    have HE : Hid (qd.all rightLock = false) := all_false HXS3.out (by have e := HRT3.out; simpa using e)
                                    go_wp2_with fail
                                    have HF : Hid (r = false) := HB6r.out (allB_el HE.out)
                                    go_ret
                                    exact ⟨by rw [HF.out]; rfl, BW.out.trans (HB3.out.mono BW.out.size)⟩
                                  | true =>
                                    go_wp2_with fail
                                    go_roundw
                                    case rel =>
                                      have Q : LRel rightLock nqd qd W0 (.int .i64 ((k3 : Int) + 1)) wo3 := LRel.next HX3.out HXS3.out (by have e := HRT3.out; simpa using e) HA3.out HB3.out
                                      first | exact Q | ((repeat apply Exists.intro); exact ⟨Q, rfl⟩)
                                    case measure => have := HX3.out; simp [intOf]; omega
                              · have hkI3 : ¬ (k3 : Int) < (nqd : Int) := by omega
                                have HAll3 : Hid (qd.all rightLock = true) := LRel.done HK3.out HNqd.out hlt HA3.out
                                clear hlt HK3 HA3
                                go_wp2_with fail
                                go_loopw [8] (fun v wr => LRel rightSema nqe qe W0 v wr) (fun v => fun _ => nqe - (intOf v).toNat)
                                case atStart => exact LRel.start HB3.out
                                case round =>
                                  clear HB3
                                  obtain ⟨⟨k4, hk, rfl, hall, hb⟩⟩ := hrel
                                  obtain ⟨wo4, hwo⟩ : ∃ wo, wo = wr := ⟨_, rfl⟩
                                  subst hwo
                                  have HK4 := Lib.hid hk
                                  have HA4 := Lib.hid hall
                                  have HB4 := Lib.hid hb
                                  clear hk hall hb
                                  have d0 := cell_later (HB4.out) (HC0.out 0 _ rfl)
                                  have d1 := cell_later (HB4.out) (HC0.out 1 _ rfl)
                                  have d2 := cell_later (HB4.out) (HC0.out 2 _ rfl)
                                  have d3 := cell_later (HB4.out) (HC0.out 3 _ rfl)
                                  have d4 := cell_later (HB4.out) (HC0.out 4 _ rfl)
                                  have d5 := cell_later (HB4.out) (HC0.out 5 _ rfl)
                                  have d6 := cell_later (HB4.out) (HC0.out 6 _ rfl)
                                  have d7 := cell_later (HB4.out) (HC0.out 7 _ rfl)
                                  have d8 := cell_later (HB4.out) (HC0.out 8 _ rfl)
                                  have d9 := cell_later (HB4.out) (HC0.out 9 _ rfl)
                                  have d10 := cell_later (HB4.out) (HC0.out 10 _ rfl)
                                  have d11 := cell_later (HB4.out) (HC0.out 11 _ rfl)
                                  have d12 := cell_later (HB4.out) (HC0.out 12 _ rfl)
                                  by_cases hlt : k4 < nqe
                                  · have hkI4 : (k4 : Int) < (nqe : Int) := by omega
                                    have HX4 : Hid (k4 < nqe) := hlt
                                    obtain ⟨hnx, b4, off4, x, cs, hax, hbl, hx, hR, _, hc⟩ := HRqe.out.at_ k4 hlt
                                    clear hnx
                                    subst hax
                                    have HXS4 := Lib.hid hx
                                    obtain ⟨qa_4, qb_4, qc_4, qd_4⟩ := x
                                    obtain ⟨rfl, hsqa_4⟩ := hR
                                    have e0_4 : wo4.cell? ⟨b4, off4 + k4 * 4, none⟩ = some (.string qa_4) := cell_later HB4.out (hc 0 _ rfl)
                                    have e1_4 : wo4.cell? ⟨b4, off4 + k4 * 4 + 1, none⟩ = some (.int .i64 qb_4) := cell_later HB4.out (hc 1 _ rfl)
                                    have e2_4 : wo4.cell? ⟨b4, off4 + k4 * 4 + 2, none⟩ = some (.int .i64 qc_4) := cell_later HB4.out (hc 2 _ rfl)
                                    have e3_4 : wo4.cell? ⟨b4, off4 + k4 * 4 + 3, none⟩ = some (.bool qd_4) := cell_later HB4.out (hc 3 _ rfl)
                                    clear hc hx
                                    obtain ⟨t4_0, h4_0⟩ : ∃ t : Bool, nameB qa_4 = t := ⟨_, rfl⟩
                                    obtain ⟨t4_1, h4_1⟩ : ∃ t : Bool, inB qb_4 0 65535 = t := ⟨_, rfl⟩
                                    obtain ⟨t4_2, h4_2⟩ : ∃ t : Bool, inB qc_4 1 65535 = t := ⟨_, rfl⟩
                                    have HRT4 : Hid (rightSema ⟨qa_4, qb_4, qc_4, qd_4⟩ = (t4_0 && t4_1 && t4_2)) := by unfold Hid rightSema; dsimp only; rw [h4_0, h4_1, h4_2]
                                    have C4_0 : Hid (∀ W, Calls Try.prog 9 #[.string qa_4] W fun e w' => e = .returned (.bool t4_0) ∧ w' = W) := fun W => by rw [← h4_0]; exact rname_any qa_4 W hsqa_4
                                    have C4_1 : Hid (∀ W, Calls Try.prog 39 #[.int .i64 qb_4, .int .i64 0, .int .i64 65535] W fun e w' => e = .returned (.bool t4_1) ∧ w' = W) := fun W => by rw [← h4_1]; exact rin_any qb_4 _ _ W
                                    have C4_2 : Hid (∀ W, Calls Try.prog 39 #[.int .i64 qc_4, .int .i64 1, .int .i64 65535] W fun e w' => e = .returned (.bool t4_2) ∧ w' = W) := fun W => by rw [← h4_2]; exact rin_any qc_4 _ _ W
                                    clear hlt h4_0 h4_1 h4_2 hsqa_4
                                    go_wp2_with fail
                                    obtain ⟨W4, hW⟩ : ∃ W, wo4.alloc (.cells #[.string qa_4, .int .i64 qb_4, .int .i64 qc_4, .bool qd_4] 113) = W := ⟨_, rfl⟩
                                    obtain ⟨g4, hg⟩ : ∃ g, wo4.heap.size = g := ⟨_, rfl⟩
                                    have HC4 : Hid (Cells W4 g4 [.string qa_4, .int .i64 qb_4, .int .i64 qc_4, .bool qd_4]) := fun j u hu => by rw [← hW, ← hg, World.cell?_alloc_new]; simpa using hu
                                    have x0_4 := HC4.out 0 _ rfl
                                    have x1_4 := HC4.out 1 _ rfl
                                    have x2_4 := HC4.out 2 _ rfl
                                    have x3_4 := HC4.out 3 _ rfl
                                    have BA4 : Hid (Below W0.heap.size W0 W4) := by rw [← hW]; exact HB4.out.alloc HB4.out.size _
                                    replace d0 := cell_later (BA4.out) (HC0.out 0 _ rfl)
                                    replace d1 := cell_later (BA4.out) (HC0.out 1 _ rfl)
                                    replace d2 := cell_later (BA4.out) (HC0.out 2 _ rfl)
                                    replace d3 := cell_later (BA4.out) (HC0.out 3 _ rfl)
                                    replace d4 := cell_later (BA4.out) (HC0.out 4 _ rfl)
                                    replace d5 := cell_later (BA4.out) (HC0.out 5 _ rfl)
                                    replace d6 := cell_later (BA4.out) (HC0.out 6 _ rfl)
                                    replace d7 := cell_later (BA4.out) (HC0.out 7 _ rfl)
                                    replace d8 := cell_later (BA4.out) (HC0.out 8 _ rfl)
                                    replace d9 := cell_later (BA4.out) (HC0.out 9 _ rfl)
                                    replace d10 := cell_later (BA4.out) (HC0.out 10 _ rfl)
                                    replace d11 := cell_later (BA4.out) (HC0.out 11 _ rfl)
                                    replace d12 := cell_later (BA4.out) (HC0.out 12 _ rfl)
                                    rw [hW, hg]
                                    clear hW hg e0_4 e1_4 e2_4 e3_4
                                    refine (C4_0.out _).mono ?_
                                    rintro e WQ ⟨rfl, h⟩
                                    have h := h.symm
                                    subst h
                                    cases t4_0 with
                                    | false =>
                                      have HE : Hid (qe.all rightSema = false) := all_false HXS4.out (by have e := HRT4.out; simpa using e)
                                      go_wp2_with fail
                                      have HF : Hid (r = false) := HB7r.out (allB_el HE.out)
                                      go_ret
                                      exact ⟨by rw [HF.out]; rfl, BW.out.trans (BA4.out.mono BW.out.size)⟩
                                    | true =>
                                      go_wp2_with fail
                                      refine (C4_1.out _).mono ?_
                                      rintro e WQ ⟨rfl, h⟩
                                      have h := h.symm
                                      subst h
                                      cases t4_1 with
                                      | false =>
                                        have HE : Hid (qe.all rightSema = false) := all_false HXS4.out (by have e := HRT4.out; simpa using e)
                                        go_wp2_with fail
                                        have HF : Hid (r = false) := HB7r.out (allB_el HE.out)
                                        go_ret
                                        exact ⟨by rw [HF.out]; rfl, BW.out.trans (BA4.out.mono BW.out.size)⟩
                                      | true =>
                                        go_wp2_with fail
                                        refine (C4_2.out _).mono ?_
                                        rintro e WQ ⟨rfl, h⟩
                                        have h := h.symm
                                        subst h
                                        cases t4_2 with
                                        | false =>
                                          have HE : Hid (qe.all rightSema = false) := all_false HXS4.out (by have e := HRT4.out; simpa using e)
                                          go_wp2_with fail
                                          have HF : Hid (r = false) := HB7r.out (allB_el HE.out)
                                          go_ret
                                          exact ⟨by rw [HF.out]; rfl, BW.out.trans (BA4.out.mono BW.out.size)⟩
                                        | true =>
                                          go_wp2_with fail
                                          go_roundw
                                          case rel =>
                                            have Q : LRel rightSema nqe qe W0 (.int .i64 ((k4 : Int) + 1)) W4 := LRel.next HX4.out HXS4.out (by have e := HRT4.out; simpa using e) HA4.out BA4.out
                                            first | exact Q | ((repeat apply Exists.intro); exact ⟨Q, rfl⟩)
                                          case measure => have := HX4.out; simp [intOf]; omega
                                  · have hkI4 : ¬ (k4 : Int) < (nqe : Int) := by omega
                                    have HAll4 : Hid (qe.all rightSema = true) := LRel.done HK4.out HNqe.out hlt HA4.out
                                    clear hlt HK4 HA4
                                    go_wp2_with fail
                                    go_loopw [10] (fun v wr => LRel rightEvent nqf qf W0 v wr) (fun v => fun _ => nqf - (intOf v).toNat)
                                    case atStart => exact LRel.start HB4.out
                                    case round =>
                                      clear HB4
                                      obtain ⟨⟨k5, hk, rfl, hall, hb⟩⟩ := hrel
                                      obtain ⟨wo5, hwo⟩ : ∃ wo, wo = wr := ⟨_, rfl⟩
                                      subst hwo
                                      have HK5 := Lib.hid hk
                                      have HA5 := Lib.hid hall
                                      have HB5 := Lib.hid hb
                                      clear hk hall hb
                                      have d0 := cell_later (HB5.out) (HC0.out 0 _ rfl)
                                      have d1 := cell_later (HB5.out) (HC0.out 1 _ rfl)
                                      have d2 := cell_later (HB5.out) (HC0.out 2 _ rfl)
                                      have d3 := cell_later (HB5.out) (HC0.out 3 _ rfl)
                                      have d4 := cell_later (HB5.out) (HC0.out 4 _ rfl)
                                      have d5 := cell_later (HB5.out) (HC0.out 5 _ rfl)
                                      have d6 := cell_later (HB5.out) (HC0.out 6 _ rfl)
                                      have d7 := cell_later (HB5.out) (HC0.out 7 _ rfl)
                                      have d8 := cell_later (HB5.out) (HC0.out 8 _ rfl)
                                      have d9 := cell_later (HB5.out) (HC0.out 9 _ rfl)
                                      have d10 := cell_later (HB5.out) (HC0.out 10 _ rfl)
                                      have d11 := cell_later (HB5.out) (HC0.out 11 _ rfl)
                                      have d12 := cell_later (HB5.out) (HC0.out 12 _ rfl)
                                      by_cases hlt : k5 < nqf
                                      · have hkI5 : (k5 : Int) < (nqf : Int) := by omega
                                        have HX5 : Hid (k5 < nqf) := hlt
                                        obtain ⟨hnx, b5, off5, x, cs, hax, hbl, hx, hR, _, hc⟩ := HRqf.out.at_ k5 hlt
                                        clear hnx
                                        subst hax
                                        have HXS5 := Lib.hid hx
                                        obtain ⟨qa_5⟩ := x
                                        obtain ⟨rfl, hsqa_5⟩ := hR
                                        have e0_5 : wo5.cell? ⟨b5, off5 + k5, none⟩ = some (.string qa_5) := cell_later HB5.out (by simpa using hc 0 _ rfl)
                                        clear hc hx
                                        obtain ⟨t5_0, h5_0⟩ : ∃ t : Bool, nameB qa_5 = t := ⟨_, rfl⟩
                                        have HRT5 : Hid (rightEvent ⟨qa_5⟩ = (t5_0)) := by unfold Hid rightEvent; dsimp only; rw [h5_0]
                                        have C5_0 : Hid (∀ W, Calls Try.prog 9 #[.string qa_5] W fun e w' => e = .returned (.bool t5_0) ∧ w' = W) := fun W => by rw [← h5_0]; exact rname_any qa_5 W hsqa_5
                                        clear hlt h5_0 hsqa_5
                                        go_wp2_with fail
                                        refine (C5_0.out _).mono ?_
                                        rintro e WQ ⟨rfl, h⟩
                                        have h := h.symm
                                        subst h
                                        cases t5_0 with
                                        | false =>
                                          have HE : Hid (qf.all rightEvent = false) := all_false HXS5.out (by have e := HRT5.out; simpa using e)
                                          go_wp2_with fail
                                          have HF : Hid (r = false) := HB8r.out (allB_el HE.out)
                                          go_ret
                                          exact ⟨by rw [HF.out]; rfl, BW.out.trans (HB5.out.mono BW.out.size)⟩
                                        | true =>
                                          go_wp2_with fail
                                          go_roundw
                                          case rel =>
                                            have Q : LRel rightEvent nqf qf W0 (.int .i64 ((k5 : Int) + 1)) wo5 := LRel.next HX5.out HXS5.out (by have e := HRT5.out; simpa using e) HA5.out HB5.out
                                            first | exact Q | ((repeat apply Exists.intro); exact ⟨Q, rfl⟩)
                                          case measure => have := HX5.out; simp [intOf]; omega
                                      · have hkI5 : ¬ (k5 : Int) < (nqf : Int) := by omega
                                        have HAll5 : Hid (qf.all rightEvent = true) := LRel.done HK5.out HNqf.out hlt HA5.out
                                        clear hlt HK5 HA5
                                        go_wp2_with fail
                                        refine (CS.out _ (BW.out.trans (HB5.out.mono BW.out.size)) (by rw [HNqg.out]; have := HLqg.out; omega) (by rw [HNqh.out]; have := HLqh.out; omega) (by rw [HNqi.out]; have := HLqi.out; omega)).mono ?_
                                        rintro e WSp ⟨rfl, b⟩
                                        have BSp : Hid (Below W0.heap.size W0 WSp) := HB5.out.trans (b.mono HB5.out.size)
                                        clear b
                                        replace d0 := cell_later (BSp.out) (HC0.out 0 _ rfl)
                                        replace d1 := cell_later (BSp.out) (HC0.out 1 _ rfl)
                                        replace d2 := cell_later (BSp.out) (HC0.out 2 _ rfl)
                                        replace d3 := cell_later (BSp.out) (HC0.out 3 _ rfl)
                                        replace d4 := cell_later (BSp.out) (HC0.out 4 _ rfl)
                                        replace d5 := cell_later (BSp.out) (HC0.out 5 _ rfl)
                                        replace d6 := cell_later (BSp.out) (HC0.out 6 _ rfl)
                                        replace d7 := cell_later (BSp.out) (HC0.out 7 _ rfl)
                                        replace d8 := cell_later (BSp.out) (HC0.out 8 _ rfl)
                                        replace d9 := cell_later (BSp.out) (HC0.out 9 _ rfl)
                                        replace d10 := cell_later (BSp.out) (HC0.out 10 _ rfl)
                                        replace d11 := cell_later (BSp.out) (HC0.out 11 _ rfl)
                                        replace d12 := cell_later (BSp.out) (HC0.out 12 _ rfl)
                                        cases ts with
                                        | false =>
                                          have HF : Hid (r = false) := by
                                            have h1 := HTS.out
                                            cases e1 : qg.all rightBoard with
                                            | false => exact HB9r.out (allB_el e1)
                                            | true =>
                                              cases e2 : qh.all rightBuffer with
                                              | false => exact HB10r.out (allB_el e2)
                                              | true =>
                                                rw [e1, e2] at h1
                                                exact HB11r.out (allB_el h1)
                                          go_wp2_with fail
                                          go_ret
                                          exact ⟨by rw [HF.out]; rfl, BW.out.trans (BSp.out.mono BW.out.size)⟩
                                        | true =>
                                          have HSqg : Hid (qg.all rightBoard = true) := by have h1 := HTS.out; rw [Bool.and_eq_true, Bool.and_eq_true] at h1; exact h1.1.1
                                          have HSqh : Hid (qh.all rightBuffer = true) := by have h1 := HTS.out; rw [Bool.and_eq_true, Bool.and_eq_true] at h1; exact h1.1.2
                                          have HSqi : Hid (qi.all rightPort = true) := by have h1 := HTS.out; rw [Bool.and_eq_true, Bool.and_eq_true] at h1; exact h1.2
                                          go_wp2_with fail
                                          refine (Cqj.out _ (BW.out.trans (BSp.out.mono BW.out.size))).mono ?_
                                          rintro e Wqj ⟨rfl, b⟩
                                          have Bqj : Hid (Below W0.heap.size W0 Wqj) := BSp.out.trans (b.mono BSp.out.size)
                                          clear b
                                          replace d0 := cell_later (Bqj.out) (HC0.out 0 _ rfl)
                                          replace d1 := cell_later (Bqj.out) (HC0.out 1 _ rfl)
                                          replace d2 := cell_later (Bqj.out) (HC0.out 2 _ rfl)
                                          replace d3 := cell_later (Bqj.out) (HC0.out 3 _ rfl)
                                          replace d4 := cell_later (Bqj.out) (HC0.out 4 _ rfl)
                                          replace d5 := cell_later (Bqj.out) (HC0.out 5 _ rfl)
                                          replace d6 := cell_later (Bqj.out) (HC0.out 6 _ rfl)
                                          replace d7 := cell_later (Bqj.out) (HC0.out 7 _ rfl)
                                          replace d8 := cell_later (Bqj.out) (HC0.out 8 _ rfl)
                                          replace d9 := cell_later (Bqj.out) (HC0.out 9 _ rfl)
                                          replace d10 := cell_later (Bqj.out) (HC0.out 10 _ rfl)
                                          replace d11 := cell_later (Bqj.out) (HC0.out 11 _ rfl)
                                          replace d12 := cell_later (Bqj.out) (HC0.out 12 _ rfl)
                                          cases tqj with
                                          | false =>
                                            have HF : Hid (r = false) := HB12r.out HTqj.out
                                            go_wp2_with fail
                                            go_ret
                                            exact ⟨by rw [HF.out]; rfl, BW.out.trans (Bqj.out.mono BW.out.size)⟩
                                          | true =>
                                            go_wp2_with fail
                                            refine (Cqk.out _).mono ?_
                                            rintro e WQ ⟨rfl, h⟩
                                            have h := h.symm
                                            subst h
                                            cases tqk with
                                            | false =>
                                              have HF : Hid (r = false) := HB1r.out HTqk.out
                                              go_wp2_with fail
                                              go_ret
                                              exact ⟨by rw [HF.out]; rfl, BW.out.trans (Bqj.out.mono BW.out.size)⟩
                                            | true =>
                                              go_wp2_with fail
                                              refine (Cql.out _).mono ?_
                                              rintro e WQ ⟨rfl, h⟩
                                              have h := h.symm
                                              subst h
                                              cases tql with
                                              | false =>
                                                have HF : Hid (r = false) := HB2r.out HTql.out
                                                go_wp2_with fail
                                                go_ret
                                                exact ⟨by rw [HF.out]; rfl, BW.out.trans (Bqj.out.mono BW.out.size)⟩
                                              | true =>
                                                go_wp2_with fail
                                                refine (Cqm.out _).mono ?_
                                                rintro e WQ ⟨rfl, h⟩
                                                have h := h.symm
                                                subst h
                                                cases tqm with
                                                | false =>
                                                  have HF : Hid (r = false) := HB3r.out HTqm.out
                                                  go_wp2_with fail
                                                  go_ret
                                                  exact ⟨by rw [HF.out]; rfl, BW.out.trans (Bqj.out.mono BW.out.size)⟩
                                                | true =>
                                                  have HF : Hid (r = true) := HGr.out HTqa.out HTqk.out HTql.out HTqm.out (allB_ok HNqb.out HLqb.out HAll1.out) (allB_ok HNqc.out HLqc.out HAll2.out) (allB_ok HNqd.out HLqd.out HAll3.out) (allB_ok HNqe.out HLqe.out HAll4.out) (allB_ok HNqf.out HLqf.out HAll5.out) (allB_ok HNqg.out HLqg.out HSqg.out) (allB_ok HNqh.out HLqh.out HSqh.out) (allB_ok HNqi.out HLqi.out HSqi.out) HTqj.out
                                                  go_wp2_with fail
                                                  go_ret
                                                  exact ⟨by rw [HF.out]; rfl, BW.out.trans (Bqj.out.mono BW.out.size)⟩
end Go.Proofs.Ytchlgihanogeeaa
