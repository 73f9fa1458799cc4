/-
  The reference's Same: partitions. Each statement bears its own conditions.
-/
import Derived.Test.YtchlgihanogeeaaRs2a
import Derived.Test.YtchlgihanogeeaaRs2b
import Derived.Test.YtchlgihanogeeaaRs2c
import Derived.Deep.QuietTactic
import Derived.BigQuiet
import Derived.Deep.DeepCutAuto
import Derived.Deep.RegionHeld3
namespace Go.Proofs.Ytchlgihanogeeaa
open Go.RowKit
set_option linter.unusedVariables false
set_option linter.unusedSimpArgs false
set_option maxRecDepth 100000 in
set_option maxHeartbeats 16000000 in
theorem rsamePartition_core (qa : ByteArray) (qb : List MArea) (qc : List MTask) (qd : List MLock) (qe : List MSema) (qf : List MEvent) (qg : List MBoard) (qh : List MBuffer) (qi : List MPort) (qj : List MRule) (qk : Int) (ql : Int) (qm : Int) (vqb : Value) (vqc : Value) (vqd : Value) (vqe : Value) (vqf : Value) (vqg : Value) (vqh : Value) (vqi : Value) (vqj : Value) (qa' : ByteArray) (qb' : List MArea) (qc' : List MTask) (qd' : List MLock) (qe' : List MSema) (qf' : List MEvent) (qg' : List MBoard) (qh' : List MBuffer) (qi' : List MPort) (qj' : List MRule) (qk' : Int) (ql' : Int) (qm' : Int) (vqb' : Value) (vqc' : Value) (vqd' : Value) (vqe' : Value) (vqf' : Value) (vqg' : Value) (vqh' : Value) (vqi' : Value) (vqj' : Value) (w : World) (hqb : Row w 6 RArea vqb qb) (hqc : Row w 8 RTask vqc qc) (hqd : Row w 2 RLock vqd qd) (hqe : Row w 4 RSema vqe qe) (hqf : Row w 1 REvent vqf qf) (hqg : Row w 2 RBoard vqg qg) (hqh : Row w 4 RBuffer vqh qh) (hqi : Row w 6 RPort vqi qi) (hqj : Row w 3 RRule vqj qj) (hqb' : Row w 6 RArea vqb' qb') (hqc' : Row w 8 RTask vqc' qc') (hqd' : Row w 2 RLock vqd' qd') (hqe' : Row w 4 RSema vqe' qe') (hqf' : Row w 1 REvent vqf' qf') (hqg' : Row w 2 RBoard vqg' qg') (hqh' : Row w 4 RBuffer vqh' qh') (hqi' : Row w 6 RPort vqi' qi') (hqj' : Row w 3 RRule vqj' qj') :
    Calls Try.prog 44 #[.agg #[.string qa, vqb, vqc, vqd, vqe, vqf, vqg, vqh, vqi, vqj, .int .i64 qk, .int .i64 ql, .int .i64 qm], .agg #[.string qa', vqb', vqc', vqd', vqe', vqf', vqg', vqh', vqi', vqj', .int .i64 qk', .int .i64 ql', .int .i64 qm']] w fun e w' => e = .returned (.bool (samePartition ⟨qa, qb, qc, qd, qe, qf, qg, qh, qi, qj, qk, ql, qm⟩ ⟨qa', qb', qc', qd', qe', qf', qg', qh', qi', qj', qk', ql', qm'⟩)) ∧ Below w.heap.size w w' := by
  obtain ⟨aqb, cqb, rfl, hmqb⟩ := hqb.form
  obtain ⟨nqb, hnqb⟩ : ∃ n, qb.length = n := ⟨_, rfl⟩
  rw [hnqb] at hqb hmqb ⊢
  unfold rowMax at hmqb
  have HMqb := Lib.hid hmqb
  clear hmqb
  have HNqb := Lib.hid hnqb
  have H0qb := Lib.hid hqb
  clear hnqb hqb
  obtain ⟨aqc, cqc, rfl, hmqc⟩ := hqc.form
  obtain ⟨nqc, hnqc⟩ : ∃ n, qc.length = n := ⟨_, rfl⟩
  rw [hnqc] at hqc hmqc ⊢
  unfold rowMax at hmqc
  have HMqc := Lib.hid hmqc
  clear hmqc
  have HNqc := Lib.hid hnqc
  have H0qc := Lib.hid hqc
  clear hnqc hqc
  obtain ⟨aqd, cqd, rfl, hmqd⟩ := hqd.form
  obtain ⟨nqd, hnqd⟩ : ∃ n, qd.length = n := ⟨_, rfl⟩
  rw [hnqd] at hqd hmqd ⊢
  unfold rowMax at hmqd
  have HMqd := Lib.hid hmqd
  clear hmqd
  have HNqd := Lib.hid hnqd
  have H0qd := Lib.hid hqd
  clear hnqd hqd
  obtain ⟨aqe, cqe, rfl, hmqe⟩ := hqe.form
  obtain ⟨nqe, hnqe⟩ : ∃ n, qe.length = n := ⟨_, rfl⟩
  rw [hnqe] at hqe hmqe ⊢
  unfold rowMax at hmqe
  have HMqe := Lib.hid hmqe
  clear hmqe
  have HNqe := Lib.hid hnqe
  have H0qe := Lib.hid hqe
  clear hnqe hqe
  obtain ⟨aqf, cqf, rfl, hmqf⟩ := hqf.form
  obtain ⟨nqf, hnqf⟩ : ∃ n, qf.length = n := ⟨_, rfl⟩
  rw [hnqf] at hqf hmqf ⊢
  unfold rowMax at hmqf
  have HMqf := Lib.hid hmqf
  clear hmqf
  have HNqf := Lib.hid hnqf
  have H0qf := Lib.hid hqf
  clear hnqf hqf
  obtain ⟨aqg, cqg, rfl, hmqg⟩ := hqg.form
  obtain ⟨nqg, hnqg⟩ : ∃ n, qg.length = n := ⟨_, rfl⟩
  rw [hnqg] at hqg hmqg ⊢
  unfold rowMax at hmqg
  have HMqg := Lib.hid hmqg
  clear hmqg
  have HNqg := Lib.hid hnqg
  have H0qg := Lib.hid hqg
  clear hnqg hqg
  obtain ⟨aqh, cqh, rfl, hmqh⟩ := hqh.form
  obtain ⟨nqh, hnqh⟩ : ∃ n, qh.length = n := ⟨_, rfl⟩
  rw [hnqh] at hqh hmqh ⊢
  unfold rowMax at hmqh
  have HMqh := Lib.hid hmqh
  clear hmqh
  have HNqh := Lib.hid hnqh
  have H0qh := Lib.hid hqh
  clear hnqh hqh
  obtain ⟨aqi, cqi, rfl, hmqi⟩ := hqi.form
  obtain ⟨nqi, hnqi⟩ : ∃ n, qi.length = n := ⟨_, rfl⟩
  rw [hnqi] at hqi hmqi ⊢
  unfold rowMax at hmqi
  have HMqi := Lib.hid hmqi
  clear hmqi
  have HNqi := Lib.hid hnqi
  have H0qi := Lib.hid hqi
  clear hnqi hqi
  obtain ⟨aqj, cqj, rfl, hmqj⟩ := hqj.form
  obtain ⟨nqj, hnqj⟩ : ∃ n, qj.length = n := ⟨_, rfl⟩
  rw [hnqj] at hqj hmqj ⊢
  unfold rowMax at hmqj
  have HMqj := Lib.hid hmqj
  clear hmqj
  have HNqj := Lib.hid hnqj
  have H0qj := Lib.hid hqj
  clear hnqj hqj
  obtain ⟨aqb', cqb', rfl, hmqb'⟩ := hqb'.form
  obtain ⟨nqb', hnqb'⟩ : ∃ n, qb'.length = n := ⟨_, rfl⟩
  rw [hnqb'] at hqb' hmqb' ⊢
  unfold rowMax at hmqb'
  have HMqb' := Lib.hid hmqb'
  clear hmqb'
  have HNqb' := Lib.hid hnqb'
  have H0qb' := Lib.hid hqb'
  clear hnqb' hqb'
  obtain ⟨aqc', cqc', rfl, hmqc'⟩ := hqc'.form
  obtain ⟨nqc', hnqc'⟩ : ∃ n, qc'.length = n := ⟨_, rfl⟩
  rw [hnqc'] at hqc' hmqc' ⊢
  unfold rowMax at hmqc'
  have HMqc' := Lib.hid hmqc'
  clear hmqc'
  have HNqc' := Lib.hid hnqc'
  have H0qc' := Lib.hid hqc'
  clear hnqc' hqc'
  obtain ⟨aqd', cqd', rfl, hmqd'⟩ := hqd'.form
  obtain ⟨nqd', hnqd'⟩ : ∃ n, qd'.length = n := ⟨_, rfl⟩
  rw [hnqd'] at hqd' hmqd' ⊢
  unfold rowMax at hmqd'
  have HMqd' := Lib.hid hmqd'
  clear hmqd'
  have HNqd' := Lib.hid hnqd'
  have H0qd' := Lib.hid hqd'
  clear hnqd' hqd'
  obtain ⟨aqe', cqe', rfl, hmqe'⟩ := hqe'.form
  obtain ⟨nqe', hnqe'⟩ : ∃ n, qe'.length = n := ⟨_, rfl⟩
  rw [hnqe'] at hqe' hmqe' ⊢
  unfold rowMax at hmqe'
  have HMqe' := Lib.hid hmqe'
  clear hmqe'
  have HNqe' := Lib.hid hnqe'
  have H0qe' := Lib.hid hqe'
  clear hnqe' hqe'
  obtain ⟨aqf', cqf', rfl, hmqf'⟩ := hqf'.form
  obtain ⟨nqf', hnqf'⟩ : ∃ n, qf'.length = n := ⟨_, rfl⟩
  rw [hnqf'] at hqf' hmqf' ⊢
  unfold rowMax at hmqf'
  have HMqf' := Lib.hid hmqf'
  clear hmqf'
  have HNqf' := Lib.hid hnqf'
  have H0qf' := Lib.hid hqf'
  clear hnqf' hqf'
  obtain ⟨aqg', cqg', rfl, hmqg'⟩ := hqg'.form
  obtain ⟨nqg', hnqg'⟩ : ∃ n, qg'.length = n := ⟨_, rfl⟩
  rw [hnqg'] at hqg' hmqg' ⊢
  unfold rowMax at hmqg'
  have HMqg' := Lib.hid hmqg'
  clear hmqg'
  have HNqg' := Lib.hid hnqg'
  have H0qg' := Lib.hid hqg'
  clear hnqg' hqg'
  obtain ⟨aqh', cqh', rfl, hmqh'⟩ := hqh'.form
  obtain ⟨nqh', hnqh'⟩ : ∃ n, qh'.length = n := ⟨_, rfl⟩
  rw [hnqh'] at hqh' hmqh' ⊢
  unfold rowMax at hmqh'
  have HMqh' := Lib.hid hmqh'
  clear hmqh'
  have HNqh' := Lib.hid hnqh'
  have H0qh' := Lib.hid hqh'
  clear hnqh' hqh'
  obtain ⟨aqi', cqi', rfl, hmqi'⟩ := hqi'.form
  obtain ⟨nqi', hnqi'⟩ : ∃ n, qi'.length = n := ⟨_, rfl⟩
  rw [hnqi'] at hqi' hmqi' ⊢
  unfold rowMax at hmqi'
  have HMqi' := Lib.hid hmqi'
  clear hmqi'
  have HNqi' := Lib.hid hnqi'
  have H0qi' := Lib.hid hqi'
  clear hnqi' hqi'
  obtain ⟨aqj', cqj', rfl, hmqj'⟩ := hqj'.form
  obtain ⟨nqj', hnqj'⟩ : ∃ n, qj'.length = n := ⟨_, rfl⟩
  rw [hnqj'] at hqj' hmqj' ⊢
  unfold rowMax at hmqj'
  have HMqj' := Lib.hid hmqj'
  clear hmqj'
  have HNqj' := Lib.hid hnqj'
  have H0qj' := Lib.hid hqj'
  clear hnqj' hqj'
  obtain ⟨r, hr⟩ : ∃ r, samePartition ⟨qa, qb, qc, qd, qe, qf, qg, qh, qi, qj, qk, ql, qm⟩ ⟨qa', qb', qc', qd', qe', qf', qg', qh', qi', qj', qk', ql', qm'⟩ = r := ⟨_, rfl⟩
  rw [hr]
  have HB0r : Hid (decide (qa = qa') = false → r = false) := fun h => by rw [← hr]; unfold samePartition; dsimp only; rw [h]; simp
  have HB1r : Hid (decide (qk = qk') = false → r = false) := fun h => by rw [← hr]; unfold samePartition; dsimp only; rw [h]; simp
  have HB2r : Hid (sameBudget ⟨ql, qm⟩ ⟨ql', qm'⟩ = false → r = false) := fun h => by rw [← hr]; unfold samePartition; dsimp only; rw [h]; simp
  have HB3r : Hid (eqB sameArea qb qb' = false → r = false) := fun h => by rw [← hr]; unfold samePartition; dsimp only; rw [h]; simp
  have HB4r : Hid (eqB sameTask qc qc' = false → r = false) := fun h => by rw [← hr]; unfold samePartition; dsimp only; rw [h]; simp
  have HB5r : Hid (eqB sameLock qd qd' = false → r = false) := fun h => by rw [← hr]; unfold samePartition; dsimp only; rw [h]; simp
  have HB6r : Hid (eqB sameSema qe qe' = false → r = false) := fun h => by rw [← hr]; unfold samePartition; dsimp only; rw [h]; simp
  have HB7r : Hid (eqB sameEvent qf qf' = false → r = false) := fun h => by rw [← hr]; unfold samePartition; dsimp only; rw [h]; simp
  have HB8r : Hid (eqB sameBoard qg qg' = false → r = false) := fun h => by rw [← hr]; unfold samePartition; dsimp only; rw [h]; simp
  have HB9r : Hid (eqB sameBuffer qh qh' = false → r = false) := fun h => by rw [← hr]; unfold samePartition; dsimp only; rw [h]; simp
  have HB10r : Hid (eqB samePort qi qi' = false → r = false) := fun h => by rw [← hr]; unfold samePartition; dsimp only; rw [h]; simp
  have HB11r : Hid (eqB sameRule qj qj' = false → r = false) := fun h => by rw [← hr]; unfold samePartition; dsimp only; rw [h]; simp
  have HGr : Hid (decide (qa = qa') = true → decide (qk = qk') = true → sameBudget ⟨ql, qm⟩ ⟨ql', qm'⟩ = true → eqB sameArea qb qb' = true → eqB sameTask qc qc' = true → eqB sameLock qd qd' = true → eqB sameSema qe qe' = true → eqB sameEvent qf qf' = true → eqB sameBoard qg qg' = true → eqB sameBuffer qh qh' = true → eqB samePort qi qi' = true → eqB sameRule qj qj' = true → r = true) := by
    intro z0 z1 z2 z3 z4 z5 z6 z7 z8 z9 z10 z11
    rw [← hr]; unfold samePartition; dsimp only; rw [z0, z1, z2, z3, z4, z5, z6, z7, z8, z9, z10, z11]; rfl
  clear hr
  obtain ⟨t0, h0⟩ : ∃ t : Bool, decide (qa = qa') = t := ⟨_, rfl⟩
  have HT0 := Lib.hid h0
  have C0 : (qa.toList == qa'.toList) = t0 := by rw [str_eq]; exact h0
  have D0 : (qa.toList != qa'.toList) = !t0 := by rw [bne, C0]
  clear h0
  obtain ⟨t1, h1⟩ : ∃ t : Bool, decide (qk = qk') = t := ⟨_, rfl⟩
  have HT1 := Lib.hid h1
  have C1 : (qk == qk') = t1 := h1
  have D1 : (qk != qk') = !t1 := by rw [bne, C1]
  clear h1
  obtain ⟨t2, h2⟩ : ∃ t : Bool, sameBudget ⟨ql, qm⟩ ⟨ql', qm'⟩ = t := ⟨_, rfl⟩
  have HT2 := Lib.hid h2
  have D2 : ∀ W, (binOp .neq 50 (.agg #[.int .i64 ql, .int .i64 qm]) (.agg #[.int .i64 ql', .int .i64 qm'])).run Try.prog W = .ok (.bool (!t2)) W := fun W => by rw [← h2]; exact neqBudget ql qm ql' qm' W
  clear h2
  obtain ⟨t11, h11⟩ : ∃ t : Bool, eqB sameRule qj qj' = t := ⟨_, rfl⟩
  have HT11 := Lib.hid h11
  have C11 : Hid (∀ W, Below w.heap.size w W → Calls Try.prog 43 #[.slice aqj nqj cqj, .slice aqj' nqj' cqj'] W fun e w' => e = .returned (.bool t11) ∧ Below W.heap.size W w') := fun W hB => by rw [← h11]; exact rsameRules_any _ _ qj qj' W (H0qj.out.below hB) (H0qj'.out.below hB)
  clear h11
  cases t0 with
  | false =>
    simp only [Bool.not_false] at D0
    have HF : Hid (r = false) := HB0r.out HT0.out
    refine (rsamePartition_core_f0 qa qa' qk qk' ql ql' qm qm' aqb aqb' cqb cqb' nqb nqb' aqc aqc' cqc cqc' nqc nqc' aqd aqd' cqd cqd' nqd nqd' aqe aqe' cqe cqe' nqe nqe' aqf aqf' cqf cqf' nqf nqf' aqg aqg' cqg cqg' nqg nqg' aqh aqh' cqh cqh' nqh nqh' aqi aqi' cqi cqi' nqi nqi' aqj aqj' cqj cqj' nqj nqj' w C0 D0).mono fun e w' h => ?_
    rw [HF.out]
    exact h
  | true =>
    simp only [Bool.not_true] at D0
    cases t1 with
    | false =>
      simp only [Bool.not_false] at D1
      have HF : Hid (r = false) := HB1r.out HT1.out
      refine (rsamePartition_core_f1 qa qa' qk qk' ql ql' qm qm' aqb aqb' cqb cqb' nqb nqb' aqc aqc' cqc cqc' nqc nqc' aqd aqd' cqd cqd' nqd nqd' aqe aqe' cqe cqe' nqe nqe' aqf aqf' cqf cqf' nqf nqf' aqg aqg' cqg cqg' nqg nqg' aqh aqh' cqh cqh' nqh nqh' aqi aqi' cqi cqi' nqi nqi' aqj aqj' cqj cqj' nqj nqj' w C0 D0 C1 D1).mono fun e w' h => ?_
      rw [HF.out]
      exact h
    | true =>
      simp only [Bool.not_true] at D1
      cases t2 with
      | false =>
        simp only [Bool.not_false] at D2
        have HF : Hid (r = false) := HB2r.out HT2.out
        refine (rsamePartition_core_f2 qa qa' qk qk' ql ql' qm qm' aqb aqb' cqb cqb' nqb nqb' aqc aqc' cqc cqc' nqc nqc' aqd aqd' cqd cqd' nqd nqd' aqe aqe' cqe cqe' nqe nqe' aqf aqf' cqf cqf' nqf nqf' aqg aqg' cqg cqg' nqg nqg' aqh aqh' cqh cqh' nqh nqh' aqi aqi' cqi cqi' nqi nqi' aqj aqj' cqj cqj' nqj nqj' w C0 D0 C1 D1 D2).mono fun e w' h => ?_
        rw [HF.out]
        exact h
      | true =>
        simp only [Bool.not_true] at D2
        by_cases hlqb : nqb = nqb'
        case neg =>
          have hlB : ((nqb : Int) == (nqb' : Int)) = false := by rw [beq_eq_false_iff_ne]; omega
          have hlC : ((nqb : Int) != (nqb' : Int)) = true := by rw [bne_iff_ne]; omega
          have HF : Hid (r = false) := HB3r.out (eqB_len HNqb.out HNqb'.out hlqb)
          clear hlqb
          refine (rsamePartition_core_f3 qa qa' qk qk' ql ql' qm qm' aqb aqb' cqb cqb' nqb nqb' aqc aqc' cqc cqc' nqc nqc' aqd aqd' cqd cqd' nqd nqd' aqe aqe' cqe cqe' nqe nqe' aqf aqf' cqf cqf' nqf nqf' aqg aqg' cqg cqg' nqg nqg' aqh aqh' cqh cqh' nqh nqh' aqi aqi' cqi cqi' nqi nqi' aqj aqj' cqj cqj' nqj nqj' w C0 D0 C1 D1 D2 hlB hlC).mono fun e w' h => ?_
          rw [HF.out]
          exact h
        subst hlqb
        by_cases hlqc : nqc = nqc'
        case neg =>
          have hlB : ((nqc : Int) == (nqc' : Int)) = false := by rw [beq_eq_false_iff_ne]; omega
          have hlC : ((nqc : Int) != (nqc' : Int)) = true := by rw [bne_iff_ne]; omega
          have HF : Hid (r = false) := HB4r.out (eqB_len HNqc.out HNqc'.out hlqc)
          clear hlqc
          refine (rsamePartition_core_f4 qa qa' qk qk' ql ql' qm qm' aqb aqb' cqb cqb' nqb aqc aqc' cqc cqc' nqc nqc' aqd aqd' cqd cqd' nqd nqd' aqe aqe' cqe cqe' nqe nqe' aqf aqf' cqf cqf' nqf nqf' aqg aqg' cqg cqg' nqg nqg' aqh aqh' cqh cqh' nqh nqh' aqi aqi' cqi cqi' nqi nqi' aqj aqj' cqj cqj' nqj nqj' w C0 D0 C1 D1 D2 hlB hlC).mono fun e w' h => ?_
          rw [HF.out]
          exact h
        subst hlqc
        by_cases hlqd : nqd = nqd'
        case neg =>
          have hlB : ((nqd : Int) == (nqd' : Int)) = false := by rw [beq_eq_false_iff_ne]; omega
          have hlC : ((nqd : Int) != (nqd' : Int)) = true := by rw [bne_iff_ne]; omega
          have HF : Hid (r = false) := HB5r.out (eqB_len HNqd.out HNqd'.out hlqd)
          clear hlqd
          refine (rsamePartition_core_f5 qa qa' qk qk' ql ql' qm qm' aqb aqb' cqb cqb' nqb aqc aqc' cqc cqc' nqc aqd aqd' cqd cqd' nqd nqd' aqe aqe' cqe cqe' nqe nqe' aqf aqf' cqf cqf' nqf nqf' aqg aqg' cqg cqg' nqg nqg' aqh aqh' cqh cqh' nqh nqh' aqi aqi' cqi cqi' nqi nqi' aqj aqj' cqj cqj' nqj nqj' w C0 D0 C1 D1 D2 hlB hlC).mono fun e w' h => ?_
          rw [HF.out]
          exact h
        subst hlqd
        by_cases hlqe : nqe = nqe'
        case neg =>
          have hlB : ((nqe : Int) == (nqe' : Int)) = false := by rw [beq_eq_false_iff_ne]; omega
          have hlC : ((nqe : Int) != (nqe' : Int)) = true := by rw [bne_iff_ne]; omega
          have HF : Hid (r = false) := HB6r.out (eqB_len HNqe.out HNqe'.out hlqe)
          clear hlqe
          refine (rsamePartition_core_f6 qa qa' qk qk' ql ql' qm qm' aqb aqb' cqb cqb' nqb aqc aqc' cqc cqc' nqc aqd aqd' cqd cqd' nqd aqe aqe' cqe cqe' nqe nqe' aqf aqf' cqf cqf' nqf nqf' aqg aqg' cqg cqg' nqg nqg' aqh aqh' cqh cqh' nqh nqh' aqi aqi' cqi cqi' nqi nqi' aqj aqj' cqj cqj' nqj nqj' w C0 D0 C1 D1 D2 hlB hlC).mono fun e w' h => ?_
          rw [HF.out]
          exact h
        subst hlqe
        by_cases hlqf : nqf = nqf'
        case neg =>
          have hlB : ((nqf : Int) == (nqf' : Int)) = false := by rw [beq_eq_false_iff_ne]; omega
          have hlC : ((nqf : Int) != (nqf' : Int)) = true := by rw [bne_iff_ne]; omega
          have HF : Hid (r = false) := HB7r.out (eqB_len HNqf.out HNqf'.out hlqf)
          clear hlqf
          refine (rsamePartition_core_f7 qa qa' qk qk' ql ql' qm qm' aqb aqb' cqb cqb' nqb aqc aqc' cqc cqc' nqc aqd aqd' cqd cqd' nqd aqe aqe' cqe cqe' nqe aqf aqf' cqf cqf' nqf nqf' aqg aqg' cqg cqg' nqg nqg' aqh aqh' cqh cqh' nqh nqh' aqi aqi' cqi cqi' nqi nqi' aqj aqj' cqj cqj' nqj nqj' w C0 D0 C1 D1 D2 hlB hlC).mono fun e w' h => ?_
          rw [HF.out]
          exact h
        subst hlqf
        by_cases hlqg : nqg = nqg'
        case neg =>
          have hlB : ((nqg : Int) == (nqg' : Int)) = false := by rw [beq_eq_false_iff_ne]; omega
          have hlC : ((nqg : Int) != (nqg' : Int)) = true := by rw [bne_iff_ne]; omega
          have HF : Hid (r = false) := HB8r.out (eqB_len HNqg.out HNqg'.out hlqg)
          clear hlqg
          refine (rsamePartition_core_f8 qa qa' qk qk' ql ql' qm qm' aqb aqb' cqb cqb' nqb aqc aqc' cqc cqc' nqc aqd aqd' cqd cqd' nqd aqe aqe' cqe cqe' nqe aqf aqf' cqf cqf' nqf aqg aqg' cqg cqg' nqg nqg' aqh aqh' cqh cqh' nqh nqh' aqi aqi' cqi cqi' nqi nqi' aqj aqj' cqj cqj' nqj nqj' w C0 D0 C1 D1 D2 hlB hlC).mono fun e w' h => ?_
          rw [HF.out]
          exact h
        subst hlqg
        by_cases hlqh : nqh = nqh'
        case neg =>
          have hlB : ((nqh : Int) == (nqh' : Int)) = false := by rw [beq_eq_false_iff_ne]; omega
          have hlC : ((nqh : Int) != (nqh' : Int)) = true := by rw [bne_iff_ne]; omega
          have HF : Hid (r = false) := HB9r.out (eqB_len HNqh.out HNqh'.out hlqh)
          clear hlqh
          refine (rsamePartition_core_f9 qa qa' qk qk' ql ql' qm qm' aqb aqb' cqb cqb' nqb aqc aqc' cqc cqc' nqc aqd aqd' cqd cqd' nqd aqe aqe' cqe cqe' nqe aqf aqf' cqf cqf' nqf aqg aqg' cqg cqg' nqg aqh aqh' cqh cqh' nqh nqh' aqi aqi' cqi cqi' nqi nqi' aqj aqj' cqj cqj' nqj nqj' w C0 D0 C1 D1 D2 hlB hlC).mono fun e w' h => ?_
          rw [HF.out]
          exact h
        subst hlqh
        by_cases hlqi : nqi = nqi'
        case neg =>
          have hlB : ((nqi : Int) == (nqi' : Int)) = false := by rw [beq_eq_false_iff_ne]; omega
          have hlC : ((nqi : Int) != (nqi' : Int)) = true := by rw [bne_iff_ne]; omega
          have HF : Hid (r = false) := HB10r.out (eqB_len HNqi.out HNqi'.out hlqi)
          clear hlqi
          refine (rsamePartition_core_f10 qa qa' qk qk' ql ql' qm qm' aqb aqb' cqb cqb' nqb aqc aqc' cqc cqc' nqc aqd aqd' cqd cqd' nqd aqe aqe' cqe cqe' nqe aqf aqf' cqf cqf' nqf aqg aqg' cqg cqg' nqg aqh aqh' cqh cqh' nqh aqi aqi' cqi cqi' nqi nqi' aqj aqj' cqj cqj' nqj nqj' w C0 D0 C1 D1 D2 hlB hlC).mono fun e w' h => ?_
          rw [HF.out]
          exact h
        subst hlqi
        go_enter Try.func44, Try.ntmps44
        go_wp2_with fail
        obtain ⟨W0, hW0⟩ : ∃ W0, (w.alloc (.cells #[.string qa, .slice aqb nqb cqb, .slice aqc nqc cqc, .slice aqd nqd cqd, .slice aqe nqe cqe, .slice aqf nqf cqf, .slice aqg nqg cqg, .slice aqh nqh cqh, .slice aqi nqi cqi, .slice aqj nqj cqj, .int .i64 qk, .int .i64 ql, .int .i64 qm] 52)).alloc (.cells #[.string qa', .slice aqb' nqb cqb', .slice aqc' nqc cqc', .slice aqd' nqd cqd', .slice aqe' nqe cqe', .slice aqf' nqf cqf', .slice aqg' nqg cqg', .slice aqh' nqh cqh', .slice aqi' nqi cqi', .slice aqj' nqj' cqj', .int .i64 qk', .int .i64 ql', .int .i64 qm'] 52) = W0 := ⟨_, rfl⟩
        have HX : Hid (∀ (j : Nat) u, [.string qa, .slice aqb nqb cqb, .slice aqc nqc cqc, .slice aqd nqd cqd, .slice aqe nqe cqe, .slice aqf nqf cqf, .slice aqg nqg cqg, .slice aqh nqh cqh, .slice aqi nqi cqi, .slice aqj nqj cqj, .int .i64 qk, .int .i64 ql, .int .i64 qm][j]? = some u → W0.cell? ⟨w.heap.size, j, none⟩ = some u) := fun j u hu => by rw [← hW0]; exact cell_al _ (by rw [World.cell?_alloc_new]; simpa using hu)
        have HY : Hid (∀ (j : Nat) u, [.string qa', .slice aqb' nqb cqb', .slice aqc' nqc cqc', .slice aqd' nqd cqd', .slice aqe' nqe cqe', .slice aqf' nqf cqf', .slice aqg' nqg cqg', .slice aqh' nqh cqh', .slice aqi' nqi cqi', .slice aqj' nqj' cqj', .int .i64 qk', .int .i64 ql', .int .i64 qm'][j]? = some u → W0.cell? ⟨w.heap.size + 1, j, none⟩ = some u) := fun j u hu => by rw [← hW0, show w.heap.size + 1 = (w.alloc (.cells #[.string qa, .slice aqb nqb cqb, .slice aqc nqc cqc, .slice aqd nqd cqd, .slice aqe nqe cqe, .slice aqf nqf cqf, .slice aqg nqg cqg, .slice aqh nqh cqh, .slice aqi nqi cqi, .slice aqj nqj cqj, .int .i64 qk, .int .i64 ql, .int .i64 qm] 52)).heap.size by simp, World.cell?_alloc_new]; simpa using hu
        have BW : Hid (Below w.heap.size w W0) := by rw [← hW0]; exact ((Below.refl _ _).alloc (Nat.le_refl _) _).alloc (by simp) _
        have HRqb : Hid (Row W0 6 RArea (.slice aqb nqb cqb) qb) := H0qb.out.below BW.out
        have HRqb' : Hid (Row W0 6 RArea (.slice aqb' nqb cqb') qb') := H0qb'.out.below BW.out
        have HRqc : Hid (Row W0 8 RTask (.slice aqc nqc cqc) qc) := H0qc.out.below BW.out
        have HRqc' : Hid (Row W0 8 RTask (.slice aqc' nqc cqc') qc') := H0qc'.out.below BW.out
        have HRqd : Hid (Row W0 2 RLock (.slice aqd nqd cqd) qd) := H0qd.out.below BW.out
        have HRqd' : Hid (Row W0 2 RLock (.slice aqd' nqd cqd') qd') := H0qd'.out.below BW.out
        have HRqe : Hid (Row W0 4 RSema (.slice aqe nqe cqe) qe) := H0qe.out.below BW.out
        have HRqe' : Hid (Row W0 4 RSema (.slice aqe' nqe cqe') qe') := H0qe'.out.below BW.out
        have HRqf : Hid (Row W0 1 REvent (.slice aqf nqf cqf) qf) := H0qf.out.below BW.out
        have HRqf' : Hid (Row W0 1 REvent (.slice aqf' nqf cqf') qf') := H0qf'.out.below BW.out
        have HRqg : Hid (Row W0 2 RBoard (.slice aqg nqg cqg) qg) := H0qg.out.below BW.out
        have HRqg' : Hid (Row W0 2 RBoard (.slice aqg' nqg cqg') qg') := H0qg'.out.below BW.out
        have HRqh : Hid (Row W0 4 RBuffer (.slice aqh nqh cqh) qh) := H0qh.out.below BW.out
        have HRqh' : Hid (Row W0 4 RBuffer (.slice aqh' nqh cqh') qh') := H0qh'.out.below BW.out
        have HRqi : Hid (Row W0 6 RPort (.slice aqi nqi cqi) qi) := H0qi.out.below BW.out
        have HRqi' : Hid (Row W0 6 RPort (.slice aqi' nqi cqi') qi') := H0qi'.out.below BW.out
        have HRqj : Hid (Row W0 3 RRule (.slice aqj nqj cqj) qj) := H0qj.out.below BW.out
        have HRqj' : Hid (Row W0 3 RRule (.slice aqj' nqj' cqj') qj') := H0qj'.out.below BW.out
        rw [hW0]
        clear hW0
        with_reducible refine (C11.out _ BW.out).mono ?_
        rintro e W1 ⟨rfl, b⟩
        have B1 : Hid (Below W0.heap.size W0 W1) := b
        clear b
        clear C0 D0 C1 D1 D2
        cases t11 with
        | false =>
          have HF : Hid (r = false) := HB11r.out HT11.out
          go_wp2_with fail
          go_ret
          exact ⟨by rw [HF.out]; rfl, BW.out.trans (B1.out.mono BW.out.size)⟩
        | true =>
          go_wp2_with fail
          go_loopw [5] (fun v wr => ERel sameArea nqb qb qb' W0 v wr) (fun v => fun _ => nqb - (intOf v).toNat)
          case atStart => exact ERel.start B1.out
          case round =>
            clear B1
            obtain ⟨⟨k1, hk, rfl, hall, hb⟩⟩ := hrel
            obtain ⟨wo1, hwo⟩ : ∃ wo, wo = wr := ⟨_, rfl⟩
            subst hwo
            have HK1 := Lib.hid hk
            have HA1 := Lib.hid hall
            have HB1 := Lib.hid hb
            clear hk hall hb
            have dn1 : wo1.cell? ⟨w.heap.size, 1, none⟩ = some (.slice aqb nqb cqb) := cell_later HB1.out (HX.out 1 _ rfl)
            have en1 : wo1.cell? ⟨w.heap.size + 1, 1, none⟩ = some (.slice aqb' nqb cqb') := cell_later HB1.out (HY.out 1 _ rfl)
            by_cases hlt : k1 < nqb
            · have hkI1 : (k1 : Int) < (nqb : Int) := by omega
              have HX1 : Hid (k1 < nqb) := hlt
              have hnb1 := HMqb.out
              obtain ⟨hnx, b1, off1, x, cs, hax, hbl, hx, hR, _, hc⟩ := HRqb.out.at_ k1 hlt
              clear hnx hbl
              subst hax
              have HxS1 := Lib.hid hx
              clear hx
              obtain ⟨qa_1, qb_1, qc_1, qd_1, qe_1, qf_1⟩ := x
              obtain ⟨rfl, _⟩ := hR
              have e0_1 : wo1.cell? ⟨b1, off1 + k1 * 6, none⟩ = some (.string qa_1) := cell_later HB1.out (hc 0 _ rfl)
              have e1_1 : wo1.cell? ⟨b1, off1 + k1 * 6 + 1, none⟩ = some (.int .i64 qb_1) := cell_later HB1.out (hc 1 _ rfl)
              have e2_1 : wo1.cell? ⟨b1, off1 + k1 * 6 + 2, none⟩ = some (.int .i64 qc_1) := cell_later HB1.out (hc 2 _ rfl)
              have e3_1 : wo1.cell? ⟨b1, off1 + k1 * 6 + 3, none⟩ = some (.bool qd_1) := cell_later HB1.out (hc 3 _ rfl)
              have e4_1 : wo1.cell? ⟨b1, off1 + k1 * 6 + 4, none⟩ = some (.bool qe_1) := cell_later HB1.out (hc 4 _ rfl)
              have e5_1 : wo1.cell? ⟨b1, off1 + k1 * 6 + 5, none⟩ = some (.bool qf_1) := cell_later HB1.out (hc 5 _ rfl)
              clear hc
              obtain ⟨hnx, b'1, off'1, y, cs', hax, hbl, hy, hR', _, hc'⟩ := HRqb'.out.at_ k1 hlt
              clear hnx hbl
              subst hax
              have HyS1 := Lib.hid hy
              clear hy
              obtain ⟨qa_1', qb_1', qc_1', qd_1', qe_1', qf_1'⟩ := y
              obtain ⟨rfl, _⟩ := hR'
              have f0_1 : wo1.cell? ⟨b'1, off'1 + k1 * 6, none⟩ = some (.string qa_1') := cell_later HB1.out (hc' 0 _ rfl)
              have f1_1 : wo1.cell? ⟨b'1, off'1 + k1 * 6 + 1, none⟩ = some (.int .i64 qb_1') := cell_later HB1.out (hc' 1 _ rfl)
              have f2_1 : wo1.cell? ⟨b'1, off'1 + k1 * 6 + 2, none⟩ = some (.int .i64 qc_1') := cell_later HB1.out (hc' 2 _ rfl)
              have f3_1 : wo1.cell? ⟨b'1, off'1 + k1 * 6 + 3, none⟩ = some (.bool qd_1') := cell_later HB1.out (hc' 3 _ rfl)
              have f4_1 : wo1.cell? ⟨b'1, off'1 + k1 * 6 + 4, none⟩ = some (.bool qe_1') := cell_later HB1.out (hc' 4 _ rfl)
              have f5_1 : wo1.cell? ⟨b'1, off'1 + k1 * 6 + 5, none⟩ = some (.bool qf_1') := cell_later HB1.out (hc' 5 _ rfl)
              clear hc'
              obtain ⟨t1, ht⟩ : ∃ t, sameArea ⟨qa_1, qb_1, qc_1, qd_1, qe_1, qf_1⟩ ⟨qa_1', qb_1', qc_1', qd_1', qe_1', qf_1'⟩ = t := ⟨_, rfl⟩
              have HT1 := Lib.hid ht
              have RUN : ∀ W, (binOp .neq 107 (.agg #[.string qa_1, .int .i64 qb_1, .int .i64 qc_1, .bool qd_1, .bool qe_1, .bool qf_1]) (.agg #[.string qa_1', .int .i64 qb_1', .int .i64 qc_1', .bool qd_1', .bool qe_1', .bool qf_1'])).run Try.prog W = .ok (.bool (!t1)) W := fun W => by rw [← ht]; exact neqArea qa_1 qb_1 qc_1 qd_1 qe_1 qf_1 qa_1' qb_1' qc_1' qd_1' qe_1' qf_1' W
              clear ht hlt
              go_wp2_with fail
              go_quiet (fail)
              clear RUN e0_1 f0_1 e1_1 f1_1 e2_1 f2_1 e3_1 f3_1 e4_1 f4_1 e5_1 f5_1
              cases t1 with
              | true =>
                go_wp2_with fail
                go_roundw
                case rel =>
                  have Q : ∀ N, ERel sameArea nqb qb qb' W0 (.int .i64 ((k1 : Int) + 1)) (wo1.drewN N) := fun N => ERel.next HX1.out HxS1.out HyS1.out HT1.out HA1.out (below_drewN HB1.out N)
                  first | exact Q _ | ((repeat apply Exists.intro); exact ⟨Q _, rfl⟩)
                case measure => have := HX1.out; simp [intOf]; omega
              | false =>
                have HE : Hid (eqB sameArea qb qb' = false) := eqB_el HxS1.out HyS1.out HT1.out
                go_wp2_with fail
                have BE : ∀ N, Below W0.heap.size W0 (wo1.drewN N) := fun N => below_drewN HB1.out N
                have HF : Hid (r = false) := HB3r.out HE.out
                go_ret
                exact ⟨by rw [HF.out]; rfl, BW.out.trans (Below.mono (BE _) BW.out.size)⟩
            · have hkI1 : ¬ (k1 : Int) < (nqb : Int) := by omega
              have HAll1 : Hid (eqB sameArea qb qb' = true) := eqB_ok HNqb.out HNqb'.out HK1.out hlt HA1.out
              clear hlt HK1 HA1
              go_wp2_with fail
              go_loopw [6] (fun v wr => ERel sameTask nqc qc qc' W0 v wr) (fun v => fun _ => nqc - (intOf v).toNat)
              case atStart => exact ERel.start HB1.out
              case round =>
                clear HB1
                obtain ⟨⟨k2, hk, rfl, hall, hb⟩⟩ := hrel
                obtain ⟨wo2, hwo⟩ : ∃ wo, wo = wr := ⟨_, rfl⟩
                subst hwo
                have HK2 := Lib.hid hk
                have HA2 := Lib.hid hall
                have HB2 := Lib.hid hb
                clear hk hall hb
                have dn2 : wo2.cell? ⟨w.heap.size, 2, none⟩ = some (.slice aqc nqc cqc) := cell_later HB2.out (HX.out 2 _ rfl)
                have en2 : wo2.cell? ⟨w.heap.size + 1, 2, none⟩ = some (.slice aqc' nqc cqc') := cell_later HB2.out (HY.out 2 _ rfl)
                by_cases hlt : k2 < nqc
                · have hkI2 : (k2 : Int) < (nqc : Int) := by omega
                  have HX2 : Hid (k2 < nqc) := hlt
                  have hnb2 := HMqc.out
                  obtain ⟨hnx, b2, off2, x, cs, hax, hbl, hx, hR, _, hc⟩ := HRqc.out.at_ k2 hlt
                  clear hnx hbl
                  subst hax
                  have HxS2 := Lib.hid hx
                  clear hx
                  obtain ⟨qa_2, qb_2, qc_2, qd_2, qe_2, qf_2, qg_2, qh_2⟩ := x
                  obtain ⟨rfl, _⟩ := hR
                  have e0_2 : wo2.cell? ⟨b2, off2 + k2 * 8, none⟩ = some (.string qa_2) := cell_later HB2.out (hc 0 _ rfl)
                  have e1_2 : wo2.cell? ⟨b2, off2 + k2 * 8 + 1, none⟩ = some (.int .i64 qb_2) := cell_later HB2.out (hc 1 _ rfl)
                  have e2_2 : wo2.cell? ⟨b2, off2 + k2 * 8 + 2, none⟩ = some (.int .i64 qc_2) := cell_later HB2.out (hc 2 _ rfl)
                  have e3_2 : wo2.cell? ⟨b2, off2 + k2 * 8 + 3, none⟩ = some (.int .i64 qd_2) := cell_later HB2.out (hc 3 _ rfl)
                  have e4_2 : wo2.cell? ⟨b2, off2 + k2 * 8 + 4, none⟩ = some (.int .i64 qe_2) := cell_later HB2.out (hc 4 _ rfl)
                  have e5_2 : wo2.cell? ⟨b2, off2 + k2 * 8 + 5, none⟩ = some (.int .i64 qf_2) := cell_later HB2.out (hc 5 _ rfl)
                  have e6_2 : wo2.cell? ⟨b2, off2 + k2 * 8 + 6, none⟩ = some (.int .i64 qg_2) := cell_later HB2.out (hc 6 _ rfl)
                  have e7_2 : wo2.cell? ⟨b2, off2 + k2 * 8 + 7, none⟩ = some (.int .i64 qh_2) := cell_later HB2.out (hc 7 _ rfl)
                  clear hc
                  obtain ⟨hnx, b'2, off'2, y, cs', hax, hbl, hy, hR', _, hc'⟩ := HRqc'.out.at_ k2 hlt
                  clear hnx hbl
                  subst hax
                  have HyS2 := Lib.hid hy
                  clear hy
                  obtain ⟨qa_2', qb_2', qc_2', qd_2', qe_2', qf_2', qg_2', qh_2'⟩ := y
                  obtain ⟨rfl, _⟩ := hR'
                  have f0_2 : wo2.cell? ⟨b'2, off'2 + k2 * 8, none⟩ = some (.string qa_2') := cell_later HB2.out (hc' 0 _ rfl)
                  have f1_2 : wo2.cell? ⟨b'2, off'2 + k2 * 8 + 1, none⟩ = some (.int .i64 qb_2') := cell_later HB2.out (hc' 1 _ rfl)
                  have f2_2 : wo2.cell? ⟨b'2, off'2 + k2 * 8 + 2, none⟩ = some (.int .i64 qc_2') := cell_later HB2.out (hc' 2 _ rfl)
                  have f3_2 : wo2.cell? ⟨b'2, off'2 + k2 * 8 + 3, none⟩ = some (.int .i64 qd_2') := cell_later HB2.out (hc' 3 _ rfl)
                  have f4_2 : wo2.cell? ⟨b'2, off'2 + k2 * 8 + 4, none⟩ = some (.int .i64 qe_2') := cell_later HB2.out (hc' 4 _ rfl)
                  have f5_2 : wo2.cell? ⟨b'2, off'2 + k2 * 8 + 5, none⟩ = some (.int .i64 qf_2') := cell_later HB2.out (hc' 5 _ rfl)
                  have f6_2 : wo2.cell? ⟨b'2, off'2 + k2 * 8 + 6, none⟩ = some (.int .i64 qg_2') := cell_later HB2.out (hc' 6 _ rfl)
                  have f7_2 : wo2.cell? ⟨b'2, off'2 + k2 * 8 + 7, none⟩ = some (.int .i64 qh_2') := cell_later HB2.out (hc' 7 _ rfl)
                  clear hc'
                  obtain ⟨t2, ht⟩ : ∃ t, sameTask ⟨qa_2, qb_2, qc_2, qd_2, qe_2, qf_2, qg_2, qh_2⟩ ⟨qa_2', qb_2', qc_2', qd_2', qe_2', qf_2', qg_2', qh_2'⟩ = t := ⟨_, rfl⟩
                  have HT2 := Lib.hid ht
                  have RUN : ∀ W, (binOp .neq 109 (.agg #[.string qa_2, .int .i64 qb_2, .int .i64 qc_2, .int .i64 qd_2, .int .i64 qe_2, .int .i64 qf_2, .int .i64 qg_2, .int .i64 qh_2]) (.agg #[.string qa_2', .int .i64 qb_2', .int .i64 qc_2', .int .i64 qd_2', .int .i64 qe_2', .int .i64 qf_2', .int .i64 qg_2', .int .i64 qh_2'])).run Try.prog W = .ok (.bool (!t2)) W := fun W => by rw [← ht]; exact neqTask qa_2 qb_2 qc_2 qd_2 qe_2 qf_2 qg_2 qh_2 qa_2' qb_2' qc_2' qd_2' qe_2' qf_2' qg_2' qh_2' W
                  clear ht hlt
                  go_wp2_with fail
                  go_quiet (fail)
                  clear RUN e0_2 f0_2 e1_2 f1_2 e2_2 f2_2 e3_2 f3_2 e4_2 f4_2 e5_2 f5_2 e6_2 f6_2 e7_2 f7_2
                  cases t2 with
                  | true =>
                    go_wp2_with fail
                    go_roundw
                    case rel =>
                      have Q : ∀ N, ERel sameTask nqc qc qc' W0 (.int .i64 ((k2 : Int) + 1)) (wo2.drewN N) := fun N => ERel.next HX2.out HxS2.out HyS2.out HT2.out HA2.out (below_drewN HB2.out N)
                      first | exact Q _ | ((repeat apply Exists.intro); exact ⟨Q _, rfl⟩)
                    case measure => have := HX2.out; simp [intOf]; omega
                  | false =>
                    have HE : Hid (eqB sameTask qc qc' = false) := eqB_el HxS2.out HyS2.out HT2.out
                    go_wp2_with fail
                    have BE : ∀ N, Below W0.heap.size W0 (wo2.drewN N) := fun N => below_drewN HB2.out N
                    have HF : Hid (r = false) := HB4r.out HE.out
                    go_ret
                    exact ⟨by rw [HF.out]; rfl, BW.out.trans (Below.mono (BE _) BW.out.size)⟩
                · have hkI2 : ¬ (k2 : Int) < (nqc : Int) := by omega
                  have HAll2 : Hid (eqB sameTask qc qc' = true) := eqB_ok HNqc.out HNqc'.out HK2.out hlt HA2.out
                  clear hlt HK2 HA2
                  go_wp2_with fail
                  go_loopw [7] (fun v wr => ERel sameLock nqd qd qd' W0 v wr) (fun v => fun _ => nqd - (intOf v).toNat)
                  case atStart => exact ERel.start HB2.out
                  case round =>
                    clear HB2
                    obtain ⟨⟨k3, hk, rfl, hall, hb⟩⟩ := hrel
                    obtain ⟨wo3, hwo⟩ : ∃ wo, wo = wr := ⟨_, rfl⟩
                    subst hwo
                    have HK3 := Lib.hid hk
                    have HA3 := Lib.hid hall
                    have HB3 := Lib.hid hb
                    clear hk hall hb
                    have dn3 : wo3.cell? ⟨w.heap.size, 3, none⟩ = some (.slice aqd nqd cqd) := cell_later HB3.out (HX.out 3 _ rfl)
                    have en3 : wo3.cell? ⟨w.heap.size + 1, 3, none⟩ = some (.slice aqd' nqd cqd') := cell_later HB3.out (HY.out 3 _ rfl)
                    by_cases hlt : k3 < nqd
                    · have hkI3 : (k3 : Int) < (nqd : Int) := by omega
                      have HX3 : Hid (k3 < nqd) := hlt
                      have hnb3 := HMqd.out
                      obtain ⟨hnx, b3, off3, x, cs, hax, hbl, hx, hR, _, hc⟩ := HRqd.out.at_ k3 hlt
                      clear hnx hbl
                      subst hax
                      have HxS3 := Lib.hid hx
                      clear hx
                      obtain ⟨qa_3, qb_3⟩ := x
                      obtain ⟨rfl, _⟩ := hR
                      have e0_3 : wo3.cell? ⟨b3, off3 + k3 * 2, none⟩ = some (.string qa_3) := cell_later HB3.out (hc 0 _ rfl)
                      have e1_3 : wo3.cell? ⟨b3, off3 + k3 * 2 + 1, none⟩ = some (.int .i64 qb_3) := cell_later HB3.out (hc 1 _ rfl)
                      clear hc
                      obtain ⟨hnx, b'3, off'3, y, cs', hax, hbl, hy, hR', _, hc'⟩ := HRqd'.out.at_ k3 hlt
                      clear hnx hbl
                      subst hax
                      have HyS3 := Lib.hid hy
                      clear hy
                      obtain ⟨qa_3', qb_3'⟩ := y
                      obtain ⟨rfl, _⟩ := hR'
                      have f0_3 : wo3.cell? ⟨b'3, off'3 + k3 * 2, none⟩ = some (.string qa_3') := cell_later HB3.out (hc' 0 _ rfl)
                      have f1_3 : wo3.cell? ⟨b'3, off'3 + k3 * 2 + 1, none⟩ = some (.int .i64 qb_3') := cell_later HB3.out (hc' 1 _ rfl)
                      clear hc'
                      obtain ⟨t3, ht⟩ : ∃ t, sameLock ⟨qa_3, qb_3⟩ ⟨qa_3', qb_3'⟩ = t := ⟨_, rfl⟩
                      have HT3 := Lib.hid ht
                      have RUN : ∀ W, (binOp .neq 111 (.agg #[.string qa_3, .int .i64 qb_3]) (.agg #[.string qa_3', .int .i64 qb_3'])).run Try.prog W = .ok (.bool (!t3)) W := fun W => by rw [← ht]; exact neqLock qa_3 qb_3 qa_3' qb_3' W
                      clear ht hlt
                      go_wp2_with fail
                      go_quiet (fail)
                      clear RUN e0_3 f0_3 e1_3 f1_3
                      cases t3 with
                      | true =>
                        go_wp2_with fail
                        go_roundw
                        case rel =>
                          have Q : ∀ N, ERel sameLock nqd qd qd' W0 (.int .i64 ((k3 : Int) + 1)) (wo3.drewN N) := fun N => ERel.next HX3.out HxS3.out HyS3.out HT3.out HA3.out (below_drewN HB3.out N)
                          first | exact Q _ | ((repeat apply Exists.intro); exact ⟨Q _, rfl⟩)
                        case measure => have := HX3.out; simp [intOf]; omega
                      | false =>
                        have HE : Hid (eqB sameLock qd qd' = false) := eqB_el HxS3.out HyS3.out HT3.out
                        go_wp2_with fail
                        have BE : ∀ N, Below W0.heap.size W0 (wo3.drewN N) := fun N => below_drewN HB3.out N
                        have HF : Hid (r = false) := HB5r.out HE.out
                        go_ret
                        exact ⟨by rw [HF.out]; rfl, BW.out.trans (Below.mono (BE _) BW.out.size)⟩
                    · have hkI3 : ¬ (k3 : Int) < (nqd : Int) := by omega
                      have HAll3 : Hid (eqB sameLock qd qd' = true) := eqB_ok HNqd.out HNqd'.out HK3.out hlt HA3.out
                      clear hlt HK3 HA3
                      go_wp2_with fail
                      go_loopw [8] (fun v wr => ERel sameSema nqe qe qe' W0 v wr) (fun v => fun _ => nqe - (intOf v).toNat)
                      case atStart => exact ERel.start HB3.out
                      case round =>
                        clear HB3
                        obtain ⟨⟨k4, hk, rfl, hall, hb⟩⟩ := hrel
                        obtain ⟨wo4, hwo⟩ : ∃ wo, wo = wr := ⟨_, rfl⟩
                        subst hwo
                        have HK4 := Lib.hid hk
                        have HA4 := Lib.hid hall
                        have HB4 := Lib.hid hb
                        clear hk hall hb
                        have dn4 : wo4.cell? ⟨w.heap.size, 4, none⟩ = some (.slice aqe nqe cqe) := cell_later HB4.out (HX.out 4 _ rfl)
                        have en4 : wo4.cell? ⟨w.heap.size + 1, 4, none⟩ = some (.slice aqe' nqe cqe') := cell_later HB4.out (HY.out 4 _ rfl)
                        by_cases hlt : k4 < nqe
                        · have hkI4 : (k4 : Int) < (nqe : Int) := by omega
                          have HX4 : Hid (k4 < nqe) := hlt
                          have hnb4 := HMqe.out
                          obtain ⟨hnx, b4, off4, x, cs, hax, hbl, hx, hR, _, hc⟩ := HRqe.out.at_ k4 hlt
                          clear hnx hbl
                          subst hax
                          have HxS4 := Lib.hid hx
                          clear hx
                          obtain ⟨qa_4, qb_4, qc_4, qd_4⟩ := x
                          obtain ⟨rfl, _⟩ := hR
                          have e0_4 : wo4.cell? ⟨b4, off4 + k4 * 4, none⟩ = some (.string qa_4) := cell_later HB4.out (hc 0 _ rfl)
                          have e1_4 : wo4.cell? ⟨b4, off4 + k4 * 4 + 1, none⟩ = some (.int .i64 qb_4) := cell_later HB4.out (hc 1 _ rfl)
                          have e2_4 : wo4.cell? ⟨b4, off4 + k4 * 4 + 2, none⟩ = some (.int .i64 qc_4) := cell_later HB4.out (hc 2 _ rfl)
                          have e3_4 : wo4.cell? ⟨b4, off4 + k4 * 4 + 3, none⟩ = some (.bool qd_4) := cell_later HB4.out (hc 3 _ rfl)
                          clear hc
                          obtain ⟨hnx, b'4, off'4, y, cs', hax, hbl, hy, hR', _, hc'⟩ := HRqe'.out.at_ k4 hlt
                          clear hnx hbl
                          subst hax
                          have HyS4 := Lib.hid hy
                          clear hy
                          obtain ⟨qa_4', qb_4', qc_4', qd_4'⟩ := y
                          obtain ⟨rfl, _⟩ := hR'
                          have f0_4 : wo4.cell? ⟨b'4, off'4 + k4 * 4, none⟩ = some (.string qa_4') := cell_later HB4.out (hc' 0 _ rfl)
                          have f1_4 : wo4.cell? ⟨b'4, off'4 + k4 * 4 + 1, none⟩ = some (.int .i64 qb_4') := cell_later HB4.out (hc' 1 _ rfl)
                          have f2_4 : wo4.cell? ⟨b'4, off'4 + k4 * 4 + 2, none⟩ = some (.int .i64 qc_4') := cell_later HB4.out (hc' 2 _ rfl)
                          have f3_4 : wo4.cell? ⟨b'4, off'4 + k4 * 4 + 3, none⟩ = some (.bool qd_4') := cell_later HB4.out (hc' 3 _ rfl)
                          clear hc'
                          obtain ⟨t4, ht⟩ : ∃ t, sameSema ⟨qa_4, qb_4, qc_4, qd_4⟩ ⟨qa_4', qb_4', qc_4', qd_4'⟩ = t := ⟨_, rfl⟩
                          have HT4 := Lib.hid ht
                          have RUN : ∀ W, (binOp .neq 113 (.agg #[.string qa_4, .int .i64 qb_4, .int .i64 qc_4, .bool qd_4]) (.agg #[.string qa_4', .int .i64 qb_4', .int .i64 qc_4', .bool qd_4'])).run Try.prog W = .ok (.bool (!t4)) W := fun W => by rw [← ht]; exact neqSema qa_4 qb_4 qc_4 qd_4 qa_4' qb_4' qc_4' qd_4' W
                          clear ht hlt
                          go_wp2_with fail
                          go_quiet (fail)
                          clear RUN e0_4 f0_4 e1_4 f1_4 e2_4 f2_4 e3_4 f3_4
                          cases t4 with
                          | true =>
                            go_wp2_with fail
                            go_roundw
                            case rel =>
                              have Q : ∀ N, ERel sameSema nqe qe qe' W0 (.int .i64 ((k4 : Int) + 1)) (wo4.drewN N) := fun N => ERel.next HX4.out HxS4.out HyS4.out HT4.out HA4.out (below_drewN HB4.out N)
                              first | exact Q _ | ((repeat apply Exists.intro); exact ⟨Q _, rfl⟩)
                            case measure => have := HX4.out; simp [intOf]; omega
                          | false =>
                            have HE : Hid (eqB sameSema qe qe' = false) := eqB_el HxS4.out HyS4.out HT4.out
                            go_wp2_with fail
                            have BE : ∀ N, Below W0.heap.size W0 (wo4.drewN N) := fun N => below_drewN HB4.out N
                            have HF : Hid (r = false) := HB6r.out HE.out
                            go_ret
                            exact ⟨by rw [HF.out]; rfl, BW.out.trans (Below.mono (BE _) BW.out.size)⟩
                        · have hkI4 : ¬ (k4 : Int) < (nqe : Int) := by omega
                          have HAll4 : Hid (eqB sameSema qe qe' = true) := eqB_ok HNqe.out HNqe'.out HK4.out hlt HA4.out
                          clear hlt HK4 HA4
                          go_wp2_with fail
                          go_loopw [9] (fun v wr => ERel sameEvent nqf qf qf' W0 v wr) (fun v => fun _ => nqf - (intOf v).toNat)
                          case atStart => exact ERel.start HB4.out
                          case round =>
                            clear HB4
                            obtain ⟨⟨k5, hk, rfl, hall, hb⟩⟩ := hrel
                            obtain ⟨wo5, hwo⟩ : ∃ wo, wo = wr := ⟨_, rfl⟩
                            subst hwo
                            have HK5 := Lib.hid hk
                            have HA5 := Lib.hid hall
                            have HB5 := Lib.hid hb
                            clear hk hall hb
                            have dn5 : wo5.cell? ⟨w.heap.size, 5, none⟩ = some (.slice aqf nqf cqf) := cell_later HB5.out (HX.out 5 _ rfl)
                            have en5 : wo5.cell? ⟨w.heap.size + 1, 5, none⟩ = some (.slice aqf' nqf cqf') := cell_later HB5.out (HY.out 5 _ rfl)
                            by_cases hlt : k5 < nqf
                            · have hkI5 : (k5 : Int) < (nqf : Int) := by omega
                              have HX5 : Hid (k5 < nqf) := hlt
                              have hnb5 := HMqf.out
                              obtain ⟨hnx, b5, off5, x, cs, hax, hbl, hx, hR, _, hc⟩ := HRqf.out.at_ k5 hlt
                              clear hnx hbl
                              subst hax
                              have HxS5 := Lib.hid hx
                              clear hx
                              obtain ⟨qa_5⟩ := x
                              obtain ⟨rfl, _⟩ := hR
                              have e0_5 : wo5.cell? ⟨b5, off5 + k5, none⟩ = some (.string qa_5) := cell_later HB5.out (by simpa using hc 0 _ rfl)
                              clear hc
                              obtain ⟨hnx, b'5, off'5, y, cs', hax, hbl, hy, hR', _, hc'⟩ := HRqf'.out.at_ k5 hlt
                              clear hnx hbl
                              subst hax
                              have HyS5 := Lib.hid hy
                              clear hy
                              obtain ⟨qa_5'⟩ := y
                              obtain ⟨rfl, _⟩ := hR'
                              have f0_5 : wo5.cell? ⟨b'5, off'5 + k5, none⟩ = some (.string qa_5') := cell_later HB5.out (by simpa using hc' 0 _ rfl)
                              clear hc'
                              obtain ⟨t5, ht⟩ : ∃ t, sameEvent ⟨qa_5⟩ ⟨qa_5'⟩ = t := ⟨_, rfl⟩
                              have HT5 := Lib.hid ht
                              have RUN : ∀ W, (binOp .neq 115 (.agg #[.string qa_5]) (.agg #[.string qa_5'])).run Try.prog W = .ok (.bool (!t5)) W := fun W => by rw [← ht]; exact neqEvent qa_5 qa_5' W
                              clear ht hlt
                              go_wp2_with fail
                              go_quiet (fail)
                              clear RUN e0_5 f0_5
                              cases t5 with
                              | true =>
                                go_wp2_with fail
                                go_roundw
                                case rel =>
                                  have Q : ∀ N, ERel sameEvent nqf qf qf' W0 (.int .i64 ((k5 : Int) + 1)) (wo5.drewN N) := fun N => ERel.next HX5.out HxS5.out HyS5.out HT5.out HA5.out (below_drewN HB5.out N)
                                  first | exact Q _ | ((repeat apply Exists.intro); exact ⟨Q _, rfl⟩)
                                case measure => have := HX5.out; simp [intOf]; omega
                              | false =>
                                have HE : Hid (eqB sameEvent qf qf' = false) := eqB_el HxS5.out HyS5.out HT5.out
                                go_wp2_with fail
                                have BE : ∀ N, Below W0.heap.size W0 (wo5.drewN N) := fun N => below_drewN HB5.out N
                                have HF : Hid (r = false) := HB7r.out HE.out
                                go_ret
                                exact ⟨by rw [HF.out]; rfl, BW.out.trans (Below.mono (BE _) BW.out.size)⟩
                            · have hkI5 : ¬ (k5 : Int) < (nqf : Int) := by omega
                              have HAll5 : Hid (eqB sameEvent qf qf' = true) := eqB_ok HNqf.out HNqf'.out HK5.out hlt HA5.out
                              clear hlt HK5 HA5
                              go_wp2_with fail
                              go_loopw [10] (fun v wr => ERel sameBoard nqg qg qg' W0 v wr) (fun v => fun _ => nqg - (intOf v).toNat)
                              case atStart => exact ERel.start HB5.out
                              case round =>
                                clear HB5
                                obtain ⟨⟨k6, hk, rfl, hall, hb⟩⟩ := hrel
                                obtain ⟨wo6, hwo⟩ : ∃ wo, wo = wr := ⟨_, rfl⟩
                                subst hwo
                                have HK6 := Lib.hid hk
                                have HA6 := Lib.hid hall
                                have HB6 := Lib.hid hb
                                clear hk hall hb
                                have dn6 : wo6.cell? ⟨w.heap.size, 6, none⟩ = some (.slice aqg nqg cqg) := cell_later HB6.out (HX.out 6 _ rfl)
                                have en6 : wo6.cell? ⟨w.heap.size + 1, 6, none⟩ = some (.slice aqg' nqg cqg') := cell_later HB6.out (HY.out 6 _ rfl)
                                by_cases hlt : k6 < nqg
                                · have hkI6 : (k6 : Int) < (nqg : Int) := by omega
                                  have HX6 : Hid (k6 < nqg) := hlt
                                  have hnb6 := HMqg.out
                                  obtain ⟨hnx, b6, off6, x, cs, hax, hbl, hx, hR, _, hc⟩ := HRqg.out.at_ k6 hlt
                                  clear hnx hbl
                                  subst hax
                                  have HxS6 := Lib.hid hx
                                  clear hx
                                  obtain ⟨qa_6, qb_6⟩ := x
                                  obtain ⟨rfl, _⟩ := hR
                                  have e0_6 : wo6.cell? ⟨b6, off6 + k6 * 2, none⟩ = some (.string qa_6) := cell_later HB6.out (hc 0 _ rfl)
                                  have e1_6 : wo6.cell? ⟨b6, off6 + k6 * 2 + 1, none⟩ = some (.int .i64 qb_6) := cell_later HB6.out (hc 1 _ rfl)
                                  clear hc
                                  obtain ⟨hnx, b'6, off'6, y, cs', hax, hbl, hy, hR', _, hc'⟩ := HRqg'.out.at_ k6 hlt
                                  clear hnx hbl
                                  subst hax
                                  have HyS6 := Lib.hid hy
                                  clear hy
                                  obtain ⟨qa_6', qb_6'⟩ := y
                                  obtain ⟨rfl, _⟩ := hR'
                                  have f0_6 : wo6.cell? ⟨b'6, off'6 + k6 * 2, none⟩ = some (.string qa_6') := cell_later HB6.out (hc' 0 _ rfl)
                                  have f1_6 : wo6.cell? ⟨b'6, off'6 + k6 * 2 + 1, none⟩ = some (.int .i64 qb_6') := cell_later HB6.out (hc' 1 _ rfl)
                                  clear hc'
                                  obtain ⟨t6, ht⟩ : ∃ t, sameBoard ⟨qa_6, qb_6⟩ ⟨qa_6', qb_6'⟩ = t := ⟨_, rfl⟩
                                  have HT6 := Lib.hid ht
                                  have RUN : ∀ W, (binOp .neq 117 (.agg #[.string qa_6, .int .i64 qb_6]) (.agg #[.string qa_6', .int .i64 qb_6'])).run Try.prog W = .ok (.bool (!t6)) W := fun W => by rw [← ht]; exact neqBoard qa_6 qb_6 qa_6' qb_6' W
                                  clear ht hlt
                                  go_wp2_with fail
                                  go_quiet (fail)
                                  clear RUN e0_6 f0_6 e1_6 f1_6
                                  cases t6 with
                                  | true =>
                                    go_wp2_with fail
                                    go_roundw
                                    case rel =>
                                      have Q : ∀ N, ERel sameBoard nqg qg qg' W0 (.int .i64 ((k6 : Int) + 1)) (wo6.drewN N) := fun N => ERel.next HX6.out HxS6.out HyS6.out HT6.out HA6.out (below_drewN HB6.out N)
                                      first | exact Q _ | ((repeat apply Exists.intro); exact ⟨Q _, rfl⟩)
                                    case measure => have := HX6.out; simp [intOf]; omega
                                  | false =>
                                    have HE : Hid (eqB sameBoard qg qg' = false) := eqB_el HxS6.out HyS6.out HT6.out
                                    go_wp2_with fail
                                    have BE : ∀ N, Below W0.heap.size W0 (wo6.drewN N) := fun N => below_drewN HB6.out N
                                    have HF : Hid (r = false) := HB8r.out HE.out
                                    go_ret
                                    exact ⟨by rw [HF.out]; rfl, BW.out.trans (Below.mono (BE _) BW.out.size)⟩
                                · have hkI6 : ¬ (k6 : Int) < (nqg : Int) := by omega
                                  have HAll6 : Hid (eqB sameBoard qg qg' = true) := eqB_ok HNqg.out HNqg'.out HK6.out hlt HA6.out
                                  clear hlt HK6 HA6
                                  go_wp2_with fail
                                  go_loopw [11] (fun v wr => ERel sameBuffer nqh qh qh' W0 v wr) (fun v => fun _ => nqh - (intOf v).toNat)
                                  case atStart => exact ERel.start HB6.out
                                  case round =>
                                    clear HB6
                                    obtain ⟨⟨k7, hk, rfl, hall, hb⟩⟩ := hrel
                                    obtain ⟨wo7, hwo⟩ : ∃ wo, wo = wr := ⟨_, rfl⟩
                                    subst hwo
                                    have HK7 := Lib.hid hk
                                    have HA7 := Lib.hid hall
                                    have HB7 := Lib.hid hb
                                    clear hk hall hb
                                    have dn7 : wo7.cell? ⟨w.heap.size, 7, none⟩ = some (.slice aqh nqh cqh) := cell_later HB7.out (HX.out 7 _ rfl)
                                    have en7 : wo7.cell? ⟨w.heap.size + 1, 7, none⟩ = some (.slice aqh' nqh cqh') := cell_later HB7.out (HY.out 7 _ rfl)
                                    by_cases hlt : k7 < nqh
                                    · have hkI7 : (k7 : Int) < (nqh : Int) := by omega
                                      have HX7 : Hid (k7 < nqh) := hlt
                                      have hnb7 := HMqh.out
                                      obtain ⟨hnx, b7, off7, x, cs, hax, hbl, hx, hR, _, hc⟩ := HRqh.out.at_ k7 hlt
                                      clear hnx hbl
                                      subst hax
                                      have HxS7 := Lib.hid hx
                                      clear hx
                                      obtain ⟨qa_7, qb_7, qc_7, qd_7⟩ := x
                                      obtain ⟨rfl, _⟩ := hR
                                      have e0_7 : wo7.cell? ⟨b7, off7 + k7 * 4, none⟩ = some (.string qa_7) := cell_later HB7.out (hc 0 _ rfl)
                                      have e1_7 : wo7.cell? ⟨b7, off7 + k7 * 4 + 1, none⟩ = some (.int .i64 qb_7) := cell_later HB7.out (hc 1 _ rfl)
                                      have e2_7 : wo7.cell? ⟨b7, off7 + k7 * 4 + 2, none⟩ = some (.int .i64 qc_7) := cell_later HB7.out (hc 2 _ rfl)
                                      have e3_7 : wo7.cell? ⟨b7, off7 + k7 * 4 + 3, none⟩ = some (.bool qd_7) := cell_later HB7.out (hc 3 _ rfl)
                                      clear hc
                                      obtain ⟨hnx, b'7, off'7, y, cs', hax, hbl, hy, hR', _, hc'⟩ := HRqh'.out.at_ k7 hlt
                                      clear hnx hbl
                                      subst hax
                                      have HyS7 := Lib.hid hy
                                      clear hy
                                      obtain ⟨qa_7', qb_7', qc_7', qd_7'⟩ := y
                                      obtain ⟨rfl, _⟩ := hR'
                                      have f0_7 : wo7.cell? ⟨b'7, off'7 + k7 * 4, none⟩ = some (.string qa_7') := cell_later HB7.out (hc' 0 _ rfl)
                                      have f1_7 : wo7.cell? ⟨b'7, off'7 + k7 * 4 + 1, none⟩ = some (.int .i64 qb_7') := cell_later HB7.out (hc' 1 _ rfl)
                                      have f2_7 : wo7.cell? ⟨b'7, off'7 + k7 * 4 + 2, none⟩ = some (.int .i64 qc_7') := cell_later HB7.out (hc' 2 _ rfl)
                                      have f3_7 : wo7.cell? ⟨b'7, off'7 + k7 * 4 + 3, none⟩ = some (.bool qd_7') := cell_later HB7.out (hc' 3 _ rfl)
                                      clear hc'
                                      obtain ⟨t7, ht⟩ : ∃ t, sameBuffer ⟨qa_7, qb_7, qc_7, qd_7⟩ ⟨qa_7', qb_7', qc_7', qd_7'⟩ = t := ⟨_, rfl⟩
                                      have HT7 := Lib.hid ht
                                      have RUN : ∀ W, (binOp .neq 119 (.agg #[.string qa_7, .int .i64 qb_7, .int .i64 qc_7, .bool qd_7]) (.agg #[.string qa_7', .int .i64 qb_7', .int .i64 qc_7', .bool qd_7'])).run Try.prog W = .ok (.bool (!t7)) W := fun W => by rw [← ht]; exact neqBuffer qa_7 qb_7 qc_7 qd_7 qa_7' qb_7' qc_7' qd_7' W
                                      clear ht hlt
                                      go_wp2_with fail
                                      go_quiet (fail)
                                      clear RUN e0_7 f0_7 e1_7 f1_7 e2_7 f2_7 e3_7 f3_7
                                      cases t7 with
                                      | true =>
                                        go_wp2_with fail
                                        go_roundw
                                        case rel =>
                                          have Q : ∀ N, ERel sameBuffer nqh qh qh' W0 (.int .i64 ((k7 : Int) + 1)) (wo7.drewN N) := fun N => ERel.next HX7.out HxS7.out HyS7.out HT7.out HA7.out (below_drewN HB7.out N)
                                          first | exact Q _ | ((repeat apply Exists.intro); exact ⟨Q _, rfl⟩)
                                        case measure => have := HX7.out; simp [intOf]; omega
                                      | false =>
                                        have HE : Hid (eqB sameBuffer qh qh' = false) := eqB_el HxS7.out HyS7.out HT7.out
                                        go_wp2_with fail
                                        have BE : ∀ N, Below W0.heap.size W0 (wo7.drewN N) := fun N => below_drewN HB7.out N
                                        have HF : Hid (r = false) := HB9r.out HE.out
                                        go_ret
                                        exact ⟨by rw [HF.out]; rfl, BW.out.trans (Below.mono (BE _) BW.out.size)⟩
                                    · have hkI7 : ¬ (k7 : Int) < (nqh : Int) := by omega
                                      have HAll7 : Hid (eqB sameBuffer qh qh' = true) := eqB_ok HNqh.out HNqh'.out HK7.out hlt HA7.out
                                      clear hlt HK7 HA7
                                      go_wp2_with fail
                                      go_loopw [12] (fun v wr => ERel samePort nqi qi qi' W0 v wr) (fun v => fun _ => nqi - (intOf v).toNat)
                                      case atStart => exact ERel.start HB7.out
                                      case round =>
                                        clear HB7
                                        obtain ⟨⟨k8, hk, rfl, hall, hb⟩⟩ := hrel
                                        obtain ⟨wo8, hwo⟩ : ∃ wo, wo = wr := ⟨_, rfl⟩
                                        subst hwo
                                        have HK8 := Lib.hid hk
                                        have HA8 := Lib.hid hall
                                        have HB8 := Lib.hid hb
                                        clear hk hall hb
                                        have dn8 : wo8.cell? ⟨w.heap.size, 8, none⟩ = some (.slice aqi nqi cqi) := cell_later HB8.out (HX.out 8 _ rfl)
                                        have en8 : wo8.cell? ⟨w.heap.size + 1, 8, none⟩ = some (.slice aqi' nqi cqi') := cell_later HB8.out (HY.out 8 _ rfl)
                                        by_cases hlt : k8 < nqi
                                        · have hkI8 : (k8 : Int) < (nqi : Int) := by omega
                                          have HX8 : Hid (k8 < nqi) := hlt
                                          have hnb8 := HMqi.out
                                          obtain ⟨hnx, b8, off8, x, cs, hax, hbl, hx, hR, _, hc⟩ := HRqi.out.at_ k8 hlt
                                          clear hnx hbl
                                          subst hax
                                          have HxS8 := Lib.hid hx
                                          clear hx
                                          obtain ⟨qa_8, qb_8, qc_8, qd_8, qe_8, qf_8⟩ := x
                                          obtain ⟨rfl, _⟩ := hR
                                          have e0_8 : wo8.cell? ⟨b8, off8 + k8 * 6, none⟩ = some (.string qa_8) := cell_later HB8.out (hc 0 _ rfl)
                                          have e1_8 : wo8.cell? ⟨b8, off8 + k8 * 6 + 1, none⟩ = some (.bool qb_8) := cell_later HB8.out (hc 1 _ rfl)
                                          have e2_8 : wo8.cell? ⟨b8, off8 + k8 * 6 + 2, none⟩ = some (.bool qc_8) := cell_later HB8.out (hc 2 _ rfl)
                                          have e3_8 : wo8.cell? ⟨b8, off8 + k8 * 6 + 3, none⟩ = some (.int .i64 qd_8) := cell_later HB8.out (hc 3 _ rfl)
                                          have e4_8 : wo8.cell? ⟨b8, off8 + k8 * 6 + 4, none⟩ = some (.int .i64 qe_8) := cell_later HB8.out (hc 4 _ rfl)
                                          have e5_8 : wo8.cell? ⟨b8, off8 + k8 * 6 + 5, none⟩ = some (.int .i64 qf_8) := cell_later HB8.out (hc 5 _ rfl)
                                          clear hc
                                          obtain ⟨hnx, b'8, off'8, y, cs', hax, hbl, hy, hR', _, hc'⟩ := HRqi'.out.at_ k8 hlt
                                          clear hnx hbl
                                          subst hax
                                          have HyS8 := Lib.hid hy
                                          clear hy
                                          obtain ⟨qa_8', qb_8', qc_8', qd_8', qe_8', qf_8'⟩ := y
                                          obtain ⟨rfl, _⟩ := hR'
                                          have f0_8 : wo8.cell? ⟨b'8, off'8 + k8 * 6, none⟩ = some (.string qa_8') := cell_later HB8.out (hc' 0 _ rfl)
                                          have f1_8 : wo8.cell? ⟨b'8, off'8 + k8 * 6 + 1, none⟩ = some (.bool qb_8') := cell_later HB8.out (hc' 1 _ rfl)
                                          have f2_8 : wo8.cell? ⟨b'8, off'8 + k8 * 6 + 2, none⟩ = some (.bool qc_8') := cell_later HB8.out (hc' 2 _ rfl)
                                          have f3_8 : wo8.cell? ⟨b'8, off'8 + k8 * 6 + 3, none⟩ = some (.int .i64 qd_8') := cell_later HB8.out (hc' 3 _ rfl)
                                          have f4_8 : wo8.cell? ⟨b'8, off'8 + k8 * 6 + 4, none⟩ = some (.int .i64 qe_8') := cell_later HB8.out (hc' 4 _ rfl)
                                          have f5_8 : wo8.cell? ⟨b'8, off'8 + k8 * 6 + 5, none⟩ = some (.int .i64 qf_8') := cell_later HB8.out (hc' 5 _ rfl)
                                          clear hc'
                                          obtain ⟨t8, ht⟩ : ∃ t, samePort ⟨qa_8, qb_8, qc_8, qd_8, qe_8, qf_8⟩ ⟨qa_8', qb_8', qc_8', qd_8', qe_8', qf_8'⟩ = t := ⟨_, rfl⟩
                                          have HT8 := Lib.hid ht
                                          have RUN : ∀ W, (binOp .neq 57 (.agg #[.string qa_8, .bool qb_8, .bool qc_8, .int .i64 qd_8, .int .i64 qe_8, .int .i64 qf_8]) (.agg #[.string qa_8', .bool qb_8', .bool qc_8', .int .i64 qd_8', .int .i64 qe_8', .int .i64 qf_8'])).run Try.prog W = .ok (.bool (!t8)) W := fun W => by rw [← ht]; exact neqPort qa_8 qb_8 qc_8 qd_8 qe_8 qf_8 qa_8' qb_8' qc_8' qd_8' qe_8' qf_8' W
                                          clear ht hlt
                                          go_wp2_with fail
                                          go_quiet (fail)
                                          clear RUN e0_8 f0_8 e1_8 f1_8 e2_8 f2_8 e3_8 f3_8 e4_8 f4_8 e5_8 f5_8
                                          cases t8 with
                                          | true =>
                                            go_wp2_with fail
                                            go_roundw
                                            case rel =>
                                              have Q : ∀ N, ERel samePort nqi qi qi' W0 (.int .i64 ((k8 : Int) + 1)) (wo8.drewN N) := fun N => ERel.next HX8.out HxS8.out HyS8.out HT8.out HA8.out (below_drewN HB8.out N)
                                              first | exact Q _ | ((repeat apply Exists.intro); exact ⟨Q _, rfl⟩)
                                            case measure => have := HX8.out; simp [intOf]; omega
                                          | false =>
                                            have HE : Hid (eqB samePort qi qi' = false) := eqB_el HxS8.out HyS8.out HT8.out
                                            go_wp2_with fail
                                            have BE : ∀ N, Below W0.heap.size W0 (wo8.drewN N) := fun N => below_drewN HB8.out N
                                            have HF : Hid (r = false) := HB10r.out HE.out
                                            go_ret
                                            exact ⟨by rw [HF.out]; rfl, BW.out.trans (Below.mono (BE _) BW.out.size)⟩
                                        · have hkI8 : ¬ (k8 : Int) < (nqi : Int) := by omega
                                          have HAll8 : Hid (eqB samePort qi qi' = true) := eqB_ok HNqi.out HNqi'.out HK8.out hlt HA8.out
                                          clear hlt HK8 HA8
                                          go_wp2_with fail
                                          have HF : Hid (r = true) := HGr.out (HT0.out) (HT1.out) (HT2.out) (HAll1.out) (HAll2.out) (HAll3.out) (HAll4.out) (HAll5.out) (HAll6.out) (HAll7.out) (HAll8.out) (HT11.out)
                                          go_ret
                                          exact ⟨by rw [HF.out]; rfl, BW.out.trans (HB8.out.mono BW.out.size)⟩
end Go.Proofs.Ytchlgihanogeeaa
