/-
  The reference's Same: modules. Each statement bears its own conditions.
-/
import Derived.Test.YtchlgihanogeeaaRs2
import Derived.Deep.QuietTactic
import Derived.BigQuiet
import Derived.Deep.DeepCutAuto
import Derived.Deep.RegionHeld3
namespace Go.Proofs.Ytchlgihanogeeaa
open Go.RowKit
set_option linter.unusedVariables false
set_option linter.unusedSimpArgs false
set_option maxRecDepth 100000 in
set_option maxHeartbeats 8000000 in
theorem rsameModule_core_f0 (qa qa' : ByteArray) (qd qd' : Int) (aqb aqb' : Option Addr) (cqb cqb' nqb nqb' : Nat) (aqc aqc' : Option Addr) (cqc cqc' nqc nqc' : Nat) (aqe aqe' : Option Addr) (cqe cqe' nqe nqe' : Nat) (aqf aqf' : Option Addr) (cqf cqf' nqf nqf' : Nat) (aqg aqg' : Option Addr) (cqg cqg' nqg nqg' : Nat) (w : World) (C0 : (qa.toList == qa'.toList) = false) (D0 : (qa.toList != qa'.toList) = true) :
    Calls Try.prog 13 #[.agg #[.string qa, .slice aqb nqb cqb, .slice aqc nqc cqc, .int .i64 qd, .slice aqe nqe cqe, .slice aqf nqf cqf, .slice aqg nqg cqg], .agg #[.string qa', .slice aqb' nqb' cqb', .slice aqc' nqc' cqc', .int .i64 qd', .slice aqe' nqe' cqe', .slice aqf' nqf' cqf', .slice aqg' nqg' cqg']] w fun e w' => e = .returned (.bool false) ∧ Below w.heap.size w w' := by
  go_enter Try.func13, Try.ntmps13
  go_wp2_with fail
  go_ret
  exact ⟨rfl, ((Below.refl _ _).alloc (Nat.le_refl _) _).alloc (by simp) _⟩
set_option maxRecDepth 100000 in
set_option maxHeartbeats 8000000 in
theorem rsameModule_core_f1 (qa qa' : ByteArray) (qd qd' : Int) (aqb aqb' : Option Addr) (cqb cqb' nqb nqb' : Nat) (aqc aqc' : Option Addr) (cqc cqc' nqc nqc' : Nat) (aqe aqe' : Option Addr) (cqe cqe' nqe nqe' : Nat) (aqf aqf' : Option Addr) (cqf cqf' nqf nqf' : Nat) (aqg aqg' : Option Addr) (cqg cqg' nqg nqg' : Nat) (w : World) (C0 : (qa.toList == qa'.toList) = true) (D0 : (qa.toList != qa'.toList) = false) (C1 : (qd == qd') = false) (D1 : (qd != qd') = true) :
    Calls Try.prog 13 #[.agg #[.string qa, .slice aqb nqb cqb, .slice aqc nqc cqc, .int .i64 qd, .slice aqe nqe cqe, .slice aqf nqf cqf, .slice aqg nqg cqg], .agg #[.string qa', .slice aqb' nqb' cqb', .slice aqc' nqc' cqc', .int .i64 qd', .slice aqe' nqe' cqe', .slice aqf' nqf' cqf', .slice aqg' nqg' cqg']] w fun e w' => e = .returned (.bool false) ∧ Below w.heap.size w w' := by
  go_enter Try.func13, Try.ntmps13
  go_wp2_with fail
  go_ret
  exact ⟨rfl, ((Below.refl _ _).alloc (Nat.le_refl _) _).alloc (by simp) _⟩
set_option maxRecDepth 100000 in
set_option maxHeartbeats 8000000 in
theorem rsameModule_core_f2 (qa qa' : ByteArray) (qd qd' : Int) (aqb aqb' : Option Addr) (cqb cqb' nqb nqb' : Nat) (aqc aqc' : Option Addr) (cqc cqc' nqc nqc' : Nat) (aqe aqe' : Option Addr) (cqe cqe' nqe nqe' : Nat) (aqf aqf' : Option Addr) (cqf cqf' nqf nqf' : Nat) (aqg aqg' : Option Addr) (cqg cqg' nqg nqg' : Nat) (w : World) (C0 : (qa.toList == qa'.toList) = true) (D0 : (qa.toList != qa'.toList) = false) (C1 : (qd == qd') = true) (D1 : (qd != qd') = false) (hlB : ((nqb : Int) == (nqb' : Int)) = false) (hlC : ((nqb : Int) != (nqb' : Int)) = true) :
    Calls Try.prog 13 #[.agg #[.string qa, .slice aqb nqb cqb, .slice aqc nqc cqc, .int .i64 qd, .slice aqe nqe cqe, .slice aqf nqf cqf, .slice aqg nqg cqg], .agg #[.string qa', .slice aqb' nqb' cqb', .slice aqc' nqc' cqc', .int .i64 qd', .slice aqe' nqe' cqe', .slice aqf' nqf' cqf', .slice aqg' nqg' cqg']] w fun e w' => e = .returned (.bool false) ∧ Below w.heap.size w w' := by
  go_enter Try.func13, Try.ntmps13
  go_wp2_with fail
  go_ret
  exact ⟨rfl, ((Below.refl _ _).alloc (Nat.le_refl _) _).alloc (by simp) _⟩
set_option maxRecDepth 100000 in
set_option maxHeartbeats 8000000 in
theorem rsameModule_core_f3 (qa qa' : ByteArray) (qd qd' : Int) (aqb aqb' : Option Addr) (cqb cqb' nqb : Nat) (aqc aqc' : Option Addr) (cqc cqc' nqc nqc' : Nat) (aqe aqe' : Option Addr) (cqe cqe' nqe nqe' : Nat) (aqf aqf' : Option Addr) (cqf cqf' nqf nqf' : Nat) (aqg aqg' : Option Addr) (cqg cqg' nqg nqg' : Nat) (w : World) (C0 : (qa.toList == qa'.toList) = true) (D0 : (qa.toList != qa'.toList) = false) (C1 : (qd == qd') = true) (D1 : (qd != qd') = false) (hlB : ((nqc : Int) == (nqc' : Int)) = false) (hlC : ((nqc : Int) != (nqc' : Int)) = true) :
    Calls Try.prog 13 #[.agg #[.string qa, .slice aqb nqb cqb, .slice aqc nqc cqc, .int .i64 qd, .slice aqe nqe cqe, .slice aqf nqf cqf, .slice aqg nqg cqg], .agg #[.string qa', .slice aqb' nqb cqb', .slice aqc' nqc' cqc', .int .i64 qd', .slice aqe' nqe' cqe', .slice aqf' nqf' cqf', .slice aqg' nqg' cqg']] w fun e w' => e = .returned (.bool false) ∧ Below w.heap.size w w' := by
  go_enter Try.func13, Try.ntmps13
  go_wp2_with fail
  go_ret
  exact ⟨rfl, ((Below.refl _ _).alloc (Nat.le_refl _) _).alloc (by simp) _⟩
set_option maxRecDepth 100000 in
set_option maxHeartbeats 8000000 in
theorem rsameModule_core_f4 (qa qa' : ByteArray) (qd qd' : Int) (aqb aqb' : Option Addr) (cqb cqb' nqb : Nat) (aqc aqc' : Option Addr) (cqc cqc' nqc : Nat) (aqe aqe' : Option Addr) (cqe cqe' nqe nqe' : Nat) (aqf aqf' : Option Addr) (cqf cqf' nqf nqf' : Nat) (aqg aqg' : Option Addr) (cqg cqg' nqg nqg' : Nat) (w : World) (C0 : (qa.toList == qa'.toList) = true) (D0 : (qa.toList != qa'.toList) = false) (C1 : (qd == qd') = true) (D1 : (qd != qd') = false) (hlB : ((nqe : Int) == (nqe' : Int)) = false) (hlC : ((nqe : Int) != (nqe' : Int)) = true) :
    Calls Try.prog 13 #[.agg #[.string qa, .slice aqb nqb cqb, .slice aqc nqc cqc, .int .i64 qd, .slice aqe nqe cqe, .slice aqf nqf cqf, .slice aqg nqg cqg], .agg #[.string qa', .slice aqb' nqb cqb', .slice aqc' nqc cqc', .int .i64 qd', .slice aqe' nqe' cqe', .slice aqf' nqf' cqf', .slice aqg' nqg' cqg']] w fun e w' => e = .returned (.bool false) ∧ Below w.heap.size w w' := by
  go_enter Try.func13, Try.ntmps13
  go_wp2_with fail
  go_ret
  exact ⟨rfl, ((Below.refl _ _).alloc (Nat.le_refl _) _).alloc (by simp) _⟩
set_option maxRecDepth 100000 in
set_option maxHeartbeats 8000000 in
theorem rsameModule_core_f5 (qa qa' : ByteArray) (qd qd' : Int) (aqb aqb' : Option Addr) (cqb cqb' nqb : Nat) (aqc aqc' : Option Addr) (cqc cqc' nqc : Nat) (aqe aqe' : Option Addr) (cqe cqe' nqe : Nat) (aqf aqf' : Option Addr) (cqf cqf' nqf nqf' : Nat) (aqg aqg' : Option Addr) (cqg cqg' nqg nqg' : Nat) (w : World) (C0 : (qa.toList == qa'.toList) = true) (D0 : (qa.toList != qa'.toList) = false) (C1 : (qd == qd') = true) (D1 : (qd != qd') = false) (hlB : ((nqf : Int) == (nqf' : Int)) = false) (hlC : ((nqf : Int) != (nqf' : Int)) = true) :
    Calls Try.prog 13 #[.agg #[.string qa, .slice aqb nqb cqb, .slice aqc nqc cqc, .int .i64 qd, .slice aqe nqe cqe, .slice aqf nqf cqf, .slice aqg nqg cqg], .agg #[.string qa', .slice aqb' nqb cqb', .slice aqc' nqc cqc', .int .i64 qd', .slice aqe' nqe cqe', .slice aqf' nqf' cqf', .slice aqg' nqg' cqg']] w fun e w' => e = .returned (.bool false) ∧ Below w.heap.size w w' := by
  go_enter Try.func13, Try.ntmps13
  go_wp2_with fail
  go_ret
  exact ⟨rfl, ((Below.refl _ _).alloc (Nat.le_refl _) _).alloc (by simp) _⟩
set_option maxRecDepth 100000 in
set_option maxHeartbeats 16000000 in
theorem rsameModule_core (qa : ByteArray) (qb : List MPartition) (qc : List MSchedule) (qd : Int) (qe : List MChannel) (qf : List MLink) (qg : List MRule) (vqb : Value) (vqc : Value) (vqe : Value) (vqf : Value) (vqg : Value) (qa' : ByteArray) (qb' : List MPartition) (qc' : List MSchedule) (qd' : Int) (qe' : List MChannel) (qf' : List MLink) (qg' : List MRule) (vqb' : Value) (vqc' : Value) (vqe' : Value) (vqf' : Value) (vqg' : Value) (w : World) (hqb : Row w 13 (RPartition w) vqb qb) (hqc : Row w 3 (RSchedule w) vqc qc) (hqe : Row w 3 (RChannel w) vqe qe) (hqf : Row w 3 RLink vqf qf) (hqg : Row w 3 RRule vqg qg) (hqb' : Row w 13 (RPartition w) vqb' qb') (hqc' : Row w 3 (RSchedule w) vqc' qc') (hqe' : Row w 3 (RChannel w) vqe' qe') (hqf' : Row w 3 RLink vqf' qf') (hqg' : Row w 3 RRule vqg' qg') :
    Calls Try.prog 13 #[.agg #[.string qa, vqb, vqc, .int .i64 qd, vqe, vqf, vqg], .agg #[.string qa', vqb', vqc', .int .i64 qd', vqe', vqf', vqg']] w fun e w' => e = .returned (.bool (sameModule ⟨qa, qb, qc, qd, qe, qf, qg⟩ ⟨qa', qb', qc', qd', qe', qf', qg'⟩)) ∧ Below w.heap.size w w' := by
  obtain ⟨aqb, cqb, rfl, hmqb⟩ := hqb.form
  obtain ⟨nqb, hnqb⟩ : ∃ n, qb.length = n := ⟨_, rfl⟩
  rw [hnqb] at hqb hmqb ⊢
  unfold rowMax at hmqb
  have HMqb := Lib.hid hmqb
  clear hmqb
  have HNqb := Lib.hid hnqb
  have H0qb := Lib.hid hqb
  clear hnqb hqb
  obtain ⟨aqc, cqc, rfl, hmqc⟩ := hqc.form
  obtain ⟨nqc, hnqc⟩ : ∃ n, qc.length = n := ⟨_, rfl⟩
  rw [hnqc] at hqc hmqc ⊢
  unfold rowMax at hmqc
  have HMqc := Lib.hid hmqc
  clear hmqc
  have HNqc := Lib.hid hnqc
  have H0qc := Lib.hid hqc
  clear hnqc hqc
  obtain ⟨aqe, cqe, rfl, hmqe⟩ := hqe.form
  obtain ⟨nqe, hnqe⟩ : ∃ n, qe.length = n := ⟨_, rfl⟩
  rw [hnqe] at hqe hmqe ⊢
  unfold rowMax at hmqe
  have HMqe := Lib.hid hmqe
  clear hmqe
  have HNqe := Lib.hid hnqe
  have H0qe := Lib.hid hqe
  clear hnqe hqe
  obtain ⟨aqf, cqf, rfl, hmqf⟩ := hqf.form
  obtain ⟨nqf, hnqf⟩ : ∃ n, qf.length = n := ⟨_, rfl⟩
  rw [hnqf] at hqf hmqf ⊢
  unfold rowMax at hmqf
  have HMqf := Lib.hid hmqf
  clear hmqf
  have HNqf := Lib.hid hnqf
  have H0qf := Lib.hid hqf
  clear hnqf hqf
  obtain ⟨aqg, cqg, rfl, hmqg⟩ := hqg.form
  obtain ⟨nqg, hnqg⟩ : ∃ n, qg.length = n := ⟨_, rfl⟩
  rw [hnqg] at hqg hmqg ⊢
  unfold rowMax at hmqg
  have HMqg := Lib.hid hmqg
  clear hmqg
  have HNqg := Lib.hid hnqg
  have H0qg := Lib.hid hqg
  clear hnqg hqg
  obtain ⟨aqb', cqb', rfl, hmqb'⟩ := hqb'.form
  obtain ⟨nqb', hnqb'⟩ : ∃ n, qb'.length = n := ⟨_, rfl⟩
  rw [hnqb'] at hqb' hmqb' ⊢
  unfold rowMax at hmqb'
  have HMqb' := Lib.hid hmqb'
  clear hmqb'
  have HNqb' := Lib.hid hnqb'
  have H0qb' := Lib.hid hqb'
  clear hnqb' hqb'
  obtain ⟨aqc', cqc', rfl, hmqc'⟩ := hqc'.form
  obtain ⟨nqc', hnqc'⟩ : ∃ n, qc'.length = n := ⟨_, rfl⟩
  rw [hnqc'] at hqc' hmqc' ⊢
  unfold rowMax at hmqc'
  have HMqc' := Lib.hid hmqc'
  clear hmqc'
  have HNqc' := Lib.hid hnqc'
  have H0qc' := Lib.hid hqc'
  clear hnqc' hqc'
  obtain ⟨aqe', cqe', rfl, hmqe'⟩ := hqe'.form
  obtain ⟨nqe', hnqe'⟩ : ∃ n, qe'.length = n := ⟨_, rfl⟩
  rw [hnqe'] at hqe' hmqe' ⊢
  unfold rowMax at hmqe'
  have HMqe' := Lib.hid hmqe'
  clear hmqe'
  have HNqe' := Lib.hid hnqe'
  have H0qe' := Lib.hid hqe'
  clear hnqe' hqe'
  obtain ⟨aqf', cqf', rfl, hmqf'⟩ := hqf'.form
  obtain ⟨nqf', hnqf'⟩ : ∃ n, qf'.length = n := ⟨_, rfl⟩
  rw [hnqf'] at hqf' hmqf' ⊢
  unfold rowMax at hmqf'
  have HMqf' := Lib.hid hmqf'
  clear hmqf'
  have HNqf' := Lib.hid hnqf'
  have H0qf' := Lib.hid hqf'
  clear hnqf' hqf'
  obtain ⟨aqg', cqg', rfl, hmqg'⟩ := hqg'.form
  obtain ⟨nqg', hnqg'⟩ : ∃ n, qg'.length = n := ⟨_, rfl⟩
  rw [hnqg'] at hqg' hmqg' ⊢
  unfold rowMax at hmqg'
  have HMqg' := Lib.hid hmqg'
  clear hmqg'
  have HNqg' := Lib.hid hnqg'
  have H0qg' := Lib.hid hqg'
  clear hnqg' hqg'
  obtain ⟨r, hr⟩ : ∃ r, sameModule ⟨qa, qb, qc, qd, qe, qf, qg⟩ ⟨qa', qb', qc', qd', qe', qf', qg'⟩ = r := ⟨_, rfl⟩
  rw [hr]
  have HB0r : Hid (decide (qa = qa') = false → r = false) := fun h => by rw [← hr]; unfold sameModule; dsimp only; rw [h]; simp
  have HB1r : Hid (decide (qd = qd') = false → r = false) := fun h => by rw [← hr]; unfold sameModule; dsimp only; rw [h]; simp
  have HB2r : Hid (eqB samePartition qb qb' = false → r = false) := fun h => by rw [← hr]; unfold sameModule; dsimp only; rw [h]; simp
  have HB3r : Hid (eqB sameSchedule qc qc' = false → r = false) := fun h => by rw [← hr]; unfold sameModule; dsimp only; rw [h]; simp
  have HB4r : Hid (eqB sameChannel qe qe' = false → r = false) := fun h => by rw [← hr]; unfold sameModule; dsimp only; rw [h]; simp
  have HB5r : Hid (eqB sameLink qf qf' = false → r = false) := fun h => by rw [← hr]; unfold sameModule; dsimp only; rw [h]; simp
  have HB6r : Hid (eqB sameRule qg qg' = false → r = false) := fun h => by rw [← hr]; unfold sameModule; dsimp only; rw [h]; simp
  have HGr : Hid (decide (qa = qa') = true → decide (qd = qd') = true → eqB samePartition qb qb' = true → eqB sameSchedule qc qc' = true → eqB sameChannel qe qe' = true → eqB sameLink qf qf' = true → eqB sameRule qg qg' = true → r = true) := by
    intro z0 z1 z2 z3 z4 z5 z6
    rw [← hr]; unfold sameModule; dsimp only; rw [z0, z1, z2, z3, z4, z5, z6]; rfl
  clear hr
  obtain ⟨t0, h0⟩ : ∃ t : Bool, decide (qa = qa') = t := ⟨_, rfl⟩
  have HT0 := Lib.hid h0
  have C0 : (qa.toList == qa'.toList) = t0 := by rw [str_eq]; exact h0
  have D0 : (qa.toList != qa'.toList) = !t0 := by rw [bne, C0]
  clear h0
  obtain ⟨t1, h1⟩ : ∃ t : Bool, decide (qd = qd') = t := ⟨_, rfl⟩
  have HT1 := Lib.hid h1
  have C1 : (qd == qd') = t1 := h1
  have D1 : (qd != qd') = !t1 := by rw [bne, C1]
  clear h1
  obtain ⟨t6, h6⟩ : ∃ t : Bool, eqB sameRule qg qg' = t := ⟨_, rfl⟩
  have HT6 := Lib.hid h6
  have C6 : Hid (∀ W, Below w.heap.size w W → Calls Try.prog 43 #[.slice aqg nqg cqg, .slice aqg' nqg' cqg'] W fun e w' => e = .returned (.bool t6) ∧ Below W.heap.size W w') := fun W hB => by rw [← h6]; exact rsameRules_any _ _ qg qg' W (H0qg.out.below hB) (H0qg'.out.below hB)
  clear h6
  cases t0 with
  | false =>
    simp only [Bool.not_false] at D0
    have HF : Hid (r = false) := HB0r.out HT0.out
    refine (rsameModule_core_f0 qa qa' qd qd' aqb aqb' cqb cqb' nqb nqb' aqc aqc' cqc cqc' nqc nqc' aqe aqe' cqe cqe' nqe nqe' aqf aqf' cqf cqf' nqf nqf' aqg aqg' cqg cqg' nqg nqg' w C0 D0).mono fun e w' h => ?_
    rw [HF.out]
    exact h
  | true =>
    simp only [Bool.not_true] at D0
    cases t1 with
    | false =>
      simp only [Bool.not_false] at D1
      have HF : Hid (r = false) := HB1r.out HT1.out
      refine (rsameModule_core_f1 qa qa' qd qd' aqb aqb' cqb cqb' nqb nqb' aqc aqc' cqc cqc' nqc nqc' aqe aqe' cqe cqe' nqe nqe' aqf aqf' cqf cqf' nqf nqf' aqg aqg' cqg cqg' nqg nqg' w C0 D0 C1 D1).mono fun e w' h => ?_
      rw [HF.out]
      exact h
    | true =>
      simp only [Bool.not_true] at D1
      by_cases hlqb : nqb = nqb'
      case neg =>
        have hlB : ((nqb : Int) == (nqb' : Int)) = false := by rw [beq_eq_false_iff_ne]; omega
        have hlC : ((nqb : Int) != (nqb' : Int)) = true := by rw [bne_iff_ne]; omega
        have HF : Hid (r = false) := HB2r.out (eqB_len HNqb.out HNqb'.out hlqb)
        clear hlqb
        refine (rsameModule_core_f2 qa qa' qd qd' aqb aqb' cqb cqb' nqb nqb' aqc aqc' cqc cqc' nqc nqc' aqe aqe' cqe cqe' nqe nqe' aqf aqf' cqf cqf' nqf nqf' aqg aqg' cqg cqg' nqg nqg' w C0 D0 C1 D1 hlB hlC).mono fun e w' h => ?_
        rw [HF.out]
        exact h
      subst hlqb
      by_cases hlqc : nqc = nqc'
      case neg =>
        have hlB : ((nqc : Int) == (nqc' : Int)) = false := by rw [beq_eq_false_iff_ne]; omega
        have hlC : ((nqc : Int) != (nqc' : Int)) = true := by rw [bne_iff_ne]; omega
        have HF : Hid (r = false) := HB3r.out (eqB_len HNqc.out HNqc'.out hlqc)
        clear hlqc
        refine (rsameModule_core_f3 qa qa' qd qd' aqb aqb' cqb cqb' nqb aqc aqc' cqc cqc' nqc nqc' aqe aqe' cqe cqe' nqe nqe' aqf aqf' cqf cqf' nqf nqf' aqg aqg' cqg cqg' nqg nqg' w C0 D0 C1 D1 hlB hlC).mono fun e w' h => ?_
        rw [HF.out]
        exact h
      subst hlqc
      by_cases hlqe : nqe = nqe'
      case neg =>
        have hlB : ((nqe : Int) == (nqe' : Int)) = false := by rw [beq_eq_false_iff_ne]; omega
        have hlC : ((nqe : Int) != (nqe' : Int)) = true := by rw [bne_iff_ne]; omega
        have HF : Hid (r = false) := HB4r.out (eqB_len HNqe.out HNqe'.out hlqe)
        clear hlqe
        refine (rsameModule_core_f4 qa qa' qd qd' aqb aqb' cqb cqb' nqb aqc aqc' cqc cqc' nqc aqe aqe' cqe cqe' nqe nqe' aqf aqf' cqf cqf' nqf nqf' aqg aqg' cqg cqg' nqg nqg' w C0 D0 C1 D1 hlB hlC).mono fun e w' h => ?_
        rw [HF.out]
        exact h
      subst hlqe
      by_cases hlqf : nqf = nqf'
      case neg =>
        have hlB : ((nqf : Int) == (nqf' : Int)) = false := by rw [beq_eq_false_iff_ne]; omega
        have hlC : ((nqf : Int) != (nqf' : Int)) = true := by rw [bne_iff_ne]; omega
        have HF : Hid (r = false) := HB5r.out (eqB_len HNqf.out HNqf'.out hlqf)
        clear hlqf
        refine (rsameModule_core_f5 qa qa' qd qd' aqb aqb' cqb cqb' nqb aqc aqc' cqc cqc' nqc aqe aqe' cqe cqe' nqe aqf aqf' cqf cqf' nqf nqf' aqg aqg' cqg cqg' nqg nqg' w C0 D0 C1 D1 hlB hlC).mono fun e w' h => ?_
        rw [HF.out]
        exact h
      subst hlqf
      go_enter Try.func13, Try.ntmps13
      go_wp2_with fail
      obtain ⟨W0, hW0⟩ : ∃ W0, (w.alloc (.cells #[.string qa, .slice aqb nqb cqb, .slice aqc nqc cqc, .int .i64 qd, .slice aqe nqe cqe, .slice aqf nqf cqf, .slice aqg nqg cqg] 30)).alloc (.cells #[.string qa', .slice aqb' nqb cqb', .slice aqc' nqc cqc', .int .i64 qd', .slice aqe' nqe cqe', .slice aqf' nqf cqf', .slice aqg' nqg' cqg'] 30) = W0 := ⟨_, rfl⟩
      have HX : Hid (∀ (j : Nat) u, [.string qa, .slice aqb nqb cqb, .slice aqc nqc cqc, .int .i64 qd, .slice aqe nqe cqe, .slice aqf nqf cqf, .slice aqg nqg cqg][j]? = some u → W0.cell? ⟨w.heap.size, j, none⟩ = some u) := fun j u hu => by rw [← hW0]; exact cell_al _ (by rw [World.cell?_alloc_new]; simpa using hu)
      have HY : Hid (∀ (j : Nat) u, [.string qa', .slice aqb' nqb cqb', .slice aqc' nqc cqc', .int .i64 qd', .slice aqe' nqe cqe', .slice aqf' nqf cqf', .slice aqg' nqg' cqg'][j]? = some u → W0.cell? ⟨w.heap.size + 1, j, none⟩ = some u) := fun j u hu => by rw [← hW0, show w.heap.size + 1 = (w.alloc (.cells #[.string qa, .slice aqb nqb cqb, .slice aqc nqc cqc, .int .i64 qd, .slice aqe nqe cqe, .slice aqf nqf cqf, .slice aqg nqg cqg] 30)).heap.size by simp, World.cell?_alloc_new]; simpa using hu
      have BW : Hid (Below w.heap.size w W0) := by rw [← hW0]; exact ((Below.refl _ _).alloc (Nat.le_refl _) _).alloc (by simp) _
      have HRqb : Hid (Row W0 13 (RPartition W0) (.slice aqb nqb cqb) qb) := H0qb.out.keep BW.out (fun _ _ h => h.below BW.out)
      have HRqb' : Hid (Row W0 13 (RPartition W0) (.slice aqb' nqb cqb') qb') := H0qb'.out.keep BW.out (fun _ _ h => h.below BW.out)
      have HRqc : Hid (Row W0 3 (RSchedule W0) (.slice aqc nqc cqc) qc) := H0qc.out.keep BW.out (fun _ _ h => h.below BW.out)
      have HRqc' : Hid (Row W0 3 (RSchedule W0) (.slice aqc' nqc cqc') qc') := H0qc'.out.keep BW.out (fun _ _ h => h.below BW.out)
      have HRqe : Hid (Row W0 3 (RChannel W0) (.slice aqe nqe cqe) qe) := H0qe.out.keep BW.out (fun _ _ h => h.below BW.out)
      have HRqe' : Hid (Row W0 3 (RChannel W0) (.slice aqe' nqe cqe') qe') := H0qe'.out.keep BW.out (fun _ _ h => h.below BW.out)
      have HRqf : Hid (Row W0 3 RLink (.slice aqf nqf cqf) qf) := H0qf.out.below BW.out
      have HRqf' : Hid (Row W0 3 RLink (.slice aqf' nqf cqf') qf') := H0qf'.out.below BW.out
      have HRqg : Hid (Row W0 3 RRule (.slice aqg nqg cqg) qg) := H0qg.out.below BW.out
      have HRqg' : Hid (Row W0 3 RRule (.slice aqg' nqg' cqg') qg') := H0qg'.out.below BW.out
      rw [hW0]
      clear hW0
      with_reducible refine (C6.out _ BW.out).mono ?_
      rintro e W1 ⟨rfl, b⟩
      have B1 : Hid (Below W0.heap.size W0 W1) := b
      clear b
      clear C0 D0 C1 D1
      cases t6 with
      | false =>
        have HF : Hid (r = false) := HB6r.out HT6.out
        go_wp2_with fail
        go_ret
        exact ⟨by rw [HF.out]; rfl, BW.out.trans (B1.out.mono BW.out.size)⟩
      | true =>
        go_wp2_with fail
        go_loopw [5] (fun v wr => ERel samePartition nqb qb qb' W0 v wr) (fun v => fun _ => nqb - (intOf v).toNat)
        case atStart => exact ERel.start B1.out
        case round =>
          clear B1
          obtain ⟨⟨k1, hk, rfl, hall, hb⟩⟩ := hrel
          obtain ⟨wo1, hwo⟩ : ∃ wo, wo = wr := ⟨_, rfl⟩
          subst hwo
          have HK1 := Lib.hid hk
          have HA1 := Lib.hid hall
          have HB1 := Lib.hid hb
          clear hk hall hb
          have dn1 : wo1.cell? ⟨w.heap.size, 1, none⟩ = some (.slice aqb nqb cqb) := cell_later HB1.out (HX.out 1 _ rfl)
          have en1 : wo1.cell? ⟨w.heap.size + 1, 1, none⟩ = some (.slice aqb' nqb cqb') := cell_later HB1.out (HY.out 1 _ rfl)
          by_cases hlt : k1 < nqb
          · have hkI1 : (k1 : Int) < (nqb : Int) := by omega
            have HX1 : Hid (k1 < nqb) := hlt
            have hnb1 := HMqb.out
            obtain ⟨hnx, b1, off1, x, cs, hax, hbl, hx, hR, _, hc⟩ := HRqb.out.at_ k1 hlt
            clear hnx hbl
            subst hax
            have HxS1 := Lib.hid hx
            clear hx
            obtain ⟨qa_1, qb_1, qc_1, qd_1, qe_1, qf_1, qg_1, qh_1, qi_1, qj_1, qk_1, ql_1, qm_1⟩ := x
            obtain ⟨vqb_1, vqc_1, vqd_1, vqe_1, vqf_1, vqg_1, vqh_1, vqi_1, vqj_1, rfl, _, hqb_1, hqc_1, hqd_1, hqe_1, hqf_1, hqg_1, hqh_1, hqi_1, hqj_1⟩ := hR
            obtain ⟨aqb_1, cqb_1, rfl, hmqb_1⟩ := hqb_1.form
            obtain ⟨nqb_1, hnqb_1⟩ : ∃ n, qb_1.length = n := ⟨_, rfl⟩
            rw [hnqb_1] at hqb_1 hmqb_1 hc
            unfold rowMax at hmqb_1
            have HMqb_1 := Lib.hid hmqb_1
            have HNqb_1 := Lib.hid hnqb_1
            have HRRqb_1 := Lib.hid hqb_1
            clear hnqb_1 hmqb_1 hqb_1
            obtain ⟨aqc_1, cqc_1, rfl, hmqc_1⟩ := hqc_1.form
            obtain ⟨nqc_1, hnqc_1⟩ : ∃ n, qc_1.length = n := ⟨_, rfl⟩
            rw [hnqc_1] at hqc_1 hmqc_1 hc
            unfold rowMax at hmqc_1
            have HMqc_1 := Lib.hid hmqc_1
            have HNqc_1 := Lib.hid hnqc_1
            have HRRqc_1 := Lib.hid hqc_1
            clear hnqc_1 hmqc_1 hqc_1
            obtain ⟨aqd_1, cqd_1, rfl, hmqd_1⟩ := hqd_1.form
            obtain ⟨nqd_1, hnqd_1⟩ : ∃ n, qd_1.length = n := ⟨_, rfl⟩
            rw [hnqd_1] at hqd_1 hmqd_1 hc
            unfold rowMax at hmqd_1
            have HMqd_1 := Lib.hid hmqd_1
            have HNqd_1 := Lib.hid hnqd_1
            have HRRqd_1 := Lib.hid hqd_1
            clear hnqd_1 hmqd_1 hqd_1
            obtain ⟨aqe_1, cqe_1, rfl, hmqe_1⟩ := hqe_1.form
            obtain ⟨nqe_1, hnqe_1⟩ : ∃ n, qe_1.length = n := ⟨_, rfl⟩
            rw [hnqe_1] at hqe_1 hmqe_1 hc
            unfold rowMax at hmqe_1
            have HMqe_1 := Lib.hid hmqe_1
            have HNqe_1 := Lib.hid hnqe_1
            have HRRqe_1 := Lib.hid hqe_1
            clear hnqe_1 hmqe_1 hqe_1
            obtain ⟨aqf_1, cqf_1, rfl, hmqf_1⟩ := hqf_1.form
            obtain ⟨nqf_1, hnqf_1⟩ : ∃ n, qf_1.length = n := ⟨_, rfl⟩
            rw [hnqf_1] at hqf_1 hmqf_1 hc
            unfold rowMax at hmqf_1
            have HMqf_1 := Lib.hid hmqf_1
            have HNqf_1 := Lib.hid hnqf_1
            have HRRqf_1 := Lib.hid hqf_1
            clear hnqf_1 hmqf_1 hqf_1
            obtain ⟨aqg_1, cqg_1, rfl, hmqg_1⟩ := hqg_1.form
            obtain ⟨nqg_1, hnqg_1⟩ : ∃ n, qg_1.length = n := ⟨_, rfl⟩
            rw [hnqg_1] at hqg_1 hmqg_1 hc
            unfold rowMax at hmqg_1
            have HMqg_1 := Lib.hid hmqg_1
            have HNqg_1 := Lib.hid hnqg_1
            have HRRqg_1 := Lib.hid hqg_1
            clear hnqg_1 hmqg_1 hqg_1
            obtain ⟨aqh_1, cqh_1, rfl, hmqh_1⟩ := hqh_1.form
            obtain ⟨nqh_1, hnqh_1⟩ : ∃ n, qh_1.length = n := ⟨_, rfl⟩
            rw [hnqh_1] at hqh_1 hmqh_1 hc
            unfold rowMax at hmqh_1
            have HMqh_1 := Lib.hid hmqh_1
            have HNqh_1 := Lib.hid hnqh_1
            have HRRqh_1 := Lib.hid hqh_1
            clear hnqh_1 hmqh_1 hqh_1
            obtain ⟨aqi_1, cqi_1, rfl, hmqi_1⟩ := hqi_1.form
            obtain ⟨nqi_1, hnqi_1⟩ : ∃ n, qi_1.length = n := ⟨_, rfl⟩
            rw [hnqi_1] at hqi_1 hmqi_1 hc
            unfold rowMax at hmqi_1
            have HMqi_1 := Lib.hid hmqi_1
            have HNqi_1 := Lib.hid hnqi_1
            have HRRqi_1 := Lib.hid hqi_1
            clear hnqi_1 hmqi_1 hqi_1
            obtain ⟨aqj_1, cqj_1, rfl, hmqj_1⟩ := hqj_1.form
            obtain ⟨nqj_1, hnqj_1⟩ : ∃ n, qj_1.length = n := ⟨_, rfl⟩
            rw [hnqj_1] at hqj_1 hmqj_1 hc
            unfold rowMax at hmqj_1
            have HMqj_1 := Lib.hid hmqj_1
            have HNqj_1 := Lib.hid hnqj_1
            have HRRqj_1 := Lib.hid hqj_1
            clear hnqj_1 hmqj_1 hqj_1
            have e0_1 : wo1.cell? ⟨b1, off1 + k1 * 13, none⟩ = some (.string qa_1) := cell_later HB1.out (hc 0 _ rfl)
            have e1_1 : wo1.cell? ⟨b1, off1 + k1 * 13 + 1, none⟩ = some (.slice aqb_1 nqb_1 cqb_1) := cell_later HB1.out (hc 1 _ rfl)
            have e2_1 : wo1.cell? ⟨b1, off1 + k1 * 13 + 2, none⟩ = some (.slice aqc_1 nqc_1 cqc_1) := cell_later HB1.out (hc 2 _ rfl)
            have e3_1 : wo1.cell? ⟨b1, off1 + k1 * 13 + 3, none⟩ = some (.slice aqd_1 nqd_1 cqd_1) := cell_later HB1.out (hc 3 _ rfl)
            have e4_1 : wo1.cell? ⟨b1, off1 + k1 * 13 + 4, none⟩ = some (.slice aqe_1 nqe_1 cqe_1) := cell_later HB1.out (hc 4 _ rfl)
            have e5_1 : wo1.cell? ⟨b1, off1 + k1 * 13 + 5, none⟩ = some (.slice aqf_1 nqf_1 cqf_1) := cell_later HB1.out (hc 5 _ rfl)
            have e6_1 : wo1.cell? ⟨b1, off1 + k1 * 13 + 6, none⟩ = some (.slice aqg_1 nqg_1 cqg_1) := cell_later HB1.out (hc 6 _ rfl)
            have e7_1 : wo1.cell? ⟨b1, off1 + k1 * 13 + 7, none⟩ = some (.slice aqh_1 nqh_1 cqh_1) := cell_later HB1.out (hc 7 _ rfl)
            have e8_1 : wo1.cell? ⟨b1, off1 + k1 * 13 + 8, none⟩ = some (.slice aqi_1 nqi_1 cqi_1) := cell_later HB1.out (hc 8 _ rfl)
            have e9_1 : wo1.cell? ⟨b1, off1 + k1 * 13 + 9, none⟩ = some (.slice aqj_1 nqj_1 cqj_1) := cell_later HB1.out (hc 9 _ rfl)
            have e10_1 : wo1.cell? ⟨b1, off1 + k1 * 13 + 10, none⟩ = some (.int .i64 qk_1) := cell_later HB1.out (hc 10 _ rfl)
            have e11_1 : wo1.cell? ⟨b1, off1 + k1 * 13 + 11, none⟩ = some (.int .i64 ql_1) := cell_later HB1.out (hc 11 _ rfl)
            have e12_1 : wo1.cell? ⟨b1, off1 + k1 * 13 + 12, none⟩ = some (.int .i64 qm_1) := cell_later HB1.out (hc 12 _ rfl)
            clear hc
            obtain ⟨hnx, b'1, off'1, y, cs', hax, hbl, hy, hR', _, hc'⟩ := HRqb'.out.at_ k1 hlt
            clear hnx hbl
            subst hax
            have HyS1 := Lib.hid hy
            clear hy
            obtain ⟨qa_1', qb_1', qc_1', qd_1', qe_1', qf_1', qg_1', qh_1', qi_1', qj_1', qk_1', ql_1', qm_1'⟩ := y
            obtain ⟨vqb_1', vqc_1', vqd_1', vqe_1', vqf_1', vqg_1', vqh_1', vqi_1', vqj_1', rfl, _, hqb_1', hqc_1', hqd_1', hqe_1', hqf_1', hqg_1', hqh_1', hqi_1', hqj_1'⟩ := hR'
            obtain ⟨aqb_1', cqb_1', rfl, hmqb_1'⟩ := hqb_1'.form
            obtain ⟨nqb_1', hnqb_1'⟩ : ∃ n, qb_1'.length = n := ⟨_, rfl⟩
            rw [hnqb_1'] at hqb_1' hmqb_1' hc'
            unfold rowMax at hmqb_1'
            have HMqb_1' := Lib.hid hmqb_1'
            have HNqb_1' := Lib.hid hnqb_1'
            have HRRqb_1' := Lib.hid hqb_1'
            clear hnqb_1' hmqb_1' hqb_1'
            obtain ⟨aqc_1', cqc_1', rfl, hmqc_1'⟩ := hqc_1'.form
            obtain ⟨nqc_1', hnqc_1'⟩ : ∃ n, qc_1'.length = n := ⟨_, rfl⟩
            rw [hnqc_1'] at hqc_1' hmqc_1' hc'
            unfold rowMax at hmqc_1'
            have HMqc_1' := Lib.hid hmqc_1'
            have HNqc_1' := Lib.hid hnqc_1'
            have HRRqc_1' := Lib.hid hqc_1'
            clear hnqc_1' hmqc_1' hqc_1'
            obtain ⟨aqd_1', cqd_1', rfl, hmqd_1'⟩ := hqd_1'.form
            obtain ⟨nqd_1', hnqd_1'⟩ : ∃ n, qd_1'.length = n := ⟨_, rfl⟩
            rw [hnqd_1'] at hqd_1' hmqd_1' hc'
            unfold rowMax at hmqd_1'
            have HMqd_1' := Lib.hid hmqd_1'
            have HNqd_1' := Lib.hid hnqd_1'
            have HRRqd_1' := Lib.hid hqd_1'
            clear hnqd_1' hmqd_1' hqd_1'
            obtain ⟨aqe_1', cqe_1', rfl, hmqe_1'⟩ := hqe_1'.form
            obtain ⟨nqe_1', hnqe_1'⟩ : ∃ n, qe_1'.length = n := ⟨_, rfl⟩
            rw [hnqe_1'] at hqe_1' hmqe_1' hc'
            unfold rowMax at hmqe_1'
            have HMqe_1' := Lib.hid hmqe_1'
            have HNqe_1' := Lib.hid hnqe_1'
            have HRRqe_1' := Lib.hid hqe_1'
            clear hnqe_1' hmqe_1' hqe_1'
            obtain ⟨aqf_1', cqf_1', rfl, hmqf_1'⟩ := hqf_1'.form
            obtain ⟨nqf_1', hnqf_1'⟩ : ∃ n, qf_1'.length = n := ⟨_, rfl⟩
            rw [hnqf_1'] at hqf_1' hmqf_1' hc'
            unfold rowMax at hmqf_1'
            have HMqf_1' := Lib.hid hmqf_1'
            have HNqf_1' := Lib.hid hnqf_1'
            have HRRqf_1' := Lib.hid hqf_1'
            clear hnqf_1' hmqf_1' hqf_1'
            obtain ⟨aqg_1', cqg_1', rfl, hmqg_1'⟩ := hqg_1'.form
            obtain ⟨nqg_1', hnqg_1'⟩ : ∃ n, qg_1'.length = n := ⟨_, rfl⟩
            rw [hnqg_1'] at hqg_1' hmqg_1' hc'
            unfold rowMax at hmqg_1'
            have HMqg_1' := Lib.hid hmqg_1'
            have HNqg_1' := Lib.hid hnqg_1'
            have HRRqg_1' := Lib.hid hqg_1'
            clear hnqg_1' hmqg_1' hqg_1'
            obtain ⟨aqh_1', cqh_1', rfl, hmqh_1'⟩ := hqh_1'.form
            obtain ⟨nqh_1', hnqh_1'⟩ : ∃ n, qh_1'.length = n := ⟨_, rfl⟩
            rw [hnqh_1'] at hqh_1' hmqh_1' hc'
            unfold rowMax at hmqh_1'
            have HMqh_1' := Lib.hid hmqh_1'
            have HNqh_1' := Lib.hid hnqh_1'
            have HRRqh_1' := Lib.hid hqh_1'
            clear hnqh_1' hmqh_1' hqh_1'
            obtain ⟨aqi_1', cqi_1', rfl, hmqi_1'⟩ := hqi_1'.form
            obtain ⟨nqi_1', hnqi_1'⟩ : ∃ n, qi_1'.length = n := ⟨_, rfl⟩
            rw [hnqi_1'] at hqi_1' hmqi_1' hc'
            unfold rowMax at hmqi_1'
            have HMqi_1' := Lib.hid hmqi_1'
            have HNqi_1' := Lib.hid hnqi_1'
            have HRRqi_1' := Lib.hid hqi_1'
            clear hnqi_1' hmqi_1' hqi_1'
            obtain ⟨aqj_1', cqj_1', rfl, hmqj_1'⟩ := hqj_1'.form
            obtain ⟨nqj_1', hnqj_1'⟩ : ∃ n, qj_1'.length = n := ⟨_, rfl⟩
            rw [hnqj_1'] at hqj_1' hmqj_1' hc'
            unfold rowMax at hmqj_1'
            have HMqj_1' := Lib.hid hmqj_1'
            have HNqj_1' := Lib.hid hnqj_1'
            have HRRqj_1' := Lib.hid hqj_1'
            clear hnqj_1' hmqj_1' hqj_1'
            have f0_1 : wo1.cell? ⟨b'1, off'1 + k1 * 13, none⟩ = some (.string qa_1') := cell_later HB1.out (hc' 0 _ rfl)
            have f1_1 : wo1.cell? ⟨b'1, off'1 + k1 * 13 + 1, none⟩ = some (.slice aqb_1' nqb_1' cqb_1') := cell_later HB1.out (hc' 1 _ rfl)
            have f2_1 : wo1.cell? ⟨b'1, off'1 + k1 * 13 + 2, none⟩ = some (.slice aqc_1' nqc_1' cqc_1') := cell_later HB1.out (hc' 2 _ rfl)
            have f3_1 : wo1.cell? ⟨b'1, off'1 + k1 * 13 + 3, none⟩ = some (.slice aqd_1' nqd_1' cqd_1') := cell_later HB1.out (hc' 3 _ rfl)
            have f4_1 : wo1.cell? ⟨b'1, off'1 + k1 * 13 + 4, none⟩ = some (.slice aqe_1' nqe_1' cqe_1') := cell_later HB1.out (hc' 4 _ rfl)
            have f5_1 : wo1.cell? ⟨b'1, off'1 + k1 * 13 + 5, none⟩ = some (.slice aqf_1' nqf_1' cqf_1') := cell_later HB1.out (hc' 5 _ rfl)
            have f6_1 : wo1.cell? ⟨b'1, off'1 + k1 * 13 + 6, none⟩ = some (.slice aqg_1' nqg_1' cqg_1') := cell_later HB1.out (hc' 6 _ rfl)
            have f7_1 : wo1.cell? ⟨b'1, off'1 + k1 * 13 + 7, none⟩ = some (.slice aqh_1' nqh_1' cqh_1') := cell_later HB1.out (hc' 7 _ rfl)
            have f8_1 : wo1.cell? ⟨b'1, off'1 + k1 * 13 + 8, none⟩ = some (.slice aqi_1' nqi_1' cqi_1') := cell_later HB1.out (hc' 8 _ rfl)
            have f9_1 : wo1.cell? ⟨b'1, off'1 + k1 * 13 + 9, none⟩ = some (.slice aqj_1' nqj_1' cqj_1') := cell_later HB1.out (hc' 9 _ rfl)
            have f10_1 : wo1.cell? ⟨b'1, off'1 + k1 * 13 + 10, none⟩ = some (.int .i64 qk_1') := cell_later HB1.out (hc' 10 _ rfl)
            have f11_1 : wo1.cell? ⟨b'1, off'1 + k1 * 13 + 11, none⟩ = some (.int .i64 ql_1') := cell_later HB1.out (hc' 11 _ rfl)
            have f12_1 : wo1.cell? ⟨b'1, off'1 + k1 * 13 + 12, none⟩ = some (.int .i64 qm_1') := cell_later HB1.out (hc' 12 _ rfl)
            clear hc'
            obtain ⟨t1, ht⟩ : ∃ t, samePartition ⟨qa_1, qb_1, qc_1, qd_1, qe_1, qf_1, qg_1, qh_1, qi_1, qj_1, qk_1, ql_1, qm_1⟩ ⟨qa_1', qb_1', qc_1', qd_1', qe_1', qf_1', qg_1', qh_1', qi_1', qj_1', qk_1', ql_1', qm_1'⟩ = t := ⟨_, rfl⟩
            have HT1 := Lib.hid ht
            have CP : Hid (∀ W, Below W0.heap.size W0 W → Calls Try.prog 44 #[.agg #[.string qa_1, .slice aqb_1 nqb_1 cqb_1, .slice aqc_1 nqc_1 cqc_1, .slice aqd_1 nqd_1 cqd_1, .slice aqe_1 nqe_1 cqe_1, .slice aqf_1 nqf_1 cqf_1, .slice aqg_1 nqg_1 cqg_1, .slice aqh_1 nqh_1 cqh_1, .slice aqi_1 nqi_1 cqi_1, .slice aqj_1 nqj_1 cqj_1, .int .i64 qk_1, .int .i64 ql_1, .int .i64 qm_1], .agg #[.string qa_1', .slice aqb_1' nqb_1' cqb_1', .slice aqc_1' nqc_1' cqc_1', .slice aqd_1' nqd_1' cqd_1', .slice aqe_1' nqe_1' cqe_1', .slice aqf_1' nqf_1' cqf_1', .slice aqg_1' nqg_1' cqg_1', .slice aqh_1' nqh_1' cqh_1', .slice aqi_1' nqi_1' cqi_1', .slice aqj_1' nqj_1' cqj_1', .int .i64 qk_1', .int .i64 ql_1', .int .i64 qm_1']] W fun e w' => e = .returned (.bool t1) ∧ Below W.heap.size W w') := fun W hB => by rw [← ht]; exact rsamePartition_core qa_1 qb_1 qc_1 qd_1 qe_1 qf_1 qg_1 qh_1 qi_1 qj_1 qk_1 ql_1 qm_1 (.slice aqb_1 nqb_1 cqb_1) (.slice aqc_1 nqc_1 cqc_1) (.slice aqd_1 nqd_1 cqd_1) (.slice aqe_1 nqe_1 cqe_1) (.slice aqf_1 nqf_1 cqf_1) (.slice aqg_1 nqg_1 cqg_1) (.slice aqh_1 nqh_1 cqh_1) (.slice aqi_1 nqi_1 cqi_1) (.slice aqj_1 nqj_1 cqj_1) qa_1' qb_1' qc_1' qd_1' qe_1' qf_1' qg_1' qh_1' qi_1' qj_1' qk_1' ql_1' qm_1' (.slice aqb_1' nqb_1' cqb_1') (.slice aqc_1' nqc_1' cqc_1') (.slice aqd_1' nqd_1' cqd_1') (.slice aqe_1' nqe_1' cqe_1') (.slice aqf_1' nqf_1' cqf_1') (.slice aqg_1' nqg_1' cqg_1') (.slice aqh_1' nqh_1' cqh_1') (.slice aqi_1' nqi_1' cqi_1') (.slice aqj_1' nqj_1' cqj_1') W (HRRqb_1.out.below hB) (HRRqc_1.out.below hB) (HRRqd_1.out.below hB) (HRRqe_1.out.below hB) (HRRqf_1.out.below hB) (HRRqg_1.out.below hB) (HRRqh_1.out.below hB) (HRRqi_1.out.below hB) (HRRqj_1.out.below hB) (HRRqb_1'.out.below hB) (HRRqc_1'.out.below hB) (HRRqd_1'.out.below hB) (HRRqe_1'.out.below hB) (HRRqf_1'.out.below hB) (HRRqg_1'.out.below hB) (HRRqh_1'.out.below hB) (HRRqi_1'.out.below hB) (HRRqj_1'.out.below hB)
            clear ht hlt
            go_wp2_with fail
            refine wp_region_held_drew (S := (fun w' => Below W0.heap.size W0 w' ∧ w'.cell? ⟨w.heap.size, 1, none⟩ = some (.slice (some ⟨b1, off1, none⟩) nqb cqb) ∧ w'.cell? ⟨w.heap.size + 1, 1, none⟩ = some (.slice (some ⟨b'1, off'1, none⟩) nqb cqb') ∧ w'.cell? ⟨b1, off1 + k1 * 13, none⟩ = some (.string qa_1) ∧ w'.cell? ⟨b1, off1 + k1 * 13 + 1, none⟩ = some (.slice aqb_1 nqb_1 cqb_1) ∧ w'.cell? ⟨b1, off1 + k1 * 13 + 2, none⟩ = some (.slice aqc_1 nqc_1 cqc_1) ∧ w'.cell? ⟨b1, off1 + k1 * 13 + 3, none⟩ = some (.slice aqd_1 nqd_1 cqd_1) ∧ w'.cell? ⟨b1, off1 + k1 * 13 + 4, none⟩ = some (.slice aqe_1 nqe_1 cqe_1) ∧ w'.cell? ⟨b1, off1 + k1 * 13 + 5, none⟩ = some (.slice aqf_1 nqf_1 cqf_1) ∧ w'.cell? ⟨b1, off1 + k1 * 13 + 6, none⟩ = some (.slice aqg_1 nqg_1 cqg_1) ∧ w'.cell? ⟨b1, off1 + k1 * 13 + 7, none⟩ = some (.slice aqh_1 nqh_1 cqh_1) ∧ w'.cell? ⟨b1, off1 + k1 * 13 + 8, none⟩ = some (.slice aqi_1 nqi_1 cqi_1) ∧ w'.cell? ⟨b1, off1 + k1 * 13 + 9, none⟩ = some (.slice aqj_1 nqj_1 cqj_1) ∧ w'.cell? ⟨b1, off1 + k1 * 13 + 10, none⟩ = some (.int .i64 qk_1) ∧ w'.cell? ⟨b1, off1 + k1 * 13 + 11, none⟩ = some (.int .i64 ql_1) ∧ w'.cell? ⟨b1, off1 + k1 * 13 + 12, none⟩ = some (.int .i64 qm_1) ∧ w'.cell? ⟨b'1, off'1 + k1 * 13, none⟩ = some (.string qa_1') ∧ w'.cell? ⟨b'1, off'1 + k1 * 13 + 1, none⟩ = some (.slice aqb_1' nqb_1' cqb_1') ∧ w'.cell? ⟨b'1, off'1 + k1 * 13 + 2, none⟩ = some (.slice aqc_1' nqc_1' cqc_1') ∧ w'.cell? ⟨b'1, off'1 + k1 * 13 + 3, none⟩ = some (.slice aqd_1' nqd_1' cqd_1') ∧ w'.cell? ⟨b'1, off'1 + k1 * 13 + 4, none⟩ = some (.slice aqe_1' nqe_1' cqe_1') ∧ w'.cell? ⟨b'1, off'1 + k1 * 13 + 5, none⟩ = some (.slice aqf_1' nqf_1' cqf_1') ∧ w'.cell? ⟨b'1, off'1 + k1 * 13 + 6, none⟩ = some (.slice aqg_1' nqg_1' cqg_1') ∧ w'.cell? ⟨b'1, off'1 + k1 * 13 + 7, none⟩ = some (.slice aqh_1' nqh_1' cqh_1') ∧ w'.cell? ⟨b'1, off'1 + k1 * 13 + 8, none⟩ = some (.slice aqi_1' nqi_1' cqi_1') ∧ w'.cell? ⟨b'1, off'1 + k1 * 13 + 9, none⟩ = some (.slice aqj_1' nqj_1' cqj_1') ∧ w'.cell? ⟨b'1, off'1 + k1 * 13 + 10, none⟩ = some (.int .i64 qk_1') ∧ w'.cell? ⟨b'1, off'1 + k1 * 13 + 11, none⟩ = some (.int .i64 ql_1') ∧ w'.cell? ⟨b'1, off'1 + k1 * 13 + 12, none⟩ = some (.int .i64 qm_1'))) (by kernel_rfl) ?_ (fun hHeld => ?_)
            · exact ⟨HB1.out.drew, dn1, en1, e0_1, e1_1, e2_1, e3_1, e4_1, e5_1, e6_1, e7_1, e8_1, e9_1, e10_1, e11_1, e12_1, f0_1, f1_1, f2_1, f3_1, f4_1, f5_1, f6_1, f7_1, f8_1, f9_1, f10_1, f11_1, f12_1⟩
            refine takeD (i := 0) (d := some 78) (v := ?_) _ rfl rfl (by kernel_rfl) (by kernel_rfl) (by kernel_rfl) (fun _ _ _ h => h) (by rfl) ?_ (by assumption) ?_
            rotate_left
            · (intro w hSw; (try dsimp only at hSw); go_simp) <;> with_reducible rfl
            try simp only [Act.put, List.setIfInBounds_toArray, List.set_cons_zero, List.set_cons_succ]
            refine takeD (i := 1) (d := some 79) (v := ?_) _ rfl rfl (by kernel_rfl) (by kernel_rfl) (by kernel_rfl) (fun _ _ _ h => h) (by rfl) ?_ (by assumption) ?_
            rotate_left
            · (intro w hSw; (try dsimp only at hSw); go_simp) <;> with_reducible rfl
            try simp only [Act.put, List.setIfInBounds_toArray, List.set_cons_zero, List.set_cons_succ]
            refine takeD (i := 2) (d := some 80) (v := ?_) _ rfl rfl (by kernel_rfl) (by kernel_rfl) (by kernel_rfl) (fun _ _ _ h => h) (by rfl) ?_ (by assumption) ?_
            rotate_left
            · (intro w hSw; (try dsimp only at hSw); go_simp) <;> with_reducible rfl
            try simp only [Act.put, List.setIfInBounds_toArray, List.set_cons_zero, List.set_cons_succ]
            refine takeD (i := 3) (d := some 81) (v := ?_) _ rfl rfl (by kernel_rfl) (by kernel_rfl) (by kernel_rfl) (fun _ _ _ h => h) (by rfl) ?_ (by assumption) ?_
            rotate_left
            · (intro w hSw; (try dsimp only at hSw); go_simp) <;> with_reducible rfl
            try simp only [Act.put, List.setIfInBounds_toArray, List.set_cons_zero, List.set_cons_succ]
            refine takeD (i := 4) (d := some 82) (v := ?_) _ rfl rfl (by kernel_rfl) (by kernel_rfl) (by kernel_rfl) (fun _ _ _ h => h) (by rfl) ?_ (by assumption) ?_
            rotate_left
            · (intro w hSw; (try dsimp only at hSw); go_simp) <;> with_reducible rfl
            try simp only [Act.put, List.setIfInBounds_toArray, List.set_cons_zero, List.set_cons_succ]
            refine takeD (i := 5) (d := some 83) (v := ?_) _ rfl rfl (by kernel_rfl) (by kernel_rfl) (by kernel_rfl) (fun _ _ _ h => h) (by rfl) ?_ (by assumption) ?_
            rotate_left
            · (intro w hSw; (try dsimp only at hSw); go_simp) <;> with_reducible rfl
            try simp only [Act.put, List.setIfInBounds_toArray, List.set_cons_zero, List.set_cons_succ]
            refine takeD (i := 6) (d := some 84) (v := ?_) _ rfl rfl (by kernel_rfl) (by kernel_rfl) (by kernel_rfl) (fun _ _ _ h => h) (by rfl) ?_ (by assumption) ?_
            rotate_left
            · (intro w hSw; (try dsimp only at hSw); go_simp) <;> with_reducible rfl
            try simp only [Act.put, List.setIfInBounds_toArray, List.set_cons_zero, List.set_cons_succ]
            refine takeD (i := 7) (d := some 85) (v := ?_) _ rfl rfl (by kernel_rfl) (by kernel_rfl) (by kernel_rfl) (fun _ _ _ h => h) (by rfl) ?_ (by assumption) ?_
            rotate_left
            · (intro w hSw; (try dsimp only at hSw); go_simp) <;> with_reducible rfl
            try simp only [Act.put, List.setIfInBounds_toArray, List.set_cons_zero, List.set_cons_succ]
            refine takeD (i := 8) (d := some 86) (v := ?_) _ rfl rfl (by kernel_rfl) (by kernel_rfl) (by kernel_rfl) (fun _ _ _ h => h) (by rfl) ?_ (by assumption) ?_
            rotate_left
            · (intro w hSw; (try dsimp only at hSw); go_simp) <;> with_reducible rfl
            try simp only [Act.put, List.setIfInBounds_toArray, List.set_cons_zero, List.set_cons_succ]
            refine takeD (i := 9) (d := some 87) (v := ?_) _ rfl rfl (by kernel_rfl) (by kernel_rfl) (by kernel_rfl) (fun _ _ _ h => h) (by rfl) ?_ (by assumption) ?_
            rotate_left
            · (intro w hSw; (try dsimp only at hSw); go_simp) <;> with_reducible rfl
            try simp only [Act.put, List.setIfInBounds_toArray, List.set_cons_zero, List.set_cons_succ]
            have HP := hHeld
            clear hHeld
            refine wpAnyH_ready (rs := [10]) (by kernel_rfl) (by simp) ?_
            refine AllReadyH.cons rfl (fun K hK => ?_) AllReadyH.nil
            go_simp
            with_reducible refine (CP.out _ HP.1).mono ?_
            rintro e W1 ⟨rfl, b⟩
            refine hK.out _ _ ?_ (fun hHeld => ?_)
            · exact ⟨HP.1.trans (b.mono HP.1.size), cell_later b (cell_later (Below.refl _ _).drew dn1), cell_later b (cell_later (Below.refl _ _).drew en1), cell_later b (cell_later (Below.refl _ _).drew e0_1), cell_later b (cell_later (Below.refl _ _).drew e1_1), cell_later b (cell_later (Below.refl _ _).drew e2_1), cell_later b (cell_later (Below.refl _ _).drew e3_1), cell_later b (cell_later (Below.refl _ _).drew e4_1), cell_later b (cell_later (Below.refl _ _).drew e5_1), cell_later b (cell_later (Below.refl _ _).drew e6_1), cell_later b (cell_later (Below.refl _ _).drew e7_1), cell_later b (cell_later (Below.refl _ _).drew e8_1), cell_later b (cell_later (Below.refl _ _).drew e9_1), cell_later b (cell_later (Below.refl _ _).drew e10_1), cell_later b (cell_later (Below.refl _ _).drew e11_1), cell_later b (cell_later (Below.refl _ _).drew e12_1), cell_later b (cell_later (Below.refl _ _).drew f0_1), cell_later b (cell_later (Below.refl _ _).drew f1_1), cell_later b (cell_later (Below.refl _ _).drew f2_1), cell_later b (cell_later (Below.refl _ _).drew f3_1), cell_later b (cell_later (Below.refl _ _).drew f4_1), cell_later b (cell_later (Below.refl _ _).drew f5_1), cell_later b (cell_later (Below.refl _ _).drew f6_1), cell_later b (cell_later (Below.refl _ _).drew f7_1), cell_later b (cell_later (Below.refl _ _).drew f8_1), cell_later b (cell_later (Below.refl _ _).drew f9_1), cell_later b (cell_later (Below.refl _ _).drew f10_1), cell_later b (cell_later (Below.refl _ _).drew f11_1), cell_later b (cell_later (Below.refl _ _).drew f12_1)⟩
            clear hK K b HP
            try simp only [Act.put, List.setIfInBounds_toArray, List.set_cons_zero, List.set_cons_succ]
            refine takeD (i := 11) (d := some 89) (v := ?_) _ rfl rfl (by kernel_rfl) (by kernel_rfl) (by kernel_rfl) (fun _ _ _ h => h) (by rfl) ?_ (by assumption) ?_
            rotate_left
            · (intro w hSw; (try dsimp only at hSw); go_simp) <;> with_reducible rfl
            try simp only [Act.put, List.setIfInBounds_toArray, List.set_cons_zero, List.set_cons_succ]
            refine wpAnyH_done (by kernel_rfl) ?_ _
            have BP1 := Lib.hid hHeld.1
            clear hHeld dn1 en1 e0_1 e1_1 e2_1 e3_1 e4_1 e5_1 e6_1 e7_1 e8_1 e9_1 e10_1 e11_1 e12_1 f0_1 f1_1 f2_1 f3_1 f4_1 f5_1 f6_1 f7_1 f8_1 f9_1 f10_1 f11_1 f12_1
            cases t1 with
            | true =>
              go_wp2_with fail
              go_roundw
              case rel =>
                have Q : ERel samePartition nqb qb qb' W0 (.int .i64 ((k1 : Int) + 1)) _ := ERel.next HX1.out HxS1.out HyS1.out HT1.out HA1.out BP1.out
                first | exact Q | ((repeat apply Exists.intro); exact ⟨Q, rfl⟩)
              case measure => have := HX1.out; simp [intOf]; omega
            | false =>
              have HE : Hid (eqB samePartition qb qb' = false) := eqB_el HxS1.out HyS1.out HT1.out
              go_wp2_with fail
              have HF : Hid (r = false) := HB2r.out HE.out
              go_ret
              exact ⟨by rw [HF.out]; rfl, BW.out.trans (Below.mono BP1.out BW.out.size)⟩
          · have hkI1 : ¬ (k1 : Int) < (nqb : Int) := by omega
            have HAll1 : Hid (eqB samePartition qb qb' = true) := eqB_ok HNqb.out HNqb'.out HK1.out hlt HA1.out
            clear hlt HK1 HA1
            go_wp2_with fail
            go_loopw [6] (fun v wr => ERel sameSchedule nqc qc qc' W0 v wr) (fun v => fun _ => nqc - (intOf v).toNat)
            case atStart => exact ERel.start HB1.out
            case round =>
              clear HB1
              obtain ⟨⟨k2, hk, rfl, hall, hb⟩⟩ := hrel
              obtain ⟨wo2, hwo⟩ : ∃ wo, wo = wr := ⟨_, rfl⟩
              subst hwo
              have HK2 := Lib.hid hk
              have HA2 := Lib.hid hall
              have HB2 := Lib.hid hb
              clear hk hall hb
              have dn2 : wo2.cell? ⟨w.heap.size, 2, none⟩ = some (.slice aqc nqc cqc) := cell_later HB2.out (HX.out 2 _ rfl)
              have en2 : wo2.cell? ⟨w.heap.size + 1, 2, none⟩ = some (.slice aqc' nqc cqc') := cell_later HB2.out (HY.out 2 _ rfl)
              by_cases hlt : k2 < nqc
              · have hkI2 : (k2 : Int) < (nqc : Int) := by omega
                have HX2 : Hid (k2 < nqc) := hlt
                have hnb2 := HMqc.out
                obtain ⟨hnx, b2, off2, x, cs, hax, hbl, hx, hR, _, hc⟩ := HRqc.out.at_ k2 hlt
                clear hnx hbl
                subst hax
                have HxS2 := Lib.hid hx
                clear hx
                obtain ⟨qa_2, qb_2, qc_2⟩ := x
                obtain ⟨vqc_2, rfl, _, hqc_2⟩ := hR
                obtain ⟨aqc_2, cqc_2, rfl, hmqc_2⟩ := hqc_2.form
                obtain ⟨nqc_2, hnqc_2⟩ : ∃ n, qc_2.length = n := ⟨_, rfl⟩
                rw [hnqc_2] at hqc_2 hmqc_2 hc
                unfold rowMax at hmqc_2
                have HMqc_2 := Lib.hid hmqc_2
                have HNqc_2 := Lib.hid hnqc_2
                have HRRqc_2 := Lib.hid hqc_2
                clear hnqc_2 hmqc_2 hqc_2
                have e0_2 : wo2.cell? ⟨b2, off2 + k2 * 3, none⟩ = some (.string qa_2) := cell_later HB2.out (hc 0 _ rfl)
                have e1_2 : wo2.cell? ⟨b2, off2 + k2 * 3 + 1, none⟩ = some (.int .i64 qb_2) := cell_later HB2.out (hc 1 _ rfl)
                have e2_2 : wo2.cell? ⟨b2, off2 + k2 * 3 + 2, none⟩ = some (.slice aqc_2 nqc_2 cqc_2) := cell_later HB2.out (hc 2 _ rfl)
                clear hc
                obtain ⟨hnx, b'2, off'2, y, cs', hax, hbl, hy, hR', _, hc'⟩ := HRqc'.out.at_ k2 hlt
                clear hnx hbl
                subst hax
                have HyS2 := Lib.hid hy
                clear hy
                obtain ⟨qa_2', qb_2', qc_2'⟩ := y
                obtain ⟨vqc_2', rfl, _, hqc_2'⟩ := hR'
                obtain ⟨aqc_2', cqc_2', rfl, hmqc_2'⟩ := hqc_2'.form
                obtain ⟨nqc_2', hnqc_2'⟩ : ∃ n, qc_2'.length = n := ⟨_, rfl⟩
                rw [hnqc_2'] at hqc_2' hmqc_2' hc'
                unfold rowMax at hmqc_2'
                have HMqc_2' := Lib.hid hmqc_2'
                have HNqc_2' := Lib.hid hnqc_2'
                have HRRqc_2' := Lib.hid hqc_2'
                clear hnqc_2' hmqc_2' hqc_2'
                have f0_2 : wo2.cell? ⟨b'2, off'2 + k2 * 3, none⟩ = some (.string qa_2') := cell_later HB2.out (hc' 0 _ rfl)
                have f1_2 : wo2.cell? ⟨b'2, off'2 + k2 * 3 + 1, none⟩ = some (.int .i64 qb_2') := cell_later HB2.out (hc' 1 _ rfl)
                have f2_2 : wo2.cell? ⟨b'2, off'2 + k2 * 3 + 2, none⟩ = some (.slice aqc_2' nqc_2' cqc_2') := cell_later HB2.out (hc' 2 _ rfl)
                clear hc'
                clear hlt
                go_upto_region 11 with fail
                go_cut [7, 8] (fun s7 s8 wx => ∃ x y : Nat, s7 = .pointer (some ⟨x, 0, none⟩) ∧ s8 = .pointer (some ⟨y, 0, none⟩) ∧ Below wo2.heap.size wo2 wx ∧ wx.cell? ⟨x, 0, none⟩ = some (.string qa_2) ∧ wx.cell? ⟨x, 1, none⟩ = some (.int .i64 qb_2) ∧ wx.cell? ⟨x, 2, none⟩ = some (.slice aqc_2 nqc_2 cqc_2) ∧ wx.cell? ⟨y, 0, none⟩ = some (.string qa_2') ∧ wx.cell? ⟨y, 1, none⟩ = some (.int .i64 qb_2') ∧ wx.cell? ⟨y, 2, none⟩ = some (.slice aqc_2' nqc_2' cqc_2'))
                case first =>
                  have KEEP : ∀ w', Below wo2.heap.size wo2 w' → (fun w' => Below wo2.heap.size wo2 w' ∧ w'.cell? ⟨w.heap.size, 2, none⟩ = some (.slice (some ⟨b2, off2, none⟩) nqc cqc) ∧ w'.cell? ⟨w.heap.size + 1, 2, none⟩ = some (.slice (some ⟨b'2, off'2, none⟩) nqc cqc') ∧ w'.cell? ⟨b2, off2 + k2 * 3, none⟩ = some (.string qa_2) ∧ w'.cell? ⟨b2, off2 + k2 * 3 + 1, none⟩ = some (.int .i64 qb_2) ∧ w'.cell? ⟨b2, off2 + k2 * 3 + 2, none⟩ = some (.slice aqc_2 nqc_2 cqc_2) ∧ w'.cell? ⟨b'2, off'2 + k2 * 3, none⟩ = some (.string qa_2') ∧ w'.cell? ⟨b'2, off'2 + k2 * 3 + 1, none⟩ = some (.int .i64 qb_2') ∧ w'.cell? ⟨b'2, off'2 + k2 * 3 + 2, none⟩ = some (.slice aqc_2' nqc_2' cqc_2')) w' := fun w' hb => ⟨hb, cell_later hb dn2, cell_later hb en2, cell_later hb e0_2, cell_later hb e1_2, cell_later hb e2_2, cell_later hb f0_2, cell_later hb f1_2, cell_later hb f2_2⟩
                  have HKEEP := Lib.hid KEEP
                  clear KEEP
                  go_region_held3 (fun w' => Below wo2.heap.size wo2 w' ∧ w'.cell? ⟨w.heap.size, 2, none⟩ = some (.slice (some ⟨b2, off2, none⟩) nqc cqc) ∧ w'.cell? ⟨w.heap.size + 1, 2, none⟩ = some (.slice (some ⟨b'2, off'2, none⟩) nqc cqc') ∧ w'.cell? ⟨b2, off2 + k2 * 3, none⟩ = some (.string qa_2) ∧ w'.cell? ⟨b2, off2 + k2 * 3 + 1, none⟩ = some (.int .i64 qb_2) ∧ w'.cell? ⟨b2, off2 + k2 * 3 + 2, none⟩ = some (.slice aqc_2 nqc_2 cqc_2) ∧ w'.cell? ⟨b'2, off'2 + k2 * 3, none⟩ = some (.string qa_2') ∧ w'.cell? ⟨b'2, off'2 + k2 * 3 + 1, none⟩ = some (.int .i64 qb_2') ∧ w'.cell? ⟨b'2, off'2 + k2 * 3 + 2, none⟩ = some (.slice aqc_2' nqc_2' cqc_2')) ((refine HKEEP.out _ ?_; repeat (first | exact Below.refl _ _ | apply Below.drew | refine Below.alloc ?_ (by simp; try omega) _ | refine Below.setCell ?_ (by simp; try omega) _))) (fail)
                  all_goals
                    go_wp2_with fail
                    go_meet
                    refine ⟨_, _, rfl, rfl, ?_, ?_, ?_, ?_, ?_, ?_, ?_⟩
                    · repeat (first | exact Below.refl _ _ | apply Below.drew | refine Below.alloc ?_ (by simp; try omega) _ | refine Below.setCell ?_ (by simp; try omega) _)
                    all_goals simp [go_sem, World.cell?_alloc_past]
                case rest =>
                  obtain ⟨x2, y2, rfl, rfl, hw⟩ := hcut
                  obtain ⟨hbel, p0_2, p1_2, p2_2, r0_2, r1_2, r2_2⟩ := hw
                  obtain ⟨wc2, hwc⟩ : ∃ w, w = wc := ⟨_, rfl⟩
                  subst hwc
                  have HP0_2 := Lib.hid p0_2
                  have HR0_2 := Lib.hid r0_2
                  have HP1_2 := Lib.hid p1_2
                  have HR1_2 := Lib.hid r1_2
                  have HP2_2 := Lib.hid p2_2
                  have HR2_2 := Lib.hid r2_2
                  have BC2 : Hid (Below W0.heap.size W0 wc2) := HB2.out.trans (hbel.mono HB2.out.size)
                  clear hbel e0_2 f0_2 e1_2 f1_2 e2_2 f2_2 dn2 en2
                  obtain ⟨t2_0, h2_0⟩ : ∃ t : Bool, decide (qa_2 = qa_2') = t := ⟨_, rfl⟩
                  have C2_0 : (qa_2.toList == qa_2'.toList) = t2_0 := by rw [str_eq]; exact h2_0
                  have D2_0 : (qa_2.toList != qa_2'.toList) = !t2_0 := by rw [bne, C2_0]
                  obtain ⟨t2_1, h2_1⟩ : ∃ t : Bool, decide (qb_2 = qb_2') = t := ⟨_, rfl⟩
                  have C2_1 : (qb_2 == qb_2') = t2_1 := h2_1
                  have D2_1 : (qb_2 != qb_2') = !t2_1 := by rw [bne, C2_1]
                  have HRT2 : Hid (sameSchedule ⟨qa_2, qb_2, qc_2⟩ ⟨qa_2', qb_2', qc_2'⟩ = (t2_0 && t2_1 && eqB sameWindow qc_2 qc_2')) := by unfold Hid sameSchedule; dsimp only; rw [h2_0, h2_1]
                  clear h2_0 h2_1
                  cases t2_0 with
                  | false =>
                    rw [Bool.not_false] at D2_0
                    have HE : Hid (eqB sameSchedule qc qc' = false) := eqB_el HxS2.out HyS2.out (by have e := HRT2.out; simpa using e)
                    go_wp2_with fail
                    have HF : Hid (r = false) := HB3r.out HE.out
                    go_ret
                    exact ⟨by rw [HF.out]; rfl, BW.out.trans (Below.mono BC2.out BW.out.size)⟩
                  | true =>
                    rw [Bool.not_true] at D2_0
                    cases t2_1 with
                    | false =>
                      rw [Bool.not_false] at D2_1
                      have HE : Hid (eqB sameSchedule qc qc' = false) := eqB_el HxS2.out HyS2.out (by have e := HRT2.out; simpa using e)
                      go_wp2_with fail
                      have HF : Hid (r = false) := HB3r.out HE.out
                      go_ret
                      exact ⟨by rw [HF.out]; rfl, BW.out.trans (Below.mono BC2.out BW.out.size)⟩
                    | true =>
                      rw [Bool.not_true] at D2_1
                      by_cases hl2 : nqc_2 = nqc_2'
                      · subst hl2
                        go_wp2_with fail
                        have BI2 : Hid (Below wc2.heap.size wc2 wc2) := Below.refl _ _
                        have HRW2 : Hid (Row wc2 3 RWindow (.slice aqc_2 nqc_2 cqc_2) qc_2) := HRRqc_2.out.below BC2.out
                        have HRV2 : Hid (Row wc2 3 RWindow (.slice aqc_2' nqc_2 cqc_2') qc_2') := HRRqc_2'.out.below BC2.out
                        clear p0_2 r0_2 p1_2 r1_2 p2_2 r2_2
                        go_loopw [9] (fun v wr => ERel sameWindow nqc_2 qc_2 qc_2' wc2 v wr) (fun v => fun _ => nqc_2 - (intOf v).toNat)
                        case atStart => exact ERel.start BI2.out
                        case round =>
                          clear BI2
                          obtain ⟨⟨k3, hk, rfl, hall, hb⟩⟩ := hrel
                          obtain ⟨wo3, hwo⟩ : ∃ wo, wo = wr := ⟨_, rfl⟩
                          subst hwo
                          have HK3 := Lib.hid hk
                          have HA3 := Lib.hid hall
                          have HB3 := Lib.hid hb
                          clear hk hall hb
                          have dI2 := cell_later HB3.out HP2_2.out
                          have eI2 := cell_later HB3.out HR2_2.out
                          by_cases hlt : k3 < nqc_2
                          · have hkI3 : (k3 : Int) < (nqc_2 : Int) := by omega
                            have HX3 : Hid (k3 < nqc_2) := hlt
                            have hnb3 := HMqc_2.out
                            obtain ⟨hnx, b3, off3, x, cs, hax, hbl, hx, hR, _, hc⟩ := HRW2.out.at_ k3 hlt
                            clear hnx hbl
                            subst hax
                            have HxS3 := Lib.hid hx
                            clear hx
                            obtain ⟨qa_3, qb_3, qc_3⟩ := x
                            obtain ⟨rfl, _⟩ := hR
                            have e0_3 : wo3.cell? ⟨b3, off3 + k3 * 3, none⟩ = some (.int .i64 qa_3) := cell_later HB3.out (hc 0 _ rfl)
                            have e1_3 : wo3.cell? ⟨b3, off3 + k3 * 3 + 1, none⟩ = some (.int .i64 qb_3) := cell_later HB3.out (hc 1 _ rfl)
                            have e2_3 : wo3.cell? ⟨b3, off3 + k3 * 3 + 2, none⟩ = some (.int .i64 qc_3) := cell_later HB3.out (hc 2 _ rfl)
                            clear hc
                            obtain ⟨hnx, b'3, off'3, y, cs', hax, hbl, hy, hR', _, hc'⟩ := HRV2.out.at_ k3 hlt
                            clear hnx hbl
                            subst hax
                            have HyS3 := Lib.hid hy
                            clear hy
                            obtain ⟨qa_3', qb_3', qc_3'⟩ := y
                            obtain ⟨rfl, _⟩ := hR'
                            have f0_3 : wo3.cell? ⟨b'3, off'3 + k3 * 3, none⟩ = some (.int .i64 qa_3') := cell_later HB3.out (hc' 0 _ rfl)
                            have f1_3 : wo3.cell? ⟨b'3, off'3 + k3 * 3 + 1, none⟩ = some (.int .i64 qb_3') := cell_later HB3.out (hc' 1 _ rfl)
                            have f2_3 : wo3.cell? ⟨b'3, off'3 + k3 * 3 + 2, none⟩ = some (.int .i64 qc_3') := cell_later HB3.out (hc' 2 _ rfl)
                            clear hc'
                            obtain ⟨t3, ht⟩ : ∃ t, sameWindow ⟨qa_3, qb_3, qc_3⟩ ⟨qa_3', qb_3', qc_3'⟩ = t := ⟨_, rfl⟩
                            have HT3 := Lib.hid ht
                            have RUN : ∀ W, (binOp .neq 84 (.agg #[.int .i64 qa_3, .int .i64 qb_3, .int .i64 qc_3]) (.agg #[.int .i64 qa_3', .int .i64 qb_3', .int .i64 qc_3'])).run Try.prog W = .ok (.bool (!t3)) W := fun W => by rw [← ht]; exact neqWindow qa_3 qb_3 qc_3 qa_3' qb_3' qc_3' W
                            clear ht hlt
                            go_wp2_with fail
                            go_quiet (fail)
                            clear RUN e0_3 f0_3 e1_3 f1_3 e2_3 f2_3
                            cases t3 with
                            | true =>
                              go_wp2_with fail
                              go_roundw
                              case rel =>
                                have Q : ∀ N, ERel sameWindow nqc_2 qc_2 qc_2' wc2 (.int .i64 ((k3 : Int) + 1)) (wo3.drewN N) := fun N => ERel.next HX3.out HxS3.out HyS3.out HT3.out HA3.out (below_drewN HB3.out N)
                                first | exact Q _ | ((repeat apply Exists.intro); exact ⟨Q _, rfl⟩)
                              case measure => have := HX3.out; simp [intOf]; omega
                            | false =>
                              have HE : Hid (eqB sameWindow qc_2 qc_2' = false) := eqB_el HxS3.out HyS3.out HT3.out
                              go_wp2_with fail
                              have BE : ∀ N, Below wc2.heap.size wc2 (wo3.drewN N) := fun N => below_drewN HB3.out N
                              have HE2 : Hid (eqB sameSchedule qc qc' = false) := eqB_el HxS2.out HyS2.out (by have e := HRT2.out; rw [HE.out] at e; simpa using e)
                              have HF : Hid (r = false) := HB3r.out HE2.out
                              go_ret
                              exact ⟨by rw [HF.out]; rfl, BW.out.trans (Below.mono (BC2.out.trans (Below.mono (BE _) BC2.out.size)) BW.out.size)⟩
                          · have hkI3 : ¬ (k3 : Int) < (nqc_2 : Int) := by omega
                            have HAll3 : Hid (eqB sameWindow qc_2 qc_2' = true) := eqB_ok HNqc_2.out HNqc_2'.out HK3.out hlt HA3.out
                            clear hlt HK3 HA3
                            have BO2 : Hid (Below W0.heap.size W0 wo3) := BC2.out.trans (HB3.out.mono BC2.out.size)
                            go_wp2_with fail
                            go_roundw
                            case rel =>
                              have Q : ERel sameSchedule nqc qc qc' W0 (.int .i64 ((k2 : Int) + 1)) wo3 := ERel.next HX2.out HxS2.out HyS2.out (by have e := HRT2.out; rw [HAll3.out] at e; simpa using e) HA2.out BO2.out
                              first | exact Q | ((repeat apply Exists.intro); exact ⟨Q, rfl⟩)
                            case measure => have := HX2.out; simp [intOf]; omega
                      · have hlB : ((nqc_2 : Int) == (nqc_2' : Int)) = false := by rw [beq_eq_false_iff_ne]; omega
                        have hlC : ((nqc_2 : Int) != (nqc_2' : Int)) = true := by rw [bne_iff_ne]; omega
                        have HL0 : Hid (eqB sameWindow qc_2 qc_2' = false) := eqB_len HNqc_2.out HNqc_2'.out hl2
                        have HE : Hid (eqB sameSchedule qc qc' = false) := eqB_el HxS2.out HyS2.out (by have e := HRT2.out; rw [HL0.out] at e; simpa using e)
                        go_wp2_with fail
                        have HF : Hid (r = false) := HB3r.out HE.out
                        go_ret
                        exact ⟨by rw [HF.out]; rfl, BW.out.trans (Below.mono BC2.out BW.out.size)⟩
              · have hkI2 : ¬ (k2 : Int) < (nqc : Int) := by omega
                have HAll2 : Hid (eqB sameSchedule qc qc' = true) := eqB_ok HNqc.out HNqc'.out HK2.out hlt HA2.out
                clear hlt HK2 HA2
                go_wp2_with fail
                go_loopw [10] (fun v wr => ERel sameChannel nqe qe qe' W0 v wr) (fun v => fun _ => nqe - (intOf v).toNat)
                case atStart => exact ERel.start HB2.out
                case round =>
                  clear HB2
                  obtain ⟨⟨k4, hk, rfl, hall, hb⟩⟩ := hrel
                  obtain ⟨wo4, hwo⟩ : ∃ wo, wo = wr := ⟨_, rfl⟩
                  subst hwo
                  have HK4 := Lib.hid hk
                  have HA4 := Lib.hid hall
                  have HB4 := Lib.hid hb
                  clear hk hall hb
                  have dn4 : wo4.cell? ⟨w.heap.size, 4, none⟩ = some (.slice aqe nqe cqe) := cell_later HB4.out (HX.out 4 _ rfl)
                  have en4 : wo4.cell? ⟨w.heap.size + 1, 4, none⟩ = some (.slice aqe' nqe cqe') := cell_later HB4.out (HY.out 4 _ rfl)
                  by_cases hlt : k4 < nqe
                  · have hkI4 : (k4 : Int) < (nqe : Int) := by omega
                    have HX4 : Hid (k4 < nqe) := hlt
                    have hnb4 := HMqe.out
                    obtain ⟨hnx, b4, off4, x, cs, hax, hbl, hx, hR, _, hc⟩ := HRqe.out.at_ k4 hlt
                    clear hnx hbl
                    subst hax
                    have HxS4 := Lib.hid hx
                    clear hx
                    obtain ⟨qa_4, qb_4, qc_4⟩ := x
                    obtain ⟨vqc_4, rfl, hqc_4⟩ := hR
                    obtain ⟨aqc_4, cqc_4, rfl, hmqc_4⟩ := hqc_4.form
                    obtain ⟨nqc_4, hnqc_4⟩ : ∃ n, qc_4.length = n := ⟨_, rfl⟩
                    rw [hnqc_4] at hqc_4 hmqc_4 hc
                    unfold rowMax at hmqc_4
                    have HMqc_4 := Lib.hid hmqc_4
                    have HNqc_4 := Lib.hid hnqc_4
                    have HRRqc_4 := Lib.hid hqc_4
                    clear hnqc_4 hmqc_4 hqc_4
                    have e0_4 : wo4.cell? ⟨b4, off4 + k4 * 3, none⟩ = some (.int .i64 qa_4) := cell_later HB4.out (hc 0 _ rfl)
                    have e1_4 : wo4.cell? ⟨b4, off4 + k4 * 3 + 1, none⟩ = some (.int .i64 qb_4) := cell_later HB4.out (hc 1 _ rfl)
                    have e2_4 : wo4.cell? ⟨b4, off4 + k4 * 3 + 2, none⟩ = some (.slice aqc_4 nqc_4 cqc_4) := cell_later HB4.out (hc 2 _ rfl)
                    clear hc
                    obtain ⟨hnx, b'4, off'4, y, cs', hax, hbl, hy, hR', _, hc'⟩ := HRqe'.out.at_ k4 hlt
                    clear hnx hbl
                    subst hax
                    have HyS4 := Lib.hid hy
                    clear hy
                    obtain ⟨qa_4', qb_4', qc_4'⟩ := y
                    obtain ⟨vqc_4', rfl, hqc_4'⟩ := hR'
                    obtain ⟨aqc_4', cqc_4', rfl, hmqc_4'⟩ := hqc_4'.form
                    obtain ⟨nqc_4', hnqc_4'⟩ : ∃ n, qc_4'.length = n := ⟨_, rfl⟩
                    rw [hnqc_4'] at hqc_4' hmqc_4' hc'
                    unfold rowMax at hmqc_4'
                    have HMqc_4' := Lib.hid hmqc_4'
                    have HNqc_4' := Lib.hid hnqc_4'
                    have HRRqc_4' := Lib.hid hqc_4'
                    clear hnqc_4' hmqc_4' hqc_4'
                    have f0_4 : wo4.cell? ⟨b'4, off'4 + k4 * 3, none⟩ = some (.int .i64 qa_4') := cell_later HB4.out (hc' 0 _ rfl)
                    have f1_4 : wo4.cell? ⟨b'4, off'4 + k4 * 3 + 1, none⟩ = some (.int .i64 qb_4') := cell_later HB4.out (hc' 1 _ rfl)
                    have f2_4 : wo4.cell? ⟨b'4, off'4 + k4 * 3 + 2, none⟩ = some (.slice aqc_4' nqc_4' cqc_4') := cell_later HB4.out (hc' 2 _ rfl)
                    clear hc'
                    clear hlt
                    go_upto_region 22 with fail
                    go_cut [11, 12] (fun s7 s8 wx => ∃ x y : Nat, s7 = .pointer (some ⟨x, 0, none⟩) ∧ s8 = .pointer (some ⟨y, 0, none⟩) ∧ Below wo4.heap.size wo4 wx ∧ wx.cell? ⟨x, 0, none⟩ = some (.int .i64 qa_4) ∧ wx.cell? ⟨x, 1, none⟩ = some (.int .i64 qb_4) ∧ wx.cell? ⟨x, 2, none⟩ = some (.slice aqc_4 nqc_4 cqc_4) ∧ wx.cell? ⟨y, 0, none⟩ = some (.int .i64 qa_4') ∧ wx.cell? ⟨y, 1, none⟩ = some (.int .i64 qb_4') ∧ wx.cell? ⟨y, 2, none⟩ = some (.slice aqc_4' nqc_4' cqc_4'))
                    case first =>
                      have KEEP : ∀ w', Below wo4.heap.size wo4 w' → (fun w' => Below wo4.heap.size wo4 w' ∧ w'.cell? ⟨w.heap.size, 4, none⟩ = some (.slice (some ⟨b4, off4, none⟩) nqe cqe) ∧ w'.cell? ⟨w.heap.size + 1, 4, none⟩ = some (.slice (some ⟨b'4, off'4, none⟩) nqe cqe') ∧ w'.cell? ⟨b4, off4 + k4 * 3, none⟩ = some (.int .i64 qa_4) ∧ w'.cell? ⟨b4, off4 + k4 * 3 + 1, none⟩ = some (.int .i64 qb_4) ∧ w'.cell? ⟨b4, off4 + k4 * 3 + 2, none⟩ = some (.slice aqc_4 nqc_4 cqc_4) ∧ w'.cell? ⟨b'4, off'4 + k4 * 3, none⟩ = some (.int .i64 qa_4') ∧ w'.cell? ⟨b'4, off'4 + k4 * 3 + 1, none⟩ = some (.int .i64 qb_4') ∧ w'.cell? ⟨b'4, off'4 + k4 * 3 + 2, none⟩ = some (.slice aqc_4' nqc_4' cqc_4')) w' := fun w' hb => ⟨hb, cell_later hb dn4, cell_later hb en4, cell_later hb e0_4, cell_later hb e1_4, cell_later hb e2_4, cell_later hb f0_4, cell_later hb f1_4, cell_later hb f2_4⟩
                      have HKEEP := Lib.hid KEEP
                      clear KEEP
                      go_region_held3 (fun w' => Below wo4.heap.size wo4 w' ∧ w'.cell? ⟨w.heap.size, 4, none⟩ = some (.slice (some ⟨b4, off4, none⟩) nqe cqe) ∧ w'.cell? ⟨w.heap.size + 1, 4, none⟩ = some (.slice (some ⟨b'4, off'4, none⟩) nqe cqe') ∧ w'.cell? ⟨b4, off4 + k4 * 3, none⟩ = some (.int .i64 qa_4) ∧ w'.cell? ⟨b4, off4 + k4 * 3 + 1, none⟩ = some (.int .i64 qb_4) ∧ w'.cell? ⟨b4, off4 + k4 * 3 + 2, none⟩ = some (.slice aqc_4 nqc_4 cqc_4) ∧ w'.cell? ⟨b'4, off'4 + k4 * 3, none⟩ = some (.int .i64 qa_4') ∧ w'.cell? ⟨b'4, off'4 + k4 * 3 + 1, none⟩ = some (.int .i64 qb_4') ∧ w'.cell? ⟨b'4, off'4 + k4 * 3 + 2, none⟩ = some (.slice aqc_4' nqc_4' cqc_4')) ((refine HKEEP.out _ ?_; repeat (first | exact Below.refl _ _ | apply Below.drew | refine Below.alloc ?_ (by simp; try omega) _ | refine Below.setCell ?_ (by simp; try omega) _))) (fail)
                      all_goals
                        go_wp2_with fail
                        go_meet
                        refine ⟨_, _, rfl, rfl, ?_, ?_, ?_, ?_, ?_, ?_, ?_⟩
                        · repeat (first | exact Below.refl _ _ | apply Below.drew | refine Below.alloc ?_ (by simp; try omega) _ | refine Below.setCell ?_ (by simp; try omega) _)
                        all_goals simp [go_sem, World.cell?_alloc_past]
                    case rest =>
                      obtain ⟨x4, y4, rfl, rfl, hw⟩ := hcut
                      obtain ⟨hbel, p0_4, p1_4, p2_4, r0_4, r1_4, r2_4⟩ := hw
                      obtain ⟨wc4, hwc⟩ : ∃ w, w = wc := ⟨_, rfl⟩
                      subst hwc
                      have HP0_4 := Lib.hid p0_4
                      have HR0_4 := Lib.hid r0_4
                      have HP1_4 := Lib.hid p1_4
                      have HR1_4 := Lib.hid r1_4
                      have HP2_4 := Lib.hid p2_4
                      have HR2_4 := Lib.hid r2_4
                      have BC4 : Hid (Below W0.heap.size W0 wc4) := HB4.out.trans (hbel.mono HB4.out.size)
                      clear hbel e0_4 f0_4 e1_4 f1_4 e2_4 f2_4 dn4 en4
                      obtain ⟨t4_0, h4_0⟩ : ∃ t : Bool, sameEnd ⟨qa_4, qb_4⟩ ⟨qa_4', qb_4'⟩ = t := ⟨_, rfl⟩
                      have D4_0 : ∀ W, (binOp .neq 69 (.agg #[.int .i64 qa_4, .int .i64 qb_4]) (.agg #[.int .i64 qa_4', .int .i64 qb_4'])).run Try.prog W = .ok (.bool (!t4_0)) W := fun W => by rw [← h4_0]; exact neqEnd qa_4 qb_4 qa_4' qb_4' W
                      have HRT4 : Hid (sameChannel ⟨qa_4, qb_4, qc_4⟩ ⟨qa_4', qb_4', qc_4'⟩ = (t4_0 && eqB sameEnd qc_4 qc_4')) := by unfold Hid sameChannel; dsimp only; rw [h4_0]
                      clear h4_0
                      cases t4_0 with
                      | false =>
                        simp only [Bool.not_false] at D4_0
                        have HE : Hid (eqB sameChannel qe qe' = false) := eqB_el HxS4.out HyS4.out (by have e := HRT4.out; simpa using e)
                        go_wp2_with fail
                        have HF : Hid (r = false) := HB4r.out HE.out
                        go_ret
                        exact ⟨by rw [HF.out]; rfl, BW.out.trans (Below.mono BC4.out BW.out.size)⟩
                      | true =>
                        simp only [Bool.not_true] at D4_0
                        by_cases hl4 : nqc_4 = nqc_4'
                        · subst hl4
                          go_wp2_with fail
                          have BI4 : Hid (Below wc4.heap.size wc4 wc4) := Below.refl _ _
                          have HRW4 : Hid (Row wc4 2 REnd (.slice aqc_4 nqc_4 cqc_4) qc_4) := HRRqc_4.out.below BC4.out
                          have HRV4 : Hid (Row wc4 2 REnd (.slice aqc_4' nqc_4 cqc_4') qc_4') := HRRqc_4'.out.below BC4.out
                          clear p0_4 r0_4 p1_4 r1_4 p2_4 r2_4
                          go_loopw [13] (fun v wr => ERel sameEnd nqc_4 qc_4 qc_4' wc4 v wr) (fun v => fun _ => nqc_4 - (intOf v).toNat)
                          case atStart => exact ERel.start BI4.out
                          case round =>
                            clear BI4
                            obtain ⟨⟨k5, hk, rfl, hall, hb⟩⟩ := hrel
                            obtain ⟨wo5, hwo⟩ : ∃ wo, wo = wr := ⟨_, rfl⟩
                            subst hwo
                            have HK5 := Lib.hid hk
                            have HA5 := Lib.hid hall
                            have HB5 := Lib.hid hb
                            clear hk hall hb
                            have dI4 := cell_later HB5.out HP2_4.out
                            have eI4 := cell_later HB5.out HR2_4.out
                            by_cases hlt : k5 < nqc_4
                            · have hkI5 : (k5 : Int) < (nqc_4 : Int) := by omega
                              have HX5 : Hid (k5 < nqc_4) := hlt
                              have hnb5 := HMqc_4.out
                              obtain ⟨hnx, b5, off5, x, cs, hax, hbl, hx, hR, _, hc⟩ := HRW4.out.at_ k5 hlt
                              clear hnx hbl
                              subst hax
                              have HxS5 := Lib.hid hx
                              clear hx
                              obtain ⟨qa_5, qb_5⟩ := x
                              obtain ⟨rfl, _⟩ := hR
                              have e0_5 : wo5.cell? ⟨b5, off5 + k5 * 2, none⟩ = some (.int .i64 qa_5) := cell_later HB5.out (hc 0 _ rfl)
                              have e1_5 : wo5.cell? ⟨b5, off5 + k5 * 2 + 1, none⟩ = some (.int .i64 qb_5) := cell_later HB5.out (hc 1 _ rfl)
                              clear hc
                              obtain ⟨hnx, b'5, off'5, y, cs', hax, hbl, hy, hR', _, hc'⟩ := HRV4.out.at_ k5 hlt
                              clear hnx hbl
                              subst hax
                              have HyS5 := Lib.hid hy
                              clear hy
                              obtain ⟨qa_5', qb_5'⟩ := y
                              obtain ⟨rfl, _⟩ := hR'
                              have f0_5 : wo5.cell? ⟨b'5, off'5 + k5 * 2, none⟩ = some (.int .i64 qa_5') := cell_later HB5.out (hc' 0 _ rfl)
                              have f1_5 : wo5.cell? ⟨b'5, off'5 + k5 * 2 + 1, none⟩ = some (.int .i64 qb_5') := cell_later HB5.out (hc' 1 _ rfl)
                              clear hc'
                              obtain ⟨t5, ht⟩ : ∃ t, sameEnd ⟨qa_5, qb_5⟩ ⟨qa_5', qb_5'⟩ = t := ⟨_, rfl⟩
                              have HT5 := Lib.hid ht
                              have RUN : ∀ W, (binOp .neq 69 (.agg #[.int .i64 qa_5, .int .i64 qb_5]) (.agg #[.int .i64 qa_5', .int .i64 qb_5'])).run Try.prog W = .ok (.bool (!t5)) W := fun W => by rw [← ht]; exact neqEnd qa_5 qb_5 qa_5' qb_5' W
                              clear ht hlt
                              go_wp2_with fail
                              go_quiet (fail)
                              clear RUN e0_5 f0_5 e1_5 f1_5
                              cases t5 with
                              | true =>
                                go_wp2_with fail
                                go_roundw
                                case rel =>
                                  have Q : ∀ N, ERel sameEnd nqc_4 qc_4 qc_4' wc4 (.int .i64 ((k5 : Int) + 1)) (wo5.drewN N) := fun N => ERel.next HX5.out HxS5.out HyS5.out HT5.out HA5.out (below_drewN HB5.out N)
                                  first | exact Q _ | ((repeat apply Exists.intro); exact ⟨Q _, rfl⟩)
                                case measure => have := HX5.out; simp [intOf]; omega
                              | false =>
                                have HE : Hid (eqB sameEnd qc_4 qc_4' = false) := eqB_el HxS5.out HyS5.out HT5.out
                                go_wp2_with fail
                                have BE : ∀ N, Below wc4.heap.size wc4 (wo5.drewN N) := fun N => below_drewN HB5.out N
                                have HE2 : Hid (eqB sameChannel qe qe' = false) := eqB_el HxS4.out HyS4.out (by have e := HRT4.out; rw [HE.out] at e; simpa using e)
                                have HF : Hid (r = false) := HB4r.out HE2.out
                                go_ret
                                exact ⟨by rw [HF.out]; rfl, BW.out.trans (Below.mono (BC4.out.trans (Below.mono (BE _) BC4.out.size)) BW.out.size)⟩
                            · have hkI5 : ¬ (k5 : Int) < (nqc_4 : Int) := by omega
                              have HAll5 : Hid (eqB sameEnd qc_4 qc_4' = true) := eqB_ok HNqc_4.out HNqc_4'.out HK5.out hlt HA5.out
                              clear hlt HK5 HA5
                              have BO4 : Hid (Below W0.heap.size W0 wo5) := BC4.out.trans (HB5.out.mono BC4.out.size)
                              go_wp2_with fail
                              go_roundw
                              case rel =>
                                have Q : ERel sameChannel nqe qe qe' W0 (.int .i64 ((k4 : Int) + 1)) wo5 := ERel.next HX4.out HxS4.out HyS4.out (by have e := HRT4.out; rw [HAll5.out] at e; simpa using e) HA4.out BO4.out
                                first | exact Q | ((repeat apply Exists.intro); exact ⟨Q, rfl⟩)
                              case measure => have := HX4.out; simp [intOf]; omega
                        · have hlB : ((nqc_4 : Int) == (nqc_4' : Int)) = false := by rw [beq_eq_false_iff_ne]; omega
                          have hlC : ((nqc_4 : Int) != (nqc_4' : Int)) = true := by rw [bne_iff_ne]; omega
                          have HL0 : Hid (eqB sameEnd qc_4 qc_4' = false) := eqB_len HNqc_4.out HNqc_4'.out hl4
                          have HE : Hid (eqB sameChannel qe qe' = false) := eqB_el HxS4.out HyS4.out (by have e := HRT4.out; rw [HL0.out] at e; simpa using e)
                          go_wp2_with fail
                          have HF : Hid (r = false) := HB4r.out HE.out
                          go_ret
                          exact ⟨by rw [HF.out]; rfl, BW.out.trans (Below.mono BC4.out BW.out.size)⟩
                  · have hkI4 : ¬ (k4 : Int) < (nqe : Int) := by omega
                    have HAll4 : Hid (eqB sameChannel qe qe' = true) := eqB_ok HNqe.out HNqe'.out HK4.out hlt HA4.out
                    clear hlt HK4 HA4
                    go_wp2_with fail
                    go_loopw [14] (fun v wr => ERel sameLink nqf qf qf' W0 v wr) (fun v => fun _ => nqf - (intOf v).toNat)
                    case atStart => exact ERel.start HB4.out
                    case round =>
                      clear HB4
                      obtain ⟨⟨k6, hk, rfl, hall, hb⟩⟩ := hrel
                      obtain ⟨wo6, hwo⟩ : ∃ wo, wo = wr := ⟨_, rfl⟩
                      subst hwo
                      have HK6 := Lib.hid hk
                      have HA6 := Lib.hid hall
                      have HB6 := Lib.hid hb
                      clear hk hall hb
                      have dn6 : wo6.cell? ⟨w.heap.size, 5, none⟩ = some (.slice aqf nqf cqf) := cell_later HB6.out (HX.out 5 _ rfl)
                      have en6 : wo6.cell? ⟨w.heap.size + 1, 5, none⟩ = some (.slice aqf' nqf cqf') := cell_later HB6.out (HY.out 5 _ rfl)
                      by_cases hlt : k6 < nqf
                      · have hkI6 : (k6 : Int) < (nqf : Int) := by omega
                        have HX6 : Hid (k6 < nqf) := hlt
                        have hnb6 := HMqf.out
                        obtain ⟨hnx, b6, off6, x, cs, hax, hbl, hx, hR, _, hc⟩ := HRqf.out.at_ k6 hlt
                        clear hnx hbl
                        subst hax
                        have HxS6 := Lib.hid hx
                        clear hx
                        obtain ⟨qa_6, qb_6, qc_6⟩ := x
                        obtain ⟨rfl, _⟩ := hR
                        have e0_6 : wo6.cell? ⟨b6, off6 + k6 * 3, none⟩ = some (.string qa_6) := cell_later HB6.out (hc 0 _ rfl)
                        have e1_6 : wo6.cell? ⟨b6, off6 + k6 * 3 + 1, none⟩ = some (.int .i64 qb_6) := cell_later HB6.out (hc 1 _ rfl)
                        have e2_6 : wo6.cell? ⟨b6, off6 + k6 * 3 + 2, none⟩ = some (.int .i64 qc_6) := cell_later HB6.out (hc 2 _ rfl)
                        clear hc
                        obtain ⟨hnx, b'6, off'6, y, cs', hax, hbl, hy, hR', _, hc'⟩ := HRqf'.out.at_ k6 hlt
                        clear hnx hbl
                        subst hax
                        have HyS6 := Lib.hid hy
                        clear hy
                        obtain ⟨qa_6', qb_6', qc_6'⟩ := y
                        obtain ⟨rfl, _⟩ := hR'
                        have f0_6 : wo6.cell? ⟨b'6, off'6 + k6 * 3, none⟩ = some (.string qa_6') := cell_later HB6.out (hc' 0 _ rfl)
                        have f1_6 : wo6.cell? ⟨b'6, off'6 + k6 * 3 + 1, none⟩ = some (.int .i64 qb_6') := cell_later HB6.out (hc' 1 _ rfl)
                        have f2_6 : wo6.cell? ⟨b'6, off'6 + k6 * 3 + 2, none⟩ = some (.int .i64 qc_6') := cell_later HB6.out (hc' 2 _ rfl)
                        clear hc'
                        obtain ⟨t6, ht⟩ : ∃ t, sameLink ⟨qa_6, qb_6, qc_6⟩ ⟨qa_6', qb_6', qc_6'⟩ = t := ⟨_, rfl⟩
                        have HT6 := Lib.hid ht
                        have RUN : ∀ W, (binOp .neq 76 (.agg #[.string qa_6, .int .i64 qb_6, .int .i64 qc_6]) (.agg #[.string qa_6', .int .i64 qb_6', .int .i64 qc_6'])).run Try.prog W = .ok (.bool (!t6)) W := fun W => by rw [← ht]; exact neqLink qa_6 qb_6 qc_6 qa_6' qb_6' qc_6' W
                        clear ht hlt
                        go_wp2_with fail
                        go_quiet (fail)
                        clear RUN e0_6 f0_6 e1_6 f1_6 e2_6 f2_6
                        cases t6 with
                        | true =>
                          go_wp2_with fail
                          go_roundw
                          case rel =>
                            have Q : ∀ N, ERel sameLink nqf qf qf' W0 (.int .i64 ((k6 : Int) + 1)) (wo6.drewN N) := fun N => ERel.next HX6.out HxS6.out HyS6.out HT6.out HA6.out (below_drewN HB6.out N)
                            first | exact Q _ | ((repeat apply Exists.intro); exact ⟨Q _, rfl⟩)
                          case measure => have := HX6.out; simp [intOf]; omega
                        | false =>
                          have HE : Hid (eqB sameLink qf qf' = false) := eqB_el HxS6.out HyS6.out HT6.out
                          go_wp2_with fail
                          have BE : ∀ N, Below W0.heap.size W0 (wo6.drewN N) := fun N => below_drewN HB6.out N
                          have HF : Hid (r = false) := HB5r.out HE.out
                          go_ret
                          exact ⟨by rw [HF.out]; rfl, BW.out.trans (Below.mono (BE _) BW.out.size)⟩
                      · have hkI6 : ¬ (k6 : Int) < (nqf : Int) := by omega
                        have HAll6 : Hid (eqB sameLink qf qf' = true) := eqB_ok HNqf.out HNqf'.out HK6.out hlt HA6.out
                        clear hlt HK6 HA6
                        go_wp2_with fail
                        have HF : Hid (r = true) := HGr.out (HT0.out) (HT1.out) (HAll1.out) (HAll2.out) (HAll4.out) (HAll6.out) (HT6.out)
                        go_ret
                        exact ⟨by rw [HF.out]; rfl, BW.out.trans (HB6.out.mono BW.out.size)⟩
end Go.Proofs.Ytchlgihanogeeaa
