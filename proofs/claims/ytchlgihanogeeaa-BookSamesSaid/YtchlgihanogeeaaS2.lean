/-
  Which elements and lists are the same: partitions. Each statement bears its own conditions.
-/
import Derived.Test.YtchlgihanogeeaaS1
import Derived.Deep.QuietTactic
import Derived.BigQuiet
namespace Go.Proofs.Ytchlgihanogeeaa
open Go.RowKit
set_option linter.unusedVariables false
set_option linter.unusedSimpArgs false
def samePartition (x y : MPartition) : Bool := decide (x.qa = y.qa) && decide (x.qk = y.qk) && sameBudget ⟨x.ql, x.qm⟩ ⟨y.ql, y.qm⟩ && eqB sameArea x.qb y.qb && eqB sameTask x.qc y.qc && eqB sameLock x.qd y.qd && eqB sameSema x.qe y.qe && eqB sameEvent x.qf y.qf && eqB sameBoard x.qg y.qg && eqB sameBuffer x.qh y.qh && eqB samePort x.qi y.qi && eqB sameRule x.qj y.qj
set_option maxRecDepth 100000 in
set_option maxHeartbeats 8000000 in
theorem samePartition_core (qa : ByteArray) (qb : List MArea) (qc : List MTask) (qd : List MLock) (qe : List MSema) (qf : List MEvent) (qg : List MBoard) (qh : List MBuffer) (qi : List MPort) (qj : List MRule) (qk : Int) (ql : Int) (qm : Int) (vqb : Value) (vqc : Value) (vqd : Value) (vqe : Value) (vqf : Value) (vqg : Value) (vqh : Value) (vqi : Value) (vqj : Value) (qa' : ByteArray) (qb' : List MArea) (qc' : List MTask) (qd' : List MLock) (qe' : List MSema) (qf' : List MEvent) (qg' : List MBoard) (qh' : List MBuffer) (qi' : List MPort) (qj' : List MRule) (qk' : Int) (ql' : Int) (qm' : Int) (vqb' : Value) (vqc' : Value) (vqd' : Value) (vqe' : Value) (vqf' : Value) (vqg' : Value) (vqh' : Value) (vqi' : Value) (vqj' : Value) (w : World) (hqb : Row w 6 RArea vqb qb) (hqc : Row w 8 RTask vqc qc) (hqd : Row w 2 RLock vqd qd) (hqe : Row w 4 RSema vqe qe) (hqf : Row w 1 REvent vqf qf) (hqg : Row w 2 RBoard vqg qg) (hqh : Row w 4 RBuffer vqh qh) (hqi : Row w 6 RPort vqi qi) (hqj : Row w 3 RRule vqj qj) (hqb' : Row w 6 RArea vqb' qb') (hqc' : Row w 8 RTask vqc' qc') (hqd' : Row w 2 RLock vqd' qd') (hqe' : Row w 4 RSema vqe' qe') (hqf' : Row w 1 REvent vqf' qf') (hqg' : Row w 2 RBoard vqg' qg') (hqh' : Row w 4 RBuffer vqh' qh') (hqi' : Row w 6 RPort vqi' qi') (hqj' : Row w 3 RRule vqj' qj') :
    Calls Try.prog 46 #[.agg #[.string qa, vqb, vqc, vqd, vqe, vqf, vqg, vqh, vqi, vqj, .int .i64 qk, .int .i64 ql, .int .i64 qm], .agg #[.string qa', vqb', vqc', vqd', vqe', vqf', vqg', vqh', vqi', vqj', .int .i64 qk', .int .i64 ql', .int .i64 qm']] w fun e w' => e = .returned (.bool (samePartition ⟨qa, qb, qc, qd, qe, qf, qg, qh, qi, qj, qk, ql, qm⟩ ⟨qa', qb', qc', qd', qe', qf', qg', qh', qi', qj', qk', ql', qm'⟩)) ∧ Below w.heap.size w w' := by
  obtain ⟨aqb, cqb, rfl, hmqb⟩ := hqb.form
  clear hmqb
  obtain ⟨nqb, hnqb⟩ : ∃ n, qb.length = n := ⟨_, rfl⟩
  rw [hnqb] at hqb ⊢
  clear hnqb
  obtain ⟨aqc, cqc, rfl, hmqc⟩ := hqc.form
  clear hmqc
  obtain ⟨nqc, hnqc⟩ : ∃ n, qc.length = n := ⟨_, rfl⟩
  rw [hnqc] at hqc ⊢
  clear hnqc
  obtain ⟨aqd, cqd, rfl, hmqd⟩ := hqd.form
  clear hmqd
  obtain ⟨nqd, hnqd⟩ : ∃ n, qd.length = n := ⟨_, rfl⟩
  rw [hnqd] at hqd ⊢
  clear hnqd
  obtain ⟨aqe, cqe, rfl, hmqe⟩ := hqe.form
  clear hmqe
  obtain ⟨nqe, hnqe⟩ : ∃ n, qe.length = n := ⟨_, rfl⟩
  rw [hnqe] at hqe ⊢
  clear hnqe
  obtain ⟨aqf, cqf, rfl, hmqf⟩ := hqf.form
  clear hmqf
  obtain ⟨nqf, hnqf⟩ : ∃ n, qf.length = n := ⟨_, rfl⟩
  rw [hnqf] at hqf ⊢
  clear hnqf
  obtain ⟨aqg, cqg, rfl, hmqg⟩ := hqg.form
  clear hmqg
  obtain ⟨nqg, hnqg⟩ : ∃ n, qg.length = n := ⟨_, rfl⟩
  rw [hnqg] at hqg ⊢
  clear hnqg
  obtain ⟨aqh, cqh, rfl, hmqh⟩ := hqh.form
  clear hmqh
  obtain ⟨nqh, hnqh⟩ : ∃ n, qh.length = n := ⟨_, rfl⟩
  rw [hnqh] at hqh ⊢
  clear hnqh
  obtain ⟨aqi, cqi, rfl, hmqi⟩ := hqi.form
  clear hmqi
  obtain ⟨nqi, hnqi⟩ : ∃ n, qi.length = n := ⟨_, rfl⟩
  rw [hnqi] at hqi ⊢
  clear hnqi
  obtain ⟨aqj, cqj, rfl, hmqj⟩ := hqj.form
  clear hmqj
  obtain ⟨nqj, hnqj⟩ : ∃ n, qj.length = n := ⟨_, rfl⟩
  rw [hnqj] at hqj ⊢
  clear hnqj
  obtain ⟨aqb', cqb', rfl, hmqb'⟩ := hqb'.form
  clear hmqb'
  obtain ⟨nqb', hnqb'⟩ : ∃ n, qb'.length = n := ⟨_, rfl⟩
  rw [hnqb'] at hqb' ⊢
  clear hnqb'
  obtain ⟨aqc', cqc', rfl, hmqc'⟩ := hqc'.form
  clear hmqc'
  obtain ⟨nqc', hnqc'⟩ : ∃ n, qc'.length = n := ⟨_, rfl⟩
  rw [hnqc'] at hqc' ⊢
  clear hnqc'
  obtain ⟨aqd', cqd', rfl, hmqd'⟩ := hqd'.form
  clear hmqd'
  obtain ⟨nqd', hnqd'⟩ : ∃ n, qd'.length = n := ⟨_, rfl⟩
  rw [hnqd'] at hqd' ⊢
  clear hnqd'
  obtain ⟨aqe', cqe', rfl, hmqe'⟩ := hqe'.form
  clear hmqe'
  obtain ⟨nqe', hnqe'⟩ : ∃ n, qe'.length = n := ⟨_, rfl⟩
  rw [hnqe'] at hqe' ⊢
  clear hnqe'
  obtain ⟨aqf', cqf', rfl, hmqf'⟩ := hqf'.form
  clear hmqf'
  obtain ⟨nqf', hnqf'⟩ : ∃ n, qf'.length = n := ⟨_, rfl⟩
  rw [hnqf'] at hqf' ⊢
  clear hnqf'
  obtain ⟨aqg', cqg', rfl, hmqg'⟩ := hqg'.form
  clear hmqg'
  obtain ⟨nqg', hnqg'⟩ : ∃ n, qg'.length = n := ⟨_, rfl⟩
  rw [hnqg'] at hqg' ⊢
  clear hnqg'
  obtain ⟨aqh', cqh', rfl, hmqh'⟩ := hqh'.form
  clear hmqh'
  obtain ⟨nqh', hnqh'⟩ : ∃ n, qh'.length = n := ⟨_, rfl⟩
  rw [hnqh'] at hqh' ⊢
  clear hnqh'
  obtain ⟨aqi', cqi', rfl, hmqi'⟩ := hqi'.form
  clear hmqi'
  obtain ⟨nqi', hnqi'⟩ : ∃ n, qi'.length = n := ⟨_, rfl⟩
  rw [hnqi'] at hqi' ⊢
  clear hnqi'
  obtain ⟨aqj', cqj', rfl, hmqj'⟩ := hqj'.form
  clear hmqj'
  obtain ⟨nqj', hnqj'⟩ : ∃ n, qj'.length = n := ⟨_, rfl⟩
  rw [hnqj'] at hqj' ⊢
  clear hnqj'
  obtain ⟨t0, h0⟩ : ∃ t : Bool, decide (qa = qa') = t := ⟨_, rfl⟩
  obtain ⟨t1, h1⟩ : ∃ t : Bool, decide (qk = qk') = t := ⟨_, rfl⟩
  obtain ⟨t2, h2⟩ : ∃ t : Bool, sameBudget ⟨ql, qm⟩ ⟨ql', qm'⟩ = t := ⟨_, rfl⟩
  obtain ⟨t3, h3⟩ : ∃ t : Bool, eqB sameArea qb qb' = t := ⟨_, rfl⟩
  obtain ⟨t4, h4⟩ : ∃ t : Bool, eqB sameTask qc qc' = t := ⟨_, rfl⟩
  obtain ⟨t5, h5⟩ : ∃ t : Bool, eqB sameLock qd qd' = t := ⟨_, rfl⟩
  obtain ⟨t6, h6⟩ : ∃ t : Bool, eqB sameSema qe qe' = t := ⟨_, rfl⟩
  obtain ⟨t7, h7⟩ : ∃ t : Bool, eqB sameEvent qf qf' = t := ⟨_, rfl⟩
  obtain ⟨t8, h8⟩ : ∃ t : Bool, eqB sameBoard qg qg' = t := ⟨_, rfl⟩
  obtain ⟨t9, h9⟩ : ∃ t : Bool, eqB sameBuffer qh qh' = t := ⟨_, rfl⟩
  obtain ⟨t10, h10⟩ : ∃ t : Bool, eqB samePort qi qi' = t := ⟨_, rfl⟩
  obtain ⟨t11, h11⟩ : ∃ t : Bool, eqB sameRule qj qj' = t := ⟨_, rfl⟩
  have HR : Hid (samePartition ⟨qa, qb, qc, qd, qe, qf, qg, qh, qi, qj, qk, ql, qm⟩ ⟨qa', qb', qc', qd', qe', qf', qg', qh', qi', qj', qk', ql', qm'⟩ = (t0 && t1 && t2 && t3 && t4 && t5 && t6 && t7 && t8 && t9 && t10 && t11)) := by unfold Hid samePartition; dsimp only; rw [h0, h1, h2, h3, h4, h5, h6, h7, h8, h9, h10, h11]
  have C0 : (qa.toList == qa'.toList) = t0 := by rw [str_eq]; exact h0
  have C1 : (qk == qk') = t1 := h1
  have C2 : ∀ W, (binOp .eql 50 (.agg #[.int .i64 ql, .int .i64 qm]) (.agg #[.int .i64 ql', .int .i64 qm'])).run Try.prog W = .ok (.bool t2) W := fun W => by rw [← h2]; exact eqlBudget ql qm ql' qm' W
  have C3 : Hid (∀ W, Below w.heap.size w W → Calls Try.prog 104 #[.slice aqb nqb cqb, .slice aqb' nqb' cqb'] W fun e w' => e = .returned (.bool t3) ∧ Below W.heap.size W w') := fun W hB => by rw [← h3]; exact equalArea_any _ _ qb qb' W (hqb.below hB) (hqb'.below hB)
  have C4 : Hid (∀ W, Below w.heap.size w W → Calls Try.prog 105 #[.slice aqc nqc cqc, .slice aqc' nqc' cqc'] W fun e w' => e = .returned (.bool t4) ∧ Below W.heap.size W w') := fun W hB => by rw [← h4]; exact equalTask_any _ _ qc qc' W (hqc.below hB) (hqc'.below hB)
  have C5 : Hid (∀ W, Below w.heap.size w W → Calls Try.prog 106 #[.slice aqd nqd cqd, .slice aqd' nqd' cqd'] W fun e w' => e = .returned (.bool t5) ∧ Below W.heap.size W w') := fun W hB => by rw [← h5]; exact equalLock_any _ _ qd qd' W (hqd.below hB) (hqd'.below hB)
  have C6 : Hid (∀ W, Below w.heap.size w W → Calls Try.prog 107 #[.slice aqe nqe cqe, .slice aqe' nqe' cqe'] W fun e w' => e = .returned (.bool t6) ∧ Below W.heap.size W w') := fun W hB => by rw [← h6]; exact equalSema_any _ _ qe qe' W (hqe.below hB) (hqe'.below hB)
  have C7 : Hid (∀ W, Below w.heap.size w W → Calls Try.prog 108 #[.slice aqf nqf cqf, .slice aqf' nqf' cqf'] W fun e w' => e = .returned (.bool t7) ∧ Below W.heap.size W w') := fun W hB => by rw [← h7]; exact equalEvent_any _ _ qf qf' W (hqf.below hB) (hqf'.below hB)
  have C8 : Hid (∀ W, Below w.heap.size w W → Calls Try.prog 109 #[.slice aqg nqg cqg, .slice aqg' nqg' cqg'] W fun e w' => e = .returned (.bool t8) ∧ Below W.heap.size W w') := fun W hB => by rw [← h8]; exact equalBoard_any _ _ qg qg' W (hqg.below hB) (hqg'.below hB)
  have C9 : Hid (∀ W, Below w.heap.size w W → Calls Try.prog 110 #[.slice aqh nqh cqh, .slice aqh' nqh' cqh'] W fun e w' => e = .returned (.bool t9) ∧ Below W.heap.size W w') := fun W hB => by rw [← h9]; exact equalBuffer_any _ _ qh qh' W (hqh.below hB) (hqh'.below hB)
  have C10 : Hid (∀ W, Below w.heap.size w W → Calls Try.prog 111 #[.slice aqi nqi cqi, .slice aqi' nqi' cqi'] W fun e w' => e = .returned (.bool t10) ∧ Below W.heap.size W w') := fun W hB => by rw [← h10]; exact equalPort_any _ _ qi qi' W (hqi.below hB) (hqi'.below hB)
  have C11 : Hid (∀ W, Below w.heap.size w W → Calls Try.prog 52 #[.slice aqj nqj cqj, .slice aqj' nqj' cqj'] W fun e w' => e = .returned (.bool t11) ∧ Below W.heap.size W w') := fun W hB => by rw [← h11]; exact equalRule_any _ _ qj qj' W (hqj.below hB) (hqj'.below hB)
  clear h0 h1 h2 h3 h4 h5 h6 h7 h8 h9 h10 h11 hqb hqb' hqc hqc' hqd hqd' hqe hqe' hqf hqf' hqg hqg' hqh hqh' hqi hqi' hqj hqj'
  cases t0 with
  | false =>
    go_enter Try.func46, Try.ntmps46
    go_wp2_with fail
    go_ret
    exact ⟨by rw [HR.out]; rfl, ((Below.refl _ _).alloc (Nat.le_refl _) _).alloc (by simp) _⟩
  | true =>
    cases t1 with
    | false =>
      go_enter Try.func46, Try.ntmps46
      go_wp2_with fail
      go_ret
      exact ⟨by rw [HR.out]; rfl, ((Below.refl _ _).alloc (Nat.le_refl _) _).alloc (by simp) _⟩
    | true =>
      cases t2 with
      | false =>
        go_enter Try.func46, Try.ntmps46
        go_wp2_with fail
        go_ret
        exact ⟨by rw [HR.out]; rfl, ((Below.refl _ _).alloc (Nat.le_refl _) _).alloc (by simp) _⟩
      | true =>
        cases t3 with
        | false =>
          go_enter Try.func46, Try.ntmps46
          go_wp2_with fail
          obtain ⟨W0, hW0⟩ : ∃ W0, (w.alloc (.cells #[.string qa, .slice aqb nqb cqb, .slice aqc nqc cqc, .slice aqd nqd cqd, .slice aqe nqe cqe, .slice aqf nqf cqf, .slice aqg nqg cqg, .slice aqh nqh cqh, .slice aqi nqi cqi, .slice aqj nqj cqj, .int .i64 qk, .int .i64 ql, .int .i64 qm] 52)).alloc (.cells #[.string qa', .slice aqb' nqb' cqb', .slice aqc' nqc' cqc', .slice aqd' nqd' cqd', .slice aqe' nqe' cqe', .slice aqf' nqf' cqf', .slice aqg' nqg' cqg', .slice aqh' nqh' cqh', .slice aqi' nqi' cqi', .slice aqj' nqj' cqj', .int .i64 qk', .int .i64 ql', .int .i64 qm'] 52) = W0 := ⟨_, rfl⟩
          have HX : Hid (∀ (j : Nat) u, [.string qa, .slice aqb nqb cqb, .slice aqc nqc cqc, .slice aqd nqd cqd, .slice aqe nqe cqe, .slice aqf nqf cqf, .slice aqg nqg cqg, .slice aqh nqh cqh, .slice aqi nqi cqi, .slice aqj nqj cqj, .int .i64 qk, .int .i64 ql, .int .i64 qm][j]? = some u → W0.cell? ⟨w.heap.size, j, none⟩ = some u) := fun j u hu => by rw [← hW0]; exact cell_al _ (by rw [World.cell?_alloc_new]; simpa using hu)
          have HY : Hid (∀ (j : Nat) u, [.string qa', .slice aqb' nqb' cqb', .slice aqc' nqc' cqc', .slice aqd' nqd' cqd', .slice aqe' nqe' cqe', .slice aqf' nqf' cqf', .slice aqg' nqg' cqg', .slice aqh' nqh' cqh', .slice aqi' nqi' cqi', .slice aqj' nqj' cqj', .int .i64 qk', .int .i64 ql', .int .i64 qm'][j]? = some u → W0.cell? ⟨w.heap.size + 1, j, none⟩ = some u) := fun j u hu => by rw [← hW0, show w.heap.size + 1 = (w.alloc (.cells #[.string qa, .slice aqb nqb cqb, .slice aqc nqc cqc, .slice aqd nqd cqd, .slice aqe nqe cqe, .slice aqf nqf cqf, .slice aqg nqg cqg, .slice aqh nqh cqh, .slice aqi nqi cqi, .slice aqj nqj cqj, .int .i64 qk, .int .i64 ql, .int .i64 qm] 52)).heap.size by simp, World.cell?_alloc_new]; simpa using hu
          have BW : Hid (Below w.heap.size w W0) := by rw [← hW0]; exact ((Below.refl _ _).alloc (Nat.le_refl _) _).alloc (by simp) _
          have B0 : Hid (Below W0.heap.size W0 W0) := Below.refl _ _
          rw [hW0]
          clear hW0
          refine (C3.out _ (BW.out.trans (B0.out.mono BW.out.size))).mono ?_
          rintro e W1 ⟨rfl, b⟩
          have B1 : Hid (Below W0.heap.size W0 W1) := B0.out.trans (b.mono B0.out.size)
          clear b
          go_wp2_with fail
          go_ret
          exact ⟨by rw [HR.out]; rfl, BW.out.trans (B1.out.mono BW.out.size)⟩
        | true =>
          cases t4 with
          | false =>
            go_enter Try.func46, Try.ntmps46
            go_wp2_with fail
            obtain ⟨W0, hW0⟩ : ∃ W0, (w.alloc (.cells #[.string qa, .slice aqb nqb cqb, .slice aqc nqc cqc, .slice aqd nqd cqd, .slice aqe nqe cqe, .slice aqf nqf cqf, .slice aqg nqg cqg, .slice aqh nqh cqh, .slice aqi nqi cqi, .slice aqj nqj cqj, .int .i64 qk, .int .i64 ql, .int .i64 qm] 52)).alloc (.cells #[.string qa', .slice aqb' nqb' cqb', .slice aqc' nqc' cqc', .slice aqd' nqd' cqd', .slice aqe' nqe' cqe', .slice aqf' nqf' cqf', .slice aqg' nqg' cqg', .slice aqh' nqh' cqh', .slice aqi' nqi' cqi', .slice aqj' nqj' cqj', .int .i64 qk', .int .i64 ql', .int .i64 qm'] 52) = W0 := ⟨_, rfl⟩
            have HX : Hid (∀ (j : Nat) u, [.string qa, .slice aqb nqb cqb, .slice aqc nqc cqc, .slice aqd nqd cqd, .slice aqe nqe cqe, .slice aqf nqf cqf, .slice aqg nqg cqg, .slice aqh nqh cqh, .slice aqi nqi cqi, .slice aqj nqj cqj, .int .i64 qk, .int .i64 ql, .int .i64 qm][j]? = some u → W0.cell? ⟨w.heap.size, j, none⟩ = some u) := fun j u hu => by rw [← hW0]; exact cell_al _ (by rw [World.cell?_alloc_new]; simpa using hu)
            have HY : Hid (∀ (j : Nat) u, [.string qa', .slice aqb' nqb' cqb', .slice aqc' nqc' cqc', .slice aqd' nqd' cqd', .slice aqe' nqe' cqe', .slice aqf' nqf' cqf', .slice aqg' nqg' cqg', .slice aqh' nqh' cqh', .slice aqi' nqi' cqi', .slice aqj' nqj' cqj', .int .i64 qk', .int .i64 ql', .int .i64 qm'][j]? = some u → W0.cell? ⟨w.heap.size + 1, j, none⟩ = some u) := fun j u hu => by rw [← hW0, show w.heap.size + 1 = (w.alloc (.cells #[.string qa, .slice aqb nqb cqb, .slice aqc nqc cqc, .slice aqd nqd cqd, .slice aqe nqe cqe, .slice aqf nqf cqf, .slice aqg nqg cqg, .slice aqh nqh cqh, .slice aqi nqi cqi, .slice aqj nqj cqj, .int .i64 qk, .int .i64 ql, .int .i64 qm] 52)).heap.size by simp, World.cell?_alloc_new]; simpa using hu
            have BW : Hid (Below w.heap.size w W0) := by rw [← hW0]; exact ((Below.refl _ _).alloc (Nat.le_refl _) _).alloc (by simp) _
            have B0 : Hid (Below W0.heap.size W0 W0) := Below.refl _ _
            rw [hW0]
            clear hW0
            refine (C3.out _ (BW.out.trans (B0.out.mono BW.out.size))).mono ?_
            rintro e W1 ⟨rfl, b⟩
            have B1 : Hid (Below W0.heap.size W0 W1) := B0.out.trans (b.mono B0.out.size)
            clear b
            have dn := cell_later B1.out (HX.out 2 _ rfl)
            have en := cell_later B1.out (HY.out 2 _ rfl)
            go_wp2_with fail
            refine (C4.out _ (BW.out.trans (B1.out.mono BW.out.size))).mono ?_
            rintro e W2 ⟨rfl, b⟩
            have B2 : Hid (Below W0.heap.size W0 W2) := B1.out.trans (b.mono B1.out.size)
            clear b
            go_wp2_with fail
            go_ret
            exact ⟨by rw [HR.out]; rfl, BW.out.trans (B2.out.mono BW.out.size)⟩
          | true =>
            cases t5 with
            | false =>
              go_enter Try.func46, Try.ntmps46
              go_wp2_with fail
              obtain ⟨W0, hW0⟩ : ∃ W0, (w.alloc (.cells #[.string qa, .slice aqb nqb cqb, .slice aqc nqc cqc, .slice aqd nqd cqd, .slice aqe nqe cqe, .slice aqf nqf cqf, .slice aqg nqg cqg, .slice aqh nqh cqh, .slice aqi nqi cqi, .slice aqj nqj cqj, .int .i64 qk, .int .i64 ql, .int .i64 qm] 52)).alloc (.cells #[.string qa', .slice aqb' nqb' cqb', .slice aqc' nqc' cqc', .slice aqd' nqd' cqd', .slice aqe' nqe' cqe', .slice aqf' nqf' cqf', .slice aqg' nqg' cqg', .slice aqh' nqh' cqh', .slice aqi' nqi' cqi', .slice aqj' nqj' cqj', .int .i64 qk', .int .i64 ql', .int .i64 qm'] 52) = W0 := ⟨_, rfl⟩
              have HX : Hid (∀ (j : Nat) u, [.string qa, .slice aqb nqb cqb, .slice aqc nqc cqc, .slice aqd nqd cqd, .slice aqe nqe cqe, .slice aqf nqf cqf, .slice aqg nqg cqg, .slice aqh nqh cqh, .slice aqi nqi cqi, .slice aqj nqj cqj, .int .i64 qk, .int .i64 ql, .int .i64 qm][j]? = some u → W0.cell? ⟨w.heap.size, j, none⟩ = some u) := fun j u hu => by rw [← hW0]; exact cell_al _ (by rw [World.cell?_alloc_new]; simpa using hu)
              have HY : Hid (∀ (j : Nat) u, [.string qa', .slice aqb' nqb' cqb', .slice aqc' nqc' cqc', .slice aqd' nqd' cqd', .slice aqe' nqe' cqe', .slice aqf' nqf' cqf', .slice aqg' nqg' cqg', .slice aqh' nqh' cqh', .slice aqi' nqi' cqi', .slice aqj' nqj' cqj', .int .i64 qk', .int .i64 ql', .int .i64 qm'][j]? = some u → W0.cell? ⟨w.heap.size + 1, j, none⟩ = some u) := fun j u hu => by rw [← hW0, show w.heap.size + 1 = (w.alloc (.cells #[.string qa, .slice aqb nqb cqb, .slice aqc nqc cqc, .slice aqd nqd cqd, .slice aqe nqe cqe, .slice aqf nqf cqf, .slice aqg nqg cqg, .slice aqh nqh cqh, .slice aqi nqi cqi, .slice aqj nqj cqj, .int .i64 qk, .int .i64 ql, .int .i64 qm] 52)).heap.size by simp, World.cell?_alloc_new]; simpa using hu
              have BW : Hid (Below w.heap.size w W0) := by rw [← hW0]; exact ((Below.refl _ _).alloc (Nat.le_refl _) _).alloc (by simp) _
              have B0 : Hid (Below W0.heap.size W0 W0) := Below.refl _ _
              rw [hW0]
              clear hW0
              refine (C3.out _ (BW.out.trans (B0.out.mono BW.out.size))).mono ?_
              rintro e W1 ⟨rfl, b⟩
              have B1 : Hid (Below W0.heap.size W0 W1) := B0.out.trans (b.mono B0.out.size)
              clear b
              have dn := cell_later B1.out (HX.out 2 _ rfl)
              have en := cell_later B1.out (HY.out 2 _ rfl)
              go_wp2_with fail
              refine (C4.out _ (BW.out.trans (B1.out.mono BW.out.size))).mono ?_
              rintro e W2 ⟨rfl, b⟩
              have B2 : Hid (Below W0.heap.size W0 W2) := B1.out.trans (b.mono B1.out.size)
              clear b
              clear dn en
              have dn := cell_later B2.out (HX.out 3 _ rfl)
              have en := cell_later B2.out (HY.out 3 _ rfl)
              go_wp2_with fail
              refine (C5.out _ (BW.out.trans (B2.out.mono BW.out.size))).mono ?_
              rintro e W3 ⟨rfl, b⟩
              have B3 : Hid (Below W0.heap.size W0 W3) := B2.out.trans (b.mono B2.out.size)
              clear b
              go_wp2_with fail
              go_ret
              exact ⟨by rw [HR.out]; rfl, BW.out.trans (B3.out.mono BW.out.size)⟩
            | true =>
              cases t6 with
              | false =>
                go_enter Try.func46, Try.ntmps46
                go_wp2_with fail
                obtain ⟨W0, hW0⟩ : ∃ W0, (w.alloc (.cells #[.string qa, .slice aqb nqb cqb, .slice aqc nqc cqc, .slice aqd nqd cqd, .slice aqe nqe cqe, .slice aqf nqf cqf, .slice aqg nqg cqg, .slice aqh nqh cqh, .slice aqi nqi cqi, .slice aqj nqj cqj, .int .i64 qk, .int .i64 ql, .int .i64 qm] 52)).alloc (.cells #[.string qa', .slice aqb' nqb' cqb', .slice aqc' nqc' cqc', .slice aqd' nqd' cqd', .slice aqe' nqe' cqe', .slice aqf' nqf' cqf', .slice aqg' nqg' cqg', .slice aqh' nqh' cqh', .slice aqi' nqi' cqi', .slice aqj' nqj' cqj', .int .i64 qk', .int .i64 ql', .int .i64 qm'] 52) = W0 := ⟨_, rfl⟩
                have HX : Hid (∀ (j : Nat) u, [.string qa, .slice aqb nqb cqb, .slice aqc nqc cqc, .slice aqd nqd cqd, .slice aqe nqe cqe, .slice aqf nqf cqf, .slice aqg nqg cqg, .slice aqh nqh cqh, .slice aqi nqi cqi, .slice aqj nqj cqj, .int .i64 qk, .int .i64 ql, .int .i64 qm][j]? = some u → W0.cell? ⟨w.heap.size, j, none⟩ = some u) := fun j u hu => by rw [← hW0]; exact cell_al _ (by rw [World.cell?_alloc_new]; simpa using hu)
                have HY : Hid (∀ (j : Nat) u, [.string qa', .slice aqb' nqb' cqb', .slice aqc' nqc' cqc', .slice aqd' nqd' cqd', .slice aqe' nqe' cqe', .slice aqf' nqf' cqf', .slice aqg' nqg' cqg', .slice aqh' nqh' cqh', .slice aqi' nqi' cqi', .slice aqj' nqj' cqj', .int .i64 qk', .int .i64 ql', .int .i64 qm'][j]? = some u → W0.cell? ⟨w.heap.size + 1, j, none⟩ = some u) := fun j u hu => by rw [← hW0, show w.heap.size + 1 = (w.alloc (.cells #[.string qa, .slice aqb nqb cqb, .slice aqc nqc cqc, .slice aqd nqd cqd, .slice aqe nqe cqe, .slice aqf nqf cqf, .slice aqg nqg cqg, .slice aqh nqh cqh, .slice aqi nqi cqi, .slice aqj nqj cqj, .int .i64 qk, .int .i64 ql, .int .i64 qm] 52)).heap.size by simp, World.cell?_alloc_new]; simpa using hu
                have BW : Hid (Below w.heap.size w W0) := by rw [← hW0]; exact ((Below.refl _ _).alloc (Nat.le_refl _) _).alloc (by simp) _
                have B0 : Hid (Below W0.heap.size W0 W0) := Below.refl _ _
                rw [hW0]
                clear hW0
                refine (C3.out _ (BW.out.trans (B0.out.mono BW.out.size))).mono ?_
                rintro e W1 ⟨rfl, b⟩
                have B1 : Hid (Below W0.heap.size W0 W1) := B0.out.trans (b.mono B0.out.size)
                clear b
                have dn := cell_later B1.out (HX.out 2 _ rfl)
                have en := cell_later B1.out (HY.out 2 _ rfl)
                go_wp2_with fail
                refine (C4.out _ (BW.out.trans (B1.out.mono BW.out.size))).mono ?_
                rintro e W2 ⟨rfl, b⟩
                have B2 : Hid (Below W0.heap.size W0 W2) := B1.out.trans (b.mono B1.out.size)
                clear b
                clear dn en
                have dn := cell_later B2.out (HX.out 3 _ rfl)
                have en := cell_later B2.out (HY.out 3 _ rfl)
                go_wp2_with fail
                refine (C5.out _ (BW.out.trans (B2.out.mono BW.out.size))).mono ?_
                rintro e W3 ⟨rfl, b⟩
                have B3 : Hid (Below W0.heap.size W0 W3) := B2.out.trans (b.mono B2.out.size)
                clear b
                clear dn en
                have dn := cell_later B3.out (HX.out 4 _ rfl)
                have en := cell_later B3.out (HY.out 4 _ rfl)
                go_wp2_with fail
                refine (C6.out _ (BW.out.trans (B3.out.mono BW.out.size))).mono ?_
                rintro e W4 ⟨rfl, b⟩
                have B4 : Hid (Below W0.heap.size W0 W4) := B3.out.trans (b.mono B3.out.size)
                clear b
                go_wp2_with fail
                go_ret
                exact ⟨by rw [HR.out]; rfl, BW.out.trans (B4.out.mono BW.out.size)⟩
              | true =>
                cases t7 with
                | false =>
                  go_enter Try.func46, Try.ntmps46
                  go_wp2_with fail
                  obtain ⟨W0, hW0⟩ : ∃ W0, (w.alloc (.cells #[.string qa, .slice aqb nqb cqb, .slice aqc nqc cqc, .slice aqd nqd cqd, .slice aqe nqe cqe, .slice aqf nqf cqf, .slice aqg nqg cqg, .slice aqh nqh cqh, .slice aqi nqi cqi, .slice aqj nqj cqj, .int .i64 qk, .int .i64 ql, .int .i64 qm] 52)).alloc (.cells #[.string qa', .slice aqb' nqb' cqb', .slice aqc' nqc' cqc', .slice aqd' nqd' cqd', .slice aqe' nqe' cqe', .slice aqf' nqf' cqf', .slice aqg' nqg' cqg', .slice aqh' nqh' cqh', .slice aqi' nqi' cqi', .slice aqj' nqj' cqj', .int .i64 qk', .int .i64 ql', .int .i64 qm'] 52) = W0 := ⟨_, rfl⟩
                  have HX : Hid (∀ (j : Nat) u, [.string qa, .slice aqb nqb cqb, .slice aqc nqc cqc, .slice aqd nqd cqd, .slice aqe nqe cqe, .slice aqf nqf cqf, .slice aqg nqg cqg, .slice aqh nqh cqh, .slice aqi nqi cqi, .slice aqj nqj cqj, .int .i64 qk, .int .i64 ql, .int .i64 qm][j]? = some u → W0.cell? ⟨w.heap.size, j, none⟩ = some u) := fun j u hu => by rw [← hW0]; exact cell_al _ (by rw [World.cell?_alloc_new]; simpa using hu)
                  have HY : Hid (∀ (j : Nat) u, [.string qa', .slice aqb' nqb' cqb', .slice aqc' nqc' cqc', .slice aqd' nqd' cqd', .slice aqe' nqe' cqe', .slice aqf' nqf' cqf', .slice aqg' nqg' cqg', .slice aqh' nqh' cqh', .slice aqi' nqi' cqi', .slice aqj' nqj' cqj', .int .i64 qk', .int .i64 ql', .int .i64 qm'][j]? = some u → W0.cell? ⟨w.heap.size + 1, j, none⟩ = some u) := fun j u hu => by rw [← hW0, show w.heap.size + 1 = (w.alloc (.cells #[.string qa, .slice aqb nqb cqb, .slice aqc nqc cqc, .slice aqd nqd cqd, .slice aqe nqe cqe, .slice aqf nqf cqf, .slice aqg nqg cqg, .slice aqh nqh cqh, .slice aqi nqi cqi, .slice aqj nqj cqj, .int .i64 qk, .int .i64 ql, .int .i64 qm] 52)).heap.size by simp, World.cell?_alloc_new]; simpa using hu
                  have BW : Hid (Below w.heap.size w W0) := by rw [← hW0]; exact ((Below.refl _ _).alloc (Nat.le_refl _) _).alloc (by simp) _
                  have B0 : Hid (Below W0.heap.size W0 W0) := Below.refl _ _
                  rw [hW0]
                  clear hW0
                  refine (C3.out _ (BW.out.trans (B0.out.mono BW.out.size))).mono ?_
                  rintro e W1 ⟨rfl, b⟩
                  have B1 : Hid (Below W0.heap.size W0 W1) := B0.out.trans (b.mono B0.out.size)
                  clear b
                  have dn := cell_later B1.out (HX.out 2 _ rfl)
                  have en := cell_later B1.out (HY.out 2 _ rfl)
                  go_wp2_with fail
                  refine (C4.out _ (BW.out.trans (B1.out.mono BW.out.size))).mono ?_
                  rintro e W2 ⟨rfl, b⟩
                  have B2 : Hid (Below W0.heap.size W0 W2) := B1.out.trans (b.mono B1.out.size)
                  clear b
                  clear dn en
                  have dn := cell_later B2.out (HX.out 3 _ rfl)
                  have en := cell_later B2.out (HY.out 3 _ rfl)
                  go_wp2_with fail
                  refine (C5.out _ (BW.out.trans (B2.out.mono BW.out.size))).mono ?_
                  rintro e W3 ⟨rfl, b⟩
                  have B3 : Hid (Below W0.heap.size W0 W3) := B2.out.trans (b.mono B2.out.size)
                  clear b
                  clear dn en
                  have dn := cell_later B3.out (HX.out 4 _ rfl)
                  have en := cell_later B3.out (HY.out 4 _ rfl)
                  go_wp2_with fail
                  refine (C6.out _ (BW.out.trans (B3.out.mono BW.out.size))).mono ?_
                  rintro e W4 ⟨rfl, b⟩
                  have B4 : Hid (Below W0.heap.size W0 W4) := B3.out.trans (b.mono B3.out.size)
                  clear b
                  clear dn en
                  have dn := cell_later B4.out (HX.out 5 _ rfl)
                  have en := cell_later B4.out (HY.out 5 _ rfl)
                  go_wp2_with fail
                  refine (C7.out _ (BW.out.trans (B4.out.mono BW.out.size))).mono ?_
                  rintro e W5 ⟨rfl, b⟩
                  have B5 : Hid (Below W0.heap.size W0 W5) := B4.out.trans (b.mono B4.out.size)
                  clear b
                  go_wp2_with fail
                  go_ret
                  exact ⟨by rw [HR.out]; rfl, BW.out.trans (B5.out.mono BW.out.size)⟩
                | true =>
                  cases t8 with
                  | false =>
                    go_enter Try.func46, Try.ntmps46
                    go_wp2_with fail
                    obtain ⟨W0, hW0⟩ : ∃ W0, (w.alloc (.cells #[.string qa, .slice aqb nqb cqb, .slice aqc nqc cqc, .slice aqd nqd cqd, .slice aqe nqe cqe, .slice aqf nqf cqf, .slice aqg nqg cqg, .slice aqh nqh cqh, .slice aqi nqi cqi, .slice aqj nqj cqj, .int .i64 qk, .int .i64 ql, .int .i64 qm] 52)).alloc (.cells #[.string qa', .slice aqb' nqb' cqb', .slice aqc' nqc' cqc', .slice aqd' nqd' cqd', .slice aqe' nqe' cqe', .slice aqf' nqf' cqf', .slice aqg' nqg' cqg', .slice aqh' nqh' cqh', .slice aqi' nqi' cqi', .slice aqj' nqj' cqj', .int .i64 qk', .int .i64 ql', .int .i64 qm'] 52) = W0 := ⟨_, rfl⟩
                    have HX : Hid (∀ (j : Nat) u, [.string qa, .slice aqb nqb cqb, .slice aqc nqc cqc, .slice aqd nqd cqd, .slice aqe nqe cqe, .slice aqf nqf cqf, .slice aqg nqg cqg, .slice aqh nqh cqh, .slice aqi nqi cqi, .slice aqj nqj cqj, .int .i64 qk, .int .i64 ql, .int .i64 qm][j]? = some u → W0.cell? ⟨w.heap.size, j, none⟩ = some u) := fun j u hu => by rw [← hW0]; exact cell_al _ (by rw [World.cell?_alloc_new]; simpa using hu)
                    have HY : Hid (∀ (j : Nat) u, [.string qa', .slice aqb' nqb' cqb', .slice aqc' nqc' cqc', .slice aqd' nqd' cqd', .slice aqe' nqe' cqe', .slice aqf' nqf' cqf', .slice aqg' nqg' cqg', .slice aqh' nqh' cqh', .slice aqi' nqi' cqi', .slice aqj' nqj' cqj', .int .i64 qk', .int .i64 ql', .int .i64 qm'][j]? = some u → W0.cell? ⟨w.heap.size + 1, j, none⟩ = some u) := fun j u hu => by rw [← hW0, show w.heap.size + 1 = (w.alloc (.cells #[.string qa, .slice aqb nqb cqb, .slice aqc nqc cqc, .slice aqd nqd cqd, .slice aqe nqe cqe, .slice aqf nqf cqf, .slice aqg nqg cqg, .slice aqh nqh cqh, .slice aqi nqi cqi, .slice aqj nqj cqj, .int .i64 qk, .int .i64 ql, .int .i64 qm] 52)).heap.size by simp, World.cell?_alloc_new]; simpa using hu
                    have BW : Hid (Below w.heap.size w W0) := by rw [← hW0]; exact ((Below.refl _ _).alloc (Nat.le_refl _) _).alloc (by simp) _
                    have B0 : Hid (Below W0.heap.size W0 W0) := Below.refl _ _
                    rw [hW0]
                    clear hW0
                    refine (C3.out _ (BW.out.trans (B0.out.mono BW.out.size))).mono ?_
                    rintro e W1 ⟨rfl, b⟩
                    have B1 : Hid (Below W0.heap.size W0 W1) := B0.out.trans (b.mono B0.out.size)
                    clear b
                    have dn := cell_later B1.out (HX.out 2 _ rfl)
                    have en := cell_later B1.out (HY.out 2 _ rfl)
                    go_wp2_with fail
                    refine (C4.out _ (BW.out.trans (B1.out.mono BW.out.size))).mono ?_
                    rintro e W2 ⟨rfl, b⟩
                    have B2 : Hid (Below W0.heap.size W0 W2) := B1.out.trans (b.mono B1.out.size)
                    clear b
                    clear dn en
                    have dn := cell_later B2.out (HX.out 3 _ rfl)
                    have en := cell_later B2.out (HY.out 3 _ rfl)
                    go_wp2_with fail
                    refine (C5.out _ (BW.out.trans (B2.out.mono BW.out.size))).mono ?_
                    rintro e W3 ⟨rfl, b⟩
                    have B3 : Hid (Below W0.heap.size W0 W3) := B2.out.trans (b.mono B2.out.size)
                    clear b
                    clear dn en
                    have dn := cell_later B3.out (HX.out 4 _ rfl)
                    have en := cell_later B3.out (HY.out 4 _ rfl)
                    go_wp2_with fail
                    refine (C6.out _ (BW.out.trans (B3.out.mono BW.out.size))).mono ?_
                    rintro e W4 ⟨rfl, b⟩
                    have B4 : Hid (Below W0.heap.size W0 W4) := B3.out.trans (b.mono B3.out.size)
                    clear b
                    clear dn en
                    have dn := cell_later B4.out (HX.out 5 _ rfl)
                    have en := cell_later B4.out (HY.out 5 _ rfl)
                    go_wp2_with fail
                    refine (C7.out _ (BW.out.trans (B4.out.mono BW.out.size))).mono ?_
                    rintro e W5 ⟨rfl, b⟩
                    have B5 : Hid (Below W0.heap.size W0 W5) := B4.out.trans (b.mono B4.out.size)
                    clear b
                    clear dn en
                    have dn := cell_later B5.out (HX.out 6 _ rfl)
                    have en := cell_later B5.out (HY.out 6 _ rfl)
                    go_wp2_with fail
                    refine (C8.out _ (BW.out.trans (B5.out.mono BW.out.size))).mono ?_
                    rintro e W6 ⟨rfl, b⟩
                    have B6 : Hid (Below W0.heap.size W0 W6) := B5.out.trans (b.mono B5.out.size)
                    clear b
                    go_wp2_with fail
                    go_ret
                    exact ⟨by rw [HR.out]; rfl, BW.out.trans (B6.out.mono BW.out.size)⟩
                  | true =>
                    cases t9 with
                    | false =>
                      go_enter Try.func46, Try.ntmps46
                      go_wp2_with fail
                      obtain ⟨W0, hW0⟩ : ∃ W0, (w.alloc (.cells #[.string qa, .slice aqb nqb cqb, .slice aqc nqc cqc, .slice aqd nqd cqd, .slice aqe nqe cqe, .slice aqf nqf cqf, .slice aqg nqg cqg, .slice aqh nqh cqh, .slice aqi nqi cqi, .slice aqj nqj cqj, .int .i64 qk, .int .i64 ql, .int .i64 qm] 52)).alloc (.cells #[.string qa', .slice aqb' nqb' cqb', .slice aqc' nqc' cqc', .slice aqd' nqd' cqd', .slice aqe' nqe' cqe', .slice aqf' nqf' cqf', .slice aqg' nqg' cqg', .slice aqh' nqh' cqh', .slice aqi' nqi' cqi', .slice aqj' nqj' cqj', .int .i64 qk', .int .i64 ql', .int .i64 qm'] 52) = W0 := ⟨_, rfl⟩
                      have HX : Hid (∀ (j : Nat) u, [.string qa, .slice aqb nqb cqb, .slice aqc nqc cqc, .slice aqd nqd cqd, .slice aqe nqe cqe, .slice aqf nqf cqf, .slice aqg nqg cqg, .slice aqh nqh cqh, .slice aqi nqi cqi, .slice aqj nqj cqj, .int .i64 qk, .int .i64 ql, .int .i64 qm][j]? = some u → W0.cell? ⟨w.heap.size, j, none⟩ = some u) := fun j u hu => by rw [← hW0]; exact cell_al _ (by rw [World.cell?_alloc_new]; simpa using hu)
                      have HY : Hid (∀ (j : Nat) u, [.string qa', .slice aqb' nqb' cqb', .slice aqc' nqc' cqc', .slice aqd' nqd' cqd', .slice aqe' nqe' cqe', .slice aqf' nqf' cqf', .slice aqg' nqg' cqg', .slice aqh' nqh' cqh', .slice aqi' nqi' cqi', .slice aqj' nqj' cqj', .int .i64 qk', .int .i64 ql', .int .i64 qm'][j]? = some u → W0.cell? ⟨w.heap.size + 1, j, none⟩ = some u) := fun j u hu => by rw [← hW0, show w.heap.size + 1 = (w.alloc (.cells #[.string qa, .slice aqb nqb cqb, .slice aqc nqc cqc, .slice aqd nqd cqd, .slice aqe nqe cqe, .slice aqf nqf cqf, .slice aqg nqg cqg, .slice aqh nqh cqh, .slice aqi nqi cqi, .slice aqj nqj cqj, .int .i64 qk, .int .i64 ql, .int .i64 qm] 52)).heap.size by simp, World.cell?_alloc_new]; simpa using hu
                      have BW : Hid (Below w.heap.size w W0) := by rw [← hW0]; exact ((Below.refl _ _).alloc (Nat.le_refl _) _).alloc (by simp) _
                      have B0 : Hid (Below W0.heap.size W0 W0) := Below.refl _ _
                      rw [hW0]
                      clear hW0
                      refine (C3.out _ (BW.out.trans (B0.out.mono BW.out.size))).mono ?_
                      rintro e W1 ⟨rfl, b⟩
                      have B1 : Hid (Below W0.heap.size W0 W1) := B0.out.trans (b.mono B0.out.size)
                      clear b
                      have dn := cell_later B1.out (HX.out 2 _ rfl)
                      have en := cell_later B1.out (HY.out 2 _ rfl)
                      go_wp2_with fail
                      refine (C4.out _ (BW.out.trans (B1.out.mono BW.out.size))).mono ?_
                      rintro e W2 ⟨rfl, b⟩
                      have B2 : Hid (Below W0.heap.size W0 W2) := B1.out.trans (b.mono B1.out.size)
                      clear b
                      clear dn en
                      have dn := cell_later B2.out (HX.out 3 _ rfl)
                      have en := cell_later B2.out (HY.out 3 _ rfl)
                      go_wp2_with fail
                      refine (C5.out _ (BW.out.trans (B2.out.mono BW.out.size))).mono ?_
                      rintro e W3 ⟨rfl, b⟩
                      have B3 : Hid (Below W0.heap.size W0 W3) := B2.out.trans (b.mono B2.out.size)
                      clear b
                      clear dn en
                      have dn := cell_later B3.out (HX.out 4 _ rfl)
                      have en := cell_later B3.out (HY.out 4 _ rfl)
                      go_wp2_with fail
                      refine (C6.out _ (BW.out.trans (B3.out.mono BW.out.size))).mono ?_
                      rintro e W4 ⟨rfl, b⟩
                      have B4 : Hid (Below W0.heap.size W0 W4) := B3.out.trans (b.mono B3.out.size)
                      clear b
                      clear dn en
                      have dn := cell_later B4.out (HX.out 5 _ rfl)
                      have en := cell_later B4.out (HY.out 5 _ rfl)
                      go_wp2_with fail
                      refine (C7.out _ (BW.out.trans (B4.out.mono BW.out.size))).mono ?_
                      rintro e W5 ⟨rfl, b⟩
                      have B5 : Hid (Below W0.heap.size W0 W5) := B4.out.trans (b.mono B4.out.size)
                      clear b
                      clear dn en
                      have dn := cell_later B5.out (HX.out 6 _ rfl)
                      have en := cell_later B5.out (HY.out 6 _ rfl)
                      go_wp2_with fail
                      refine (C8.out _ (BW.out.trans (B5.out.mono BW.out.size))).mono ?_
                      rintro e W6 ⟨rfl, b⟩
                      have B6 : Hid (Below W0.heap.size W0 W6) := B5.out.trans (b.mono B5.out.size)
                      clear b
                      clear dn en
                      have dn := cell_later B6.out (HX.out 7 _ rfl)
                      have en := cell_later B6.out (HY.out 7 _ rfl)
                      go_wp2_with fail
                      refine (C9.out _ (BW.out.trans (B6.out.mono BW.out.size))).mono ?_
                      rintro e W7 ⟨rfl, b⟩
                      have B7 : Hid (Below W0.heap.size W0 W7) := B6.out.trans (b.mono B6.out.size)
                      clear b
                      go_wp2_with fail
                      go_ret
                      exact ⟨by rw [HR.out]; rfl, BW.out.trans (B7.out.mono BW.out.size)⟩
                    | true =>
                      cases t10 with
                      | false =>
                        go_enter Try.func46, Try.ntmps46
                        go_wp2_with fail
                        obtain ⟨W0, hW0⟩ : ∃ W0, (w.alloc (.cells #[.string qa, .slice aqb nqb cqb, .slice aqc nqc cqc, .slice aqd nqd cqd, .slice aqe nqe cqe, .slice aqf nqf cqf, .slice aqg nqg cqg, .slice aqh nqh cqh, .slice aqi nqi cqi, .slice aqj nqj cqj, .int .i64 qk, .int .i64 ql, .int .i64 qm] 52)).alloc (.cells #[.string qa', .slice aqb' nqb' cqb', .slice aqc' nqc' cqc', .slice aqd' nqd' cqd', .slice aqe' nqe' cqe', .slice aqf' nqf' cqf', .slice aqg' nqg' cqg', .slice aqh' nqh' cqh', .slice aqi' nqi' cqi', .slice aqj' nqj' cqj', .int .i64 qk', .int .i64 ql', .int .i64 qm'] 52) = W0 := ⟨_, rfl⟩
                        have HX : Hid (∀ (j : Nat) u, [.string qa, .slice aqb nqb cqb, .slice aqc nqc cqc, .slice aqd nqd cqd, .slice aqe nqe cqe, .slice aqf nqf cqf, .slice aqg nqg cqg, .slice aqh nqh cqh, .slice aqi nqi cqi, .slice aqj nqj cqj, .int .i64 qk, .int .i64 ql, .int .i64 qm][j]? = some u → W0.cell? ⟨w.heap.size, j, none⟩ = some u) := fun j u hu => by rw [← hW0]; exact cell_al _ (by rw [World.cell?_alloc_new]; simpa using hu)
                        have HY : Hid (∀ (j : Nat) u, [.string qa', .slice aqb' nqb' cqb', .slice aqc' nqc' cqc', .slice aqd' nqd' cqd', .slice aqe' nqe' cqe', .slice aqf' nqf' cqf', .slice aqg' nqg' cqg', .slice aqh' nqh' cqh', .slice aqi' nqi' cqi', .slice aqj' nqj' cqj', .int .i64 qk', .int .i64 ql', .int .i64 qm'][j]? = some u → W0.cell? ⟨w.heap.size + 1, j, none⟩ = some u) := fun j u hu => by rw [← hW0, show w.heap.size + 1 = (w.alloc (.cells #[.string qa, .slice aqb nqb cqb, .slice aqc nqc cqc, .slice aqd nqd cqd, .slice aqe nqe cqe, .slice aqf nqf cqf, .slice aqg nqg cqg, .slice aqh nqh cqh, .slice aqi nqi cqi, .slice aqj nqj cqj, .int .i64 qk, .int .i64 ql, .int .i64 qm] 52)).heap.size by simp, World.cell?_alloc_new]; simpa using hu
                        have BW : Hid (Below w.heap.size w W0) := by rw [← hW0]; exact ((Below.refl _ _).alloc (Nat.le_refl _) _).alloc (by simp) _
                        have B0 : Hid (Below W0.heap.size W0 W0) := Below.refl _ _
                        rw [hW0]
                        clear hW0
                        refine (C3.out _ (BW.out.trans (B0.out.mono BW.out.size))).mono ?_
                        rintro e W1 ⟨rfl, b⟩
                        have B1 : Hid (Below W0.heap.size W0 W1) := B0.out.trans (b.mono B0.out.size)
                        clear b
                        have dn := cell_later B1.out (HX.out 2 _ rfl)
                        have en := cell_later B1.out (HY.out 2 _ rfl)
                        go_wp2_with fail
                        refine (C4.out _ (BW.out.trans (B1.out.mono BW.out.size))).mono ?_
                        rintro e W2 ⟨rfl, b⟩
                        have B2 : Hid (Below W0.heap.size W0 W2) := B1.out.trans (b.mono B1.out.size)
                        clear b
                        clear dn en
                        have dn := cell_later B2.out (HX.out 3 _ rfl)
                        have en := cell_later B2.out (HY.out 3 _ rfl)
                        go_wp2_with fail
                        refine (C5.out _ (BW.out.trans (B2.out.mono BW.out.size))).mono ?_
                        rintro e W3 ⟨rfl, b⟩
                        have B3 : Hid (Below W0.heap.size W0 W3) := B2.out.trans (b.mono B2.out.size)
                        clear b
                        clear dn en
                        have dn := cell_later B3.out (HX.out 4 _ rfl)
                        have en := cell_later B3.out (HY.out 4 _ rfl)
                        go_wp2_with fail
                        refine (C6.out _ (BW.out.trans (B3.out.mono BW.out.size))).mono ?_
                        rintro e W4 ⟨rfl, b⟩
                        have B4 : Hid (Below W0.heap.size W0 W4) := B3.out.trans (b.mono B3.out.size)
                        clear b
                        clear dn en
                        have dn := cell_later B4.out (HX.out 5 _ rfl)
                        have en := cell_later B4.out (HY.out 5 _ rfl)
                        go_wp2_with fail
                        refine (C7.out _ (BW.out.trans (B4.out.mono BW.out.size))).mono ?_
                        rintro e W5 ⟨rfl, b⟩
                        have B5 : Hid (Below W0.heap.size W0 W5) := B4.out.trans (b.mono B4.out.size)
                        clear b
                        clear dn en
                        have dn := cell_later B5.out (HX.out 6 _ rfl)
                        have en := cell_later B5.out (HY.out 6 _ rfl)
                        go_wp2_with fail
                        refine (C8.out _ (BW.out.trans (B5.out.mono BW.out.size))).mono ?_
                        rintro e W6 ⟨rfl, b⟩
                        have B6 : Hid (Below W0.heap.size W0 W6) := B5.out.trans (b.mono B5.out.size)
                        clear b
                        clear dn en
                        have dn := cell_later B6.out (HX.out 7 _ rfl)
                        have en := cell_later B6.out (HY.out 7 _ rfl)
                        go_wp2_with fail
                        refine (C9.out _ (BW.out.trans (B6.out.mono BW.out.size))).mono ?_
                        rintro e W7 ⟨rfl, b⟩
                        have B7 : Hid (Below W0.heap.size W0 W7) := B6.out.trans (b.mono B6.out.size)
                        clear b
                        clear dn en
                        have dn := cell_later B7.out (HX.out 8 _ rfl)
                        have en := cell_later B7.out (HY.out 8 _ rfl)
                        go_wp2_with fail
                        refine (C10.out _ (BW.out.trans (B7.out.mono BW.out.size))).mono ?_
                        rintro e W8 ⟨rfl, b⟩
                        have B8 : Hid (Below W0.heap.size W0 W8) := B7.out.trans (b.mono B7.out.size)
                        clear b
                        go_wp2_with fail
                        go_ret
                        exact ⟨by rw [HR.out]; rfl, BW.out.trans (B8.out.mono BW.out.size)⟩
                      | true =>
                        cases t11 with
                        | false =>
                          go_enter Try.func46, Try.ntmps46
                          go_wp2_with fail
                          obtain ⟨W0, hW0⟩ : ∃ W0, (w.alloc (.cells #[.string qa, .slice aqb nqb cqb, .slice aqc nqc cqc, .slice aqd nqd cqd, .slice aqe nqe cqe, .slice aqf nqf cqf, .slice aqg nqg cqg, .slice aqh nqh cqh, .slice aqi nqi cqi, .slice aqj nqj cqj, .int .i64 qk, .int .i64 ql, .int .i64 qm] 52)).alloc (.cells #[.string qa', .slice aqb' nqb' cqb', .slice aqc' nqc' cqc', .slice aqd' nqd' cqd', .slice aqe' nqe' cqe', .slice aqf' nqf' cqf', .slice aqg' nqg' cqg', .slice aqh' nqh' cqh', .slice aqi' nqi' cqi', .slice aqj' nqj' cqj', .int .i64 qk', .int .i64 ql', .int .i64 qm'] 52) = W0 := ⟨_, rfl⟩
                          have HX : Hid (∀ (j : Nat) u, [.string qa, .slice aqb nqb cqb, .slice aqc nqc cqc, .slice aqd nqd cqd, .slice aqe nqe cqe, .slice aqf nqf cqf, .slice aqg nqg cqg, .slice aqh nqh cqh, .slice aqi nqi cqi, .slice aqj nqj cqj, .int .i64 qk, .int .i64 ql, .int .i64 qm][j]? = some u → W0.cell? ⟨w.heap.size, j, none⟩ = some u) := fun j u hu => by rw [← hW0]; exact cell_al _ (by rw [World.cell?_alloc_new]; simpa using hu)
                          have HY : Hid (∀ (j : Nat) u, [.string qa', .slice aqb' nqb' cqb', .slice aqc' nqc' cqc', .slice aqd' nqd' cqd', .slice aqe' nqe' cqe', .slice aqf' nqf' cqf', .slice aqg' nqg' cqg', .slice aqh' nqh' cqh', .slice aqi' nqi' cqi', .slice aqj' nqj' cqj', .int .i64 qk', .int .i64 ql', .int .i64 qm'][j]? = some u → W0.cell? ⟨w.heap.size + 1, j, none⟩ = some u) := fun j u hu => by rw [← hW0, show w.heap.size + 1 = (w.alloc (.cells #[.string qa, .slice aqb nqb cqb, .slice aqc nqc cqc, .slice aqd nqd cqd, .slice aqe nqe cqe, .slice aqf nqf cqf, .slice aqg nqg cqg, .slice aqh nqh cqh, .slice aqi nqi cqi, .slice aqj nqj cqj, .int .i64 qk, .int .i64 ql, .int .i64 qm] 52)).heap.size by simp, World.cell?_alloc_new]; simpa using hu
                          have BW : Hid (Below w.heap.size w W0) := by rw [← hW0]; exact ((Below.refl _ _).alloc (Nat.le_refl _) _).alloc (by simp) _
                          have B0 : Hid (Below W0.heap.size W0 W0) := Below.refl _ _
                          rw [hW0]
                          clear hW0
                          refine (C3.out _ (BW.out.trans (B0.out.mono BW.out.size))).mono ?_
                          rintro e W1 ⟨rfl, b⟩
                          have B1 : Hid (Below W0.heap.size W0 W1) := B0.out.trans (b.mono B0.out.size)
                          clear b
                          have dn := cell_later B1.out (HX.out 2 _ rfl)
                          have en := cell_later B1.out (HY.out 2 _ rfl)
                          go_wp2_with fail
                          refine (C4.out _ (BW.out.trans (B1.out.mono BW.out.size))).mono ?_
                          rintro e W2 ⟨rfl, b⟩
                          have B2 : Hid (Below W0.heap.size W0 W2) := B1.out.trans (b.mono B1.out.size)
                          clear b
                          clear dn en
                          have dn := cell_later B2.out (HX.out 3 _ rfl)
                          have en := cell_later B2.out (HY.out 3 _ rfl)
                          go_wp2_with fail
                          refine (C5.out _ (BW.out.trans (B2.out.mono BW.out.size))).mono ?_
                          rintro e W3 ⟨rfl, b⟩
                          have B3 : Hid (Below W0.heap.size W0 W3) := B2.out.trans (b.mono B2.out.size)
                          clear b
                          clear dn en
                          have dn := cell_later B3.out (HX.out 4 _ rfl)
                          have en := cell_later B3.out (HY.out 4 _ rfl)
                          go_wp2_with fail
                          refine (C6.out _ (BW.out.trans (B3.out.mono BW.out.size))).mono ?_
                          rintro e W4 ⟨rfl, b⟩
                          have B4 : Hid (Below W0.heap.size W0 W4) := B3.out.trans (b.mono B3.out.size)
                          clear b
                          clear dn en
                          have dn := cell_later B4.out (HX.out 5 _ rfl)
                          have en := cell_later B4.out (HY.out 5 _ rfl)
                          go_wp2_with fail
                          refine (C7.out _ (BW.out.trans (B4.out.mono BW.out.size))).mono ?_
                          rintro e W5 ⟨rfl, b⟩
                          have B5 : Hid (Below W0.heap.size W0 W5) := B4.out.trans (b.mono B4.out.size)
                          clear b
                          clear dn en
                          have dn := cell_later B5.out (HX.out 6 _ rfl)
                          have en := cell_later B5.out (HY.out 6 _ rfl)
                          go_wp2_with fail
                          refine (C8.out _ (BW.out.trans (B5.out.mono BW.out.size))).mono ?_
                          rintro e W6 ⟨rfl, b⟩
                          have B6 : Hid (Below W0.heap.size W0 W6) := B5.out.trans (b.mono B5.out.size)
                          clear b
                          clear dn en
                          have dn := cell_later B6.out (HX.out 7 _ rfl)
                          have en := cell_later B6.out (HY.out 7 _ rfl)
                          go_wp2_with fail
                          refine (C9.out _ (BW.out.trans (B6.out.mono BW.out.size))).mono ?_
                          rintro e W7 ⟨rfl, b⟩
                          have B7 : Hid (Below W0.heap.size W0 W7) := B6.out.trans (b.mono B6.out.size)
                          clear b
                          clear dn en
                          have dn := cell_later B7.out (HX.out 8 _ rfl)
                          have en := cell_later B7.out (HY.out 8 _ rfl)
                          go_wp2_with fail
                          refine (C10.out _ (BW.out.trans (B7.out.mono BW.out.size))).mono ?_
                          rintro e W8 ⟨rfl, b⟩
                          have B8 : Hid (Below W0.heap.size W0 W8) := B7.out.trans (b.mono B7.out.size)
                          clear b
                          clear dn en
                          have dn := cell_later B8.out (HX.out 9 _ rfl)
                          have en := cell_later B8.out (HY.out 9 _ rfl)
                          go_wp2_with fail
                          refine (C11.out _ (BW.out.trans (B8.out.mono BW.out.size))).mono ?_
                          rintro e W9 ⟨rfl, b⟩
                          have B9 : Hid (Below W0.heap.size W0 W9) := B8.out.trans (b.mono B8.out.size)
                          clear b
                          go_wp2_with fail
                          go_ret
                          exact ⟨by rw [HR.out]; rfl, BW.out.trans (B9.out.mono BW.out.size)⟩
                        | true =>
                          go_enter Try.func46, Try.ntmps46
                          go_wp2_with fail
                          obtain ⟨W0, hW0⟩ : ∃ W0, (w.alloc (.cells #[.string qa, .slice aqb nqb cqb, .slice aqc nqc cqc, .slice aqd nqd cqd, .slice aqe nqe cqe, .slice aqf nqf cqf, .slice aqg nqg cqg, .slice aqh nqh cqh, .slice aqi nqi cqi, .slice aqj nqj cqj, .int .i64 qk, .int .i64 ql, .int .i64 qm] 52)).alloc (.cells #[.string qa', .slice aqb' nqb' cqb', .slice aqc' nqc' cqc', .slice aqd' nqd' cqd', .slice aqe' nqe' cqe', .slice aqf' nqf' cqf', .slice aqg' nqg' cqg', .slice aqh' nqh' cqh', .slice aqi' nqi' cqi', .slice aqj' nqj' cqj', .int .i64 qk', .int .i64 ql', .int .i64 qm'] 52) = W0 := ⟨_, rfl⟩
                          have HX : Hid (∀ (j : Nat) u, [.string qa, .slice aqb nqb cqb, .slice aqc nqc cqc, .slice aqd nqd cqd, .slice aqe nqe cqe, .slice aqf nqf cqf, .slice aqg nqg cqg, .slice aqh nqh cqh, .slice aqi nqi cqi, .slice aqj nqj cqj, .int .i64 qk, .int .i64 ql, .int .i64 qm][j]? = some u → W0.cell? ⟨w.heap.size, j, none⟩ = some u) := fun j u hu => by rw [← hW0]; exact cell_al _ (by rw [World.cell?_alloc_new]; simpa using hu)
                          have HY : Hid (∀ (j : Nat) u, [.string qa', .slice aqb' nqb' cqb', .slice aqc' nqc' cqc', .slice aqd' nqd' cqd', .slice aqe' nqe' cqe', .slice aqf' nqf' cqf', .slice aqg' nqg' cqg', .slice aqh' nqh' cqh', .slice aqi' nqi' cqi', .slice aqj' nqj' cqj', .int .i64 qk', .int .i64 ql', .int .i64 qm'][j]? = some u → W0.cell? ⟨w.heap.size + 1, j, none⟩ = some u) := fun j u hu => by rw [← hW0, show w.heap.size + 1 = (w.alloc (.cells #[.string qa, .slice aqb nqb cqb, .slice aqc nqc cqc, .slice aqd nqd cqd, .slice aqe nqe cqe, .slice aqf nqf cqf, .slice aqg nqg cqg, .slice aqh nqh cqh, .slice aqi nqi cqi, .slice aqj nqj cqj, .int .i64 qk, .int .i64 ql, .int .i64 qm] 52)).heap.size by simp, World.cell?_alloc_new]; simpa using hu
                          have BW : Hid (Below w.heap.size w W0) := by rw [← hW0]; exact ((Below.refl _ _).alloc (Nat.le_refl _) _).alloc (by simp) _
                          have B0 : Hid (Below W0.heap.size W0 W0) := Below.refl _ _
                          rw [hW0]
                          clear hW0
                          refine (C3.out _ (BW.out.trans (B0.out.mono BW.out.size))).mono ?_
                          rintro e W1 ⟨rfl, b⟩
                          have B1 : Hid (Below W0.heap.size W0 W1) := B0.out.trans (b.mono B0.out.size)
                          clear b
                          have dn := cell_later B1.out (HX.out 2 _ rfl)
                          have en := cell_later B1.out (HY.out 2 _ rfl)
                          go_wp2_with fail
                          refine (C4.out _ (BW.out.trans (B1.out.mono BW.out.size))).mono ?_
                          rintro e W2 ⟨rfl, b⟩
                          have B2 : Hid (Below W0.heap.size W0 W2) := B1.out.trans (b.mono B1.out.size)
                          clear b
                          clear dn en
                          have dn := cell_later B2.out (HX.out 3 _ rfl)
                          have en := cell_later B2.out (HY.out 3 _ rfl)
                          go_wp2_with fail
                          refine (C5.out _ (BW.out.trans (B2.out.mono BW.out.size))).mono ?_
                          rintro e W3 ⟨rfl, b⟩
                          have B3 : Hid (Below W0.heap.size W0 W3) := B2.out.trans (b.mono B2.out.size)
                          clear b
                          clear dn en
                          have dn := cell_later B3.out (HX.out 4 _ rfl)
                          have en := cell_later B3.out (HY.out 4 _ rfl)
                          go_wp2_with fail
                          refine (C6.out _ (BW.out.trans (B3.out.mono BW.out.size))).mono ?_
                          rintro e W4 ⟨rfl, b⟩
                          have B4 : Hid (Below W0.heap.size W0 W4) := B3.out.trans (b.mono B3.out.size)
                          clear b
                          clear dn en
                          have dn := cell_later B4.out (HX.out 5 _ rfl)
                          have en := cell_later B4.out (HY.out 5 _ rfl)
                          go_wp2_with fail
                          refine (C7.out _ (BW.out.trans (B4.out.mono BW.out.size))).mono ?_
                          rintro e W5 ⟨rfl, b⟩
                          have B5 : Hid (Below W0.heap.size W0 W5) := B4.out.trans (b.mono B4.out.size)
                          clear b
                          clear dn en
                          have dn := cell_later B5.out (HX.out 6 _ rfl)
                          have en := cell_later B5.out (HY.out 6 _ rfl)
                          go_wp2_with fail
                          refine (C8.out _ (BW.out.trans (B5.out.mono BW.out.size))).mono ?_
                          rintro e W6 ⟨rfl, b⟩
                          have B6 : Hid (Below W0.heap.size W0 W6) := B5.out.trans (b.mono B5.out.size)
                          clear b
                          clear dn en
                          have dn := cell_later B6.out (HX.out 7 _ rfl)
                          have en := cell_later B6.out (HY.out 7 _ rfl)
                          go_wp2_with fail
                          refine (C9.out _ (BW.out.trans (B6.out.mono BW.out.size))).mono ?_
                          rintro e W7 ⟨rfl, b⟩
                          have B7 : Hid (Below W0.heap.size W0 W7) := B6.out.trans (b.mono B6.out.size)
                          clear b
                          clear dn en
                          have dn := cell_later B7.out (HX.out 8 _ rfl)
                          have en := cell_later B7.out (HY.out 8 _ rfl)
                          go_wp2_with fail
                          refine (C10.out _ (BW.out.trans (B7.out.mono BW.out.size))).mono ?_
                          rintro e W8 ⟨rfl, b⟩
                          have B8 : Hid (Below W0.heap.size W0 W8) := B7.out.trans (b.mono B7.out.size)
                          clear b
                          clear dn en
                          have dn := cell_later B8.out (HX.out 9 _ rfl)
                          have en := cell_later B8.out (HY.out 9 _ rfl)
                          go_wp2_with fail
                          refine (C11.out _ (BW.out.trans (B8.out.mono BW.out.size))).mono ?_
                          rintro e W9 ⟨rfl, b⟩
                          have B9 : Hid (Below W0.heap.size W0 W9) := B8.out.trans (b.mono B8.out.size)
                          clear b
                          go_wp2_with fail
                          go_ret
                          exact ⟨by rw [HR.out]; rfl, BW.out.trans (B9.out.mono BW.out.size)⟩
end Go.Proofs.Ytchlgihanogeeaa
