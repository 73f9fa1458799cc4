/-
  Names of a kind. Each statement bears its own conditions.
-/
import Derived.Test.YtchlgihanogeeaaN1
import Derived.Test.YtchlgihanogeeaaN2
import Derived.Laws.OwnMore
namespace Go.Proofs.Ytchlgihanogeeaa
open Go.RowKit
set_option linter.unusedVariables false
set_option linter.unusedSimpArgs false
/-- The names of a kind. -/
def nmP (x : MPartition) (kind : ByteArray) : List ByteArray :=
  if kind = (⟨#[97, 114, 101, 97]⟩ : ByteArray) then x.qb.map (·.qa) else
  if kind = (⟨#[116, 97, 115, 107]⟩ : ByteArray) then x.qc.map (·.qa) else
  if kind = (⟨#[108, 111, 99, 107]⟩ : ByteArray) then x.qd.map (·.qa) else
  if kind = (⟨#[115, 101, 109, 97]⟩ : ByteArray) then x.qe.map (·.qa) else
  if kind = (⟨#[101, 118, 101, 110, 116]⟩ : ByteArray) then x.qf.map (·.qa) else
  if kind = (⟨#[98, 111, 97, 114, 100]⟩ : ByteArray) then x.qg.map (·.qa) else
  if kind = (⟨#[98, 117, 102, 102, 101, 114]⟩ : ByteArray) then x.qh.map (·.qa) else
  if kind = (⟨#[112, 111, 114, 116]⟩ : ByteArray) then x.qi.map (·.qa) else
  []
set_option maxRecDepth 100000 in
set_option maxHeartbeats 8000000 in
theorem nmP_core (qa : ByteArray) (qb : List MArea) (qc : List MTask) (qd : List MLock) (qe : List MSema) (qf : List MEvent) (qg : List MBoard) (qh : List MBuffer) (qi : List MPort) (qj : List MRule) (qk : Int) (ql : Int) (qm : Int) (vqb vqc vqd vqe vqf vqg vqh vqi vqj : Value) (kind : ByteArray) (w : World) (hqb : Row w 6 RArea vqb qb) (hqc : Row w 8 RTask vqc qc) (hqd : Row w 2 RLock vqd qd) (hqe : Row w 4 RSema vqe qe) (hqf : Row w 1 REvent vqf qf) (hqg : Row w 2 RBoard vqg qg) (hqh : Row w 4 RBuffer vqh qh) (hqi : Row w 6 RPort vqi qi) (hqj : Row w 3 RRule vqj qj) :
    Calls Try.prog 24 #[.agg #[.string qa, vqb, vqc, vqd, vqe, vqf, vqg, vqh, vqi, vqj, .int .i64 qk, .int .i64 ql, .int .i64 qm], .string kind] w fun e w' => (∃ r, e = .returned r ∧ Row w' 1 RStr r (nmP ⟨qa, qb, qc, qd, qe, qf, qg, qh, qi, qj, qk, ql, qm⟩ kind)) ∧ Below w.heap.size w w' := by
  obtain ⟨aqb, cqb, rfl, hmqb⟩ := hqb.form
  clear hmqb
  obtain ⟨nqb, hnqb⟩ : ∃ n, qb.length = n := ⟨_, rfl⟩
  rw [hnqb] at hqb ⊢
  clear hnqb
  obtain ⟨aqc, cqc, rfl, hmqc⟩ := hqc.form
  clear hmqc
  obtain ⟨nqc, hnqc⟩ : ∃ n, qc.length = n := ⟨_, rfl⟩
  rw [hnqc] at hqc ⊢
  clear hnqc
  obtain ⟨aqd, cqd, rfl, hmqd⟩ := hqd.form
  clear hmqd
  obtain ⟨nqd, hnqd⟩ : ∃ n, qd.length = n := ⟨_, rfl⟩
  rw [hnqd] at hqd ⊢
  clear hnqd
  obtain ⟨aqe, cqe, rfl, hmqe⟩ := hqe.form
  clear hmqe
  obtain ⟨nqe, hnqe⟩ : ∃ n, qe.length = n := ⟨_, rfl⟩
  rw [hnqe] at hqe ⊢
  clear hnqe
  obtain ⟨aqf, cqf, rfl, hmqf⟩ := hqf.form
  clear hmqf
  obtain ⟨nqf, hnqf⟩ : ∃ n, qf.length = n := ⟨_, rfl⟩
  rw [hnqf] at hqf ⊢
  clear hnqf
  obtain ⟨aqg, cqg, rfl, hmqg⟩ := hqg.form
  clear hmqg
  obtain ⟨nqg, hnqg⟩ : ∃ n, qg.length = n := ⟨_, rfl⟩
  rw [hnqg] at hqg ⊢
  clear hnqg
  obtain ⟨aqh, cqh, rfl, hmqh⟩ := hqh.form
  clear hmqh
  obtain ⟨nqh, hnqh⟩ : ∃ n, qh.length = n := ⟨_, rfl⟩
  rw [hnqh] at hqh ⊢
  clear hnqh
  obtain ⟨aqi, cqi, rfl, hmqi⟩ := hqi.form
  clear hmqi
  obtain ⟨nqi, hnqi⟩ : ∃ n, qi.length = n := ⟨_, rfl⟩
  rw [hnqi] at hqi ⊢
  clear hnqi
  obtain ⟨aqj, cqj, rfl, hmqj⟩ := hqj.form
  clear hmqj
  obtain ⟨nqj, hnqj⟩ : ∃ n, qj.length = n := ⟨_, rfl⟩
  rw [hnqj] at hqj ⊢
  clear hnqj
  have C0 : Hid (∀ W, Below w.heap.size w W → Calls Try.prog 66 #[.slice aqb nqb cqb, .func (.func 67) #[] #[]] W fun e w' => (∃ r, e = .returned r ∧ Row w' 1 RStr r (qb.map (·.qa))) ∧ Below W.heap.size W w') := fun W hB => namesArea_any _ qb W (hqb.below hB)
  have C1 : Hid (∀ W, Below w.heap.size w W → Calls Try.prog 68 #[.slice aqc nqc cqc, .func (.func 69) #[] #[]] W fun e w' => (∃ r, e = .returned r ∧ Row w' 1 RStr r (qc.map (·.qa))) ∧ Below W.heap.size W w') := fun W hB => namesTask_any _ qc W (hqc.below hB)
  have C2 : Hid (∀ W, Below w.heap.size w W → Calls Try.prog 70 #[.slice aqd nqd cqd, .func (.func 71) #[] #[]] W fun e w' => (∃ r, e = .returned r ∧ Row w' 1 RStr r (qd.map (·.qa))) ∧ Below W.heap.size W w') := fun W hB => namesLock_any _ qd W (hqd.below hB)
  have C3 : Hid (∀ W, Below w.heap.size w W → Calls Try.prog 72 #[.slice aqe nqe cqe, .func (.func 73) #[] #[]] W fun e w' => (∃ r, e = .returned r ∧ Row w' 1 RStr r (qe.map (·.qa))) ∧ Below W.heap.size W w') := fun W hB => namesSema_any _ qe W (hqe.below hB)
  have C4 : Hid (∀ W, Below w.heap.size w W → Calls Try.prog 74 #[.slice aqf nqf cqf, .func (.func 75) #[] #[]] W fun e w' => (∃ r, e = .returned r ∧ Row w' 1 RStr r (qf.map (·.qa))) ∧ Below W.heap.size W w') := fun W hB => namesEvent_any _ qf W (hqf.below hB)
  have C5 : Hid (∀ W, Below w.heap.size w W → Calls Try.prog 76 #[.slice aqg nqg cqg, .func (.func 77) #[] #[]] W fun e w' => (∃ r, e = .returned r ∧ Row w' 1 RStr r (qg.map (·.qa))) ∧ Below W.heap.size W w') := fun W hB => namesBoard_any _ qg W (hqg.below hB)
  have C6 : Hid (∀ W, Below w.heap.size w W → Calls Try.prog 78 #[.slice aqh nqh cqh, .func (.func 79) #[] #[]] W fun e w' => (∃ r, e = .returned r ∧ Row w' 1 RStr r (qh.map (·.qa))) ∧ Below W.heap.size W w') := fun W hB => namesBuffer_any _ qh W (hqh.below hB)
  have C7 : Hid (∀ W, Below w.heap.size w W → Calls Try.prog 80 #[.slice aqi nqi cqi, .func (.func 81) #[] #[]] W fun e w' => (∃ r, e = .returned r ∧ Row w' 1 RStr r (qi.map (·.qa))) ∧ Below W.heap.size W w') := fun W hB => namesPort_any _ qi W (hqi.below hB)
  clear hqb hqc hqd hqe hqf hqg hqh hqi hqj
  by_cases e0 : kind = (⟨#[97, 114, 101, 97]⟩ : ByteArray)
  · have HR : Hid (nmP ⟨qa, qb, qc, qd, qe, qf, qg, qh, qi, qj, qk, ql, qm⟩ kind = qb.map (·.qa)) := by unfold Hid nmP; rw [if_pos e0]
    have B0 : (kind.toList == ([97, 114, 101, 97] : List UInt8)) = true := by rw [show ([97, 114, 101, 97] : List UInt8) = (⟨#[97, 114, 101, 97]⟩ : ByteArray).toList by rw [ByteArray.toList_eq], str_eqn]; exact decide_eq_true e0
    clear e0
    go_enter Try.func24, Try.ntmps24
    go_wp2_with fail
    refine (C0.out _ ((Below.refl _ _).alloc (Nat.le_refl _) _)).mono ?_
    rintro e W1 ⟨⟨r, rfl, hr⟩, b1⟩
    have HRR := Lib.hid hr
    have HB1 : Hid (Below w.heap.size w W1) := ((Below.refl _ _).alloc (Nat.le_refl _) _).trans (b1.mono (by simp))
    clear hr b1
    go_wp2_with fail
    go_ret
    exact ⟨⟨_, rfl, by rw [HR.out]; exact HRR.out⟩, HB1.out⟩
  · by_cases e1 : kind = (⟨#[116, 97, 115, 107]⟩ : ByteArray)
    · have HR : Hid (nmP ⟨qa, qb, qc, qd, qe, qf, qg, qh, qi, qj, qk, ql, qm⟩ kind = qc.map (·.qa)) := by unfold Hid nmP; rw [if_neg e0, if_pos e1]
      have B0 : (kind.toList == ([97, 114, 101, 97] : List UInt8)) = false := by rw [show ([97, 114, 101, 97] : List UInt8) = (⟨#[97, 114, 101, 97]⟩ : ByteArray).toList by rw [ByteArray.toList_eq], str_eqn]; exact decide_eq_false e0
      have B1 : (kind.toList == ([116, 97, 115, 107] : List UInt8)) = true := by rw [show ([116, 97, 115, 107] : List UInt8) = (⟨#[116, 97, 115, 107]⟩ : ByteArray).toList by rw [ByteArray.toList_eq], str_eqn]; exact decide_eq_true e1
      clear e0 e1
      go_enter Try.func24, Try.ntmps24
      go_wp2_with fail
      refine (C1.out _ ((Below.refl _ _).alloc (Nat.le_refl _) _)).mono ?_
      rintro e W1 ⟨⟨r, rfl, hr⟩, b1⟩
      have HRR := Lib.hid hr
      have HB1 : Hid (Below w.heap.size w W1) := ((Below.refl _ _).alloc (Nat.le_refl _) _).trans (b1.mono (by simp))
      clear hr b1
      go_wp2_with fail
      go_ret
      exact ⟨⟨_, rfl, by rw [HR.out]; exact HRR.out⟩, HB1.out⟩
    · by_cases e2 : kind = (⟨#[108, 111, 99, 107]⟩ : ByteArray)
      · have HR : Hid (nmP ⟨qa, qb, qc, qd, qe, qf, qg, qh, qi, qj, qk, ql, qm⟩ kind = qd.map (·.qa)) := by unfold Hid nmP; rw [if_neg e0, if_neg e1, if_pos e2]
        have B0 : (kind.toList == ([97, 114, 101, 97] : List UInt8)) = false := by rw [show ([97, 114, 101, 97] : List UInt8) = (⟨#[97, 114, 101, 97]⟩ : ByteArray).toList by rw [ByteArray.toList_eq], str_eqn]; exact decide_eq_false e0
        have B1 : (kind.toList == ([116, 97, 115, 107] : List UInt8)) = false := by rw [show ([116, 97, 115, 107] : List UInt8) = (⟨#[116, 97, 115, 107]⟩ : ByteArray).toList by rw [ByteArray.toList_eq], str_eqn]; exact decide_eq_false e1
        have B2 : (kind.toList == ([108, 111, 99, 107] : List UInt8)) = true := by rw [show ([108, 111, 99, 107] : List UInt8) = (⟨#[108, 111, 99, 107]⟩ : ByteArray).toList by rw [ByteArray.toList_eq], str_eqn]; exact decide_eq_true e2
        clear e0 e1 e2
        go_enter Try.func24, Try.ntmps24
        go_wp2_with fail
        refine (C2.out _ ((Below.refl _ _).alloc (Nat.le_refl _) _)).mono ?_
        rintro e W1 ⟨⟨r, rfl, hr⟩, b1⟩
        have HRR := Lib.hid hr
        have HB1 : Hid (Below w.heap.size w W1) := ((Below.refl _ _).alloc (Nat.le_refl _) _).trans (b1.mono (by simp))
        clear hr b1
        go_wp2_with fail
        go_ret
        exact ⟨⟨_, rfl, by rw [HR.out]; exact HRR.out⟩, HB1.out⟩
      · by_cases e3 : kind = (⟨#[115, 101, 109, 97]⟩ : ByteArray)
        · have HR : Hid (nmP ⟨qa, qb, qc, qd, qe, qf, qg, qh, qi, qj, qk, ql, qm⟩ kind = qe.map (·.qa)) := by unfold Hid nmP; rw [if_neg e0, if_neg e1, if_neg e2, if_pos e3]
          have B0 : (kind.toList == ([97, 114, 101, 97] : List UInt8)) = false := by rw [show ([97, 114, 101, 97] : List UInt8) = (⟨#[97, 114, 101, 97]⟩ : ByteArray).toList by rw [ByteArray.toList_eq], str_eqn]; exact decide_eq_false e0
          have B1 : (kind.toList == ([116, 97, 115, 107] : List UInt8)) = false := by rw [show ([116, 97, 115, 107] : List UInt8) = (⟨#[116, 97, 115, 107]⟩ : ByteArray).toList by rw [ByteArray.toList_eq], str_eqn]; exact decide_eq_false e1
          have B2 : (kind.toList == ([108, 111, 99, 107] : List UInt8)) = false := by rw [show ([108, 111, 99, 107] : List UInt8) = (⟨#[108, 111, 99, 107]⟩ : ByteArray).toList by rw [ByteArray.toList_eq], str_eqn]; exact decide_eq_false e2
          have B3 : (kind.toList == ([115, 101, 109, 97] : List UInt8)) = true := by rw [show ([115, 101, 109, 97] : List UInt8) = (⟨#[115, 101, 109, 97]⟩ : ByteArray).toList by rw [ByteArray.toList_eq], str_eqn]; exact decide_eq_true e3
          clear e0 e1 e2 e3
          go_enter Try.func24, Try.ntmps24
          go_wp2_with fail
          refine (C3.out _ ((Below.refl _ _).alloc (Nat.le_refl _) _)).mono ?_
          rintro e W1 ⟨⟨r, rfl, hr⟩, b1⟩
          have HRR := Lib.hid hr
          have HB1 : Hid (Below w.heap.size w W1) := ((Below.refl _ _).alloc (Nat.le_refl _) _).trans (b1.mono (by simp))
          clear hr b1
          go_wp2_with fail
          go_ret
          exact ⟨⟨_, rfl, by rw [HR.out]; exact HRR.out⟩, HB1.out⟩
        · by_cases e4 : kind = (⟨#[101, 118, 101, 110, 116]⟩ : ByteArray)
          · have HR : Hid (nmP ⟨qa, qb, qc, qd, qe, qf, qg, qh, qi, qj, qk, ql, qm⟩ kind = qf.map (·.qa)) := by unfold Hid nmP; rw [if_neg e0, if_neg e1, if_neg e2, if_neg e3, if_pos e4]
            have B0 : (kind.toList == ([97, 114, 101, 97] : List UInt8)) = false := by rw [show ([97, 114, 101, 97] : List UInt8) = (⟨#[97, 114, 101, 97]⟩ : ByteArray).toList by rw [ByteArray.toList_eq], str_eqn]; exact decide_eq_false e0
            have B1 : (kind.toList == ([116, 97, 115, 107] : List UInt8)) = false := by rw [show ([116, 97, 115, 107] : List UInt8) = (⟨#[116, 97, 115, 107]⟩ : ByteArray).toList by rw [ByteArray.toList_eq], str_eqn]; exact decide_eq_false e1
            have B2 : (kind.toList == ([108, 111, 99, 107] : List UInt8)) = false := by rw [show ([108, 111, 99, 107] : List UInt8) = (⟨#[108, 111, 99, 107]⟩ : ByteArray).toList by rw [ByteArray.toList_eq], str_eqn]; exact decide_eq_false e2
            have B3 : (kind.toList == ([115, 101, 109, 97] : List UInt8)) = false := by rw [show ([115, 101, 109, 97] : List UInt8) = (⟨#[115, 101, 109, 97]⟩ : ByteArray).toList by rw [ByteArray.toList_eq], str_eqn]; exact decide_eq_false e3
            have B4 : (kind.toList == ([101, 118, 101, 110, 116] : List UInt8)) = true := by rw [show ([101, 118, 101, 110, 116] : List UInt8) = (⟨#[101, 118, 101, 110, 116]⟩ : ByteArray).toList by rw [ByteArray.toList_eq], str_eqn]; exact decide_eq_true e4
            clear e0 e1 e2 e3 e4
            go_enter Try.func24, Try.ntmps24
            go_wp2_with fail
            refine (C4.out _ ((Below.refl _ _).alloc (Nat.le_refl _) _)).mono ?_
            rintro e W1 ⟨⟨r, rfl, hr⟩, b1⟩
            have HRR := Lib.hid hr
            have HB1 : Hid (Below w.heap.size w W1) := ((Below.refl _ _).alloc (Nat.le_refl _) _).trans (b1.mono (by simp))
            clear hr b1
            go_wp2_with fail
            go_ret
            exact ⟨⟨_, rfl, by rw [HR.out]; exact HRR.out⟩, HB1.out⟩
          · by_cases e5 : kind = (⟨#[98, 111, 97, 114, 100]⟩ : ByteArray)
            · have HR : Hid (nmP ⟨qa, qb, qc, qd, qe, qf, qg, qh, qi, qj, qk, ql, qm⟩ kind = qg.map (·.qa)) := by unfold Hid nmP; rw [if_neg e0, if_neg e1, if_neg e2, if_neg e3, if_neg e4, if_pos e5]
              have B0 : (kind.toList == ([97, 114, 101, 97] : List UInt8)) = false := by rw [show ([97, 114, 101, 97] : List UInt8) = (⟨#[97, 114, 101, 97]⟩ : ByteArray).toList by rw [ByteArray.toList_eq], str_eqn]; exact decide_eq_false e0
              have B1 : (kind.toList == ([116, 97, 115, 107] : List UInt8)) = false := by rw [show ([116, 97, 115, 107] : List UInt8) = (⟨#[116, 97, 115, 107]⟩ : ByteArray).toList by rw [ByteArray.toList_eq], str_eqn]; exact decide_eq_false e1
              have B2 : (kind.toList == ([108, 111, 99, 107] : List UInt8)) = false := by rw [show ([108, 111, 99, 107] : List UInt8) = (⟨#[108, 111, 99, 107]⟩ : ByteArray).toList by rw [ByteArray.toList_eq], str_eqn]; exact decide_eq_false e2
              have B3 : (kind.toList == ([115, 101, 109, 97] : List UInt8)) = false := by rw [show ([115, 101, 109, 97] : List UInt8) = (⟨#[115, 101, 109, 97]⟩ : ByteArray).toList by rw [ByteArray.toList_eq], str_eqn]; exact decide_eq_false e3
              have B4 : (kind.toList == ([101, 118, 101, 110, 116] : List UInt8)) = false := by rw [show ([101, 118, 101, 110, 116] : List UInt8) = (⟨#[101, 118, 101, 110, 116]⟩ : ByteArray).toList by rw [ByteArray.toList_eq], str_eqn]; exact decide_eq_false e4
              have B5 : (kind.toList == ([98, 111, 97, 114, 100] : List UInt8)) = true := by rw [show ([98, 111, 97, 114, 100] : List UInt8) = (⟨#[98, 111, 97, 114, 100]⟩ : ByteArray).toList by rw [ByteArray.toList_eq], str_eqn]; exact decide_eq_true e5
              clear e0 e1 e2 e3 e4 e5
              go_enter Try.func24, Try.ntmps24
              go_wp2_with fail
              refine (C5.out _ ((Below.refl _ _).alloc (Nat.le_refl _) _)).mono ?_
              rintro e W1 ⟨⟨r, rfl, hr⟩, b1⟩
              have HRR := Lib.hid hr
              have HB1 : Hid (Below w.heap.size w W1) := ((Below.refl _ _).alloc (Nat.le_refl _) _).trans (b1.mono (by simp))
              clear hr b1
              go_wp2_with fail
              go_ret
              exact ⟨⟨_, rfl, by rw [HR.out]; exact HRR.out⟩, HB1.out⟩
            · by_cases e6 : kind = (⟨#[98, 117, 102, 102, 101, 114]⟩ : ByteArray)
              · have HR : Hid (nmP ⟨qa, qb, qc, qd, qe, qf, qg, qh, qi, qj, qk, ql, qm⟩ kind = qh.map (·.qa)) := by unfold Hid nmP; rw [if_neg e0, if_neg e1, if_neg e2, if_neg e3, if_neg e4, if_neg e5, if_pos e6]
                have B0 : (kind.toList == ([97, 114, 101, 97] : List UInt8)) = false := by rw [show ([97, 114, 101, 97] : List UInt8) = (⟨#[97, 114, 101, 97]⟩ : ByteArray).toList by rw [ByteArray.toList_eq], str_eqn]; exact decide_eq_false e0
                have B1 : (kind.toList == ([116, 97, 115, 107] : List UInt8)) = false := by rw [show ([116, 97, 115, 107] : List UInt8) = (⟨#[116, 97, 115, 107]⟩ : ByteArray).toList by rw [ByteArray.toList_eq], str_eqn]; exact decide_eq_false e1
                have B2 : (kind.toList == ([108, 111, 99, 107] : List UInt8)) = false := by rw [show ([108, 111, 99, 107] : List UInt8) = (⟨#[108, 111, 99, 107]⟩ : ByteArray).toList by rw [ByteArray.toList_eq], str_eqn]; exact decide_eq_false e2
                have B3 : (kind.toList == ([115, 101, 109, 97] : List UInt8)) = false := by rw [show ([115, 101, 109, 97] : List UInt8) = (⟨#[115, 101, 109, 97]⟩ : ByteArray).toList by rw [ByteArray.toList_eq], str_eqn]; exact decide_eq_false e3
                have B4 : (kind.toList == ([101, 118, 101, 110, 116] : List UInt8)) = false := by rw [show ([101, 118, 101, 110, 116] : List UInt8) = (⟨#[101, 118, 101, 110, 116]⟩ : ByteArray).toList by rw [ByteArray.toList_eq], str_eqn]; exact decide_eq_false e4
                have B5 : (kind.toList == ([98, 111, 97, 114, 100] : List UInt8)) = false := by rw [show ([98, 111, 97, 114, 100] : List UInt8) = (⟨#[98, 111, 97, 114, 100]⟩ : ByteArray).toList by rw [ByteArray.toList_eq], str_eqn]; exact decide_eq_false e5
                have B6 : (kind.toList == ([98, 117, 102, 102, 101, 114] : List UInt8)) = true := by rw [show ([98, 117, 102, 102, 101, 114] : List UInt8) = (⟨#[98, 117, 102, 102, 101, 114]⟩ : ByteArray).toList by rw [ByteArray.toList_eq], str_eqn]; exact decide_eq_true e6
                clear e0 e1 e2 e3 e4 e5 e6
                go_enter Try.func24, Try.ntmps24
                go_wp2_with fail
                refine (C6.out _ ((Below.refl _ _).alloc (Nat.le_refl _) _)).mono ?_
                rintro e W1 ⟨⟨r, rfl, hr⟩, b1⟩
                have HRR := Lib.hid hr
                have HB1 : Hid (Below w.heap.size w W1) := ((Below.refl _ _).alloc (Nat.le_refl _) _).trans (b1.mono (by simp))
                clear hr b1
                go_wp2_with fail
                go_ret
                exact ⟨⟨_, rfl, by rw [HR.out]; exact HRR.out⟩, HB1.out⟩
              · by_cases e7 : kind = (⟨#[112, 111, 114, 116]⟩ : ByteArray)
                · have HR : Hid (nmP ⟨qa, qb, qc, qd, qe, qf, qg, qh, qi, qj, qk, ql, qm⟩ kind = qi.map (·.qa)) := by unfold Hid nmP; rw [if_neg e0, if_neg e1, if_neg e2, if_neg e3, if_neg e4, if_neg e5, if_neg e6, if_pos e7]
                  have B0 : (kind.toList == ([97, 114, 101, 97] : List UInt8)) = false := by rw [show ([97, 114, 101, 97] : List UInt8) = (⟨#[97, 114, 101, 97]⟩ : ByteArray).toList by rw [ByteArray.toList_eq], str_eqn]; exact decide_eq_false e0
                  have B1 : (kind.toList == ([116, 97, 115, 107] : List UInt8)) = false := by rw [show ([116, 97, 115, 107] : List UInt8) = (⟨#[116, 97, 115, 107]⟩ : ByteArray).toList by rw [ByteArray.toList_eq], str_eqn]; exact decide_eq_false e1
                  have B2 : (kind.toList == ([108, 111, 99, 107] : List UInt8)) = false := by rw [show ([108, 111, 99, 107] : List UInt8) = (⟨#[108, 111, 99, 107]⟩ : ByteArray).toList by rw [ByteArray.toList_eq], str_eqn]; exact decide_eq_false e2
                  have B3 : (kind.toList == ([115, 101, 109, 97] : List UInt8)) = false := by rw [show ([115, 101, 109, 97] : List UInt8) = (⟨#[115, 101, 109, 97]⟩ : ByteArray).toList by rw [ByteArray.toList_eq], str_eqn]; exact decide_eq_false e3
                  have B4 : (kind.toList == ([101, 118, 101, 110, 116] : List UInt8)) = false := by rw [show ([101, 118, 101, 110, 116] : List UInt8) = (⟨#[101, 118, 101, 110, 116]⟩ : ByteArray).toList by rw [ByteArray.toList_eq], str_eqn]; exact decide_eq_false e4
                  have B5 : (kind.toList == ([98, 111, 97, 114, 100] : List UInt8)) = false := by rw [show ([98, 111, 97, 114, 100] : List UInt8) = (⟨#[98, 111, 97, 114, 100]⟩ : ByteArray).toList by rw [ByteArray.toList_eq], str_eqn]; exact decide_eq_false e5
                  have B6 : (kind.toList == ([98, 117, 102, 102, 101, 114] : List UInt8)) = false := by rw [show ([98, 117, 102, 102, 101, 114] : List UInt8) = (⟨#[98, 117, 102, 102, 101, 114]⟩ : ByteArray).toList by rw [ByteArray.toList_eq], str_eqn]; exact decide_eq_false e6
                  have B7 : (kind.toList == ([112, 111, 114, 116] : List UInt8)) = true := by rw [show ([112, 111, 114, 116] : List UInt8) = (⟨#[112, 111, 114, 116]⟩ : ByteArray).toList by rw [ByteArray.toList_eq], str_eqn]; exact decide_eq_true e7
                  clear e0 e1 e2 e3 e4 e5 e6 e7
                  go_enter Try.func24, Try.ntmps24
                  go_wp2_with fail
                  refine (C7.out _ ((Below.refl _ _).alloc (Nat.le_refl _) _)).mono ?_
                  rintro e W1 ⟨⟨r, rfl, hr⟩, b1⟩
                  have HRR := Lib.hid hr
                  have HB1 : Hid (Below w.heap.size w W1) := ((Below.refl _ _).alloc (Nat.le_refl _) _).trans (b1.mono (by simp))
                  clear hr b1
                  go_wp2_with fail
                  go_ret
                  exact ⟨⟨_, rfl, by rw [HR.out]; exact HRR.out⟩, HB1.out⟩
                · have HR : Hid (nmP ⟨qa, qb, qc, qd, qe, qf, qg, qh, qi, qj, qk, ql, qm⟩ kind = []) := by unfold Hid nmP; rw [if_neg e0, if_neg e1, if_neg e2, if_neg e3, if_neg e4, if_neg e5, if_neg e6, if_neg e7]
                  have B0 : (kind.toList == ([97, 114, 101, 97] : List UInt8)) = false := by rw [show ([97, 114, 101, 97] : List UInt8) = (⟨#[97, 114, 101, 97]⟩ : ByteArray).toList by rw [ByteArray.toList_eq], str_eqn]; exact decide_eq_false e0
                  have B1 : (kind.toList == ([116, 97, 115, 107] : List UInt8)) = false := by rw [show ([116, 97, 115, 107] : List UInt8) = (⟨#[116, 97, 115, 107]⟩ : ByteArray).toList by rw [ByteArray.toList_eq], str_eqn]; exact decide_eq_false e1
                  have B2 : (kind.toList == ([108, 111, 99, 107] : List UInt8)) = false := by rw [show ([108, 111, 99, 107] : List UInt8) = (⟨#[108, 111, 99, 107]⟩ : ByteArray).toList by rw [ByteArray.toList_eq], str_eqn]; exact decide_eq_false e2
                  have B3 : (kind.toList == ([115, 101, 109, 97] : List UInt8)) = false := by rw [show ([115, 101, 109, 97] : List UInt8) = (⟨#[115, 101, 109, 97]⟩ : ByteArray).toList by rw [ByteArray.toList_eq], str_eqn]; exact decide_eq_false e3
                  have B4 : (kind.toList == ([101, 118, 101, 110, 116] : List UInt8)) = false := by rw [show ([101, 118, 101, 110, 116] : List UInt8) = (⟨#[101, 118, 101, 110, 116]⟩ : ByteArray).toList by rw [ByteArray.toList_eq], str_eqn]; exact decide_eq_false e4
                  have B5 : (kind.toList == ([98, 111, 97, 114, 100] : List UInt8)) = false := by rw [show ([98, 111, 97, 114, 100] : List UInt8) = (⟨#[98, 111, 97, 114, 100]⟩ : ByteArray).toList by rw [ByteArray.toList_eq], str_eqn]; exact decide_eq_false e5
                  have B6 : (kind.toList == ([98, 117, 102, 102, 101, 114] : List UInt8)) = false := by rw [show ([98, 117, 102, 102, 101, 114] : List UInt8) = (⟨#[98, 117, 102, 102, 101, 114]⟩ : ByteArray).toList by rw [ByteArray.toList_eq], str_eqn]; exact decide_eq_false e6
                  have B7 : (kind.toList == ([112, 111, 114, 116] : List UInt8)) = false := by rw [show ([112, 111, 114, 116] : List UInt8) = (⟨#[112, 111, 114, 116]⟩ : ByteArray).toList by rw [ByteArray.toList_eq], str_eqn]; exact decide_eq_false e7
                  clear e0 e1 e2 e3 e4 e5 e6 e7
                  go_enter Try.func24, Try.ntmps24
                  go_wp2_with fail
                  go_ret
                  exact ⟨⟨_, rfl, by rw [HR.out]; exact Row.nil _ _ _⟩, (Below.refl _ _).alloc (Nat.le_refl _) _⟩
set_option maxRecDepth 100000 in
set_option maxHeartbeats 4000000 in
theorem findP_core (qa : ByteArray) (qb : List MArea) (qc : List MTask) (qd : List MLock) (qe : List MSema) (qf : List MEvent) (qg : List MBoard) (qh : List MBuffer) (qi : List MPort) (qj : List MRule) (qk : Int) (ql : Int) (qm : Int) (vqb vqc vqd vqe vqf vqg vqh vqi vqj : Value) (kind s : ByteArray) (w : World) (hqb : Row w 6 RArea vqb qb) (hqc : Row w 8 RTask vqc qc) (hqd : Row w 2 RLock vqd qd) (hqe : Row w 4 RSema vqe qe) (hqf : Row w 1 REvent vqf qf) (hqg : Row w 2 RBoard vqg qg) (hqh : Row w 4 RBuffer vqh qh) (hqi : Row w 6 RPort vqi qi) (hqj : Row w 3 RRule vqj qj) :
    Calls Try.prog 25 #[.agg #[.string qa, vqb, vqc, vqd, vqe, vqf, vqg, vqh, vqi, vqj, .int .i64 qk, .int .i64 ql, .int .i64 qm], .string kind, .string s] w fun e w' => (∃ r, e = .returned (.int .i64 r) ∧ FI (nmP ⟨qa, qb, qc, qd, qe, qf, qg, qh, qi, qj, qk, ql, qm⟩ kind) s r) ∧ Below w.heap.size w w' := by
  obtain ⟨aqb, cqb, rfl, hmqb⟩ := hqb.form
  clear hmqb
  obtain ⟨nqb, hnqb⟩ : ∃ n, qb.length = n := ⟨_, rfl⟩
  rw [hnqb] at hqb ⊢
  clear hnqb
  obtain ⟨aqc, cqc, rfl, hmqc⟩ := hqc.form
  clear hmqc
  obtain ⟨nqc, hnqc⟩ : ∃ n, qc.length = n := ⟨_, rfl⟩
  rw [hnqc] at hqc ⊢
  clear hnqc
  obtain ⟨aqd, cqd, rfl, hmqd⟩ := hqd.form
  clear hmqd
  obtain ⟨nqd, hnqd⟩ : ∃ n, qd.length = n := ⟨_, rfl⟩
  rw [hnqd] at hqd ⊢
  clear hnqd
  obtain ⟨aqe, cqe, rfl, hmqe⟩ := hqe.form
  clear hmqe
  obtain ⟨nqe, hnqe⟩ : ∃ n, qe.length = n := ⟨_, rfl⟩
  rw [hnqe] at hqe ⊢
  clear hnqe
  obtain ⟨aqf, cqf, rfl, hmqf⟩ := hqf.form
  clear hmqf
  obtain ⟨nqf, hnqf⟩ : ∃ n, qf.length = n := ⟨_, rfl⟩
  rw [hnqf] at hqf ⊢
  clear hnqf
  obtain ⟨aqg, cqg, rfl, hmqg⟩ := hqg.form
  clear hmqg
  obtain ⟨nqg, hnqg⟩ : ∃ n, qg.length = n := ⟨_, rfl⟩
  rw [hnqg] at hqg ⊢
  clear hnqg
  obtain ⟨aqh, cqh, rfl, hmqh⟩ := hqh.form
  clear hmqh
  obtain ⟨nqh, hnqh⟩ : ∃ n, qh.length = n := ⟨_, rfl⟩
  rw [hnqh] at hqh ⊢
  clear hnqh
  obtain ⟨aqi, cqi, rfl, hmqi⟩ := hqi.form
  clear hmqi
  obtain ⟨nqi, hnqi⟩ : ∃ n, qi.length = n := ⟨_, rfl⟩
  rw [hnqi] at hqi ⊢
  clear hnqi
  obtain ⟨aqj, cqj, rfl, hmqj⟩ := hqj.form
  clear hmqj
  obtain ⟨nqj, hnqj⟩ : ∃ n, qj.length = n := ⟨_, rfl⟩
  rw [hnqj] at hqj ⊢
  clear hnqj
  have BZ : Below w.heap.size w (w.alloc (.cells #[.string qa, .slice aqb nqb cqb, .slice aqc nqc cqc, .slice aqd nqd cqd, .slice aqe nqe cqe, .slice aqf nqf cqf, .slice aqg nqg cqg, .slice aqh nqh cqh, .slice aqi nqi cqi, .slice aqj nqj cqj, .int .i64 qk, .int .i64 ql, .int .i64 qm] 52)) := (Below.refl _ _).alloc (Nat.le_refl _) _
  have C := Lib.hid (nmP_core qa qb qc qd qe qf qg qh qi qj qk ql qm (.slice aqb nqb cqb) (.slice aqc nqc cqc) (.slice aqd nqd cqd) (.slice aqe nqe cqe) (.slice aqf nqf cqf) (.slice aqg nqg cqg) (.slice aqh nqh cqh) (.slice aqi nqi cqi) (.slice aqj nqj cqj) kind _ (hqb.below BZ) (hqc.below BZ) (hqd.below BZ) (hqe.below BZ) (hqf.below BZ) (hqg.below BZ) (hqh.below BZ) (hqi.below BZ) (hqj.below BZ))
  clear BZ hqb hqc hqd hqe hqf hqg hqh hqi hqj
  go_enter Try.func25, Try.ntmps25
  go_wp2_with fail
  refine C.out.mono ?_
  rintro e W1 ⟨⟨r, rfl, hr⟩, b1⟩
  have HB1 : Hid (Below w.heap.size w W1) := ((Below.refl _ _).alloc (Nat.le_refl _) _).trans (b1.mono (by simp))
  have IX := Lib.hid (index_any r _ s W1 hr)
  clear hr b1 C
  go_wp2_with fail
  refine IX.out.mono ?_
  rintro e W2 ⟨⟨q, rfl, hq⟩, h⟩
  have h := h.symm
  subst h
  have HQ := Lib.hid hq
  clear hq IX
  go_wp2_with fail
  go_ret
  exact ⟨⟨_, rfl, HQ.out⟩, HB1.out⟩
end Go.Proofs.Ytchlgihanogeeaa
