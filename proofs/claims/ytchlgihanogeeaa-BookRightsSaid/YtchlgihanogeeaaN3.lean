/-
  Names of a kind. Each statement bears its own conditions.
-/
import Derived.Test.YtchlgihanogeeaaN1
import Derived.Test.YtchlgihanogeeaaN2
import Derived.Laws.OwnMore
namespace Go.Proofs.Ytchlgihanogeeaa
open Go.RowKit
set_option linter.unusedVariables false
set_option linter.unusedSimpArgs false
/-- The names of a kind. -/
def nmM (x : MModule) (kind : ByteArray) : List ByteArray :=
  if kind = (⟨#[112, 97, 114, 116, 105, 116, 105, 111, 110]⟩ : ByteArray) then x.qb.map (·.qa) else
  if kind = (⟨#[115, 99, 104, 101, 100, 117, 108, 101]⟩ : ByteArray) then x.qc.map (·.qa) else
  if kind = (⟨#[108, 105, 110, 107]⟩ : ByteArray) then x.qf.map (·.qa) else
  []
set_option maxRecDepth 100000 in
set_option maxHeartbeats 8000000 in
theorem nmM_core (qa : ByteArray) (qb : List MPartition) (qc : List MSchedule) (qd : Int) (qe : List MChannel) (qf : List MLink) (qg : List MRule) (vqb vqc vqe vqf vqg : Value) (kind : ByteArray) (w : World) (hqb : Row w 13 (RPartition w) vqb qb) (hqc : Row w 3 (RSchedule w) vqc qc) (hqe : Row w 3 (RChannel w) vqe qe) (hqf : Row w 3 RLink vqf qf) (hqg : Row w 3 RRule vqg qg) :
    Calls Try.prog 18 #[.agg #[.string qa, vqb, vqc, .int .i64 qd, vqe, vqf, vqg], .string kind] w fun e w' => (∃ r, e = .returned r ∧ Row w' 1 RStr r (nmM ⟨qa, qb, qc, qd, qe, qf, qg⟩ kind)) ∧ Below w.heap.size w w' := by
  obtain ⟨aqb, cqb, rfl, hmqb⟩ := hqb.form
  clear hmqb
  obtain ⟨nqb, hnqb⟩ : ∃ n, qb.length = n := ⟨_, rfl⟩
  rw [hnqb] at hqb ⊢
  clear hnqb
  obtain ⟨aqc, cqc, rfl, hmqc⟩ := hqc.form
  clear hmqc
  obtain ⟨nqc, hnqc⟩ : ∃ n, qc.length = n := ⟨_, rfl⟩
  rw [hnqc] at hqc ⊢
  clear hnqc
  obtain ⟨aqe, cqe, rfl, hmqe⟩ := hqe.form
  clear hmqe
  obtain ⟨nqe, hnqe⟩ : ∃ n, qe.length = n := ⟨_, rfl⟩
  rw [hnqe] at hqe ⊢
  clear hnqe
  obtain ⟨aqf, cqf, rfl, hmqf⟩ := hqf.form
  clear hmqf
  obtain ⟨nqf, hnqf⟩ : ∃ n, qf.length = n := ⟨_, rfl⟩
  rw [hnqf] at hqf ⊢
  clear hnqf
  obtain ⟨aqg, cqg, rfl, hmqg⟩ := hqg.form
  clear hmqg
  obtain ⟨nqg, hnqg⟩ : ∃ n, qg.length = n := ⟨_, rfl⟩
  rw [hnqg] at hqg ⊢
  clear hnqg
  have C0 : Hid (∀ W, Below w.heap.size w W → Calls Try.prog 59 #[.slice aqb nqb cqb, .func (.func 60) #[] #[]] W fun e w' => (∃ r, e = .returned r ∧ Row w' 1 RStr r (qb.map (·.qa))) ∧ Below W.heap.size W w') := fun W hB => namesPartition_any _ qb W (hqb.keep hB (fun _ _ h => h.below hB))
  have C1 : Hid (∀ W, Below w.heap.size w W → Calls Try.prog 61 #[.slice aqc nqc cqc, .func (.func 62) #[] #[]] W fun e w' => (∃ r, e = .returned r ∧ Row w' 1 RStr r (qc.map (·.qa))) ∧ Below W.heap.size W w') := fun W hB => namesSchedule_any _ qc W (hqc.keep hB (fun _ _ h => h.below hB))
  have C2 : Hid (∀ W, Below w.heap.size w W → Calls Try.prog 63 #[.slice aqf nqf cqf, .func (.func 64) #[] #[]] W fun e w' => (∃ r, e = .returned r ∧ Row w' 1 RStr r (qf.map (·.qa))) ∧ Below W.heap.size W w') := fun W hB => namesLink_any _ qf W (hqf.below hB)
  clear hqb hqc hqe hqf hqg
  by_cases e0 : kind = (⟨#[112, 97, 114, 116, 105, 116, 105, 111, 110]⟩ : ByteArray)
  · have HR : Hid (nmM ⟨qa, qb, qc, qd, qe, qf, qg⟩ kind = qb.map (·.qa)) := by unfold Hid nmM; rw [if_pos e0]
    have B0 : (kind.toList == ([112, 97, 114, 116, 105, 116, 105, 111, 110] : List UInt8)) = true := by rw [show ([112, 97, 114, 116, 105, 116, 105, 111, 110] : List UInt8) = (⟨#[112, 97, 114, 116, 105, 116, 105, 111, 110]⟩ : ByteArray).toList by rw [ByteArray.toList_eq], str_eqn]; exact decide_eq_true e0
    clear e0
    go_enter Try.func18, Try.ntmps18
    go_wp2_with fail
    refine (C0.out _ ((Below.refl _ _).alloc (Nat.le_refl _) _)).mono ?_
    rintro e W1 ⟨⟨r, rfl, hr⟩, b1⟩
    have HRR := Lib.hid hr
    have HB1 : Hid (Below w.heap.size w W1) := ((Below.refl _ _).alloc (Nat.le_refl _) _).trans (b1.mono (by simp))
    clear hr b1
    go_wp2_with fail
    go_ret
    exact ⟨⟨_, rfl, by rw [HR.out]; exact HRR.out⟩, HB1.out⟩
  · by_cases e1 : kind = (⟨#[115, 99, 104, 101, 100, 117, 108, 101]⟩ : ByteArray)
    · have HR : Hid (nmM ⟨qa, qb, qc, qd, qe, qf, qg⟩ kind = qc.map (·.qa)) := by unfold Hid nmM; rw [if_neg e0, if_pos e1]
      have B0 : (kind.toList == ([112, 97, 114, 116, 105, 116, 105, 111, 110] : List UInt8)) = false := by rw [show ([112, 97, 114, 116, 105, 116, 105, 111, 110] : List UInt8) = (⟨#[112, 97, 114, 116, 105, 116, 105, 111, 110]⟩ : ByteArray).toList by rw [ByteArray.toList_eq], str_eqn]; exact decide_eq_false e0
      have B1 : (kind.toList == ([115, 99, 104, 101, 100, 117, 108, 101] : List UInt8)) = true := by rw [show ([115, 99, 104, 101, 100, 117, 108, 101] : List UInt8) = (⟨#[115, 99, 104, 101, 100, 117, 108, 101]⟩ : ByteArray).toList by rw [ByteArray.toList_eq], str_eqn]; exact decide_eq_true e1
      clear e0 e1
      go_enter Try.func18, Try.ntmps18
      go_wp2_with fail
      refine (C1.out _ ((Below.refl _ _).alloc (Nat.le_refl _) _)).mono ?_
      rintro e W1 ⟨⟨r, rfl, hr⟩, b1⟩
      have HRR := Lib.hid hr
      have HB1 : Hid (Below w.heap.size w W1) := ((Below.refl _ _).alloc (Nat.le_refl _) _).trans (b1.mono (by simp))
      clear hr b1
      go_wp2_with fail
      go_ret
      exact ⟨⟨_, rfl, by rw [HR.out]; exact HRR.out⟩, HB1.out⟩
    · by_cases e2 : kind = (⟨#[108, 105, 110, 107]⟩ : ByteArray)
      · have HR : Hid (nmM ⟨qa, qb, qc, qd, qe, qf, qg⟩ kind = qf.map (·.qa)) := by unfold Hid nmM; rw [if_neg e0, if_neg e1, if_pos e2]
        have B0 : (kind.toList == ([112, 97, 114, 116, 105, 116, 105, 111, 110] : List UInt8)) = false := by rw [show ([112, 97, 114, 116, 105, 116, 105, 111, 110] : List UInt8) = (⟨#[112, 97, 114, 116, 105, 116, 105, 111, 110]⟩ : ByteArray).toList by rw [ByteArray.toList_eq], str_eqn]; exact decide_eq_false e0
        have B1 : (kind.toList == ([115, 99, 104, 101, 100, 117, 108, 101] : List UInt8)) = false := by rw [show ([115, 99, 104, 101, 100, 117, 108, 101] : List UInt8) = (⟨#[115, 99, 104, 101, 100, 117, 108, 101]⟩ : ByteArray).toList by rw [ByteArray.toList_eq], str_eqn]; exact decide_eq_false e1
        have B2 : (kind.toList == ([108, 105, 110, 107] : List UInt8)) = true := by rw [show ([108, 105, 110, 107] : List UInt8) = (⟨#[108, 105, 110, 107]⟩ : ByteArray).toList by rw [ByteArray.toList_eq], str_eqn]; exact decide_eq_true e2
        clear e0 e1 e2
        go_enter Try.func18, Try.ntmps18
        go_wp2_with fail
        refine (C2.out _ ((Below.refl _ _).alloc (Nat.le_refl _) _)).mono ?_
        rintro e W1 ⟨⟨r, rfl, hr⟩, b1⟩
        have HRR := Lib.hid hr
        have HB1 : Hid (Below w.heap.size w W1) := ((Below.refl _ _).alloc (Nat.le_refl _) _).trans (b1.mono (by simp))
        clear hr b1
        go_wp2_with fail
        go_ret
        exact ⟨⟨_, rfl, by rw [HR.out]; exact HRR.out⟩, HB1.out⟩
      · have HR : Hid (nmM ⟨qa, qb, qc, qd, qe, qf, qg⟩ kind = []) := by unfold Hid nmM; rw [if_neg e0, if_neg e1, if_neg e2]
        have B0 : (kind.toList == ([112, 97, 114, 116, 105, 116, 105, 111, 110] : List UInt8)) = false := by rw [show ([112, 97, 114, 116, 105, 116, 105, 111, 110] : List UInt8) = (⟨#[112, 97, 114, 116, 105, 116, 105, 111, 110]⟩ : ByteArray).toList by rw [ByteArray.toList_eq], str_eqn]; exact decide_eq_false e0
        have B1 : (kind.toList == ([115, 99, 104, 101, 100, 117, 108, 101] : List UInt8)) = false := by rw [show ([115, 99, 104, 101, 100, 117, 108, 101] : List UInt8) = (⟨#[115, 99, 104, 101, 100, 117, 108, 101]⟩ : ByteArray).toList by rw [ByteArray.toList_eq], str_eqn]; exact decide_eq_false e1
        have B2 : (kind.toList == ([108, 105, 110, 107] : List UInt8)) = false := by rw [show ([108, 105, 110, 107] : List UInt8) = (⟨#[108, 105, 110, 107]⟩ : ByteArray).toList by rw [ByteArray.toList_eq], str_eqn]; exact decide_eq_false e2
        clear e0 e1 e2
        go_enter Try.func18, Try.ntmps18
        go_wp2_with fail
        go_ret
        exact ⟨⟨_, rfl, by rw [HR.out]; exact Row.nil _ _ _⟩, (Below.refl _ _).alloc (Nat.le_refl _) _⟩
set_option maxRecDepth 100000 in
set_option maxHeartbeats 4000000 in
theorem findM_core (qa : ByteArray) (qb : List MPartition) (qc : List MSchedule) (qd : Int) (qe : List MChannel) (qf : List MLink) (qg : List MRule) (vqb vqc vqe vqf vqg : Value) (kind s : ByteArray) (w : World) (hqb : Row w 13 (RPartition w) vqb qb) (hqc : Row w 3 (RSchedule w) vqc qc) (hqe : Row w 3 (RChannel w) vqe qe) (hqf : Row w 3 RLink vqf qf) (hqg : Row w 3 RRule vqg qg) :
    Calls Try.prog 20 #[.agg #[.string qa, vqb, vqc, .int .i64 qd, vqe, vqf, vqg], .string kind, .string s] w fun e w' => (∃ r, e = .returned (.int .i64 r) ∧ FI (nmM ⟨qa, qb, qc, qd, qe, qf, qg⟩ kind) s r) ∧ Below w.heap.size w w' := by
  obtain ⟨aqb, cqb, rfl, hmqb⟩ := hqb.form
  clear hmqb
  obtain ⟨nqb, hnqb⟩ : ∃ n, qb.length = n := ⟨_, rfl⟩
  rw [hnqb] at hqb ⊢
  clear hnqb
  obtain ⟨aqc, cqc, rfl, hmqc⟩ := hqc.form
  clear hmqc
  obtain ⟨nqc, hnqc⟩ : ∃ n, qc.length = n := ⟨_, rfl⟩
  rw [hnqc] at hqc ⊢
  clear hnqc
  obtain ⟨aqe, cqe, rfl, hmqe⟩ := hqe.form
  clear hmqe
  obtain ⟨nqe, hnqe⟩ : ∃ n, qe.length = n := ⟨_, rfl⟩
  rw [hnqe] at hqe ⊢
  clear hnqe
  obtain ⟨aqf, cqf, rfl, hmqf⟩ := hqf.form
  clear hmqf
  obtain ⟨nqf, hnqf⟩ : ∃ n, qf.length = n := ⟨_, rfl⟩
  rw [hnqf] at hqf ⊢
  clear hnqf
  obtain ⟨aqg, cqg, rfl, hmqg⟩ := hqg.form
  clear hmqg
  obtain ⟨nqg, hnqg⟩ : ∃ n, qg.length = n := ⟨_, rfl⟩
  rw [hnqg] at hqg ⊢
  clear hnqg
  have BZ : Below w.heap.size w (w.alloc (.cells #[.string qa, .slice aqb nqb cqb, .slice aqc nqc cqc, .int .i64 qd, .slice aqe nqe cqe, .slice aqf nqf cqf, .slice aqg nqg cqg] 30)) := (Below.refl _ _).alloc (Nat.le_refl _) _
  have C := Lib.hid (nmM_core qa qb qc qd qe qf qg (.slice aqb nqb cqb) (.slice aqc nqc cqc) (.slice aqe nqe cqe) (.slice aqf nqf cqf) (.slice aqg nqg cqg) kind _ (hqb.keep BZ (fun _ _ h => h.below BZ)) (hqc.keep BZ (fun _ _ h => h.below BZ)) (hqe.keep BZ (fun _ _ h => h.below BZ)) (hqf.below BZ) (hqg.below BZ))
  clear BZ hqb hqc hqe hqf hqg
  go_enter Try.func20, Try.ntmps20
  go_wp2_with fail
  refine C.out.mono ?_
  rintro e W1 ⟨⟨r, rfl, hr⟩, b1⟩
  have HB1 : Hid (Below w.heap.size w W1) := ((Below.refl _ _).alloc (Nat.le_refl _) _).trans (b1.mono (by simp))
  have IX := Lib.hid (index_any r _ s W1 hr)
  clear hr b1 C
  go_wp2_with fail
  refine IX.out.mono ?_
  rintro e W2 ⟨⟨q, rfl, hq⟩, h⟩
  have h := h.symm
  subst h
  have HQ := Lib.hid hq
  clear hq IX
  go_wp2_with fail
  go_ret
  exact ⟨⟨_, rfl, HQ.out⟩, HB1.out⟩
end Go.Proofs.Ytchlgihanogeeaa
