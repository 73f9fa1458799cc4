/-
  The reference's Same: partitions that differ early. Each statement bears its own conditions.
-/
import Derived.Test.YtchlgihanogeeaaRs1
import Derived.Deep.QuietTactic
import Derived.BigQuiet
import Derived.Deep.DeepCutAuto
import Derived.Deep.RegionHeld3
namespace Go.Proofs.Ytchlgihanogeeaa
open Go.RowKit
set_option linter.unusedVariables false
set_option linter.unusedSimpArgs false
set_option maxRecDepth 100000 in
set_option maxHeartbeats 8000000 in
theorem rsamePartition_core_f0 (qa qa' : ByteArray) (qk qk' : Int) (ql ql' : Int) (qm qm' : Int) (aqb aqb' : Option Addr) (cqb cqb' nqb nqb' : Nat) (aqc aqc' : Option Addr) (cqc cqc' nqc nqc' : Nat) (aqd aqd' : Option Addr) (cqd cqd' nqd nqd' : Nat) (aqe aqe' : Option Addr) (cqe cqe' nqe nqe' : Nat) (aqf aqf' : Option Addr) (cqf cqf' nqf nqf' : Nat) (aqg aqg' : Option Addr) (cqg cqg' nqg nqg' : Nat) (aqh aqh' : Option Addr) (cqh cqh' nqh nqh' : Nat) (aqi aqi' : Option Addr) (cqi cqi' nqi nqi' : Nat) (aqj aqj' : Option Addr) (cqj cqj' nqj nqj' : Nat) (w : World) (C0 : (qa.toList == qa'.toList) = false) (D0 : (qa.toList != qa'.toList) = true) :
    Calls Try.prog 44 #[.agg #[.string qa, .slice aqb nqb cqb, .slice aqc nqc cqc, .slice aqd nqd cqd, .slice aqe nqe cqe, .slice aqf nqf cqf, .slice aqg nqg cqg, .slice aqh nqh cqh, .slice aqi nqi cqi, .slice aqj nqj cqj, .int .i64 qk, .int .i64 ql, .int .i64 qm], .agg #[.string qa', .slice aqb' nqb' cqb', .slice aqc' nqc' cqc', .slice aqd' nqd' cqd', .slice aqe' nqe' cqe', .slice aqf' nqf' cqf', .slice aqg' nqg' cqg', .slice aqh' nqh' cqh', .slice aqi' nqi' cqi', .slice aqj' nqj' cqj', .int .i64 qk', .int .i64 ql', .int .i64 qm']] w fun e w' => e = .returned (.bool false) ∧ Below w.heap.size w w' := by
  go_enter Try.func44, Try.ntmps44
  go_wp2_with fail
  go_ret
  exact ⟨rfl, ((Below.refl _ _).alloc (Nat.le_refl _) _).alloc (by simp) _⟩
set_option maxRecDepth 100000 in
set_option maxHeartbeats 8000000 in
theorem rsamePartition_core_f1 (qa qa' : ByteArray) (qk qk' : Int) (ql ql' : Int) (qm qm' : Int) (aqb aqb' : Option Addr) (cqb cqb' nqb nqb' : Nat) (aqc aqc' : Option Addr) (cqc cqc' nqc nqc' : Nat) (aqd aqd' : Option Addr) (cqd cqd' nqd nqd' : Nat) (aqe aqe' : Option Addr) (cqe cqe' nqe nqe' : Nat) (aqf aqf' : Option Addr) (cqf cqf' nqf nqf' : Nat) (aqg aqg' : Option Addr) (cqg cqg' nqg nqg' : Nat) (aqh aqh' : Option Addr) (cqh cqh' nqh nqh' : Nat) (aqi aqi' : Option Addr) (cqi cqi' nqi nqi' : Nat) (aqj aqj' : Option Addr) (cqj cqj' nqj nqj' : Nat) (w : World) (C0 : (qa.toList == qa'.toList) = true) (D0 : (qa.toList != qa'.toList) = false) (C1 : (qk == qk') = false) (D1 : (qk != qk') = true) :
    Calls Try.prog 44 #[.agg #[.string qa, .slice aqb nqb cqb, .slice aqc nqc cqc, .slice aqd nqd cqd, .slice aqe nqe cqe, .slice aqf nqf cqf, .slice aqg nqg cqg, .slice aqh nqh cqh, .slice aqi nqi cqi, .slice aqj nqj cqj, .int .i64 qk, .int .i64 ql, .int .i64 qm], .agg #[.string qa', .slice aqb' nqb' cqb', .slice aqc' nqc' cqc', .slice aqd' nqd' cqd', .slice aqe' nqe' cqe', .slice aqf' nqf' cqf', .slice aqg' nqg' cqg', .slice aqh' nqh' cqh', .slice aqi' nqi' cqi', .slice aqj' nqj' cqj', .int .i64 qk', .int .i64 ql', .int .i64 qm']] w fun e w' => e = .returned (.bool false) ∧ Below w.heap.size w w' := by
  go_enter Try.func44, Try.ntmps44
  go_wp2_with fail
  go_ret
  exact ⟨rfl, ((Below.refl _ _).alloc (Nat.le_refl _) _).alloc (by simp) _⟩
set_option maxRecDepth 100000 in
set_option maxHeartbeats 8000000 in
theorem rsamePartition_core_f2 (qa qa' : ByteArray) (qk qk' : Int) (ql ql' : Int) (qm qm' : Int) (aqb aqb' : Option Addr) (cqb cqb' nqb nqb' : Nat) (aqc aqc' : Option Addr) (cqc cqc' nqc nqc' : Nat) (aqd aqd' : Option Addr) (cqd cqd' nqd nqd' : Nat) (aqe aqe' : Option Addr) (cqe cqe' nqe nqe' : Nat) (aqf aqf' : Option Addr) (cqf cqf' nqf nqf' : Nat) (aqg aqg' : Option Addr) (cqg cqg' nqg nqg' : Nat) (aqh aqh' : Option Addr) (cqh cqh' nqh nqh' : Nat) (aqi aqi' : Option Addr) (cqi cqi' nqi nqi' : Nat) (aqj aqj' : Option Addr) (cqj cqj' nqj nqj' : Nat) (w : World) (C0 : (qa.toList == qa'.toList) = true) (D0 : (qa.toList != qa'.toList) = false) (C1 : (qk == qk') = true) (D1 : (qk != qk') = false) (D2 : ∀ W, (binOp .neq 50 (.agg #[.int .i64 ql, .int .i64 qm]) (.agg #[.int .i64 ql', .int .i64 qm'])).run Try.prog W = .ok (.bool true) W) :
    Calls Try.prog 44 #[.agg #[.string qa, .slice aqb nqb cqb, .slice aqc nqc cqc, .slice aqd nqd cqd, .slice aqe nqe cqe, .slice aqf nqf cqf, .slice aqg nqg cqg, .slice aqh nqh cqh, .slice aqi nqi cqi, .slice aqj nqj cqj, .int .i64 qk, .int .i64 ql, .int .i64 qm], .agg #[.string qa', .slice aqb' nqb' cqb', .slice aqc' nqc' cqc', .slice aqd' nqd' cqd', .slice aqe' nqe' cqe', .slice aqf' nqf' cqf', .slice aqg' nqg' cqg', .slice aqh' nqh' cqh', .slice aqi' nqi' cqi', .slice aqj' nqj' cqj', .int .i64 qk', .int .i64 ql', .int .i64 qm']] w fun e w' => e = .returned (.bool false) ∧ Below w.heap.size w w' := by
  go_enter Try.func44, Try.ntmps44
  go_wp2_with fail
  go_ret
  exact ⟨rfl, ((Below.refl _ _).alloc (Nat.le_refl _) _).alloc (by simp) _⟩
set_option maxRecDepth 100000 in
set_option maxHeartbeats 8000000 in
theorem rsamePartition_core_f3 (qa qa' : ByteArray) (qk qk' : Int) (ql ql' : Int) (qm qm' : Int) (aqb aqb' : Option Addr) (cqb cqb' nqb nqb' : Nat) (aqc aqc' : Option Addr) (cqc cqc' nqc nqc' : Nat) (aqd aqd' : Option Addr) (cqd cqd' nqd nqd' : Nat) (aqe aqe' : Option Addr) (cqe cqe' nqe nqe' : Nat) (aqf aqf' : Option Addr) (cqf cqf' nqf nqf' : Nat) (aqg aqg' : Option Addr) (cqg cqg' nqg nqg' : Nat) (aqh aqh' : Option Addr) (cqh cqh' nqh nqh' : Nat) (aqi aqi' : Option Addr) (cqi cqi' nqi nqi' : Nat) (aqj aqj' : Option Addr) (cqj cqj' nqj nqj' : Nat) (w : World) (C0 : (qa.toList == qa'.toList) = true) (D0 : (qa.toList != qa'.toList) = false) (C1 : (qk == qk') = true) (D1 : (qk != qk') = false) (D2 : ∀ W, (binOp .neq 50 (.agg #[.int .i64 ql, .int .i64 qm]) (.agg #[.int .i64 ql', .int .i64 qm'])).run Try.prog W = .ok (.bool false) W) (hlB : ((nqb : Int) == (nqb' : Int)) = false) (hlC : ((nqb : Int) != (nqb' : Int)) = true) :
    Calls Try.prog 44 #[.agg #[.string qa, .slice aqb nqb cqb, .slice aqc nqc cqc, .slice aqd nqd cqd, .slice aqe nqe cqe, .slice aqf nqf cqf, .slice aqg nqg cqg, .slice aqh nqh cqh, .slice aqi nqi cqi, .slice aqj nqj cqj, .int .i64 qk, .int .i64 ql, .int .i64 qm], .agg #[.string qa', .slice aqb' nqb' cqb', .slice aqc' nqc' cqc', .slice aqd' nqd' cqd', .slice aqe' nqe' cqe', .slice aqf' nqf' cqf', .slice aqg' nqg' cqg', .slice aqh' nqh' cqh', .slice aqi' nqi' cqi', .slice aqj' nqj' cqj', .int .i64 qk', .int .i64 ql', .int .i64 qm']] w fun e w' => e = .returned (.bool false) ∧ Below w.heap.size w w' := by
  go_enter Try.func44, Try.ntmps44
  go_wp2_with fail
  go_ret
  exact ⟨rfl, ((Below.refl _ _).alloc (Nat.le_refl _) _).alloc (by simp) _⟩
end Go.Proofs.Ytchlgihanogeeaa
