/-
  The example with which the laws begin. Each statement bears its own conditions.
-/
import Derived.Test.YtdabmbdikofhpaaPrH
namespace Go.Proofs.Ytdabmbdikofhpaa.P
open Go.RowKit
set_option linter.unusedVariables false
set_option linter.unusedSimpArgs false
def spA : AT := ⟨1, 10, 0, 0, 0⟩
def sp1 : MP := ⟨1, 10, 0, 0, 0, 1, false, 1, 0, 0, 3, 0, false⟩
def sp2 : MP := ⟨1, 10, 0, 0, 0, 3, false, 1, 0, 13, 0, 0, false⟩
def sp3 : MP := ⟨1, 10, 0, 0, 0, 1, false, 1, 0, 0, 13, 0, false⟩
def sp4 : MP := ⟨1, 10, 0, 0, 0, 1, false, 1, 0, 0, 23, 0, false⟩
set_option maxRecDepth 100000 in
set_option maxHeartbeats 4000000 in
theorem speaks_any (w : World) : Calls Try.prog 9 #[] w fun e w' => e = .returned (.bool true) ∧ Below w.heap.size w w' := by
  have CN := Lib.hid (new1 spA w)
  have C1 := Lib.hid fun (W : World) (p rb : Nat) (h : T1 w W p rb (freshP spA)) => (start1 (t := 3) h ⟨by omega, by omega⟩ rfl).mono (R' := fun e w' => e = .returned (.int .i64 0) ∧ T1 w w' p rb sp1) fun _ _ h => h
  have C2 := Lib.hid fun (W : World) (p rb : Nat) (h : T1 w W p rb sp1) => (done1 (t := 5) h ⟨by omega, by omega⟩ rfl).mono (R' := fun e w' => e = .returned (.tuple #[.int .i64 13, .int .i64 0]) ∧ T1 w w' p rb sp2) fun _ _ h => h
  have C3 := Lib.hid fun (W : World) (p rb : Nat) (h : T1 w W p rb sp2) => (release1 (t := 13) h ⟨by omega, by omega⟩ rfl (by decide)).mono (R' := fun e w' => e = .returned (.int .i64 0) ∧ T1 w w' p rb sp3) fun _ _ h => h
  have C4 := Lib.hid fun (W : World) (p rb : Nat) (h : T1 w W p rb sp3) => (done1 (t := 25) h ⟨by omega, by omega⟩ rfl).mono (R' := fun e w' => e = .returned (.tuple #[.int .i64 23, .int .i64 0]) ∧ T1 w w' p rb sp4) fun _ _ h => h
  have C5 := Lib.hid fun (W : World) (p rb : Nat) (h : T1 w W p rb sp4) => (state1 h).mono (R' := fun e w' => e = .returned (.int .i64 1) ∧ T1 w w' p rb sp4) fun _ _ h => h
  have hnil : ∀ (p : Nat) (W : World), (binOp .eql 25 (.pointer (some ⟨p, 0, none⟩)) (.pointer none)).run Try.prog W = .ok (.bool false) W := fun _ _ => rfl
  unfold AT.cells spA at CN
  dsimp only at CN
  go_enter Try.func9, Try.ntmps9
  go_wp2_with fail
  refine CN.out.mono ?_
  rintro e W1 ⟨_, hok, hb1⟩
  obtain ⟨p, rb, rfl, h1⟩ := hok rfl
  have hp := hnil p
  have H1 := Lib.hid h1
  clear hok hb1 h1 hnil CN
  go_wp2_with fail
  refine (C1.out _ _ _ H1.out).mono ?_
  rintro e W2 ⟨rfl, h⟩
  have H2 := Lib.hid h
  clear h H1 C1
  go_wp2_with fail
  refine (C2.out _ _ _ H2.out).mono ?_
  rintro e W3 ⟨rfl, h⟩
  have H3 := Lib.hid h
  clear h H2 C2
  go_wp2_with fail
  refine (C3.out _ _ _ H3.out).mono ?_
  rintro e W4 ⟨rfl, h⟩
  have H4 := Lib.hid h
  clear h H3 C3
  go_wp2_with fail
  refine (C4.out _ _ _ H4.out).mono ?_
  rintro e W5 ⟨rfl, h⟩
  have H5 := Lib.hid h
  clear h H4 C4
  go_wp2_with fail
  refine (C5.out _ _ _ H5.out).mono ?_
  rintro e W6 ⟨rfl, h⟩
  go_wp2_with fail
  go_ret
  exact ⟨rfl, h.b⟩
end Go.Proofs.Ytdabmbdikofhpaa.P
