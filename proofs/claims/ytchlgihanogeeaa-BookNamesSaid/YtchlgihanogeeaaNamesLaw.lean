/-
  The walk of BookNames. Each statement bears its own conditions.
-/
import Derived.Test.YtchlgihanogeeaaTold
import Derived.Test.YtchlgihanogeeaaRName
namespace Go.Proofs.Ytchlgihanogeeaa
open Go.RowKit
set_option linter.unusedVariables false
set_option linter.unusedSimpArgs false
theorem names_walk (s : ByteArray) (w : World) (hs : s.size ≤ maxLen) : Calls Try.prog 3 #[.string s] w fun e w' => e = .returned (.bool true) ∧ Below w.heap.size w w' := by
  obtain ⟨t, ht⟩ : ∃ t, nameB s = t := ⟨_, rfl⟩
  have NA := Lib.hid fun W => name_any s W hs
  have RN := Lib.hid fun W => rname_any s W hs
  rw [ht] at NA RN
  clear ht hs
  have hbb : (t == t) = true := by cases t <;> rfl
  go_enter Try.func3, Try.ntmps3
  go_wp2_with fail
  refine (told_any w).mono ?_
  rintro e W1 ⟨rfl, b⟩
  have B1 := Lib.hid b
  clear b
  go_wp2_with fail
  refine (NA.out _).mono ?_
  rintro e W ⟨rfl, h⟩
  have h := h.symm
  subst h
  go_wp2_with fail
  refine (RN.out _).mono ?_
  rintro e W ⟨rfl, h⟩
  have h := h.symm
  subst h
  go_wp2_with fail
  go_ret
  exact ⟨rfl, B1.out⟩
end Go.Proofs.Ytchlgihanogeeaa
