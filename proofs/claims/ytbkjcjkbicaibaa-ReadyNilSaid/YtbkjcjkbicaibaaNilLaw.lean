/-
  The walk of ReadyNil. Each statement bears its own conditions.
-/
import Derived.Test.YtbkjcjkbicaibaaKnown
namespace Go.Proofs.Ytbkjcjkbicaibaa
open Go.RowKit
set_option linter.unusedVariables false
set_option linter.unusedSimpArgs false
set_option maxRecDepth 100000 in
set_option maxHeartbeats 4000000 in
theorem nil_walk (id pr : Int) (w : World) :
    Calls Try.prog 7 #[.int .i64 id, .int .i64 pr] w fun e w' => e = .returned (.bool true) ∧ Below w.heap.size w w' := by
  have he : ∀ (w : World), (binOp .eql 23 (.pointer none) (.pointer none)).run Try.prog w = .ok (.bool true) w := fun _ => rfl
  go_enter Try.func7, Try.ntmps7
  go_wp2_with fail
  refine (take_nil w).mono ?_
  rintro e w1 ⟨rfl, h⟩
  have h := h.symm
  subst h
  go_wp2_with fail
  refine (peek_nil w).mono ?_
  rintro e w1 ⟨rfl, h⟩
  have h := h.symm
  subst h
  go_wp2_with fail
  refine (prio_nil id w).mono ?_
  rintro e w1 ⟨rfl, h⟩
  have h := h.symm
  subst h
  go_wp2_with fail
  refine (known_any w).mono ?_
  rintro e w1 ⟨rfl, b1⟩
  have B1 := Lib.hid b1
  clear b1
  go_wp2_with fail
  refine (put_nil id pr w1).mono ?_
  rintro e w2 ⟨rfl, h⟩
  have h := h.symm
  subst h
  go_wp2_with fail
  refine (front_nil id pr w1).mono ?_
  rintro e w2 ⟨rfl, h⟩
  have h := h.symm
  subst h
  go_wp2_with fail
  refine (drop_nil id w1).mono ?_
  rintro e w2 ⟨rfl, h⟩
  have h := h.symm
  subst h
  go_wp2_with fail
  refine (change_nil id pr w1).mono ?_
  rintro e w2 ⟨rfl, h⟩
  have h := h.symm
  subst h
  go_wp2_with fail
  refine (all_nil w1).mono ?_
  rintro e w2 ⟨rfl, h⟩
  have h := h.symm
  subst h
  go_wp2_with fail
  refine (len_nil w1).mono ?_
  rintro e w2 ⟨rfl, h⟩
  have h := h.symm
  subst h
  go_wp2_with fail
  refine (clone_nil w1).mono ?_
  rintro e w2 ⟨rfl, h⟩
  have h := h.symm
  subst h
  go_wp2_with fail
  refine (same_nil w1).mono ?_
  rintro e w2 ⟨rfl, h⟩
  have h := h.symm
  subst h
  go_wp2_with fail
  refine (new_any w1).mono ?_
  rintro e w2 ⟨rfl, _, b2⟩
  have B2 := Lib.hid (B1.out.trans (b2.mono B1.out.size))
  clear b2
  go_wp2_with fail
  refine (same_nil_some w1.heap.size w2).mono ?_
  rintro e w3 ⟨rfl, h⟩
  have h := h.symm
  subst h
  go_wp2_with fail
  go_ret
  exact ⟨rfl, B2.out⟩
end Go.Proofs.Ytbkjcjkbicaibaa
