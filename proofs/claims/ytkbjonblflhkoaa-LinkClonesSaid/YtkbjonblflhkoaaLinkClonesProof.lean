/-
  LinkClones: for every input the law returns true, and what was handed in reads afterwards as it read before: Clones of Senders are the same, and go their own way (at most 40 calls each). No condition: every input.
-/
import Derived.Test.YtkbjonblflhkoaaLinkClonesLaw
import Derived.ProofKit
import Derived.OpenShut
import Derived.ShutString
import Derived.ChangeOld
import Derived.Lib.SmallJoins
import Derived.Deep.Grids
import Derived.Deep.Matrix
namespace Go.Proofs.Ytkbjonblflhkoaa.lawLinkClones
open Go.Proofs.Ytkbjonblflhkoaa Go.Proofs.Ytkbjonblflhkoaa.Ln Go.Proofs.Ytkbjonblflhkoaa.Q
open Go.ChangeShapes Go.WideShapes Go.ChangeAt Go.RowKit Go.Joins
open Go.ChangeMaps (open_string shut_string)
set_option linter.unusedVariables false

theorem own : ownKnob Try.prog.godebug = none := by kernel_rfl
theorem laidOut : laidOutB Try.prog = true := by kernel_rfl

set_option maxRecDepth 100000 in
theorem lifted (os : Os) (started : os.Started) (H : Type) (enc : TypeId × Value → H) :
    ReturnsInHanded {} Try.checked os 8 .any (Rows.linkClonesSpec.pre6 enc Try.prog Try.f8 Rows.linkClonesRow.domain false) (Rows.linkClonesSpec.post enc Try.prog Try.f8 false true false false) := by
  refine returnsInHanded_of_change_sized (C := Try.checked) own started (by kernel_rfl) Try.func8
    (ChangeSpec.witness6 (enc := enc) (C := Try.checked) false ⟨#[], #[.agg #[.int .i64 0, .int .i64 0, .int .i64 0], .slice none 0 0, .slice none 0 0], []⟩ 8 (by kernel_rfl) (by kernel_rfl) (by kernel_rfl) (by kernel_rfl)) ?_
  intro W base args ds gs before hval0 hW hcnd hwt hsz
  have hval : ∀ (j : Nat) t v, Try.f8.params[j]? = some t → args[j]? = some v → Value.okWide Try.prog W .any base t v := hval0
  have hW' := hW
  obtain ⟨p, q, hA0, hV, rfl, hfz, hnd⟩ := hW
  have hA : DataW.TrodAll enc Try.prog W 0 (fun _ => true) true Try.f8.params.toList args.toList ds p := hA0
  rw [Try.params8] at hA hval
  obtain ⟨v0, vs0, d0, ds0, p0, q0, hargs, rfl, rfl, h0, r0⟩ := trodAll_cons hA
  obtain ⟨v1, vs1, d1, ds1, p1, q1, rfl, rfl, rfl, h1, r1⟩ := trodAll_cons r0
  obtain ⟨v2, vs2, d2, ds2, p2, q2, rfl, rfl, rfl, h2, r2⟩ := trodAll_cons r1
  obtain ⟨rfl, rfl, rfl⟩ := trodAll_nil r2
  obtain rfl : args = #[v0, v1, v2] := by cases args; simp_all
  obtain ⟨rfl, rfl⟩ := trodVars_none hV
  have k0 := h0
  have lt0 : ∀ x ∈ p0, x.block < W.heap.size := by obtain ⟨m, hm⟩ := k0; exact DataW.trod_lt m _ _ _ hm
  obtain ⟨c00, c01, c02, rfl⟩ : ∃ c00 c01 c02, v0 = .agg #[c00, c01, c02] := by
    have hv := hval 0 22 v0 rfl rfl
    simp only [Value.okWide, Try.underlying22] at hv
    obtain ⟨cs, hv1, hv2, _⟩ := hv
    obtain ⟨x0, x1, x2, rfl⟩ := array3' (hv2.trans (show Try.prog.cellsOf 22 = 3 by kernel_rfl))
    exact ⟨x0, x1, x2, hv1⟩
  obtain ⟨a00, a01, a02, rfl, rfl, rfl⟩ : ∃ a00 a01 a02, c00 = .int .i64 a00 ∧ c01 = .int .i64 a01 ∧ c02 = .int .i64 a02 := by
    obtain ⟨fuel, hf⟩ := h0
    obtain ⟨xs, m, _, _, _, hl, hel⟩ := DataW.trod_array Try.underlying22 hf
    match xs, hl with
    | [x0, x1, x2], _ =>
      have e0 := hel 0 (by omega)
      have e1 := hel 1 (by omega)
      have e2 := hel 2 (by omega)
      rw [show Try.prog.cellsOf 3 = 1 by kernel_rfl] at e0 e1 e2
      obtain ⟨z0, b0, _⟩ := DataW.trod_int Try.underlying3 e0
      obtain ⟨z1, b1, _⟩ := DataW.trod_int Try.underlying3 e1
      obtain ⟨z2, b2, _⟩ := DataW.trod_int Try.underlying3 e2
      simp [Value.cells] at b0 b1 b2
      exact ⟨z0, z1, z2, b0, b1, b2⟩
  have k1 := h1
  have lt1 : ∀ x ∈ p1, x.block < W.heap.size := by obtain ⟨m, hm⟩ := k1; exact DataW.trod_lt m _ _ _ hm
  have hw1 : ∀ n ∈ d1.weights Try.prog 23, n ≤ reachBytes := fun n hn => by
    have := List.all_eq_true.1 hwt n (DataW.weights_mem_each (j := 1) (t := 23) (d := d1) (by first | rfl | (rw [Try.params8]; rfl)) rfl n hn)
    simpa using this
  obtain ⟨a1, len1, cap1, rfl⟩ := okWide_slice Try.underlying23 (hval 1 23 v1 rfl rfl)
  obtain ⟨m1, w1⟩ : ∃ m : List OC, Row W 3 (RO W) (.slice a1 len1 cap1) m := by
    obtain ⟨fuel, hf⟩ := h1
    obtain ⟨v, xs, e, hr⟩ := row_of (R := RO W) (k := 3) Try.underlying23 (by kernel_rfl) (by decide) (of_decide_eq_true (by kernel_rfl)) (fun n cs y h1 h2 h3 => open_O n cs y h1 h2 h3) (by simpa [Value.cells] using hf) hw1
    injection e with e
    subst e
    exact ⟨xs, hr⟩
  have k2 := h2
  have lt2 : ∀ x ∈ p2, x.block < W.heap.size := by obtain ⟨m, hm⟩ := k2; exact DataW.trod_lt m _ _ _ hm
  have hw2 : ∀ n ∈ d2.weights Try.prog 23, n ≤ reachBytes := fun n hn => by
    have := List.all_eq_true.1 hwt n (DataW.weights_mem_each (j := 2) (t := 23) (d := d2) (by first | rfl | (rw [Try.params8]; rfl)) rfl n hn)
    simpa using this
  obtain ⟨a2, len2, cap2, rfl⟩ := okWide_slice Try.underlying23 (hval 2 23 v2 rfl rfl)
  obtain ⟨m2, w2⟩ : ∃ m : List OC, Row W 3 (RO W) (.slice a2 len2 cap2) m := by
    obtain ⟨fuel, hf⟩ := h2
    obtain ⟨v, xs, e, hr⟩ := row_of (R := RO W) (k := 3) Try.underlying23 (by kernel_rfl) (by decide) (of_decide_eq_true (by kernel_rfl)) (fun n cs y h1 h2 h3 => open_O n cs y h1 h2 h3) (by simpa [Value.cells] using hf) hw2
    injection e with e
    subst e
    exact ⟨xs, hr⟩
  clear hA0 hval0
  refine (clones_walk a00 a01 a02 a1 len1 cap1 m1 a2 len2 cap2 m2 W w1 w2).mono fun e W' ⟨he, bel⟩ => ?_
  subst he
  exact ⟨_, rfl, _, _, _, [], _, [], hW', trodAll_mk1 (shut_bool Try.underlying4 _), (trodAll_cons_mk (Below.trod laidOut (by kernel_rfl) (of_decide_eq_true (by kernel_rfl)) k0 bel lt0) (trodAll_cons_mk (Below.trod laidOut (by kernel_rfl) (of_decide_eq_true (by kernel_rfl)) k1 bel lt1) (trodAll_cons_mk (Below.trod laidOut (by kernel_rfl) (of_decide_eq_true (by kernel_rfl)) k2 bel lt2) trodAll_mk0))), rfl, bel.frame _, fun h => by cases h⟩

theorem proved : Rows.LinkClonesSaid :=
  OpenClaim.holds_of_wide 8 Try.f8 rfl rfl rfl rfl rfl rfl rfl ⟨rfl, rfl, rfl, rfl, rfl⟩ rfl rfl rfl rfl rfl (by kernel_rfl) Try.func8 (by kernel_rfl)
    (of_decide_eq_true (by kernel_rfl)) (by unfold Func.isWrapper; first | (rw [if_pos (by decide +kernel)]; kernel_rfl) | (rw [if_neg (by decide +kernel)]; exact ⟨rfl, rfl⟩))
    (fun os started H enc _ => lifted os started H enc)
#print axioms proved
end Go.Proofs.Ytkbjonblflhkoaa.lawLinkClones
