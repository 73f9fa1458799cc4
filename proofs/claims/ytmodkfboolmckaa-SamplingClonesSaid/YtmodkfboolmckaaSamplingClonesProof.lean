/-
  SamplingClones: for every input the law returns true, and what was handed in reads afterwards as it read before: a Clone is the same, and goes its own way (at most 50 things are done ahead, and behind it). No condition: every input.
-/
import Derived.Test.YtmodkfboolmckaaSamplingClonesLaw
import Derived.ProofKit
import Derived.OpenShut
import Derived.ShutString
import Derived.ChangeOld
import Derived.Lib.SmallJoins
import Derived.Deep.Grids
import Derived.Deep.Matrix
namespace Go.Proofs.Ytmodkfboolmckaa.lawSamplingClones
open Go.Proofs.Ytmodkfboolmckaa Go.Proofs.Ytmodkfboolmckaa.Sa
open Go.ChangeShapes Go.WideShapes Go.ChangeAt Go.RowKit Go.Joins
open Go.ChangeMaps (open_string shut_string)
set_option linter.unusedVariables false

theorem own : ownKnob Try.prog.godebug = none := by kernel_rfl
theorem laidOut : laidOutB Try.prog = true := by kernel_rfl

set_option maxRecDepth 100000 in
theorem lifted (os : Os) (started : os.Started) (H : Type) (enc : TypeId × Value → H) :
    ReturnsInHanded {} Try.checked os 6 .any (Rows.samplingClonesSpec.pre6 enc Try.prog Try.f6 Rows.samplingClonesRow.domain false) (Rows.samplingClonesSpec.post enc Try.prog Try.f6 false true false false) := by
  refine returnsInHanded_of_change_sized (C := Try.checked) own started (by kernel_rfl) Try.func6
    (ChangeSpec.witness6 (enc := enc) (C := Try.checked) false ⟨#[], #[.agg #[.int .i64 0, .int .i64 0], .slice none 0 0, .slice none 0 0], []⟩ 8 (by kernel_rfl) (by kernel_rfl) (by kernel_rfl) (by kernel_rfl)) ?_
  intro W base args ds gs before hval0 hW hcnd hwt hsz
  have hval : ∀ (j : Nat) t v, Try.f6.params[j]? = some t → args[j]? = some v → Value.okWide Try.prog W .any base t v := hval0
  have hW' := hW
  obtain ⟨p, q, hA0, hV, rfl, hfz, hnd⟩ := hW
  have hA : DataW.TrodAll enc Try.prog W 0 (fun _ => true) true Try.f6.params.toList args.toList ds p := hA0
  rw [Try.params6] at hA hval
  obtain ⟨v0, vs0, d0, ds0, p0, q0, hargs, rfl, rfl, h0, r0⟩ := trodAll_cons hA
  obtain ⟨v1, vs1, d1, ds1, p1, q1, rfl, rfl, rfl, h1, r1⟩ := trodAll_cons r0
  obtain ⟨v2, vs2, d2, ds2, p2, q2, rfl, rfl, rfl, h2, r2⟩ := trodAll_cons r1
  obtain ⟨rfl, rfl, rfl⟩ := trodAll_nil r2
  obtain rfl : args = #[v0, v1, v2] := by cases args; simp_all
  obtain ⟨rfl, rfl⟩ := trodVars_none hV
  have k0 := h0
  have lt0 : ∀ x ∈ p0, x.block < W.heap.size := by obtain ⟨m, hm⟩ := k0; exact DataW.trod_lt m _ _ _ hm
  obtain ⟨c00, c01, rfl⟩ : ∃ c00 c01, v0 = .agg #[c00, c01] := by
    have hv := hval 0 52 v0 rfl rfl
    simp only [Value.okWide, Try.underlying52] at hv
    obtain ⟨cs, hv1, hv2, _⟩ := hv
    obtain ⟨x0, x1, rfl⟩ := array2 (hv2.trans (show Try.prog.cellsOf 52 = 2 by kernel_rfl))
    exact ⟨x0, x1, hv1⟩
  obtain ⟨a00, a01, rfl, rfl⟩ : ∃ a00 a01, c00 = .int .i64 a00 ∧ c01 = .int .i64 a01 := by
    obtain ⟨fuel, hf⟩ := h0
    obtain ⟨xs, m, _, _, _, hl, hel⟩ := DataW.trod_array Try.underlying52 hf
    match xs, hl with
    | [x0, x1], _ =>
      have e0 := hel 0 (by omega)
      have e1 := hel 1 (by omega)
      rw [show Try.prog.cellsOf 3 = 1 by kernel_rfl] at e0 e1
      obtain ⟨z0, b0, _⟩ := DataW.trod_int Try.underlying3 e0
      obtain ⟨z1, b1, _⟩ := DataW.trod_int Try.underlying3 e1
      simp [Value.cells] at b0 b1
      exact ⟨z0, z1, b0, b1⟩
  have k1 := h1
  have lt1 : ∀ x ∈ p1, x.block < W.heap.size := by obtain ⟨m, hm⟩ := k1; exact DataW.trod_lt m _ _ _ hm
  have hw1 : ∀ n ∈ d1.weights Try.prog 22, n ≤ reachBytes := fun n hn => by
    have := List.all_eq_true.1 hwt n (DataW.weights_mem_each (j := 1) (t := 22) (d := d1) (by first | rfl | (rw [Try.params6]; rfl)) rfl n hn)
    simpa using this
  obtain ⟨a1, len1, cap1, rfl⟩ := okWide_slice Try.underlying22 (hval 1 22 v1 rfl rfl)
  obtain ⟨m1, w1⟩ : ∃ m : List AC, Row W 3 (RA W) (.slice a1 len1 cap1) m := by
    obtain ⟨fuel, hf⟩ := h1
    obtain ⟨v, xs, e, hr⟩ := row_of (R := RA W) (k := 3) Try.underlying22 (by kernel_rfl) (by decide) (of_decide_eq_true (by kernel_rfl)) (fun n cs y h1 h2 h3 => open_A n cs y h1 h2 h3) (by simpa [Value.cells] using hf) hw1
    injection e with e
    subst e
    exact ⟨xs, hr⟩
  have k2 := h2
  have lt2 : ∀ x ∈ p2, x.block < W.heap.size := by obtain ⟨m, hm⟩ := k2; exact DataW.trod_lt m _ _ _ hm
  have hw2 : ∀ n ∈ d2.weights Try.prog 22, n ≤ reachBytes := fun n hn => by
    have := List.all_eq_true.1 hwt n (DataW.weights_mem_each (j := 2) (t := 22) (d := d2) (by first | rfl | (rw [Try.params6]; rfl)) rfl n hn)
    simpa using this
  obtain ⟨a2, len2, cap2, rfl⟩ := okWide_slice Try.underlying22 (hval 2 22 v2 rfl rfl)
  obtain ⟨m2, w2⟩ : ∃ m : List AC, Row W 3 (RA W) (.slice a2 len2 cap2) m := by
    obtain ⟨fuel, hf⟩ := h2
    obtain ⟨v, xs, e, hr⟩ := row_of (R := RA W) (k := 3) Try.underlying22 (by kernel_rfl) (by decide) (of_decide_eq_true (by kernel_rfl)) (fun n cs y h1 h2 h3 => open_A n cs y h1 h2 h3) (by simpa [Value.cells] using hf) hw2
    injection e with e
    subst e
    exact ⟨xs, hr⟩
  clear hA0 hval0
  refine (clones_walk a00 a01 a1 len1 cap1 m1 a2 len2 cap2 m2 W w1 w2).mono fun e W' ⟨he, bel⟩ => ?_
  subst he
  exact ⟨_, rfl, _, _, _, [], _, [], hW', trodAll_mk1 (shut_bool Try.underlying4 _), (trodAll_cons_mk (Below.trod laidOut (by kernel_rfl) (of_decide_eq_true (by kernel_rfl)) k0 bel lt0) (trodAll_cons_mk (Below.trod laidOut (by kernel_rfl) (of_decide_eq_true (by kernel_rfl)) k1 bel lt1) (trodAll_cons_mk (Below.trod laidOut (by kernel_rfl) (of_decide_eq_true (by kernel_rfl)) k2 bel lt2) trodAll_mk0))), rfl, bel.frame _, fun h => by cases h⟩

theorem proved : Rows.SamplingClonesSaid :=
  OpenClaim.holds_of_wide 6 Try.f6 rfl rfl rfl rfl rfl rfl rfl ⟨rfl, rfl, rfl, rfl, rfl⟩ rfl rfl rfl rfl rfl (by kernel_rfl) Try.func6 (by kernel_rfl)
    (of_decide_eq_true (by kernel_rfl)) (by unfold Func.isWrapper; first | (rw [if_pos (by decide +kernel)]; kernel_rfl) | (rw [if_neg (by decide +kernel)]; exact ⟨rfl, rfl⟩))
    (fun os started H enc _ => lifted os started H enc)
#print axioms proved
end Go.Proofs.Ytmodkfboolmckaa.lawSamplingClones
