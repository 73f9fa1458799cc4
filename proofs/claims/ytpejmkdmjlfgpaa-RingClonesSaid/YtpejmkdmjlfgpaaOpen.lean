/-
  What an argument that is a slice of deeds looks like in memory, opened. Its statement bears its own conditions.
-/
import Derived.Test.YtpejmkdmjlfgpaaActsLaw
import Derived.Deep.SlicePairs
import Derived.Deep.Slices
import Derived.ChangeSlices
import Derived.ChangeArms
import Derived.ProofKit
import Derived.OpenShut
import Derived.ChangeOld
namespace Go.Proofs.Ytpejmkdmjlfgpaa
open Go.RowKit Go.ChangeShapes Go.WideShapes Go.ChangeAt
set_option linter.unusedSimpArgs false
set_option linter.unusedVariables false
/-- A slice of deeds, opened. -/
theorem opRow_of {H : Type} {enc : TypeId × Value → H} {W : World} {base n : Nat} {held : Bool} {x : Addr} {l c : Nat} {V0 V1 : Nat → Value} {D0 D1 : Nat → DataW H} {P0 P1 : Nat → List MemPlace} (hl : l ≤ c) (hm : c ≤ maxLen)
    (h : ∀ i, i < c → W.cell? (x.add (i * 2)) = some (V0 i) ∧ W.cell? (x.add (i * 2 + 1)) = some (V1 i) ∧ DataW.trod enc Try.prog W base (fun _ => true) held n 3 [V0 i] = some (D0 i, P0 i) ∧ DataW.trod enc Try.prog W base (fun _ => true) held n 32 [V1 i] = some (D1 i, P1 i)) : OpRow W (some x) l ∧ l ≤ maxLen := by
  refine ⟨fun h0 => ?_, Nat.le_trans hl hm⟩
  obtain ⟨b, off, spot⟩ := x
  have e0 := (h 0 (by omega)).1
  have hs : spot = none := by simpa [Addr.add] using World.cell?_spot e0
  subst hs
  have each : ∀ i, i < l → ∃ q : Int × Option Addr × Nat × Nat × List Int, W.cell? ⟨b, off + i * 2, none⟩ = some (.int .i64 q.1) ∧ W.cell? ⟨b, off + i * 2 + 1, none⟩ = some (.slice q.2.1 q.2.2.1 q.2.2.2.1) ∧ q.2.2.1 ≤ q.2.2.2.1 ∧ q.2.2.2.1 ≤ maxLen ∧ (q.2.1 = none → q.2.2.2.1 = 0) ∧ Reads W W.heap.size 1 q.2.1 q.2.2.1 (U q.2.2.2.2) := by
    intro i hi
    obtain ⟨h1, h2, h3, h4⟩ := h i (by omega)
    rw [Addr.add_lit] at h1 h2
    obtain ⟨k, hk, _, _⟩ := DataW.trod_int Try.underlying3 h3
    have hk' : V0 i = .int .i64 k := by simpa using hk
    rw [hk'] at h1
    rcases open_ints Try.underlying32 Try.underlying52 (by kernel_rfl) h4 with ⟨hcs, _⟩ | ⟨a, len, cap, zs, hcs, _, h5, h6, h7, _, h8, h9⟩
    · have hv : V1 i = .slice none 0 0 := by simpa using hcs
      rw [hv] at h2
      exact ⟨(k, none, 0, 0, []), h1, by rw [Nat.add_assoc]; exact h2, Nat.le_refl _, Nat.zero_le _, fun _ => rfl, Reads.none_⟩
    · have hv : V1 i = .slice (some a) len cap := by simpa using hcs
      rw [hv] at h2
      simp only [if_true] at h7
      have R := (reads_row (w := W) (a := some a) (len := len) (cap := cap) (zs := zs) (.inr ⟨a, rfl, h5, h6, h7, h8, h9⟩) len (Nat.le_refl _)).1
      exact ⟨(k, some a, len, cap, zs.take len), h1, by rw [Nat.add_assoc]; exact h2, h5, h6, (fun e => by cases e), R⟩
  obtain ⟨y, hy⟩ := Go.Deep.choose_lt each
  exact ⟨b, off, fun i => (y i).1, fun i => (y i).2.1, fun i => (y i).2.2.1, fun i => (y i).2.2.2.1, fun i => (y i).2.2.2.2, rfl, hy⟩
end Go.Proofs.Ytpejmkdmjlfgpaa
