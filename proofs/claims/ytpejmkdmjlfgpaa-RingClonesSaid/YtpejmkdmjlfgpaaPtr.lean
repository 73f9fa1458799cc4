/-
  Two pointers into blocks that differ are not the same. Each statement bears its own conditions.
-/
import Derived.Test.YtpejmkdmjlfgpaaActsLaw
import Derived.LaidEqlPtr
namespace Go.Proofs.Ytpejmkdmjlfgpaa
open Go.RowKit
theorem heap_of_cell {w : World} {g o : Nat} {v : Value} (h : w.cell? ⟨g, o, none⟩ = some v) : ∃ C t fr, w.heap[g]? = some (.cells C t fr) := by
  unfold World.cell? at h
  cases e : w.heap[g]? with
  | none => simp [e] at h
  | some ob =>
    cases ob with
    | cells C t fr => exact ⟨C, t, fr, rfl⟩
    | _ => simp [e] at h
theorem run_sameAddr_far {P : Program} {w : World} {g1 g2 o1 o2 : Nat} {v1 v2 : Value} (hbl : g1 ≠ g2) (c1 : w.cell? ⟨g1, o1, none⟩ = some v1) (c2 : w.cell? ⟨g2, o2, none⟩ = some v2) (f1 : ∀ o, w.frozen? ⟨g1, o, none⟩ = false) (f2 : ∀ o, w.frozen? ⟨g2, o, none⟩ = false) :
    (sameAddr ⟨g1, 0, none⟩ ⟨g2, 0, none⟩).run P w = .ok false w := by
  obtain ⟨C1, t1, r1, h1⟩ := heap_of_cell c1
  obtain ⟨C2, t2, r2, h2⟩ := heap_of_cell c2
  simp [sameAddr, hbl, noView, viewAt, World.shape?, mayBeOne, stringish, h1, h2, f1, f2]
theorem ptr_info : (Try.prog.info? 66).map (fun i => (i.zero.isSome, i.size, 0)) = some (true, 36, 0) := by kernel_rfl
theorem run_ptr_far {w : World} {g1 g2 o1 o2 : Nat} {v1 v2 : Value} (hbl : g1 ≠ g2) (c1 : w.cell? ⟨g1, o1, none⟩ = some v1) (c2 : w.cell? ⟨g2, o2, none⟩ = some v2) (f1 : ∀ o, w.frozen? ⟨g1, o, none⟩ = false) (f2 : ∀ o, w.frozen? ⟨g2, o, none⟩ = false) :
    (binOp .eql 23 (.pointer (some ⟨g1, 0, none⟩)) (.pointer (some ⟨g2, 0, none⟩))).run Try.prog w = .ok (.bool false) w := by
  have hp : Try.prog.underlying 23 = some (.pointer 66) := Try.underlying23
  have h0 := ptr_info
  cases hte : Try.prog.info? 66 with
  | none => rw [hte] at h0; simp at h0
  | some j =>
    rw [hte] at h0
    simp only [Option.map_some, Option.some.injEq, Prod.mk.injEq] at h0
    have hsz : j.size ≠ 0 := by omega
    have h : ∀ d : Nat, (Op.equalIn (d + 1) 23 (.pointer (some ⟨g1, 0, none⟩)) (.pointer (some ⟨g2, 0, none⟩))).run Try.prog w = .ok false w := fun d => by
      simp [Op.equalIn, run_underlying hp, sizeOf, typeInfo, hte, hsz, run_sameAddr_far hbl c1 c2 f1 f2]
    simp only [binOp]
    simp [Op.equal, Op.maxDepth, h 9999]
end Go.Proofs.Ytpejmkdmjlfgpaa
