/-
  The contract of told, the chapter's example, and of the ring's methods at a nil ring. Each statement bears its own conditions.
-/
import Derived.Test.YtpejmkdmjlfgpaaRing
namespace Go.Proofs.Ytpejmkdmjlfgpaa
open Go.RowKit
set_option linter.unusedSimpArgs false
set_option linter.unusedVariables false
theorem reads_new (w : World) (vs : List Value) (e : TypeId) : Reads (w.alloc (.cells vs.toArray e)) (w.heap.size + 1) 1 (some ⟨w.heap.size, 0, none⟩) vs.length vs :=
  ⟨by simp, fun _ => ⟨_, rfl, by simp, fun j u hu => by
    rw [Addr.add_lit, Nat.zero_add, World.cell?_alloc_new]; simpa using hu⟩⟩
theorem reads_newU (w : World) (l : List Int) : Reads (w.alloc (.cells (U l).toArray 52)) (w.alloc (.cells (U l).toArray 52)).heap.size 1 (some ⟨w.heap.size, 0, none⟩) l.length (U l) := by
  have := reads_new w (U l) 52
  have e : (w.alloc (.cells (U l).toArray 52)).heap.size = w.heap.size + 1 := by simp
  rw [e]
  simpa using this
theorem told_any (w : World) : Calls Try.prog 10 #[] w fun e w' => e = .returned (.bool true) ∧ Below w.heap.size w w' := by
  have NEW := new_ok 1 2 w ⟨by omega, by omega⟩ ⟨by omega, by omega⟩
  have HN := Lib.hid NEW
  clear NEW
  go_enter Try.func10, Try.ntmps10
  go_wp2_with fail
  refine HN.out.mono ?_
  rintro e w1 ⟨rfl, R1, b1⟩
  have B1 := Lib.hid b1
  have R1 := R1.below ((Below.refl _ w1).alloc (Nat.le_refl _) (.cells (U [1, 2, 3]).toArray 52))
  have P1 := Lib.hid (put_range _ _ _ _ _ _ _ R1 (some ⟨w1.heap.size, 0, none⟩) 3 3 (by omega))
  have HR := Lib.hid R1
  clear R1 b1 HN
  go_wp2_with fail
  refine P1.out.mono ?_
  rintro e w2 ⟨rfl, b2⟩
  have R2 := (HR.out.below b2).below ((Below.refl _ w2).alloc (Nat.le_refl _) (.cells (U [4, 5]).toArray 52))
  have B2 := Lib.hid ((B1.out.alloc B1.out.size (.cells (U [1, 2, 3]).toArray 52)).trans (b2.mono (by have := B1.out.size; simp; omega)))
  have P2 := Lib.hid (put_ok _ _ _ _ _ _ _ R2 (some ⟨w2.heap.size, 0, none⟩) 2 2 [4, 5] (fun h => by cases h) (reads_newU w2 [4, 5]) (by omega) (by simp))
  clear b2 HR R2 P1
  go_wp2_with fail
  refine P2.out.mono ?_
  rintro e w3 ⟨rfl, R3, p3⟩
  have R3 := R3.below ((Below.refl _ w3).alloc (Nat.le_refl _) (.cells (U [6]).toArray 52))
  have B3 := Lib.hid ((B2.out.alloc B2.out.size (.cells (U [4, 5]).toArray 52)).trans (p3.below (Nat.le_refl _) (by have := B2.out.size; simp; omega)))
  have P3 := Lib.hid (put_full _ _ _ _ _ _ _ R3 (some ⟨w3.heap.size, 0, none⟩) 1 1 (by omega) (by simp))
  have HR := Lib.hid R3
  clear R3 p3 P2
  go_wp2_with fail
  refine P3.out.mono ?_
  rintro e w4 ⟨rfl, b4⟩
  have R4 := HR.out.below b4
  have B4 := Lib.hid ((B3.out.alloc B3.out.size (.cells (U [6]).toArray 52)).trans (b4.mono (by have := B3.out.size; simp; omega)))
  have T4 := Lib.hid (take_some _ _ _ _ _ _ 0 _ _ R4 (by decide))
  clear R4 b4 P3 HR
  go_wp2_with fail
  refine T4.out.mono ?_
  rintro e w5 ⟨A5, c5, rfl, S5, R5, p5⟩
  have B5 := Lib.hid (B4.out.trans (p5.below (Nat.le_refl _) B4.out.size))
  have T5 := Lib.hid (take_none _ _ _ _ _ _ R5)
  have HS := Lib.hid S5
  clear S5 R5 p5 T4
  go_wp2_with fail
  refine T5.out.mono ?_
  rintro e w6 ⟨rfl, b6⟩
  have S6 := (HS.out.keep b6.size fun k hk _ => b6.block k hk).keep (w' := w6.alloc (.cells (U [4, 5]).toArray 52)) (by simp) fun k hk _ => ((Below.refl _ w6).alloc (Nat.le_refl _) _).block k hk
  obtain ⟨A, c, hv, _, hr, _⟩ := S6.ex
  have B6 := Lib.hid ((B5.out.trans (b6.mono B5.out.size)).alloc (Nat.le_trans B5.out.size b6.size) (.cells (U [4, 5]).toArray 52))
  injection hv with hA _ hc
  subst hA
  subst hc
  have SM := Lib.hid (same_true A5 (some ⟨w6.heap.size, 0, none⟩) 2 2 c5 2 [4, 5] _ _ _ hr (reads_newU w6 [4, 5]) (by omega) (by omega))
  clear S6 hr b6 T5 HS
  go_wp2_with fail
  refine SM.out.mono ?_
  rintro e w7 ⟨rfl, b7⟩
  go_wp2_with fail
  go_ret
  exact ⟨rfl, B6.out.trans (b7.mono B6.out.size)⟩
end Go.Proofs.Ytpejmkdmjlfgpaa
