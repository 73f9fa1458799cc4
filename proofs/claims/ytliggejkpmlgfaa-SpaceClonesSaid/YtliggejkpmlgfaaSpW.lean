/-
  The document's example. Each statement bears its own conditions.
-/
import Derived.Test.YtliggejkpmlgfaaSpV
namespace Go.Proofs.Ytliggejkpmlgfaa
open Go.RowKit
set_option linter.unusedVariables false
set_option linter.unusedSimpArgs false
theorem st_lit (g k n : Nat) (cs : List Value) (e : TypeId) (w : World) (h : cs.length = n * k) (hg : w.heap.size ≠ g) : St g (w.alloc (.cells cs.toArray e)) k (.slice (some ⟨w.heap.size, 0, none⟩) n n) n cs :=
  ⟨_, _, rfl, h, fun _ => ⟨_, _, rfl, by simp, hg, fun j u hu => by rw [Nat.zero_add, World.cell?_alloc_new]; simpa using hu⟩⟩
def l0 : List MA := [⟨0, 4, false, true, false⟩, ⟨8, 2, true, false, false⟩]
def L0 : List (List Int) := [[0, 0, 0, 0], [0, 0]]
def L1 : List (List Int) := [[5, 6, 0, 0], [0, 0]]
def L2 : List (List Int) := [[5, 6, 0, 0], [0, 7]]
theorem l0_ok : newErr l0 = 0 := by decide +kernel
theorem l0_sh : Sh l0 L0 := by
  have := LL0_sh l0_ok
  have h : LL0 l0 = L0 := by decide +kernel
  rw [← h]; exact this
set_option maxRecDepth 100000 in
set_option maxHeartbeats 8000000 in
theorem told_any (w : World) : Calls Try.prog 12 #[] w fun e w' => e = .returned (.bool true) ∧ Below w.heap.size w w' := by
  obtain ⟨WA, hWA⟩ : ∃ WA, w.alloc (.cells #[.int .i64 0, .int .i64 4, .bool false, .bool true, .bool false, .int .i64 8, .int .i64 2, .bool true, .bool false, .bool false] 57) = WA := ⟨_, rfl⟩
  have C1 : Hid (Calls Try.prog 10 #[.slice (some ⟨w.heap.size, 0, none⟩) 2 2] WA (NewPost l0 WA)) := by
    unfold Hid
    rw [← hWA]
    exact new_any (w.heap.size + 1) _ 2 2 l0 _ (st_lit (w.heap.size + 1) 5 2 (CA l0) 57 w rfl (by omega)) rfl (Nat.le_refl _) (fun x hx => by
      simp [l0] at hx
      rcases hx with rfl | rfl <;> exact ⟨by unfold I64; decide, by unfold I64; decide⟩) (by omega)
  have BA : Hid (Below w.heap.size w WA) := by rw [← hWA]; exact (Below.refl _ _).alloc (Nat.le_refl _) _
  go_enter Try.func12, Try.ntmps12
  go_wp2_with fail
  refine C1.out.mono ?_
  rintro e W1 ⟨_, hok, b1⟩
  obtain ⟨p, rb, rfl, hsp⟩ := hok l0_ok
  have hz : zeros l0 = L0.flatten := by decide +kernel
  rw [hz] at hsp
  have HSP := Lib.hid hsp
  have HB1 : Hid (Below w.heap.size w W1) := BA.out.trans (b1.mono BA.out.size)
  have HLO : Hid (w.heap.size ≤ rb) := by have := hsp.hr.1; have := BA.out.size; unfold Hid; omega
  have he : ∀ w : World, (binOp .eql 25 (.pointer (some ⟨p, 0, none⟩)) (.pointer none)).run Try.prog w = .ok (.bool false) w := fun _ => rfl
  clear hok hsp hz b1 C1 hWA
  go_wp2_with fail
  have BU : Below W1.heap.size W1 (W1.alloc (.cells #[.int .u32 5, .int .u32 6] 39)) := (Below.refl _ _).alloc (Nat.le_refl _) _
  refine (fill_any _ _ p rb l0 L0 [5, 6] _ 0 _ (HSP.out.below BU) l0_sh (st_lit rb 1 2 (CU [5, 6]) 39 W1 rfl (by have := HSP.out.hr.2; omega)) (fun x hx => by
    simp at hx
    rcases hx with rfl | rfl <;> (unfold U32; decide)) (by simp) (by unfold U32; decide)).mono ?_
  rintro e W2 ⟨he2, hsp2, hp2⟩
  have hf : flV 0 l0 [5, 6] L0 = (L1, 0) := by decide +kernel
  rw [hf] at he2 hsp2
  subst he2
  have HSP2 := Lib.hid hsp2
  have HSH2 : Hid (Sh l0 L1) := by
    have := fillGo_sh (ns := [5, 6]) (at_ := 0) (M := L1) l0_sh (fun x hx => by simp at hx; rcases hx with rfl | rfl <;> (unfold U32; decide)) (by decide +kernel)
    exact this
  have HB2 : Hid (Below w.heap.size w W2) := HB1.out.trans ((BU.mono HB1.out.size).trans (hp2.below HLO.out (by have := HB1.out.size; simp; omega)))
  clear hsp2 hp2 hf BU
  go_wp2_with fail
  refine (fetch_any _ _ p rb l0 L1 1 _ HSP2.out HSH2.out (by unfold U32; decide)).mono ?_
  rintro e W3 ⟨he3, b3⟩
  rw [show ftV 1 l0 L1 = (6, 0) by decide +kernel] at he3
  subst he3
  have HSP3 := Lib.hid (HSP2.out.below b3)
  have HB3 : Hid (Below w.heap.size w W3) := HB2.out.trans (b3.mono HB2.out.size)
  clear b3
  go_wp2_with fail
  refine (load_any _ _ p rb l0 L1 4 _ HSP3.out HSH2.out (by unfold U32; decide)).mono ?_
  rintro e W4 ⟨he4, b4⟩
  rw [show ldV 4 l0 L1 = (0, 2) by decide +kernel] at he4
  subst he4
  have HSP4 := Lib.hid (HSP3.out.below b4)
  have HB4 : Hid (Below w.heap.size w W4) := HB3.out.trans (b4.mono HB3.out.size)
  clear b4
  go_wp2_with fail
  refine (store_any _ _ p rb l0 L1 1 7 _ HSP4.out HSH2.out (by unfold U32; decide)).mono ?_
  rintro e W5 ⟨he5, hsp5, hp5⟩
  rw [show stV 1 7 l0 L1 = (L1, 11) by decide +kernel] at he5 hsp5
  subst he5
  have HSP5 := Lib.hid hsp5
  have HB5 : Hid (Below w.heap.size w W5) := HB4.out.trans (hp5.below HLO.out HB4.out.size)
  clear hsp5 hp5
  go_wp2_with fail
  refine (store_any _ _ p rb l0 L1 9 7 _ HSP5.out HSH2.out (by unfold U32; decide)).mono ?_
  rintro e W6 ⟨he6, hsp6, hp6⟩
  rw [show stV 9 7 l0 L1 = (L2, 0) by decide +kernel] at he6 hsp6
  subst he6
  have HSP6 := Lib.hid hsp6
  have HB6 : Hid (Below w.heap.size w W6) := HB5.out.trans (hp6.below HLO.out HB5.out.size)
  clear hsp6 hp6
  go_wp2_with fail
  refine (words_any _ _ p rb l0 L2.flatten _ HSP6.out (by decide +kernel)).mono ?_
  rintro e W7 ⟨⟨k, c, rfl, _⟩, b7⟩
  have HB7 : Hid (Below w.heap.size w W7) := HB6.out.trans (b7.mono HB6.out.size)
  have hl : L2.flatten.length = 6 := by decide +kernel
  rw [hl]
  go_wp2_with fail
  go_ret
  exact ⟨rfl, HB7.out⟩
end Go.Proofs.Ytliggejkpmlgfaa
