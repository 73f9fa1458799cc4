/-
  Locks: the chapter's example. Each statement bears its own conditions.
-/
import Derived.Test.YtbnnpfhgpbaedaaLkH
import Derived.Test.YtbnnpfhgpbaedaaLkI
import Derived.Test.YtbnnpfhgpbaedaaLkE
import Derived.Test.YtbnnpfhgpbaedaaLkJ
namespace Go.Proofs.Ytbnnpfhgpbaedaa.K
open Go.RowKit Go.Maps
set_option linter.unusedVariables false
set_option linter.unusedSimpArgs false
theorem Lx.row {bw bm n : Nat} {rb rb' : Nat → Nat} {w w' : World} {v : Value} {r : Nat} {L : List Int} (h : Lx bw bm n rb rb' w w') (R : I.RowV w v r L) (c : v = .slice none 0 0 ∨ (r < w.heap.size ∧ r ≠ bw ∧ r ≠ bm ∧ ∀ i, i < n → r ≠ rb i)) :
    I.RowV w' v r L ∧ (v = .slice none 0 0 ∨ (r < w'.heap.size ∧ r ≠ bw ∧ r ≠ bm ∧ ∀ i, i < n → r ≠ rb' i)) := by
  refine ⟨R.keep (c.imp (fun h => h) fun c => h.block r c.1 c.2.1 c.2.2.1 c.2.2.2), c.imp (fun h => h) fun c => ⟨Nat.lt_of_lt_of_le c.1 h.size, c.2.1, c.2.2.1, fun i hi => ?_⟩⟩
  have := h.rb i hi
  have := c.2.2.2 i hi
  have := c.1
  omega
theorem Lx.other {lo g bc bw bm N : Nat} {rb : Nat → Nat} {cs : List Int} {ws : Nat → List (Int × Int)} {os : Int → Option Int} {w w' : World} {v : Value} {r : Nat} (h : LV lo w g bc bw bm N rb cs ws os) (c : v = .slice none 0 0 ∨ (w.heap.size ≤ r ∧ r < w'.heap.size)) : v = .slice none 0 0 ∨ (r < w'.heap.size ∧ r ≠ bw ∧ r ≠ bm ∧ ∀ i, i < cs.length → r ≠ rb i) :=
  c.imp (fun h => h) fun c => ⟨c.2, by have := h.lt.2.1; omega, by have := h.lt.2.2.1; omega, fun i hi => by have := h.lt.2.2.2 i hi; omega⟩
theorem putN_self (f : Nat → Nat) (i : Nat) : putN f 0 (f 0) i = f i := by
  unfold putN
  split
  · next h => rw [h]
  · rfl
set_option maxRecDepth 100000 in
set_option maxHeartbeats 4000000 in
theorem known_any (w : World) : Calls Try.prog 11 #[] w fun e w' => e = .returned (.bool true) ∧ Below w.heap.size w w' := by
  obtain ⟨cs, hcs⟩ : ∃ cs : List Int, cs = [5, 9] := ⟨_, rfl⟩
  have HCS := Lib.hid hcs
  have HLEN : Hid (cs.length = 2) := by unfold Hid; rw [hcs]; rfl
  have HC0 : Hid (cs.getD 0 0 = 5) := by unfold Hid; rw [hcs]; rfl
  obtain ⟨w0, hw0⟩ : ∃ w0, w.alloc (.cells #[.int .i64 5, .int .i64 9] 3) = w0 := ⟨_, rfl⟩
  have hb0 : Below w.heap.size w w0 := by rw [← hw0]; exact (Below.refl _ _).alloc (Nat.le_refl _) _
  have B0 := Lib.hid hb0
  have R0 : I.RowV w0 (.slice (some ⟨w.heap.size, 0, none⟩) 2 2) w.heap.size cs := by
    rw [hcs, ← hw0]
    exact I.RowV.mk' (L := [5, 9]) (heap_alloc_new _ _) (by simp) (by unfold maxLen; omega) rfl rfl
  have NE := Lib.hid (new_any _ _ cs w0 R0 (by rw [hcs]; decide) (by rw [hcs]; intro i hi; match i, hi with | 0, _ => decide | 1, _ => decide))
  clear R0 hb0 hcs
  go_enter Try.func11, Try.ntmps11
  go_wp2_with fail
  refine NE.out.mono ?_
  rintro e w1 ⟨g, bc, bw, bm, rfl, h1, b1⟩
  have H1 := Lib.hid h1
  have B1 := Lib.hid b1
  have hz : ∀ w : World, (binOp .eql 24 (.pointer (some ⟨g, 0, none⟩)) (.pointer none)).run Try.prog w = .ok (.bool false) w := fun _ => rfl
  clear h1 b1 NE hw0
  have hl1 : ∀ i, i < cs.length → ((fun _ => [] : Nat → List (Int × Int)) i).length ≤ 900 := fun i _ => by simp
  have T1 := Lib.hid (take_free w0.heap.size g bc bw bm 0 _ cs _ _ 1 3 0 w1 H1.out (by rw [HLEN.out]; omega) hl1 (by rw [HLEN.out]; omega) (by omega) (by omega) (fun i _ x hx => by cases hx) (by decide) (by unfold maxLen; omega) rfl (by rw [HC0.out]; omega))
  clear hl1
  go_wp2_with fail
  refine T1.out.mono ?_
  rintro e w2 ⟨rfl, h2, l2⟩
  have H2 := Lib.hid h2
  have L2 := Lib.hid l2
  have RA := raised_any w0.heap.size g bc bw bm _ _ cs _ _ 1 w2 H2.out (by rw [HLEN.out]; omega)
  rw [HLEN.out, show topP cs (heldP (put (fun _ => none) ((0 : Nat) : Int) (some 1)) 1 2) = 5 by rw [HCS.out]; decide +kernel] at RA
  have RA := Lib.hid RA
  clear h2 l2 T1
  go_wp2_with fail
  refine RA.out.mono ?_
  rintro e w3 ⟨rfl, b3⟩
  have H3 := Lib.hid (H2.out.below b3)
  have B3 := Lib.hid b3
  have T2 := Lib.hid (take_joins w0.heap.size g bc bw bm _ _ cs _ _ 2 4 0 w3 H3.out (by rw [HLEN.out]; omega) (fun i _ => by simp) (by rw [HLEN.out]; omega) (by omega) (by omega) (fun i _ x hx => by cases hx) 1 rfl (by omega) (by rw [HC0.out]; omega))
  clear b3 RA
  go_wp2_with fail
  refine T2.out.mono ?_
  rintro e w4 ⟨rfl, r4, h4, l4⟩
  have H4 := Lib.hid h4
  have L4 := Lib.hid l4
  have e4 : (putN (fun _ => []) 0 (joinP [] 2 4) : Nat → List (Int × Int)) = fun i => if i = 0 then [(2, 4)] else [] := by funext i; simp only [putN]; rfl
  have H4 : Hid (LV w0.heap.size w4 g bc bw bm 1 (putN (fun _ => bw) 0 r4) cs (fun i => if i = 0 then [(2, 4)] else []) (put (fun _ => none) ((0 : Nat) : Int) (some 1))) := by have := H4.out; unfold Hid; rw [← e4]; exact this
  have T3 := Lib.hid (take_joins w0.heap.size g bc bw bm _ _ cs _ _ 3 5 0 w4 H4.out (by rw [HLEN.out]; omega) (fun i _ => by split <;> simp) (by rw [HLEN.out]; omega) (by omega) (by omega) (by rw [HLEN.out]; decide +kernel) 1 rfl (by omega) (by rw [HC0.out]; omega))
  clear h4 l4 T2 e4
  go_wp2_with fail
  refine T3.out.mono ?_
  rintro e w5 ⟨rfl, r5, h5, l5⟩
  have L5 := Lib.hid l5
  have e5 : (putN (fun i => if i = 0 then [(2, 4)] else []) 0 (joinP [(2, 4)] 3 5) : Nat → List (Int × Int)) = fun i => if i = 0 then [(3, 5), (2, 4)] else [] := by
    funext i
    simp only [putN]
    by_cases hi : i = 0
    · rw [if_pos hi, if_pos hi]; decide +kernel
    · rw [if_neg hi, if_neg hi, if_neg hi]
  have H5 : Hid (LV w0.heap.size w5 g bc bw bm 1 (putN (putN (fun _ => bw) 0 r4) 0 r5) cs (fun i => if i = 0 then [(3, 5), (2, 4)] else []) (put (fun _ => none) ((0 : Nat) : Int) (some 1))) := by have := h5; unfold Hid; rw [← e5]; exact this
  have WT := Lib.hid (waiting_any w0.heap.size g bc bw bm _ _ cs _ _ 0 [(3, 5), (2, 4)] w5 H5.out (by rw [HLEN.out]; omega) rfl (by simp))
  clear h5 l5 T3 e5
  go_wp2_with fail
  refine WT.out.mono ?_
  rintro e w6 ⟨Aw, cw, rw6, rfl, q1, q2, b6⟩
  have H6 := Lib.hid (H5.out.below b6)
  have B6 := Lib.hid b6
  have Q6 : Hid (I.RowV w6 (.slice Aw 2 cw) rw6 [3, 2]) := q1
  have C6 := Lib.hid (Lx.other H5.out q2)
  have GI := Lib.hid (give_next w0.heap.size g bc bw bm 1 _ cs (fun i => if i = 0 then [(3, 5), (2, 4)] else []) _ 1 0 (3, 5) [(2, 4)] rfl (by decide) (by unfold maxLen; omega) w6 H6.out (by rw [HLEN.out]; omega) (fun i _ => by split <;> simp) (by rw [HLEN.out]; omega) (by rw [HLEN.out]; decide +kernel) rfl)
  clear b6 q1 q2 WT
  go_wp2_with fail
  refine GI.out.mono ?_
  rintro e w7 ⟨⟨Ag, cg, rg, rfl, g1, g2⟩, h7, l7⟩
  have L7 := Lib.hid l7
  have G7 := Lib.hid g1
  have C7 : Hid (Value.slice Ag 1 cg = .slice none 0 0 ∨ (w6.heap.size ≤ rg ∧ rg < w7.heap.size)) := g1.lt.imp (fun h => h) fun h => ⟨g2, h⟩
  have H7 := Lib.hid h7
  have Q7 := Lib.hid (Lx.row L7.out Q6.out C6.out)
  have C7b := Lib.hid (Lx.other H6.out C7.out)
  have e7 : (putN (fun i => if i = 0 then [(3, 5), (2, 4)] else []) 0 [(2, 4)] : Nat → List (Int × Int)) = fun i => if i = 0 then [(2, 4)] else [] := by
    funext i
    simp only [putN]
    by_cases hi : i = 0
    · rw [if_pos hi, if_pos hi]
    · rw [if_neg hi, if_neg hi, if_neg hi]
  have h7' := H7.out
  rw [e7] at h7'
  have H7 := Lib.hid h7'
  have T4 := Lib.hid (take_waits w0.heap.size g bc bw bm _ _ cs (fun i => if i = 0 then [(2, 4)] else []) _ 2 4 1 w7 H7.out (by rw [HLEN.out]; omega) (fun i _ => by split <;> simp) (by rw [HLEN.out]; omega) (by omega) (by omega) (by rw [HLEN.out]; decide +kernel))
  clear g1 g2 h7 l7 h7' e7 GI
  go_wp2_with fail
  refine T4.out.mono ?_
  rintro e w8 ⟨rfl, h8, l8⟩
  have H8 := Lib.hid h8
  have L8 := Lib.hid l8
  have Q8 := Lib.hid (Lx.row L8.out Q7.out.1 Q7.out.2)
  have C7c := Lib.hid (Lx.row L8.out G7.out (C7.out.imp (fun h => h) fun h => ⟨h.2, by have := H6.out.lt.2.1; omega, by have := H6.out.lt.2.2.1; omega, fun i hi => by rw [putN_self]; have := H6.out.lt.2.2.2 i hi; have := h.1; omega⟩))
  have T5 := Lib.hid (take_rights w0.heap.size g bc bw bm _ _ cs (fun i => if i = 0 then [(2, 4)] else []) _ 4 7 0 w8 H8.out (by rw [HLEN.out]; omega) (fun i _ => by split <;> simp) (by rw [HLEN.out]; omega) (by omega) (by omega) (by rw [HLEN.out]; decide +kernel) (by decide +kernel) (by rw [HC0.out]; omega))
  clear h8 l8 T4
  go_wp2_with fail
  refine T5.out.mono ?_
  rintro e w9 ⟨rfl, h9, l9⟩
  have H9 := Lib.hid h9
  have L9 := Lib.hid l9
  have Q9 := Lib.hid (Lx.row L9.out Q8.out.1 Q8.out.2)
  have G9 := Lib.hid (Lx.row L9.out C7c.out.1 C7c.out.2)
  have B9 : Hid (Below w.heap.size w w9) := by
    have a := L2.out.below H1.out
    have bb := L4.out.below H3.out
    have c := L5.out.below H4.out
    have d := L7.out.below H6.out
    have f := L8.out.below H7.out
    have gg := L9.out.below H8.out
    have s0 := B0.out.size
    have s1 := B1.out.size
    have x := (((((((B1.out.trans a).trans (B3.out.mono (by have := a.size; omega))).trans bb).trans c).trans (B6.out.mono (by have := a.size; have := bb.size; have := c.size; have := B3.out.size; omega))).trans d).trans f).trans gg
    exact B0.out.trans (x.mono s0)
  clear h9 l9 T5
  go_wp2_with fail
  obtain ⟨wa, hwa⟩ : ∃ W, w9.alloc (.cells #[.int .i64 3, .int .i64 2] 3) = W := ⟨_, rfl⟩
  have ha : Below w9.heap.size w9 wa := by rw [← hwa]; exact (Below.refl _ _).alloc (Nat.le_refl _) _
  have ra : I.RowV wa (.slice (some ⟨w9.heap.size, 0, none⟩) 2 2) w9.heap.size [3, 2] := by
    rw [← hwa]
    exact I.RowV.mk' (L := [3, 2]) (heap_alloc_new _ _) (by simp) (by unfold maxLen; omega) rfl rfl
  rw [hwa]
  have I1 := ints_any (.slice Aw 2 cw) (.slice (some ⟨w9.heap.size, 0, none⟩) 2 2) rw6 w9.heap.size [3, 2] [3, 2] wa (Q9.out.1.keep (Q9.out.1.lt.imp (fun h => h) fun h => ha.block _ h)) ra (by simp) (by simp)
  rw [decide_eq_true rfl] at I1
  have I1 := Lib.hid I1
  have HA := Lib.hid ha
  clear hwa ha ra
  refine I1.out.mono ?_
  rintro e wb ⟨rfl, bb⟩
  have HB : Hid (Below w9.heap.size w9 wb) := HA.out.trans (bb.mono HA.out.size)
  clear bb I1
  go_wp2_with fail
  obtain ⟨wc, hwc⟩ : ∃ W, wb.alloc (.cells #[.int .i64 3] 3) = W := ⟨_, rfl⟩
  have hc : Below wb.heap.size wb wc := by rw [← hwc]; exact (Below.refl _ _).alloc (Nat.le_refl _) _
  have rc : I.RowV wc (.slice (some ⟨wb.heap.size, 0, none⟩) 1 1) wb.heap.size [3] := by
    rw [← hwc]
    exact I.RowV.mk' (L := [3]) (heap_alloc_new _ _) (by simp) (by unfold maxLen; omega) rfl rfl
  rw [hwc]
  have hcc : Below w9.heap.size w9 wc := HB.out.trans (hc.mono HB.out.size)
  have I2 := ints_any (.slice Ag 1 cg) (.slice (some ⟨wb.heap.size, 0, none⟩) 1 1) rg wb.heap.size [3] [3] wc (G9.out.1.keep (G9.out.1.lt.imp (fun h => h) fun h => hcc.block _ h)) rc (by simp) (by simp)
  rw [decide_eq_true rfl] at I2
  have I2 := Lib.hid I2
  have HC := Lib.hid hcc
  clear hwc hc rc hcc
  refine I2.out.mono ?_
  rintro e wd ⟨rfl, bd⟩
  have HD : Hid (Below w.heap.size w wd) := by
    have h1 := HC.out.trans (bd.mono HC.out.size)
    exact B9.out.trans (h1.mono B9.out.size)
  clear bd I2
  go_wp2_with fail
  go_ret
  exact ⟨rfl, HD.out⟩
end Go.Proofs.Ytbnnpfhgpbaedaa.K
