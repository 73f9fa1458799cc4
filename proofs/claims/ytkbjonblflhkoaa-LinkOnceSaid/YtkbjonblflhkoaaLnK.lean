/-
  The example of the document. Each statement bears its own conditions.
-/
import Derived.Test.YtkbjonblflhkoaaLnZ
namespace Go.Proofs.Ytkbjonblflhkoaa.Ln
open Go.RowKit Go.Proofs.Ytkbjonblflhkoaa.F Go.Proofs.Ytkbjonblflhkoaa.U Go.Proofs.Ytkbjonblflhkoaa.Q
set_option linter.unusedVariables false
set_option linter.unusedSimpArgs false
theorem he_se : ∀ (x : Nat) (w : World), (binOp .eql 24 (.pointer (some ⟨x, 0, none⟩)) (.pointer none)).run Try.prog w = .ok (.bool false) w := fun _ _ => rfl
theorem he_re : ∀ (x : Nat) (w : World), (binOp .eql 51 (.pointer (some ⟨x, 0, none⟩)) (.pointer none)).run Try.prog w = .ok (.bool false) w := fun _ _ => rfl
/-- A sender and a receiver, apart. -/
structure SR (lo : Nat) (w0 w : World) (p : Nat → Prop) (s : SS) (LL : List (List Int)) (gr : Nat) (r : RcS) : Prop where
  sv : SV lo w p (fun _ => True) lo s LL
  rv : RV w gr r
  np : ¬ p gr
  gl : lo ≤ gr
  be : Below lo w0 w
section
variable {lo : Nat} {w0 w w' : World} {p q : Nat → Prop} {s s' : SS} {LL LL' : List (List Int)} {gr : Nat} {r r' : RcS}
theorem SR.below (h : SR lo w0 w p s LL gr r) (hb : Below w.heap.size w w') : SR lo w0 w' p s LL gr r := ⟨h.sv.below hb, h.rv.below hb, h.np, h.gl, h.be.trans (hb.mono h.sv.nil)⟩
theorem SR.op (h : SR lo w0 w p s LL gr r) (hs : SV lo w' q (fun _ => True) lo s' LL') (hn : Nx p q w w') : SR lo w0 w' q s' LL' gr r :=
  ⟨hs, h.rv.fo hn.fo h.np, fun hq => by rcases hn.sub _ hq with h1 | h1; exact h.np h1; have := h.rv.lt; omega, h.gl, h.be.trans (h.sv.nx hn)⟩
theorem SR.tk (h : SR lo w0 w p s LL gr r) (hr : RV w' gr r') (hf : Fo (fun b => b = gr) w w') : SR lo w0 w' p s LL gr r' :=
  ⟨h.sv.fot hf (fun b hb e => h.np (by rw [← e]; exact hb)) (fun b hb _ => by subst hb; exact ⟨_, _, _, h.rv.ce, fun e => ne_ur e.symm⟩), hr, h.np, h.gl, h.be.trans (hf.below (fun b hb => by rw [hb]; exact h.gl) h.sv.nil)⟩
/-- A frame in a box. -/
structure FB (w : World) (gr f : Nat) (p : Nat → Prop) (n : Int) (A : Option Addr) (m c : Nat) (K : List Int) : Prop where
  ce : w.heap[f]? = some (.cells #[.int .i64 n, .slice A m c] 44 (0, 0))
  ow : Ow 47 w (fun _ => True) (.slice A m c) m (CU K)
  np : ¬ p f
  ng : f ≠ gr
variable {f : Nat} {n : Int} {A : Option Addr} {m c : Nat} {K : List Int}
theorem FB.lt (h : FB w gr f p n A m c K) : f < w.heap.size := (Array.getElem?_eq_some_iff.1 h.ce).1
theorem FB.below (h : FB w gr f p n A m c K) (hb : Below w.heap.size w w') : FB w' gr f p n A m c K := ⟨(hb.block f h.lt).trans h.ce, h.ow.below hb, h.np, h.ng⟩
theorem FB.op (h : FB w gr f p n A m c K) (hs : SV lo w p (fun _ => True) lo s LL) (hn : Nx p q w w') : FB w' gr f q n A m c K :=
  ⟨(hn.fo.block f h.lt h.np).trans h.ce, ((h.ow.off hs.ty).fo hn.fo fun b hb => hb.2).imp fun _ _ _ => trivial, fun hq => by rcases hn.sub _ hq with h1 | h1; exact h.np h1; have := h.lt; omega, h.ng⟩
theorem FB.tk (h : FB w gr f p n A m c K) (hr : RV w gr r) (hf : Fo (fun b => b = gr) w w') : FB w' gr f p n A m c K :=
  ⟨(hf.block f h.lt h.ng).trans h.ce, ((h.ow.not hr.ce ne_ur).fo hf fun b hb => hb.2).imp fun _ _ _ => trivial, h.np, h.ng⟩
end
set_option maxRecDepth 100000 in
set_option maxHeartbeats 16000000 in
theorem told_any (w : World) : Calls Try.prog 11 #[] w fun e w' => e = .returned (.bool true) ∧ Below w.heap.size w w' := by
  have he1 := he_se
  have he2 := he_re
  obtain ⟨lo, hlo⟩ : ∃ lo, w.heap.size = lo := ⟨_, rfl⟩
  have NW := Lib.hid (new_any (fun _ => True) 3 2 2 w (by omega) (by omega) (by omega))
  rw [hlo] at NW ⊢
  have HLO : Hid (w.heap.size = lo) := hlo
  clear hlo
  go_enter Try.func11, Try.ntmps11
  go_wp2_with fail
  refine NW.out.mono ?_
  rintro e w1 ⟨rfl, q1, b1⟩
  have Q1 : Hid (SV lo w1 (fun b => b = lo) (fun _ => True) lo ⟨3, 2, 2, 0, false, 0⟩ []) := q1
  have B1 : Hid (Below lo w w1) := b1
  clear q1 b1 NW
  go_wp2_with fail
  refine (newr_any 2 w1 (by omega)).mono ?_
  rintro e w2 ⟨rfl, r2, b2⟩
  obtain ⟨gr, hgr⟩ : ∃ g, w1.heap.size = g := ⟨_, rfl⟩
  rw [hgr] at r2
  have HG : Hid (lo < gr) := by have := Q1.out.lt; unfold Hid; omega
  have C2 : Hid (SR lo w w2 (fun b => b = lo) ⟨3, 2, 2, 0, false, 0⟩ [] gr ⟨2, 255, 18446744073709551615, 0⟩) := ⟨Q1.out.below b2, r2, fun e => by have := HG.out; omega, Nat.le_of_lt HG.out, B1.out.trans (b2.mono Q1.out.nil)⟩
  clear r2 b2 Q1 B1
  have hx : Below w2.heap.size w2 (w2.alloc (.cells #[.int .u32 7] 47)) := (Below.refl _ _).alloc (Nat.le_refl _) _
  have L3 := Lib.hid (Sq.lit w2 #[.int .u32 7] 47 1 1 rfl)
  have Q3 := Lib.hid (C2.out.below hx)
  clear hx
  go_wp2_with fail
  refine (offer_ok lo _ (fun _ => True) lo ⟨3, 2, 2, 0, false, 0⟩ [] _ _ 1 1 [7] _ Q3.out.sv L3.out (by decide) (by decide) (fun _ _ => trivial)).mono ?_
  rintro e w4 ⟨q4, rfl, s4, n4⟩
  have C4 : Hid (SR lo w w4 q4 ⟨3, 2, 2, 0, false, 0⟩ [[7]] gr ⟨2, 255, 18446744073709551615, 0⟩) := Q3.out.op s4 n4
  clear s4 n4 L3 Q3 C2
  have hx : Below w4.heap.size w4 (w4.alloc (.cells #[.int .u32 8] 47)) := (Below.refl _ _).alloc (Nat.le_refl _) _
  have L5 := Lib.hid (Sq.lit w4 #[.int .u32 8] 47 1 1 rfl)
  have Q5 := Lib.hid (C4.out.below hx)
  clear hx
  go_wp2_with fail
  refine (offer_ok lo q4 (fun _ => True) lo ⟨3, 2, 2, 0, false, 0⟩ [[7]] _ _ 1 1 [8] _ Q5.out.sv L5.out (by decide) (by decide) (fun _ _ => trivial)).mono ?_
  rintro e w6 ⟨q6, rfl, s6, n6⟩
  have C6 : Hid (SR lo w w6 q6 ⟨3, 2, 2, 0, false, 0⟩ [[7], [8]] gr ⟨2, 255, 18446744073709551615, 0⟩) := Q5.out.op s6 n6
  clear s6 n6 L5 Q5 C4
  go_wp2_with fail
  refine (offer_full lo q6 (fun _ => True) lo ⟨3, 2, 2, 0, false, 0⟩ [[7], [8]] none 0 0 w6 C6.out.sv (by decide) (by decide)).mono ?_
  rintro e w7 ⟨rfl, b7⟩
  have C7 := Lib.hid (C6.out.below b7)
  clear b7 C6
  go_wp2_with fail
  refine (step_some lo q6 (fun _ => True) lo ⟨3, 2, 2, 0, false, 0⟩ [[7], [8]] [7] [[8]] 0 w7 C7.out.sv rfl (by rfl) (by omega)).mono ?_
  rintro e w8 ⟨A8, c8, q8, rfl, o8, s8, n8⟩
  have C8 : Hid (SR lo w w8 q8 ⟨3, 2, 2, 1, true, 0⟩ [[8]] gr ⟨2, 255, 18446744073709551615, 0⟩) := C7.out.op s8 n8
  have O8 : Hid (Ow 47 w8 (fun _ => True) (.slice A8 1 c8) 1 (CU [7])) := o8
  clear o8 s8 n8 C7
  have hx : Below w8.heap.size w8 (w8.alloc (.cells #[.int .i64 0, .slice A8 1 c8] 44)) := (Below.refl _ _).alloc (Nat.le_refl _) _
  have F9 : Hid (FB (w8.alloc (.cells #[.int .i64 0, .slice A8 1 c8] 44)) gr w8.heap.size q8 0 A8 1 c8 [7]) := ⟨heap_alloc_new _ _, O8.out.below hx, fun hq => by have := (C8.out.sv.low _ hq).2; omega, by have := C8.out.rv.lt; omega⟩
  have C9 := Lib.hid (C8.out.below hx)
  obtain ⟨w9, hw9⟩ : ∃ W, w8.alloc (.cells #[.int .i64 0, .slice A8 1 c8] 44) = W := ⟨_, rfl⟩
  obtain ⟨f1, hf1⟩ : ∃ b, w8.heap.size = b := ⟨_, rfl⟩
  rw [hw9] at C9 F9
  rw [hf1] at F9
  clear hx O8 C8
  go_wp2_with fail
  refine (step_no lo q8 (fun _ => True) lo ⟨3, 2, 2, 1, true, 0⟩ [[8]] 2 w9 C9.out.sv (.inr rfl)).mono ?_
  rintro e w10 ⟨rfl, b10⟩
  have C10 := Lib.hid (C9.out.below b10)
  have F10 := Lib.hid (F9.out.below b10)
  clear b10 C9 F9 hw9 hf1
  have hx : Below w10.heap.size w10 (w10.alloc (.cells #[.int .i64 0, .slice none 0 0] 44)) := (Below.refl _ _).alloc (Nat.le_refl _) _
  have C11 := Lib.hid (C10.out.below hx)
  have F11 := Lib.hid (F10.out.below hx)
  clear hx C10 F10
  go_wp2_with fail
  obtain ⟨w11, hw11⟩ : ∃ W, w10.alloc (.cells #[.int .i64 0, .slice none 0 0] 44) = W := ⟨_, rfl⟩
  rw [hw11] at C11 F11
  rw [hw11]
  refine (step_some lo q8 (fun _ => True) lo ⟨3, 2, 2, 1, true, 0⟩ [[8]] [8] [] 3 w11 C11.out.sv rfl (by rfl) (by omega)).mono ?_
  rintro e w12 ⟨A12, c12, q12, rfl, o12, s12, n12⟩
  have C12 : Hid (SR lo w w12 q12 ⟨3, 2, 2, 2, true, 3⟩ [] gr ⟨2, 255, 18446744073709551615, 0⟩) := C11.out.op s12 n12
  have F12 : Hid (FB w12 gr f1 q12 0 A8 1 c8 [7]) := F11.out.op C11.out.sv n12
  have O12 : Hid (Ow 47 w12 (fun _ => True) (.slice A12 1 c12) 1 (CU [8])) := o12
  clear o12 s12 n12 C11 F11 hw11
  have hx : Below w12.heap.size w12 (w12.alloc (.cells #[.int .i64 1, .slice A12 1 c12] 44)) := (Below.refl _ _).alloc (Nat.le_refl _) _
  have G13 : Hid (FB (w12.alloc (.cells #[.int .i64 1, .slice A12 1 c12] 44)) gr w12.heap.size q12 1 A12 1 c12 [8]) := ⟨heap_alloc_new _ _, O12.out.below hx, fun hq => by have := (C12.out.sv.low _ hq).2; omega, by have := C12.out.rv.lt; omega⟩
  have C13 := Lib.hid (C12.out.below hx)
  have F13 := Lib.hid (F12.out.below hx)
  obtain ⟨w13, hw13⟩ : ∃ W, w12.alloc (.cells #[.int .i64 1, .slice A12 1 c12] 44) = W := ⟨_, rfl⟩
  obtain ⟨f3, hf3⟩ : ∃ b, w12.heap.size = b := ⟨_, rfl⟩
  rw [hw13] at C13 F13 G13
  rw [hf3] at G13
  clear hx C12 F12 O12
  have y0 : w13.cell? ⟨f1, 0, none⟩ = some (.int .i64 0) := by rw [(row_cell F13.out.ce 0).1]; rfl
  have y1 : w13.cell? ⟨f1, 1, none⟩ = some (.slice A8 1 c8) := by rw [(row_cell F13.out.ce 1).1]; rfl
  go_wp2_with fail
  have TA := Lib.hid (take_any gr ⟨2, 255, 18446744073709551615, 0⟩ 0 0 (fun b => True ∧ b ≠ gr) A8 1 c8 [7] w13 C13.out.rv (F13.out.ow.not C13.out.rv.ce ne_ur).sq (fun h => h.2 rfl) (by decide))
  rw [show tkW ⟨2, 255, 18446744073709551615, 0⟩ 0 0 1 [7] = [7] from by decide, show tkE ⟨2, 255, 18446744073709551615, 0⟩ 0 0 1 = 0 from by decide] at TA
  refine TA.out.mono ?_
  rintro e w14 ⟨A14, c14, rfl, sq14, r14, f14⟩
  have C14 : Hid (SR lo w w14 q12 ⟨3, 2, 2, 2, true, 3⟩ [] gr ⟨2, 0, 18446744073709551615, 0⟩) := C13.out.tk r14 f14
  have F14 := Lib.hid (F13.out.tk C13.out.rv f14)
  have G14 := Lib.hid (G13.out.tk C13.out.rv f14)
  have M14 : Hid (Sq w14 (fun _ => True) (.slice A14 1 c14) 1 (CU [7]) ∧ w13.heap.size ≤ w14.heap.size) := ⟨sq14.imp fun _ _ _ => trivial, f14.size⟩
  have N14 : Hid (Sq w14 (fun b => w13.heap.size ≤ b) (.slice A14 1 c14) 1 (CU [7]) ∧ gr < w13.heap.size) := ⟨sq14, C13.out.rv.lt⟩
  clear TA sq14 r14 f14 C13 F13 G13 hw13 hf3 y0 y1
  have y0 : w14.cell? ⟨f1, 0, none⟩ = some (.int .i64 0) := by rw [(row_cell F14.out.ce 0).1]; rfl
  have y1 : w14.cell? ⟨f1, 1, none⟩ = some (.slice A8 1 c8) := by rw [(row_cell F14.out.ce 1).1]; rfl
  go_wp2_with fail
  have TB := Lib.hid (take_any gr ⟨2, 0, 18446744073709551615, 0⟩ 1 0 (fun b => True ∧ b ≠ gr) A8 1 c8 [7] w14 C14.out.rv (F14.out.ow.not C14.out.rv.ce ne_ur).sq (fun h => h.2 rfl) (by decide))
  rw [show tkW ⟨2, 0, 18446744073709551615, 0⟩ 1 0 1 [7] = [] from by decide, show tkE ⟨2, 0, 18446744073709551615, 0⟩ 1 0 1 = 7 from by decide] at TB
  refine TB.out.mono ?_
  rintro e w15 ⟨A15, c15, rfl, _, r15, f15⟩
  have C15 : Hid (SR lo w w15 q12 ⟨3, 2, 2, 2, true, 3⟩ [] gr ⟨2, 0, 18446744073709551615, 0⟩) := C14.out.tk r15 f15
  have F15 := Lib.hid (F14.out.tk C14.out.rv f15)
  have G15 := Lib.hid (G14.out.tk C14.out.rv f15)
  have M15 : Hid (Sq w15 (fun _ => True) (.slice A14 1 c14) 1 (CU [7])) := (N14.out.1.fo f15 fun b hb e => by have := N14.out.2; omega).imp fun _ _ _ => trivial
  clear TB r15 f15 C14 F14 G14 M14 N14 y0 y1
  have y0 : w15.cell? ⟨f1, 0, none⟩ = some (.int .i64 0) := by rw [(row_cell F15.out.ce 0).1]; rfl
  have y1 : w15.cell? ⟨f3, 0, none⟩ = some (.int .i64 1) := by rw [(row_cell G15.out.ce 0).1]; rfl
  have hx : Below w15.heap.size w15 (w15.alloc (.cells #[.int .u32 7] 47)) := (Below.refl _ _).alloc (Nat.le_refl _) _
  have L16 := Lib.hid (Sq.lit w15 #[.int .u32 7] 47 1 1 rfl)
  have Q16 := Lib.hid (C15.out.below hx)
  have M16 : Hid (Sq (w15.alloc (.cells #[.int .u32 7] 47)) (fun _ => True) (.slice A14 1 c14) 1 (CU [7])) := M15.out.belowP hx
  have B16 : Hid (Below lo w (w15.alloc (.cells #[.int .u32 7] 47))) := Q16.out.be
  clear hx
  go_wp2_with fail
  refine (rwords_any _ _ _ _ [7] [7] _ M16.out.st L16.out.st (by simp)).mono ?_
  rintro e w17 ⟨he17, b17⟩
  simp only [decide_true] at he17
  subst he17
  have B17 : Hid (Below lo w w17) := B16.out.trans (b17.mono (by have := B16.out.size; have := HLO.out; omega))
  have z0 := cell_later b17 (cell_al (.cells #[.int .u32 7] 47) y0)
  have z1 := cell_later b17 (cell_al (.cells #[.int .u32 7] 47) y1)
  clear b17 y0 y1
  go_wp2_with fail
  go_ret
  exact ⟨rfl, B17.out⟩
end Go.Proofs.Ytkbjonblflhkoaa.Ln
