/-
  Contracts of Step and Run over whatever memory. Each statement bears its own conditions.
-/
import Derived.Test.YthmalhakkdjilaaDoorCpJ
namespace Go.Proofs.YthmalhakkdjilaaDoor
open Go.RowKit
set_option linter.unusedVariables false
set_option linter.unusedSimpArgs false
/-- All stays but blocks of which S holds. -/
structure PS (S : Nat → Prop) (w w' : World) : Prop where
  os : w'.os = w.os
  tape : w'.tape = w.tape
  output : w'.output = w.output
  size : w.heap.size ≤ w'.heap.size
  block : ∀ k, k < w.heap.size → ¬ S k → w'.heap[k]? = w.heap[k]?
theorem PS.refl (S : Nat → Prop) (w : World) : PS S w w := ⟨rfl, rfl, rfl, Nat.le_refl _, fun _ _ _ => rfl⟩
theorem PS.of_below {S : Nat → Prop} {w w' : World} (p : Below w.heap.size w w') : PS S w w' := ⟨p.os, p.tape, p.output, p.size, fun k hk _ => p.block k hk⟩
theorem PS.trans {S : Nat → Prop} {a b c : World} (p : PS S a b) (q : PS S b c) : PS S a c :=
  ⟨q.os.trans p.os, q.tape.trans p.tape, q.output.trans p.output, Nat.le_trans p.size q.size, fun i hi h1 => (q.block i (Nat.lt_of_lt_of_le hi p.size) h1).trans (p.block i hi h1)⟩
theorem PS.new {S : Nat → Prop} {h : Nat} {a b c : World} (p : PS S a b) (q : Past h b c) (hh : a.heap.size ≤ h) : PS S a c :=
  ⟨q.os.trans p.os, q.tape.trans p.tape, q.output.trans p.output, Nat.le_trans p.size q.size, fun i hi hn => (q.block i (Nat.lt_of_lt_of_le hi p.size) (by omega)).trans (p.block i hi hn)⟩
/-- What a step gives: registers, ticks, the call, the error, the memory. -/
structure SR where
  r : List Int
  t : Int
  c : Int
  e : Int
  μ : MS
def SR.val (x : SR) : Value := .tuple #[.agg (cells x.r).toArray, .agg #[.int .i64 x.t, .int .i64 x.c, .int .i64 x.e]]
/-- A memory, whatever it is: how it lies, which blocks its writes reach. -/
structure Dom (Mem : World → MS → (Nat → Prop) → Prop) (S : Nat → Prop) : Prop where
  keep : ∀ {w w' : World} {μ : MS} {ng ng' : Nat → Prop}, Mem w μ ng → w.heap.size ≤ w'.heap.size → (∀ b, b < w.heap.size → ¬ ng b → w'.heap[b]? = w.heap[b]?) → (∀ b, b < w.heap.size → ¬ ng b → ¬ ng' b) → Mem w' μ ng'
/-- step does what F says, where OK holds. -/
def SC (Mem : World → MS → (Nat → Prop) → Prop) (S : Nat → Prop) (mv : Value) (OK : List Int → MS → Prop) (F : List Int → MS → SR) : Prop := ∀ (r : List Int) (μ : MS) (W : World) (em : Value) (ng : Nat → Prop) (B : Nat),
  RegOk r → OK r μ → Mem W μ ng → (∀ b, ng b → b < W.heap.size) → Laid W → Eff W B em → (∀ b, S b → b < B) →
  RegOk (F r μ).r ∧ Calls Tryd.prog 17 #[.agg (cells r).toArray, mv, em] W fun e w' => e = .returned (F r μ).val ∧ Mem w' (F r μ).μ ng ∧ PS S W w'
section
variable {Mem : World → MS → (Nat → Prop) → Prop} {S : Nat → Prop} {mv : Value} {OK : List Int → MS → Prop} {F : List Int → MS → SR}
set_option maxRecDepth 100000 in
set_option maxHeartbeats 16000000 in
theorem step_any (D : Dom Mem S) (H : SC Mem S mv OK F) (r : List Int) (μ : MS) (w : World) (ng : Nat → Prop) (hr : RegOk r) (hok : OK r μ) (hm : Mem w μ ng) (hng : ∀ b, ng b → b < w.heap.size) (hL : Laid w) (hS : ∀ b, S b → b < w.heap.size) (h0 : ¬ S 0) :
    Calls Tryd.prog 11 #[.agg (cells r).toArray, mv] w fun e w' => e = .returned (F r μ).val ∧ Mem w' (F r μ).μ ng ∧ PS S w w' := by
  obtain ⟨B, hB⟩ : ∃ B, w.heap.size = B := ⟨_, rfl⟩
  obtain ⟨W1, hW1⟩ : ∃ W1, w.alloc (.cells (cells r).toArray 28) = W1 := ⟨_, rfl⟩
  have h1 : RB W1 B r [] 28 := by rw [← hW1, ← hB]; exact RB.new _ _ _
  have b1 : Below B w W1 := by rw [← hW1, ← hB]; exact (Below.refl _ _).alloc (Nat.le_refl _) _
  obtain ⟨W2, hW2⟩ : ∃ W2, W1.alloc (.cells #[.int .u32 0, .int .u32 0, .int .u32 0, .int .u32 0, .int .u32 0, .int .u32 0, .int .u32 0, .int .u32 0, .int .u32 0, .int .u32 0, .int .u32 0, .int .u32 0, .int .u32 0, .int .u32 0, .int .u32 0, .int .u32 0, .int .u32 0, .int .u32 0, .int .u32 0, .int .u32 0, .int .u32 0, .int .u32 0, .int .i64 0, .int .u32 0, .int .u32 0, .int .i64 0, .int .u32 0, .int .u32 0, .int .i64 0, .int .u32 0, .int .u32 0, .int .i64 0, .int .u32 0, .int .u32 0, .int .i64 0, .int .u32 0, .int .u32 0, .int .i64 0, .int .u32 0, .int .u32 0, .int .i64 0, .int .u32 0, .int .u32 0, .int .i64 0, .int .i64 0] 28) = W2 := ⟨_, rfl⟩
  obtain ⟨g4, hg4⟩ : ∃ g4, W1.heap.size = g4 := ⟨_, rfl⟩
  have h42 : RB W2 g4 R0 [] 28 := by rw [← hW2, ← hg4]; exact RB.zero _ _
  have b2 : Below W1.heap.size W1 W2 := by rw [← hW2]; exact (Below.refl _ _).alloc (Nat.le_refl _) _
  have h12 := h1.below b2
  obtain ⟨W3, hW3⟩ : ∃ W3, W2.alloc (.cells #[.int .i64 0, .int .i64 0, .int .i64 0] 35) = W3 := ⟨_, rfl⟩
  obtain ⟨g5, hg5⟩ : ∃ g5, W2.heap.size = g5 := ⟨_, rfl⟩
  have h53 : W3.heap[g5]? = some (.cells #[.int .i64 0, .int .i64 0, .int .i64 0] 35 (0, 0)) := by rw [← hW3, ← hg5]; exact heap_alloc_new _ _
  have b3 : Below W2.heap.size W2 W3 := by rw [← hW3]; exact (Below.refl _ _).alloc (Nat.le_refl _) _
  have h13 := h12.below b3
  have h43 := h42.below b3
  have l1 : B < g4 := by have := h1.lt; omega
  have l2 : g4 < g5 := by have := h42.lt; omega
  have hbw : Below w.heap.size w W3 := by rw [hB]; exact (b1.trans (b2.mono (by omega))).trans (b3.mono (by omega))
  have l5 : g5 < W3.heap.size := (Array.getElem?_eq_some_iff.1 h53).1
  have hm3 : Mem W3 μ (fun b => ng b ∨ (w.heap.size ≤ b ∧ b < W3.heap.size)) := D.keep hm hbw.size (fun b hb _ => hbw.block b hb) (fun b hb h e => by
    rcases e with e | e
    · exact h e
    · omega)
  have HBW := Lib.hid hbw
  have H1 := Lib.hid h13
  have H4 := Lib.hid h43
  have H5 := Lib.hid h53
  have HLT := Lib.hid (And.intro l1 (And.intro l2 (And.intro l5 hB)))
  have HL := Lib.hid hr.len
  have HM := Lib.hid hm3
  have HX := Lib.hid H
  have HXX := Lib.hid (And.intro hr (And.intro hok (And.intro hng (And.intro hL hS))))
  have HD := Lib.hid D
  have C := Lib.hid fun (W : World) => effects_any B W
  clear h1 b1 h42 b2 h12 h53 b3 h13 h43 l1 l2 hbw l5 hm3 H hr hok hng hL hS D hm
  go_enter Tryd.func11, Tryd.ntmps11
  go_upto_region 1 with (fail)
  clear hW1 hW2 hW3 hg4 hg5
  refine wp_region_held_drew (S := fun w' => RB w' B r [] 28) (by kernel_rfl) ?_ (fun hHeld => ?_)
  · exact H1.out.keep rfl
  refine takeD (i := 0) (d := some 6) (v := .agg (cells r).toArray) _ rfl rfl (by kernel_rfl) (by kernel_rfl) (by kernel_rfl) (fun _ _ _ h => h) (by rfl) ?_ (by assumption) ?_
  · intro w hSw; exact exec_load_regs (.tmp 2) rfl rfl hSw HL.out
  try simp only [Act.put, List.setIfInBounds_toArray, List.set_cons_zero, List.set_cons_succ]
  refine takeD (i := 1) (d := some 7) (v := ?_) _ rfl rfl (by kernel_rfl) (by kernel_rfl) (by kernel_rfl) (fun _ _ _ h => h) (by rfl) ?_ (by assumption) ?_
  rotate_left
  · (intro w hSw; (try dsimp only at hSw); go_simp) <;> with_reducible rfl
  try simp only [Act.put, List.setIfInBounds_toArray, List.set_cons_zero, List.set_cons_succ]
  refine wpAnyH_ready (rs := [2]) (by kernel_rfl) (by simp) ?_
  refine AllReadyH.cons rfl (fun K hK => ?_) AllReadyH.nil
  go_simp
  go_at_call 16
  refine (C.out _ (by have := HLT.out; have := HBW.out.size; simp; omega)).mono ?_
  rintro e W5 ⟨⟨em, rfl, hem⟩, hbt⟩
  try go_wp2_with fail
  have hbt := ((Below.refl W3.heap.size W3).drew).trans hbt
  have u1 := H1.out.below hbt
  have U14 := Lib.hid (H4.out.below hbt)
  have U15 := Lib.hid (heap_keep hbt H5.out)
  have UM5 : Hid (Mem W5 μ (fun b => ng b ∨ (w.heap.size ≤ b ∧ b < W3.heap.size))) := HD.out.keep HM.out hbt.size (fun b hb _ => hbt.block b hb) (fun _ _ h => h)
  have UB5 : Hid (Below w.heap.size w W5) := HBW.out.trans (hbt.mono HBW.out.size)
  have UE := Lib.hid hem
  have US := Lib.hid hbt.size
  refine hK.out _ _ u1 (fun hHeld => ?_)
  clear hK K u1 hbt hem
  try simp only [Act.put, List.setIfInBounds_toArray, List.set_cons_zero, List.set_cons_succ]
  have hcs := HX.out r μ W5 em (fun b => ng b ∨ (w.heap.size ≤ b ∧ b < W3.heap.size)) B HXX.out.1 HXX.out.2.1 UM5.out (fun b h => by
    rcases h with h | h
    · have := HXX.out.2.2.1 b h; have := UB5.out.size; omega
    · have := US.out; omega) (HXX.out.2.2.2.1.below UB5.out) UE.out (fun b h => by have := HXX.out.2.2.2.2 b h; have := HLT.out; omega)
  have HLX := Lib.hid hcs.1.len
  have CS := Lib.hid hcs.2
  clear hcs
  obtain ⟨X, hX⟩ : ∃ X, F r μ = X := ⟨_, rfl⟩
  rw [hX] at HLX CS
  obtain ⟨xr, xt, xc, xe, xμ⟩ := X
  have HXV := Lib.hid hX
  clear hX
  unfold SR.val at CS
  dsimp only at CS HLX
  refine wpAnyH_ready (rs := [3]) (by kernel_rfl) (by simp) ?_
  refine AllReadyH.cons rfl (fun K hK => ?_) AllReadyH.nil
  go_simp
  go_at_call 17
  refine CS.out.mono ?_
  rintro e W6 ⟨rfl, hm6, hp6⟩
  try go_wp2_with fail
  have lt := HLT.out
  have hs5 := US.out
  have nS : ∀ b, w.heap.size ≤ b → ¬ S b := fun b hb h => by have := HXX.out.2.2.2.2 b h; omega
  have u1 := hHeld.keep (hp6.block B hHeld.lt (nS B (by omega)))
  have u4 := U14.out.keep (hp6.block g4 U14.out.lt (nS g4 (by omega)))
  have u5 := (hp6.block g5 (Array.getElem?_eq_some_iff.1 U15.out).1 (nS g5 (by omega))).trans U15.out
  have up : PS S w W6 := (PS.of_below UB5.out).trans hp6
  obtain ⟨W11, hW11⟩ : ∃ W11, W6.setCells g4 0 (cells xr) = W11 := ⟨_, rfl⟩
  have p11 : Past g4 W6 W11 := by rw [← hW11]; exact past_setCells _ _ _ _
  have v4 : RB W11 g4 xr [] 28 := by rw [← hW11]; exact u4.store _ (by rw [HLX.out]; exact r0_len.symm)
  have v5 := (p11.block g5 (Array.getElem?_eq_some_iff.1 u5).1 (by omega)).trans u5
  have v1 := u1.keep (p11.block B u1.lt (by omega))
  have U4 := Lib.hid v4
  have U5 := Lib.hid v5
  have UT4 := Lib.hid u4
  have UW := Lib.hid hW11
  have UM : Hid (Mem W11 xμ (fun b => ng b ∨ (w.heap.size ≤ b ∧ b < W3.heap.size))) := HD.out.keep hm6 p11.size (fun b hb hn => p11.block b hb (fun e => hn (Or.inr (by omega)))) (fun _ _ h => h)
  have UP : Hid (PS S w W11) := up.new p11 (by omega)
  have UH := Lib.hid v1
  refine hK.out _ _ u1 (fun hHeld => ?_)
  clear hK K lt hs5 nS u1 u4 u5 up hW11 p11 v4 v5 v1 hm6 hp6
  try simp only [Act.put, List.setIfInBounds_toArray, List.set_cons_zero, List.set_cons_succ]
  refine takeD (i := 4) (d := some 10) (v := ?_) _ rfl rfl (by kernel_rfl) (by kernel_rfl) (by kernel_rfl) (fun _ _ _ h => h) (by rfl) ?_ (by assumption) ?_
  rotate_left
  · (intro w hSw; (try dsimp only at hSw); go_simp) <;> with_reducible rfl
  try simp only [Act.put, List.setIfInBounds_toArray, List.set_cons_zero, List.set_cons_succ]
  refine takeD (i := 5) (d := some 11) (v := ?_) _ rfl rfl (by kernel_rfl) (by kernel_rfl) (by kernel_rfl) (fun _ _ _ h => h) (by rfl) ?_ (by assumption) ?_
  rotate_left
  · (intro w hSw; (try dsimp only at hSw); go_simp) <;> with_reducible rfl
  try simp only [Act.put, List.setIfInBounds_toArray, List.set_cons_zero, List.set_cons_succ]
  refine wpAnyH_ready (rs := [6]) (by kernel_rfl) (by simp) ?_
  refine AllReadyH.cons rfl (fun K hK => ?_) AllReadyH.nil
  refine wp_store_regs (g := g4) (r := xr) (r0 := R0) _ _ rfl rfl rfl UT4.out r0_len HLX.out ?_
  rw [UW.out]
  refine hK.out _ _ UH.out (fun hHeld => ?_)
  clear hK K
  try simp only [Act.put, List.setIfInBounds_toArray, List.set_cons_zero, List.set_cons_succ]
  have e0 := (row_cell U5.out 0).1
  have e1 := (row_cell U5.out 1).1
  have e2 := (row_cell U5.out 2).1
  have e3 := (row_cell U5.out 0).2
  have e4 := (row_cell U5.out 1).2
  have e5 := (row_cell U5.out 2).2
  simp at e0 e1 e2
  refine wpAnyH_ready (rs := [7]) (by kernel_rfl) (by simp) ?_
  refine AllReadyH.cons rfl (fun K hK => ?_) AllReadyH.nil
  have HQ := Lib.hid hHeld
  clear hHeld
  go_simp
  refine hK.out _ _ ?_ (fun hHeld => ?_)
  · have hp := set3_past (Past.refl g5 W11) (.int .i64 xt) (.int .i64 xc) (.int .i64 xe)
    exact RB.keep HQ.out (hp.block B HQ.out.lt (by have := HLT.out; omega))
  clear hK K e0 e1 e2 e3 e4 e5 HQ
  try simp only [Act.put, List.setIfInBounds_toArray, List.set_cons_zero, List.set_cons_succ]
  refine wpAnyH_done (by kernel_rfl) ?_ _
  have HH := Lib.hid hHeld
  clear hHeld
  go_wp2_with fail
  have hp3 := set3_past (Past.refl g5 W11) (.int .i64 xt) (.int .i64 xc) (.int .i64 xe)
  have h63 := RB.keep U4.out (hp3.block g4 U4.out.lt (by have := HLT.out; omega))
  refine bodyPost_ret (results_two_cells rfl _ _ g4 g5 (cells xr) [.int .i64 xt, .int .i64 xc, .int .i64 xe] _ _ rfl rfl h63.range (range_three (set3_heap U5.out _ _ _)) Tryd.underlying28 rfl (by rw [cells_len, HLX.out]; exact regs_info) Tryd.underlying35 rfl (by kernel_rfl)) rfl ⟨?_, ?_, ?_⟩
  · rw [HXV.out]; rfl
  · rw [HXV.out]
    exact HD.out.keep UM.out hp3.size (fun b hb hn => hp3.block b hb (fun e => hn (Or.inr (by have := HLT.out; omega)))) (fun b _ h e => h (Or.inl e))
  · exact UP.out.new hp3 (by have := HLT.out; omega)
end
end Go.Proofs.YthmalhakkdjilaaDoor
