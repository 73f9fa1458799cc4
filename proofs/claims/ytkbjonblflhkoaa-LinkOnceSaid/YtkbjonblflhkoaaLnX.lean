/-
  What a receiver does. Each statement bears its own conditions.
-/
import Derived.Test.YtkbjonblflhkoaaLnW
namespace Go.Proofs.Ytkbjonblflhkoaa.Ln
open Go.RowKit Go.Proofs.Ytkbjonblflhkoaa.F Go.Proofs.Ytkbjonblflhkoaa.U Go.Proofs.Ytkbjonblflhkoaa.Q
set_option linter.unusedVariables false
set_option linter.unusedSimpArgs false
theorem ne_ur : (47 : TypeId) ≠ 90 := by decide
structure RcS where
  words : Int
  newest : Int
  arr : Nat
  lost : Int
structure RcS.ok (r : RcS) : Prop where
  w : 1 ≤ r.words ∧ r.words ≤ 32
  n : 0 ≤ r.newest ∧ r.newest < 256
  a : r.arr < 18446744073709551616
  l : 0 ≤ r.lost
/-- A receiver lies in block g. -/
structure RV (w : World) (g : Nat) (r : RcS) : Prop where
  ce : w.heap[g]? = some (.cells #[.int .i64 r.words, .int .i64 r.newest, .int .u64 ((r.arr : Nat) : Int), .int .i64 r.lost] 90 (0, 0))
  ok : r.ok
theorem RV.lt {w : World} {g : Nat} {r : RcS} (h : RV w g r) : g < w.heap.size := (Array.getElem?_eq_some_iff.1 h.ce).1
theorem RV.below {w w' : World} {g : Nat} {r : RcS} (h : RV w g r) (hb : Below w.heap.size w w') : RV w' g r := ⟨(hb.block g h.lt).trans h.ce, h.ok⟩
theorem RV.fo {w w' : World} {g : Nat} {r : RcS} {p : Nat → Prop} (h : RV w g r) (hf : Fo p w w') (hp : ¬ p g) : RV w' g r := ⟨(hf.block g h.lt hp).trans h.ce, h.ok⟩
theorem newr_any (n : Int) (w : World) (hw : 1 ≤ n ∧ n ≤ 32) : Calls Try.prog 17 #[.int .i64 n] w fun e w' => e = .returned (.tuple #[.pointer (some ⟨w.heap.size, 0, none⟩), .int .i64 0]) ∧ RV w' w.heap.size ⟨n, 255, 18446744073709551615, 0⟩ ∧ Below w.heap.size w w' := by
  have C1 := Lib.hid (size_any n w)
  rw [(sizeB_iff n).2 hw] at C1
  have HO : Hid (RcS.ok ⟨n, 255, 18446744073709551615, 0⟩) := ⟨hw, by simp, by simp, by simp⟩
  clear hw
  go_enter Try.func17, Try.ntmps17
  go_wp2_with fail
  refine C1.out.mono ?_
  rintro e w1 ⟨rfl, hw1⟩
  rw [hw1]
  clear hw1
  go_wp2_with fail
  go_ret2
  exact ⟨rfl, ⟨heap_alloc_new w _, HO.out⟩, (Below.refl _ _).alloc (Nat.le_refl _) _⟩
theorem newr_bad (n : Int) (w : World) (h : ¬ (1 ≤ n ∧ n ≤ 32)) : Calls Try.prog 17 #[.int .i64 n] w fun e w' => e = .returned (.tuple #[.pointer none, .int .i64 1]) ∧ w' = w := by
  have C1 := Lib.hid (size_any n w)
  have h3 : sizeB n = false := by
    cases hq : sizeB n with
    | false => rfl
    | true => exact absurd ((sizeB_iff n).1 hq) h
  rw [h3] at C1
  clear h h3
  go_enter Try.func17, Try.ntmps17
  go_wp2_with fail
  refine C1.out.mono ?_
  rintro e w1 ⟨rfl, hw1⟩
  rw [hw1]
  clear hw1
  go_wp2_with fail
  go_ret2
  exact ⟨rfl, rfl⟩
theorem lost_any (g : Nat) (r : RcS) (w : World) (h : RV w g r) : Calls Try.prog 25 #[.pointer (some ⟨g, 0, none⟩)] w fun e w' => e = .returned (.int .i64 r.lost) ∧ w' = w := by
  have d3 : w.cell? ⟨g, 3, none⟩ = some (.int .i64 r.lost) := by rw [(row_cell h.ce 3).1]; rfl
  clear h
  go_enter Try.func25, Try.ntmps25
  go_wp2_with fail
  go_ret
  exact ⟨rfl, rfl⟩
theorem lost_nil (w : World) : Calls Try.prog 25 #[.pointer none] w fun e w' => e = .returned (.int .i64 0) ∧ w' = w := by
  go_enter Try.func25, Try.ntmps25
  go_wp2_with fail
  go_ret
  exact ⟨rfl, rfl⟩
theorem cloner_any (g : Nat) (r : RcS) (w : World) (h : RV w g r) : Calls Try.prog 26 #[.pointer (some ⟨g, 0, none⟩)] w fun e w' => e = .returned (.pointer (some ⟨w.heap.size, 0, none⟩)) ∧ RV w' w.heap.size r ∧ Below w.heap.size w w' := by
  have d0 : w.cell? ⟨g, 0, none⟩ = some (.int .i64 r.words) := by rw [(row_cell h.ce 0).1]; rfl
  have d1 : w.cell? ⟨g, 1, none⟩ = some (.int .i64 r.newest) := by rw [(row_cell h.ce 1).1]; rfl
  have d2 : w.cell? ⟨g, 2, none⟩ = some (.int .u64 ((r.arr : Nat) : Int)) := by rw [(row_cell h.ce 2).1]; rfl
  have d3 : w.cell? ⟨g, 3, none⟩ = some (.int .i64 r.lost) := by rw [(row_cell h.ce 3).1]; rfl
  have HO := Lib.hid h.ok
  clear h
  go_enter Try.func26, Try.ntmps26
  go_wp2_with fail
  go_ret
  exact ⟨rfl, ⟨heap_alloc_new w _, HO.out⟩, (Below.refl _ _).alloc (Nat.le_refl _) _⟩
theorem cloner_nil (w : World) : Calls Try.prog 26 #[.pointer none] w fun e w' => e = .returned (.pointer none) ∧ w' = w := by
  go_enter Try.func26, Try.ntmps26
  go_wp2_with fail
  go_ret
  exact ⟨rfl, rfl⟩
/-- Are two receivers the same? -/
def RcS.eqB (a b : RcS) : Bool := a.words == b.words && (a.newest == b.newest && (a.arr == b.arr && a.lost == b.lost))
theorem RcS.eqB_self (a : RcS) : a.eqB a = true := by unfold RcS.eqB; simp
set_option maxRecDepth 100000 in
set_option maxHeartbeats 4000000 in
theorem rcv_eql (a b : RcS) (w : World) : (binOp .eql 90 (.agg #[.int .i64 a.words, .int .i64 a.newest, .int .u64 ((a.arr : Nat) : Int), .int .i64 a.lost]) (.agg #[.int .i64 b.words, .int .i64 b.newest, .int .u64 ((b.arr : Nat) : Int), .int .i64 b.lost])).run Try.prog w = .ok (.bool (a.eqB b)) w := by
  have u3 := Try.underlying3
  have a3 := Try.isAgg3
  have z3 := Try.sizeOf3
  have u4 := Try.underlying38
  have a4 := Try.isAgg38
  have z4 := Try.sizeOf38
  have hS : Try.prog.underlying 90 = some (.struct (Try.prog.fieldsOf 90)) := by kernel_rfl
  have hp : Try.prog.stoodInHeld 90 = false := by kernel_rfl
  obtain ⟨a0, a1, a2, a3'⟩ := a
  obtain ⟨b0, b1, b2, b3⟩ := b
  simp only [binOp, Op.equal, Op.maxDepth]
  rw [show (10000 : Nat) = 9999 + 1 from rfl]
  simp only [Sem.run_bind]
  rw [run_equalIn_agg w 9999 90 _ _ hS hp]
  simp only [Program.fieldsOf, Try.underlying90]
  go_simp
  unfold RcS.eqB
  simp only
  by_cases h0 : a0 = b0
  rotate_left
  · simp [h0]
  by_cases h1 : a1 = b1
  rotate_left
  · simp [h0, h1]
  by_cases h2 : a2 = b2
  rotate_left
  · have hc : ¬ ((a2 : Int) = (b2 : Int)) := by omega
    rw [if_pos h0, if_pos h1, if_neg hc]
    simp [h0, h1, h2]
  by_cases h3 : a3' = b3
  rotate_left
  · simp [h0, h1, h2, h3]
  simp [h0, h1, h2, h3]
set_option maxRecDepth 100000 in
set_option maxHeartbeats 8000000 in
theorem samer_any (g g' : Nat) (r r' : RcS) (w : World) (h : RV w g r) (h' : RV w g' r') : Calls Try.prog 27 #[.pointer (some ⟨g, 0, none⟩), .pointer (some ⟨g', 0, none⟩)] w fun e w' => e = .returned (.bool (r.eqB r')) ∧ Below w.heap.size w w' := by
  have d0 : w.cell? ⟨g, 0, none⟩ = some (.int .i64 r.words) := by rw [(row_cell h.ce 0).1]; rfl
  have d1 : w.cell? ⟨g, 1, none⟩ = some (.int .i64 r.newest) := by rw [(row_cell h.ce 1).1]; rfl
  have d2 : w.cell? ⟨g, 2, none⟩ = some (.int .u64 ((r.arr : Nat) : Int)) := by rw [(row_cell h.ce 2).1]; rfl
  have d3 : w.cell? ⟨g, 3, none⟩ = some (.int .i64 r.lost) := by rw [(row_cell h.ce 3).1]; rfl
  have e0 : w.cell? ⟨g', 0, none⟩ = some (.int .i64 r'.words) := by rw [(row_cell h'.ce 0).1]; rfl
  have e1 : w.cell? ⟨g', 1, none⟩ = some (.int .i64 r'.newest) := by rw [(row_cell h'.ce 1).1]; rfl
  have e2 : w.cell? ⟨g', 2, none⟩ = some (.int .u64 ((r'.arr : Nat) : Int)) := by rw [(row_cell h'.ce 2).1]; rfl
  have e3 : w.cell? ⟨g', 3, none⟩ = some (.int .i64 r'.lost) := by rw [(row_cell h'.ce 3).1]; rfl
  have hq := fun w => rcv_eql r r' w
  obtain ⟨b, hb⟩ : ∃ b, r.eqB r' = b := ⟨_, rfl⟩
  rw [hb] at hq ⊢
  clear h h' hb
  go_enter Try.func27, Try.ntmps27
  go_wp2_with fail
  refine wp_region_held_drew (S := (fun w' => Below w.heap.size w w' ∧ w'.cell? ⟨g, 0, none⟩ = some (.int .i64 r.words) ∧ w'.cell? ⟨g, 1, none⟩ = some (.int .i64 r.newest) ∧ w'.cell? ⟨g, 2, none⟩ = some (.int .u64 ((r.arr : Nat) : Int)) ∧ w'.cell? ⟨g, 3, none⟩ = some (.int .i64 r.lost) ∧ w'.cell? ⟨g', 0, none⟩ = some (.int .i64 r'.words) ∧ w'.cell? ⟨g', 1, none⟩ = some (.int .i64 r'.newest) ∧ w'.cell? ⟨g', 2, none⟩ = some (.int .u64 ((r'.arr : Nat) : Int)) ∧ w'.cell? ⟨g', 3, none⟩ = some (.int .i64 r'.lost))) (by kernel_rfl) ?_ (fun hHeld => ?_)
  · exact ⟨(Below.refl _ _).drew, d0, d1, d2, d3, e0, e1, e2, e3⟩
  refine takeD (i := 0) (d := some 14) (v := ?_) _ rfl rfl (by kernel_rfl) (by kernel_rfl) (by kernel_rfl) (fun _ _ _ h => h) (by rfl) ?_ (by assumption) ?_
  rotate_left
  · (intro w hSw; (try dsimp only at hSw); go_simp) <;> with_reducible rfl
  try simp only [Act.put, List.setIfInBounds_toArray, List.set_cons_zero, List.set_cons_succ]
  refine takeD (i := 1) (d := some 15) (v := ?_) _ rfl rfl (by kernel_rfl) (by kernel_rfl) (by kernel_rfl) (fun _ _ _ h => h) (by rfl) ?_ (by assumption) ?_
  rotate_left
  · (intro w hSw; (try dsimp only at hSw); go_simp) <;> with_reducible rfl
  try simp only [Act.put, List.setIfInBounds_toArray, List.set_cons_zero, List.set_cons_succ]
  refine takeD (i := 2) (d := some 16) (v := ?_) _ rfl rfl (by kernel_rfl) (by kernel_rfl) (by kernel_rfl) (fun _ _ _ h => h) (by rfl) ?_ (by assumption) ?_
  rotate_left
  · (intro w hSw; (try dsimp only at hSw); go_simp) <;> with_reducible rfl
  try simp only [Act.put, List.setIfInBounds_toArray, List.set_cons_zero, List.set_cons_succ]
  refine takeD (i := 3) (d := some 17) (v := ?_) _ rfl rfl (by kernel_rfl) (by kernel_rfl) (by kernel_rfl) (fun _ _ _ h => h) (by rfl) ?_ (by assumption) ?_
  rotate_left
  · (intro w hSw; (try dsimp only at hSw); go_simp) <;> with_reducible rfl
  try simp only [Act.put, List.setIfInBounds_toArray, List.set_cons_zero, List.set_cons_succ]
  refine takeD (i := 4) (d := some 18) (v := ?_) _ rfl rfl (by kernel_rfl) (by kernel_rfl) (by kernel_rfl) (fun _ _ _ h => h) (by rfl) ?_ (by assumption) ?_
  rotate_left
  · (intro w hSw; (try dsimp only at hSw); go_simp) <;> with_reducible rfl
  try simp only [Act.put, List.setIfInBounds_toArray, List.set_cons_zero, List.set_cons_succ]
  refine takeD (i := 5) (d := some 19) (v := ?_) _ rfl rfl (by kernel_rfl) (by kernel_rfl) (by kernel_rfl) (fun _ _ _ h => h) (by rfl) ?_ (by assumption) ?_
  rotate_left
  · (intro w hSw; (try dsimp only at hSw); go_simp) <;> with_reducible rfl
  try simp only [Act.put, List.setIfInBounds_toArray, List.set_cons_zero, List.set_cons_succ]
  refine takeD (i := 6) (d := some 20) (v := ?_) _ rfl rfl (by kernel_rfl) (by kernel_rfl) (by kernel_rfl) (fun _ _ _ h => h) (by rfl) ?_ (by assumption) ?_
  rotate_left
  · (intro w hSw; (try dsimp only at hSw); go_simp) <;> with_reducible rfl
  try simp only [Act.put, List.setIfInBounds_toArray, List.set_cons_zero, List.set_cons_succ]
  refine takeD (i := 7) (d := some 4) (v := ?_) _ rfl rfl (by kernel_rfl) (by kernel_rfl) (by kernel_rfl) (fun _ _ _ h => h) (by rfl) ?_ (by assumption) ?_
  rotate_left
  · (intro w hSw; (try dsimp only at hSw); go_simp) <;> with_reducible rfl
  try simp only [Act.put, List.setIfInBounds_toArray, List.set_cons_zero, List.set_cons_succ]
  refine wpAnyH_done (by kernel_rfl) ?_ _
  have HB := Lib.hid hHeld.1
  clear hHeld
  go_wp2_with fail
  go_ret
  exact ⟨rfl, HB.out⟩
theorem samer_nil_r (g : Nat) (w : World) : Calls Try.prog 27 #[.pointer (some ⟨g, 0, none⟩), .pointer none] w fun e w' => e = .returned (.bool false) ∧ w' = w := by
  have he : ∀ w : World, (binOp .eql 51 (.pointer (some ⟨g, 0, none⟩)) (.pointer none)).run Try.prog w = .ok (.bool false) w := fun _ => rfl
  go_enter Try.func27, Try.ntmps27
  go_wp2_with fail
  go_ret
  exact ⟨rfl, rfl⟩
theorem samer_nil_l (g : Nat) (w : World) : Calls Try.prog 27 #[.pointer none, .pointer (some ⟨g, 0, none⟩)] w fun e w' => e = .returned (.bool false) ∧ w' = w := by
  have he : ∀ w : World, (binOp .eql 51 (.pointer none) (.pointer (some ⟨g, 0, none⟩))).run Try.prog w = .ok (.bool false) w := fun _ => rfl
  go_enter Try.func27, Try.ntmps27
  go_wp2_with fail
  go_ret
  exact ⟨rfl, rfl⟩
theorem samer_nil_nil (w : World) : Calls Try.prog 27 #[.pointer none, .pointer none] w fun e w' => e = .returned (.bool true) ∧ w' = w := by
  go_enter Try.func27, Try.ntmps27
  go_wp2_with fail
  go_ret
  exact ⟨rfl, rfl⟩
end Go.Proofs.Ytkbjonblflhkoaa.Ln
