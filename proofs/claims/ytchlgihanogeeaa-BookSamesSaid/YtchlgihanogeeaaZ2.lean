/-
  How many things there are in a module. Each statement bears its own conditions.
-/
import Derived.Test.YtchlgihanogeeaaZ1
import Derived.IntWalk
namespace Go.Proofs.Ytchlgihanogeeaa
open Go.RowKit
set_option linter.unusedVariables false
set_option linter.unusedSimpArgs false
/-- How many things a module has. -/
def szModule (x : MModule) : Nat := (x.qb.length + (x.qb.map szPartition).sum) + (x.qc.length + (x.qc.map szSchedule).sum) + (x.qe.length + (x.qe.map szChannel).sum) + x.qf.length + x.qg.length
theorem sum_le {α : Type} (f : α → Nat) (B : Nat) (xs : List α) (h : ∀ x ∈ xs, f x ≤ B) : (xs.map f).sum ≤ xs.length * B := by
  induction xs with
  | nil => simp
  | cons x xs ih =>
    have h1 := h x (by simp)
    have h2 := ih fun y hy => h y (by simp [hy])
    simp only [List.map_cons, List.sum_cons, List.length_cons, Nat.add_mul]
    omega
theorem row_sum {α : Type} {w : World} {k n : Nat} {R : α → List Value → Prop} {v : Value} {xs : List α} {f : α → Nat} (h : Row w k R v xs) (hf : ∀ x cs, R x cs → f x ≤ 9 * rowMax) (hn : xs.length ≤ n) : (xs.map f).sum ≤ n * (9 * rowMax) := by
  refine Nat.le_trans (sum_le f (9 * rowMax) xs fun x hx => ?_) (Nat.mul_le_mul_right _ hn)
  obtain ⟨i, hi, rfl⟩ := List.getElem_of_mem hx
  obtain ⟨a, cap, _, _, h1⟩ := h.ex
  obtain ⟨b, off, _, _, h2⟩ := h1 (by omega)
  obtain ⟨cs, h3, _⟩ := h2 i xs[i] (List.getElem?_eq_getElem hi)
  exact hf _ cs h3
set_option maxRecDepth 100000 in
set_option maxHeartbeats 8000000 in
theorem size_core (qa : ByteArray) (qb : List MPartition) (qc : List MSchedule) (qd : Int) (qe : List MChannel) (qf : List MLink) (qg : List MRule) (vqb vqc vqe vqf vqg : Value) (w : World) (hqb : Row w 13 (RPartition w) vqb qb) (hqc : Row w 3 (RSchedule w) vqc qc) (hqe : Row w 3 (RChannel w) vqe qe) (hqf : Row w 3 RLink vqf qf) (hqg : Row w 3 RRule vqg qg) (hl1 : qb.length ≤ 100) (hl2 : qc.length ≤ 100) (hl3 : qe.length ≤ 100) :
    Calls Try.prog 15 #[.agg #[.string qa, vqb, vqc, .int .i64 qd, vqe, vqf, vqg]] w fun e w' => e = .returned (.int .i64 (szModule ⟨qa, qb, qc, qd, qe, qf, qg⟩ : Nat)) ∧ Below w.heap.size w w' := by
  have s1 := row_sum hqb (f := szPartition) (fun x cs h => szPartition_le h) hl1
  have s2 := row_sum hqc (f := szSchedule) (fun x cs h => szSchedule_le h) hl2
  have s3 := row_sum hqe (f := szChannel) (fun x cs h => szChannel_le h) hl3
  have HL1 := Lib.hid hl1
  have HL2 := Lib.hid hl2
  have HL3 := Lib.hid hl3
  obtain ⟨aqb, cqb, rfl, hmqb⟩ := hqb.form
  obtain ⟨nqb, hnqb⟩ : ∃ n, qb.length = n := ⟨_, rfl⟩
  rw [hnqb] at hqb hmqb ⊢
  have HNqb := Lib.hid hnqb
  unfold rowMax at hmqb
  clear hnqb
  obtain ⟨aqc, cqc, rfl, hmqc⟩ := hqc.form
  obtain ⟨nqc, hnqc⟩ : ∃ n, qc.length = n := ⟨_, rfl⟩
  rw [hnqc] at hqc hmqc ⊢
  have HNqc := Lib.hid hnqc
  unfold rowMax at hmqc
  clear hnqc
  obtain ⟨aqe, cqe, rfl, hmqe⟩ := hqe.form
  obtain ⟨nqe, hnqe⟩ : ∃ n, qe.length = n := ⟨_, rfl⟩
  rw [hnqe] at hqe hmqe ⊢
  have HNqe := Lib.hid hnqe
  unfold rowMax at hmqe
  clear hnqe
  obtain ⟨aqf, cqf, rfl, hmqf⟩ := hqf.form
  obtain ⟨nqf, hnqf⟩ : ∃ n, qf.length = n := ⟨_, rfl⟩
  rw [hnqf] at hqf hmqf ⊢
  have HNqf := Lib.hid hnqf
  unfold rowMax at hmqf
  clear hnqf
  obtain ⟨aqg, cqg, rfl, hmqg⟩ := hqg.form
  obtain ⟨nqg, hnqg⟩ : ∃ n, qg.length = n := ⟨_, rfl⟩
  rw [hnqg] at hqg hmqg ⊢
  have HNqg := Lib.hid hnqg
  unfold rowMax at hmqg
  clear hnqg
  obtain ⟨t1, ht1⟩ : ∃ t, qb.length + (qb.map szPartition).sum = t := ⟨_, rfl⟩
  obtain ⟨t2, ht2⟩ : ∃ t, qc.length + (qc.map szSchedule).sum = t := ⟨_, rfl⟩
  obtain ⟨t3, ht3⟩ : ∃ t, qe.length + (qe.map szChannel).sum = t := ⟨_, rfl⟩
  have b1 : (t1 : Int) ≤ 9000000000000000 := by unfold rowMax at s1; omega
  have b2 : (t2 : Int) ≤ 9000000000000000 := by unfold rowMax at s2; omega
  have b3 : (t3 : Int) ≤ 9000000000000000 := by unfold rowMax at s3; omega
  have C1 : Hid (∀ W, Below w.heap.size w W → Calls Try.prog 53 #[.slice aqb nqb cqb, .func (.func 54) #[] #[]] W fun e w' => e = .returned (.int .i64 (t1 : Int)) ∧ Below W.heap.size W w') := fun W hB => by rw [← ht1]; exact totalPartition_any _ qb W (hqb.keep hB fun _ _ h => h.below hB) HL1.out
  have C2 : Hid (∀ W, Below w.heap.size w W → Calls Try.prog 55 #[.slice aqc nqc cqc, .func (.func 56) #[] #[]] W fun e w' => e = .returned (.int .i64 (t2 : Int)) ∧ Below W.heap.size W w') := fun W hB => by rw [← ht2]; exact totalSchedule_any _ qc W (hqc.keep hB fun _ _ h => h.below hB) HL2.out
  have C3 : Hid (∀ W, Below w.heap.size w W → Calls Try.prog 57 #[.slice aqe nqe cqe, .func (.func 58) #[] #[]] W fun e w' => e = .returned (.int .i64 (t3 : Int)) ∧ Below W.heap.size W w') := fun W hB => by rw [← ht3]; exact totalChannel_any _ qe W (hqe.keep hB fun _ _ h => h.below hB) HL3.out
  clear s1 s2 s3
  have HR : Hid (((szModule ⟨qa, qb, qc, qd, qe, qf, qg⟩ : Nat) : Int) = (t1 : Int) + (t2 : Int) + (t3 : Int) + (nqf : Int) + (nqg : Int)) := by
    unfold Hid szModule; dsimp only; rw [HNqf.out, HNqg.out, ht1, ht2, ht3]; omega
  clear ht1 ht2 ht3 hqb hqc hqe hqf hqg hl1 hl2 hl3
  go_enter Try.func15, Try.ntmps15
  go_wp2_with fail
  obtain ⟨W0, hW0⟩ : ∃ W0, w.alloc (.cells #[.string qa, .slice aqb nqb cqb, .slice aqc nqc cqc, .int .i64 qd, .slice aqe nqe cqe, .slice aqf nqf cqf, .slice aqg nqg cqg] 30) = W0 := ⟨_, rfl⟩
  have d0 : W0.cell? ⟨w.heap.size, 0, none⟩ = some (.string qa) := by rw [← hW0, World.cell?_alloc_new]; rfl
  have d1 : W0.cell? ⟨w.heap.size, 1, none⟩ = some (.slice aqb nqb cqb) := by rw [← hW0, World.cell?_alloc_new]; rfl
  have d2 : W0.cell? ⟨w.heap.size, 2, none⟩ = some (.slice aqc nqc cqc) := by rw [← hW0, World.cell?_alloc_new]; rfl
  have d3 : W0.cell? ⟨w.heap.size, 3, none⟩ = some (.int .i64 qd) := by rw [← hW0, World.cell?_alloc_new]; rfl
  have d4 : W0.cell? ⟨w.heap.size, 4, none⟩ = some (.slice aqe nqe cqe) := by rw [← hW0, World.cell?_alloc_new]; rfl
  have d5 : W0.cell? ⟨w.heap.size, 5, none⟩ = some (.slice aqf nqf cqf) := by rw [← hW0, World.cell?_alloc_new]; rfl
  have d6 : W0.cell? ⟨w.heap.size, 6, none⟩ = some (.slice aqg nqg cqg) := by rw [← hW0, World.cell?_alloc_new]; rfl
  have B0 : Hid (Below w.heap.size w W0) := by rw [← hW0]; exact (Below.refl _ _).alloc (Nat.le_refl _) _
  rw [hW0]
  clear hW0
  refine wp_region_held_drew (S := (fun w' => Below W0.heap.size W0 w' ∧ w'.cell? ⟨w.heap.size, 1, none⟩ = some (.slice aqb nqb cqb) ∧ w'.cell? ⟨w.heap.size, 2, none⟩ = some (.slice aqc nqc cqc) ∧ w'.cell? ⟨w.heap.size, 4, none⟩ = some (.slice aqe nqe cqe) ∧ w'.cell? ⟨w.heap.size, 5, none⟩ = some (.slice aqf nqf cqf) ∧ w'.cell? ⟨w.heap.size, 6, none⟩ = some (.slice aqg nqg cqg))) (by kernel_rfl) ?_ (fun hHeld => ?_)
  · exact ⟨(Below.refl _ _).drew, d1, d2, d4, d5, d6⟩
  clear d0 d1 d2 d3 d4 d5 d6
  refine takeD (i := 0) (d := some 3) (v := ?_) _ rfl rfl (by kernel_rfl) (by kernel_rfl) (by kernel_rfl) (fun _ _ _ h => h) (by rfl) ?_ (by assumption) ?_
  rotate_left
  · (intro w hSw; (try dsimp only at hSw); go_simp) <;> with_reducible rfl
  try simp only [Act.put, List.setIfInBounds_toArray, List.set_cons_zero, List.set_cons_succ]
  refine takeD (i := 1) (d := some 4) (v := ?_) _ rfl rfl (by kernel_rfl) (by kernel_rfl) (by kernel_rfl) (fun _ _ _ h => h) (by rfl) ?_ (by assumption) ?_
  rotate_left
  · (intro w hSw; (try dsimp only at hSw); go_simp) <;> with_reducible rfl
  try simp only [Act.put, List.setIfInBounds_toArray, List.set_cons_zero, List.set_cons_succ]
  refine takeD (i := 3) (d := some 6) (v := ?_) _ rfl rfl (by kernel_rfl) (by kernel_rfl) (by kernel_rfl) (fun _ _ _ h => h) (by rfl) ?_ (by assumption) ?_
  rotate_left
  · (intro w hSw; (try dsimp only at hSw); go_simp) <;> with_reducible rfl
  try simp only [Act.put, List.setIfInBounds_toArray, List.set_cons_zero, List.set_cons_succ]
  refine takeD (i := 4) (d := some 7) (v := ?_) _ rfl rfl (by kernel_rfl) (by kernel_rfl) (by kernel_rfl) (fun _ _ _ h => h) (by rfl) ?_ (by assumption) ?_
  rotate_left
  · (intro w hSw; (try dsimp only at hSw); go_simp) <;> with_reducible rfl
  try simp only [Act.put, List.setIfInBounds_toArray, List.set_cons_zero, List.set_cons_succ]
  refine takeD (i := 7) (d := some 10) (v := ?_) _ rfl rfl (by kernel_rfl) (by kernel_rfl) (by kernel_rfl) (fun _ _ _ h => h) (by rfl) ?_ (by assumption) ?_
  rotate_left
  · (intro w hSw; (try dsimp only at hSw); go_simp) <;> with_reducible rfl
  try simp only [Act.put, List.setIfInBounds_toArray, List.set_cons_zero, List.set_cons_succ]
  refine takeD (i := 8) (d := some 11) (v := ?_) _ rfl rfl (by kernel_rfl) (by kernel_rfl) (by kernel_rfl) (fun _ _ _ h => h) (by rfl) ?_ (by assumption) ?_
  rotate_left
  · (intro w hSw; (try dsimp only at hSw); go_simp) <;> with_reducible rfl
  try simp only [Act.put, List.setIfInBounds_toArray, List.set_cons_zero, List.set_cons_succ]
  refine takeD (i := 11) (d := some 14) (v := ?_) _ rfl rfl (by kernel_rfl) (by kernel_rfl) (by kernel_rfl) (fun _ _ _ h => h) (by rfl) ?_ (by assumption) ?_
  rotate_left
  · (intro w hSw; (try dsimp only at hSw); go_simp) <;> with_reducible rfl
  try simp only [Act.put, List.setIfInBounds_toArray, List.set_cons_zero, List.set_cons_succ]
  refine takeD (i := 12) (d := some 15) (v := ?_) _ rfl rfl (by kernel_rfl) (by kernel_rfl) (by kernel_rfl) (fun _ _ _ h => h) (by rfl) ?_ (by assumption) ?_
  rotate_left
  · (intro w hSw; (try dsimp only at hSw); go_simp) <;> with_reducible rfl
  try simp only [Act.put, List.setIfInBounds_toArray, List.set_cons_zero, List.set_cons_succ]
  refine takeD (i := 13) (d := some 16) (v := ?_) _ rfl rfl (by kernel_rfl) (by kernel_rfl) (by kernel_rfl) (fun _ _ _ h => h) (by rfl) ?_ (by assumption) ?_
  rotate_left
  · (intro w hSw; (try dsimp only at hSw); go_simp) <;> with_reducible rfl
  try simp only [Act.put, List.setIfInBounds_toArray, List.set_cons_zero, List.set_cons_succ]
  refine takeD (i := 15) (d := some 18) (v := ?_) _ rfl rfl (by kernel_rfl) (by kernel_rfl) (by kernel_rfl) (fun _ _ _ h => h) (by rfl) ?_ (by assumption) ?_
  rotate_left
  · (intro w hSw; (try dsimp only at hSw); go_simp) <;> with_reducible rfl
  try simp only [Act.put, List.setIfInBounds_toArray, List.set_cons_zero, List.set_cons_succ]
  refine takeD (i := 16) (d := some 19) (v := ?_) _ rfl rfl (by kernel_rfl) (by kernel_rfl) (by kernel_rfl) (fun _ _ _ h => h) (by rfl) ?_ (by assumption) ?_
  rotate_left
  · (intro w hSw; (try dsimp only at hSw); go_simp) <;> with_reducible rfl
  try simp only [Act.put, List.setIfInBounds_toArray, List.set_cons_zero, List.set_cons_succ]
  refine takeD (i := 17) (d := some 20) (v := ?_) _ rfl rfl (by kernel_rfl) (by kernel_rfl) (by kernel_rfl) (fun _ _ _ h => h) (by rfl) ?_ (by assumption) ?_
  rotate_left
  · (intro w hSw; (try dsimp only at hSw); go_simp) <;> with_reducible rfl
  try simp only [Act.put, List.setIfInBounds_toArray, List.set_cons_zero, List.set_cons_succ]
  have HP2 := hHeld
  clear hHeld
  refine wpAnyH_ready (rs := [2]) (by kernel_rfl) (by simp) ?_
  refine AllReadyH.cons rfl (fun K hK => ?_) AllReadyH.nil
  go_simp
  refine (C1.out _ (B0.out.trans (HP2.1.mono B0.out.size))).mono ?_
  rintro e W1 ⟨rfl, b⟩
  refine hK.out _ _ ?_ (fun hHeld => ?_)
  · exact ⟨HP2.1.trans (b.mono HP2.1.size), cell_later b HP2.2.1, cell_later b HP2.2.2.1, cell_later b HP2.2.2.2.1, cell_later b HP2.2.2.2.2.1, cell_later b HP2.2.2.2.2.2⟩
  clear hK K b HP2
  try simp only [Act.put, List.setIfInBounds_toArray, List.set_cons_zero, List.set_cons_succ]
  have HP5 := hHeld
  clear hHeld
  refine wpAnyH_ready (rs := [5]) (by kernel_rfl) (by simp) ?_
  refine AllReadyH.cons rfl (fun K hK => ?_) AllReadyH.nil
  go_simp
  refine (C2.out _ (B0.out.trans (HP5.1.mono B0.out.size))).mono ?_
  rintro e W2 ⟨rfl, b⟩
  refine hK.out _ _ ?_ (fun hHeld => ?_)
  · exact ⟨HP5.1.trans (b.mono HP5.1.size), cell_later b HP5.2.1, cell_later b HP5.2.2.1, cell_later b HP5.2.2.2.1, cell_later b HP5.2.2.2.2.1, cell_later b HP5.2.2.2.2.2⟩
  clear hK K b HP5
  try simp only [Act.put, List.setIfInBounds_toArray, List.set_cons_zero, List.set_cons_succ]
  refine takeD (i := 6) (d := some 9) (v := ?_) _ rfl rfl (by kernel_rfl) (by kernel_rfl) (by kernel_rfl) (fun _ _ _ h => h) (by rfl) ?_ (by assumption) ?_
  rotate_left
  · (intro w hSw; (try dsimp only at hSw); go_simp) <;> with_reducible rfl
  try simp only [Act.put, List.setIfInBounds_toArray, List.set_cons_zero, List.set_cons_succ]
  have HP9 := hHeld
  clear hHeld
  refine wpAnyH_ready (rs := [9]) (by kernel_rfl) (by simp) ?_
  refine AllReadyH.cons rfl (fun K hK => ?_) AllReadyH.nil
  go_simp
  refine (C3.out _ (B0.out.trans (HP9.1.mono B0.out.size))).mono ?_
  rintro e W3 ⟨rfl, b⟩
  refine hK.out _ _ ?_ (fun hHeld => ?_)
  · exact ⟨HP9.1.trans (b.mono HP9.1.size), cell_later b HP9.2.1, cell_later b HP9.2.2.1, cell_later b HP9.2.2.2.1, cell_later b HP9.2.2.2.2.1, cell_later b HP9.2.2.2.2.2⟩
  clear hK K b HP9
  try simp only [Act.put, List.setIfInBounds_toArray, List.set_cons_zero, List.set_cons_succ]
  refine takeD (i := 10) (d := some 13) (v := ?_) _ rfl rfl (by kernel_rfl) (by kernel_rfl) (by kernel_rfl) (fun _ _ _ h => h) (by rfl) ?_ (by assumption) ?_
  rotate_left
  · (intro w hSw; (try dsimp only at hSw); go_simp) <;> with_reducible rfl
  try simp only [Act.put, List.setIfInBounds_toArray, List.set_cons_zero, List.set_cons_succ]
  refine takeD (i := 14) (d := some 17) (v := ?_) _ rfl rfl (by kernel_rfl) (by kernel_rfl) (by kernel_rfl) (fun _ _ _ h => h) (by rfl) ?_ (by assumption) ?_
  rotate_left
  · (intro w hSw; (try dsimp only at hSw); go_simp) <;> with_reducible rfl
  try simp only [Act.put, List.setIfInBounds_toArray, List.set_cons_zero, List.set_cons_succ]
  refine takeD (i := 18) (d := some 21) (v := ?_) _ rfl rfl (by kernel_rfl) (by kernel_rfl) (by kernel_rfl) (fun _ _ _ h => h) (by rfl) ?_ (by assumption) ?_
  rotate_left
  · (intro w hSw; (try dsimp only at hSw); go_simp) <;> with_reducible rfl
  try simp only [Act.put, List.setIfInBounds_toArray, List.set_cons_zero, List.set_cons_succ]
  refine takeD (i := 19) (d := some 2) (v := ?_) _ rfl rfl (by kernel_rfl) (by kernel_rfl) (by kernel_rfl) (fun _ _ _ h => h) (by rfl) ?_ (by assumption) ?_
  rotate_left
  · (intro w hSw; (try dsimp only at hSw); go_simp) <;> with_reducible rfl
  try simp only [Act.put, List.setIfInBounds_toArray, List.set_cons_zero, List.set_cons_succ]
  refine wpAnyH_done (by kernel_rfl) ?_ _
  have hH := hHeld
  clear hHeld
  go_wp2_with fail
  go_ret
  refine ⟨?_, B0.out.trans (hH.1.mono B0.out.size)⟩
  show Ending.returned (.int .i64 (IntKind.i64.wrap (IntKind.i64.wrap (IntKind.i64.wrap (IntKind.i64.wrap ((t1 : Int) + (t2 : Int)) + (t3 : Int)) + (nqf : Int)) + (nqg : Int)))) = _
  rw [HR.out, IntWalk.i64_in ((t1 : Int) + (t2 : Int)) (by omega), IntWalk.i64_in ((t1 : Int) + (t2 : Int) + (t3 : Int)) (by omega), IntWalk.i64_in ((t1 : Int) + (t2 : Int) + (t3 : Int) + (nqf : Int)) (by omega), IntWalk.i64_in ((t1 : Int) + (t2 : Int) + (t3 : Int) + (nqf : Int) + (nqg : Int)) (by omega)]
end Go.Proofs.Ytchlgihanogeeaa
