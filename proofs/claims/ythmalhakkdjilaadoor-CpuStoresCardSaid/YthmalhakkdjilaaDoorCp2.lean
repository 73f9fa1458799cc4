/-
  What the operations push and pop do. Each statement bears its own conditions.
-/
import Derived.Test.YthmalhakkdjilaaDoorCp1
import Derived.Test.YthmalhakkdjilaaDoorCpN
namespace Go.Proofs.YthmalhakkdjilaaDoor
open Go.RowKit
set_option linter.unusedVariables false
set_option linter.unusedSimpArgs false
theorem cell_set_far {w : World} {g h o i : Nat} (hn : h ≠ g) (v : Value) : (w.setCell ⟨g, i, none⟩ v).cell? ⟨h, o, none⟩ = w.cell? ⟨h, o, none⟩ := World.cell?_of_block (set_far _ _ hn)
theorem put_any (g gm : Nat) (r : List Int) (mv : Value) (μ : MS) (ng : Nat → Prop) (x : Int) (w : World) (hs : ST w g r mv (-1)) (hm : MM w gm mv μ ng) (hg : ng g) (hng : ∀ q, ng q → q < w.heap.size) (hr : RegOk r) (hx : U32 x) :
    Calls Tryd.prog 50 #[.pointer (some ⟨g, 0, none⟩), .int .u32 x] w fun e w' => EPost w w' g gm mv ng (putV r μ x) e := by
  by_cases hn : r.getD 17 0 ≤ r.getD 18 0 ∨ r.getD 19 0 < r.getD 17 0
  · exact put_no g gm r mv μ ng x w hs hm hr hn
  · exact put_ok g gm r mv μ ng x w hs hm hg hng hr hx hn
theorem take_any (g gm : Nat) (r : List Int) (mv : Value) (μ : MS) (ng : Nat → Prop) (w : World) (hs : ST w g r mv (-1)) (hm : MM w gm mv μ ng) (hg : ng g) (hng : ∀ q, ng q → q < w.heap.size) (hr : RegOk r) :
    Calls Tryd.prog 51 #[.pointer (some ⟨g, 0, none⟩)] w fun e w' => e = .returned (.tuple #[.int .u32 (takeV r μ).2.1, .int .i64 (takeV r μ).1]) ∧ ST w' g (takeV r μ).2.2 mv (-1) ∧ Past g w w' := by
  by_cases hn : r.getD 19 0 ≤ r.getD 17 0 ∨ r.getD 17 0 < r.getD 18 0
  · exact take_no g r mv μ w hs hr hn
  · exact take_ok g gm r mv μ ng w hs hm hg hng hr hn
theorem takeV_len (r : List Int) (μ : MS) : (takeV r μ).2.2.length = r.length := by unfold takeV; split <;> simp
theorem run_push (args : Array Value) (W : World) : (callFunc 42 args).run Tryd.prog W = .ok (.enter 42 args) W := by go_simp
theorem run_pop (args : Array Value) (W : World) : (callFunc 43 args).run Tryd.prog W = .ok (.enter 43 args) W := by go_simp
set_option maxRecDepth 100000 in
set_option maxHeartbeats 8000000 in
theorem push_any (g gm : Nat) (r : List Int) (mv : Value) (μ : MS) (ng : Nat → Prop) (o a b n : Int) (w : World) (hs : ST w g r mv (-1)) (hm : MM w gm mv μ ng) (hg : ng g) (hng : ∀ q, ng q → q < w.heap.size) (hr : RegOk r) (hi : InOk a b n) :
    Calls Tryd.prog 42 #[.pointer (some ⟨g, 0, none⟩), .agg #[.int .i64 o, .int .i64 a, .int .i64 b, .int .i64 n]] w fun e w' => EPost w w' g gm mv ng (putV r μ (r.getD a.toNat 0)) e := by
  obtain ⟨A, rfl⟩ : ∃ A : Nat, a = (A : Int) := ⟨a.toNat, by have := hi.a; omega⟩
  have hA : A < 16 := by have := hi.a; omega
  have hAI : (A : Int) < 16 := by omega
  have hA0 : (0 : Int) ≤ A := by omega
  simp only [Int.toNat_natCast]
  obtain ⟨W1, hW1⟩ : ∃ W1, w.alloc (.cells #[.int .i64 o, .int .i64 (A : Int), .int .i64 b, .int .i64 n] 66) = W1 := ⟨_, rfl⟩
  obtain ⟨g1, hg1⟩ : ∃ g1, w.heap.size = g1 := ⟨_, rfl⟩
  have b1 : Below w.heap.size w W1 := by rw [← hW1]; exact (Below.refl _ _).alloc (Nat.le_refl _) _
  have h1 : W1.heap[g1]? = some (.cells #[.int .i64 o, .int .i64 (A : Int), .int .i64 b, .int .i64 n] 66 (0, 0)) := by rw [← hW1, ← hg1]; exact heap_alloc_new _ _
  have hs1 : RB W1 g r [mv, .int .i64 (-1)] 70 := RB.below hs b1
  have hm1 := hm.below b1
  have hng1 : ∀ q, ng q → q < W1.heap.size := fun q hq => Nat.lt_of_lt_of_le (hng q hq) b1.size
  have hne : g1 ≠ g := by have := RB.lt hs; omega
  have hl := hr.len
  have i1 := (row_cell h1 1).1
  simp at i1
  have iA := hs1.cellk (o := A) (by omega) (kd_reg (by omega))
  have hx := hr.u32 (j := A) (by omega)
  obtain ⟨x, hxe⟩ : ∃ x, r.getD A 0 = x := ⟨_, rfl⟩
  rw [hxe] at iA hx ⊢
  have CP := Lib.hid (put_any g gm r mv μ ng x W1.drew (hs1.keep rfl) (hm1.keep ng (Nat.le_refl _) (fun _ _ _ => rfl) (fun _ _ h => h)) hg hng1 hr hx)
  have HB := Lib.hid b1
  clear hs hm hr hi b1 h1 hs1 hl hx hxe hng hng1 hm1 hne hg
  go_enter Tryd.func42, Tryd.ntmps42
  go_wp2_with fail
  go_still_tail 9, (by kernel_rfl)
  repeat still_step
  go_wp2_with fail
  refine CP.out.mono ?_
  intro e W3 hE
  obtain ⟨rfl, q1, q2, q3⟩ := hE
  have HE : Hid (EPost w W3 g gm mv ng (putV r μ x) (.returned (.int .i64 (putV r μ x).e))) := ⟨rfl, q1, q2, (P2.of_past (Past.of_below HB.out)).trans ⟨q3.os, q3.tape, q3.output, q3.size, q3.block⟩⟩
  clear q1 q2 q3 CP hW1 hg1 i1 iA HB
  go_wp2_with fail
  go_ret
  exact HE.out
set_option maxRecDepth 100000 in
set_option maxHeartbeats 8000000 in
theorem pop_any (g gm : Nat) (r : List Int) (mv : Value) (μ : MS) (ng : Nat → Prop) (o a b n : Int) (w : World) (hs : ST w g r mv (-1)) (hm : MM w gm mv μ ng) (hg : ng g) (hng : ∀ q, ng q → q < w.heap.size) (hr : RegOk r) (hi : InOk a b n) :
    Calls Tryd.prog 43 #[.pointer (some ⟨g, 0, none⟩), .agg #[.int .i64 o, .int .i64 a, .int .i64 b, .int .i64 n]] w fun e w' => e = .returned (.int .i64 (takeV r μ).1) ∧ ST w' g ((takeV r μ).2.2.set a.toNat (takeV r μ).2.1) mv (-1) ∧ Past g w w' := by
  obtain ⟨A, rfl⟩ : ∃ A : Nat, a = (A : Int) := ⟨a.toNat, by have := hi.a; omega⟩
  have hA : A < 16 := by have := hi.a; omega
  have hAI : (A : Int) < 16 := by omega
  have hA0 : (0 : Int) ≤ A := by omega
  simp only [Int.toNat_natCast]
  obtain ⟨W1, hW1⟩ : ∃ W1, w.alloc (.cells #[.int .i64 o, .int .i64 (A : Int), .int .i64 b, .int .i64 n] 66) = W1 := ⟨_, rfl⟩
  obtain ⟨g1, hg1⟩ : ∃ g1, w.heap.size = g1 := ⟨_, rfl⟩
  have b1 : Below w.heap.size w W1 := by rw [← hW1]; exact (Below.refl _ _).alloc (Nat.le_refl _) _
  have h1 : W1.heap[g1]? = some (.cells #[.int .i64 o, .int .i64 (A : Int), .int .i64 b, .int .i64 n] 66 (0, 0)) := by rw [← hW1, ← hg1]; exact heap_alloc_new _ _
  have hs1 : RB W1 g r [mv, .int .i64 (-1)] 70 := RB.below hs b1
  have hm1 := hm.below b1
  have hng1 : ∀ q, ng q → q < W1.heap.size := fun q hq => Nat.lt_of_lt_of_le (hng q hq) b1.size
  have hne : g1 ≠ g := by have := RB.lt hs; omega
  have hl := hr.len
  have i1 := (row_cell h1 1).1
  simp at i1
  have CP := Lib.hid (take_any g gm r mv μ ng W1.drew (hs1.keep rfl) (hm1.keep ng (Nat.le_refl _) (fun _ _ _ => rfl) (fun _ _ h => h)) hg hng1 hr)
  have HB := Lib.hid b1
  have HL : Hid ((takeV r μ).2.2.length = 45 ∧ A < 16) := ⟨by rw [takeV_len]; exact hl, hA⟩
  have HG1 : Hid (g1 ≠ g ∧ g1 < W1.heap.size) := ⟨hne, (Array.getElem?_eq_some_iff.1 h1).1⟩
  obtain ⟨te, hte⟩ : ∃ te, (takeV r μ).1 = te := ⟨_, rfl⟩
  obtain ⟨tx, htx⟩ : ∃ tx, (takeV r μ).2.1 = tx := ⟨_, rfl⟩
  obtain ⟨tr, htr⟩ : ∃ tr, (takeV r μ).2.2 = tr := ⟨_, rfl⟩
  rw [hte, htx, htr] at CP ⊢
  rw [htr] at HL
  clear hs hm hr hi b1 h1 hs1 hl hng hng1 hm1 hne hg hte htx htr
  go_enter Tryd.func43, Tryd.ntmps43
  go_wp2_with fail
  refine wp_region_held_drew (S := fun w' => Past g W1 w' ∧ w'.cell? ⟨g1, 1, none⟩ = some (.int .i64 (A : Int))) (by kernel_rfl) ?_ (fun hHeld => ?_)
  · exact ⟨(Past.refl g W1).drew, i1⟩
  refine takeD (i := 0) (d := some 6) (v := ?_) _ rfl rfl (by kernel_rfl) (by kernel_rfl) (by kernel_rfl) (fun _ _ _ h => h) (by rfl) ?_ (by assumption) ?_
  rotate_left
  · (intro w hSw; (try dsimp only at hSw); go_simp) <;> with_reducible rfl
  try simp only [Act.put, List.setIfInBounds_toArray, List.set_cons_zero, List.set_cons_succ]
  refine takeD (i := 1) (d := some 7) (v := ?_) _ rfl rfl (by kernel_rfl) (by kernel_rfl) (by kernel_rfl) (fun _ _ _ h => h) (by rfl) ?_ (by assumption) ?_
  rotate_left
  · (intro w hSw; (try dsimp only at hSw); go_simp) <;> with_reducible rfl
  try simp only [Act.put, List.setIfInBounds_toArray, List.set_cons_zero, List.set_cons_succ]
  refine takeD (i := 2) (d := some 8) (v := ?_) _ rfl rfl (by kernel_rfl) (by kernel_rfl) (by kernel_rfl) (fun _ _ _ h => h) (by rfl) ?_ (by assumption) ?_
  rotate_left
  · (intro w hSw; (try dsimp only at hSw); go_simp) <;> with_reducible rfl
  try simp only [Act.put, List.setIfInBounds_toArray, List.set_cons_zero, List.set_cons_succ]
  refine takeD (i := 3) (d := some 9) (v := ?_) _ rfl rfl (by kernel_rfl) (by kernel_rfl) (by kernel_rfl) (fun _ _ _ h => h) (by rfl) ?_ (by assumption) ?_
  rotate_left
  · (intro w hSw; (try dsimp only at hSw); go_simp) <;> with_reducible rfl
  try simp only [Act.put, List.setIfInBounds_toArray, List.set_cons_zero, List.set_cons_succ]
  refine takeD (i := 8) (d := some 13) (v := ?_) _ rfl rfl (by kernel_rfl) (by kernel_rfl) (by kernel_rfl) (fun _ _ _ h => h) (by rfl) ?_ (by assumption) ?_
  rotate_left
  · (intro w hSw; (try dsimp only at hSw); go_simp) <;> with_reducible rfl
  try simp only [Act.put, List.setIfInBounds_toArray, List.set_cons_zero, List.set_cons_succ]
  refine takeD (i := 9) (d := some 14) (v := ?_) _ rfl rfl (by kernel_rfl) (by kernel_rfl) (by kernel_rfl) (fun _ _ _ h => h) (by rfl) ?_ (by assumption) ?_
  rotate_left
  · (intro w hSw; (try dsimp only at hSw); go_simp) <;> with_reducible rfl
  try simp only [Act.put, List.setIfInBounds_toArray, List.set_cons_zero, List.set_cons_succ]
  refine takeD (i := 10) (d := some 15) (v := ?_) _ rfl rfl (by kernel_rfl) (by kernel_rfl) (by kernel_rfl) (fun _ _ _ h => h) (by rfl) ?_ (by assumption) ?_
  rotate_left
  · (intro w hSw; (try dsimp only at hSw); go_simp) <;> with_reducible rfl
  try simp only [Act.put, List.setIfInBounds_toArray, List.set_cons_zero, List.set_cons_succ]
  refine wpAnyH_ready (rs := [4]) (by kernel_rfl) (by simp) ?_
  refine AllReadyH.cons rfl (fun K hK => ?_) AllReadyH.nil
  (go_simp; refine CP.out.mono ?_; rintro e W3 ⟨rfl, q1, q2⟩; try go_wp2_with fail)
  have HQ := Lib.hid q1
  have c1 := (World.cell?_of_block (q2.block g1 (show g1 < W1.drew.heap.size from HG1.out.2) HG1.out.1)).trans hHeld.2
  have HP : Hid (Past g W1 W3) := ⟨q2.os, q2.tape, q2.output, q2.size, q2.block⟩
  refine hK.out _ _ ⟨HP.out, c1⟩ (fun hHeld => ?_)
  clear hK K q1 q2 CP c1
  try simp only [Act.put, List.setIfInBounds_toArray, List.set_cons_zero, List.set_cons_succ]
  refine takeD (i := 5) (d := some 5) (v := ?_) _ rfl rfl (by kernel_rfl) (by kernel_rfl) (by kernel_rfl) (fun _ _ _ h => h) (by rfl) ?_ (by assumption) ?_
  rotate_left
  · (intro w hSw; (try dsimp only at hSw); go_simp) <;> with_reducible rfl
  try simp only [Act.put, List.setIfInBounds_toArray, List.set_cons_zero, List.set_cons_succ]
  refine takeD (i := 6) (d := some 11) (v := ?_) _ rfl rfl (by kernel_rfl) (by kernel_rfl) (by kernel_rfl) (fun _ _ _ h => h) (by rfl) ?_ (by assumption) ?_
  rotate_left
  · (intro w hSw; (try dsimp only at hSw); go_simp) <;> with_reducible rfl
  try simp only [Act.put, List.setIfInBounds_toArray, List.set_cons_zero, List.set_cons_succ]
  refine takeD (i := 7) (d := some 12) (v := ?_) _ rfl rfl (by kernel_rfl) (by kernel_rfl) (by kernel_rfl) (fun _ _ _ h => h) (by rfl) ?_ (by assumption) ?_
  rotate_left
  · (intro w hSw; (try dsimp only at hSw); go_simp) <;> with_reducible rfl
  try simp only [Act.put, List.setIfInBounds_toArray, List.set_cons_zero, List.set_cons_succ]
  refine takeD (i := 11) (d := some 16) (v := ?_) _ rfl rfl (by kernel_rfl) (by kernel_rfl) (by kernel_rfl) (fun _ _ _ h => h) (by rfl) ?_ (by assumption) ?_
  rotate_left
  · (intro w hSw; (try dsimp only at hSw); go_simp) <;> with_reducible rfl
  try simp only [Act.put, List.setIfInBounds_toArray, List.set_cons_zero, List.set_cons_succ]
  have jA := RB.cellk (k := .u32) (o := A) HQ.out (by have := HL.out.1; omega) (kd_reg (by omega))
  have jF := RB.frozen HQ.out A
  refine wpAnyH_ready (rs := [12]) (by kernel_rfl) (by simp) ?_
  refine AllReadyH.cons rfl (fun K hK => ?_) AllReadyH.nil
  go_simp
  refine hK.out _ _ ⟨HP.out.setCell A _, (cell_set_far HG1.out.1 _).trans hHeld.2⟩ (fun hHeld => ?_)
  clear hK K jA jF
  try simp only [Act.put, List.setIfInBounds_toArray, List.set_cons_zero, List.set_cons_succ]
  refine takeD (i := 13) (d := some 4) (v := ?_) _ rfl rfl (by kernel_rfl) (by kernel_rfl) (by kernel_rfl) (fun _ _ _ h => h) (by rfl) ?_ (by assumption) ?_
  rotate_left
  · (intro w hSw; (try dsimp only at hSw); go_simp) <;> with_reducible rfl
  try simp only [Act.put, List.setIfInBounds_toArray, List.set_cons_zero, List.set_cons_succ]
  refine wpAnyH_done (by kernel_rfl) ?_ _
  have HS : Hid (ST (W3.setCell ⟨g, A, none⟩ (.int .u32 tx)) g (tr.set A tx) mv (-1)) := RB.set HQ.out (by have := HL.out.1; omega) (kd_reg (by omega)) tx
  have HPP : Hid (Past g w (W3.setCell ⟨g, A, none⟩ (.int .u32 tx))) := (Past.of_below HB.out).trans (HP.out.setCell A _)
  clear hHeld HQ HP hW1 hg1 i1
  generalize W3.setCell ⟨g, A, none⟩ (.int .u32 tx) = W4 at HS HPP ⊢
  go_wp2_with fail
  go_ret
  exact ⟨rfl, HS.out, HPP.out⟩
theorem effC_push : EffC 21 (effV 21) := by
  intro B mb v w g gm r mv μ ng a b n hv hs hm hg hng hr hd hi
  rcases hv.ex with ⟨_, rfl⟩ | ⟨h0, _⟩
  · refine ⟨_, _, rfl, run_push, ?_⟩
    rw [cat_none]
    exact push_any g gm r mv μ ng _ a b n w hs hm hg hng hr hi
  · exact absurd h0 (by decide)
theorem effC_pop : EffC 22 (effV 22) := by
  intro B mb v w g gm r mv μ ng a b n hv hs hm hg hng hr hd hi
  rcases hv.ex with ⟨_, rfl⟩ | ⟨h0, _⟩
  · refine ⟨_, _, rfl, run_pop, ?_⟩
    rw [cat_none]
    refine (pop_any g gm r mv μ ng _ a b n w hs hm hg hng hr hi).mono ?_
    rintro e w' ⟨rfl, q1, q2⟩
    exact ⟨rfl, q1, hm.past q2 hg, P2.of_past q2⟩
  · exact absurd h0 (by decide)
theorem depOk_of {r r' : List Int} (h : DepOk r) (he : r'.getD 44 0 = r.getD 44 0) : DepOk r' := by unfold DepOk at h ⊢; rw [he]; exact h
theorem fine_push : Fine 21 := by
  intro a b n r μ hu hr hd hi he
  have e1 : effV 21 a b n r μ = putV r μ (r.getD a.toNat 0) := rfl
  rw [e1] at he ⊢
  unfold putV at he ⊢
  split at he
  next => cases he
  next h =>
    rw [if_neg h]
    have u := hr.u32 (j := 17) (by omega)
    have u2 := hr.u32 (j := 18) (by omega)
    exact ⟨hr.set 17 _ (by rw [kd_reg (by omega)]; exact ⟨by omega, by omega⟩), depOk_reg hd (by omega)⟩
theorem ld_u32 {xs : List Int} {a : Int} (h : ∀ x ∈ xs, 0 ≤ x ∧ x < 4294967296) (ha : 0 ≤ a) : U32 (ldX xs a) := by
  unfold ldX
  split
  next hl =>
    rw [List.getD_eq_getElem?_getD, List.getElem?_eq_getElem (by omega)]
    exact h _ (List.getElem_mem _)
  next => exact ⟨by decide, by decide⟩
theorem fine_pop : Fine 22 := by
  intro a b n r μ hu hr hd hi he
  have e1 : effV 22 a b n r μ = ⟨(takeV r μ).1, (takeV r μ).2.2.set a.toNat (takeV r μ).2.1, -1, μ⟩ := rfl
  have hA : a.toNat < 16 := by have := hi.a; omega
  rw [e1] at he ⊢
  unfold takeV at he ⊢
  split at he
  next => cases he
  next h =>
    rw [if_neg h]
    have u := hr.u32 (j := 17) (by omega)
    have u2 := hr.u32 (j := 19) (by omega)
    dsimp only
    refine ⟨(hr.set 17 _ (by rw [kd_reg (by omega)]; exact ⟨by omega, by omega⟩)).set _ _ (by rw [kd_reg (by omega)]; exact ld_u32 hu u.1), depOk_reg (depOk_reg hd (by omega)) (by omega)⟩
end Go.Proofs.YthmalhakkdjilaaDoor
