/-
  What the operations load and store do. Each statement bears its own conditions.
-/
import Derived.Test.YthmalhakkdjilaaDoorCp2
namespace Go.Proofs.YthmalhakkdjilaaDoor
open Go.RowKit
set_option linter.unusedVariables false
set_option linter.unusedSimpArgs false
theorem run_load (args : Array Value) (W : World) : (callFunc 33 args).run Tryd.prog W = .ok (.enter 33 args) W := by go_simp
theorem run_store (args : Array Value) (W : World) : (callFunc 34 args).run Tryd.prog W = .ok (.enter 34 args) W := by go_simp
set_option maxRecDepth 100000 in
set_option maxHeartbeats 8000000 in
theorem storeop_any (g gm : Nat) (r : List Int) (mv : Value) (μ : MS) (ng : Nat → Prop) (o a b n : Int) (w : World) (hs : ST w g r mv (-1)) (hm : MM w gm mv μ ng) (hg : ng g) (hng : ∀ q, ng q → q < w.heap.size) (hr : RegOk r) (hi : InOk a b n) :
    Calls Tryd.prog 34 #[.pointer (some ⟨g, 0, none⟩), .agg #[.int .i64 o, .int .i64 a, .int .i64 b, .int .i64 n]] w fun e w' => EPost w w' g gm mv ng ⟨(stV μ (IntKind.u32.wrap (r.getD b.toNat 0 + IntKind.u32.wrap n)) (r.getD a.toNat 0)).2, r, -1, (stV μ (IntKind.u32.wrap (r.getD b.toNat 0 + IntKind.u32.wrap n)) (r.getD a.toNat 0)).1⟩ e := by
  obtain ⟨A, rfl⟩ : ∃ A : Nat, a = (A : Int) := ⟨a.toNat, by have := hi.a; omega⟩
  have hA : A < 16 := by have := hi.a; omega
  have hAI : (A : Int) < 16 := by omega
  have hA0 : (0 : Int) ≤ A := by omega
  obtain ⟨B, rfl⟩ : ∃ B : Nat, b = (B : Int) := ⟨b.toNat, by have := hi.b; omega⟩
  have hB : B < 16 := by have := hi.b; omega
  have hBI : (B : Int) < 16 := by omega
  have hB0 : (0 : Int) ≤ B := by omega
  simp only [Int.toNat_natCast]
  obtain ⟨v, rfl, _⟩ := hm.ex
  obtain ⟨W1, hW1⟩ : ∃ W1, w.alloc (.cells #[.int .i64 o, .int .i64 (A : Int), .int .i64 (B : Int), .int .i64 n] 66) = W1 := ⟨_, rfl⟩
  obtain ⟨g1, hg1⟩ : ∃ g1, w.heap.size = g1 := ⟨_, rfl⟩
  have b1 : Below w.heap.size w W1 := by rw [← hW1]; exact (Below.refl _ _).alloc (Nat.le_refl _) _
  have h1 : W1.heap[g1]? = some (.cells #[.int .i64 o, .int .i64 (A : Int), .int .i64 (B : Int), .int .i64 n] 66 (0, 0)) := by rw [← hW1, ← hg1]; exact heap_alloc_new _ _
  have hs1 : RB W1 g r [.iface 31 (.pointer (some ⟨gm, 0, none⟩)), .int .i64 (-1)] 70 := RB.below hs b1
  have hm1 := hm.below b1
  have hng1 : ∀ q, ng q → q < W1.heap.size := fun q hq => Nat.lt_of_lt_of_le (hng q hq) b1.size
  have hgw : g < W1.heap.size := RB.lt hs1
  have hne : g1 ≠ g := by have := RB.lt hs; omega
  have hl := hr.len
  have hn := hi.n
  have i1 := (row_cell h1 1).1
  have i2 := (row_cell h1 2).1
  have i3 := (row_cell h1 3).1
  simp at i1 i2 i3
  have j45 := RB.tail hs1 0
  rw [hl] at j45
  simp at j45
  have iB := hs1.cellk (o := B) (by omega) (kd_reg (by omega))
  obtain ⟨y, hye⟩ : ∃ y, r.getD B 0 = y := ⟨_, rfl⟩
  rw [hye] at iB ⊢
  obtain ⟨N, hN⟩ : ∃ N, IntKind.u32.wrap n = N := ⟨_, rfl⟩
  rw [hN]
  obtain ⟨ad, had⟩ : ∃ ad, IntKind.u32.wrap (y + N) = ad := ⟨_, rfl⟩
  have hadU : U32 ad := by rw [← had]; exact num_u32 _
  rw [had]
  have iA := hs1.cellk (o := A) (by omega) (kd_reg (by omega))
  have hx := hr.u32 (j := A) (by omega)
  obtain ⟨x, hxe⟩ : ∃ x, r.getD A 0 = x := ⟨_, rfl⟩
  rw [hxe] at iA hx ⊢
  have CP := Lib.hid (store_any gm _ μ ng ad x W1.drew (hm1.keep ng (Nat.le_refl _) (fun _ _ _ => rfl) (fun _ _ h => h)) hng1 hadU hx)
  have HF : Hid (RB W1 g r [.iface 31 (.pointer (some ⟨gm, 0, none⟩)), .int .i64 (-1)] 70 ∧ Below w.heap.size w W1 ∧ g ≠ gm) := ⟨hs1, b1, fun e => hm.ne (e ▸ hg)⟩
  have hms := fun (W : World) => meth_store gm W
  clear hs hm hr hi b1 h1 hs1 hl hx hxe hye hng hng1 hm1 hne hg hgw hn hadU
  go_enter Tryd.func34, Tryd.ntmps34
  go_wp2_with fail
  go_still_tail 26, (by kernel_rfl)
  repeat still_step
  go_wp2_with fail
  refine CP.out.mono ?_
  rintro e W3 ⟨rfl, m3, p3⟩
  have HE : Hid (EPost w W3 g gm (.iface 31 (.pointer (some ⟨gm, 0, none⟩))) ng ⟨(stV μ ad x).2, r, -1, (stV μ ad x).1⟩ (.returned (.int .i64 (stV μ ad x).2))) :=
    ⟨rfl, RB.keep HF.out.1 (p3.block g (RB.lt (w := W1) HF.out.1) HF.out.2.2), m3, (P2.of_past (Past.of_below HF.out.2.1)).trans ⟨p3.os, p3.tape, p3.output, p3.size, fun i hi _ h2 => p3.block i hi h2⟩⟩
  clear m3 p3 CP HF hms i1 i2 i3 j45 iB iA hN had hW1 hg1
  go_wp2_with fail
  go_ret
  exact HE.out
set_option maxRecDepth 100000 in
set_option maxHeartbeats 8000000 in
theorem loadop_any (g gm : Nat) (r : List Int) (mv : Value) (μ : MS) (ng : Nat → Prop) (o a b n : Int) (w : World) (hs : ST w g r mv (-1)) (hm : MM w gm mv μ ng) (hg : ng g) (hng : ∀ q, ng q → q < w.heap.size) (hr : RegOk r) (hi : InOk a b n) :
    Calls Tryd.prog 33 #[.pointer (some ⟨g, 0, none⟩), .agg #[.int .i64 o, .int .i64 a, .int .i64 b, .int .i64 n]] w fun e w' => e = .returned (.int .i64 (ldE μ.W (IntKind.u32.wrap (r.getD b.toNat 0 + IntKind.u32.wrap n)))) ∧ ST w' g (r.set a.toNat (ldX μ.W (IntKind.u32.wrap (r.getD b.toNat 0 + IntKind.u32.wrap n)))) mv (-1) ∧ Past g w w' := by
  obtain ⟨A, rfl⟩ : ∃ A : Nat, a = (A : Int) := ⟨a.toNat, by have := hi.a; omega⟩
  have hA : A < 16 := by have := hi.a; omega
  have hAI : (A : Int) < 16 := by omega
  have hA0 : (0 : Int) ≤ A := by omega
  obtain ⟨B, rfl⟩ : ∃ B : Nat, b = (B : Int) := ⟨b.toNat, by have := hi.b; omega⟩
  have hB : B < 16 := by have := hi.b; omega
  have hBI : (B : Int) < 16 := by omega
  have hB0 : (0 : Int) ≤ B := by omega
  simp only [Int.toNat_natCast]
  obtain ⟨v, rfl, _⟩ := hm.ex
  obtain ⟨W1, hW1⟩ : ∃ W1, w.alloc (.cells #[.int .i64 o, .int .i64 (A : Int), .int .i64 (B : Int), .int .i64 n] 66) = W1 := ⟨_, rfl⟩
  obtain ⟨g1, hg1⟩ : ∃ g1, w.heap.size = g1 := ⟨_, rfl⟩
  have b1 : Below w.heap.size w W1 := by rw [← hW1]; exact (Below.refl _ _).alloc (Nat.le_refl _) _
  have h1 : W1.heap[g1]? = some (.cells #[.int .i64 o, .int .i64 (A : Int), .int .i64 (B : Int), .int .i64 n] 66 (0, 0)) := by rw [← hW1, ← hg1]; exact heap_alloc_new _ _
  have hs1 : RB W1 g r [.iface 31 (.pointer (some ⟨gm, 0, none⟩)), .int .i64 (-1)] 70 := RB.below hs b1
  have hm1 := hm.below b1
  have hng1 : ∀ q, ng q → q < W1.heap.size := fun q hq => Nat.lt_of_lt_of_le (hng q hq) b1.size
  have hgw : g < W1.heap.size := RB.lt hs1
  have hne : g1 ≠ g := by have := RB.lt hs; omega
  have hl := hr.len
  have hn := hi.n
  have i1 := (row_cell h1 1).1
  have i2 := (row_cell h1 2).1
  have i3 := (row_cell h1 3).1
  simp at i1 i2 i3
  have j45 := RB.tail hs1 0
  rw [hl] at j45
  simp at j45
  have iB := hs1.cellk (o := B) (by omega) (kd_reg (by omega))
  obtain ⟨y, hye⟩ : ∃ y, r.getD B 0 = y := ⟨_, rfl⟩
  rw [hye] at iB ⊢
  obtain ⟨N, hN⟩ : ∃ N, IntKind.u32.wrap n = N := ⟨_, rfl⟩
  rw [hN]
  obtain ⟨ad, had⟩ : ∃ ad, IntKind.u32.wrap (y + N) = ad := ⟨_, rfl⟩
  have hadU : U32 ad := by rw [← had]; exact num_u32 _
  rw [had]
  have CP := Lib.hid (load_any gm _ μ ng ad W1.drew (hm1.keep ng (Nat.le_refl _) (fun _ _ _ => rfl) (fun _ _ h => h)) hadU)
  have HF : Hid (RB W1 g r [.iface 31 (.pointer (some ⟨gm, 0, none⟩)), .int .i64 (-1)] 70 ∧ Below w.heap.size w W1) := ⟨hs1, b1⟩
  have HL : Hid (r.length = 45 ∧ A < 16) := ⟨hl, hA⟩
  have HG1 : Hid (g1 ≠ g) := hne
  have hms := fun (W : World) => meth_load gm W
  clear hs hm hr hi b1 h1 hs1 hl hye hng hng1 hm1 hne hg hgw hn hadU
  go_enter Tryd.func33, Tryd.ntmps33
  go_wp2_with fail
  refine wp_region_held_drew (S := fun w' => Past g W1 w' ∧ w'.cell? ⟨g1, 1, none⟩ = some (.int .i64 (A : Int)) ∧ w'.cell? ⟨g1, 2, none⟩ = some (.int .i64 (B : Int)) ∧ w'.cell? ⟨g1, 3, none⟩ = some (.int .i64 n) ∧ w'.cell? ⟨g, 45, none⟩ = some (.iface 31 (.pointer (some ⟨gm, 0, none⟩)))) (by kernel_rfl) ?_ (fun hHeld => ?_)
  · exact ⟨(Past.refl g W1).drew, i1, i2, i3, j45⟩
  refine takeD (i := 0) (d := some 6) (v := ?_) _ rfl rfl (by kernel_rfl) (by kernel_rfl) (by kernel_rfl) (fun _ _ _ h => h) (by rfl) ?_ (by assumption) ?_
  rotate_left
  · (intro w hSw; (try dsimp only at hSw); go_simp) <;> with_reducible rfl
  try simp only [Act.put, List.setIfInBounds_toArray, List.set_cons_zero, List.set_cons_succ]
  refine takeD (i := 1) (d := some 7) (v := ?_) _ rfl rfl (by kernel_rfl) (by kernel_rfl) (by kernel_rfl) (fun _ _ _ h => h) (by rfl) ?_ (by assumption) ?_
  rotate_left
  · (intro w hSw; (try dsimp only at hSw); go_simp) <;> with_reducible rfl
  try simp only [Act.put, List.setIfInBounds_toArray, List.set_cons_zero, List.set_cons_succ]
  refine takeD (i := 2) (d := some 8) (v := ?_) _ rfl rfl (by kernel_rfl) (by kernel_rfl) (by kernel_rfl) (fun _ _ _ h => h) (by rfl) ?_ (by assumption) ?_
  rotate_left
  · (intro w hSw; (try dsimp only at hSw); go_simp) <;> with_reducible rfl
  try simp only [Act.put, List.setIfInBounds_toArray, List.set_cons_zero, List.set_cons_succ]
  refine takeD (i := 3) (d := some 9) (v := ?_) _ rfl rfl (by kernel_rfl) (by kernel_rfl) (by kernel_rfl) (fun _ _ _ h => h) (by rfl) ?_ (by assumption) ?_
  rotate_left
  · (intro w hSw; (try dsimp only at hSw); go_simp) <;> with_reducible rfl
  try simp only [Act.put, List.setIfInBounds_toArray, List.set_cons_zero, List.set_cons_succ]
  refine takeD (i := 4) (d := some 10) (v := ?_) _ rfl rfl (by kernel_rfl) (by kernel_rfl) (by kernel_rfl) (fun _ _ _ h => h) (by rfl) ?_ (by assumption) ?_
  rotate_left
  · (intro w hSw; (try dsimp only at hSw); go_simp) <;> with_reducible rfl
  try simp only [Act.put, List.setIfInBounds_toArray, List.set_cons_zero, List.set_cons_succ]
  refine takeD (i := 5) (d := some 11) (v := ?_) _ rfl rfl (by kernel_rfl) (by kernel_rfl) (by kernel_rfl) (fun _ _ _ h => h) (by rfl) ?_ (by assumption) ?_
  rotate_left
  · (intro w hSw; (try dsimp only at hSw); go_simp) <;> with_reducible rfl
  try simp only [Act.put, List.setIfInBounds_toArray, List.set_cons_zero, List.set_cons_succ]
  refine takeD (i := 6) (d := some 12) (v := ?_) _ rfl rfl (by kernel_rfl) (by kernel_rfl) (by kernel_rfl) (fun _ _ _ h => h) (by rfl) ?_ (by assumption) ?_
  rotate_left
  · (intro w hSw; (try dsimp only at hSw); go_simp) <;> with_reducible rfl
  try simp only [Act.put, List.setIfInBounds_toArray, List.set_cons_zero, List.set_cons_succ]
  refine takeD (i := 7) (d := some 13) (v := ?_) _ rfl rfl (by kernel_rfl) (by kernel_rfl) (by kernel_rfl) (fun _ _ _ h => h) (by rfl) ?_ (by assumption) ?_
  rotate_left
  · (intro w hSw; (try dsimp only at hSw); go_simp) <;> with_reducible rfl
  try simp only [Act.put, List.setIfInBounds_toArray, List.set_cons_zero, List.set_cons_succ]
  refine takeD (i := 8) (d := some 14) (v := ?_) _ rfl rfl (by kernel_rfl) (by kernel_rfl) (by kernel_rfl) (fun _ _ _ h => h) (by rfl) ?_ (by assumption) ?_
  rotate_left
  · (intro w hSw; (try dsimp only at hSw); go_simp) <;> with_reducible rfl
  try simp only [Act.put, List.setIfInBounds_toArray, List.set_cons_zero, List.set_cons_succ]
  refine takeD (i := 9) (d := some 15) (v := ?_) _ rfl rfl (by kernel_rfl) (by kernel_rfl) (by kernel_rfl) (fun _ _ _ h => h) (by rfl) ?_ (by assumption) ?_
  rotate_left
  · (intro w hSw; (try dsimp only at hSw); go_simp) <;> with_reducible rfl
  try simp only [Act.put, List.setIfInBounds_toArray, List.set_cons_zero, List.set_cons_succ]
  refine takeD (i := 10) (d := some 16) (v := ?_) _ rfl rfl (by kernel_rfl) (by kernel_rfl) (by kernel_rfl) (fun _ _ _ h => h) (by rfl) ?_ (by assumption) ?_
  rotate_left
  · (intro w hSw; (try dsimp only at hSw); go_simp) <;> with_reducible rfl
  try simp only [Act.put, List.setIfInBounds_toArray, List.set_cons_zero, List.set_cons_succ]
  refine takeD (i := 11) (d := some 17) (v := ?_) _ rfl rfl (by kernel_rfl) (by kernel_rfl) (by kernel_rfl) (fun _ _ _ h => h) (by rfl) ?_ (by assumption) ?_
  rotate_left
  · (intro w hSw; (try dsimp only at hSw); go_simp) <;> with_reducible rfl
  try simp only [Act.put, List.setIfInBounds_toArray, List.set_cons_zero, List.set_cons_succ]
  refine takeD (i := 12) (d := some 18) (v := ?_) _ rfl rfl (by kernel_rfl) (by kernel_rfl) (by kernel_rfl) (fun _ _ _ h => h) (by rfl) ?_ (by assumption) ?_
  rotate_left
  · (intro w hSw; (try dsimp only at hSw); go_simp) <;> with_reducible rfl
  try simp only [Act.put, List.setIfInBounds_toArray, List.set_cons_zero, List.set_cons_succ]
  refine takeD (i := 13) (d := some 19) (v := ?_) _ rfl rfl (by kernel_rfl) (by kernel_rfl) (by kernel_rfl) (fun _ _ _ h => h) (by rfl) ?_ (by assumption) ?_
  rotate_left
  · (intro w hSw; (try dsimp only at hSw); go_simp) <;> with_reducible rfl
  try simp only [Act.put, List.setIfInBounds_toArray, List.set_cons_zero, List.set_cons_succ]
  refine takeD (i := 15) (d := some 21) (v := ?_) _ rfl rfl (by kernel_rfl) (by kernel_rfl) (by kernel_rfl) (fun _ _ _ h => h) (by rfl) ?_ (by assumption) ?_
  rotate_left
  · (intro w hSw; (try dsimp only at hSw); go_simp) <;> with_reducible rfl
  try simp only [Act.put, List.setIfInBounds_toArray, List.set_cons_zero, List.set_cons_succ]
  refine takeD (i := 16) (d := some 22) (v := ?_) _ rfl rfl (by kernel_rfl) (by kernel_rfl) (by kernel_rfl) (fun _ _ _ h => h) (by rfl) ?_ (by assumption) ?_
  rotate_left
  · (intro w hSw; (try dsimp only at hSw); go_simp) <;> with_reducible rfl
  try simp only [Act.put, List.setIfInBounds_toArray, List.set_cons_zero, List.set_cons_succ]
  refine takeD (i := 17) (d := some 23) (v := ?_) _ rfl rfl (by kernel_rfl) (by kernel_rfl) (by kernel_rfl) (fun _ _ _ h => h) (by rfl) ?_ (by assumption) ?_
  rotate_left
  · (intro w hSw; (try dsimp only at hSw); go_simp) <;> with_reducible rfl
  try simp only [Act.put, List.setIfInBounds_toArray, List.set_cons_zero, List.set_cons_succ]
  refine takeD (i := 19) (d := some 25) (v := ?_) _ rfl rfl (by kernel_rfl) (by kernel_rfl) (by kernel_rfl) (fun _ _ _ h => h) (by rfl) ?_ (by assumption) ?_
  rotate_left
  · (intro w hSw; (try dsimp only at hSw); go_simp) <;> with_reducible rfl
  try simp only [Act.put, List.setIfInBounds_toArray, List.set_cons_zero, List.set_cons_succ]
  refine takeD (i := 20) (d := some 26) (v := ?_) _ rfl rfl (by kernel_rfl) (by kernel_rfl) (by kernel_rfl) (fun _ _ _ h => h) (by rfl) ?_ (by assumption) ?_
  rotate_left
  · (intro w hSw; (try dsimp only at hSw); go_simp) <;> with_reducible rfl
  try simp only [Act.put, List.setIfInBounds_toArray, List.set_cons_zero, List.set_cons_succ]
  refine takeD (i := 25) (d := some 30) (v := ?_) _ rfl rfl (by kernel_rfl) (by kernel_rfl) (by kernel_rfl) (fun _ _ _ h => h) (by rfl) ?_ (by assumption) ?_
  rotate_left
  · (intro w hSw; (try dsimp only at hSw); go_simp) <;> with_reducible rfl
  try simp only [Act.put, List.setIfInBounds_toArray, List.set_cons_zero, List.set_cons_succ]
  refine takeD (i := 26) (d := some 31) (v := ?_) _ rfl rfl (by kernel_rfl) (by kernel_rfl) (by kernel_rfl) (fun _ _ _ h => h) (by rfl) ?_ (by assumption) ?_
  rotate_left
  · (intro w hSw; (try dsimp only at hSw); go_simp) <;> with_reducible rfl
  try simp only [Act.put, List.setIfInBounds_toArray, List.set_cons_zero, List.set_cons_succ]
  refine takeD (i := 27) (d := some 32) (v := ?_) _ rfl rfl (by kernel_rfl) (by kernel_rfl) (by kernel_rfl) (fun _ _ _ h => h) (by rfl) ?_ (by assumption) ?_
  rotate_left
  · (intro w hSw; (try dsimp only at hSw); go_simp) <;> with_reducible rfl
  try simp only [Act.put, List.setIfInBounds_toArray, List.set_cons_zero, List.set_cons_succ]
  have iB' : W1.drew.cell? ⟨g, B, none⟩ = some (.int .u32 y) := iB
  refine wpAnyH_ready (rs := [14]) (by kernel_rfl) (by simp) ?_
  refine AllReadyH.cons rfl (fun K hK => ?_) AllReadyH.nil
  go_simp
  refine hK.out _ _ hHeld (fun hHeld => ?_)
  clear hK K iB iB'
  try simp only [Act.put, List.setIfInBounds_toArray, List.set_cons_zero, List.set_cons_succ]
  refine takeD (i := 18) (d := some 24) (v := ?_) _ rfl rfl (by kernel_rfl) (by kernel_rfl) (by kernel_rfl) (fun _ _ _ h => h) (by rfl) ?_ (by assumption) ?_
  rotate_left
  · (intro w hSw; (try dsimp only at hSw); go_simp) <;> with_reducible rfl
  try simp only [Act.put, List.setIfInBounds_toArray, List.set_cons_zero, List.set_cons_succ]
  refine wpAnyH_ready (rs := [21]) (by kernel_rfl) (by simp) ?_
  refine AllReadyH.cons rfl (fun K hK => ?_) AllReadyH.nil
  (go_simp; refine CP.out.mono ?_; rintro e W3 ⟨rfl, b3⟩; try go_wp2_with fail)
  have HQ : Hid (RB W3 g r [.iface 31 (.pointer (some ⟨gm, 0, none⟩)), .int .i64 (-1)] 70) := RB.below (w := W1) HF.out.1 ⟨b3.os, b3.tape, b3.output, b3.size, b3.block⟩
  have HP : Hid (Past g W1 W3) := ⟨b3.os, b3.tape, b3.output, b3.size, fun k hk _ => b3.block k hk⟩
  refine hK.out _ _ ⟨HP.out, cell_later b3 hHeld.2.1, cell_later b3 hHeld.2.2.1, cell_later b3 hHeld.2.2.2.1, cell_later b3 hHeld.2.2.2.2⟩ (fun hHeld => ?_)
  clear hK K b3 CP
  try simp only [Act.put, List.setIfInBounds_toArray, List.set_cons_zero, List.set_cons_succ]
  refine takeD (i := 22) (d := some 5) (v := ?_) _ rfl rfl (by kernel_rfl) (by kernel_rfl) (by kernel_rfl) (fun _ _ _ h => h) (by rfl) ?_ (by assumption) ?_
  rotate_left
  · (intro w hSw; (try dsimp only at hSw); go_simp) <;> with_reducible rfl
  try simp only [Act.put, List.setIfInBounds_toArray, List.set_cons_zero, List.set_cons_succ]
  refine takeD (i := 23) (d := some 28) (v := ?_) _ rfl rfl (by kernel_rfl) (by kernel_rfl) (by kernel_rfl) (fun _ _ _ h => h) (by rfl) ?_ (by assumption) ?_
  rotate_left
  · (intro w hSw; (try dsimp only at hSw); go_simp) <;> with_reducible rfl
  try simp only [Act.put, List.setIfInBounds_toArray, List.set_cons_zero, List.set_cons_succ]
  refine takeD (i := 24) (d := some 29) (v := ?_) _ rfl rfl (by kernel_rfl) (by kernel_rfl) (by kernel_rfl) (fun _ _ _ h => h) (by rfl) ?_ (by assumption) ?_
  rotate_left
  · (intro w hSw; (try dsimp only at hSw); go_simp) <;> with_reducible rfl
  try simp only [Act.put, List.setIfInBounds_toArray, List.set_cons_zero, List.set_cons_succ]
  refine takeD (i := 28) (d := some 33) (v := ?_) _ rfl rfl (by kernel_rfl) (by kernel_rfl) (by kernel_rfl) (fun _ _ _ h => h) (by rfl) ?_ (by assumption) ?_
  rotate_left
  · (intro w hSw; (try dsimp only at hSw); go_simp) <;> with_reducible rfl
  try simp only [Act.put, List.setIfInBounds_toArray, List.set_cons_zero, List.set_cons_succ]
  have jA := RB.cellk (k := .u32) (o := A) HQ.out (by have := HL.out.1; omega) (kd_reg (by omega))
  have jF := RB.frozen HQ.out A
  refine wpAnyH_ready (rs := [29]) (by kernel_rfl) (by simp) ?_
  refine AllReadyH.cons rfl (fun K hK => ?_) AllReadyH.nil
  go_simp
  have HS : Hid (RB (W3.setCell ⟨g, A, none⟩ (.int .u32 (ldX μ.W ad))) g (r.set A (ldX μ.W ad)) [.iface 31 (.pointer (some ⟨gm, 0, none⟩)), .int .i64 (-1)] 70) := RB.set HQ.out (by have := HL.out.1; omega) (kd_reg (by omega)) _
  have k45 := RB.tail HS.out 0
  rw [List.length_set, HL.out.1] at k45
  simp at k45
  refine hK.out _ _ ⟨HP.out.setCell A _, (cell_set_far HG1.out _).trans hHeld.2.1, (cell_set_far HG1.out _).trans hHeld.2.2.1, (cell_set_far HG1.out _).trans hHeld.2.2.2.1, by simpa using k45⟩ (fun hHeld => ?_)
  clear hK K jA jF k45
  try simp only [Act.put, List.setIfInBounds_toArray, List.set_cons_zero, List.set_cons_succ]
  refine takeD (i := 30) (d := some 4) (v := ?_) _ rfl rfl (by kernel_rfl) (by kernel_rfl) (by kernel_rfl) (fun _ _ _ h => h) (by rfl) ?_ (by assumption) ?_
  rotate_left
  · (intro w hSw; (try dsimp only at hSw); go_simp) <;> with_reducible rfl
  try simp only [Act.put, List.setIfInBounds_toArray, List.set_cons_zero, List.set_cons_succ]
  refine wpAnyH_done (by kernel_rfl) ?_ _
  have HPP : Hid (Past g w (W3.setCell ⟨g, A, none⟩ (.int .u32 (ldX μ.W ad)))) := (Past.of_below HF.out.2).trans (HP.out.setCell A _)
  clear hHeld HQ HP HF i1 i2 i3 j45 hN had hms hW1 hg1
  generalize W3.setCell ⟨g, A, none⟩ (.int .u32 (ldX μ.W ad)) = W4 at HS HPP ⊢
  go_wp2_with fail
  go_ret
  exact ⟨rfl, HS.out, HPP.out⟩
end Go.Proofs.YthmalhakkdjilaaDoor
