/-
  What a receiver takes, as one contract. Each statement bears its own conditions.
-/
import Derived.Test.YtkbjonblflhkoaaLnY
namespace Go.Proofs.Ytkbjonblflhkoaa.Ln
open Go.RowKit Go.Proofs.Ytkbjonblflhkoaa.F Go.Proofs.Ytkbjonblflhkoaa.U Go.Proofs.Ytkbjonblflhkoaa.Q
set_option linter.unusedVariables false
set_option linter.unusedSimpArgs false
set_option maxRecDepth 100000 in
set_option maxHeartbeats 8000000 in
theorem take_fresh (g : Nat) (r : RcS) (net num : Int) (P : Nat → Prop) (Am : Option Addr) (m cm : Nat) (K : List Int) (w : World) (h : RV w g r) (hv : Sq w P (.slice Am m cm) m (CU K)) (hpg : ¬ P g) (ha : 0 ≤ net ∧ net ≤ 1 ∧ 0 ≤ num ∧ num ≤ 255) (hl : (m : Int) ≤ r.words) (hdo : ¬ (1 ≤ tkD r num ∧ tkD r num ≤ 127)) (hoo : tkO r num < 64) (hb : r.arr.testBit (tkO r num).toNat = false) : Calls Try.prog 20 #[.pointer (some ⟨g, 0, none⟩), .int .i64 net, .agg #[.int .i64 num, .slice Am m cm]] w fun e w' => ∃ A' c', e = .returned (.tuple #[.slice A' m c', .bool true, .int .i64 0]) ∧ Ow 47 w' (fun b => w.heap.size ≤ b) (.slice A' m c') m (CU K) ∧ RV w' g { r with arr := r.arr ||| 2 ^ (tkO r num).toNat } ∧ Fo (fun b => b = g) w w' := by
  obtain ⟨X, hX⟩ : ∃ X, w.heap.size = X := ⟨_, rfl⟩
  obtain ⟨W0, hW0⟩ : ∃ W0, w.alloc (.cells #[.int .i64 num, .slice Am m cm] 44) = W0 := ⟨_, rfl⟩
  have B0 : Hid (Below X w W0) := by rw [← hW0, ← hX]; exact ((Below.refl _ _).alloc (Nat.le_refl _) _)
  have HB0 : Hid (W0.heap[X]? = some (.cells #[.int .i64 num, .slice Am m cm] 44 (0, 0)) ∧ W0.heap.size = X + 1) := by rw [← hW0, ← hX]; exact ⟨heap_alloc_new _ _, by simp⟩
  have HR0 := Lib.hid (h.below (by rw [hX]; exact B0.out))
  have x0 : W0.cell? ⟨X, 0, none⟩ = some (.int .i64 num) := by rw [(row_cell HB0.out.1 0).1]; rfl
  have x1 : W0.cell? ⟨X, 1, none⟩ = some (.slice Am m cm) := by rw [(row_cell HB0.out.1 1).1]; rfl
  have d0 : W0.cell? ⟨g, 0, none⟩ = some (.int .i64 r.words) := by rw [(row_cell HR0.out.ce 0).1]; rfl
  have d1 : W0.cell? ⟨g, 1, none⟩ = some (.int .i64 r.newest) := by rw [(row_cell HR0.out.ce 1).1]; rfl
  have d2 : W0.cell? ⟨g, 2, none⟩ = some (.int .u64 ((r.arr : Nat) : Int)) := by rw [(row_cell HR0.out.ce 2).1]; rfl
  have d3 : W0.cell? ⟨g, 3, none⟩ = some (.int .i64 r.lost) := by rw [(row_cell HR0.out.ce 3).1]; rfl
  have c1 : decide (net < 0) = false := by simpa using ha.1
  have c2 : decide (2 ≤ net) = false := by simp; omega
  have c3 : decide (num < 0) = false := by simpa using ha.2.2.1
  have c4 : decide (256 ≤ num) = false := by simp; omega
  have c5 : decide (r.words < (m : Int)) = false := by simpa using hl
  obtain ⟨d, hdI⟩ : ∃ d : Nat, tkD r num = (d : Int) := ⟨(tkD r num).toNat, by have := tkD_bd h.ok ha.2.2; omega⟩
  obtain ⟨o, hoI⟩ : ∃ o : Nat, tkO r num = (o : Int) := ⟨(tkO r num).toNat, by have := tkO_bd h.ok ha.2.2; omega⟩
  have hd2 : (num - r.newest + 256).tmod 256 = (d : Int) := hdI
  have ho2 : (256 - (d : Int)).tmod 256 = (o : Int) := by rw [← hdI]; exact hoI
  have hbd := tkD_bd h.ok ha.2.2
  rw [hdI] at hbd hdo
  rw [hoI] at hoo
  have hw : IntKind.i64.wrap (num - r.newest) = num - r.newest := by have := h.ok.n; rw [IntKind.wrap_i64]; omega
  have hw2 : IntKind.i64.wrap (num - r.newest + 256) = num - r.newest + 256 := by have := h.ok.n; rw [IntKind.wrap_i64]; omega
  have hw3 : IntKind.i64.wrap (256 - (d : Int)) = 256 - (d : Int) := by rw [IntKind.wrap_i64]; omega
  have HM : Hid (m ≤ 32) := by have := h.ok.w; unfold Hid; omega
  have HPG := Lib.hid hpg
  have HGX : Hid (g < X) := by have := h.lt; unfold Hid; omega
  have SQ0 : Hid (Sq W0 P (.slice Am m cm) m (CU K)) := hv.belowP (by rw [hX]; exact B0.out)
  have HOK := Lib.hid h.ok
  have e8 : decide (64 ≤ (o : Int)) = false := by simp; omega
  have hoN : (tkO r num).toNat = o := by omega
  have e9 : (bits BinOp.and IntKind.u64 ((r.arr : Int) / 2 ^ min o 64) 1 == 1) = false := by
    rw [bit_test r.arr o h.ok.a (by omega)]
    rw [hoN] at hb
    exact hb
  have hor : bits BinOp.or IntKind.u64 (r.arr : Int) (IntKind.u64.wrap (2 ^ min o 64)) = ((r.arr ||| 2 ^ o : Nat) : Int) := or_set r.arr o h.ok.a (by omega)
  have HO : Hid (o < 64) := by unfold Hid; omega
  rw [hoN]
  clear h ha hl hdI hoI hb hv hpg hoN
  by_cases hd1 : 1 ≤ d
  · have e6 : decide (1 ≤ (d : Int)) = true := by simp; omega
    have e7 : decide ((d : Int) ≤ 127) = false := by simp; omega
    clear hdo hbd hd1 hoo
    go_enter Try.func20, Try.ntmps20
    go_wp2_with fail
    refine wp_region_held_drew (S := (fun w' => Below W0.heap.size W0 w' ∧ w'.cell? ⟨X, 0, none⟩ = some (.int .i64 num) ∧ w'.cell? ⟨X, 1, none⟩ = some (.slice Am m cm) ∧ w'.cell? ⟨g, 0, none⟩ = some (.int .i64 r.words) ∧ w'.cell? ⟨g, 1, none⟩ = some (.int .i64 r.newest) ∧ w'.cell? ⟨g, 2, none⟩ = some (.int .u64 ((r.arr : Nat) : Int)) ∧ w'.cell? ⟨g, 3, none⟩ = some (.int .i64 r.lost))) (by kernel_rfl) ?_ (fun hHeld => ?_)
    · exact ⟨(Below.refl _ _).drew, x0, x1, d0, d1, d2, d3⟩
    refine takeD (i := 0) (d := some 33) (v := ?_) _ rfl rfl (by kernel_rfl) (by kernel_rfl) (by kernel_rfl) (fun _ _ _ h => h) (by rfl) ?_ (by assumption) ?_
    rotate_left
    · (intro w hSw; (try dsimp only at hSw); go_simp) <;> with_reducible rfl
    try simp only [Act.put, List.setIfInBounds_toArray, List.set_cons_zero, List.set_cons_succ]
    refine takeD (i := 1) (d := some 34) (v := ?_) _ rfl rfl (by kernel_rfl) (by kernel_rfl) (by kernel_rfl) (fun _ _ _ h => h) (by rfl) ?_ (by assumption) ?_
    rotate_left
    · (intro w hSw; (try dsimp only at hSw); go_simp) <;> with_reducible rfl
    try simp only [Act.put, List.setIfInBounds_toArray, List.set_cons_zero, List.set_cons_succ]
    refine takeD (i := 2) (d := some 35) (v := ?_) _ rfl rfl (by kernel_rfl) (by kernel_rfl) (by kernel_rfl) (fun _ _ _ h => h) (by rfl) ?_ (by assumption) ?_
    rotate_left
    · (intro w hSw; (try dsimp only at hSw); go_simp) <;> with_reducible rfl
    try simp only [Act.put, List.setIfInBounds_toArray, List.set_cons_zero, List.set_cons_succ]
    refine takeD (i := 3) (d := some 36) (v := ?_) _ rfl rfl (by kernel_rfl) (by kernel_rfl) (by kernel_rfl) (fun _ _ _ h => h) (by rfl) ?_ (by assumption) ?_
    rotate_left
    · (intro w hSw; (try dsimp only at hSw); go_simp) <;> with_reducible rfl
    try simp only [Act.put, List.setIfInBounds_toArray, List.set_cons_zero, List.set_cons_succ]
    refine takeD (i := 4) (d := some 37) (v := ?_) _ rfl rfl (by kernel_rfl) (by kernel_rfl) (by kernel_rfl) (fun _ _ _ h => h) (by rfl) ?_ (by assumption) ?_
    rotate_left
    · (intro w hSw; (try dsimp only at hSw); go_simp) <;> with_reducible rfl
    try simp only [Act.put, List.setIfInBounds_toArray, List.set_cons_zero, List.set_cons_succ]
    refine takeD (i := 5) (d := some 38) (v := ?_) _ rfl rfl (by kernel_rfl) (by kernel_rfl) (by kernel_rfl) (fun _ _ _ h => h) (by rfl) ?_ (by assumption) ?_
    rotate_left
    · (intro w hSw; (try dsimp only at hSw); go_simp) <;> with_reducible rfl
    try simp only [Act.put, List.setIfInBounds_toArray, List.set_cons_zero, List.set_cons_succ]
    refine takeD (i := 6) (d := some 39) (v := ?_) _ rfl rfl (by kernel_rfl) (by kernel_rfl) (by kernel_rfl) (fun _ _ _ h => h) (by rfl) ?_ (by assumption) ?_
    rotate_left
    · (intro w hSw; (try dsimp only at hSw); go_simp) <;> with_reducible rfl
    try simp only [Act.put, List.setIfInBounds_toArray, List.set_cons_zero, List.set_cons_succ]
    refine takeD (i := 7) (d := some 40) (v := ?_) _ rfl rfl (by kernel_rfl) (by kernel_rfl) (by kernel_rfl) (fun _ _ _ h => h) (by rfl) ?_ (by assumption) ?_
    rotate_left
    · (intro w hSw; (try dsimp only at hSw); go_simp) <;> with_reducible rfl
    try simp only [Act.put, List.setIfInBounds_toArray, List.set_cons_zero, List.set_cons_succ]
    refine takeD (i := 8) (d := some 32) (v := ?_) _ rfl rfl (by kernel_rfl) (by kernel_rfl) (by kernel_rfl) (fun _ _ _ h => h) (by rfl) ?_ (by assumption) ?_
    rotate_left
    · (intro w hSw; (try dsimp only at hSw); go_simp) <;> with_reducible rfl
    try simp only [Act.put, List.setIfInBounds_toArray, List.set_cons_zero, List.set_cons_succ]
    refine wpAnyH_done (by kernel_rfl) ?_ _
    obtain ⟨V1, hV1⟩ : ∃ V, W0.drew = V := ⟨_, rfl⟩
    rw [hV1] at hHeld
    rw [hV1]
    clear hV1 x0 x1 d0 d1 d2 d3
    obtain ⟨bV1, x0, x1, d0, d1, d2, d3⟩ := hHeld
    have BV1 := Lib.hid bV1
    clear bV1
    go_wp2_with fail
    refine wp_region_held_drew (S := (fun w' => Below V1.heap.size V1 w' ∧ w'.cell? ⟨X, 0, none⟩ = some (.int .i64 num) ∧ w'.cell? ⟨X, 1, none⟩ = some (.slice Am m cm) ∧ w'.cell? ⟨g, 0, none⟩ = some (.int .i64 r.words) ∧ w'.cell? ⟨g, 1, none⟩ = some (.int .i64 r.newest) ∧ w'.cell? ⟨g, 2, none⟩ = some (.int .u64 ((r.arr : Nat) : Int)) ∧ w'.cell? ⟨g, 3, none⟩ = some (.int .i64 r.lost))) (by kernel_rfl) ?_ (fun hHeld => ?_)
    · exact ⟨(Below.refl _ _).drew, x0, x1, d0, d1, d2, d3⟩
    refine takeD (i := 0) (d := some 41) (v := ?_) _ rfl rfl (by kernel_rfl) (by kernel_rfl) (by kernel_rfl) (fun _ _ _ h => h) (by rfl) ?_ (by assumption) ?_
    rotate_left
    · (intro w hSw; (try dsimp only at hSw); go_simp) <;> with_reducible rfl
    try simp only [Act.put, List.setIfInBounds_toArray, List.set_cons_zero, List.set_cons_succ]
    refine takeD (i := 1) (d := some 42) (v := ?_) _ rfl rfl (by kernel_rfl) (by kernel_rfl) (by kernel_rfl) (fun _ _ _ h => h) (by rfl) ?_ (by assumption) ?_
    rotate_left
    · (intro w hSw; (try dsimp only at hSw); go_simp) <;> with_reducible rfl
    try simp only [Act.put, List.setIfInBounds_toArray, List.set_cons_zero, List.set_cons_succ]
    refine takeD (i := 2) (d := some 43) (v := ?_) _ rfl rfl (by kernel_rfl) (by kernel_rfl) (by kernel_rfl) (fun _ _ _ h => h) (by rfl) ?_ (by assumption) ?_
    rotate_left
    · (intro w hSw; (try dsimp only at hSw); go_simp) <;> with_reducible rfl
    try simp only [Act.put, List.setIfInBounds_toArray, List.set_cons_zero, List.set_cons_succ]
    refine takeD (i := 3) (d := some 44) (v := ?_) _ rfl rfl (by kernel_rfl) (by kernel_rfl) (by kernel_rfl) (fun _ _ _ h => h) (by rfl) ?_ (by assumption) ?_
    rotate_left
    · (intro w hSw; (try dsimp only at hSw); go_simp) <;> with_reducible rfl
    try simp only [Act.put, List.setIfInBounds_toArray, List.set_cons_zero, List.set_cons_succ]
    refine takeD (i := 4) (d := some 45) (v := ?_) _ rfl rfl (by kernel_rfl) (by kernel_rfl) (by kernel_rfl) (fun _ _ _ h => h) (by rfl) ?_ (by assumption) ?_
    rotate_left
    · (intro w hSw; (try dsimp only at hSw); go_simp) <;> with_reducible rfl
    try simp only [Act.put, List.setIfInBounds_toArray, List.set_cons_zero, List.set_cons_succ]
    refine takeD (i := 5) (d := some 46) (v := ?_) _ rfl rfl (by kernel_rfl) (by kernel_rfl) (by kernel_rfl) (fun _ _ _ h => h) (by rfl) ?_ (by assumption) ?_
    rotate_left
    · (intro w hSw; (try dsimp only at hSw); go_simp) <;> with_reducible rfl
    try simp only [Act.put, List.setIfInBounds_toArray, List.set_cons_zero, List.set_cons_succ]
    refine takeD (i := 6) (d := some 47) (v := ?_) _ rfl rfl (by kernel_rfl) (by kernel_rfl) (by kernel_rfl) (fun _ _ _ h => h) (by rfl) ?_ (by assumption) ?_
    rotate_left
    · (intro w hSw; (try dsimp only at hSw); go_simp) <;> with_reducible rfl
    try simp only [Act.put, List.setIfInBounds_toArray, List.set_cons_zero, List.set_cons_succ]
    refine takeD (i := 7) (d := some 48) (v := ?_) _ rfl rfl (by kernel_rfl) (by kernel_rfl) (by kernel_rfl) (fun _ _ _ h => h) (by rfl) ?_ (by assumption) ?_
    rotate_left
    · (intro w hSw; (try dsimp only at hSw); go_simp) <;> with_reducible rfl
    try simp only [Act.put, List.setIfInBounds_toArray, List.set_cons_zero, List.set_cons_succ]
    refine takeD (i := 8) (d := some 49) (v := ?_) _ rfl rfl (by kernel_rfl) (by kernel_rfl) (by kernel_rfl) (fun _ _ _ h => h) (by rfl) ?_ (by assumption) ?_
    rotate_left
    · (intro w hSw; (try dsimp only at hSw); go_simp) <;> with_reducible rfl
    try simp only [Act.put, List.setIfInBounds_toArray, List.set_cons_zero, List.set_cons_succ]
    refine takeD (i := 9) (d := some 9) (v := ?_) _ rfl rfl (by kernel_rfl) (by kernel_rfl) (by kernel_rfl) (fun _ _ _ h => h) (by rfl) ?_ (by assumption) ?_
    rotate_left
    · (intro w hSw; (try dsimp only at hSw); go_simp) <;> with_reducible rfl
    try simp only [Act.put, List.setIfInBounds_toArray, List.set_cons_zero, List.set_cons_succ]
    refine wpAnyH_done (by kernel_rfl) ?_ _
    obtain ⟨V2, hV2⟩ : ∃ V, V1.drew = V := ⟨_, rfl⟩
    rw [hV2] at hHeld
    rw [hV2]
    clear hV2 x0 x1 d0 d1 d2 d3
    obtain ⟨bV2, x0, x1, d0, d1, d2, d3⟩ := hHeld
    have BV2 := Lib.hid bV2
    clear bV2
    have BF : Hid (Below X w V2) := B0.out.trans ((BV1.out.trans (BV2.out.mono BV1.out.size)).mono (by have := HB0.out.2; omega))
    have HGW : Hid (V2.heap[g]? = some (.cells #[.int .i64 r.words, .int .i64 r.newest, .int .u64 ((r.arr : Nat) : Int), .int .i64 r.lost] 90 (0, 0))) := (BV2.out.block g (by have := BV1.out.size; have := HB0.out.2; have := HGX.out; omega)).trans ((BV1.out.block g (by have := HB0.out.2; have := HGX.out; omega)).trans HR0.out.ce)
    have HXW : Hid (V2.heap[X]? = some (.cells #[.int .i64 num, .slice Am m cm] 44 (0, 0))) := (BV2.out.block X (by have := BV1.out.size; have := HB0.out.2; omega)).trans ((BV1.out.block X (by have := HB0.out.2; omega)).trans HB0.out.1)
    have SQW : Hid (Sq V2 P (.slice Am m cm) m (CU K)) := (SQ0.out.belowP BV1.out).belowP BV2.out
    have FWW : Hid (Fo (fun b => b = g) w V2) := Fo.of_below (by rw [hX]; exact BF.out)
    go_wp2_with fail
    refine wp_region_held_drew (S := (fun _ => True)) (by kernel_rfl) trivial (fun hHeld => ?_)
    clear hHeld
    refine takeD (i := 0) (d := some 75) (v := ?_) _ rfl rfl (by kernel_rfl) (by kernel_rfl) (by kernel_rfl) (fun _ _ _ h => h) (by rfl) ?_ trivial ?_
    rotate_left
    · (intro w hSw; (try dsimp only at hSw); go_simp) <;> with_reducible rfl
    try simp only [Act.put, List.setIfInBounds_toArray, List.set_cons_zero, List.set_cons_succ]
    refine takeD (i := 1) (d := some 76) (v := ?_) _ rfl rfl (by kernel_rfl) (by kernel_rfl) (by kernel_rfl) (fun _ _ _ h => h) (by rfl) ?_ trivial ?_
    rotate_left
    · (intro w hSw; (try dsimp only at hSw); go_simp) <;> with_reducible rfl
    try simp only [Act.put, List.setIfInBounds_toArray, List.set_cons_zero, List.set_cons_succ]
    refine takeD (i := 2) (d := some 77) (v := ?_) _ rfl rfl (by kernel_rfl) (by kernel_rfl) (by kernel_rfl) (fun _ _ _ h => h) (by rfl) ?_ trivial ?_
    rotate_left
    · (intro w hSw; (try dsimp only at hSw); go_simp) <;> with_reducible rfl
    try simp only [Act.put, List.setIfInBounds_toArray, List.set_cons_zero, List.set_cons_succ]
    refine takeD (i := 4) (d := some 79) (v := ?_) _ rfl rfl (by kernel_rfl) (by kernel_rfl) (by kernel_rfl) (fun _ _ _ h => h) (by rfl) ?_ trivial ?_
    rotate_left
    · (intro w hSw; (try dsimp only at hSw); go_simp) <;> with_reducible rfl
    try simp only [Act.put, List.setIfInBounds_toArray, List.set_cons_zero, List.set_cons_succ]
    refine takeD (i := 5) (d := some 80) (v := ?_) _ rfl rfl (by kernel_rfl) (by kernel_rfl) (by kernel_rfl) (fun _ _ _ h => h) (by rfl) ?_ trivial ?_
    rotate_left
    · (intro w hSw; (try dsimp only at hSw); go_simp) <;> with_reducible rfl
    try simp only [Act.put, List.setIfInBounds_toArray, List.set_cons_zero, List.set_cons_succ]
    refine wpAnyH_ready (rs := [3]) (by kernel_rfl) (by simp) ?_
    refine AllReadyH.cons rfl (fun K0 hK => ?_) (AllReadyH.nil)
    have l0 : V2.drew.cell? ⟨g, 2, none⟩ = some (.int .u64 (r.arr : Int)) := d2
    try go_simp
    refine hK.out _ _ trivial (fun _ => ?_)
    clear l0
    clear hK K0
    try simp only [Act.put, List.getElem_toArray, List.getElem_cons_succ, List.getElem_cons_zero, List.setIfInBounds_toArray, List.set_cons_zero, List.set_cons_succ]
    refine takeD (i := 6) (d := some 81) (v := ?_) _ rfl rfl (by kernel_rfl) (by kernel_rfl) (by kernel_rfl) (fun _ _ _ h => h) (by rfl) ?_ trivial ?_
    rotate_left
    · (intro w hSw; (try dsimp only at hSw); go_simp) <;> with_reducible rfl
    try simp only [Act.put, List.setIfInBounds_toArray, List.set_cons_zero, List.set_cons_succ]
    refine takeD (i := 7) (d := some 82) (v := ?_) _ rfl rfl (by kernel_rfl) (by kernel_rfl) (by kernel_rfl) (fun _ _ _ h => h) (by rfl) ?_ trivial ?_
    rotate_left
    · (intro w hSw; (try dsimp only at hSw); go_simp) <;> with_reducible rfl
    try simp only [Act.put, List.setIfInBounds_toArray, List.set_cons_zero, List.set_cons_succ]
    refine takeD (i := 8) (d := some 83) (v := ?_) _ rfl rfl (by kernel_rfl) (by kernel_rfl) (by kernel_rfl) (fun _ _ _ h => h) (by rfl) ?_ trivial ?_
    rotate_left
    · (intro w hSw; (try dsimp only at hSw); go_simp) <;> with_reducible rfl
    try simp only [Act.put, List.setIfInBounds_toArray, List.set_cons_zero, List.set_cons_succ]
    try rw [hor]
    obtain ⟨V3, hV3⟩ : ∃ V, V2.drew = V := ⟨_, rfl⟩
    have BV3 : Hid (Below V2.heap.size V2 V3) := by rw [← hV3]; exact (Below.refl _ _).drew
    simp only [hV3]
    clear hV3
    have HG3 : Hid (V3.heap[g]? = some (.cells #[.int .i64 r.words, .int .i64 r.newest, .int .u64 ((r.arr : Nat) : Int), .int .i64 r.lost] 90 (0, 0))) := (BV3.out.block g (Array.getElem?_eq_some_iff.1 HGW.out).1).trans HGW.out
    have g2 : V3.cell? ⟨g, 2, none⟩ = some (.int .u64 (r.arr : Int)) := by rw [(row_cell HG3.out 2).1]; rfl
    have gf : V3.frozen? ⟨g, 2, none⟩ = false := (row_cell HG3.out 2).2
    obtain ⟨V4, hV4⟩ : ∃ V, V3.setCell ⟨g, 2, none⟩ (.int .u64 (((r.arr ||| 2 ^ o) : Nat) : Int)) = V := ⟨_, rfl⟩
    have FV4 : Hid (Fo (fun b => b = g) V3 V4) := by rw [← hV4]; exact (Fo.refl (fun b => b = g) V3).setCell (.inl rfl) 2 _
    have HG4 : Hid (RV V4 g { r with arr := r.arr ||| 2 ^ o }) := ⟨by rw [← hV4]; simpa using set_at HG3.out 2 (.int .u64 (((r.arr ||| 2 ^ o) : Nat) : Int)), ⟨HOK.out.w, HOK.out.n, or_lt _ _ HOK.out.a (by have := HO.out; omega), HOK.out.l⟩⟩
    have HX4 : Hid (V4.heap[X]? = some (.cells #[.int .i64 num, .slice Am m cm] 44 (0, 0))) := (FV4.out.block X (by have := (Array.getElem?_eq_some_iff.1 HXW.out).1; have := BV3.out.size; omega) (by have := HGX.out; omega)).trans ((BV3.out.block X (Array.getElem?_eq_some_iff.1 HXW.out).1).trans HXW.out)
    have SQ4 : Hid (Sq V4 P (.slice Am m cm) m (CU K)) := (((SQW.out.belowP BV3.out).fo FV4.out fun b hb e => HPG.out (by rw [← e]; exact hb)).imp fun b _ hb => hb.2)
    have FW4 : Hid (Fo (fun b => b = g) w V4) := (FWW.out.trans (Fo.of_below (p := fun _ => False) BV3.out) fun i hi => hi.elim).trans FV4.out fun i hi => .inl hi
    refine wpAnyH_ready (rs := [9]) (by kernel_rfl) (by simp) ?_
    refine AllReadyH.cons rfl (fun K0 hK => ?_) (AllReadyH.nil)
    try go_simp
    try rw [hor]
    try rw [hV4]
    refine hK.out _ _ trivial (fun hHeld => ?_)
    clear hHeld hV4 g2 gf
    clear hK K0
    try simp only [Act.put, List.getElem_toArray, List.getElem_cons_succ, List.getElem_cons_zero, List.setIfInBounds_toArray, List.set_cons_zero, List.set_cons_succ]
    refine wpAnyH_done (by kernel_rfl) ?_ _
    have x1 : V4.cell? ⟨X, 1, none⟩ = some (.slice Am m cm) := by rw [(row_cell HX4.out 1).1]; rfl
    have CE := Lib.hid (U.uclone_any _ _ _ _ V4 SQ4.out.st (CU_one _) (by have := HM.out; omega))
    go_wp2_with fail
    refine CE.out.mono ?_
    rintro e w5 ⟨⟨rv, rfl, r5⟩, b5⟩
    obtain ⟨A5, c5', rfl⟩ := slice_form r5
    have O5 : Hid (Ow 47 w5 (fun b => w.heap.size ≤ b) (.slice A5 m c5') m (CU K)) := (Ow.of_own r5).imp fun b _ hb => by have := FW4.out.size; omega
    have HG5 := Lib.hid (HG4.out.below b5)
    have FW5 : Hid (Fo (fun b => b = g) w w5) := FW4.out.trans (Fo.of_below (p := fun _ => False) b5) fun i hi => hi.elim
    clear r5 b5 CE x1
    go_wp2_with fail
    go_ret3
    exact ⟨A5, c5', rfl, O5.out, HG5.out, FW5.out⟩
  · have e6 : decide (1 ≤ (d : Int)) = false := by simp; omega
    clear hdo hbd hd1 hoo
    go_enter Try.func20, Try.ntmps20
    go_wp2_with fail
    refine wp_region_held_drew (S := (fun w' => Below W0.heap.size W0 w' ∧ w'.cell? ⟨X, 0, none⟩ = some (.int .i64 num) ∧ w'.cell? ⟨X, 1, none⟩ = some (.slice Am m cm) ∧ w'.cell? ⟨g, 0, none⟩ = some (.int .i64 r.words) ∧ w'.cell? ⟨g, 1, none⟩ = some (.int .i64 r.newest) ∧ w'.cell? ⟨g, 2, none⟩ = some (.int .u64 ((r.arr : Nat) : Int)) ∧ w'.cell? ⟨g, 3, none⟩ = some (.int .i64 r.lost))) (by kernel_rfl) ?_ (fun hHeld => ?_)
    · exact ⟨(Below.refl _ _).drew, x0, x1, d0, d1, d2, d3⟩
    refine takeD (i := 0) (d := some 33) (v := ?_) _ rfl rfl (by kernel_rfl) (by kernel_rfl) (by kernel_rfl) (fun _ _ _ h => h) (by rfl) ?_ (by assumption) ?_
    rotate_left
    · (intro w hSw; (try dsimp only at hSw); go_simp) <;> with_reducible rfl
    try simp only [Act.put, List.setIfInBounds_toArray, List.set_cons_zero, List.set_cons_succ]
    refine takeD (i := 1) (d := some 34) (v := ?_) _ rfl rfl (by kernel_rfl) (by kernel_rfl) (by kernel_rfl) (fun _ _ _ h => h) (by rfl) ?_ (by assumption) ?_
    rotate_left
    · (intro w hSw; (try dsimp only at hSw); go_simp) <;> with_reducible rfl
    try simp only [Act.put, List.setIfInBounds_toArray, List.set_cons_zero, List.set_cons_succ]
    refine takeD (i := 2) (d := some 35) (v := ?_) _ rfl rfl (by kernel_rfl) (by kernel_rfl) (by kernel_rfl) (fun _ _ _ h => h) (by rfl) ?_ (by assumption) ?_
    rotate_left
    · (intro w hSw; (try dsimp only at hSw); go_simp) <;> with_reducible rfl
    try simp only [Act.put, List.setIfInBounds_toArray, List.set_cons_zero, List.set_cons_succ]
    refine takeD (i := 3) (d := some 36) (v := ?_) _ rfl rfl (by kernel_rfl) (by kernel_rfl) (by kernel_rfl) (fun _ _ _ h => h) (by rfl) ?_ (by assumption) ?_
    rotate_left
    · (intro w hSw; (try dsimp only at hSw); go_simp) <;> with_reducible rfl
    try simp only [Act.put, List.setIfInBounds_toArray, List.set_cons_zero, List.set_cons_succ]
    refine takeD (i := 4) (d := some 37) (v := ?_) _ rfl rfl (by kernel_rfl) (by kernel_rfl) (by kernel_rfl) (fun _ _ _ h => h) (by rfl) ?_ (by assumption) ?_
    rotate_left
    · (intro w hSw; (try dsimp only at hSw); go_simp) <;> with_reducible rfl
    try simp only [Act.put, List.setIfInBounds_toArray, List.set_cons_zero, List.set_cons_succ]
    refine takeD (i := 5) (d := some 38) (v := ?_) _ rfl rfl (by kernel_rfl) (by kernel_rfl) (by kernel_rfl) (fun _ _ _ h => h) (by rfl) ?_ (by assumption) ?_
    rotate_left
    · (intro w hSw; (try dsimp only at hSw); go_simp) <;> with_reducible rfl
    try simp only [Act.put, List.setIfInBounds_toArray, List.set_cons_zero, List.set_cons_succ]
    refine takeD (i := 6) (d := some 39) (v := ?_) _ rfl rfl (by kernel_rfl) (by kernel_rfl) (by kernel_rfl) (fun _ _ _ h => h) (by rfl) ?_ (by assumption) ?_
    rotate_left
    · (intro w hSw; (try dsimp only at hSw); go_simp) <;> with_reducible rfl
    try simp only [Act.put, List.setIfInBounds_toArray, List.set_cons_zero, List.set_cons_succ]
    refine takeD (i := 7) (d := some 40) (v := ?_) _ rfl rfl (by kernel_rfl) (by kernel_rfl) (by kernel_rfl) (fun _ _ _ h => h) (by rfl) ?_ (by assumption) ?_
    rotate_left
    · (intro w hSw; (try dsimp only at hSw); go_simp) <;> with_reducible rfl
    try simp only [Act.put, List.setIfInBounds_toArray, List.set_cons_zero, List.set_cons_succ]
    refine takeD (i := 8) (d := some 32) (v := ?_) _ rfl rfl (by kernel_rfl) (by kernel_rfl) (by kernel_rfl) (fun _ _ _ h => h) (by rfl) ?_ (by assumption) ?_
    rotate_left
    · (intro w hSw; (try dsimp only at hSw); go_simp) <;> with_reducible rfl
    try simp only [Act.put, List.setIfInBounds_toArray, List.set_cons_zero, List.set_cons_succ]
    refine wpAnyH_done (by kernel_rfl) ?_ _
    obtain ⟨V1, hV1⟩ : ∃ V, W0.drew = V := ⟨_, rfl⟩
    rw [hV1] at hHeld
    rw [hV1]
    clear hV1 x0 x1 d0 d1 d2 d3
    obtain ⟨bV1, x0, x1, d0, d1, d2, d3⟩ := hHeld
    have BV1 := Lib.hid bV1
    clear bV1
    go_wp2_with fail
    refine wp_region_held_drew (S := (fun w' => Below V1.heap.size V1 w' ∧ w'.cell? ⟨X, 0, none⟩ = some (.int .i64 num) ∧ w'.cell? ⟨X, 1, none⟩ = some (.slice Am m cm) ∧ w'.cell? ⟨g, 0, none⟩ = some (.int .i64 r.words) ∧ w'.cell? ⟨g, 1, none⟩ = some (.int .i64 r.newest) ∧ w'.cell? ⟨g, 2, none⟩ = some (.int .u64 ((r.arr : Nat) : Int)) ∧ w'.cell? ⟨g, 3, none⟩ = some (.int .i64 r.lost))) (by kernel_rfl) ?_ (fun hHeld => ?_)
    · exact ⟨(Below.refl _ _).drew, x0, x1, d0, d1, d2, d3⟩
    refine takeD (i := 0) (d := some 41) (v := ?_) _ rfl rfl (by kernel_rfl) (by kernel_rfl) (by kernel_rfl) (fun _ _ _ h => h) (by rfl) ?_ (by assumption) ?_
    rotate_left
    · (intro w hSw; (try dsimp only at hSw); go_simp) <;> with_reducible rfl
    try simp only [Act.put, List.setIfInBounds_toArray, List.set_cons_zero, List.set_cons_succ]
    refine takeD (i := 1) (d := some 42) (v := ?_) _ rfl rfl (by kernel_rfl) (by kernel_rfl) (by kernel_rfl) (fun _ _ _ h => h) (by rfl) ?_ (by assumption) ?_
    rotate_left
    · (intro w hSw; (try dsimp only at hSw); go_simp) <;> with_reducible rfl
    try simp only [Act.put, List.setIfInBounds_toArray, List.set_cons_zero, List.set_cons_succ]
    refine takeD (i := 2) (d := some 43) (v := ?_) _ rfl rfl (by kernel_rfl) (by kernel_rfl) (by kernel_rfl) (fun _ _ _ h => h) (by rfl) ?_ (by assumption) ?_
    rotate_left
    · (intro w hSw; (try dsimp only at hSw); go_simp) <;> with_reducible rfl
    try simp only [Act.put, List.setIfInBounds_toArray, List.set_cons_zero, List.set_cons_succ]
    refine takeD (i := 3) (d := some 44) (v := ?_) _ rfl rfl (by kernel_rfl) (by kernel_rfl) (by kernel_rfl) (fun _ _ _ h => h) (by rfl) ?_ (by assumption) ?_
    rotate_left
    · (intro w hSw; (try dsimp only at hSw); go_simp) <;> with_reducible rfl
    try simp only [Act.put, List.setIfInBounds_toArray, List.set_cons_zero, List.set_cons_succ]
    refine takeD (i := 4) (d := some 45) (v := ?_) _ rfl rfl (by kernel_rfl) (by kernel_rfl) (by kernel_rfl) (fun _ _ _ h => h) (by rfl) ?_ (by assumption) ?_
    rotate_left
    · (intro w hSw; (try dsimp only at hSw); go_simp) <;> with_reducible rfl
    try simp only [Act.put, List.setIfInBounds_toArray, List.set_cons_zero, List.set_cons_succ]
    refine takeD (i := 5) (d := some 46) (v := ?_) _ rfl rfl (by kernel_rfl) (by kernel_rfl) (by kernel_rfl) (fun _ _ _ h => h) (by rfl) ?_ (by assumption) ?_
    rotate_left
    · (intro w hSw; (try dsimp only at hSw); go_simp) <;> with_reducible rfl
    try simp only [Act.put, List.setIfInBounds_toArray, List.set_cons_zero, List.set_cons_succ]
    refine takeD (i := 6) (d := some 47) (v := ?_) _ rfl rfl (by kernel_rfl) (by kernel_rfl) (by kernel_rfl) (fun _ _ _ h => h) (by rfl) ?_ (by assumption) ?_
    rotate_left
    · (intro w hSw; (try dsimp only at hSw); go_simp) <;> with_reducible rfl
    try simp only [Act.put, List.setIfInBounds_toArray, List.set_cons_zero, List.set_cons_succ]
    refine takeD (i := 7) (d := some 48) (v := ?_) _ rfl rfl (by kernel_rfl) (by kernel_rfl) (by kernel_rfl) (fun _ _ _ h => h) (by rfl) ?_ (by assumption) ?_
    rotate_left
    · (intro w hSw; (try dsimp only at hSw); go_simp) <;> with_reducible rfl
    try simp only [Act.put, List.setIfInBounds_toArray, List.set_cons_zero, List.set_cons_succ]
    refine takeD (i := 8) (d := some 49) (v := ?_) _ rfl rfl (by kernel_rfl) (by kernel_rfl) (by kernel_rfl) (fun _ _ _ h => h) (by rfl) ?_ (by assumption) ?_
    rotate_left
    · (intro w hSw; (try dsimp only at hSw); go_simp) <;> with_reducible rfl
    try simp only [Act.put, List.setIfInBounds_toArray, List.set_cons_zero, List.set_cons_succ]
    refine takeD (i := 9) (d := some 9) (v := ?_) _ rfl rfl (by kernel_rfl) (by kernel_rfl) (by kernel_rfl) (fun _ _ _ h => h) (by rfl) ?_ (by assumption) ?_
    rotate_left
    · (intro w hSw; (try dsimp only at hSw); go_simp) <;> with_reducible rfl
    try simp only [Act.put, List.setIfInBounds_toArray, List.set_cons_zero, List.set_cons_succ]
    refine wpAnyH_done (by kernel_rfl) ?_ _
    obtain ⟨V2, hV2⟩ : ∃ V, V1.drew = V := ⟨_, rfl⟩
    rw [hV2] at hHeld
    rw [hV2]
    clear hV2 x0 x1 d0 d1 d2 d3
    obtain ⟨bV2, x0, x1, d0, d1, d2, d3⟩ := hHeld
    have BV2 := Lib.hid bV2
    clear bV2
    have BF : Hid (Below X w V2) := B0.out.trans ((BV1.out.trans (BV2.out.mono BV1.out.size)).mono (by have := HB0.out.2; omega))
    have HGW : Hid (V2.heap[g]? = some (.cells #[.int .i64 r.words, .int .i64 r.newest, .int .u64 ((r.arr : Nat) : Int), .int .i64 r.lost] 90 (0, 0))) := (BV2.out.block g (by have := BV1.out.size; have := HB0.out.2; have := HGX.out; omega)).trans ((BV1.out.block g (by have := HB0.out.2; have := HGX.out; omega)).trans HR0.out.ce)
    have HXW : Hid (V2.heap[X]? = some (.cells #[.int .i64 num, .slice Am m cm] 44 (0, 0))) := (BV2.out.block X (by have := BV1.out.size; have := HB0.out.2; omega)).trans ((BV1.out.block X (by have := HB0.out.2; omega)).trans HB0.out.1)
    have SQW : Hid (Sq V2 P (.slice Am m cm) m (CU K)) := (SQ0.out.belowP BV1.out).belowP BV2.out
    have FWW : Hid (Fo (fun b => b = g) w V2) := Fo.of_below (by rw [hX]; exact BF.out)
    go_wp2_with fail
    refine wp_region_held_drew (S := (fun _ => True)) (by kernel_rfl) trivial (fun hHeld => ?_)
    clear hHeld
    refine takeD (i := 0) (d := some 75) (v := ?_) _ rfl rfl (by kernel_rfl) (by kernel_rfl) (by kernel_rfl) (fun _ _ _ h => h) (by rfl) ?_ trivial ?_
    rotate_left
    · (intro w hSw; (try dsimp only at hSw); go_simp) <;> with_reducible rfl
    try simp only [Act.put, List.setIfInBounds_toArray, List.set_cons_zero, List.set_cons_succ]
    refine takeD (i := 1) (d := some 76) (v := ?_) _ rfl rfl (by kernel_rfl) (by kernel_rfl) (by kernel_rfl) (fun _ _ _ h => h) (by rfl) ?_ trivial ?_
    rotate_left
    · (intro w hSw; (try dsimp only at hSw); go_simp) <;> with_reducible rfl
    try simp only [Act.put, List.setIfInBounds_toArray, List.set_cons_zero, List.set_cons_succ]
    refine takeD (i := 2) (d := some 77) (v := ?_) _ rfl rfl (by kernel_rfl) (by kernel_rfl) (by kernel_rfl) (fun _ _ _ h => h) (by rfl) ?_ trivial ?_
    rotate_left
    · (intro w hSw; (try dsimp only at hSw); go_simp) <;> with_reducible rfl
    try simp only [Act.put, List.setIfInBounds_toArray, List.set_cons_zero, List.set_cons_succ]
    refine takeD (i := 4) (d := some 79) (v := ?_) _ rfl rfl (by kernel_rfl) (by kernel_rfl) (by kernel_rfl) (fun _ _ _ h => h) (by rfl) ?_ trivial ?_
    rotate_left
    · (intro w hSw; (try dsimp only at hSw); go_simp) <;> with_reducible rfl
    try simp only [Act.put, List.setIfInBounds_toArray, List.set_cons_zero, List.set_cons_succ]
    refine takeD (i := 5) (d := some 80) (v := ?_) _ rfl rfl (by kernel_rfl) (by kernel_rfl) (by kernel_rfl) (fun _ _ _ h => h) (by rfl) ?_ trivial ?_
    rotate_left
    · (intro w hSw; (try dsimp only at hSw); go_simp) <;> with_reducible rfl
    try simp only [Act.put, List.setIfInBounds_toArray, List.set_cons_zero, List.set_cons_succ]
    refine wpAnyH_ready (rs := [3]) (by kernel_rfl) (by simp) ?_
    refine AllReadyH.cons rfl (fun K0 hK => ?_) (AllReadyH.nil)
    have l0 : V2.drew.cell? ⟨g, 2, none⟩ = some (.int .u64 (r.arr : Int)) := d2
    try go_simp
    refine hK.out _ _ trivial (fun _ => ?_)
    clear l0
    clear hK K0
    try simp only [Act.put, List.getElem_toArray, List.getElem_cons_succ, List.getElem_cons_zero, List.setIfInBounds_toArray, List.set_cons_zero, List.set_cons_succ]
    refine takeD (i := 6) (d := some 81) (v := ?_) _ rfl rfl (by kernel_rfl) (by kernel_rfl) (by kernel_rfl) (fun _ _ _ h => h) (by rfl) ?_ trivial ?_
    rotate_left
    · (intro w hSw; (try dsimp only at hSw); go_simp) <;> with_reducible rfl
    try simp only [Act.put, List.setIfInBounds_toArray, List.set_cons_zero, List.set_cons_succ]
    refine takeD (i := 7) (d := some 82) (v := ?_) _ rfl rfl (by kernel_rfl) (by kernel_rfl) (by kernel_rfl) (fun _ _ _ h => h) (by rfl) ?_ trivial ?_
    rotate_left
    · (intro w hSw; (try dsimp only at hSw); go_simp) <;> with_reducible rfl
    try simp only [Act.put, List.setIfInBounds_toArray, List.set_cons_zero, List.set_cons_succ]
    refine takeD (i := 8) (d := some 83) (v := ?_) _ rfl rfl (by kernel_rfl) (by kernel_rfl) (by kernel_rfl) (fun _ _ _ h => h) (by rfl) ?_ trivial ?_
    rotate_left
    · (intro w hSw; (try dsimp only at hSw); go_simp) <;> with_reducible rfl
    try simp only [Act.put, List.setIfInBounds_toArray, List.set_cons_zero, List.set_cons_succ]
    try rw [hor]
    obtain ⟨V3, hV3⟩ : ∃ V, V2.drew = V := ⟨_, rfl⟩
    have BV3 : Hid (Below V2.heap.size V2 V3) := by rw [← hV3]; exact (Below.refl _ _).drew
    simp only [hV3]
    clear hV3
    have HG3 : Hid (V3.heap[g]? = some (.cells #[.int .i64 r.words, .int .i64 r.newest, .int .u64 ((r.arr : Nat) : Int), .int .i64 r.lost] 90 (0, 0))) := (BV3.out.block g (Array.getElem?_eq_some_iff.1 HGW.out).1).trans HGW.out
    have g2 : V3.cell? ⟨g, 2, none⟩ = some (.int .u64 (r.arr : Int)) := by rw [(row_cell HG3.out 2).1]; rfl
    have gf : V3.frozen? ⟨g, 2, none⟩ = false := (row_cell HG3.out 2).2
    obtain ⟨V4, hV4⟩ : ∃ V, V3.setCell ⟨g, 2, none⟩ (.int .u64 (((r.arr ||| 2 ^ o) : Nat) : Int)) = V := ⟨_, rfl⟩
    have FV4 : Hid (Fo (fun b => b = g) V3 V4) := by rw [← hV4]; exact (Fo.refl (fun b => b = g) V3).setCell (.inl rfl) 2 _
    have HG4 : Hid (RV V4 g { r with arr := r.arr ||| 2 ^ o }) := ⟨by rw [← hV4]; simpa using set_at HG3.out 2 (.int .u64 (((r.arr ||| 2 ^ o) : Nat) : Int)), ⟨HOK.out.w, HOK.out.n, or_lt _ _ HOK.out.a (by have := HO.out; omega), HOK.out.l⟩⟩
    have HX4 : Hid (V4.heap[X]? = some (.cells #[.int .i64 num, .slice Am m cm] 44 (0, 0))) := (FV4.out.block X (by have := (Array.getElem?_eq_some_iff.1 HXW.out).1; have := BV3.out.size; omega) (by have := HGX.out; omega)).trans ((BV3.out.block X (Array.getElem?_eq_some_iff.1 HXW.out).1).trans HXW.out)
    have SQ4 : Hid (Sq V4 P (.slice Am m cm) m (CU K)) := (((SQW.out.belowP BV3.out).fo FV4.out fun b hb e => HPG.out (by rw [← e]; exact hb)).imp fun b _ hb => hb.2)
    have FW4 : Hid (Fo (fun b => b = g) w V4) := (FWW.out.trans (Fo.of_below (p := fun _ => False) BV3.out) fun i hi => hi.elim).trans FV4.out fun i hi => .inl hi
    refine wpAnyH_ready (rs := [9]) (by kernel_rfl) (by simp) ?_
    refine AllReadyH.cons rfl (fun K0 hK => ?_) (AllReadyH.nil)
    try go_simp
    try rw [hor]
    try rw [hV4]
    refine hK.out _ _ trivial (fun hHeld => ?_)
    clear hHeld hV4 g2 gf
    clear hK K0
    try simp only [Act.put, List.getElem_toArray, List.getElem_cons_succ, List.getElem_cons_zero, List.setIfInBounds_toArray, List.set_cons_zero, List.set_cons_succ]
    refine wpAnyH_done (by kernel_rfl) ?_ _
    have x1 : V4.cell? ⟨X, 1, none⟩ = some (.slice Am m cm) := by rw [(row_cell HX4.out 1).1]; rfl
    have CE := Lib.hid (U.uclone_any _ _ _ _ V4 SQ4.out.st (CU_one _) (by have := HM.out; omega))
    go_wp2_with fail
    refine CE.out.mono ?_
    rintro e w5 ⟨⟨rv, rfl, r5⟩, b5⟩
    obtain ⟨A5, c5', rfl⟩ := slice_form r5
    have O5 : Hid (Ow 47 w5 (fun b => w.heap.size ≤ b) (.slice A5 m c5') m (CU K)) := (Ow.of_own r5).imp fun b _ hb => by have := FW4.out.size; omega
    have HG5 := Lib.hid (HG4.out.below b5)
    have FW5 : Hid (Fo (fun b => b = g) w w5) := FW4.out.trans (Fo.of_below (p := fun _ => False) b5) fun i hi => hi.elim
    clear r5 b5 CE x1
    go_wp2_with fail
    go_ret3
    exact ⟨A5, c5', rfl, O5.out, HG5.out, FW5.out⟩
set_option maxRecDepth 100000 in
set_option maxHeartbeats 8000000 in
theorem take_new (g : Nat) (r : RcS) (net num : Int) (P : Nat → Prop) (Am : Option Addr) (m cm : Nat) (K : List Int) (w : World) (h : RV w g r) (hv : Sq w P (.slice Am m cm) m (CU K)) (hpg : ¬ P g) (ha : 0 ≤ net ∧ net ≤ 1 ∧ 0 ≤ num ∧ num ≤ 255) (hl : (m : Int) ≤ r.words) (hdo : 1 ≤ tkD r num ∧ tkD r num ≤ 127) (hls : r.lost ≤ 1099511627776) : Calls Try.prog 20 #[.pointer (some ⟨g, 0, none⟩), .int .i64 net, .agg #[.int .i64 num, .slice Am m cm]] w fun e w' => ∃ A' c', e = .returned (.tuple #[.slice A' m c', .bool true, .int .i64 0]) ∧ Ow 47 w' (fun b => w.heap.size ≤ b) (.slice A' m c') m (CU K) ∧ RV w' g { words := r.words, newest := (r.newest + ((tkD r num).toNat : Int)).tmod 256, arr := advA r.arr (tkD r num).toNat ||| 1, lost := r.lost + (advL r.arr (tkD r num).toNat : Int) : RcS } ∧ Fo (fun b => b = g) w w' := by
  have hoo : True := trivial
  obtain ⟨X, hX⟩ : ∃ X, w.heap.size = X := ⟨_, rfl⟩
  obtain ⟨W0, hW0⟩ : ∃ W0, w.alloc (.cells #[.int .i64 num, .slice Am m cm] 44) = W0 := ⟨_, rfl⟩
  have B0 : Hid (Below X w W0) := by rw [← hW0, ← hX]; exact ((Below.refl _ _).alloc (Nat.le_refl _) _)
  have HB0 : Hid (W0.heap[X]? = some (.cells #[.int .i64 num, .slice Am m cm] 44 (0, 0)) ∧ W0.heap.size = X + 1) := by rw [← hW0, ← hX]; exact ⟨heap_alloc_new _ _, by simp⟩
  have HR0 := Lib.hid (h.below (by rw [hX]; exact B0.out))
  have x0 : W0.cell? ⟨X, 0, none⟩ = some (.int .i64 num) := by rw [(row_cell HB0.out.1 0).1]; rfl
  have x1 : W0.cell? ⟨X, 1, none⟩ = some (.slice Am m cm) := by rw [(row_cell HB0.out.1 1).1]; rfl
  have d0 : W0.cell? ⟨g, 0, none⟩ = some (.int .i64 r.words) := by rw [(row_cell HR0.out.ce 0).1]; rfl
  have d1 : W0.cell? ⟨g, 1, none⟩ = some (.int .i64 r.newest) := by rw [(row_cell HR0.out.ce 1).1]; rfl
  have d2 : W0.cell? ⟨g, 2, none⟩ = some (.int .u64 ((r.arr : Nat) : Int)) := by rw [(row_cell HR0.out.ce 2).1]; rfl
  have d3 : W0.cell? ⟨g, 3, none⟩ = some (.int .i64 r.lost) := by rw [(row_cell HR0.out.ce 3).1]; rfl
  have c1 : decide (net < 0) = false := by simpa using ha.1
  have c2 : decide (2 ≤ net) = false := by simp; omega
  have c3 : decide (num < 0) = false := by simpa using ha.2.2.1
  have c4 : decide (256 ≤ num) = false := by simp; omega
  have c5 : decide (r.words < (m : Int)) = false := by simpa using hl
  obtain ⟨d, hdI⟩ : ∃ d : Nat, tkD r num = (d : Int) := ⟨(tkD r num).toNat, by have := tkD_bd h.ok ha.2.2; omega⟩
  obtain ⟨o, hoI⟩ : ∃ o : Nat, tkO r num = (o : Int) := ⟨(tkO r num).toNat, by have := tkO_bd h.ok ha.2.2; omega⟩
  have hd2 : (num - r.newest + 256).tmod 256 = (d : Int) := hdI
  have ho2 : (256 - (d : Int)).tmod 256 = (o : Int) := by rw [← hdI]; exact hoI
  have hbd := tkD_bd h.ok ha.2.2
  rw [hdI] at hbd hdo
  have hw : IntKind.i64.wrap (num - r.newest) = num - r.newest := by have := h.ok.n; rw [IntKind.wrap_i64]; omega
  have hw2 : IntKind.i64.wrap (num - r.newest + 256) = num - r.newest + 256 := by have := h.ok.n; rw [IntKind.wrap_i64]; omega
  have hw3 : IntKind.i64.wrap (256 - (d : Int)) = 256 - (d : Int) := by rw [IntKind.wrap_i64]; omega
  have HM : Hid (m ≤ 32) := by have := h.ok.w; unfold Hid; omega
  have HPG := Lib.hid hpg
  have HGX : Hid (g < X) := by have := h.lt; unfold Hid; omega
  have SQ0 : Hid (Sq W0 P (.slice Am m cm) m (CU K)) := hv.belowP (by rw [hX]; exact B0.out)
  have HOK := Lib.hid h.ok
  have hdN : (tkD r num).toNat = d := by omega
  have e6 : decide (1 ≤ (d : Int)) = true := by simp; omega
  have e7 : decide ((d : Int) ≤ 127) = true := by simp; omega
  have HD : Hid (1 ≤ d ∧ d ≤ 127) := by unfold Hid; omega
  have HLS : Hid (0 ≤ r.lost ∧ r.lost ≤ 1099511627776) := ⟨h.ok.l, hls⟩
  have hor : bits BinOp.or IntKind.u64 ((advA r.arr d : Nat) : Int) (IntKind.u64.wrap 1) = ((advA r.arr d ||| 1 : Nat) : Int) := by
    rw [show IntKind.u64.wrap 1 = ((1 : Nat) : Int) by rw [IntKind.wrap_u64]; rfl]
    exact (bits_nat .u64 64 (by decide) wraps_u64 (advA r.arr d) 1 (advA_lt h.ok.a d) (by decide)).2
  rw [hdN]
  clear h ha hl hdI hoI hv hpg hdN hbd hdo hoo hls
  go_enter Try.func20, Try.ntmps20
  go_wp2_with fail
  refine wp_region_held_drew (S := (fun w' => Below W0.heap.size W0 w' ∧ w'.cell? ⟨X, 0, none⟩ = some (.int .i64 num) ∧ w'.cell? ⟨X, 1, none⟩ = some (.slice Am m cm) ∧ w'.cell? ⟨g, 0, none⟩ = some (.int .i64 r.words) ∧ w'.cell? ⟨g, 1, none⟩ = some (.int .i64 r.newest) ∧ w'.cell? ⟨g, 2, none⟩ = some (.int .u64 ((r.arr : Nat) : Int)) ∧ w'.cell? ⟨g, 3, none⟩ = some (.int .i64 r.lost))) (by kernel_rfl) ?_ (fun hHeld => ?_)
  · exact ⟨(Below.refl _ _).drew, x0, x1, d0, d1, d2, d3⟩
  refine takeD (i := 0) (d := some 33) (v := ?_) _ rfl rfl (by kernel_rfl) (by kernel_rfl) (by kernel_rfl) (fun _ _ _ h => h) (by rfl) ?_ (by assumption) ?_
  rotate_left
  · (intro w hSw; (try dsimp only at hSw); go_simp) <;> with_reducible rfl
  try simp only [Act.put, List.setIfInBounds_toArray, List.set_cons_zero, List.set_cons_succ]
  refine takeD (i := 1) (d := some 34) (v := ?_) _ rfl rfl (by kernel_rfl) (by kernel_rfl) (by kernel_rfl) (fun _ _ _ h => h) (by rfl) ?_ (by assumption) ?_
  rotate_left
  · (intro w hSw; (try dsimp only at hSw); go_simp) <;> with_reducible rfl
  try simp only [Act.put, List.setIfInBounds_toArray, List.set_cons_zero, List.set_cons_succ]
  refine takeD (i := 2) (d := some 35) (v := ?_) _ rfl rfl (by kernel_rfl) (by kernel_rfl) (by kernel_rfl) (fun _ _ _ h => h) (by rfl) ?_ (by assumption) ?_
  rotate_left
  · (intro w hSw; (try dsimp only at hSw); go_simp) <;> with_reducible rfl
  try simp only [Act.put, List.setIfInBounds_toArray, List.set_cons_zero, List.set_cons_succ]
  refine takeD (i := 3) (d := some 36) (v := ?_) _ rfl rfl (by kernel_rfl) (by kernel_rfl) (by kernel_rfl) (fun _ _ _ h => h) (by rfl) ?_ (by assumption) ?_
  rotate_left
  · (intro w hSw; (try dsimp only at hSw); go_simp) <;> with_reducible rfl
  try simp only [Act.put, List.setIfInBounds_toArray, List.set_cons_zero, List.set_cons_succ]
  refine takeD (i := 4) (d := some 37) (v := ?_) _ rfl rfl (by kernel_rfl) (by kernel_rfl) (by kernel_rfl) (fun _ _ _ h => h) (by rfl) ?_ (by assumption) ?_
  rotate_left
  · (intro w hSw; (try dsimp only at hSw); go_simp) <;> with_reducible rfl
  try simp only [Act.put, List.setIfInBounds_toArray, List.set_cons_zero, List.set_cons_succ]
  refine takeD (i := 5) (d := some 38) (v := ?_) _ rfl rfl (by kernel_rfl) (by kernel_rfl) (by kernel_rfl) (fun _ _ _ h => h) (by rfl) ?_ (by assumption) ?_
  rotate_left
  · (intro w hSw; (try dsimp only at hSw); go_simp) <;> with_reducible rfl
  try simp only [Act.put, List.setIfInBounds_toArray, List.set_cons_zero, List.set_cons_succ]
  refine takeD (i := 6) (d := some 39) (v := ?_) _ rfl rfl (by kernel_rfl) (by kernel_rfl) (by kernel_rfl) (fun _ _ _ h => h) (by rfl) ?_ (by assumption) ?_
  rotate_left
  · (intro w hSw; (try dsimp only at hSw); go_simp) <;> with_reducible rfl
  try simp only [Act.put, List.setIfInBounds_toArray, List.set_cons_zero, List.set_cons_succ]
  refine takeD (i := 7) (d := some 40) (v := ?_) _ rfl rfl (by kernel_rfl) (by kernel_rfl) (by kernel_rfl) (fun _ _ _ h => h) (by rfl) ?_ (by assumption) ?_
  rotate_left
  · (intro w hSw; (try dsimp only at hSw); go_simp) <;> with_reducible rfl
  try simp only [Act.put, List.setIfInBounds_toArray, List.set_cons_zero, List.set_cons_succ]
  refine takeD (i := 8) (d := some 32) (v := ?_) _ rfl rfl (by kernel_rfl) (by kernel_rfl) (by kernel_rfl) (fun _ _ _ h => h) (by rfl) ?_ (by assumption) ?_
  rotate_left
  · (intro w hSw; (try dsimp only at hSw); go_simp) <;> with_reducible rfl
  try simp only [Act.put, List.setIfInBounds_toArray, List.set_cons_zero, List.set_cons_succ]
  refine wpAnyH_done (by kernel_rfl) ?_ _
  obtain ⟨V1, hV1⟩ : ∃ V, W0.drew = V := ⟨_, rfl⟩
  rw [hV1] at hHeld
  rw [hV1]
  clear hV1 x0 x1 d0 d1 d2 d3
  obtain ⟨bV1, x0, x1, d0, d1, d2, d3⟩ := hHeld
  have BV1 := Lib.hid bV1
  clear bV1
  go_wp2_with fail
  refine wp_region_held_drew (S := (fun w' => Below V1.heap.size V1 w' ∧ w'.cell? ⟨X, 0, none⟩ = some (.int .i64 num) ∧ w'.cell? ⟨X, 1, none⟩ = some (.slice Am m cm) ∧ w'.cell? ⟨g, 0, none⟩ = some (.int .i64 r.words) ∧ w'.cell? ⟨g, 1, none⟩ = some (.int .i64 r.newest) ∧ w'.cell? ⟨g, 2, none⟩ = some (.int .u64 ((r.arr : Nat) : Int)) ∧ w'.cell? ⟨g, 3, none⟩ = some (.int .i64 r.lost))) (by kernel_rfl) ?_ (fun hHeld => ?_)
  · exact ⟨(Below.refl _ _).drew, x0, x1, d0, d1, d2, d3⟩
  refine takeD (i := 0) (d := some 41) (v := ?_) _ rfl rfl (by kernel_rfl) (by kernel_rfl) (by kernel_rfl) (fun _ _ _ h => h) (by rfl) ?_ (by assumption) ?_
  rotate_left
  · (intro w hSw; (try dsimp only at hSw); go_simp) <;> with_reducible rfl
  try simp only [Act.put, List.setIfInBounds_toArray, List.set_cons_zero, List.set_cons_succ]
  refine takeD (i := 1) (d := some 42) (v := ?_) _ rfl rfl (by kernel_rfl) (by kernel_rfl) (by kernel_rfl) (fun _ _ _ h => h) (by rfl) ?_ (by assumption) ?_
  rotate_left
  · (intro w hSw; (try dsimp only at hSw); go_simp) <;> with_reducible rfl
  try simp only [Act.put, List.setIfInBounds_toArray, List.set_cons_zero, List.set_cons_succ]
  refine takeD (i := 2) (d := some 43) (v := ?_) _ rfl rfl (by kernel_rfl) (by kernel_rfl) (by kernel_rfl) (fun _ _ _ h => h) (by rfl) ?_ (by assumption) ?_
  rotate_left
  · (intro w hSw; (try dsimp only at hSw); go_simp) <;> with_reducible rfl
  try simp only [Act.put, List.setIfInBounds_toArray, List.set_cons_zero, List.set_cons_succ]
  refine takeD (i := 3) (d := some 44) (v := ?_) _ rfl rfl (by kernel_rfl) (by kernel_rfl) (by kernel_rfl) (fun _ _ _ h => h) (by rfl) ?_ (by assumption) ?_
  rotate_left
  · (intro w hSw; (try dsimp only at hSw); go_simp) <;> with_reducible rfl
  try simp only [Act.put, List.setIfInBounds_toArray, List.set_cons_zero, List.set_cons_succ]
  refine takeD (i := 4) (d := some 45) (v := ?_) _ rfl rfl (by kernel_rfl) (by kernel_rfl) (by kernel_rfl) (fun _ _ _ h => h) (by rfl) ?_ (by assumption) ?_
  rotate_left
  · (intro w hSw; (try dsimp only at hSw); go_simp) <;> with_reducible rfl
  try simp only [Act.put, List.setIfInBounds_toArray, List.set_cons_zero, List.set_cons_succ]
  refine takeD (i := 5) (d := some 46) (v := ?_) _ rfl rfl (by kernel_rfl) (by kernel_rfl) (by kernel_rfl) (fun _ _ _ h => h) (by rfl) ?_ (by assumption) ?_
  rotate_left
  · (intro w hSw; (try dsimp only at hSw); go_simp) <;> with_reducible rfl
  try simp only [Act.put, List.setIfInBounds_toArray, List.set_cons_zero, List.set_cons_succ]
  refine takeD (i := 6) (d := some 47) (v := ?_) _ rfl rfl (by kernel_rfl) (by kernel_rfl) (by kernel_rfl) (fun _ _ _ h => h) (by rfl) ?_ (by assumption) ?_
  rotate_left
  · (intro w hSw; (try dsimp only at hSw); go_simp) <;> with_reducible rfl
  try simp only [Act.put, List.setIfInBounds_toArray, List.set_cons_zero, List.set_cons_succ]
  refine takeD (i := 7) (d := some 48) (v := ?_) _ rfl rfl (by kernel_rfl) (by kernel_rfl) (by kernel_rfl) (fun _ _ _ h => h) (by rfl) ?_ (by assumption) ?_
  rotate_left
  · (intro w hSw; (try dsimp only at hSw); go_simp) <;> with_reducible rfl
  try simp only [Act.put, List.setIfInBounds_toArray, List.set_cons_zero, List.set_cons_succ]
  refine takeD (i := 8) (d := some 49) (v := ?_) _ rfl rfl (by kernel_rfl) (by kernel_rfl) (by kernel_rfl) (fun _ _ _ h => h) (by rfl) ?_ (by assumption) ?_
  rotate_left
  · (intro w hSw; (try dsimp only at hSw); go_simp) <;> with_reducible rfl
  try simp only [Act.put, List.setIfInBounds_toArray, List.set_cons_zero, List.set_cons_succ]
  refine takeD (i := 9) (d := some 9) (v := ?_) _ rfl rfl (by kernel_rfl) (by kernel_rfl) (by kernel_rfl) (fun _ _ _ h => h) (by rfl) ?_ (by assumption) ?_
  rotate_left
  · (intro w hSw; (try dsimp only at hSw); go_simp) <;> with_reducible rfl
  try simp only [Act.put, List.setIfInBounds_toArray, List.set_cons_zero, List.set_cons_succ]
  refine wpAnyH_done (by kernel_rfl) ?_ _
  obtain ⟨V2, hV2⟩ : ∃ V, V1.drew = V := ⟨_, rfl⟩
  rw [hV2] at hHeld
  rw [hV2]
  clear hV2 x0 x1 d0 d1 d2 d3
  obtain ⟨bV2, x0, x1, d0, d1, d2, d3⟩ := hHeld
  have BV2 := Lib.hid bV2
  clear bV2
  have BF : Hid (Below X w V2) := B0.out.trans ((BV1.out.trans (BV2.out.mono BV1.out.size)).mono (by have := HB0.out.2; omega))
  have HGV : Hid (V2.heap[g]? = some (.cells #[.int .i64 r.words, .int .i64 r.newest, .int .u64 ((r.arr : Nat) : Int), .int .i64 r.lost] 90 (0, 0))) := (BV2.out.block g (by have := BV1.out.size; have := HB0.out.2; have := HGX.out; omega)).trans ((BV1.out.block g (by have := HB0.out.2; have := HGX.out; omega)).trans HR0.out.ce)
  have HXV : Hid (V2.heap[X]? = some (.cells #[.int .i64 num, .slice Am m cm] 44 (0, 0))) := (BV2.out.block X (by have := BV1.out.size; have := HB0.out.2; omega)).trans ((BV1.out.block X (by have := HB0.out.2; omega)).trans HB0.out.1)
  have AD := Lib.hid (advance_any g r.words r.newest r.arr d r.lost V2 HGV.out HD.out HOK.out.a HOK.out.n HLS.out)
  clear x0 x1 d0 d1 d2 d3
  go_wp2_with fail
  refine AD.out.mono ?_
  rintro e wa ⟨rfl, hga, fa⟩
  have HGW : Hid (wa.heap[g]? = some (.cells #[.int .i64 r.words, .int .i64 ((r.newest + (d : Int)).tmod 256), .int .u64 ((advA r.arr d : Nat) : Int), .int .i64 (r.lost + (advL r.arr d : Int))] 90 (0, 0))) := hga
  have HXW : Hid (wa.heap[X]? = some (.cells #[.int .i64 num, .slice Am m cm] 44 (0, 0))) := (fa.block X (Array.getElem?_eq_some_iff.1 HXV.out).1 (by have := HGX.out; omega)).trans HXV.out
  have SQW : Hid (Sq wa P (.slice Am m cm) m (CU K)) := ((((SQ0.out.belowP BV1.out).belowP BV2.out).fo fa fun b hb e => HPG.out (by rw [← e]; exact hb)).imp fun b _ hb => hb.2)
  have FWW : Hid (Fo (fun b => b = g) w wa) := (Fo.of_below (by rw [hX]; exact BF.out)).trans fa fun i hi => .inl hi
  have d2 : wa.cell? ⟨g, 2, none⟩ = some (.int .u64 ((advA r.arr d : Nat) : Int)) := by rw [(row_cell hga 2).1]; rfl
  clear hga fa AD
  go_wp2_with fail
  refine wp_region_held_drew (S := (fun _ => True)) (by kernel_rfl) trivial (fun hHeld => ?_)
  clear hHeld
  refine takeD (i := 0) (d := some 75) (v := ?_) _ rfl rfl (by kernel_rfl) (by kernel_rfl) (by kernel_rfl) (fun _ _ _ h => h) (by rfl) ?_ trivial ?_
  rotate_left
  · (intro w hSw; (try dsimp only at hSw); go_simp) <;> with_reducible rfl
  try simp only [Act.put, List.setIfInBounds_toArray, List.set_cons_zero, List.set_cons_succ]
  refine takeD (i := 1) (d := some 76) (v := ?_) _ rfl rfl (by kernel_rfl) (by kernel_rfl) (by kernel_rfl) (fun _ _ _ h => h) (by rfl) ?_ trivial ?_
  rotate_left
  · (intro w hSw; (try dsimp only at hSw); go_simp) <;> with_reducible rfl
  try simp only [Act.put, List.setIfInBounds_toArray, List.set_cons_zero, List.set_cons_succ]
  refine takeD (i := 2) (d := some 77) (v := ?_) _ rfl rfl (by kernel_rfl) (by kernel_rfl) (by kernel_rfl) (fun _ _ _ h => h) (by rfl) ?_ trivial ?_
  rotate_left
  · (intro w hSw; (try dsimp only at hSw); go_simp) <;> with_reducible rfl
  try simp only [Act.put, List.setIfInBounds_toArray, List.set_cons_zero, List.set_cons_succ]
  refine takeD (i := 4) (d := some 79) (v := ?_) _ rfl rfl (by kernel_rfl) (by kernel_rfl) (by kernel_rfl) (fun _ _ _ h => h) (by rfl) ?_ trivial ?_
  rotate_left
  · (intro w hSw; (try dsimp only at hSw); go_simp) <;> with_reducible rfl
  try simp only [Act.put, List.setIfInBounds_toArray, List.set_cons_zero, List.set_cons_succ]
  refine takeD (i := 5) (d := some 80) (v := ?_) _ rfl rfl (by kernel_rfl) (by kernel_rfl) (by kernel_rfl) (fun _ _ _ h => h) (by rfl) ?_ trivial ?_
  rotate_left
  · (intro w hSw; (try dsimp only at hSw); go_simp) <;> with_reducible rfl
  try simp only [Act.put, List.setIfInBounds_toArray, List.set_cons_zero, List.set_cons_succ]
  refine wpAnyH_ready (rs := [3]) (by kernel_rfl) (by simp) ?_
  refine AllReadyH.cons rfl (fun K0 hK => ?_) (AllReadyH.nil)
  have l0 : wa.drew.cell? ⟨g, 2, none⟩ = some (.int .u64 ((advA r.arr d : Nat) : Int)) := d2
  try go_simp
  refine hK.out _ _ trivial (fun _ => ?_)
  clear l0
  clear hK K0
  try simp only [Act.put, List.getElem_toArray, List.getElem_cons_succ, List.getElem_cons_zero, List.setIfInBounds_toArray, List.set_cons_zero, List.set_cons_succ]
  refine takeD (i := 6) (d := some 81) (v := ?_) _ rfl rfl (by kernel_rfl) (by kernel_rfl) (by kernel_rfl) (fun _ _ _ h => h) (by rfl) ?_ trivial ?_
  rotate_left
  · (intro w hSw; (try dsimp only at hSw); go_simp) <;> with_reducible rfl
  try simp only [Act.put, List.setIfInBounds_toArray, List.set_cons_zero, List.set_cons_succ]
  refine takeD (i := 7) (d := some 82) (v := ?_) _ rfl rfl (by kernel_rfl) (by kernel_rfl) (by kernel_rfl) (fun _ _ _ h => h) (by rfl) ?_ trivial ?_
  rotate_left
  · (intro w hSw; (try dsimp only at hSw); go_simp) <;> with_reducible rfl
  try simp only [Act.put, List.setIfInBounds_toArray, List.set_cons_zero, List.set_cons_succ]
  refine takeD (i := 8) (d := some 83) (v := ?_) _ rfl rfl (by kernel_rfl) (by kernel_rfl) (by kernel_rfl) (fun _ _ _ h => h) (by rfl) ?_ trivial ?_
  rotate_left
  · (intro w hSw; (try dsimp only at hSw); go_simp) <;> with_reducible rfl
  try simp only [Act.put, List.setIfInBounds_toArray, List.set_cons_zero, List.set_cons_succ]
  try rw [hor]
  obtain ⟨V3, hV3⟩ : ∃ V, wa.drew = V := ⟨_, rfl⟩
  have BV3 : Hid (Below wa.heap.size wa V3) := by rw [← hV3]; exact (Below.refl _ _).drew
  simp only [hV3]
  clear hV3
  have HG3 : Hid (V3.heap[g]? = some (.cells #[.int .i64 r.words, .int .i64 ((r.newest + (d : Int)).tmod 256), .int .u64 ((advA r.arr d : Nat) : Int), .int .i64 (r.lost + (advL r.arr d : Int))] 90 (0, 0))) := (BV3.out.block g (Array.getElem?_eq_some_iff.1 HGW.out).1).trans HGW.out
  have g2 : V3.cell? ⟨g, 2, none⟩ = some (.int .u64 ((advA r.arr d : Nat) : Int)) := by rw [(row_cell HG3.out 2).1]; rfl
  have gf : V3.frozen? ⟨g, 2, none⟩ = false := (row_cell HG3.out 2).2
  obtain ⟨V4, hV4⟩ : ∃ V, V3.setCell ⟨g, 2, none⟩ (.int .u64 (((advA r.arr d ||| 1) : Nat) : Int)) = V := ⟨_, rfl⟩
  have FV4 : Hid (Fo (fun b => b = g) V3 V4) := by rw [← hV4]; exact (Fo.refl (fun b => b = g) V3).setCell (.inl rfl) 2 _
  have HG4 : Hid (RV V4 g { words := r.words, newest := (r.newest + (d : Int)).tmod 256, arr := advA r.arr d ||| 1, lost := r.lost + (advL r.arr d : Int) : RcS }) := ⟨by rw [← hV4]; simpa using set_at HG3.out 2 (.int .u64 (((advA r.arr d ||| 1) : Nat) : Int)), ⟨HOK.out.w, ⟨Int.tmod_nonneg _ (by have := HOK.out.n; omega), Int.tmod_lt_of_pos _ (by decide)⟩, or_lt (advA r.arr d) 0 (advA_lt HOK.out.a d) (by omega), by have := HOK.out.l; show 0 ≤ r.lost + (advL r.arr d : Int); omega⟩⟩
  have HX4 : Hid (V4.heap[X]? = some (.cells #[.int .i64 num, .slice Am m cm] 44 (0, 0))) := (FV4.out.block X (by have := (Array.getElem?_eq_some_iff.1 HXW.out).1; have := BV3.out.size; omega) (by have := HGX.out; omega)).trans ((BV3.out.block X (Array.getElem?_eq_some_iff.1 HXW.out).1).trans HXW.out)
  have SQ4 : Hid (Sq V4 P (.slice Am m cm) m (CU K)) := (((SQW.out.belowP BV3.out).fo FV4.out fun b hb e => HPG.out (by rw [← e]; exact hb)).imp fun b _ hb => hb.2)
  have FW4 : Hid (Fo (fun b => b = g) w V4) := (FWW.out.trans (Fo.of_below (p := fun _ => False) BV3.out) fun i hi => hi.elim).trans FV4.out fun i hi => .inl hi
  refine wpAnyH_ready (rs := [9]) (by kernel_rfl) (by simp) ?_
  refine AllReadyH.cons rfl (fun K0 hK => ?_) (AllReadyH.nil)
  try go_simp
  try rw [hor]
  try rw [hV4]
  refine hK.out _ _ trivial (fun hHeld => ?_)
  clear hHeld hV4 g2 gf
  clear hK K0
  try simp only [Act.put, List.getElem_toArray, List.getElem_cons_succ, List.getElem_cons_zero, List.setIfInBounds_toArray, List.set_cons_zero, List.set_cons_succ]
  refine wpAnyH_done (by kernel_rfl) ?_ _
  have x1 : V4.cell? ⟨X, 1, none⟩ = some (.slice Am m cm) := by rw [(row_cell HX4.out 1).1]; rfl
  have CE := Lib.hid (U.uclone_any _ _ _ _ V4 SQ4.out.st (CU_one _) (by have := HM.out; omega))
  go_wp2_with fail
  refine CE.out.mono ?_
  rintro e w5 ⟨⟨rv, rfl, r5⟩, b5⟩
  obtain ⟨A5, c5', rfl⟩ := slice_form r5
  have O5 : Hid (Ow 47 w5 (fun b => w.heap.size ≤ b) (.slice A5 m c5') m (CU K)) := (Ow.of_own r5).imp fun b _ hb => by have := FW4.out.size; omega
  have HG5 := Lib.hid (HG4.out.below b5)
  have FW5 : Hid (Fo (fun b => b = g) w w5) := FW4.out.trans (Fo.of_below (p := fun _ => False) b5) fun i hi => hi.elim
  clear r5 b5 CE x1
  go_wp2_with fail
  go_ret3
  exact ⟨A5, c5', rfl, O5.out, HG5.out, FW5.out⟩
/-- The error of a frame that comes. -/
def tkE (r : RcS) (net num : Int) (m : Nat) : Int := if 0 ≤ net ∧ net ≤ 1 ∧ 0 ≤ num ∧ num ≤ 255 then (if r.words < (m : Int) then 2 else if 1 ≤ tkD r num ∧ tkD r num ≤ 127 then 0 else if 64 ≤ tkO r num then 18 else if r.arr.testBit (tkO r num).toNat = true then 7 else 0) else 1
/-- A receiver behind a frame that is taken. -/
def tkS (r : RcS) (num : Int) : RcS := if 1 ≤ tkD r num ∧ tkD r num ≤ 127 then { words := r.words, newest := (r.newest + ((tkD r num).toNat : Int)).tmod 256, arr := advA r.arr (tkD r num).toNat ||| 1, lost := r.lost + (advL r.arr (tkD r num).toNat : Int) : RcS } else { r with arr := r.arr ||| 2 ^ (tkO r num).toNat }
def tkR (r : RcS) (net num : Int) (m : Nat) : RcS := if tkE r net num m = 0 then tkS r num else r
def tkW (r : RcS) (net num : Int) (m : Nat) (K : List Int) : List Int := if tkE r net num m = 0 then K else []
theorem take_any (g : Nat) (r : RcS) (net num : Int) (P : Nat → Prop) (Am : Option Addr) (m cm : Nat) (K : List Int) (w : World) (h : RV w g r) (hv : Sq w P (.slice Am m cm) m (CU K)) (hpg : ¬ P g) (hls : r.lost ≤ 1099511627776) :
    Calls Try.prog 20 #[.pointer (some ⟨g, 0, none⟩), .int .i64 net, .agg #[.int .i64 num, .slice Am m cm]] w fun e w' => ∃ A' c', e = .returned (.tuple #[.slice A' (tkW r net num m K).length c', .bool (decide (tkE r net num m = 0)), .int .i64 (tkE r net num m)]) ∧ Sq w' (fun b => w.heap.size ≤ b) (.slice A' (tkW r net num m K).length c') (tkW r net num m K).length (CU (tkW r net num m K)) ∧ RV w' g (tkR r net num m) ∧ Fo (fun b => b = g) w w' := by
  have hkl : K.length = m := by have := hv.len; simpa [CU] using this
  have no : ∀ x : Int, x ≠ 0 → tkE r net num m = x → ∀ e w', e = Ending.returned (.tuple #[.slice none 0 0, .bool false, .int .i64 x]) ∧ Below w.heap.size w w' → ∃ A' c', e = .returned (.tuple #[.slice A' (tkW r net num m K).length c', .bool (decide (tkE r net num m = 0)), .int .i64 (tkE r net num m)]) ∧ Sq w' (fun b => w.heap.size ≤ b) (.slice A' (tkW r net num m K).length c') (tkW r net num m K).length (CU (tkW r net num m K)) ∧ RV w' g (tkR r net num m) ∧ Fo (fun b => b = g) w w' := by
    rintro x hx he e w' ⟨rfl, b⟩
    have e1 : tkW r net num m K = [] := by unfold tkW; rw [he, if_neg hx]
    have e2 : tkR r net num m = r := by unfold tkR; rw [he, if_neg hx]
    rw [e1, e2, he]
    exact ⟨none, 0, by simp [hx], Sq.nil _ _, h.below b, Fo.of_below b⟩
  have yes : tkE r net num m = 0 → ∀ r', tkS r num = r' → ∀ e w', (∃ A' c', e = Ending.returned (.tuple #[.slice A' m c', .bool true, .int .i64 0]) ∧ Ow 47 w' (fun b => w.heap.size ≤ b) (.slice A' m c') m (CU K) ∧ RV w' g r' ∧ Fo (fun b => b = g) w w') → ∃ A' c', e = .returned (.tuple #[.slice A' (tkW r net num m K).length c', .bool (decide (tkE r net num m = 0)), .int .i64 (tkE r net num m)]) ∧ Sq w' (fun b => w.heap.size ≤ b) (.slice A' (tkW r net num m K).length c') (tkW r net num m K).length (CU (tkW r net num m K)) ∧ RV w' g (tkR r net num m) ∧ Fo (fun b => b = g) w w' := by
    rintro he r' hr e w' ⟨A', c', rfl, o, rv, f⟩
    have e1 : tkW r net num m K = K := by unfold tkW; rw [he, if_pos rfl]
    have e2 : tkR r net num m = r' := by unfold tkR; rw [he, if_pos rfl]; exact hr
    rw [e1, e2, he, hkl]
    exact ⟨A', c', by simp, o.sq, rv, f⟩
  by_cases h1 : 0 ≤ net ∧ net ≤ 1 ∧ 0 ≤ num ∧ num ≤ 255
  rotate_left
  · exact (take_arg g r net num Am m cm w h h1).mono (no 1 (by decide) (by unfold tkE; rw [if_neg h1]))
  by_cases h2 : r.words < (m : Int)
  · exact (take_range g r net num Am m cm w h h1 h2).mono (no 2 (by decide) (by unfold tkE; rw [if_pos h1, if_pos h2]))
  by_cases h3 : 1 ≤ tkD r num ∧ tkD r num ≤ 127
  · exact (take_new g r net num P Am m cm K w h hv hpg h1 (by omega) h3 hls).mono (yes (by unfold tkE; rw [if_pos h1, if_neg h2, if_pos h3]) _ (by unfold tkS; rw [if_pos h3]))
  by_cases h4 : 64 ≤ tkO r num
  · exact (take_old g r net num Am m cm w h h1 (by omega) h3 h4).mono (no 18 (by decide) (by unfold tkE; rw [if_pos h1, if_neg h2, if_neg h3, if_pos h4]))
  by_cases h5 : r.arr.testBit (tkO r num).toNat = true
  · exact (take_twice g r net num Am m cm w h h1 (by omega) h3 (by omega) h5).mono (no 7 (by decide) (by unfold tkE; rw [if_pos h1, if_neg h2, if_neg h3, if_neg h4, if_pos h5]))
  · exact (take_fresh g r net num P Am m cm K w h hv hpg h1 (by omega) h3 (by omega) (by simpa using h5)).mono (yes (by unfold tkE; rw [if_pos h1, if_neg h2, if_neg h3, if_neg h4, if_neg h5]) _ (by unfold tkS; rw [if_neg h3]))
end Go.Proofs.Ytkbjonblflhkoaa.Ln
