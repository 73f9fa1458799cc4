/-
  What all operations do. Each statement bears its own conditions.
-/
import Derived.Test.YthmalhakkdjilaaDoorCp5
import Derived.Test.YthmalhakkdjilaaDoorCp6
import Derived.Test.YthmalhakkdjilaaDoorCp7
namespace Go.Proofs.YthmalhakkdjilaaDoor
open Go.RowKit
set_option linter.unusedVariables false
set_option linter.unusedSimpArgs false
set_option maxRecDepth 100000 in
set_option maxHeartbeats 8000000 in
theorem divide_any (g : Nat) (r : List Int) (mv : Value) (o a b n x y : Int) (w : World) (hs : ST w g r mv (-1)) (hr : RegOk r) (hi : InOk a b n) (hxe : r.getD a.toNat 0 = x) (hye : r.getD b.toNat 0 = y) :
    Calls Tryd.prog 27 #[.pointer (some ⟨g, 0, none⟩), .agg #[.int .i64 o, .int .i64 a, .int .i64 b, .int .i64 n]] w fun e w' => e = .returned (.int .i64 (if y = 0 then 14 else 0)) ∧ ST w' g (if y = 0 then r else r.set a.toNat (x / y)) mv (-1) ∧ Past g w w' := by
  obtain ⟨A, rfl⟩ : ∃ A : Nat, a = (A : Int) := ⟨a.toNat, by have := hi.a; omega⟩
  have hA : A < 16 := by have := hi.a; omega
  have hAI : (A : Int) < 16 := by omega
  have hA0 : (0 : Int) ≤ A := by omega
  obtain ⟨B, rfl⟩ : ∃ B : Nat, b = (B : Int) := ⟨b.toNat, by have := hi.b; omega⟩
  have hB : B < 16 := by have := hi.b; omega
  have hBI : (B : Int) < 16 := by omega
  have hB0 : (0 : Int) ≤ B := by omega
  simp only [Int.toNat_natCast] at hxe hye ⊢
  obtain ⟨W1, hW1⟩ : ∃ W1, w.alloc (.cells #[.int .i64 o, .int .i64 (A : Int), .int .i64 (B : Int), .int .i64 n] 66) = W1 := ⟨_, rfl⟩
  obtain ⟨g1, hg1⟩ : ∃ g1, w.heap.size = g1 := ⟨_, rfl⟩
  have b1 : Below w.heap.size w W1 := by rw [← hW1]; exact (Below.refl _ _).alloc (Nat.le_refl _) _
  have h1 : W1.heap[g1]? = some (.cells #[.int .i64 o, .int .i64 (A : Int), .int .i64 (B : Int), .int .i64 n] 66 (0, 0)) := by rw [← hW1, ← hg1]; exact heap_alloc_new _ _
  have hs1 : RB W1 g r [mv, .int .i64 (-1)] 70 := RB.below hs b1
  have hne : g1 ≠ g := by have := RB.lt hs; omega
  have hl := hr.len
  have hn := hi.n
  have i1 := (row_cell h1 1).1
  have i2 := (row_cell h1 2).1
  simp at i1 i2
  have iA := hs1.cellk (o := A) (by omega) (kd_reg (by omega))
  have fA := hs1.frozen A
  have iB := hs1.cellk (o := B) (by omega) (kd_reg (by omega))
  have hx := hr.u32 (j := A) (by omega)
  have hy := hr.u32 (j := B) (by omega)
  rw [hxe] at iA hx
  rw [hye] at iB hy
  have HS1 := Lib.hid hs1
  have HB := Lib.hid b1
  have HXY := Lib.hid (And.intro hx hy)
  have HA : Hid (A < r.length ∧ A < 20) := ⟨by omega, by omega⟩
  by_cases h0 : y = 0
  · have hy0 : (y == 0) = true := by simp [h0]
    rw [if_pos h0, if_pos h0]
    clear hs hr hi b1 h1 hs1 hl hx hy hxe hye hne hn h0
    go_enter Tryd.func27, Tryd.ntmps27
    go_wp2_with fail
    go_still (by kernel_rfl)
    change Exit.then _ _ _ _ W1.drew
    clear hW1 hg1 i1 i2 iA fA iB
    generalize hWd : W1.drew = W2
    have HS2 : Hid (RB W2 g r [mv, .int .i64 (-1)] 70) := by rw [← hWd]; exact HS1.out.keep rfl
    have HB2 : Hid (Below w.heap.size w W2) := by rw [← hWd]; exact HB.out.drew
    clear hWd
    go_wp2_with fail
    go_ret
    exact ⟨rfl, HS2.out, Past.of_below HB2.out⟩
  · have hy0 : (y == 0) = false := by simp [h0]
    rw [if_neg h0, if_neg h0]
    obtain ⟨z, hz⟩ : ∃ z, x / y = z := ⟨_, rfl⟩
    have hq2 : x.tdiv y = z := by rw [← hz]; exact Int.tdiv_eq_ediv_of_nonneg hx.1
    have hzU : U32 z := by
      rw [← hz]
      have h1 := Int.ediv_nonneg hx.1 hy.1
      have h2 := Int.ediv_le_self y hx.1
      have := hx.2
      exact ⟨h1, by omega⟩
    have hq : IntKind.u32.wrap z = z := IntWalk.u32_in _ ⟨by have := hzU.1; omega, by have := hzU.2; omega⟩
    have hq3 : IntKind.u32.wrap (x / y) = z := by rw [hz]; exact hq
    have HSZ : Hid (RB (W1.setCell ⟨g, A, none⟩ (.int .u32 z)) g (r.set A z) [mv, .int .i64 (-1)] 70) := RB.set (k := .u32) (o := A) hs1 (by omega) (kd_reg (by omega)) z
    have HPZ : Hid (Past g w (W1.setCell ⟨g, A, none⟩ (.int .u32 z))) := (Past.of_below b1).trans ((Past.refl g W1).setCell A _)
    rw [hz]
    clear hs hr hi b1 h1 hs1 hl hx hy hxe hye hne hn hzU
    go_enter Tryd.func27, Tryd.ntmps27
    go_wp2_with fail
    go_still (by kernel_rfl)
    change Exit.then _ _ _ _ W1.drew
    have q1 : W1.drew.cell? ⟨g1, 1, none⟩ = some (.int .i64 (A : Int)) := i1
    have q2 : W1.drew.cell? ⟨g1, 2, none⟩ = some (.int .i64 (B : Int)) := i2
    have q3 : W1.drew.cell? ⟨g, A, none⟩ = some (.int .u32 x) := iA
    have q4 : W1.drew.cell? ⟨g, B, none⟩ = some (.int .u32 y) := iB
    have q5 : W1.drew.frozen? ⟨g, A, none⟩ = false := fA
    clear hW1 hg1 i1 i2 iA fA iB
    generalize hWd : W1.drew = W2 at q1 q2 q3 q4 q5 ⊢
    have HSZ : Hid (RB (W2.setCell ⟨g, A, none⟩ (.int .u32 z)) g (r.set A z) [mv, .int .i64 (-1)] 70) := by rw [← hWd]; exact HSZ.out.keep rfl
    have HPZ : Hid (Past g w (W2.setCell ⟨g, A, none⟩ (.int .u32 z))) := by rw [← hWd]; exact HPZ.out.drew
    clear hWd
    go_wp2_with fail
    go_still_tail 21, (by kernel_rfl)
    repeat still_step
    try refine wpStill_nil ?_
    clear q1 q2 q4
    go_wp2_with fail
    go_ret
    exact ⟨rfl, RB.keep (w := W2.setCell ⟨g, A, none⟩ (.int .u32 z)) HSZ.out rfl, HPZ.out.drew⟩
theorem run_jump1 (args : Array Value) (W : World) : (callFunc 49 args).run Tryd.prog W = .ok (.enter 49 args) W := by go_simp
theorem effC_7 : EffC 7 (effV 7) := by
  intro B mb v w g gm r mv μ ng a b n hv hs hm hg hng hr hd hi
  rcases hv.ex with ⟨_, rfl⟩ | ⟨h0, _⟩
  · refine ⟨_, _, rfl, run_divide, ?_⟩
    rw [cat_none]
    refine (divide_any g r mv _ a b n _ _ w hs hr hi rfl rfl).mono ?_
    rintro e w' ⟨rfl, q1, q2⟩
    have he : effV 7 a b n r μ = ⟨if r.getD b.toNat 0 = 0 then 14 else 0, if r.getD b.toNat 0 = 0 then r else r.set a.toNat (r.getD a.toNat 0 / r.getD b.toNat 0), -1, μ⟩ := by
      show (if r.getD b.toNat 0 = 0 then (⟨14, r, -1, μ⟩ : ER) else ⟨0, r.set a.toNat (r.getD a.toNat 0 / r.getD b.toNat 0), -1, μ⟩) = _
      split <;> rfl
    rw [he]
    exact ⟨rfl, q1, hm.past q2 hg, P2.of_past q2⟩
  · exact absurd h0 (by decide)
theorem effC_13 : EffC 13 (effV 13) := by
  intro B mb v w g gm r mv μ ng a b n hv hs hm hg hng hr hd hi
  rcases hv.ex with ⟨_, rfl⟩ | ⟨h0, _⟩
  · refine ⟨_, _, rfl, run_load, ?_⟩
    rw [cat_none]
    refine (loadop_any g gm r mv μ ng _ a b n w hs hm hg hng hr hi).mono ?_
    rintro e w' ⟨rfl, q1, q2⟩
    exact ⟨rfl, q1, hm.past q2 hg, P2.of_past q2⟩
  · exact absurd h0 (by decide)
theorem effC_14 : EffC 14 (effV 14) := by
  intro B mb v w g gm r mv μ ng a b n hv hs hm hg hng hr hd hi
  rcases hv.ex with ⟨_, rfl⟩ | ⟨h0, _⟩
  · refine ⟨_, _, rfl, run_store, ?_⟩
    rw [cat_none]
    exact storeop_any g gm r mv μ ng _ a b n w hs hm hg hng hr hi
  · exact absurd h0 (by decide)
theorem effC_19 : EffC 19 (effV 19) := by
  intro B mb v w g gm r mv μ ng a b n hv hs hm hg hng hr hd hi
  rcases hv.ex with ⟨_, rfl⟩ | ⟨h0, _⟩
  · refine ⟨_, _, rfl, run_call, ?_⟩
    rw [cat_none]
    exact call_any g gm r mv μ ng _ a b n w hs hm hg hng hr hi
  · exact absurd h0 (by decide)
theorem effC_20 : EffC 20 (effV 20) := by
  intro B mb v w g gm r mv μ ng a b n hv hs hm hg hng hr hd hi
  rcases hv.ex with ⟨_, rfl⟩ | ⟨h0, _⟩
  · refine ⟨_, _, rfl, run_ret, ?_⟩
    rw [cat_none]
    refine (ret_any g gm r mv μ ng _ a b n w hs hm hg hng hr hi).mono ?_
    rintro e w' ⟨rfl, q1, q2⟩
    exact ⟨rfl, q1, hm.past q2 hg, P2.of_past q2⟩
  · exact absurd h0 (by decide)
theorem run_e12 (args : Array Value) (W : World) : (callFunc 36 args).run Tryd.prog W = .ok (.enter 36 args) W := by go_simp
theorem clo_e12 (x : Int) (W : World) (hx : U32 x) : Calls Tryd.prog 36 #[.int .u32 x] W fun e w' => e = .returned (.bool (true)) ∧ W = w' := by
  clear hx
  go_enter Tryd.func36, Tryd.ntmps36
  go_wp2_with fail
  go_ret
  exact ⟨rfl, rfl⟩
theorem effC_15 : EffC 15 (effV 15) := by
  intro B mb v w g gm r mv μ ng a b n hv hs hm hg hng hr hd hi
  rcases hv.ex with ⟨h0, _⟩ | ⟨_, fb, h1, h2, rfl, h4⟩
  · exact absurd h0 (by decide)
  · refine ⟨_, _, rfl, run_jump1, ?_⟩
    rw [cat_one]
    obtain ⟨y, hy⟩ : ∃ y : Bool, (fun x : Int => true) (r.getD a.toNat 0) = y := ⟨_, rfl⟩
    refine (jump_any 36 (fun x => true) y fb g r mv (-1) 15 a b n w hs hr hi hy h4 run_e12 clo_e12).mono ?_
    rintro e w' ⟨rfl, q1, q2⟩
    have he : effV 15 a b n r μ = ⟨0, if y = true then r.set 16 (IntKind.u32.wrap (r.getD 16 0 + IntKind.u32.wrap n)) else r, -1, μ⟩ := by
      have : y = true := hy.symm
      subst this
      rfl
    rw [he]
    exact ⟨rfl, q1, hm.past q2 hg, P2.of_past q2⟩
theorem run_e13 (args : Array Value) (W : World) : (callFunc 37 args).run Tryd.prog W = .ok (.enter 37 args) W := by go_simp
theorem clo_e13 (x : Int) (W : World) (hx : U32 x) : Calls Tryd.prog 37 #[.int .u32 x] W fun e w' => e = .returned (.bool (x == 0)) ∧ W = w' := by
  clear hx
  go_enter Tryd.func37, Tryd.ntmps37
  go_wp2_with fail
  go_ret
  exact ⟨rfl, rfl⟩
theorem effC_16 : EffC 16 (effV 16) := by
  intro B mb v w g gm r mv μ ng a b n hv hs hm hg hng hr hd hi
  rcases hv.ex with ⟨h0, _⟩ | ⟨_, fb, h1, h2, rfl, h4⟩
  · exact absurd h0 (by decide)
  · refine ⟨_, _, rfl, run_jump1, ?_⟩
    rw [cat_one]
    obtain ⟨y, hy⟩ : ∃ y : Bool, (fun x : Int => x == 0) (r.getD a.toNat 0) = y := ⟨_, rfl⟩
    refine (jump_any 37 (fun x => x == 0) y fb g r mv (-1) 16 a b n w hs hr hi hy h4 run_e13 clo_e13).mono ?_
    rintro e w' ⟨rfl, q1, q2⟩
    have he : effV 16 a b n r μ = ⟨0, if y = true then r.set 16 (IntKind.u32.wrap (r.getD 16 0 + IntKind.u32.wrap n)) else r, -1, μ⟩ := by
      have e0 : effV 16 a b n r μ = if (16 = 15 ∨ 16 = 16 ∧ r.getD a.toNat 0 = 0 ∨ 16 = 17 ∧ r.getD a.toNat 0 ≠ 0) then (⟨0, r.set 16 (IntKind.u32.wrap (r.getD 16 0 + IntKind.u32.wrap n)), -1, μ⟩ : ER) else ⟨0, r, -1, μ⟩ := by
        unfold effV
        simp
      rw [e0]
      subst hy
      dsimp only
      by_cases h : r.getD a.toNat 0 = 0
      · rw [if_pos (.inr (.inl ⟨rfl, h⟩)), h]; rfl
      · rw [if_neg (by omega), if_neg (by simpa using h)]
    rw [he]
    exact ⟨rfl, q1, hm.past q2 hg, P2.of_past q2⟩
theorem run_e14 (args : Array Value) (W : World) : (callFunc 38 args).run Tryd.prog W = .ok (.enter 38 args) W := by go_simp
theorem clo_e14 (x : Int) (W : World) (hx : U32 x) : Calls Tryd.prog 38 #[.int .u32 x] W fun e w' => e = .returned (.bool (x != 0)) ∧ W = w' := by
  clear hx
  go_enter Tryd.func38, Tryd.ntmps38
  go_wp2_with fail
  go_ret
  exact ⟨rfl, rfl⟩
theorem effC_17 : EffC 17 (effV 17) := by
  intro B mb v w g gm r mv μ ng a b n hv hs hm hg hng hr hd hi
  rcases hv.ex with ⟨h0, _⟩ | ⟨_, fb, h1, h2, rfl, h4⟩
  · exact absurd h0 (by decide)
  · refine ⟨_, _, rfl, run_jump1, ?_⟩
    rw [cat_one]
    obtain ⟨y, hy⟩ : ∃ y : Bool, (fun x : Int => x != 0) (r.getD a.toNat 0) = y := ⟨_, rfl⟩
    refine (jump_any 38 (fun x => x != 0) y fb g r mv (-1) 17 a b n w hs hr hi hy h4 run_e14 clo_e14).mono ?_
    rintro e w' ⟨rfl, q1, q2⟩
    have he : effV 17 a b n r μ = ⟨0, if y = true then r.set 16 (IntKind.u32.wrap (r.getD 16 0 + IntKind.u32.wrap n)) else r, -1, μ⟩ := by
      have e0 : effV 17 a b n r μ = if (17 = 15 ∨ 17 = 16 ∧ r.getD a.toNat 0 = 0 ∨ 17 = 17 ∧ r.getD a.toNat 0 ≠ 0) then (⟨0, r.set 16 (IntKind.u32.wrap (r.getD 16 0 + IntKind.u32.wrap n)), -1, μ⟩ : ER) else ⟨0, r, -1, μ⟩ := by
        unfold effV
        simp
      rw [e0]
      subst hy
      dsimp only
      by_cases h : r.getD a.toNat 0 = 0
      · rw [if_neg (by omega), h]; rfl
      · rw [if_pos (.inr (.inr ⟨rfl, h⟩)), if_pos (by simpa using h)]
    rw [he]
    exact ⟨rfl, q1, hm.past q2 hg, P2.of_past q2⟩
end Go.Proofs.YthmalhakkdjilaaDoor
