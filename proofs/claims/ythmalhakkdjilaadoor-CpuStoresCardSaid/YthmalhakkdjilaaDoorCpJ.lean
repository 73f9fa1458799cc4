/-
  What operations do, all together; those that reckon with registers alone, and loop and trap. Each statement bears its own conditions.
-/
import Derived.Test.YthmalhakkdjilaaDoorCpI
namespace Go.Proofs.YthmalhakkdjilaaDoor
open Go.RowKit
set_option linter.unusedVariables false
set_option linter.unusedSimpArgs false
def wordF (k : Nat) (x y : Int) : Int :=
  if k = 1 ∨ k = 2 then y else if k = 3 ∨ k = 4 then IntKind.u32.wrap (x + y) else if k = 5 then IntKind.u32.wrap (x - y) else if k = 6 then IntKind.u32.wrap (x * y)
  else if k = 8 then bits .and .u32 x y else if k = 9 then bits .or .u32 x y else if k = 10 then bits .xor .u32 x y else if k = 11 then IntKind.u32.wrap (x * 2 ^ y.toNat) else x / 2 ^ y.toNat
def putV (r : List Int) (μ : MS) (x : Int) : ER :=
  if r.getD 17 0 ≤ r.getD 18 0 ∨ r.getD 19 0 < r.getD 17 0 then ⟨13, r, -1, μ⟩
  else ⟨(stV μ (r.getD 17 0 - 1) x).2, r.set 17 (r.getD 17 0 - 1), -1, (stV μ (r.getD 17 0 - 1) x).1⟩
/-- A word popped: the error, the word, registers. -/
def takeV (r : List Int) (μ : MS) : Int × Int × List Int :=
  if r.getD 19 0 ≤ r.getD 17 0 ∨ r.getD 17 0 < r.getD 18 0 then (13, 0, r) else (ldE μ.W (r.getD 17 0), ldX μ.W (r.getD 17 0), r.set 17 (r.getD 17 0 + 1))
def effV (k : Nat) (a b n : Int) (r : List Int) (μ : MS) : ER :=
  if k = 0 then ⟨0, r, -1, μ⟩
  else if k = 1 ∨ k = 4 ∨ k = 11 ∨ k = 12 then ⟨0, r.set a.toNat (wordF k (r.getD a.toNat 0) (IntKind.u32.wrap n)), -1, μ⟩
  else if k = 2 ∨ k = 3 ∨ k = 5 ∨ k = 6 ∨ k = 8 ∨ k = 9 ∨ k = 10 then ⟨0, r.set a.toNat (wordF k (r.getD a.toNat 0) (r.getD b.toNat 0)), -1, μ⟩
  else if k = 7 then (if r.getD b.toNat 0 = 0 then ⟨14, r, -1, μ⟩ else ⟨0, r.set a.toNat (r.getD a.toNat 0 / r.getD b.toNat 0), -1, μ⟩)
  else if k = 13 then ⟨ldE μ.W (IntKind.u32.wrap (r.getD b.toNat 0 + IntKind.u32.wrap n)), r.set a.toNat (ldX μ.W (IntKind.u32.wrap (r.getD b.toNat 0 + IntKind.u32.wrap n))), -1, μ⟩
  else if k = 14 then ⟨(stV μ (IntKind.u32.wrap (r.getD b.toNat 0 + IntKind.u32.wrap n)) (r.getD a.toNat 0)).2, r, -1, (stV μ (IntKind.u32.wrap (r.getD b.toNat 0 + IntKind.u32.wrap n)) (r.getD a.toNat 0)).1⟩
  else if k = 15 ∨ k = 16 ∧ r.getD a.toNat 0 = 0 ∨ k = 17 ∧ r.getD a.toNat 0 ≠ 0 then ⟨0, r.set 16 (IntKind.u32.wrap (r.getD 16 0 + IntKind.u32.wrap n)), -1, μ⟩
  else if k = 16 ∨ k = 17 then ⟨0, r, -1, μ⟩
  else if k = 18 then (if r.getD 44 0 = 8 then ⟨21, r, -1, μ⟩ else ⟨0, loopR r a b n, -1, μ⟩)
  else if k = 19 then (let y := putV r μ (r.getD 16 0); ⟨y.e, y.r.set 16 (IntKind.u32.wrap n), -1, y.μ⟩)
  else if k = 20 then (let y := takeV r μ; ⟨y.1, y.2.2.set 16 y.2.1, -1, μ⟩)
  else if k = 21 then putV r μ (r.getD a.toNat 0)
  else if k = 22 then (let y := takeV r μ; ⟨y.1, y.2.2.set a.toNat y.2.1, -1, μ⟩)
  else ⟨0, r, n, μ⟩
theorem cat_one {α : Type} (x y z : α) : (#[x, y] : Array α) ++ #[z] = #[x, y, z] := rfl
theorem cat_none {α : Type} (x y : α) : (#[x, y] : Array α) ++ #[] = #[x, y] := rfl
theorem run_number (args : Array Value) (W : World) : (callFunc 47 args).run Tryd.prog W = .ok (.enter 47 args) W := by go_simp
theorem run_word (args : Array Value) (W : World) : (callFunc 48 args).run Tryd.prog W = .ok (.enter 48 args) W := by go_simp
theorem run_loop (args : Array Value) (W : World) : (callFunc 39 args).run Tryd.prog W = .ok (.enter 39 args) W := by go_simp
theorem run_trap (args : Array Value) (W : World) : (callFunc 44 args).run Tryd.prog W = .ok (.enter 44 args) W := by go_simp
theorem run_nop (args : Array Value) (W : World) : (callFunc 18 args).run Tryd.prog W = .ok (.enter 18 args) W := by go_simp
theorem effC_number (k F : Nat) (hk : k = 1 ∨ k = 4 ∨ k = 11 ∨ k = 12) (hT : effT.getD k (0, 0) = (1, F)) (RF : ∀ (args : Array Value) (W : World), (callFunc F args).run Tryd.prog W = .ok (.enter F args) W)
    (CF : ∀ (x y : Int) (W : World), U32 x → U32 y → Calls Tryd.prog F #[.int .u32 x, .int .u32 y] W fun e w' => e = .returned (.int .u32 (wordF k x y)) ∧ W = w') : EffC k (effV k) := by
  intro B mb v w g gm r mv μ ng a b n hv hs hm hg hng hr hd hi
  rw [hT] at hv
  rcases hv.ex with ⟨h0, _⟩ | ⟨_, fb, h1, h2, rfl, h4⟩
  · cases h0
  · refine ⟨_, _, rfl, run_number, ?_⟩
    rw [cat_one]
    refine (number_any F (wordF k) fb g r mv (-1) k a b n w hs hr hi h4 RF CF).mono ?_
    rintro e w' ⟨rfl, q1, q2⟩
    have hk0 : ¬ k = 0 := by omega
    have he : effV k a b n r μ = ⟨0, r.set a.toNat (wordF k (r.getD a.toNat 0) (IntKind.u32.wrap n)), -1, μ⟩ := by unfold effV; rw [if_neg hk0, if_pos hk]
    rw [he]
    exact ⟨rfl, q1, hm.past q2 hg, P2.of_past q2⟩
theorem effC_word (k F : Nat) (hk : k = 2 ∨ k = 3 ∨ k = 5 ∨ k = 6 ∨ k = 8 ∨ k = 9 ∨ k = 10) (hT : effT.getD k (0, 0) = (2, F)) (RF : ∀ (args : Array Value) (W : World), (callFunc F args).run Tryd.prog W = .ok (.enter F args) W)
    (CF : ∀ (x y : Int) (W : World), U32 x → U32 y → Calls Tryd.prog F #[.int .u32 x, .int .u32 y] W fun e w' => e = .returned (.int .u32 (wordF k x y)) ∧ W = w') : EffC k (effV k) := by
  intro B mb v w g gm r mv μ ng a b n hv hs hm hg hng hr hd hi
  rw [hT] at hv
  rcases hv.ex with ⟨h0, _⟩ | ⟨_, fb, h1, h2, rfl, h4⟩
  · cases h0
  · refine ⟨_, _, rfl, run_word, ?_⟩
    rw [cat_one]
    refine (word_any F (wordF k) fb g r mv (-1) k a b n w hs hr hi h4 RF CF).mono ?_
    rintro e w' ⟨rfl, q1, q2⟩
    have he : effV k a b n r μ = ⟨0, r.set a.toNat (wordF k (r.getD a.toNat 0) (r.getD b.toNat 0)), -1, μ⟩ := by unfold effV; rw [if_neg (by omega), if_neg (by omega), if_pos hk]
    rw [he]
    exact ⟨rfl, q1, hm.past q2 hg, P2.of_past q2⟩
theorem effC_trap : EffC 23 (effV 23) := by
  intro B mb v w g gm r mv μ ng a b n hv hs hm hg hng hr hd hi
  rcases hv.ex with ⟨_, rfl⟩ | ⟨h0, _⟩
  · refine ⟨_, _, rfl, run_trap, ?_⟩
    rw [cat_none]
    refine (trap_any g r mv (-1) _ a b n w hs hr hi).mono ?_
    rintro e w' ⟨rfl, q1, q2⟩
    exact ⟨rfl, q1, hm.past q2 hg, P2.of_past q2⟩
  · exact absurd h0 (by decide)
theorem effC_nop : EffC 0 (effV 0) := by
  intro B mb v w g gm r mv μ ng a b n hv hs hm hg hng hr hd hi
  rcases hv.ex with ⟨_, rfl⟩ | ⟨h0, _⟩
  · refine ⟨_, _, rfl, run_nop, ?_⟩
    rw [cat_none]
    refine (nop_any g r mv (-1) _ a b n w hs hr hi).mono ?_
    rintro e w' ⟨rfl, q1, q2⟩
    exact ⟨rfl, q1, hm.past q2 hg, P2.of_past q2⟩
  · exact absurd h0 (by decide)
theorem effC_loop : EffC 18 (effV 18) := by
  intro B mb v w g gm r mv μ ng a b n hv hs hm hg hng hr hd hi
  rcases hv.ex with ⟨_, rfl⟩ | ⟨h0, _⟩
  · refine ⟨_, _, rfl, run_loop, ?_⟩
    rw [cat_none]
    by_cases h8 : r.getD 44 0 = 8
    · refine (loop_no g r mv (-1) _ a b n w hs hr hi h8).mono ?_
      rintro e w' ⟨rfl, q1, q2⟩
      have he : effV 18 a b n r μ = ⟨21, r, -1, μ⟩ := by
        show (if r.getD 44 0 = 8 then (⟨21, r, -1, μ⟩ : ER) else ⟨0, loopR r a b n, -1, μ⟩) = _
        rw [if_pos h8]
      rw [he]
      exact ⟨rfl, q1, hm.past q2 hg, P2.of_past q2⟩
    · refine (loop_ok g r mv (-1) _ a b n w hs hr hi hd h8).mono ?_
      rintro e w' ⟨rfl, q1, q2⟩
      have he : effV 18 a b n r μ = ⟨0, loopR r a b n, -1, μ⟩ := by
        show (if r.getD 44 0 = 8 then (⟨21, r, -1, μ⟩ : ER) else ⟨0, loopR r a b n, -1, μ⟩) = _
        rw [if_neg h8]
      rw [he]
      exact ⟨rfl, q1, hm.past q2 hg, P2.of_past q2⟩
  · exact absurd h0 (by decide)
theorem run_e1 (args : Array Value) (W : World) : (callFunc 20 args).run Tryd.prog W = .ok (.enter 20 args) W := by go_simp
theorem clo_e1 (x y : Int) (W : World) (hx : U32 x) (hy : U32 y) : Calls Tryd.prog 20 #[.int .u32 x, .int .u32 y] W fun e w' => e = .returned (.int .u32 (wordF 1 x y)) ∧ W = w' := by
  clear hx hy
  go_enter Tryd.func20, Tryd.ntmps20
  go_wp2_with fail
  go_ret
  exact ⟨rfl, rfl⟩
theorem effC_1 : EffC 1 (effV 1) := effC_number 1 20 (by decide) rfl run_e1 clo_e1
theorem run_e2 (args : Array Value) (W : World) : (callFunc 22 args).run Tryd.prog W = .ok (.enter 22 args) W := by go_simp
theorem clo_e2 (x y : Int) (W : World) (hx : U32 x) (hy : U32 y) : Calls Tryd.prog 22 #[.int .u32 x, .int .u32 y] W fun e w' => e = .returned (.int .u32 (wordF 2 x y)) ∧ W = w' := by
  clear hx hy
  go_enter Tryd.func22, Tryd.ntmps22
  go_wp2_with fail
  go_ret
  exact ⟨rfl, rfl⟩
theorem effC_2 : EffC 2 (effV 2) := effC_word 2 22 (by decide) rfl run_e2 clo_e2
theorem run_e3 (args : Array Value) (W : World) : (callFunc 23 args).run Tryd.prog W = .ok (.enter 23 args) W := by go_simp
theorem clo_e3 (x y : Int) (W : World) (hx : U32 x) (hy : U32 y) : Calls Tryd.prog 23 #[.int .u32 x, .int .u32 y] W fun e w' => e = .returned (.int .u32 (wordF 3 x y)) ∧ W = w' := by
  clear hx hy
  go_enter Tryd.func23, Tryd.ntmps23
  go_wp2_with fail
  go_ret
  exact ⟨rfl, rfl⟩
theorem effC_3 : EffC 3 (effV 3) := effC_word 3 23 (by decide) rfl run_e3 clo_e3
theorem run_e4 (args : Array Value) (W : World) : (callFunc 24 args).run Tryd.prog W = .ok (.enter 24 args) W := by go_simp
theorem clo_e4 (x y : Int) (W : World) (hx : U32 x) (hy : U32 y) : Calls Tryd.prog 24 #[.int .u32 x, .int .u32 y] W fun e w' => e = .returned (.int .u32 (wordF 4 x y)) ∧ W = w' := by
  clear hx hy
  go_enter Tryd.func24, Tryd.ntmps24
  go_wp2_with fail
  go_ret
  exact ⟨rfl, rfl⟩
theorem effC_4 : EffC 4 (effV 4) := effC_number 4 24 (by decide) rfl run_e4 clo_e4
theorem run_e5 (args : Array Value) (W : World) : (callFunc 25 args).run Tryd.prog W = .ok (.enter 25 args) W := by go_simp
theorem clo_e5 (x y : Int) (W : World) (hx : U32 x) (hy : U32 y) : Calls Tryd.prog 25 #[.int .u32 x, .int .u32 y] W fun e w' => e = .returned (.int .u32 (wordF 5 x y)) ∧ W = w' := by
  clear hx hy
  go_enter Tryd.func25, Tryd.ntmps25
  go_wp2_with fail
  go_ret
  exact ⟨rfl, rfl⟩
theorem effC_5 : EffC 5 (effV 5) := effC_word 5 25 (by decide) rfl run_e5 clo_e5
theorem run_e6 (args : Array Value) (W : World) : (callFunc 26 args).run Tryd.prog W = .ok (.enter 26 args) W := by go_simp
theorem clo_e6 (x y : Int) (W : World) (hx : U32 x) (hy : U32 y) : Calls Tryd.prog 26 #[.int .u32 x, .int .u32 y] W fun e w' => e = .returned (.int .u32 (wordF 6 x y)) ∧ W = w' := by
  clear hx hy
  go_enter Tryd.func26, Tryd.ntmps26
  go_wp2_with fail
  go_ret
  exact ⟨rfl, rfl⟩
theorem effC_6 : EffC 6 (effV 6) := effC_word 6 26 (by decide) rfl run_e6 clo_e6
end Go.Proofs.YthmalhakkdjilaaDoor
