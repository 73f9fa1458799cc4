/-
  Contracts of fits, body and Price. Each statement bears its own conditions.
-/
import Derived.Test.YthmalhakkdjilaaDoorData
import Derived.IntWalk
import Derived.Laws.OwnMore
import Derived.Deep.QuietTactic
namespace Go.Proofs.YthmalhakkdjilaaDoor
open Go.RowKit
set_option linter.unusedVariables false
set_option linter.unusedSimpArgs false
def fitsV (r : Int) (h : Bool) : Bool := decide (r = 0) || (h && decide (0 < r) && decide (r ≤ 15))
set_option maxRecDepth 100000 in
set_option maxHeartbeats 4000000 in
theorem fits_any (r : Int) (h : Bool) (w : World) : Calls Tryd.prog 57 #[.int .i64 r, .bool h] w fun e w' => e = .returned (.bool (fitsV r h)) ∧ Below w.heap.size w w' := by
  by_cases h0 : r = 0
  · subst h0
    go_enter Tryd.func57, Tryd.ntmps57
    go_wp2_with fail
    go_ret
    exact ⟨by simp [fitsV], Below.refl _ _⟩
  · have hb0 : (r == 0) = false := by simpa using h0
    cases h with
    | false =>
      go_enter Tryd.func57, Tryd.ntmps57
      go_wp2_with fail
      go_ret
      exact ⟨by simp [fitsV, h0], Below.refl _ _⟩
    | true =>
      by_cases h1 : 0 < r
      · have h1' : decide (0 < r) = true := by simpa using h1
        by_cases h2 : r ≤ 15
        · go_enter Tryd.func57, Tryd.ntmps57
          go_wp2_with fail
          go_ret
          exact ⟨by simp [fitsV, h0, h1, h2], Below.refl _ _⟩
        · go_enter Tryd.func57, Tryd.ntmps57
          go_wp2_with fail
          go_ret
          exact ⟨by simp [fitsV, h0, h1, h2], Below.refl _ _⟩
      · go_enter Tryd.func57, Tryd.ntmps57
        go_wp2_with fail
        go_ret
        exact ⟨by simp [fitsV, h0]; omega, Below.refl _ _⟩
set_option maxRecDepth 100000 in
set_option maxHeartbeats 4000000 in
theorem body_any (o a b n : Int) (w : World) (ha : 0 ≤ a ∧ a ≤ 15) (hb : 0 ≤ b ∧ b ≤ 15) : Calls Tryd.prog 58 #[.agg #[.int .i64 o, .int .i64 a, .int .i64 b, .int .i64 n]] w fun e w' => e = .returned (.int .i64 (16 * a + b)) ∧ Below w.heap.size w w' := by
  have c1 : (w.alloc (.cells #[.int .i64 o, .int .i64 a, .int .i64 b, .int .i64 n] 66)).cell? ⟨w.heap.size, 1, none⟩ = some (.int .i64 a) := by simp
  have c2 : (w.alloc (.cells #[.int .i64 o, .int .i64 a, .int .i64 b, .int .i64 n] 66)).cell? ⟨w.heap.size, 2, none⟩ = some (.int .i64 b) := by simp
  go_enter Tryd.func58, Tryd.ntmps58
  go_wp2_with fail
  go_ret
  exact ⟨by rw [show a * 16 + b = 16 * a + b by omega]; rfl, (Below.refl _ _).alloc (Nat.le_refl _) _⟩
def regsL : List Int := [0, 1, 2, 2, 1, 2, 2, 2, 2, 2, 2, 1, 1, 2, 2, 0, 1, 1, 2, 0, 0, 1, 1, 0]
def priceL : List Int := [1, 1, 1, 1, 1, 1, 3, 8, 1, 1, 1, 1, 1, 2, 2, 1, 1, 1, 1, 2, 2, 2, 2, 1]
/-- The least and the most number of an operation, -262144 and 262143 where it has the whole field. -/
def leastL : List Int := [0, -262144, 0, 0, -262144, 0, 0, 0, 0, 0, 0, 0, 0, -262144, -262144, -262144, -262144, -262144, 1, 0, 0, 0, 0, 0]
def mostL : List Int := [0, 262143, 0, 0, 262143, 0, 0, 0, 0, 0, 0, 31, 31, 262143, 262143, 262143, 262143, 262143, 262143, 262143, 0, 0, 0, 262143]
/-- The table of operations, where it is laid. -/
structure Laid (W : World) : Prop where
  lt : 0 < W.heap.size
  row : ∀ i, i < 24 → ∃ s t, W.cell? ⟨0, i * 6, none⟩ = some (.string s) ∧ W.cell? ⟨0, i * 6 + 1, none⟩ = some (.string t) ∧ W.cell? ⟨0, i * 6 + 2, none⟩ = some (.int .i64 (regsL.getD i 0)) ∧
    W.cell? ⟨0, i * 6 + 3, none⟩ = some (.int .i64 (leastL.getD i 0)) ∧ W.cell? ⟨0, i * 6 + 4, none⟩ = some (.int .i64 (mostL.getD i 0)) ∧ W.cell? ⟨0, i * 6 + 5, none⟩ = some (.int .i64 (priceL.getD i 0))
theorem Laid.below {W W' : World} (h : Laid W) (hb : Below W.heap.size W W') : Laid W' := by
  refine ⟨Nat.lt_of_lt_of_le h.lt hb.size, fun i hi => ?_⟩
  obtain ⟨s, t, h0, h1, h2, h3, h4, h5⟩ := h.row i hi
  have hk : ∀ {o u}, W.cell? ⟨0, o, none⟩ = some u → W'.cell? ⟨0, o, none⟩ = some u := fun hc => (World.cell?_of_block (hb.block 0 h.lt)).trans hc
  exact ⟨s, t, hk h0, hk h1, hk h2, hk h3, hk h4, hk h5⟩
def priceV (op : Int) : Int := if 0 ≤ op ∧ op < 24 then priceL.getD op.toNat 0 else 0
set_option maxRecDepth 100000 in
set_option maxHeartbeats 4000000 in
theorem price_any (op : Int) (w : World) (hL : Laid w) : Calls Tryd.prog 53 #[.int .i64 op] w fun e w' => e = .returned (.int .i64 (priceV op)) ∧ Below w.heap.size w w' := by
  by_cases h0 : op < 0
  · go_enter Tryd.func53, Tryd.ntmps53
    go_wp2_with fail
    go_ret
    exact ⟨by unfold priceV; rw [if_neg (by omega)]; rfl, Below.refl _ _⟩
  · have h0' : 0 ≤ op := by omega
    by_cases h1 : 24 ≤ op
    · go_enter Tryd.func53, Tryd.ntmps53
      go_wp2_with fail
      go_ret
      exact ⟨by unfold priceV; rw [if_neg (by omega)]; rfl, Below.refl _ _⟩
    · obtain ⟨k, rfl⟩ : ∃ k : Nat, op = (k : Int) := ⟨op.toNat, by omega⟩
      have hk : k < 24 := by omega
      have hkI : (k : Int) < 24 := by omega
      obtain ⟨s, t, c0, c1, c2, c3, c4, c5⟩ := hL.row k hk
      have hp : priceV (k : Int) = priceL.getD k 0 := by unfold priceV; rw [if_pos ⟨by omega, by omega⟩]; simp
      rw [hp]
      obtain ⟨y, hy⟩ : ∃ y, priceL.getD k 0 = y := ⟨_, rfl⟩
      rw [hy] at c5 ⊢
      clear hL hp hy c0 c1 c2 c3 c4
      go_enter Tryd.func53, Tryd.ntmps53
      go_wp2_with fail
      go_ret
      exact ⟨rfl, Below.refl _ _⟩
end Go.Proofs.YthmalhakkdjilaaDoor
