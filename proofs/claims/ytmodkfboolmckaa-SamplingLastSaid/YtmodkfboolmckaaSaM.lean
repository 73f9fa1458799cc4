/-
  Ports as plain things, and how they read in memory. Each statement bears its own conditions.
-/
import Derived.Test.YtmodkfboolmckaaUw
namespace Go.Proofs.Ytmodkfboolmckaa.Sa
open Go.RowKit Go.Proofs.Ytmodkfboolmckaa.F
set_option linter.unusedVariables false
set_option linter.unusedSimpArgs false
theorem ne_up : (55 : TypeId) ≠ 67 := by decide
/-- A tick. -/
def tk (t : Int) : Prop := 0 ≤ t ∧ t ≤ 1099511627776
instance (t : Int) : Decidable (tk t) := by unfold tk; exact inferInstance
/-- A port lies in block g; all its blocks are those of which p holds, none below lo. -/
structure PV (lo : Nat) (w : World) (p : Nat → Prop) (g : Nat) (n k : Int) (has : Bool) (M : List Int) (st : Int) : Prop where
  low : ∀ b, p b → lo ≤ b ∧ b < w.heap.size
  pg : p g
  ex : ∃ vm, w.heap[g]? = some (.cells #[.int .i64 n, .int .i64 k, .bool has, vm, .int .i64 st] 67 (0, 0)) ∧ Ow 55 w p vm M.length (CU M)
  nm : has = false → M = [] ∧ st = 0
  nl : (M.length : Int) ≤ n ∧ 1 ≤ n ∧ n ≤ 32 ∧ 0 ≤ k ∧ k ≤ 1048576 ∧ 0 ≤ st ∧ st ≤ 1099511627776
section
variable {lo : Nat} {w w' : World} {p q : Nat → Prop} {g : Nat} {n k : Int} {has : Bool} {M : List Int} {st : Int}
theorem PV.lt (h : PV lo w p g n k has M st) : g < w.heap.size := (h.low g h.pg).2
theorem PV.keep (h : PV lo w p g n k has M st) (hs : w.heap.size ≤ w'.heap.size) (hk : ∀ b, b < w.heap.size → p b → w'.heap[b]? = w.heap[b]?) : PV lo w' p g n k has M st := by
  obtain ⟨vm, a, b⟩ := h.ex
  exact ⟨fun b hb => ⟨(h.low b hb).1, Nat.lt_of_lt_of_le (h.low b hb).2 hs⟩, h.pg, ⟨vm, (hk g h.lt h.pg).trans a, (b.keep hs hk).imp fun _ _ h => h.2⟩, h.nm, h.nl⟩
theorem PV.below (h : PV lo w p g n k has M st) (hb : Below w.heap.size w w') : PV lo w' p g n k has M st := h.keep hb.size fun b h1 _ => hb.block b h1
theorem PV.fo (h : PV lo w p g n k has M st) (hf : Fo q w w') (hd : ∀ b, p b → ¬ q b) : PV lo w' p g n k has M st := h.keep hf.size fun b h1 h2 => hf.block b h1 (hd b h2)
theorem PV.less {lo' : Nat} (h : PV lo w p g n k has M st) (hl : lo' ≤ lo) : PV lo' w p g n k has M st := ⟨fun b hb => ⟨Nat.le_trans hl (h.low b hb).1, (h.low b hb).2⟩, h.pg, h.ex, h.nm, h.nl⟩
theorem PV.nx (h : PV lo w p g n k has M st) (x : Nx p q w w') : Below lo w w' := x.fo.below (fun b hb => (h.low b hb).1) (by have := h.low g h.pg; omega)
theorem PV.nil (h : PV lo w p g n k has M st) : lo ≤ w.heap.size := by have := h.low g h.pg; omega
/-- The cells of a port. -/
theorem PV.five (h : PV lo w p g n k has M st) : ∃ Am cm, w.heap[g]? = some (.cells #[.int .i64 n, .int .i64 k, .bool has, .slice Am M.length cm, .int .i64 st] 67 (0, 0)) ∧ Ow 55 w p (.slice Am M.length cm) M.length (CU M) := by
  obtain ⟨vm, a, b⟩ := h.ex
  obtain ⟨Am, cm, rfl⟩ := b.sl
  exact ⟨Am, cm, a, b⟩
end
theorem new_any (n k : Int) (w : World) (h1 : 1 ≤ n) (h2 : n ≤ 32) (h3 : 0 ≤ k) (h4 : k ≤ 1048576) : Calls Try.prog 16 #[.int .i64 n, .int .i64 k] w fun e w' => e = .returned (.tuple #[.pointer (some ⟨w.heap.size, 0, none⟩), .int .i64 0]) ∧ PV w.heap.size w' (fun b => b = w.heap.size) w.heap.size n k false [] 0 ∧ Below w.heap.size w w' := by
  have HN : Hid (1 ≤ n ∧ n ≤ 32 ∧ 0 ≤ k ∧ k ≤ 1048576) := ⟨h1, h2, h3, h4⟩
  have h1'' : decide (n < 1) = false := by simpa using h1
  have h2'' : decide (32 < n) = false := by simpa using h2
  have h3'' : decide (k < 0) = false := by simpa using h3
  have h4'' : decide (1048576 < k) = false := by simpa using h4
  clear h1 h2 h3 h4
  go_enter Try.func16, Try.ntmps16
  go_wp2_with fail
  go_ret2
  exact ⟨rfl, ⟨fun b hb => by subst hb; simp, rfl, ⟨_, heap_alloc_new w _, Ow.nil _ _ _⟩, fun _ => ⟨rfl, rfl⟩, by have := HN.out; simp; omega⟩, (Below.refl _ _).alloc (Nat.le_refl _) _⟩
theorem new_bad (n k : Int) (w : World) (h : ¬ (1 ≤ n ∧ n ≤ 32 ∧ 0 ≤ k ∧ k ≤ 1048576)) : Calls Try.prog 16 #[.int .i64 n, .int .i64 k] w fun e w' => e = .returned (.tuple #[.pointer none, .int .i64 1]) ∧ w' = w := by
  by_cases h1 : n < 1
  · have g1 : decide (n < 1) = true := by simpa using h1
    clear h
    go_enter Try.func16, Try.ntmps16
    go_wp2_with fail
    go_ret2
    exact ⟨rfl, rfl⟩
  have g1 : decide (n < 1) = false := by simpa using h1
  by_cases h2 : 32 < n
  · have g2 : decide (32 < n) = true := by simpa using h2
    clear h
    go_enter Try.func16, Try.ntmps16
    go_wp2_with fail
    go_ret2
    exact ⟨rfl, rfl⟩
  have g2 : decide (32 < n) = false := by simpa using h2
  by_cases h3 : k < 0
  · have g3 : decide (k < 0) = true := by simpa using h3
    clear h
    go_enter Try.func16, Try.ntmps16
    go_wp2_with fail
    go_ret2
    exact ⟨rfl, rfl⟩
  have g3 : decide (k < 0) = false := by simpa using h3
  have h4 : 1048576 < k := by omega
  have g4 : decide (1048576 < k) = true := by simpa using h4
  clear h
  go_enter Try.func16, Try.ntmps16
  go_wp2_with fail
  go_ret2
  exact ⟨rfl, rfl⟩
theorem tick_any (t : Int) (w : World) : Calls Try.prog 27 #[.int .i64 t] w fun e w' => e = .returned (.bool (decide (tk t))) ∧ w' = w := by
  by_cases h1 : 0 ≤ t
  · have g1 : decide (0 ≤ t) = true := by simpa using h1
    by_cases h2 : t ≤ 1099511627776
    · have g2 : decide (t ≤ 1099511627776) = true := by simpa using h2
      have h3 : decide (tk t) = true := by simp [tk, h1, h2]
      rw [h3]
      clear h3
      go_enter Try.func27, Try.ntmps27
      go_wp2_with fail
      go_ret
      exact ⟨rfl, rfl⟩
    · have g2 : decide (t ≤ 1099511627776) = false := by simpa using h2
      have h3 : decide (tk t) = false := decide_eq_false (fun h => h2 h.2)
      rw [h3]
      clear h3
      go_enter Try.func27, Try.ntmps27
      go_wp2_with fail
      go_ret
      exact ⟨rfl, rfl⟩
  · have g1 : decide (0 ≤ t) = false := by simpa using h1
    have h3 : decide (tk t) = false := decide_eq_false (fun h => h1 h.1)
    rw [h3]
    clear h3
    go_enter Try.func27, Try.ntmps27
    go_wp2_with fail
    go_ret
    exact ⟨rfl, rfl⟩
theorem rtick_any (t : Int) (w : World) : Calls Try.prog 30 #[.int .i64 t] w fun e w' => e = .returned (.bool (decide (tk t))) ∧ w' = w := by
  by_cases h1 : 0 ≤ t
  · have g1 : decide (0 ≤ t) = true := by simpa using h1
    by_cases h2 : t ≤ 1099511627776
    · have g2 : decide (t ≤ 1099511627776) = true := by simpa using h2
      have h3 : decide (tk t) = true := by simp [tk, h1, h2]
      rw [h3]
      clear h3
      go_enter Try.func30, Try.ntmps30
      go_wp2_with fail
      go_ret
      exact ⟨rfl, rfl⟩
    · have g2 : decide (t ≤ 1099511627776) = false := by simpa using h2
      have h3 : decide (tk t) = false := decide_eq_false (fun h => h2 h.2)
      rw [h3]
      clear h3
      go_enter Try.func30, Try.ntmps30
      go_wp2_with fail
      go_ret
      exact ⟨rfl, rfl⟩
  · have g1 : decide (0 ≤ t) = false := by simpa using h1
    have h3 : decide (tk t) = false := decide_eq_false (fun h => h1 h.1)
    rw [h3]
    clear h3
    go_enter Try.func30, Try.ntmps30
    go_wp2_with fail
    go_ret
    exact ⟨rfl, rfl⟩
end Go.Proofs.Ytmodkfboolmckaa.Sa
