/-
  Boards as plain things, and how they read in memory. Each statement bears its own conditions.
-/
import Derived.Test.YtfmcmhgpgkeplaaUw
import Derived.Test.YtfmcmhgpgkeplaaIw
namespace Go.Proofs.Ytfmcmhgpgkeplaa.B
open Go.RowKit Go.Proofs.Ytfmcmhgpgkeplaa.F
set_option linter.unusedVariables false
set_option linter.unusedSimpArgs false
theorem ne_ui : (40 : TypeId) ≠ 3 := by decide
theorem ne_ub : (40 : TypeId) ≠ 68 := by decide
theorem ne_ib : (3 : TypeId) ≠ 68 := by decide
/-- A board lies in block g; all its blocks are those of which p holds, none below lo. -/
structure BV (lo : Nat) (w : World) (p : Nat → Prop) (g : Nat) (n : Int) (sh : Bool) (M L : List Int) : Prop where
  low : ∀ b, p b → lo ≤ b ∧ b < w.heap.size
  pg : p g
  ex : ∃ vm vw, w.heap[g]? = some (.cells #[.int .i64 n, .bool sh, vm, vw] 68 (0, 0)) ∧ Ow 40 w p vm M.length (CU M) ∧ Ow 3 w p vw L.length (C L)
  nm : sh = false → M = []
  nl : (M.length : Int) ≤ n ∧ 1 ≤ n ∧ n ≤ 32
section
variable {lo : Nat} {w w' : World} {p q : Nat → Prop} {g : Nat} {n : Int} {sh : Bool} {M L : List Int}
theorem BV.lt (h : BV lo w p g n sh M L) : g < w.heap.size := (h.low g h.pg).2
theorem BV.keep (h : BV lo w p g n sh M L) (hs : w.heap.size ≤ w'.heap.size) (hk : ∀ b, b < w.heap.size → p b → w'.heap[b]? = w.heap[b]?) : BV lo w' p g n sh M L := by
  obtain ⟨vm, vw, a, b, c⟩ := h.ex
  exact ⟨fun b hb => ⟨(h.low b hb).1, Nat.lt_of_lt_of_le (h.low b hb).2 hs⟩, h.pg, ⟨vm, vw, (hk g h.lt h.pg).trans a, (b.keep hs hk).imp fun _ _ h => h.2, (c.keep hs hk).imp fun _ _ h => h.2⟩, h.nm, h.nl⟩
theorem BV.below (h : BV lo w p g n sh M L) (hb : Below w.heap.size w w') : BV lo w' p g n sh M L := h.keep hb.size fun b h1 _ => hb.block b h1
theorem BV.fo (h : BV lo w p g n sh M L) (hf : Fo q w w') (hd : ∀ b, p b → ¬ q b) : BV lo w' p g n sh M L := h.keep hf.size fun b h1 h2 => hf.block b h1 (hd b h2)
theorem BV.less {lo' : Nat} (h : BV lo w p g n sh M L) (hl : lo' ≤ lo) : BV lo' w p g n sh M L := ⟨fun b hb => ⟨Nat.le_trans hl (h.low b hb).1, (h.low b hb).2⟩, h.pg, h.ex, h.nm, h.nl⟩
theorem BV.nx (h : BV lo w p g n sh M L) (x : Nx p q w w') : Below lo w w' := x.fo.below (fun b hb => (h.low b hb).1) (by have := h.low g h.pg; omega)
end
theorem new_any (n : Int) (w : World) (h1 : 1 ≤ n) (h2 : n ≤ 32) : Calls Try.prog 10 #[.int .i64 n] w fun e w' => e = .returned (.tuple #[.pointer (some ⟨w.heap.size, 0, none⟩), .int .i64 0]) ∧ BV w.heap.size w' (fun b => b = w.heap.size) w.heap.size n false [] [] ∧ Below w.heap.size w w' := by
  have HN : Hid (1 ≤ n ∧ n ≤ 32) := ⟨h1, h2⟩
  have h1' : ¬ n < 1 := by omega
  have h2' : ¬ (32 : Int) < n := by omega
  have h1'' : decide (n < 1) = false := by simpa using h1
  have h2'' : decide (32 < n) = false := by simpa using h2
  clear h1 h2
  go_enter Try.func10, Try.ntmps10
  go_wp2_with fail
  go_ret2
  exact ⟨rfl, ⟨fun b hb => by subst hb; simp, rfl, ⟨_, _, heap_alloc_new w _, Ow.nil _ _ _, Ow.nil _ _ _⟩, fun _ => rfl, by have := HN.out; simp; omega⟩, (Below.refl _ _).alloc (Nat.le_refl _) _⟩
theorem new_bad (n : Int) (w : World) (h1 : n < 1 ∨ 32 < n) : Calls Try.prog 10 #[.int .i64 n] w fun e w' => e = .returned (.tuple #[.pointer none, .int .i64 2]) ∧ w' = w := by
  by_cases h : n < 1
  · have h1'' : decide (n < 1) = true := by simpa using h
    go_enter Try.func10, Try.ntmps10
    go_wp2_with fail
    go_ret2
    exact ⟨rfl, rfl⟩
  · have h2 : 32 < n := by omega
    have h1'' : decide (n < 1) = false := by simpa using h
    have h2'' : decide (32 < n) = true := by simpa using h2
    clear h1
    go_enter Try.func10, Try.ntmps10
    go_wp2_with fail
    go_ret2
    exact ⟨rfl, rfl⟩
end Go.Proofs.Ytfmcmhgpgkeplaa.B
