/-
  Requests as plain things, the table of calls, and what a call has. Each statement bears its own conditions.
-/
import Derived.Test.YtglpbngdikfliaaDoorFo
import Derived.Deep.QuietTactic
namespace Go.Proofs.YtglpbngdikfliaaDoor.Ca
open Go.RowKit Go.Proofs.YtglpbngdikfliaaDoor.F
set_option linter.unusedVariables false
set_option linter.unusedSimpArgs false
/-- A request. -/
structure Rq where
  call : Int
  obj : Int
  at_ : Int
  wds : Int
  tks : Int
def Rq.val (q : Rq) : Value := .agg #[.int .i64 q.call, .int .i64 q.obj, .int .u32 q.at_, .int .i64 q.wds, .int .i64 q.tks]
def fieldL : List Int := [0, 0, 8, 0, 1, 1, 1, 1, 3, 9, 1, 9, 1, 1, 1, 9, 7, 1, 11, 15, 11, 7, 3, 7, 3, 6, 2, 0]
def priceL : List Int := [1, 1, 2, 1, 3, 3, 2, 2, 2, 3, 3, 2, 2, 2, 1, 2, 2, 1, 6, 3, 6, 2, 6, 3, 6, 2, 1, 1]
def byteL : List (Array UInt8) := [#[110, 111, 119], #[115, 101, 108, 102], #[119, 97, 105, 116], #[100, 111, 110, 101], #[115, 116, 97, 114, 116], #[115, 116, 111, 112], #[115, 117, 115, 112, 101, 110, 100],
  #[114, 101, 115, 117, 109, 101], #[112, 114, 105, 111, 114, 105, 116, 121], #[116, 97, 107, 101], #[103, 105, 118, 101], #[100, 111, 119, 110], #[117, 112], #[114, 97, 105, 115, 101], #[108, 111, 119, 101, 114],
  #[97, 119, 97, 105, 116], #[115, 104, 111, 119], #[104, 105, 100, 101], #[108, 111, 111, 107], #[115, 101, 110, 100], #[114, 101, 99, 101, 105, 118, 101], #[119, 114, 105, 116, 101], #[114, 101, 97, 100], #[112, 117, 116],
  #[103, 101, 116], #[114, 101, 112, 111, 114, 116], #[102, 97, 105, 108], #[110, 111, 114, 109, 97, 108]]
def oL : List Bool := fieldL.map fun f => decide (f.toNat % 2 = 1)
def aL : List Bool := fieldL.map fun f => decide (f.toNat / 2 % 2 = 1)
def wL : List Bool := fieldL.map fun f => decide (f.toNat / 4 % 2 = 1)
def tL : List Bool := fieldL.map fun f => decide (f.toNat / 8 % 2 = 1)
def oB (n : Int) : Bool := oL.getD n.toNat false
def aB (n : Int) : Bool := aL.getD n.toNat false
def wB (n : Int) : Bool := wL.getD n.toNat false
def tB (n : Int) : Bool := tL.getD n.toNat false
def is (n : Int) : Bool := decide (0 ≤ n ∧ n < 28)
def wordV (k : Nat) : Value := .string ⟨byteL.getD k #[]⟩
/-- The table of calls, where it is laid. -/
structure Laid (W : World) : Prop where
  lt : 0 < W.heap.size
  row : ∀ i, i < 28 → W.cell? ⟨0, i * 3, none⟩ = some (wordV i) ∧ W.cell? ⟨0, i * 3 + 1, none⟩ = some (.int .i64 (fieldL.getD i 0)) ∧ W.cell? ⟨0, i * 3 + 2, none⟩ = some (.int .i64 (priceL.getD i 0))
theorem Laid.below {W W' : World} (h : Laid W) (hb : Below W.heap.size W W') : Laid W' := by
  refine ⟨Nat.lt_of_lt_of_le h.lt hb.size, fun i hi => ?_⟩
  obtain ⟨h0, h1, h2⟩ := h.row i hi
  have hk : ∀ {o u}, W.cell? ⟨0, o, none⟩ = some u → W'.cell? ⟨0, o, none⟩ = some u := fun hc => (World.cell?_of_block (hb.block 0 h.lt)).trans hc
  exact ⟨hk h0, hk h1, hk h2⟩
set_option maxRecDepth 100000 in
set_option maxHeartbeats 4000000 in
theorem exists_any (n : Int) (w : World) : Calls Tryd.prog 23 #[.int .i64 n] w fun e w' => e = .returned (.bool (is n)) ∧ Below w.heap.size w w' := by
  by_cases h0 : 0 ≤ n
  · by_cases h1 : n < 28
    · have e : is n = true := by simp [is, h0, h1]
      rw [e]
      go_enter Tryd.func23, Tryd.ntmps23
      go_wp2_with fail
      go_ret
      exact ⟨rfl, Below.refl _ _⟩
    · have e : is n = false := by simp [is, h0, h1]
      have g : decide (n < 28) = false := by simp [h1]
      rw [e]
      go_enter Tryd.func23, Tryd.ntmps23
      go_wp2_with fail
      go_ret
      exact ⟨rfl, Below.refl _ _⟩
  · have e : is n = false := by simp [is, h0]
    have g : decide (0 ≤ n) = false := by simp [h0]
    rw [e]
    go_enter Tryd.func23, Tryd.ntmps23
    go_wp2_with fail
    go_ret
    exact ⟨rfl, Below.refl _ _⟩
set_option maxRecDepth 100000 in
set_option maxHeartbeats 4000000 in
theorem has_core (k : Nat) (hk : k < 28) (o a ws t f F : Int) (hF : fieldL.getD k 0 = F) (w : World) (hL : Laid w) : Calls Tryd.prog 27 #[.agg #[.int .i64 (k : Int), .int .i64 o, .int .u32 a, .int .i64 ws, .int .i64 t], .int .i64 f] w fun e w' => e = .returned (.bool (! decide (bits .and .i64 F f = 0))) ∧ Below w.heap.size w w' := by
  have hkI : (k : Int) < 28 := by omega
  obtain ⟨X, hX⟩ : ∃ X, w.heap.size = X := ⟨_, rfl⟩
  obtain ⟨W0, hW0⟩ : ∃ W0, w.alloc (.cells #[.int .i64 (k : Int), .int .i64 o, .int .u32 a, .int .i64 ws, .int .i64 t] 25) = W0 := ⟨_, rfl⟩
  have B0 : Hid (Below X w W0) := by rw [← hW0, ← hX]; exact (Below.refl _ _).alloc (Nat.le_refl _) _
  have c0 : W0.cell? ⟨X, 0, none⟩ = some (.int .i64 (k : Int)) := by rw [← hW0, ← hX]; simp
  have L0 := (hL.below (by rw [← hW0]; exact (Below.refl _ _).alloc (Nat.le_refl _) _ : Below w.heap.size w W0)).row k hk
  have c1 : W0.cell? ⟨0, k * 3 + 1, none⟩ = some (.int .i64 F) := by rw [← hF]; exact L0.2.1
  rw [hX]
  clear L0 hF hL
  go_enter Tryd.func27, Tryd.ntmps27
  go_wp2_with fail
  go_ret
  exact ⟨rfl, B0.out⟩
theorem has_bits : ((List.range 28).all fun k => ((! decide (bits .and .i64 (fieldL.getD k 0) 1 = 0)) == oL.getD k false) && ((! decide (bits .and .i64 (fieldL.getD k 0) 2 = 0)) == aL.getD k false) && ((! decide (bits .and .i64 (fieldL.getD k 0) 4 = 0)) == wL.getD k false) && ((! decide (bits .and .i64 (fieldL.getD k 0) 8 = 0)) == tL.getD k false)) = true := by kernel_rfl
theorem has_each (k : Nat) (hk : k < 28) : (! decide (bits .and .i64 (fieldL.getD k 0) 1 = 0)) = oL.getD k false ∧ (! decide (bits .and .i64 (fieldL.getD k 0) 2 = 0)) = aL.getD k false ∧ (! decide (bits .and .i64 (fieldL.getD k 0) 4 = 0)) = wL.getD k false ∧ (! decide (bits .and .i64 (fieldL.getD k 0) 8 = 0)) = tL.getD k false := by
  have h := List.all_eq_true.1 has_bits k (by simpa using hk)
  simp only [Bool.and_eq_true, beq_iff_eq] at h
  exact ⟨h.1.1.1, h.1.1.2, h.1.2, h.2⟩
/-- What has answers of a field. -/
def hasV (n f : Int) : Bool := if f = 1 then oB n else if f = 2 then aB n else if f = 4 then wB n else tB n
theorem has_any (n o a ws t f : Int) (hn : is n = true) (hf : f = 1 ∨ f = 2 ∨ f = 4 ∨ f = 8) (w : World) (hL : Laid w) : Calls Tryd.prog 27 #[.agg #[.int .i64 n, .int .i64 o, .int .u32 a, .int .i64 ws, .int .i64 t], .int .i64 f] w fun e w' => e = .returned (.bool (hasV n f)) ∧ Below w.heap.size w w' := by
  have h : 0 ≤ n ∧ n < 28 := by simpa [is] using hn
  obtain ⟨k, rfl⟩ : ∃ k : Nat, n = (k : Int) := ⟨n.toNat, by omega⟩
  have hk : k < 28 := by omega
  obtain ⟨e1, e2, e3, e4⟩ := has_each k hk
  refine (has_core k hk o a ws t f _ rfl w hL).mono ?_
  rintro e w' ⟨rfl, hb⟩
  refine ⟨?_, hb⟩
  rcases hf with rfl | rfl | rfl | rfl
  · rw [e1]; rfl
  · rw [e2]; rfl
  · rw [e3]; rfl
  · rw [e4]; rfl
end Go.Proofs.YtglpbngdikfliaaDoor.Ca
