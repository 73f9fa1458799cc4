/-
  Semaphores as plain things, and how they read in memory. Each statement bears its own conditions.
-/
import Derived.Test.YtobnhjkcbhajbaaPwD
import Derived.Test.YtobnhjkcbhajbaaSpM
namespace Go.Proofs.Ytobnhjkcbhajbaa.S
open Go.RowKit Go.Proofs.Ytobnhjkcbhajbaa.W
set_option linter.unusedVariables false
set_option linter.unusedSimpArgs false
/-- Count, most, and whether by priority. -/
structure SM where
  c : Int
  m : Int
  p : Bool
/-- Only the blocks g and rb may change, and there may be new ones. -/
structure Ch (g rb : Nat) (w w' : World) : Prop where
  os : w'.os = w.os
  tape : w'.tape = w.tape
  output : w'.output = w.output
  size : w.heap.size ≤ w'.heap.size
  block : ∀ k, k < w.heap.size → k ≠ g → k ≠ rb → w'.heap[k]? = w.heap[k]?
theorem Ch.refl (g rb : Nat) (w : World) : Ch g rb w w := ⟨rfl, rfl, rfl, Nat.le_refl _, fun _ _ _ _ => rfl⟩
theorem Ch.of_below {g rb : Nat} {w w' : World} (h : Below w.heap.size w w') : Ch g rb w w' := ⟨h.os, h.tape, h.output, h.size, fun k hk _ _ => h.block k hk⟩
theorem Ch.of_past {g rb : Nat} {w w' : World} (h : Past g w w') : Ch g rb w w' := ⟨h.os, h.tape, h.output, h.size, fun k hk h1 _ => h.block k hk h1⟩
theorem Ch.of_past2 {g rb : Nat} {w w' : World} (h : Past rb w w') : Ch g rb w w' := ⟨h.os, h.tape, h.output, h.size, fun k hk _ h1 => h.block k hk h1⟩
theorem Ch.trans {g rb rb' : Nat} {a b c : World} (h : Ch g rb a b) (k : Ch g rb' b c) (hr : rb' = rb ∨ rb' = g ∨ a.heap.size ≤ rb') : Ch g rb a c :=
  ⟨k.os.trans h.os, k.tape.trans h.tape, k.output.trans h.output, Nat.le_trans h.size k.size, fun i hi h1 h2 => (k.block i (Nat.lt_of_lt_of_le hi h.size) h1 (by omega)).trans (h.block i hi h1 h2)⟩
theorem Ch.below {g rb B : Nat} {w w' : World} (h : Ch g rb w w') (hg : B ≤ g) (hr : B ≤ rb) (hB : B ≤ w.heap.size) : Below B w w' := ⟨h.os, h.tape, h.output, h.size, fun k hk => h.block k (by omega) (by omega) (by omega)⟩
theorem Ch.cell {g rb : Nat} {w w' : World} {a : Addr} {u : Value} (h : Ch g rb w w') (h1 : a.block ≠ g) (h2 : a.block ≠ rb) (hc : w.cell? a = some u) : w'.cell? a = some u :=
  (World.cell?_of_block (h.block a.block (World.block_lt_of_cell? _ _ hc) h1 h2)).trans hc
/-- A semaphore lies in block g, its list in block rb; nothing of it below lo. -/
structure SV (lo : Nat) (w : World) (g rb : Nat) (up : SM) (L : List (Int × Int)) : Prop where
  low : lo ≤ g ∧ lo ≤ rb
  lt : g < w.heap.size ∧ rb < w.heap.size
  ex : ∃ v, w.heap[g]? = some (.cells #[.int .i64 up.c, .int .i64 up.m, .bool up.p, v] 69 (0, 0)) ∧ RowV w v rb L ∧ ((v = .slice none 0 0 ∧ rb = g) ∨ rb ≠ g)
theorem SV.keep {lo : Nat} {w w' : World} {g rb : Nat} {up : SM} {L : List (Int × Int)} (h : SV lo w g rb up L) (hs : w.heap.size ≤ w'.heap.size) (h1 : w'.heap[g]? = w.heap[g]?) (h2 : w'.heap[rb]? = w.heap[rb]?) : SV lo w' g rb up L := by
  obtain ⟨v, a, b, c⟩ := h.ex
  exact ⟨h.low, ⟨Nat.lt_of_lt_of_le h.lt.1 hs, Nat.lt_of_lt_of_le h.lt.2 hs⟩, v, h1.trans a, b.keep (.inr h2), c⟩
theorem SV.below {lo : Nat} {w w' : World} {g rb : Nat} {up : SM} {L : List (Int × Int)} (h : SV lo w g rb up L) (hb : Below w.heap.size w w') : SV lo w' g rb up L := h.keep hb.size (hb.block g h.lt.1) (hb.block rb h.lt.2)
theorem SV.less {lo lo' : Nat} {w : World} {g rb : Nat} {up : SM} {L : List (Int × Int)} (h : SV lo w g rb up L) (hl : lo' ≤ lo) : SV lo' w g rb up L := ⟨⟨by have := h.low; omega, by have := h.low; omega⟩, h.lt, h.ex⟩
/-- What becomes of a semaphore's blocks. -/
structure Nx (g rb rb' : Nat) (w w' : World) : Prop where
  ch : Ch g rb w w'
  rb : rb' = rb ∨ rb' = g ∨ w.heap.size ≤ rb'
theorem Nx.refl (g rb : Nat) (w : World) : Nx g rb rb w w := ⟨Ch.refl _ _ _, .inl rfl⟩
theorem Nx.of_below {g rb : Nat} {w w' : World} (h : Below w.heap.size w w') : Nx g rb rb w w' := ⟨Ch.of_below h, .inl rfl⟩
theorem Nx.trans {g rb rb' rb'' : Nat} {a b c : World} (h : Nx g rb rb' a b) (k : Nx g rb' rb'' b c) : Nx g rb rb'' a c :=
  ⟨h.ch.trans k.ch h.rb, by have := h.rb; have := k.rb; have := h.ch.size; omega⟩
theorem Nx.below {g rb rb' lo : Nat} {up : SM} {L : List (Int × Int)} {w w' : World} (h : Nx g rb rb' w w') (e : SV lo w g rb up L) : Below lo w w' := h.ch.below e.low.1 e.low.2 (by have := e.low; have := e.lt; omega)
/-- Two semaphores lie apart. -/
def Ap (g rb g' rb' : Nat) : Prop := g ≠ g' ∧ g ≠ rb' ∧ rb ≠ g' ∧ rb ≠ rb'
theorem Ap.symm {g rb g' rb' : Nat} (h : Ap g rb g' rb') : Ap g' rb' g rb := ⟨h.1.symm, h.2.2.1.symm, h.2.1.symm, h.2.2.2.symm⟩
theorem SV.other {lo : Nat} {w w' : World} {g rb rb1 g' rb' : Nat} {up : SM} {L : List (Int × Int)} (h : SV lo w g' rb' up L) (n : Nx g rb rb1 w w') (a : Ap g rb g' rb') : SV lo w' g' rb' up L :=
  h.keep n.ch.size (n.ch.block _ h.lt.1 a.1.symm a.2.2.1.symm) (n.ch.block _ h.lt.2 a.2.1.symm a.2.2.2.symm)
theorem Ap.step {lo : Nat} {w w' : World} {g rb rb1 g' rb' : Nat} {up : SM} {L : List (Int × Int)} (a : Ap g rb g' rb') (h : SV lo w g' rb' up L) (n : Nx g rb rb1 w w') : Ap g rb1 g' rb' := by
  have h1 := n.rb; have h2 := h.lt
  obtain ⟨a1, a2, a3, a4⟩ := a
  refine ⟨a1, a2, ?_, ?_⟩ <;> omega
theorem Ap.fresh {lo lo' : Nat} {w : World} {g rb g' rb' : Nat} {up up' : SM} {L L' : List (Int × Int)} (h : SV lo w g rb up L) {B : Nat} (hB : g < B) (hB' : rb < B) (h' : SV B w g' rb' up' L') : Ap g rb g' rb' := by
  have h1 := h'.low
  exact ⟨by omega, by omega, by omega, by omega⟩
theorem set_at {w : World} {g : Nat} {C : Array Value} {t : TypeId} {fr : Nat × Nat} (h : w.heap[g]? = some (.cells C t fr)) (o : Nat) (v : Value) : (w.setCell ⟨g, o, none⟩ v).heap[g]? = some (.cells (C.setIfInBounds o v) t fr) := by
  have hl : g < w.heap.size := by
    by_cases hlt : g < w.heap.size
    · exact hlt
    · rw [Array.getElem?_eq_none (by omega)] at h; cases h
  simp [World.setCell, h, Array.getElem?_modify]
/-- A semaphore's list, in a row apart from it. -/
theorem SV.rows {lo : Nat} {w : World} {g rb : Nat} {up : SM} {L : List (Int × Int)} (h : SV lo w g rb up L) :
    ∃ v rx, w.heap[g]? = some (.cells #[.int .i64 up.c, .int .i64 up.m, .bool up.p, v] 69 (0, 0)) ∧ RowV w v rx L ∧ rx ≠ g ∧ ((v = .slice none 0 0 ∧ L = [] ∧ rb = g ∧ w.heap.size + 9 ≤ rx) ∨ (rx = rb ∧ rb ≠ g)) := by
  obtain ⟨v, a, b, c⟩ := h.ex
  rcases c with ⟨rfl, hc⟩ | hc
  · have hL : L = [] := by
      have := b.own.2
      rcases this with ⟨_, h0⟩ | ⟨q, cap, cur, hv, _⟩
      · exact List.eq_nil_of_length_eq_zero h0
      · cases hv
    subst hL
    exact ⟨_, w.heap.size + 9, a, ⟨b.own, fun q hq => by cases hq⟩, by have := h.lt; omega, .inl ⟨rfl, rfl, hc, Nat.le_refl _⟩⟩
  · exact ⟨v, rb, a, b, hc, .inr ⟨rfl, hc⟩⟩
theorem SV.nil {lo : Nat} {w : World} {g : Nat} {up : SM} (hl : lo ≤ g) (h : w.heap[g]? = some (.cells #[.int .i64 up.c, .int .i64 up.m, .bool up.p, .slice none 0 0] 69 (0, 0))) : SV lo w g g up [] := by
  have hlt : g < w.heap.size := (Array.getElem?_eq_some_iff.1 h).1
  exact ⟨⟨hl, hl⟩, ⟨hlt, hlt⟩, _, h, ⟨World.ownsRow_nil _ _ _ _, fun q hq => by cases hq⟩, .inl ⟨rfl, rfl⟩⟩
/-- What the searches need of a semaphore: its list stands in cell 3. -/
structure TV (w : World) (g rb : Nat) (L : List (Int × Int)) : Prop where
  lt : g < w.heap.size
  ex : ∃ v, w.cell? ⟨g, 3, none⟩ = some v ∧ RowV w v rb L ∧ (v = .slice none 0 0 ∨ rb < w.heap.size)
theorem TV.below {w w' : World} {g rb : Nat} {L : List (Int × Int)} (h : TV w g rb L) (hb : Below w.heap.size w w') : TV w' g rb L := by
  obtain ⟨v, a, b, c⟩ := h.ex
  refine ⟨Nat.lt_of_lt_of_le h.lt hb.size, v, cell_later hb a, b.keep ?_, c.imp id fun c => Nat.lt_of_lt_of_le c hb.size⟩
  rcases c with c | c
  · exact .inl c
  · exact .inr (hb.block rb c)
theorem SV.tv {lo : Nat} {w : World} {g rb : Nat} {up : SM} {L : List (Int × Int)} (h : SV lo w g rb up L) : TV w g rb L := by
  obtain ⟨v, a, b, c⟩ := h.ex
  exact ⟨h.lt.1, v, by rw [(row_cell a 3).1]; rfl, b, .inr h.lt.2⟩
end Go.Proofs.Ytobnhjkcbhajbaa.S
