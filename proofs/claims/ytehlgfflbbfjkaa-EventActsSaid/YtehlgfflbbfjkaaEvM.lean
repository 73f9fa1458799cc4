/-
  Events as plain things, and how they read in memory. Each statement bears its own conditions.
-/
import Derived.Test.YtehlgfflbbfjkaaIvA
import Derived.Test.YtehlgfflbbfjkaaSpM
namespace Go.Proofs.Ytehlgfflbbfjkaa.E
open Go.RowKit Go.Proofs.Ytehlgfflbbfjkaa.I
set_option linter.unusedVariables false
set_option linter.unusedSimpArgs false
/-- Those that are not x. -/
def outI (L : List Int) (x : Int) : List Int := L.filter fun y => decide (y ≠ x)
theorem outI_len (L : List Int) (x : Int) : (outI L x).length ≤ L.length := List.length_filter_le _ _
theorem outI_nil (x : Int) : outI [] x = [] := rfl
theorem outI_app (L M : List Int) (x : Int) : outI (L ++ M) x = outI L x ++ outI M x := by simp [outI]
theorem outI_same {L : List Int} {x : Int} (h : x ∉ L) : outI L x = L := by
  unfold outI
  rw [List.filter_eq_self]
  intro y hy
  rw [decide_eq_true_iff]
  rintro rfl
  exact h hy
theorem outI_lt {L : List Int} {x : Int} (h : x ∈ L) : (outI L x).length < L.length := by
  unfold outI
  apply List.length_filter_lt_length_iff_exists.2
  exact ⟨x, h, by simp⟩
/-- Only the blocks g and rb may change, and there may be new ones. -/
structure Ch (g rb : Nat) (w w' : World) : Prop where
  os : w'.os = w.os
  tape : w'.tape = w.tape
  output : w'.output = w.output
  size : w.heap.size ≤ w'.heap.size
  block : ∀ k, k < w.heap.size → k ≠ g → k ≠ rb → w'.heap[k]? = w.heap[k]?
theorem Ch.refl (g rb : Nat) (w : World) : Ch g rb w w := ⟨rfl, rfl, rfl, Nat.le_refl _, fun _ _ _ _ => rfl⟩
theorem Ch.of_below {g rb : Nat} {w w' : World} (h : Below w.heap.size w w') : Ch g rb w w' := ⟨h.os, h.tape, h.output, h.size, fun k hk _ _ => h.block k hk⟩
theorem Ch.of_past {g rb : Nat} {w w' : World} (h : Past g w w') : Ch g rb w w' := ⟨h.os, h.tape, h.output, h.size, fun k hk h1 _ => h.block k hk h1⟩
theorem Ch.of_past2 {g rb : Nat} {w w' : World} (h : Past rb w w') : Ch g rb w w' := ⟨h.os, h.tape, h.output, h.size, fun k hk _ h1 => h.block k hk h1⟩
theorem Ch.trans {g rb rb' : Nat} {a b c : World} (h : Ch g rb a b) (k : Ch g rb' b c) (hr : rb' = rb ∨ rb' = g ∨ a.heap.size ≤ rb') : Ch g rb a c :=
  ⟨k.os.trans h.os, k.tape.trans h.tape, k.output.trans h.output, Nat.le_trans h.size k.size, fun i hi h1 h2 => (k.block i (Nat.lt_of_lt_of_le hi h.size) h1 (by omega)).trans (h.block i hi h1 h2)⟩
theorem Ch.below {g rb B : Nat} {w w' : World} (h : Ch g rb w w') (hg : B ≤ g) (hr : B ≤ rb) (hB : B ≤ w.heap.size) : Below B w w' := ⟨h.os, h.tape, h.output, h.size, fun k hk => h.block k (by omega) (by omega) (by omega)⟩
theorem Ch.cell {g rb : Nat} {w w' : World} {a : Addr} {u : Value} (h : Ch g rb w w') (h1 : a.block ≠ g) (h2 : a.block ≠ rb) (hc : w.cell? a = some u) : w'.cell? a = some u :=
  (World.cell?_of_block (h.block a.block (World.block_lt_of_cell? _ _ hc) h1 h2)).trans hc
/-- An event lies in block g, its list in block rb; nothing of it below lo. -/
structure EV (lo : Nat) (w : World) (g rb : Nat) (up : Bool) (L : List Int) : Prop where
  low : lo ≤ g ∧ lo ≤ rb
  lt : g < w.heap.size ∧ rb < w.heap.size
  ex : ∃ v, w.heap[g]? = some (.cells #[.bool up, v] 45 (0, 0)) ∧ RowV w v rb L ∧ ((v = .slice none 0 0 ∧ rb = g) ∨ rb ≠ g)
theorem EV.keep {lo : Nat} {w w' : World} {g rb : Nat} {up : Bool} {L : List Int} (h : EV lo w g rb up L) (hs : w.heap.size ≤ w'.heap.size) (h1 : w'.heap[g]? = w.heap[g]?) (h2 : w'.heap[rb]? = w.heap[rb]?) : EV lo w' g rb up L := by
  obtain ⟨v, a, b, c⟩ := h.ex
  exact ⟨h.low, ⟨Nat.lt_of_lt_of_le h.lt.1 hs, Nat.lt_of_lt_of_le h.lt.2 hs⟩, v, h1.trans a, b.keep (.inr h2), c⟩
theorem EV.below {lo : Nat} {w w' : World} {g rb : Nat} {up : Bool} {L : List Int} (h : EV lo w g rb up L) (hb : Below w.heap.size w w') : EV lo w' g rb up L := h.keep hb.size (hb.block g h.lt.1) (hb.block rb h.lt.2)
theorem EV.less {lo lo' : Nat} {w : World} {g rb : Nat} {up : Bool} {L : List Int} (h : EV lo w g rb up L) (hl : lo' ≤ lo) : EV lo' w g rb up L := ⟨⟨by have := h.low; omega, by have := h.low; omega⟩, h.lt, h.ex⟩
/-- What becomes of an event's blocks. -/
structure Nx (g rb rb' : Nat) (w w' : World) : Prop where
  ch : Ch g rb w w'
  rb : rb' = rb ∨ rb' = g ∨ w.heap.size ≤ rb'
theorem Nx.refl (g rb : Nat) (w : World) : Nx g rb rb w w := ⟨Ch.refl _ _ _, .inl rfl⟩
theorem Nx.of_below {g rb : Nat} {w w' : World} (h : Below w.heap.size w w') : Nx g rb rb w w' := ⟨Ch.of_below h, .inl rfl⟩
theorem Nx.trans {g rb rb' rb'' : Nat} {a b c : World} (h : Nx g rb rb' a b) (k : Nx g rb' rb'' b c) : Nx g rb rb'' a c :=
  ⟨h.ch.trans k.ch h.rb, by have := h.rb; have := k.rb; have := h.ch.size; omega⟩
theorem Nx.below {g rb rb' lo : Nat} {up : Bool} {L : List Int} {w w' : World} (h : Nx g rb rb' w w') (e : EV lo w g rb up L) : Below lo w w' := h.ch.below e.low.1 e.low.2 (by have := e.low; have := e.lt; omega)
/-- Two events lie apart. -/
def Ap (g rb g' rb' : Nat) : Prop := g ≠ g' ∧ g ≠ rb' ∧ rb ≠ g' ∧ rb ≠ rb'
theorem Ap.symm {g rb g' rb' : Nat} (h : Ap g rb g' rb') : Ap g' rb' g rb := ⟨h.1.symm, h.2.2.1.symm, h.2.1.symm, h.2.2.2.symm⟩
theorem EV.other {lo : Nat} {w w' : World} {g rb rb1 g' rb' : Nat} {up : Bool} {L : List Int} (h : EV lo w g' rb' up L) (n : Nx g rb rb1 w w') (a : Ap g rb g' rb') : EV lo w' g' rb' up L :=
  h.keep n.ch.size (n.ch.block _ h.lt.1 a.1.symm a.2.2.1.symm) (n.ch.block _ h.lt.2 a.2.1.symm a.2.2.2.symm)
theorem Ap.step {lo : Nat} {w w' : World} {g rb rb1 g' rb' : Nat} {up : Bool} {L : List Int} (a : Ap g rb g' rb') (h : EV lo w g' rb' up L) (n : Nx g rb rb1 w w') : Ap g rb1 g' rb' := by
  have h1 := n.rb; have h2 := h.lt
  obtain ⟨a1, a2, a3, a4⟩ := a
  refine ⟨a1, a2, ?_, ?_⟩ <;> omega
theorem Ap.fresh {lo lo' : Nat} {w : World} {g rb g' rb' : Nat} {up up' : Bool} {L L' : List Int} (h : EV lo w g rb up L) {B : Nat} (hB : g < B) (hB' : rb < B) (h' : EV B w g' rb' up' L') : Ap g rb g' rb' := by
  have h1 := h'.low
  exact ⟨by omega, by omega, by omega, by omega⟩
/-- A list that is read, in a block of which p holds. -/
def Rl (w : World) (v : Value) (p : Nat → Prop) (L : List Int) : Prop := ∃ b, RowV w v b L ∧ (v = .slice none 0 0 ∨ (b < w.heap.size ∧ p b))
theorem Rl.nil (w : World) (p : Nat → Prop) : Rl w (.slice none 0 0) p [] := ⟨0, ⟨World.ownsRow_nil _ _ _ _, fun b hb => by cases hb⟩, .inl rfl⟩
theorem Rl.imp {w : World} {v : Value} {p q : Nat → Prop} {L : List Int} (h : Rl w v p L) (hi : ∀ b, b < w.heap.size → p b → q b) : Rl w v q L := by
  obtain ⟨b, h1, h2⟩ := h
  exact ⟨b, h1, h2.imp id fun h => ⟨h.1, hi b h.1 h.2⟩⟩
theorem Rl.keep {w w' : World} {v : Value} {p : Nat → Prop} {L : List Int} (h : Rl w v p L) (hs : w.heap.size ≤ w'.heap.size) (hk : ∀ b, b < w.heap.size → p b → w'.heap[b]? = w.heap[b]?) : Rl w' v (fun b => b < w.heap.size ∧ p b) L := by
  obtain ⟨b, h1, h2⟩ := h
  rcases h2 with h2 | h2
  · exact ⟨b, h1.keep (.inl h2), .inl h2⟩
  · exact ⟨b, h1.keep (.inr (hk b h2.1 h2.2)), .inr ⟨Nat.lt_of_lt_of_le h2.1 hs, h2.1, h2.2⟩⟩
theorem Rl.below {w w' : World} {v : Value} {p : Nat → Prop} {L : List Int} (h : Rl w v p L) (hb : Below w.heap.size w w') : Rl w' v (fun b => b < w.heap.size ∧ p b) L := h.keep hb.size fun b h1 _ => hb.block b h1
theorem Rl.ch {w w' : World} {g rb : Nat} {v : Value} {p : Nat → Prop} {L : List Int} (h : Rl w v p L) (hc : Ch g rb w w') (hp : ∀ b, p b → b ≠ g ∧ b ≠ rb) : Rl w' v (fun b => b < w.heap.size ∧ p b) L := h.keep hc.size fun b h1 h2 => hc.block b h1 (hp b h2).1 (hp b h2).2
end Go.Proofs.Ytehlgfflbbfjkaa.E
