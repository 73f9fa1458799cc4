/-
  What a law keeps of an event and of the reference's. Each statement bears its own conditions.
-/
import Derived.Test.YtehlgfflbbfjkaaEvO
namespace Go.Proofs.Ytehlgfflbbfjkaa.E
open Go.RowKit Go.Proofs.Ytehlgfflbbfjkaa.I
set_option linter.unusedVariables false
set_option linter.unusedSimpArgs false
theorem cell_low {lo : Nat} {w w' : World} {b o : Nat} {u : Value} (h : Below lo w w') (hb : b < lo) (hc : w.cell? ⟨b, o, none⟩ = some u) : w'.cell? ⟨b, o, none⟩ = some u := (h.cell (by exact hb)).trans hc
theorem Ap.new {lo : Nat} {w w' : World} {g rb g' rb' : Nat} {up up' : Bool} {L L' : List Int} {B : Nat} (_ : EV lo w g rb up L) (hB : g < B) (hB' : rb < B) (h' : EV B w' g' rb' up' L') : Ap g rb g' rb' := by
  have h1 := h'.low
  exact ⟨by omega, by omega, by omega, by omega⟩
/-- An event, and the reference's in a box. -/
structure ST (lo bw : Nat) (w : World) (g rb : Nat) (up : Bool) (L : List Int) (v : Value) : Prop where
  ev : EV lo w g rb up L
  bx : w.heap[bw]? = some (.cells #[.bool up, v] 28 (0, 0))
  ap : bw ≠ g ∧ bw ≠ rb ∧ lo ≤ bw
  rl : Rl w v (fun b => b ≠ g ∧ b ≠ rb ∧ b ≠ bw) L
  nu : up = true → L = []
theorem ST.blt {lo bw : Nat} {w : World} {g rb : Nat} {up : Bool} {L : List Int} {v : Value} (h : ST lo bw w g rb up L v) : bw < w.heap.size := (Array.getElem?_eq_some_iff.1 h.bx).1
theorem ST.below {lo bw : Nat} {w w' : World} {g rb : Nat} {up : Bool} {L : List Int} {v : Value} (h : ST lo bw w g rb up L v) (hb : Below w.heap.size w w') : ST lo bw w' g rb up L v :=
  ⟨h.ev.below hb, (hb.block bw h.blt).trans h.bx, h.ap, h.rl.keep_below hb, h.nu⟩
theorem ST.start {lo : Nat} {w : World} {g : Nat} (h : EV lo w g g false []) : ST lo w.heap.size (w.alloc (.cells #[.bool false, .slice none 0 0] 28)) g g false [] (.slice none 0 0) :=
  ⟨h.below ((Below.refl _ _).alloc (Nat.le_refl _) _), heap_alloc_new _ _, by have := h.lt; have := h.low; omega, Rl.nil _ _, fun h => by cases h⟩
theorem ST.form {lo bw : Nat} {w : World} {g rb : Nat} {up : Bool} {L : List Int} {v : Value} (h : ST lo bw w g rb up L v) : ∃ A c, v = .slice A L.length c := by
  obtain ⟨b, hb⟩ := h.rl.row
  exact slice_form hb.own
/-- Behind do, and once its answer is laid into the box. -/
theorem ST.next {lo bw : Nat} {w w' : World} {g rb rb' : Nat} {up up' : Bool} {L L' : List Int} {v v' : Value} (h : ST lo bw w g rb up L v) (E : EV lo w' g rb' up' L')
    (R : Rl w' v' (fun b => (b < w.heap.size ∧ (b ≠ g ∧ b ≠ rb ∧ b ≠ bw)) ∨ (w.heap.size ≤ b ∧ b ≠ rb')) L') (N : Nx g rb rb' w w') (nu : up' = true → L' = []) :
    ST lo bw ((w'.setCell ⟨bw, 0, none⟩ (.bool up')).setCell ⟨bw, 1, none⟩ v') g rb' up' L' v' ∧ Below lo w ((w'.setCell ⟨bw, 0, none⟩ (.bool up')).setCell ⟨bw, 1, none⟩ v') := by
  have hb := h.blt
  have ha := h.ap
  have hl := h.ev.lt
  have hr := N.rb
  have hx : w'.heap[bw]? = some (.cells #[.bool up, v] 28 (0, 0)) := (N.ch.block bw hb ha.1 ha.2.1).trans h.bx
  have hs := set_at (set_at hx 0 (.bool up')) 1 v'
  refine ⟨⟨E.keep (by simp) ?_ ?_, hs, by omega, ?_, nu⟩, ?_⟩
  · rw [set_far _ _ (by omega), set_far _ _ (by omega)]
  · rw [set_far _ _ (by omega), set_far _ _ (by omega)]
  · refine (R.keep (by simp) (fun b hb hp => ?_)).imp fun b hb hp => ?_
    · rw [set_far _ _ (by omega), set_far _ _ (by omega)]
    · omega
  · exact ((N.below h.ev).setCell ha.2.2 _).setCell ha.2.2 _
structure LE (lo bw g top : Nat) (w wx : World) : Prop where
  ex : ∃ (rb : Nat) (up : Bool) (L : List Int) (v : Value), ST lo bw wx g rb up L v ∧ L.length ≤ top ∧ Below lo w wx
structure LR2 (k lo bw g n top : Nat) (w : World) (iv : Value) (wr : World) : Prop where
  ex : ∃ (j rb : Nat) (up : Bool) (L : List Int) (v : Value), j ≤ n ∧ j ≤ top ∧ iv = .int .i64 (j : Int) ∧ ST lo bw wr g rb up L v ∧ L.length ≤ k + j ∧ Below lo w wr
structure LR (lo bw g n top : Nat) (w : World) (iv : Value) (wr : World) : Prop where
  ex : ∃ (j rb : Nat) (up : Bool) (L : List Int) (v : Value), j ≤ n ∧ j ≤ top ∧ iv = .int .i64 (j : Int) ∧ ST lo bw wr g rb up L v ∧ L.length ≤ j ∧ Below lo w wr
end Go.Proofs.Ytehlgfflbbfjkaa.E
