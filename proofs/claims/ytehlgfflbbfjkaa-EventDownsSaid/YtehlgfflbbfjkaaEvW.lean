/-
  A list of the law's own, apart from an event; numbers that come in. Each statement bears its own conditions.
-/
import Derived.Test.YtehlgfflbbfjkaaEvS
namespace Go.Proofs.Ytehlgfflbbfjkaa.E
open Go.RowKit Go.Proofs.Ytehlgfflbbfjkaa.I
set_option linter.unusedVariables false
set_option linter.unusedSimpArgs false
def IsRow (k : IntKind) (w : World) (a : Option Addr) (len cap : Nat) (zs : List Int) : Prop :=
  (a = none ∧ len = 0 ∧ cap = 0 ∧ zs = []) ∨
  ∃ x, a = some x ∧ len ≤ cap ∧ cap ≤ maxLen ∧ zs.length = cap ∧ (∀ i, i < zs.length → w.cell? (x.add i) = some (.int k (zs.getD i 0))) ∧ ∀ n ∈ zs, (Lit.int k n).wf = true
theorem row_at {k : IntKind} {w : World} {a : Option Addr} {len cap : Nat} {zs : List Int} (h : IsRow k w a len cap zs) (hn : 0 < len) : ∃ b off, a = some ⟨b, off, none⟩ ∧ ∀ i, i < len → w.cell? ⟨b, off + i, none⟩ = some (.int k (zs.getD i 0)) ∧ (Lit.int k (zs.getD i 0)).wf = true := by
  rcases h with ⟨rfl, rfl, rfl, rfl⟩ | ⟨⟨b, off, spot⟩, rfl, h1, h2, h3, h4, h5⟩
  · omega
  · have e0 := h4 0 (by omega)
    have hs : spot = none := by simpa [Addr.add] using World.cell?_spot e0
    subst hs
    refine ⟨b, off, rfl, fun i hi => ⟨?_, ?_⟩⟩
    · have := h4 i (by omega)
      rwa [Addr.add_lit] at this
    · apply h5
      rw [List.getD_eq_getElem?_getD, List.getElem?_eq_getElem (by omega)]
      exact List.getElem_mem _
/-- A list of the law's own, in block qb, apart from an event. -/
def OW (lo : Nat) (w : World) (g rb : Nat) (v : Value) (qb : Nat) (L : List Int) : Prop := RowV w v qb L ∧ (v = .slice none 0 0 ∨ (lo ≤ qb ∧ qb < w.heap.size ∧ qb ≠ g ∧ qb ≠ rb))
theorem OW.nil (lo : Nat) (w : World) (g rb : Nat) : OW lo w g rb (.slice none 0 0) 0 [] := ⟨⟨World.ownsRow_nil _ _ _ _, fun b hb => by cases hb⟩, .inl rfl⟩
theorem OW.nx {lo : Nat} {w w' : World} {g rb rb' : Nat} {v : Value} {qb : Nat} {L : List Int} (h : OW lo w g rb v qb L) (n : Nx g rb rb' w w') : OW lo w' g rb' v qb L := by
  rcases h.2 with h2 | ⟨h2, h3, h4, h5⟩
  · exact ⟨h.1.keep (.inl h2), .inl h2⟩
  · refine ⟨h.1.keep (.inr (n.ch.block qb h3 h4 h5)), .inr ⟨h2, Nat.lt_of_lt_of_le h3 n.ch.size, h4, ?_⟩⟩
    have := n.rb
    omega
theorem OW.below {lo : Nat} {w w' : World} {g rb : Nat} {v : Value} {qb : Nat} {L : List Int} (h : OW lo w g rb v qb L) (b : Below w.heap.size w w') : OW lo w' g rb v qb L := h.nx (Nx.of_below b)
theorem OW.of_own {lo B : Nat} {w : World} {g rb : Nat} {v : Value} {L : List Int} (h : w.ownsRow B 3 1 v L.length (C L)) (hl : lo ≤ B) (hg : g < B) (hr : rb < B) : ∃ qb, OW lo w g rb v qb L := by
  obtain ⟨b, h1, h2⟩ := Rl.of_own h
  refine ⟨b, h1, ?_⟩
  rcases h2 with h2 | h2
  · exact .inl h2
  · exact .inr (by omega)
theorem OW.grow {lo : Nat} {w w2 : World} {g rb : Nat} {v v2 : Value} {qb : Nat} {L M : List Int} {up : Bool} {x : Int} (h : OW lo w g rb v qb L) (E : EV lo w g rb up M)
    (ho : w2.ownsRow 0 3 1 v2 (L.length + 1) (C L ++ [.int .i64 x])) (hg : (w.alloc (.cells #[.int .i64 x] 3)).grownBy w2 v.ownBlock)
    (hb : v2.ownBlock = v.ownBlock ∨ v2.ownBlock = some (w.heap.size + 1)) :
    ∃ qb2, OW lo w2 g rb v2 qb2 (L ++ [x]) ∧ EV lo w2 g rb up M ∧ Below lo w w2 := by
  have hsz : w.heap.size + 1 ≤ w2.heap.size := by have := hg.size; simpa using this
  have hlt := E.lt
  have hlow := E.low
  have hbk : ∀ k, k < w.heap.size → (∀ q, v.ownBlock = some q → k ≠ q) → w2.heap[k]? = w.heap[k]? := fun k hk hne => by
    rw [hg.block k (by simp; omega) (fun e => hne k e.symm rfl)]
    exact ((Below.refl w.heap.size w).alloc (Nat.le_refl _) _).block k hk
  have hvb : ∀ q, v.ownBlock = some q → q = qb ∧ lo ≤ qb ∧ qb < w.heap.size ∧ qb ≠ g ∧ qb ≠ rb := fun q hq => by
    rcases h.2 with h2 | h2
    · rw [h2] at hq; cases hq
    · exact ⟨h.1.at_ q hq, h2⟩
  obtain ⟨q, hq, hqlt⟩ : ∃ q, v2.ownBlock = some q ∧ q < w2.heap.size := by
    rcases ho.2 with ⟨_, h0⟩ | ⟨q, cap, cur, hv, _, hgq, _⟩
    · omega
    · exact ⟨q, by rw [hv]; rfl, (Array.getElem?_eq_some_iff.1 hgq).1⟩
  have hqq : lo ≤ q ∧ q ≠ g ∧ q ≠ rb := by
    rcases hb with hb | hb
    · rw [hq] at hb
      have := hvb q hb.symm
      omega
    · rw [hq] at hb
      injection hb with hb
      omega
  refine ⟨q, ⟨⟨by rw [C_app, List.length_append]; exact ho, fun b hb => by rw [hq] at hb; injection hb with hb; exact hb.symm⟩, .inr ⟨hqq.1, hqlt, hqq.2⟩⟩, E.keep (by omega) (hbk g hlt.1 fun q hq => by have := hvb q hq; omega) (hbk rb hlt.2 fun q hq => by have := hvb q hq; omega), ?_⟩
  exact ⟨hg.os, hg.tape, hg.output, by omega, fun k hk => hbk k (by omega) fun q hq => by have := hvb q hq; omega⟩
end Go.Proofs.Ytehlgfflbbfjkaa.E
