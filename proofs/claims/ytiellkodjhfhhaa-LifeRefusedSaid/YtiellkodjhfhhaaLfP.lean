/-
  What comes in; a Life and the document's in a box. Each statement bears its own conditions.
-/
import Derived.Test.YtiellkodjhfhhaaLfD
namespace Go.Proofs.Ytiellkodjhfhhaa.Lf
open Go.RowKit Go.Proofs.Ytiellkodjhfhhaa.F 
set_option linter.unusedVariables false
set_option linter.unusedSimpArgs false
def IsRow (k : IntKind) (w : World) (a : Option Addr) (len cap : Nat) (zs : List Int) : Prop :=
  (a = none ∧ len = 0 ∧ cap = 0 ∧ zs = []) ∨
  ∃ x, a = some x ∧ len ≤ cap ∧ cap ≤ maxLen ∧ zs.length = cap ∧ (∀ i, i < zs.length → w.cell? (x.add i) = some (.int k (zs.getD i 0))) ∧ ∀ n ∈ zs, (Lit.int k n).wf = true
theorem row_at {k : IntKind} {w : World} {a : Option Addr} {len cap : Nat} {zs : List Int} (h : IsRow k w a len cap zs) (hn : 0 < len) : ∃ b off, a = some ⟨b, off, none⟩ ∧ ∀ i, i < len → w.cell? ⟨b, off + i, none⟩ = some (.int k (zs.getD i 0)) ∧ (Lit.int k (zs.getD i 0)).wf = true := by
  rcases h with ⟨rfl, rfl, rfl, rfl⟩ | ⟨⟨b, off, spot⟩, rfl, h1, h2, h3, h4, h5⟩
  · omega
  · have e0 := h4 0 (by omega)
    have hs : spot = none := by simpa [Addr.add] using World.cell?_spot e0
    subst hs
    refine ⟨b, off, rfl, fun i hi => ⟨?_, ?_⟩⟩
    · have := h4 i (by omega)
      rwa [Addr.add_lit] at this
    · apply h5
      rw [List.getD_eq_getElem?_getD, List.getElem?_eq_getElem (by omega)]
      exact List.getElem_mem _
theorem u64_tmod (a m : Int) (hm : 0 < m) : 0 ≤ (IntKind.u64.wrap a).tmod m ∧ (IntKind.u64.wrap a).tmod m < m := by
  have h : 0 ≤ IntKind.u64.wrap a := by rw [IntKind.wrap_u64]; exact Int.emod_nonneg _ (by decide)
  exact ⟨Int.tmod_nonneg _ h, Int.tmod_lt_of_pos _ hm⟩
/-- A Life in block g, and the document's in a box. -/
structure LP (lo bw : Nat) (w0 w : World) (g : Nat) (s : LS) (f : Int) : Prop where
  lv : LV w g s
  bx : w.heap[bw]? = some (.cells #[.int .i64 s.mode, .int .i64 s.starts, .int .i64 s.left, .int .i64 f] 30 (0, 0))
  ne : g ≠ bw
  ll : lo ≤ g ∧ lo ≤ bw
  be : Below lo w0 w
  hf : f = s.left + s.starts
section
variable {lo bw g : Nat} {w0 w w' : World} {s s' : LS} {f : Int}
theorem LP.blt (h : LP lo bw w0 w g s f) : bw < w.heap.size := (Array.getElem?_eq_some_iff.1 h.bx).1
theorem LP.nil (h : LP lo bw w0 w g s f) : lo ≤ w.heap.size := by have := h.blt; have := h.ll; omega
theorem LP.below (h : LP lo bw w0 w g s f) (hb : Below w.heap.size w w') : LP lo bw w0 w' g s f := ⟨h.lv.below hb, (hb.block _ h.blt).trans h.bx, h.ne, h.ll, h.be.trans (hb.mono h.nil), h.hf⟩
theorem LP.box (h : LP lo bw w0 w g s f) : w.cell? ⟨bw, 0, none⟩ = some (.int .i64 s.mode) ∧ w.cell? ⟨bw, 1, none⟩ = some (.int .i64 s.starts) ∧ w.cell? ⟨bw, 2, none⟩ = some (.int .i64 s.left) ∧ w.cell? ⟨bw, 3, none⟩ = some (.int .i64 f) := ⟨by rw [(row_cell h.bx 0).1]; rfl, by rw [(row_cell h.bx 1).1]; rfl, by rw [(row_cell h.bx 2).1]; rfl, by rw [(row_cell h.bx 3).1]; rfl⟩
/-- Something is done with the Life, then the document's is laid anew. -/
theorem LP.put {w5 : World} (h : LP lo bw w0 w g s f) (hv : LV w5 g s') (hb : w5.heap[bw]? = some (.cells #[.int .i64 s.mode, .int .i64 s.starts, .int .i64 s.left, .int .i64 f] 30 (0, 0))) (hw : Below lo w0 w5) (hf : f = s'.left + s'.starts) : LP lo bw w0 ((((w5.setCell ⟨bw, 0, none⟩ (.int .i64 s'.mode)).setCell ⟨bw, 1, none⟩ (.int .i64 s'.starts)).setCell ⟨bw, 2, none⟩ (.int .i64 s'.left)).setCell ⟨bw, 3, none⟩ (.int .i64 f)) g s' f := by
  have B := box4 hb (.int .i64 s'.mode) (.int .i64 s'.starts) (.int .i64 s'.left) (.int .i64 f)
  exact ⟨hv.fo B.2 h.ne, B.1, h.ne, h.ll, hw.trans (B.2.below (fun b hb => by rw [hb]; exact h.ll.2) (by have := h.ll; have := hv.lt; omega)), hf⟩
end
end Go.Proofs.Ytiellkodjhfhhaa.Lf
