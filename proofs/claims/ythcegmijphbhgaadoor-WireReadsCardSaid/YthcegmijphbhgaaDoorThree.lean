/-
  What an argument that is a slice of structs of three numbers looks like in memory, opened. Each statement bears its own conditions.
-/
import Derived.Test.YthcegmijphbhgaaDoorReads
import Derived.Deep.Slices
import Derived.ChangeSlices
import Derived.ChangeArms
import Derived.ProofKit
import Derived.OpenShut
import Derived.ChangeOld
namespace Go.Proofs.YthcegmijphbhgaaDoor
open Go.RowKit Go.ChangeShapes Go.WideShapes Go.ChangeAt
set_option linter.unusedSimpArgs false
set_option linter.unusedVariables false
theorem three_of {H : Type} {enc : TypeId × Value → H} {P : Program} {W : World} {base : Nat} {held : Bool} {t e : TypeId} {F0 F1 F2 : Field} {k0 k1 k2 : IntKind} {fuel : Nat} {a : Option Addr} {len cap : Nat} {x : DataW H × List MemPlace}
    (ht : P.underlying t = some (.slice e)) (he : P.underlying e = some (.struct #[F0, F1, F2])) (hC : P.cellsOf e = 3) (ho : F0.offset = 0 ∧ F1.offset = 1 ∧ F2.offset = 2) (hc : P.cellsOf F0.type = 1 ∧ P.cellsOf F1.type = 1 ∧ P.cellsOf F2.type = 1)
    (h0 : P.underlying F0.type = some (.int k0)) (h1 : P.underlying F1.type = some (.int k1)) (h2 : P.underlying F2.type = some (.int k2)) (h : DataW.trod enc P W base (fun _ => true) held fuel t [.slice a len cap] = some x) :
    len ≤ maxLen ∧ (0 < len → ∃ (b off : Nat) (K M T : Nat → Int), a = some ⟨b, off, none⟩ ∧ ∀ r, r < len → W.cell? ⟨b, off + r * 3, none⟩ = some (.int k0 (K r)) ∧ W.cell? ⟨b, off + r * 3 + 1, none⟩ = some (.int k1 (M r)) ∧ W.cell? ⟨b, off + r * 3 + 2, none⟩ = some (.int k2 (T r)) ∧
      (Lit.int k0 (K r)).wf = true ∧ (Lit.int k1 (M r)).wf = true ∧ (Lit.int k2 (T r)).wf = true) := by
  rcases Go.Deep.open_slice ht h with ⟨hcs, _⟩ | ⟨y, l, c, m, n, D, Pl, hcs, _, hl, hm, hmm, _, hi⟩
  · injection hcs with hcs
    injection hcs with _ h3 _
    exact ⟨by rw [h3]; unfold maxLen; omega, fun hp => by omega⟩
  · injection hcs with hcs
    injection hcs with e1 e2 e3
    subst e1 e2 e3
    simp only [if_true] at hmm
    subst hmm
    refine ⟨Nat.le_trans hl hm, fun hp => ?_⟩
    have each : ∀ i, i < len → ∃ q : Int × Int × Int, W.cell? (y.add (i * 3)) = some (.int k0 q.1) ∧ W.cell? ((y.add (i * 3)).add 1) = some (.int k1 q.2.1) ∧ W.cell? ((y.add (i * 3)).add 2) = some (.int k2 q.2.2) ∧ (Lit.int k0 q.1).wf = true ∧ (Lit.int k1 q.2.1).wf = true ∧ (Lit.int k2 q.2.2).wf = true := by
      intro i hil
      obtain ⟨cs, hcc, ht'⟩ := hi i (by omega)
      rw [hC] at hcc
      obtain ⟨_, hlen, hat⟩ := World.cells?_some hcc
      obtain ⟨ys, n', _, _, _, hyl, hf⟩ := DataW.trod_struct he ht'
      match cs, hlen with
      | [u0, u1, u2], _ =>
        have g0 := hf 0 F0 rfl
        have g1 := hf 1 F1 rfl
        have g2 := hf 2 F2 rfl
        rw [ho.1, hc.1] at g0
        rw [ho.2.1, hc.2.1] at g1
        rw [ho.2.2, hc.2.2] at g2
        match ys, hyl with
        | [w0, w1, w2], _ =>
          obtain ⟨z0, d0, _, f0⟩ := DataW.trod_int h0 g0
          obtain ⟨z1, d1, _, f1⟩ := DataW.trod_int h1 g1
          obtain ⟨z2, d2, _, f2⟩ := DataW.trod_int h2 g2
          have c0 := hat 0 (by omega)
          have c1 := hat 1 (by omega)
          have c2 := hat 2 (by omega)
          simp at d0 d1 d2 c0 c1 c2
          subst d0 d1 d2
          exact ⟨(z0, z1, z2), by rw [show (y.add (i * 3)).add 0 = y.add (i * 3) by unfold Addr.add; simp] at c0; exact c0, c1, c2, f0, f1, f2⟩
    obtain ⟨q, hq⟩ := Go.Deep.choose_lt each
    obtain ⟨b, off, spot⟩ := y
    have e0 := (hq 0 hp).1
    have hs : spot = none := by simpa [Addr.add] using World.cell?_spot e0
    subst hs
    refine ⟨b, off, fun i => (q i).1, fun i => (q i).2.1, fun i => (q i).2.2, rfl, fun r hr => ?_⟩
    have := hq r hr
    simpa [Addr.add_lit] using this
/-- The slice of reads. -/
theorem actRow_of {H : Type} {enc : TypeId × Value → H} {W : World} {base : Nat} {held : Bool} {fuel : Nat} {a : Option Addr} {len cap : Nat} {x : DataW H × List MemPlace} (h : DataW.trod enc Tryd.prog W base (fun _ => true) held fuel 35 [.slice a len cap] = some x) : ActRow W a len ∧ len ≤ maxLen := by
  obtain ⟨h1, h2⟩ := three_of Tryd.underlying35 Tryd.underlying41 (by kernel_rfl) ⟨rfl, rfl, rfl⟩ ⟨by kernel_rfl, by kernel_rfl, by kernel_rfl⟩ Tryd.underlying3 Tryd.underlying3 Tryd.underlying23 h
  refine ⟨fun hp => ?_, h1⟩
  obtain ⟨b, off, K, M, T, rfl, hc⟩ := h2 hp
  exact ⟨b, off, K, M, T, rfl, fun r hr => by
    obtain ⟨a0, a1, a2, _, f1, _⟩ := hc r hr
    exact ⟨a0, a1, a2, (bounds_i64 f1).2⟩⟩
end Go.Proofs.YthcegmijphbhgaaDoor
