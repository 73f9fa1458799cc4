/-
  What the loops keep. Each statement bears its own conditions.
-/
import Derived.Test.YtmodkfboolmckaaSaT
namespace Go.Proofs.Ytmodkfboolmckaa.Sa
open Go.RowKit Go.Proofs.Ytmodkfboolmckaa.F Go.Proofs.Ytmodkfboolmckaa.U
set_option linter.unusedVariables false
set_option linter.unusedSimpArgs false
/-- The document's answer, laid into a box of its own. -/
theorem put_box {lo bz : Nat} {w : World} {q : Nat → Prop} {g : Nat} {n k : Int} {has : Bool} {M : List Int} {st : Int} {Am : Option Addr} {cm : Nat} {c0 c1 c2 c3 c4 : Value} (h : PV lo w q g n k has M st)
    (hx : w.heap[bz]? = some (.cells #[c0, c1, c2, c3, c4] 26 (0, 0))) (hc : ∀ (j : Nat) (z : Int), (#[c0, c1, c2, c3, c4] : Array Value)[j]? ≠ some (Value.int .u32 z)) (ms : Sq w (fun b => ¬ q b) (.slice Am M.length cm) M.length (CU M)) (nq : ¬ q bz) :
    PV lo (((((w.setCell ⟨bz, 0, none⟩ (.int .i64 n)).setCell ⟨bz, 1, none⟩ (.int .i64 k)).setCell ⟨bz, 2, none⟩ (.bool has)).setCell ⟨bz, 3, none⟩ (.slice Am M.length cm)).setCell ⟨bz, 4, none⟩ (.int .i64 st)) q g n k has M st ∧ Sq (((((w.setCell ⟨bz, 0, none⟩ (.int .i64 n)).setCell ⟨bz, 1, none⟩ (.int .i64 k)).setCell ⟨bz, 2, none⟩ (.bool has)).setCell ⟨bz, 3, none⟩ (.slice Am M.length cm)).setCell ⟨bz, 4, none⟩ (.int .i64 st)) (fun b => ¬ q b) (.slice Am M.length cm) M.length (CU M) ∧
    (((((w.setCell ⟨bz, 0, none⟩ (.int .i64 n)).setCell ⟨bz, 1, none⟩ (.int .i64 k)).setCell ⟨bz, 2, none⟩ (.bool has)).setCell ⟨bz, 3, none⟩ (.slice Am M.length cm)).setCell ⟨bz, 4, none⟩ (.int .i64 st)).heap[bz]? = some (.cells #[.int .i64 n, .int .i64 k, .bool has, .slice Am M.length cm, .int .i64 st] 26 (0, 0)) ∧ Fo (fun b => b = bz) w (((((w.setCell ⟨bz, 0, none⟩ (.int .i64 n)).setCell ⟨bz, 1, none⟩ (.int .i64 k)).setCell ⟨bz, 2, none⟩ (.bool has)).setCell ⟨bz, 3, none⟩ (.slice Am M.length cm)).setCell ⟨bz, 4, none⟩ (.int .i64 st)) := by
  have hf : Fo (fun b => b = bz) w (((((w.setCell ⟨bz, 0, none⟩ (.int .i64 n)).setCell ⟨bz, 1, none⟩ (.int .i64 k)).setCell ⟨bz, 2, none⟩ (.bool has)).setCell ⟨bz, 3, none⟩ (.slice Am M.length cm)).setCell ⟨bz, 4, none⟩ (.int .i64 st)) := (((((Fo.refl (fun b => b = bz) w).setCell (.inl rfl) 0 _).setCell (.inl rfl) 1 _).setCell (.inl rfl) 2 _).setCell (.inl rfl) 3 _).setCell (.inl rfl) 4 _
  have hs := set_at (set_at (set_at (set_at (set_at hx 0 (.int .i64 n)) 1 (.int .i64 k)) 2 (.bool has)) 3 (.slice Am M.length cm)) 4 (.int .i64 st)
  have hm : Sq w (fun b => ¬ q b ∧ b ≠ bz) (.slice Am M.length cm) M.length (CU M) := by
    by_cases h0 : 0 < M.length
    · exact u_ne_box ms hx CU_is hc h0
    · obtain ⟨A, c, e, hl, h1⟩ := ms.ex
      exact ⟨A, c, e, hl, fun h2 => absurd h2 h0⟩
  exact ⟨h.fo hf (fun b hb e => nq (by rw [← e]; exact hb)), (hm.fo hf fun b hb => hb.2).imp fun b _ hb => hb.2.1, hs, hf⟩
theorem Sc.sq {w : World} {p : Nat → Prop} {A : Option Addr} {m c : Nat} {M : List Int} (h : Sc w p (.slice A m c) M) : m = M.length ∧ Sq w p (.slice A M.length c) M.length (CU M) ∧ M.length ≤ c ∧ (A = none → c = 0) := by
  obtain ⟨A', c', e, s, h1, h2⟩ := h.ex
  injection e with e1 e2 e3
  subst e1 e2 e3
  exact ⟨rfl, s, h1, h2⟩
theorem Sc.form {w : World} {p : Nat → Prop} {v : Value} {M : List Int} (h : Sc w p v M) : ∃ A c, v = .slice A M.length c := by
  obtain ⟨A', c', e, _⟩ := h.ex
  exact ⟨A', c', e⟩
end Go.Proofs.Ytmodkfboolmckaa.Sa
