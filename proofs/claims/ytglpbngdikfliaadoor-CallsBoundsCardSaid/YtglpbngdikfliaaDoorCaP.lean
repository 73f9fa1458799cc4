/-
  CallsBounds' walk. Each statement bears its own conditions.
-/
import Derived.Test.YtglpbngdikfliaaDoorCaK
namespace Go.Proofs.YtglpbngdikfliaaDoor.Ca
open Go.RowKit Go.Proofs.YtglpbngdikfliaaDoor.F
set_option linter.unusedVariables false
set_option linter.unusedSimpArgs false
theorem dec_val {n : Int} {r : List Int} {r0 r1 r2 r3 : Int} (hr : Regs r) (hn : is n = true) (h0 : r.getD 0 0 = r0) (h1 : r.getD 1 0 = r1) (h2 : r.getD 2 0 = r2) (h3 : r.getD 3 0 = r3) :
    (((oB n = true → r0 ≤ 15) ∧ (wB n = true → r2 ≤ 32) ∧ (n = 26 → 1 ≤ r1 ∧ r1 ≤ 27)) → decE n r = 0 ∧ decQ n r = ⟨n, if oB n then r0 else 0, if aB n then r1 else 0, if wB n then r2 else 0, if tB n then tickV r3 else 0⟩) ∧
    (¬ ((oB n = true → r0 ≤ 15) ∧ (wB n = true → r2 ≤ 32) ∧ (n = 26 → 1 ≤ r1 ∧ r1 ≤ 27)) → decE n r = 2 ∧ decQ n r = zeroQ) := by
  have b0 := hr.at_ (i := 0) (by omega)
  have b1 := hr.at_ (i := 1) (by omega)
  have b2 := hr.at_ (i := 2) (by omega)
  have b3 := hr.at_ (i := 3) (by omega)
  rw [h0] at b0
  rw [h1] at b1
  rw [h2] at b2
  rw [h3] at b3
  have e : ownV (askQ n r) = ⟨n, if oB n then r0 else 0, if aB n then r1 else 0, if wB n then r2 else 0, if tB n then tickV r3 else 0⟩ := by
    unfold ownV askQ
    simp only [h0, h1, h2, h3]
  have a26 : n = 26 → aB n = true := fun h => by rw [h]; rfl
  have tb : -1 ≤ tickV r3 ∧ tickV r3 ≤ 4294967294 := by unfold tickV; split <;> omega
  have key : fitsV (ownV (askQ n r)) = decide ((oB n = true → r0 ≤ 15) ∧ (wB n = true → r2 ≤ 32) ∧ (n = 26 → 1 ≤ r1 ∧ r1 ≤ 27)) := by
    rw [e]
    unfold fitsV
    rw [decide_eq_decide]
    simp only
    generalize tickV r3 = tt at tb ⊢
    by_cases h26 : n = 26
    · subst h26
      have := a26 rfl
      simp only [this]
      cases oB 26 <;> cases wB 26 <;> cases tB 26 <;> simp <;> omega
    · cases oB n <;> cases aB n <;> cases wB n <;> cases tB n <;> simp [h26] <;> omega
  constructor
  · intro hc
    unfold decE decQ
    rw [if_pos hn, if_pos hn, key, if_pos (decide_eq_true hc), if_pos (decide_eq_true hc), e]
    exact ⟨rfl, rfl⟩
  · intro hc
    unfold decE decQ
    rw [if_pos hn, if_pos hn, key, if_neg (by rw [decide_eq_true_eq]; exact hc), if_neg (by rw [decide_eq_true_eq]; exact hc)]
    exact ⟨rfl, rfl⟩
def zr : List Int := [0, 0, 0, 0, 0, 0, 0, 0, 0, 0, 0, 0, 0, 0, 0, 0]
theorem zr_ok : Regs zr := ⟨rfl, by decide⟩
theorem tick_u32 {v : Int} (h : U32 v) : IntKind.u32.wrap (tickV v) = v := by
  unfold tickV
  split
  · rename_i e; rw [e]; decide
  · exact IntWalk.u32_in v h
end Go.Proofs.YtglpbngdikfliaaDoor.Ca
