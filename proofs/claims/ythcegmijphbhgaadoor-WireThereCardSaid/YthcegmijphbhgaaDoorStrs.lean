/-
  What an argument that is a slice of texts looks like in memory, opened. Its statement bears its own conditions.
-/
import Derived.Test.YthcegmijphbhgaaDoorThere
import Derived.Deep.Strs
import Derived.ProofKit
import Derived.OpenShut
import Derived.ChangeOld
namespace Go.Proofs.YthcegmijphbhgaaDoor
open Go.RowKit Go.ChangeShapes Go.WideShapes Go.ChangeAt
set_option linter.unusedSimpArgs false
set_option linter.unusedVariables false
theorem strRow_of {H : Type} {enc : TypeId × Value → H} {W : World} {base : Nat} {held : Bool} {fuel : Nat} {a : Option Addr} {len cap : Nat} {x : DataW H × List MemPlace} (h : DataW.trod enc Tryd.prog W base (fun _ => true) held fuel 58 [.slice a len cap] = some x) : StrRow W a len ∧ len ≤ cap ∧ cap ≤ maxLen := by
  rcases Go.Deep.open_strs Tryd.underlying58 Tryd.underlying9 (by kernel_rfl) h with ⟨hcs, _⟩ | ⟨y, l, c, m, S, hcs, _, hl, hm, hmm, _, hi⟩
  · injection hcs with hcs
    injection hcs with _ h3 h4
    subst h3 h4
    exact ⟨⟨fun _ => ByteArray.empty, fun hp => absurd hp (by omega)⟩, Nat.le_refl _, by unfold maxLen; omega⟩
  · injection hcs with hcs
    injection hcs with e1 e2 e3
    subst e1 e2 e3
    simp only [if_true] at hmm
    subst hmm
    refine ⟨⟨S, fun hp => ?_⟩, hl, hm⟩
    obtain ⟨b, off, spot⟩ := y
    have e0 := (hi 0 (by omega)).1
    have hs : spot = none := by simpa [Addr.add] using World.cell?_spot e0
    subst hs
    refine ⟨b, off, rfl, fun r hr => ?_⟩
    have := hi r (by omega)
    rw [Addr.add_lit] at this
    exact this
theorem u64_bd (n : Int) (h : (Lit.int .u64 n).wf = true) : 0 ≤ n ∧ n < ((18446744073709551616 : Nat) : Int) := by have := bounds_u64 h; omega
theorem u32_bd (n : Int) (h : (Lit.int .u32 n).wf = true) : 0 ≤ n ∧ n < ((4294967296 : Nat) : Int) := by have := bounds_u32 h; omega
end Go.Proofs.YthcegmijphbhgaaDoor
