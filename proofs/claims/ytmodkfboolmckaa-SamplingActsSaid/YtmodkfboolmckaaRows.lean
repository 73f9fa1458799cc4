/-
  No cell of these rows narrows 'for every input' (looked for: loops, veiled, ifaces, maps, wideKeys, modest, calm, conditions, laid).
  DERIVED. THE GIVEN ROWS OF THIS SEAT. 6 by the template 'for every input the law returns true; each argument reads behind the call as it read before'; 0 by the template 'total and deterministic' (their statements: YtmodkfboolmckaaTotals.lean).
  GIVEN WITH THE SEED: the statements are not yours to turn. If you find one false, say at which input.
  Laid BY PROGRAM, IN A SANDBOX (cutbox-rows.mjs): the forced cells as the released guide's own fill.sh prints them over the translation 709f457af47d6c60… (all of the seat's roots in one cut). By AI agents, Wed Nov 11 2026. No macro, syntax, notation, axiom, sorry.
-/
import Derived.Test.YtmodkfboolmckaaChecked
import GoSem.Claim
import GoSem.ClaimJoined
import GoSem.ClaimMapViews
import Derived.JoinedTies
import Derived.KernelRfl
namespace Go.Proofs.Ytmodkfboolmckaa
/- THE CELL 'sum', in the pinned program and in every row, IS THE sha256 OF THE DUMP (.gsa) THAT YtmodkfboolmckaaProg.lean LOADS. Nothing in Lean hashes anything: it is a label: what it is worth is what the hold of that sum in a sandbox is worth. -/
noncomputable def Try.pinned : Pinned := { name := "ytmodkfboolmckaa", sum := "709f457af47d6c608d03f7a2d0d22784e3ceeb68e053caa07d011f36b6911462", checked := Try.checked }
namespace Rows
def none {H : Type} : Left H := { results := [], args := [] }

/-- 'monocoquelaw26.SamplingActs': WHATEVER THE INPUT: true; the input reads as it did. -/
def samplingActsSpec : ChangeSpec := { name := "samplingActs", fn := fun _ => fun
  | [d1, d2, d3] => { results := [.lit (.bool true)], args := [d1, d2, d3] }
  | _ => none }
def samplingActsRow : OpenClaim := { program := "ytmodkfboolmckaa", sum := "709f457af47d6c608d03f7a2d0d22784e3ceeb68e053caa07d011f36b6911462", func := "monocoque/monocoquelaw26.SamplingActs", spec := "samplingActs", apart := false }
def SamplingActsSaid : Prop := samplingActsRow.holds Try.pinned (OpenSpec.ofChange samplingActsSpec)

/-- ITS FALSE NEIGHBOUR: 'it returns false'. Refute it at one input. -/
def samplingActsWrong : ChangeSpec := { name := "samplingActs", fn := fun _ => fun
  | [d1, d2, d3] => { results := [.lit (.bool false)], args := [d1, d2, d3] }
  | _ => none }
def SamplingActsWrongFalsely : Prop := samplingActsRow.holds Try.pinned (OpenSpec.ofChange samplingActsWrong)

/-- 'monocoquelaw26.SamplingLast': WHATEVER THE INPUT: true; the input reads as it did. -/
def samplingLastSpec : ChangeSpec := { name := "samplingLast", fn := fun _ => fun
  | [d1, d2, d3] => { results := [.lit (.bool true)], args := [d1, d2, d3] }
  | _ => none }
def samplingLastRow : OpenClaim := { program := "ytmodkfboolmckaa", sum := "709f457af47d6c608d03f7a2d0d22784e3ceeb68e053caa07d011f36b6911462", func := "monocoque/monocoquelaw26.SamplingLast", spec := "samplingLast", apart := false }
def SamplingLastSaid : Prop := samplingLastRow.holds Try.pinned (OpenSpec.ofChange samplingLastSpec)

/-- ITS FALSE NEIGHBOUR: 'it returns false'. Refute it at one input. -/
def samplingLastWrong : ChangeSpec := { name := "samplingLast", fn := fun _ => fun
  | [d1, d2, d3] => { results := [.lit (.bool false)], args := [d1, d2, d3] }
  | _ => none }
def SamplingLastWrongFalsely : Prop := samplingLastRow.holds Try.pinned (OpenSpec.ofChange samplingLastWrong)

/-- 'monocoquelaw26.SamplingNews': WHATEVER THE INPUT: true; the input reads as it did. -/
def samplingNewsSpec : ChangeSpec := { name := "samplingNews", fn := fun _ => fun
  | [d1, d2] => { results := [.lit (.bool true)], args := [d1, d2] }
  | _ => none }
def samplingNewsRow : OpenClaim := { program := "ytmodkfboolmckaa", sum := "709f457af47d6c608d03f7a2d0d22784e3ceeb68e053caa07d011f36b6911462", func := "monocoque/monocoquelaw26.SamplingNews", spec := "samplingNews", apart := false }
def SamplingNewsSaid : Prop := samplingNewsRow.holds Try.pinned (OpenSpec.ofChange samplingNewsSpec)

/-- ITS FALSE NEIGHBOUR: 'it returns false'. Refute it at one input. -/
def samplingNewsWrong : ChangeSpec := { name := "samplingNews", fn := fun _ => fun
  | [d1, d2] => { results := [.lit (.bool false)], args := [d1, d2] }
  | _ => none }
def SamplingNewsWrongFalsely : Prop := samplingNewsRow.holds Try.pinned (OpenSpec.ofChange samplingNewsWrong)

/-- 'monocoquelaw26.SamplingClones': WHATEVER THE INPUT: true; the input reads as it did. -/
def samplingClonesSpec : ChangeSpec := { name := "samplingClones", fn := fun _ => fun
  | [d1, d2, d3] => { results := [.lit (.bool true)], args := [d1, d2, d3] }
  | _ => none }
def samplingClonesRow : OpenClaim := { program := "ytmodkfboolmckaa", sum := "709f457af47d6c608d03f7a2d0d22784e3ceeb68e053caa07d011f36b6911462", func := "monocoque/monocoquelaw26.SamplingClones", spec := "samplingClones", apart := false }
def SamplingClonesSaid : Prop := samplingClonesRow.holds Try.pinned (OpenSpec.ofChange samplingClonesSpec)

/-- ITS FALSE NEIGHBOUR: 'it returns false'. Refute it at one input. -/
def samplingClonesWrong : ChangeSpec := { name := "samplingClones", fn := fun _ => fun
  | [d1, d2, d3] => { results := [.lit (.bool false)], args := [d1, d2, d3] }
  | _ => none }
def SamplingClonesWrongFalsely : Prop := samplingClonesRow.holds Try.pinned (OpenSpec.ofChange samplingClonesWrong)

/-- 'monocoquelaw26.SamplingOwn': WHATEVER THE INPUT: true; the input reads as it did. -/
def samplingOwnSpec : ChangeSpec := { name := "samplingOwn", fn := fun _ => fun
  | [d1, d2] => { results := [.lit (.bool true)], args := [d1, d2] }
  | _ => none }
def samplingOwnRow : OpenClaim := { program := "ytmodkfboolmckaa", sum := "709f457af47d6c608d03f7a2d0d22784e3ceeb68e053caa07d011f36b6911462", func := "monocoque/monocoquelaw26.SamplingOwn", spec := "samplingOwn", apart := false }
def SamplingOwnSaid : Prop := samplingOwnRow.holds Try.pinned (OpenSpec.ofChange samplingOwnSpec)

/-- ITS FALSE NEIGHBOUR: 'it returns false'. Refute it at one input. -/
def samplingOwnWrong : ChangeSpec := { name := "samplingOwn", fn := fun _ => fun
  | [d1, d2] => { results := [.lit (.bool false)], args := [d1, d2] }
  | _ => none }
def SamplingOwnWrongFalsely : Prop := samplingOwnRow.holds Try.pinned (OpenSpec.ofChange samplingOwnWrong)

/-- 'monocoquelaw26.SamplingRefused': WHATEVER THE INPUT: true; the input reads as it did. -/
def samplingRefusedSpec : ChangeSpec := { name := "samplingRefused", fn := fun _ => fun
  | [d1, d2, d3] => { results := [.lit (.bool true)], args := [d1, d2, d3] }
  | _ => none }
def samplingRefusedRow : OpenClaim := { program := "ytmodkfboolmckaa", sum := "709f457af47d6c608d03f7a2d0d22784e3ceeb68e053caa07d011f36b6911462", func := "monocoque/monocoquelaw26.SamplingRefused", spec := "samplingRefused", apart := false }
def SamplingRefusedSaid : Prop := samplingRefusedRow.holds Try.pinned (OpenSpec.ofChange samplingRefusedSpec)

/-- ITS FALSE NEIGHBOUR: 'it returns false'. Refute it at one input. -/
def samplingRefusedWrong : ChangeSpec := { name := "samplingRefused", fn := fun _ => fun
  | [d1, d2, d3] => { results := [.lit (.bool false)], args := [d1, d2, d3] }
  | _ => none }
def SamplingRefusedWrongFalsely : Prop := samplingRefusedRow.holds Try.pinned (OpenSpec.ofChange samplingRefusedWrong)

/- THE SECOND FORM. 'bulk': how many values and letters a reading holds, each counted each time it is reached (what is shared counts as often as it is met; a slice's spare places count too). A statement '..UptoSaid' is the law's where the arguments, and the package variables that the reading takes, are together of bulk at most 1048576: NARROWER than '..Said'. Prove '..Said' where nothing that the law and all that it calls make is longer than what came in: it says more and counts as full. Else prove '..UptoSaid'. A law counts once. -/
mutual
def uptoBulk {H : Type} : DataW H → Nat
  | .lit (.string bytes) => bytes.length + 1
  | .lit _ => 1
  | .nil => 1
  | .ptr d => uptoBulk d + 1
  | .slice elems spare => uptoBulkAll elems + uptoBulkAll spare + 1
  | .agg parts => uptoBulkAll parts + 1
  | .iface _ d => uptoBulk d + 1
  | .map entries => uptoBulkEntries entries + 1
  | .held _ => 1
def uptoBulkAll {H : Type} : List (DataW H) → Nat
  | [] => 0
  | d :: r => uptoBulk d + uptoBulkAll r
def uptoBulkEntries {H : Type} : List (Lit × DataW H) → Nat
  | [] => 0
  | x :: r => uptoBulkEntry x + uptoBulkEntries r
def uptoBulkEntry {H : Type} : Lit × DataW H → Nat
  | (.string bytes, d) => bytes.length + uptoBulk d + 1
  | (_, d) => uptoBulk d + 1
 end
def uptoSmall : (H : Type) → List (DataW H) → Bool := fun _ ds => decide (uptoBulkAll ds ≤ 1048576)
def OpenSpec.upto (s : _root_.Go.ChangeSpec) : _root_.Go.OpenSpec := { _root_.Go.OpenSpec.ofChange s with cond := some uptoSmall }

/-- 'monocoquelaw26.SamplingActs', WHERE WHAT IT READS IS OF BULK AT MOST 1048576: true; the input reads as it did. -/
def samplingActsUptoRow : OpenClaim := { program := "ytmodkfboolmckaa", sum := "709f457af47d6c608d03f7a2d0d22784e3ceeb68e053caa07d011f36b6911462", func := "monocoque/monocoquelaw26.SamplingActs", spec := "samplingActs", apart := false, narrowed := true }
def SamplingActsUptoSaid : Prop := samplingActsUptoRow.holds Try.pinned (OpenSpec.upto samplingActsSpec)

/-- 'monocoquelaw26.SamplingLast', WHERE WHAT IT READS IS OF BULK AT MOST 1048576: true; the input reads as it did. -/
def samplingLastUptoRow : OpenClaim := { program := "ytmodkfboolmckaa", sum := "709f457af47d6c608d03f7a2d0d22784e3ceeb68e053caa07d011f36b6911462", func := "monocoque/monocoquelaw26.SamplingLast", spec := "samplingLast", apart := false, narrowed := true }
def SamplingLastUptoSaid : Prop := samplingLastUptoRow.holds Try.pinned (OpenSpec.upto samplingLastSpec)

/-- 'monocoquelaw26.SamplingNews', WHERE WHAT IT READS IS OF BULK AT MOST 1048576: true; the input reads as it did. -/
def samplingNewsUptoRow : OpenClaim := { program := "ytmodkfboolmckaa", sum := "709f457af47d6c608d03f7a2d0d22784e3ceeb68e053caa07d011f36b6911462", func := "monocoque/monocoquelaw26.SamplingNews", spec := "samplingNews", apart := false, narrowed := true }
def SamplingNewsUptoSaid : Prop := samplingNewsUptoRow.holds Try.pinned (OpenSpec.upto samplingNewsSpec)

/-- 'monocoquelaw26.SamplingClones', WHERE WHAT IT READS IS OF BULK AT MOST 1048576: true; the input reads as it did. -/
def samplingClonesUptoRow : OpenClaim := { program := "ytmodkfboolmckaa", sum := "709f457af47d6c608d03f7a2d0d22784e3ceeb68e053caa07d011f36b6911462", func := "monocoque/monocoquelaw26.SamplingClones", spec := "samplingClones", apart := false, narrowed := true }
def SamplingClonesUptoSaid : Prop := samplingClonesUptoRow.holds Try.pinned (OpenSpec.upto samplingClonesSpec)

/-- 'monocoquelaw26.SamplingOwn', WHERE WHAT IT READS IS OF BULK AT MOST 1048576: true; the input reads as it did. -/
def samplingOwnUptoRow : OpenClaim := { program := "ytmodkfboolmckaa", sum := "709f457af47d6c608d03f7a2d0d22784e3ceeb68e053caa07d011f36b6911462", func := "monocoque/monocoquelaw26.SamplingOwn", spec := "samplingOwn", apart := false, narrowed := true }
def SamplingOwnUptoSaid : Prop := samplingOwnUptoRow.holds Try.pinned (OpenSpec.upto samplingOwnSpec)

/-- 'monocoquelaw26.SamplingRefused', WHERE WHAT IT READS IS OF BULK AT MOST 1048576: true; the input reads as it did. -/
def samplingRefusedUptoRow : OpenClaim := { program := "ytmodkfboolmckaa", sum := "709f457af47d6c608d03f7a2d0d22784e3ceeb68e053caa07d011f36b6911462", func := "monocoque/monocoquelaw26.SamplingRefused", spec := "samplingRefused", apart := false, narrowed := true }
def SamplingRefusedUptoSaid : Prop := samplingRefusedUptoRow.holds Try.pinned (OpenSpec.upto samplingRefusedSpec)

end Rows
end Go.Proofs.Ytmodkfboolmckaa
