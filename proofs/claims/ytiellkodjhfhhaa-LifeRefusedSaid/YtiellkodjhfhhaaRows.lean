/-
  No cell of these rows narrows 'for every input' (looked for: loops, veiled, ifaces, maps, wideKeys, modest, calm, conditions, laid).
  DERIVED. THE GIVEN ROWS OF THIS SEAT. 6 by the template 'for every input the law returns true; each argument reads behind the call as it read before'; 0 by the template 'total and deterministic' (their statements: YtiellkodjhfhhaaTotals.lean).
  GIVEN WITH THE SEED: the statements are not yours to turn. If you find one false, say at which input.
  Laid BY PROGRAM, IN A SANDBOX (cutbox-rows.mjs): the forced cells as the released guide's own fill.sh prints them over the translation e144924d15ca0ce9… (all of the seat's roots in one cut). By AI agents, Wed Nov 11 2026. No macro, syntax, notation, axiom, sorry.
-/
import Derived.Test.YtiellkodjhfhhaaChecked
import GoSem.Claim
import GoSem.ClaimJoined
import GoSem.ClaimMapViews
import Derived.JoinedTies
import Derived.KernelRfl
namespace Go.Proofs.Ytiellkodjhfhhaa
/- THE CELL 'sum', in the pinned program and in every row, IS THE sha256 OF THE DUMP (.gsa) THAT YtiellkodjhfhhaaProg.lean LOADS. Nothing in Lean hashes anything: it is a label: what it is worth is what the hold of that sum in a sandbox is worth. -/
noncomputable def Try.pinned : Pinned := { name := "ytiellkodjhfhhaa", sum := "e144924d15ca0ce91f24bdb46ca3c6189328711886dd7ab4d63bea0ee9fb6523", checked := Try.checked }
namespace Rows
def none {H : Type} : Left H := { results := [], args := [] }

/-- 'monocoquelaw32.LifeActs': WHATEVER THE INPUT: true; the input reads as it did. -/
def lifeActsSpec : ChangeSpec := { name := "lifeActs", fn := fun _ => fun
  | [d1, d2] => { results := [.lit (.bool true)], args := [d1, d2] }
  | _ => none }
def lifeActsRow : OpenClaim := { program := "ytiellkodjhfhhaa", sum := "e144924d15ca0ce91f24bdb46ca3c6189328711886dd7ab4d63bea0ee9fb6523", func := "monocoque/monocoquelaw32.LifeActs", spec := "lifeActs", apart := false }
def LifeActsSaid : Prop := lifeActsRow.holds Try.pinned (OpenSpec.ofChange lifeActsSpec)

/-- ITS FALSE NEIGHBOUR: 'it returns false'. Refute it at one input. -/
def lifeActsWrong : ChangeSpec := { name := "lifeActs", fn := fun _ => fun
  | [d1, d2] => { results := [.lit (.bool false)], args := [d1, d2] }
  | _ => none }
def LifeActsWrongFalsely : Prop := lifeActsRow.holds Try.pinned (OpenSpec.ofChange lifeActsWrong)

/-- 'monocoquelaw32.LifeBounds': WHATEVER THE INPUT: true; the input reads as it did. -/
def lifeBoundsSpec : ChangeSpec := { name := "lifeBounds", fn := fun _ => fun
  | [d1, d2] => { results := [.lit (.bool true)], args := [d1, d2] }
  | _ => none }
def lifeBoundsRow : OpenClaim := { program := "ytiellkodjhfhhaa", sum := "e144924d15ca0ce91f24bdb46ca3c6189328711886dd7ab4d63bea0ee9fb6523", func := "monocoque/monocoquelaw32.LifeBounds", spec := "lifeBounds", apart := false }
def LifeBoundsSaid : Prop := lifeBoundsRow.holds Try.pinned (OpenSpec.ofChange lifeBoundsSpec)

/-- ITS FALSE NEIGHBOUR: 'it returns false'. Refute it at one input. -/
def lifeBoundsWrong : ChangeSpec := { name := "lifeBounds", fn := fun _ => fun
  | [d1, d2] => { results := [.lit (.bool false)], args := [d1, d2] }
  | _ => none }
def LifeBoundsWrongFalsely : Prop := lifeBoundsRow.holds Try.pinned (OpenSpec.ofChange lifeBoundsWrong)

/-- 'monocoquelaw32.LifeNews': WHATEVER THE INPUT: true; the input reads as it did. -/
def lifeNewsSpec : ChangeSpec := { name := "lifeNews", fn := fun _ => fun
  | [d] => { results := [.lit (.bool true)], args := [d] }
  | _ => none }
def lifeNewsRow : OpenClaim := { program := "ytiellkodjhfhhaa", sum := "e144924d15ca0ce91f24bdb46ca3c6189328711886dd7ab4d63bea0ee9fb6523", func := "monocoque/monocoquelaw32.LifeNews", spec := "lifeNews", apart := false }
def LifeNewsSaid : Prop := lifeNewsRow.holds Try.pinned (OpenSpec.ofChange lifeNewsSpec)

/-- ITS FALSE NEIGHBOUR: 'it returns false'. Refute it at one input. -/
def lifeNewsWrong : ChangeSpec := { name := "lifeNews", fn := fun _ => fun
  | [d] => { results := [.lit (.bool false)], args := [d] }
  | _ => none }
def LifeNewsWrongFalsely : Prop := lifeNewsRow.holds Try.pinned (OpenSpec.ofChange lifeNewsWrong)

/-- 'monocoquelaw32.LifeClones': WHATEVER THE INPUT: true; the input reads as it did. -/
def lifeClonesSpec : ChangeSpec := { name := "lifeClones", fn := fun _ => fun
  | [d1, d2, d3] => { results := [.lit (.bool true)], args := [d1, d2, d3] }
  | _ => none }
def lifeClonesRow : OpenClaim := { program := "ytiellkodjhfhhaa", sum := "e144924d15ca0ce91f24bdb46ca3c6189328711886dd7ab4d63bea0ee9fb6523", func := "monocoque/monocoquelaw32.LifeClones", spec := "lifeClones", apart := false }
def LifeClonesSaid : Prop := lifeClonesRow.holds Try.pinned (OpenSpec.ofChange lifeClonesSpec)

/-- ITS FALSE NEIGHBOUR: 'it returns false'. Refute it at one input. -/
def lifeClonesWrong : ChangeSpec := { name := "lifeClones", fn := fun _ => fun
  | [d1, d2, d3] => { results := [.lit (.bool false)], args := [d1, d2, d3] }
  | _ => none }
def LifeClonesWrongFalsely : Prop := lifeClonesRow.holds Try.pinned (OpenSpec.ofChange lifeClonesWrong)

/-- 'monocoquelaw32.LifeStarts': WHATEVER THE INPUT: true; the input reads as it did. -/
def lifeStartsSpec : ChangeSpec := { name := "lifeStarts", fn := fun _ => fun
  | [d1, d2] => { results := [.lit (.bool true)], args := [d1, d2] }
  | _ => none }
def lifeStartsRow : OpenClaim := { program := "ytiellkodjhfhhaa", sum := "e144924d15ca0ce91f24bdb46ca3c6189328711886dd7ab4d63bea0ee9fb6523", func := "monocoque/monocoquelaw32.LifeStarts", spec := "lifeStarts", apart := false }
def LifeStartsSaid : Prop := lifeStartsRow.holds Try.pinned (OpenSpec.ofChange lifeStartsSpec)

/-- ITS FALSE NEIGHBOUR: 'it returns false'. Refute it at one input. -/
def lifeStartsWrong : ChangeSpec := { name := "lifeStarts", fn := fun _ => fun
  | [d1, d2] => { results := [.lit (.bool false)], args := [d1, d2] }
  | _ => none }
def LifeStartsWrongFalsely : Prop := lifeStartsRow.holds Try.pinned (OpenSpec.ofChange lifeStartsWrong)

/-- 'monocoquelaw32.LifeRefused': WHATEVER THE INPUT: true; the input reads as it did. -/
def lifeRefusedSpec : ChangeSpec := { name := "lifeRefused", fn := fun _ => fun
  | [d1, d2, d3] => { results := [.lit (.bool true)], args := [d1, d2, d3] }
  | _ => none }
def lifeRefusedRow : OpenClaim := { program := "ytiellkodjhfhhaa", sum := "e144924d15ca0ce91f24bdb46ca3c6189328711886dd7ab4d63bea0ee9fb6523", func := "monocoque/monocoquelaw32.LifeRefused", spec := "lifeRefused", apart := false }
def LifeRefusedSaid : Prop := lifeRefusedRow.holds Try.pinned (OpenSpec.ofChange lifeRefusedSpec)

/-- ITS FALSE NEIGHBOUR: 'it returns false'. Refute it at one input. -/
def lifeRefusedWrong : ChangeSpec := { name := "lifeRefused", fn := fun _ => fun
  | [d1, d2, d3] => { results := [.lit (.bool false)], args := [d1, d2, d3] }
  | _ => none }
def LifeRefusedWrongFalsely : Prop := lifeRefusedRow.holds Try.pinned (OpenSpec.ofChange lifeRefusedWrong)

/- THE SECOND FORM. 'bulk': how many values and letters a reading holds, each counted each time it is reached (what is shared counts as often as it is met; a slice's spare places count too). A statement '..UptoSaid' is the law's where the arguments, and the package variables that the reading takes, are together of bulk at most 1048576: NARROWER than '..Said'. Prove '..Said' where nothing that the law and all that it calls make is longer than what came in: it says more and counts as full. Else prove '..UptoSaid'. A law counts once. -/
mutual
def uptoBulk {H : Type} : DataW H → Nat
  | .lit (.string bytes) => bytes.length + 1
  | .lit _ => 1
  | .nil => 1
  | .ptr d => uptoBulk d + 1
  | .slice elems spare => uptoBulkAll elems + uptoBulkAll spare + 1
  | .agg parts => uptoBulkAll parts + 1
  | .iface _ d => uptoBulk d + 1
  | .map entries => uptoBulkEntries entries + 1
  | .held _ => 1
def uptoBulkAll {H : Type} : List (DataW H) → Nat
  | [] => 0
  | d :: r => uptoBulk d + uptoBulkAll r
def uptoBulkEntries {H : Type} : List (Lit × DataW H) → Nat
  | [] => 0
  | x :: r => uptoBulkEntry x + uptoBulkEntries r
def uptoBulkEntry {H : Type} : Lit × DataW H → Nat
  | (.string bytes, d) => bytes.length + uptoBulk d + 1
  | (_, d) => uptoBulk d + 1
 end
def uptoSmall : (H : Type) → List (DataW H) → Bool := fun _ ds => decide (uptoBulkAll ds ≤ 1048576)
def OpenSpec.upto (s : _root_.Go.ChangeSpec) : _root_.Go.OpenSpec := { _root_.Go.OpenSpec.ofChange s with cond := some uptoSmall }

/-- 'monocoquelaw32.LifeActs', WHERE WHAT IT READS IS OF BULK AT MOST 1048576: true; the input reads as it did. -/
def lifeActsUptoRow : OpenClaim := { program := "ytiellkodjhfhhaa", sum := "e144924d15ca0ce91f24bdb46ca3c6189328711886dd7ab4d63bea0ee9fb6523", func := "monocoque/monocoquelaw32.LifeActs", spec := "lifeActs", apart := false, narrowed := true }
def LifeActsUptoSaid : Prop := lifeActsUptoRow.holds Try.pinned (OpenSpec.upto lifeActsSpec)

/-- 'monocoquelaw32.LifeBounds', WHERE WHAT IT READS IS OF BULK AT MOST 1048576: true; the input reads as it did. -/
def lifeBoundsUptoRow : OpenClaim := { program := "ytiellkodjhfhhaa", sum := "e144924d15ca0ce91f24bdb46ca3c6189328711886dd7ab4d63bea0ee9fb6523", func := "monocoque/monocoquelaw32.LifeBounds", spec := "lifeBounds", apart := false, narrowed := true }
def LifeBoundsUptoSaid : Prop := lifeBoundsUptoRow.holds Try.pinned (OpenSpec.upto lifeBoundsSpec)

/-- 'monocoquelaw32.LifeNews', WHERE WHAT IT READS IS OF BULK AT MOST 1048576: true; the input reads as it did. -/
def lifeNewsUptoRow : OpenClaim := { program := "ytiellkodjhfhhaa", sum := "e144924d15ca0ce91f24bdb46ca3c6189328711886dd7ab4d63bea0ee9fb6523", func := "monocoque/monocoquelaw32.LifeNews", spec := "lifeNews", apart := false, narrowed := true }
def LifeNewsUptoSaid : Prop := lifeNewsUptoRow.holds Try.pinned (OpenSpec.upto lifeNewsSpec)

/-- 'monocoquelaw32.LifeClones', WHERE WHAT IT READS IS OF BULK AT MOST 1048576: true; the input reads as it did. -/
def lifeClonesUptoRow : OpenClaim := { program := "ytiellkodjhfhhaa", sum := "e144924d15ca0ce91f24bdb46ca3c6189328711886dd7ab4d63bea0ee9fb6523", func := "monocoque/monocoquelaw32.LifeClones", spec := "lifeClones", apart := false, narrowed := true }
def LifeClonesUptoSaid : Prop := lifeClonesUptoRow.holds Try.pinned (OpenSpec.upto lifeClonesSpec)

/-- 'monocoquelaw32.LifeStarts', WHERE WHAT IT READS IS OF BULK AT MOST 1048576: true; the input reads as it did. -/
def lifeStartsUptoRow : OpenClaim := { program := "ytiellkodjhfhhaa", sum := "e144924d15ca0ce91f24bdb46ca3c6189328711886dd7ab4d63bea0ee9fb6523", func := "monocoque/monocoquelaw32.LifeStarts", spec := "lifeStarts", apart := false, narrowed := true }
def LifeStartsUptoSaid : Prop := lifeStartsUptoRow.holds Try.pinned (OpenSpec.upto lifeStartsSpec)

/-- 'monocoquelaw32.LifeRefused', WHERE WHAT IT READS IS OF BULK AT MOST 1048576: true; the input reads as it did. -/
def lifeRefusedUptoRow : OpenClaim := { program := "ytiellkodjhfhhaa", sum := "e144924d15ca0ce91f24bdb46ca3c6189328711886dd7ab4d63bea0ee9fb6523", func := "monocoque/monocoquelaw32.LifeRefused", spec := "lifeRefused", apart := false, narrowed := true }
def LifeRefusedUptoSaid : Prop := lifeRefusedUptoRow.holds Try.pinned (OpenSpec.upto lifeRefusedSpec)

end Rows
end Go.Proofs.Ytiellkodjhfhhaa
