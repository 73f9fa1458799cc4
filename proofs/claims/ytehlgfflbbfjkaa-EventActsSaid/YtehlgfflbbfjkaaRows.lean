/-
  No cell of these rows narrows 'for every input' (looked for: loops, veiled, ifaces, maps, wideKeys, modest, calm, conditions, laid).
  DERIVED. THE GIVEN ROWS OF THIS SEAT. 6 by the template 'for every input the law returns true; each argument reads behind the call as it read before'; 0 by the template 'total and deterministic' (their statements: YtehlgfflbbfjkaaTotals.lean).
  GIVEN WITH THE SEED: the statements are not yours to turn. If you find one false, say at which input.
  Laid BY PROGRAM, IN A SANDBOX (cutbox-rows.mjs): the forced cells as the released guide's own fill.sh prints them over the translation 6074e0ba20d87e64… (all of the seat's roots in one cut). By AI agents, Wed Nov 11 2026. No macro, syntax, notation, axiom, sorry.
-/
import Derived.Test.YtehlgfflbbfjkaaChecked
import GoSem.Claim
import GoSem.ClaimJoined
import GoSem.ClaimMapViews
import Derived.JoinedTies
import Derived.KernelRfl
namespace Go.Proofs.Ytehlgfflbbfjkaa
/- THE CELL 'sum', in the pinned program and in every row, IS THE sha256 OF THE DUMP (.gsa) THAT YtehlgfflbbfjkaaProg.lean LOADS. Nothing in Lean hashes anything: it is a label: what it is worth is what the hold of that sum in a sandbox is worth. -/
noncomputable def Try.pinned : Pinned := { name := "ytehlgfflbbfjkaa", sum := "6074e0ba20d87e64a5dc3597125fab18d07eb01fc64aba66f19c47330ed2c199", checked := Try.checked }
namespace Rows
def none {H : Type} : Left H := { results := [], args := [] }

/-- 'monocoquelaw23.EventActs': WHATEVER THE INPUT: true; the input reads as it did. -/
def eventActsSpec : ChangeSpec := { name := "eventActs", fn := fun _ => fun
  | [d] => { results := [.lit (.bool true)], args := [d] }
  | _ => none }
def eventActsRow : OpenClaim := { program := "ytehlgfflbbfjkaa", sum := "6074e0ba20d87e64a5dc3597125fab18d07eb01fc64aba66f19c47330ed2c199", func := "monocoque/monocoquelaw23.EventActs", spec := "eventActs", unfollowed := true, recurses := true, apart := false }
def EventActsSaid : Prop := eventActsRow.holds Try.pinned (OpenSpec.ofChange eventActsSpec)

/-- ITS FALSE NEIGHBOUR: 'it returns false'. Refute it at one input. -/
def eventActsWrong : ChangeSpec := { name := "eventActs", fn := fun _ => fun
  | [d] => { results := [.lit (.bool false)], args := [d] }
  | _ => none }
def EventActsWrongFalsely : Prop := eventActsRow.holds Try.pinned (OpenSpec.ofChange eventActsWrong)

/-- 'monocoquelaw23.EventWakes': WHATEVER THE INPUT: true; the input reads as it did. -/
def eventWakesSpec : ChangeSpec := { name := "eventWakes", fn := fun _ => fun
  | [d1, d2] => { results := [.lit (.bool true)], args := [d1, d2] }
  | _ => none }
def eventWakesRow : OpenClaim := { program := "ytehlgfflbbfjkaa", sum := "6074e0ba20d87e64a5dc3597125fab18d07eb01fc64aba66f19c47330ed2c199", func := "monocoque/monocoquelaw23.EventWakes", spec := "eventWakes", unfollowed := true, recurses := true, apart := false }
def EventWakesSaid : Prop := eventWakesRow.holds Try.pinned (OpenSpec.ofChange eventWakesSpec)

/-- ITS FALSE NEIGHBOUR: 'it returns false'. Refute it at one input. -/
def eventWakesWrong : ChangeSpec := { name := "eventWakes", fn := fun _ => fun
  | [d1, d2] => { results := [.lit (.bool false)], args := [d1, d2] }
  | _ => none }
def EventWakesWrongFalsely : Prop := eventWakesRow.holds Try.pinned (OpenSpec.ofChange eventWakesWrong)

/-- 'monocoquelaw23.EventClones': WHATEVER THE INPUT: true; the input reads as it did. -/
def eventClonesSpec : ChangeSpec := { name := "eventClones", fn := fun _ => fun
  | [d1, d2] => { results := [.lit (.bool true)], args := [d1, d2] }
  | _ => none }
def eventClonesRow : OpenClaim := { program := "ytehlgfflbbfjkaa", sum := "6074e0ba20d87e64a5dc3597125fab18d07eb01fc64aba66f19c47330ed2c199", func := "monocoque/monocoquelaw23.EventClones", spec := "eventClones", unfollowed := true, recurses := true, apart := false }
def EventClonesSaid : Prop := eventClonesRow.holds Try.pinned (OpenSpec.ofChange eventClonesSpec)

/-- ITS FALSE NEIGHBOUR: 'it returns false'. Refute it at one input. -/
def eventClonesWrong : ChangeSpec := { name := "eventClones", fn := fun _ => fun
  | [d1, d2] => { results := [.lit (.bool false)], args := [d1, d2] }
  | _ => none }
def EventClonesWrongFalsely : Prop := eventClonesRow.holds Try.pinned (OpenSpec.ofChange eventClonesWrong)

/-- 'monocoquelaw23.EventOwn': WHATEVER THE INPUT: true; the input reads as it did. -/
def eventOwnSpec : ChangeSpec := { name := "eventOwn", fn := fun _ => fun
  | [d1, d2] => { results := [.lit (.bool true)], args := [d1, d2] }
  | _ => none }
def eventOwnRow : OpenClaim := { program := "ytehlgfflbbfjkaa", sum := "6074e0ba20d87e64a5dc3597125fab18d07eb01fc64aba66f19c47330ed2c199", func := "monocoque/monocoquelaw23.EventOwn", spec := "eventOwn", unfollowed := true, recurses := true, apart := false }
def EventOwnSaid : Prop := eventOwnRow.holds Try.pinned (OpenSpec.ofChange eventOwnSpec)

/-- ITS FALSE NEIGHBOUR: 'it returns false'. Refute it at one input. -/
def eventOwnWrong : ChangeSpec := { name := "eventOwn", fn := fun _ => fun
  | [d1, d2] => { results := [.lit (.bool false)], args := [d1, d2] }
  | _ => none }
def EventOwnWrongFalsely : Prop := eventOwnRow.holds Try.pinned (OpenSpec.ofChange eventOwnWrong)

/-- 'monocoquelaw23.EventDowns': WHATEVER THE INPUT: true; the input reads as it did. -/
def eventDownsSpec : ChangeSpec := { name := "eventDowns", fn := fun _ => fun
  | [d1, d2] => { results := [.lit (.bool true)], args := [d1, d2] }
  | _ => none }
def eventDownsRow : OpenClaim := { program := "ytehlgfflbbfjkaa", sum := "6074e0ba20d87e64a5dc3597125fab18d07eb01fc64aba66f19c47330ed2c199", func := "monocoque/monocoquelaw23.EventDowns", spec := "eventDowns", apart := false }
def EventDownsSaid : Prop := eventDownsRow.holds Try.pinned (OpenSpec.ofChange eventDownsSpec)

/-- ITS FALSE NEIGHBOUR: 'it returns false'. Refute it at one input. -/
def eventDownsWrong : ChangeSpec := { name := "eventDowns", fn := fun _ => fun
  | [d1, d2] => { results := [.lit (.bool false)], args := [d1, d2] }
  | _ => none }
def EventDownsWrongFalsely : Prop := eventDownsRow.holds Try.pinned (OpenSpec.ofChange eventDownsWrong)

/-- 'monocoquelaw23.EventIdle': WHATEVER THE INPUT: true; the input reads as it did. -/
def eventIdleSpec : ChangeSpec := { name := "eventIdle", fn := fun _ => fun
  | [d1, d2] => { results := [.lit (.bool true)], args := [d1, d2] }
  | _ => none }
def eventIdleRow : OpenClaim := { program := "ytehlgfflbbfjkaa", sum := "6074e0ba20d87e64a5dc3597125fab18d07eb01fc64aba66f19c47330ed2c199", func := "monocoque/monocoquelaw23.EventIdle", spec := "eventIdle", unfollowed := true, recurses := true, apart := false }
def EventIdleSaid : Prop := eventIdleRow.holds Try.pinned (OpenSpec.ofChange eventIdleSpec)

/-- ITS FALSE NEIGHBOUR: 'it returns false'. Refute it at one input. -/
def eventIdleWrong : ChangeSpec := { name := "eventIdle", fn := fun _ => fun
  | [d1, d2] => { results := [.lit (.bool false)], args := [d1, d2] }
  | _ => none }
def EventIdleWrongFalsely : Prop := eventIdleRow.holds Try.pinned (OpenSpec.ofChange eventIdleWrong)

/- THE SECOND FORM. 'bulk': how many values and letters a reading holds, each counted each time it is reached (what is shared counts as often as it is met; a slice's spare places count too). A statement '..UptoSaid' is the law's where the arguments, and the package variables that the reading takes, are together of bulk at most 1048576: NARROWER than '..Said'. Prove '..Said' where nothing that the law and all that it calls make is longer than what came in: it says more and counts as full. Else prove '..UptoSaid'. A law counts once. -/
mutual
def uptoBulk {H : Type} : DataW H → Nat
  | .lit (.string bytes) => bytes.length + 1
  | .lit _ => 1
  | .nil => 1
  | .ptr d => uptoBulk d + 1
  | .slice elems spare => uptoBulkAll elems + uptoBulkAll spare + 1
  | .agg parts => uptoBulkAll parts + 1
  | .iface _ d => uptoBulk d + 1
  | .map entries => uptoBulkEntries entries + 1
  | .held _ => 1
def uptoBulkAll {H : Type} : List (DataW H) → Nat
  | [] => 0
  | d :: r => uptoBulk d + uptoBulkAll r
def uptoBulkEntries {H : Type} : List (Lit × DataW H) → Nat
  | [] => 0
  | x :: r => uptoBulkEntry x + uptoBulkEntries r
def uptoBulkEntry {H : Type} : Lit × DataW H → Nat
  | (.string bytes, d) => bytes.length + uptoBulk d + 1
  | (_, d) => uptoBulk d + 1
 end
def uptoSmall : (H : Type) → List (DataW H) → Bool := fun _ ds => decide (uptoBulkAll ds ≤ 1048576)
def OpenSpec.upto (s : _root_.Go.ChangeSpec) : _root_.Go.OpenSpec := { _root_.Go.OpenSpec.ofChange s with cond := some uptoSmall }

/-- 'monocoquelaw23.EventActs', WHERE WHAT IT READS IS OF BULK AT MOST 1048576: true; the input reads as it did. -/
def eventActsUptoRow : OpenClaim := { program := "ytehlgfflbbfjkaa", sum := "6074e0ba20d87e64a5dc3597125fab18d07eb01fc64aba66f19c47330ed2c199", func := "monocoque/monocoquelaw23.EventActs", spec := "eventActs", unfollowed := true, recurses := true, apart := false, narrowed := true }
def EventActsUptoSaid : Prop := eventActsUptoRow.holds Try.pinned (OpenSpec.upto eventActsSpec)

/-- 'monocoquelaw23.EventWakes', WHERE WHAT IT READS IS OF BULK AT MOST 1048576: true; the input reads as it did. -/
def eventWakesUptoRow : OpenClaim := { program := "ytehlgfflbbfjkaa", sum := "6074e0ba20d87e64a5dc3597125fab18d07eb01fc64aba66f19c47330ed2c199", func := "monocoque/monocoquelaw23.EventWakes", spec := "eventWakes", unfollowed := true, recurses := true, apart := false, narrowed := true }
def EventWakesUptoSaid : Prop := eventWakesUptoRow.holds Try.pinned (OpenSpec.upto eventWakesSpec)

/-- 'monocoquelaw23.EventClones', WHERE WHAT IT READS IS OF BULK AT MOST 1048576: true; the input reads as it did. -/
def eventClonesUptoRow : OpenClaim := { program := "ytehlgfflbbfjkaa", sum := "6074e0ba20d87e64a5dc3597125fab18d07eb01fc64aba66f19c47330ed2c199", func := "monocoque/monocoquelaw23.EventClones", spec := "eventClones", unfollowed := true, recurses := true, apart := false, narrowed := true }
def EventClonesUptoSaid : Prop := eventClonesUptoRow.holds Try.pinned (OpenSpec.upto eventClonesSpec)

/-- 'monocoquelaw23.EventOwn', WHERE WHAT IT READS IS OF BULK AT MOST 1048576: true; the input reads as it did. -/
def eventOwnUptoRow : OpenClaim := { program := "ytehlgfflbbfjkaa", sum := "6074e0ba20d87e64a5dc3597125fab18d07eb01fc64aba66f19c47330ed2c199", func := "monocoque/monocoquelaw23.EventOwn", spec := "eventOwn", unfollowed := true, recurses := true, apart := false, narrowed := true }
def EventOwnUptoSaid : Prop := eventOwnUptoRow.holds Try.pinned (OpenSpec.upto eventOwnSpec)

/-- 'monocoquelaw23.EventDowns', WHERE WHAT IT READS IS OF BULK AT MOST 1048576: true; the input reads as it did. -/
def eventDownsUptoRow : OpenClaim := { program := "ytehlgfflbbfjkaa", sum := "6074e0ba20d87e64a5dc3597125fab18d07eb01fc64aba66f19c47330ed2c199", func := "monocoque/monocoquelaw23.EventDowns", spec := "eventDowns", apart := false, narrowed := true }
def EventDownsUptoSaid : Prop := eventDownsUptoRow.holds Try.pinned (OpenSpec.upto eventDownsSpec)

/-- 'monocoquelaw23.EventIdle', WHERE WHAT IT READS IS OF BULK AT MOST 1048576: true; the input reads as it did. -/
def eventIdleUptoRow : OpenClaim := { program := "ytehlgfflbbfjkaa", sum := "6074e0ba20d87e64a5dc3597125fab18d07eb01fc64aba66f19c47330ed2c199", func := "monocoque/monocoquelaw23.EventIdle", spec := "eventIdle", unfollowed := true, recurses := true, apart := false, narrowed := true }
def EventIdleUptoSaid : Prop := eventIdleUptoRow.holds Try.pinned (OpenSpec.upto eventIdleSpec)

end Rows
end Go.Proofs.Ytehlgfflbbfjkaa
