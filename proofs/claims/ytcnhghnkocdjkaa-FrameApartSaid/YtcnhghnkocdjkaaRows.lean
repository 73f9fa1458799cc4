/-
  No cell of these rows narrows 'for every input' (looked for: loops, veiled, ifaces, maps, wideKeys, modest, calm, conditions, laid).
  DERIVED. THE GIVEN ROWS OF THIS SEAT. 6 by the template 'for every input the law returns true; each argument reads behind the call as it read before'; 0 by the template 'total and deterministic' (their statements: YtcnhghnkocdjkaaTotals.lean).
  GIVEN WITH THE SEED: the statements are not yours to turn. If you find one false, say at which input.
  Laid BY PROGRAM, IN A SANDBOX (cutbox-rows.mjs): the forced cells as the released guide's own fill.sh prints them over the translation e305fbf0eeb84a23… (all of the seat's roots in one cut). By AI agents, Wed Nov 11 2026. No macro, syntax, notation, axiom, sorry.
-/
import Derived.Test.YtcnhghnkocdjkaaChecked
import GoSem.Claim
import GoSem.ClaimJoined
import GoSem.ClaimMapViews
import Derived.JoinedTies
import Derived.KernelRfl
namespace Go.Proofs.Ytcnhghnkocdjkaa
/- THE CELL 'sum', in the pinned program and in every row, IS THE sha256 OF THE DUMP (.gsa) THAT YtcnhghnkocdjkaaProg.lean LOADS. Nothing in Lean hashes anything: it is a label: what it is worth is what the hold of that sum in a sandbox is worth. -/
noncomputable def Try.pinned : Pinned := { name := "ytcnhghnkocdjkaa", sum := "e305fbf0eeb84a232be58901c9774621f36829f62957f6cea4c5cfabaa8321cc", checked := Try.checked }
namespace Rows
def none {H : Type} : Left H := { results := [], args := [] }

/-- 'monocoquelaw09.FrameTables': WHATEVER THE INPUT: true; the input reads as it did. -/
def frameTablesSpec : ChangeSpec := { name := "frameTables", fn := fun _ => fun
  | [d1, d2, d3] => { results := [.lit (.bool true)], args := [d1, d2, d3] }
  | _ => none }
def frameTablesRow : OpenClaim := { program := "ytcnhghnkocdjkaa", sum := "e305fbf0eeb84a232be58901c9774621f36829f62957f6cea4c5cfabaa8321cc", func := "monocoque/monocoquelaw09.FrameTables", spec := "frameTables", apart := false }
def FrameTablesSaid : Prop := frameTablesRow.holds Try.pinned (OpenSpec.ofChange frameTablesSpec)

/-- ITS FALSE NEIGHBOUR: 'it returns false'. Refute it at one input. -/
def frameTablesWrong : ChangeSpec := { name := "frameTables", fn := fun _ => fun
  | [d1, d2, d3] => { results := [.lit (.bool false)], args := [d1, d2, d3] }
  | _ => none }
def FrameTablesWrongFalsely : Prop := frameTablesRow.holds Try.pinned (OpenSpec.ofChange frameTablesWrong)

/-- 'monocoquelaw09.FrameTicks': WHATEVER THE INPUT: true; the input reads as it did. -/
def frameTicksSpec : ChangeSpec := { name := "frameTicks", fn := fun _ => fun
  | [d1, d2, d3] => { results := [.lit (.bool true)], args := [d1, d2, d3] }
  | _ => none }
def frameTicksRow : OpenClaim := { program := "ytcnhghnkocdjkaa", sum := "e305fbf0eeb84a232be58901c9774621f36829f62957f6cea4c5cfabaa8321cc", func := "monocoque/monocoquelaw09.FrameTicks", spec := "frameTicks", unfollowed := true, recurses := true, apart := false }
def FrameTicksSaid : Prop := frameTicksRow.holds Try.pinned (OpenSpec.ofChange frameTicksSpec)

/-- ITS FALSE NEIGHBOUR: 'it returns false'. Refute it at one input. -/
def frameTicksWrong : ChangeSpec := { name := "frameTicks", fn := fun _ => fun
  | [d1, d2, d3] => { results := [.lit (.bool false)], args := [d1, d2, d3] }
  | _ => none }
def FrameTicksWrongFalsely : Prop := frameTicksRow.holds Try.pinned (OpenSpec.ofChange frameTicksWrong)

/-- 'monocoquelaw09.FrameFair': WHATEVER THE INPUT: true; the input reads as it did. -/
def frameFairSpec : ChangeSpec := { name := "frameFair", fn := fun _ => fun
  | [d1, d2, d3] => { results := [.lit (.bool true)], args := [d1, d2, d3] }
  | _ => none }
def frameFairRow : OpenClaim := { program := "ytcnhghnkocdjkaa", sum := "e305fbf0eeb84a232be58901c9774621f36829f62957f6cea4c5cfabaa8321cc", func := "monocoque/monocoquelaw09.FrameFair", spec := "frameFair", apart := false }
def FrameFairSaid : Prop := frameFairRow.holds Try.pinned (OpenSpec.ofChange frameFairSpec)

/-- ITS FALSE NEIGHBOUR: 'it returns false'. Refute it at one input. -/
def frameFairWrong : ChangeSpec := { name := "frameFair", fn := fun _ => fun
  | [d1, d2, d3] => { results := [.lit (.bool false)], args := [d1, d2, d3] }
  | _ => none }
def FrameFairWrongFalsely : Prop := frameFairRow.holds Try.pinned (OpenSpec.ofChange frameFairWrong)

/-- 'monocoquelaw09.FrameSwitch': WHATEVER THE INPUT: true; the input reads as it did. -/
def frameSwitchSpec : ChangeSpec := { name := "frameSwitch", fn := fun _ => fun
  | [d1, d2, d3, d4] => { results := [.lit (.bool true)], args := [d1, d2, d3, d4] }
  | _ => none }
def frameSwitchRow : OpenClaim := { program := "ytcnhghnkocdjkaa", sum := "e305fbf0eeb84a232be58901c9774621f36829f62957f6cea4c5cfabaa8321cc", func := "monocoque/monocoquelaw09.FrameSwitch", spec := "frameSwitch", apart := false }
def FrameSwitchSaid : Prop := frameSwitchRow.holds Try.pinned (OpenSpec.ofChange frameSwitchSpec)

/-- ITS FALSE NEIGHBOUR: 'it returns false'. Refute it at one input. -/
def frameSwitchWrong : ChangeSpec := { name := "frameSwitch", fn := fun _ => fun
  | [d1, d2, d3, d4] => { results := [.lit (.bool false)], args := [d1, d2, d3, d4] }
  | _ => none }
def FrameSwitchWrongFalsely : Prop := frameSwitchRow.holds Try.pinned (OpenSpec.ofChange frameSwitchWrong)

/-- 'monocoquelaw09.FrameApart': WHATEVER THE INPUT: true; the input reads as it did. -/
def frameApartSpec : ChangeSpec := { name := "frameApart", fn := fun _ => fun
  | [d1, d2] => { results := [.lit (.bool true)], args := [d1, d2] }
  | _ => none }
def frameApartRow : OpenClaim := { program := "ytcnhghnkocdjkaa", sum := "e305fbf0eeb84a232be58901c9774621f36829f62957f6cea4c5cfabaa8321cc", func := "monocoque/monocoquelaw09.FrameApart", spec := "frameApart", unfollowed := true, recurses := true, apart := false }
def FrameApartSaid : Prop := frameApartRow.holds Try.pinned (OpenSpec.ofChange frameApartSpec)

/-- ITS FALSE NEIGHBOUR: 'it returns false'. Refute it at one input. -/
def frameApartWrong : ChangeSpec := { name := "frameApart", fn := fun _ => fun
  | [d1, d2] => { results := [.lit (.bool false)], args := [d1, d2] }
  | _ => none }
def FrameApartWrongFalsely : Prop := frameApartRow.holds Try.pinned (OpenSpec.ofChange frameApartWrong)

/-- 'monocoquelaw09.FrameNil': WHATEVER THE INPUT: true; the input reads as it did. -/
def frameNilSpec : ChangeSpec := { name := "frameNil", fn := fun _ => fun
  | [d] => { results := [.lit (.bool true)], args := [d] }
  | _ => none }
def frameNilRow : OpenClaim := { program := "ytcnhghnkocdjkaa", sum := "e305fbf0eeb84a232be58901c9774621f36829f62957f6cea4c5cfabaa8321cc", func := "monocoque/monocoquelaw09.FrameNil", spec := "frameNil", unfollowed := true, recurses := true, apart := false }
def FrameNilSaid : Prop := frameNilRow.holds Try.pinned (OpenSpec.ofChange frameNilSpec)

/-- ITS FALSE NEIGHBOUR: 'it returns false'. Refute it at one input. -/
def frameNilWrong : ChangeSpec := { name := "frameNil", fn := fun _ => fun
  | [d] => { results := [.lit (.bool false)], args := [d] }
  | _ => none }
def FrameNilWrongFalsely : Prop := frameNilRow.holds Try.pinned (OpenSpec.ofChange frameNilWrong)

/- THE SECOND FORM. 'bulk': how many values and letters a reading holds, each counted each time it is reached (what is shared counts as often as it is met; a slice's spare places count too). A statement '..UptoSaid' is the law's where the arguments, and the package variables that the reading takes, are together of bulk at most 1048576: NARROWER than '..Said'. Prove '..Said' where nothing that the law and all that it calls make is longer than what came in: it says more and counts as full. Else prove '..UptoSaid'. A law counts once. -/
mutual
def uptoBulk {H : Type} : DataW H → Nat
  | .lit (.string bytes) => bytes.length + 1
  | .lit _ => 1
  | .nil => 1
  | .ptr d => uptoBulk d + 1
  | .slice elems spare => uptoBulkAll elems + uptoBulkAll spare + 1
  | .agg parts => uptoBulkAll parts + 1
  | .iface _ d => uptoBulk d + 1
  | .map entries => uptoBulkEntries entries + 1
  | .held _ => 1
def uptoBulkAll {H : Type} : List (DataW H) → Nat
  | [] => 0
  | d :: r => uptoBulk d + uptoBulkAll r
def uptoBulkEntries {H : Type} : List (Lit × DataW H) → Nat
  | [] => 0
  | x :: r => uptoBulkEntry x + uptoBulkEntries r
def uptoBulkEntry {H : Type} : Lit × DataW H → Nat
  | (.string bytes, d) => bytes.length + uptoBulk d + 1
  | (_, d) => uptoBulk d + 1
 end
def uptoSmall : (H : Type) → List (DataW H) → Bool := fun _ ds => decide (uptoBulkAll ds ≤ 1048576)
def OpenSpec.upto (s : _root_.Go.ChangeSpec) : _root_.Go.OpenSpec := { _root_.Go.OpenSpec.ofChange s with cond := some uptoSmall }

/-- 'monocoquelaw09.FrameTables', WHERE WHAT IT READS IS OF BULK AT MOST 1048576: true; the input reads as it did. -/
def frameTablesUptoRow : OpenClaim := { program := "ytcnhghnkocdjkaa", sum := "e305fbf0eeb84a232be58901c9774621f36829f62957f6cea4c5cfabaa8321cc", func := "monocoque/monocoquelaw09.FrameTables", spec := "frameTables", apart := false, narrowed := true }
def FrameTablesUptoSaid : Prop := frameTablesUptoRow.holds Try.pinned (OpenSpec.upto frameTablesSpec)

/-- 'monocoquelaw09.FrameTicks', WHERE WHAT IT READS IS OF BULK AT MOST 1048576: true; the input reads as it did. -/
def frameTicksUptoRow : OpenClaim := { program := "ytcnhghnkocdjkaa", sum := "e305fbf0eeb84a232be58901c9774621f36829f62957f6cea4c5cfabaa8321cc", func := "monocoque/monocoquelaw09.FrameTicks", spec := "frameTicks", unfollowed := true, recurses := true, apart := false, narrowed := true }
def FrameTicksUptoSaid : Prop := frameTicksUptoRow.holds Try.pinned (OpenSpec.upto frameTicksSpec)

/-- 'monocoquelaw09.FrameFair', WHERE WHAT IT READS IS OF BULK AT MOST 1048576: true; the input reads as it did. -/
def frameFairUptoRow : OpenClaim := { program := "ytcnhghnkocdjkaa", sum := "e305fbf0eeb84a232be58901c9774621f36829f62957f6cea4c5cfabaa8321cc", func := "monocoque/monocoquelaw09.FrameFair", spec := "frameFair", apart := false, narrowed := true }
def FrameFairUptoSaid : Prop := frameFairUptoRow.holds Try.pinned (OpenSpec.upto frameFairSpec)

/-- 'monocoquelaw09.FrameSwitch', WHERE WHAT IT READS IS OF BULK AT MOST 1048576: true; the input reads as it did. -/
def frameSwitchUptoRow : OpenClaim := { program := "ytcnhghnkocdjkaa", sum := "e305fbf0eeb84a232be58901c9774621f36829f62957f6cea4c5cfabaa8321cc", func := "monocoque/monocoquelaw09.FrameSwitch", spec := "frameSwitch", apart := false, narrowed := true }
def FrameSwitchUptoSaid : Prop := frameSwitchUptoRow.holds Try.pinned (OpenSpec.upto frameSwitchSpec)

/-- 'monocoquelaw09.FrameApart', WHERE WHAT IT READS IS OF BULK AT MOST 1048576: true; the input reads as it did. -/
def frameApartUptoRow : OpenClaim := { program := "ytcnhghnkocdjkaa", sum := "e305fbf0eeb84a232be58901c9774621f36829f62957f6cea4c5cfabaa8321cc", func := "monocoque/monocoquelaw09.FrameApart", spec := "frameApart", unfollowed := true, recurses := true, apart := false, narrowed := true }
def FrameApartUptoSaid : Prop := frameApartUptoRow.holds Try.pinned (OpenSpec.upto frameApartSpec)

/-- 'monocoquelaw09.FrameNil', WHERE WHAT IT READS IS OF BULK AT MOST 1048576: true; the input reads as it did. -/
def frameNilUptoRow : OpenClaim := { program := "ytcnhghnkocdjkaa", sum := "e305fbf0eeb84a232be58901c9774621f36829f62957f6cea4c5cfabaa8321cc", func := "monocoque/monocoquelaw09.FrameNil", spec := "frameNil", unfollowed := true, recurses := true, apart := false, narrowed := true }
def FrameNilUptoSaid : Prop := frameNilUptoRow.holds Try.pinned (OpenSpec.upto frameNilSpec)

end Rows
end Go.Proofs.Ytcnhghnkocdjkaa
