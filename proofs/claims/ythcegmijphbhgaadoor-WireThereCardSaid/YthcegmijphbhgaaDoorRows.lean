/-
  NARROWER THAN 'FOR EVERY INPUT', by the rows' own cells (each row's printed sentence says how): WirePuts: laid · WireApart: laid · WireReads: laid · WireThere: laid · WireOpens: laid · WireTurns: laid · WireNil: laid.
  DERIVED. THE GIVEN ROWS OF THIS SEAT. 7 by the template 'for every input the law returns true; each argument reads behind the call as it read before'; 0 by the template 'total and deterministic' (their statements: YthcegmijphbhgaaDoorTotals.lean).
  GIVEN WITH THE SEED: the statements are not yours to turn. If you find one false, say at which input.
  Laid BY PROGRAM, IN A SANDBOX (cutbox-rows.mjs): the forced cells as the released guide's own fill.sh prints them over the translation 81a6262d91f86652… (all of the seat's roots in one cut). By AI agents, Wed Nov 11 2026. No macro, syntax, notation, axiom, sorry.
-/
import Derived.Test.YthcegmijphbhgaaDoorChecked
import GoSem.Claim
import GoSem.ClaimJoined
import GoSem.ClaimMapViews
import Derived.JoinedTies
import Derived.KernelRfl
namespace Go.Proofs.YthcegmijphbhgaaDoor
/- THE CELL 'sum', in the pinned program and in every row, IS THE sha256 OF THE DUMP (.gsa) THAT YthcegmijphbhgaaDoorProg.lean LOADS. Nothing in Lean hashes anything: it is a label: what it is worth is what the hold of that sum in a sandbox is worth. -/
noncomputable def Tryd.pinned : Pinned := { name := "ythcegmijphbhgaadoor", sum := "81a6262d91f86652759f9b1456d23efb7203cd9fa0e2e550af5dfee7a7b9b7de", checked := Tryd.checked }
namespace Rows
def none {H : Type} : Left H := { results := [], args := [] }

/- WHAT THE LISTED PACKAGE-LEVEL VARIABLES READ AS WHEN THE CALL BEGINS. Each datum BY PROGRAM (the guide's laid-datum.mjs) off the statement by which the dump's own 'gosem.cut.vars' lays the variable. In a bare row this is a premise. The card (YthcegmijphbhgaaDoorCards.lean) ties it to the program's text. -/
def laid_monocoque_wire_steps {H : Type} : DataW H := .agg [.lit (.int .u32 0), .lit (.int .u32 79764919), .lit (.int .u32 159529838), .lit (.int .u32 222504665), .lit (.int .u32 319059676), .lit (.int .u32 398814059), .lit (.int .u32 445009330), .lit (.int .u32 507990021), .lit (.int .u32 638119352), .lit (.int .u32 583659535), .lit (.int .u32 797628118), .lit (.int .u32 726387553), .lit (.int .u32 890018660), .lit (.int .u32 835552979), .lit (.int .u32 1015980042), .lit (.int .u32 944750013)]

/-- 'monocoquelaw02.WirePuts': WHATEVER THE INPUT: true; the input reads as it did. -/
def wirePutsSpec : ChangeSpec := { name := "wirePuts", fn := fun _ => fun
  | [d1, d2, d3, d4] => { results := [.lit (.bool true)], args := [d1, d2, d3, d4] }
  | _ => none }
def wirePutsRow : OpenClaim := { program := "ythcegmijphbhgaadoor", sum := "81a6262d91f86652759f9b1456d23efb7203cd9fa0e2e550af5dfee7a7b9b7de", func := "monocoque/monocoquelaw02.WirePuts", spec := "wirePuts", named := ["monocoque/wire.steps"], apart := false, laid := [("monocoque/wire.steps", laid_monocoque_wire_steps)] }
def WirePutsSaid : Prop := wirePutsRow.holds Tryd.pinned (OpenSpec.ofChange wirePutsSpec)

/-- ITS FALSE NEIGHBOUR: 'it returns false'. Refute it at one input. -/
def wirePutsWrong : ChangeSpec := { name := "wirePuts", fn := fun _ => fun
  | [d1, d2, d3, d4] => { results := [.lit (.bool false)], args := [d1, d2, d3, d4] }
  | _ => none }
def WirePutsWrongFalsely : Prop := wirePutsRow.holds Tryd.pinned (OpenSpec.ofChange wirePutsWrong)

/-- 'monocoquelaw02.WireApart': WHATEVER THE INPUT: true; the input reads as it did. -/
def wireApartSpec : ChangeSpec := { name := "wireApart", fn := fun _ => fun
  | [d1, d2, d3] => { results := [.lit (.bool true)], args := [d1, d2, d3] }
  | _ => none }
def wireApartRow : OpenClaim := { program := "ythcegmijphbhgaadoor", sum := "81a6262d91f86652759f9b1456d23efb7203cd9fa0e2e550af5dfee7a7b9b7de", func := "monocoque/monocoquelaw02.WireApart", spec := "wireApart", named := ["monocoque/wire.steps"], apart := false, laid := [("monocoque/wire.steps", laid_monocoque_wire_steps)] }
def WireApartSaid : Prop := wireApartRow.holds Tryd.pinned (OpenSpec.ofChange wireApartSpec)

/-- ITS FALSE NEIGHBOUR: 'it returns false'. Refute it at one input. -/
def wireApartWrong : ChangeSpec := { name := "wireApart", fn := fun _ => fun
  | [d1, d2, d3] => { results := [.lit (.bool false)], args := [d1, d2, d3] }
  | _ => none }
def WireApartWrongFalsely : Prop := wireApartRow.holds Tryd.pinned (OpenSpec.ofChange wireApartWrong)

/-- 'monocoquelaw02.WireReads': WHATEVER THE INPUT: true; the input reads as it did. -/
def wireReadsSpec : ChangeSpec := { name := "wireReads", fn := fun _ => fun
  | [d1, d2] => { results := [.lit (.bool true)], args := [d1, d2] }
  | _ => none }
def wireReadsRow : OpenClaim := { program := "ythcegmijphbhgaadoor", sum := "81a6262d91f86652759f9b1456d23efb7203cd9fa0e2e550af5dfee7a7b9b7de", func := "monocoque/monocoquelaw02.WireReads", spec := "wireReads", unfollowed := true, recurses := true, named := ["monocoque/wire.steps"], apart := false, laid := [("monocoque/wire.steps", laid_monocoque_wire_steps)] }
def WireReadsSaid : Prop := wireReadsRow.holds Tryd.pinned (OpenSpec.ofChange wireReadsSpec)

/-- ITS FALSE NEIGHBOUR: 'it returns false'. Refute it at one input. -/
def wireReadsWrong : ChangeSpec := { name := "wireReads", fn := fun _ => fun
  | [d1, d2] => { results := [.lit (.bool false)], args := [d1, d2] }
  | _ => none }
def WireReadsWrongFalsely : Prop := wireReadsRow.holds Tryd.pinned (OpenSpec.ofChange wireReadsWrong)

/-- 'monocoquelaw02.WireThere': WHATEVER THE INPUT: true; the input reads as it did. -/
def wireThereSpec : ChangeSpec := { name := "wireThere", fn := fun _ => fun
  | [d1, d2, d3] => { results := [.lit (.bool true)], args := [d1, d2, d3] }
  | _ => none }
def wireThereRow : OpenClaim := { program := "ythcegmijphbhgaadoor", sum := "81a6262d91f86652759f9b1456d23efb7203cd9fa0e2e550af5dfee7a7b9b7de", func := "monocoque/monocoquelaw02.WireThere", spec := "wireThere", unfollowed := true, recurses := true, named := ["monocoque/wire.steps"], apart := false, laid := [("monocoque/wire.steps", laid_monocoque_wire_steps)] }
def WireThereSaid : Prop := wireThereRow.holds Tryd.pinned (OpenSpec.ofChange wireThereSpec)

/-- ITS FALSE NEIGHBOUR: 'it returns false'. Refute it at one input. -/
def wireThereWrong : ChangeSpec := { name := "wireThere", fn := fun _ => fun
  | [d1, d2, d3] => { results := [.lit (.bool false)], args := [d1, d2, d3] }
  | _ => none }
def WireThereWrongFalsely : Prop := wireThereRow.holds Tryd.pinned (OpenSpec.ofChange wireThereWrong)

/-- 'monocoquelaw02.WireOpens': WHATEVER THE INPUT: true; the input reads as it did. -/
def wireOpensSpec : ChangeSpec := { name := "wireOpens", fn := fun _ => fun
  | [d] => { results := [.lit (.bool true)], args := [d] }
  | _ => none }
def wireOpensRow : OpenClaim := { program := "ythcegmijphbhgaadoor", sum := "81a6262d91f86652759f9b1456d23efb7203cd9fa0e2e550af5dfee7a7b9b7de", func := "monocoque/monocoquelaw02.WireOpens", spec := "wireOpens", named := ["monocoque/wire.steps"], apart := false, laid := [("monocoque/wire.steps", laid_monocoque_wire_steps)] }
def WireOpensSaid : Prop := wireOpensRow.holds Tryd.pinned (OpenSpec.ofChange wireOpensSpec)

/-- ITS FALSE NEIGHBOUR: 'it returns false'. Refute it at one input. -/
def wireOpensWrong : ChangeSpec := { name := "wireOpens", fn := fun _ => fun
  | [d] => { results := [.lit (.bool false)], args := [d] }
  | _ => none }
def WireOpensWrongFalsely : Prop := wireOpensRow.holds Tryd.pinned (OpenSpec.ofChange wireOpensWrong)

/-- 'monocoquelaw02.WireTurns': WHATEVER THE INPUT: true; the input reads as it did. -/
def wireTurnsSpec : ChangeSpec := { name := "wireTurns", fn := fun _ => fun
  | [d1, d2, d3] => { results := [.lit (.bool true)], args := [d1, d2, d3] }
  | _ => none }
def wireTurnsRow : OpenClaim := { program := "ythcegmijphbhgaadoor", sum := "81a6262d91f86652759f9b1456d23efb7203cd9fa0e2e550af5dfee7a7b9b7de", func := "monocoque/monocoquelaw02.WireTurns", spec := "wireTurns", named := ["monocoque/wire.steps"], apart := false, laid := [("monocoque/wire.steps", laid_monocoque_wire_steps)] }
def WireTurnsSaid : Prop := wireTurnsRow.holds Tryd.pinned (OpenSpec.ofChange wireTurnsSpec)

/-- ITS FALSE NEIGHBOUR: 'it returns false'. Refute it at one input. -/
def wireTurnsWrong : ChangeSpec := { name := "wireTurns", fn := fun _ => fun
  | [d1, d2, d3] => { results := [.lit (.bool false)], args := [d1, d2, d3] }
  | _ => none }
def WireTurnsWrongFalsely : Prop := wireTurnsRow.holds Tryd.pinned (OpenSpec.ofChange wireTurnsWrong)

/-- 'monocoquelaw02.WireNil': WHATEVER THE INPUT: true; the input reads as it did. -/
def wireNilSpec : ChangeSpec := { name := "wireNil", fn := fun _ => fun
  | [d1, d2] => { results := [.lit (.bool true)], args := [d1, d2] }
  | _ => none }
def wireNilRow : OpenClaim := { program := "ythcegmijphbhgaadoor", sum := "81a6262d91f86652759f9b1456d23efb7203cd9fa0e2e550af5dfee7a7b9b7de", func := "monocoque/monocoquelaw02.WireNil", spec := "wireNil", unfollowed := true, recurses := true, named := ["monocoque/wire.steps"], apart := false, laid := [("monocoque/wire.steps", laid_monocoque_wire_steps)] }
def WireNilSaid : Prop := wireNilRow.holds Tryd.pinned (OpenSpec.ofChange wireNilSpec)

/-- ITS FALSE NEIGHBOUR: 'it returns false'. Refute it at one input. -/
def wireNilWrong : ChangeSpec := { name := "wireNil", fn := fun _ => fun
  | [d1, d2] => { results := [.lit (.bool false)], args := [d1, d2] }
  | _ => none }
def WireNilWrongFalsely : Prop := wireNilRow.holds Tryd.pinned (OpenSpec.ofChange wireNilWrong)

/- THE SECOND FORM. 'bulk': how many values and letters a reading holds, each counted each time it is reached (what is shared counts as often as it is met; a slice's spare places count too). A statement '..UptoSaid' is the law's where the arguments, and the package variables that the reading takes, are together of bulk at most 1048576: NARROWER than '..Said'. Prove '..Said' where nothing that the law and all that it calls make is longer than what came in: it says more and counts as full. Else prove '..UptoSaid'. A law counts once. -/
mutual
def uptoBulk {H : Type} : DataW H → Nat
  | .lit (.string bytes) => bytes.length + 1
  | .lit _ => 1
  | .nil => 1
  | .ptr d => uptoBulk d + 1
  | .slice elems spare => uptoBulkAll elems + uptoBulkAll spare + 1
  | .agg parts => uptoBulkAll parts + 1
  | .iface _ d => uptoBulk d + 1
  | .map entries => uptoBulkEntries entries + 1
  | .held _ => 1
def uptoBulkAll {H : Type} : List (DataW H) → Nat
  | [] => 0
  | d :: r => uptoBulk d + uptoBulkAll r
def uptoBulkEntries {H : Type} : List (Lit × DataW H) → Nat
  | [] => 0
  | x :: r => uptoBulkEntry x + uptoBulkEntries r
def uptoBulkEntry {H : Type} : Lit × DataW H → Nat
  | (.string bytes, d) => bytes.length + uptoBulk d + 1
  | (_, d) => uptoBulk d + 1
 end
def uptoSmall : (H : Type) → List (DataW H) → Bool := fun _ ds => decide (uptoBulkAll ds ≤ 1048576)
def OpenSpec.upto (s : _root_.Go.ChangeSpec) : _root_.Go.OpenSpec := { _root_.Go.OpenSpec.ofChange s with cond := some uptoSmall }

/-- 'monocoquelaw02.WirePuts', WHERE WHAT IT READS IS OF BULK AT MOST 1048576: true; the input reads as it did. -/
def wirePutsUptoRow : OpenClaim := { program := "ythcegmijphbhgaadoor", sum := "81a6262d91f86652759f9b1456d23efb7203cd9fa0e2e550af5dfee7a7b9b7de", func := "monocoque/monocoquelaw02.WirePuts", spec := "wirePuts", named := ["monocoque/wire.steps"], apart := false, laid := [("monocoque/wire.steps", laid_monocoque_wire_steps)], narrowed := true }
def WirePutsUptoSaid : Prop := wirePutsUptoRow.holds Tryd.pinned (OpenSpec.upto wirePutsSpec)

/-- 'monocoquelaw02.WireApart', WHERE WHAT IT READS IS OF BULK AT MOST 1048576: true; the input reads as it did. -/
def wireApartUptoRow : OpenClaim := { program := "ythcegmijphbhgaadoor", sum := "81a6262d91f86652759f9b1456d23efb7203cd9fa0e2e550af5dfee7a7b9b7de", func := "monocoque/monocoquelaw02.WireApart", spec := "wireApart", named := ["monocoque/wire.steps"], apart := false, laid := [("monocoque/wire.steps", laid_monocoque_wire_steps)], narrowed := true }
def WireApartUptoSaid : Prop := wireApartUptoRow.holds Tryd.pinned (OpenSpec.upto wireApartSpec)

/-- 'monocoquelaw02.WireReads', WHERE WHAT IT READS IS OF BULK AT MOST 1048576: true; the input reads as it did. -/
def wireReadsUptoRow : OpenClaim := { program := "ythcegmijphbhgaadoor", sum := "81a6262d91f86652759f9b1456d23efb7203cd9fa0e2e550af5dfee7a7b9b7de", func := "monocoque/monocoquelaw02.WireReads", spec := "wireReads", unfollowed := true, recurses := true, named := ["monocoque/wire.steps"], apart := false, laid := [("monocoque/wire.steps", laid_monocoque_wire_steps)], narrowed := true }
def WireReadsUptoSaid : Prop := wireReadsUptoRow.holds Tryd.pinned (OpenSpec.upto wireReadsSpec)

/-- 'monocoquelaw02.WireThere', WHERE WHAT IT READS IS OF BULK AT MOST 1048576: true; the input reads as it did. -/
def wireThereUptoRow : OpenClaim := { program := "ythcegmijphbhgaadoor", sum := "81a6262d91f86652759f9b1456d23efb7203cd9fa0e2e550af5dfee7a7b9b7de", func := "monocoque/monocoquelaw02.WireThere", spec := "wireThere", unfollowed := true, recurses := true, named := ["monocoque/wire.steps"], apart := false, laid := [("monocoque/wire.steps", laid_monocoque_wire_steps)], narrowed := true }
def WireThereUptoSaid : Prop := wireThereUptoRow.holds Tryd.pinned (OpenSpec.upto wireThereSpec)

/-- 'monocoquelaw02.WireOpens', WHERE WHAT IT READS IS OF BULK AT MOST 1048576: true; the input reads as it did. -/
def wireOpensUptoRow : OpenClaim := { program := "ythcegmijphbhgaadoor", sum := "81a6262d91f86652759f9b1456d23efb7203cd9fa0e2e550af5dfee7a7b9b7de", func := "monocoque/monocoquelaw02.WireOpens", spec := "wireOpens", named := ["monocoque/wire.steps"], apart := false, laid := [("monocoque/wire.steps", laid_monocoque_wire_steps)], narrowed := true }
def WireOpensUptoSaid : Prop := wireOpensUptoRow.holds Tryd.pinned (OpenSpec.upto wireOpensSpec)

/-- 'monocoquelaw02.WireTurns', WHERE WHAT IT READS IS OF BULK AT MOST 1048576: true; the input reads as it did. -/
def wireTurnsUptoRow : OpenClaim := { program := "ythcegmijphbhgaadoor", sum := "81a6262d91f86652759f9b1456d23efb7203cd9fa0e2e550af5dfee7a7b9b7de", func := "monocoque/monocoquelaw02.WireTurns", spec := "wireTurns", named := ["monocoque/wire.steps"], apart := false, laid := [("monocoque/wire.steps", laid_monocoque_wire_steps)], narrowed := true }
def WireTurnsUptoSaid : Prop := wireTurnsUptoRow.holds Tryd.pinned (OpenSpec.upto wireTurnsSpec)

/-- 'monocoquelaw02.WireNil', WHERE WHAT IT READS IS OF BULK AT MOST 1048576: true; the input reads as it did. -/
def wireNilUptoRow : OpenClaim := { program := "ythcegmijphbhgaadoor", sum := "81a6262d91f86652759f9b1456d23efb7203cd9fa0e2e550af5dfee7a7b9b7de", func := "monocoque/monocoquelaw02.WireNil", spec := "wireNil", unfollowed := true, recurses := true, named := ["monocoque/wire.steps"], apart := false, laid := [("monocoque/wire.steps", laid_monocoque_wire_steps)], narrowed := true }
def WireNilUptoSaid : Prop := wireNilUptoRow.holds Tryd.pinned (OpenSpec.upto wireNilSpec)

end Rows
end Go.Proofs.YthcegmijphbhgaaDoor
