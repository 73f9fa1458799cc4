/-
  NARROWER THAN 'FOR EVERY INPUT', by the rows' own cells (each row's printed sentence says how): CallsDecodes: laid · CallsEncodes: laid · CallsOthers: laid · CallsWords: laid · CallsBounds: laid · CallsDear: laid.
  DERIVED. THE GIVEN ROWS OF THIS SEAT. 6 by the template 'for every input the law returns true; each argument reads behind the call as it read before'; 0 by the template 'total and deterministic' (their statements: YtglpbngdikfliaaDoorTotals.lean).
  GIVEN WITH THE SEED: the statements are not yours to turn. If you find one false, say at which input.
  Laid BY PROGRAM, IN A SANDBOX (cutbox-rows.mjs): the forced cells as the released guide's own fill.sh prints them over the translation c6ff7e48b3260e73… (all of the seat's roots in one cut). By AI agents, Wed Nov 11 2026. No macro, syntax, notation, axiom, sorry.
-/
import Derived.Test.YtglpbngdikfliaaDoorChecked
import GoSem.Claim
import GoSem.ClaimJoined
import GoSem.ClaimMapViews
import Derived.JoinedTies
import Derived.KernelRfl
namespace Go.Proofs.YtglpbngdikfliaaDoor
/- THE CELL 'sum', in the pinned program and in every row, IS THE sha256 OF THE DUMP (.gsa) THAT YtglpbngdikfliaaDoorProg.lean LOADS. Nothing in Lean hashes anything: it is a label: what it is worth is what the hold of that sum in a sandbox is worth. -/
noncomputable def Tryd.pinned : Pinned := { name := "ytglpbngdikfliaadoor", sum := "c6ff7e48b3260e73c49d3aad2d50d15e6ec7e80869cd9259efc750b060e345fa", checked := Tryd.checked }
namespace Rows
def none {H : Type} : Left H := { results := [], args := [] }

/- WHAT THE LISTED PACKAGE-LEVEL VARIABLES READ AS WHEN THE CALL BEGINS. Each datum BY PROGRAM (the guide's laid-datum.mjs) off the statement by which the dump's own 'gosem.cut.vars' lays the variable. In a bare row this is a premise. The card (YtglpbngdikfliaaDoorCards.lean) ties it to the program's text. -/
def laid_monocoque_calls_properties {H : Type} : DataW H := .agg [.agg [.lit (.string [110, 111, 119]), .lit (.int .i64 0), .lit (.int .i64 1)], .agg [.lit (.string [115, 101, 108, 102]), .lit (.int .i64 0), .lit (.int .i64 1)], .agg [.lit (.string [119, 97, 105, 116]), .lit (.int .i64 8), .lit (.int .i64 2)], .agg [.lit (.string [100, 111, 110, 101]), .lit (.int .i64 0), .lit (.int .i64 1)], .agg [.lit (.string [115, 116, 97, 114, 116]), .lit (.int .i64 1), .lit (.int .i64 3)], .agg [.lit (.string [115, 116, 111, 112]), .lit (.int .i64 1), .lit (.int .i64 3)], .agg [.lit (.string [115, 117, 115, 112, 101, 110, 100]), .lit (.int .i64 1), .lit (.int .i64 2)], .agg [.lit (.string [114, 101, 115, 117, 109, 101]), .lit (.int .i64 1), .lit (.int .i64 2)], .agg [.lit (.string [112, 114, 105, 111, 114, 105, 116, 121]), .lit (.int .i64 3), .lit (.int .i64 2)], .agg [.lit (.string [116, 97, 107, 101]), .lit (.int .i64 9), .lit (.int .i64 3)], .agg [.lit (.string [103, 105, 118, 101]), .lit (.int .i64 1), .lit (.int .i64 3)], .agg [.lit (.string [100, 111, 119, 110]), .lit (.int .i64 9), .lit (.int .i64 2)], .agg [.lit (.string [117, 112]), .lit (.int .i64 1), .lit (.int .i64 2)], .agg [.lit (.string [114, 97, 105, 115, 101]), .lit (.int .i64 1), .lit (.int .i64 2)], .agg [.lit (.string [108, 111, 119, 101, 114]), .lit (.int .i64 1), .lit (.int .i64 1)], .agg [.lit (.string [97, 119, 97, 105, 116]), .lit (.int .i64 9), .lit (.int .i64 2)], .agg [.lit (.string [115, 104, 111, 119]), .lit (.int .i64 7), .lit (.int .i64 2)], .agg [.lit (.string [104, 105, 100, 101]), .lit (.int .i64 1), .lit (.int .i64 1)], .agg [.lit (.string [108, 111, 111, 107]), .lit (.int .i64 11), .lit (.int .i64 6)], .agg [.lit (.string [115, 101, 110, 100]), .lit (.int .i64 15), .lit (.int .i64 3)], .agg [.lit (.string [114, 101, 99, 101, 105, 118, 101]), .lit (.int .i64 11), .lit (.int .i64 6)], .agg [.lit (.string [119, 114, 105, 116, 101]), .lit (.int .i64 7), .lit (.int .i64 2)], .agg [.lit (.string [114, 101, 97, 100]), .lit (.int .i64 3), .lit (.int .i64 6)], .agg [.lit (.string [112, 117, 116]), .lit (.int .i64 7), .lit (.int .i64 3)], .agg [.lit (.string [103, 101, 116]), .lit (.int .i64 3), .lit (.int .i64 6)], .agg [.lit (.string [114, 101, 112, 111, 114, 116]), .lit (.int .i64 6), .lit (.int .i64 2)], .agg [.lit (.string [102, 97, 105, 108]), .lit (.int .i64 2), .lit (.int .i64 1)], .agg [.lit (.string [110, 111, 114, 109, 97, 108]), .lit (.int .i64 0), .lit (.int .i64 1)]]

/-- 'monocoquelaw33.CallsDecodes': WHATEVER THE INPUT: true; the input reads as it did. -/
def callsDecodesSpec : ChangeSpec := { name := "callsDecodes", fn := fun _ => fun
  | [d1, d2, d3] => { results := [.lit (.bool true)], args := [d1, d2, d3] }
  | _ => none }
def callsDecodesRow : OpenClaim := { program := "ytglpbngdikfliaadoor", sum := "c6ff7e48b3260e73c49d3aad2d50d15e6ec7e80869cd9259efc750b060e345fa", func := "monocoque/monocoquelaw33.CallsDecodes", spec := "callsDecodes", named := ["monocoque/calls.properties"], apart := false, laid := [("monocoque/calls.properties", laid_monocoque_calls_properties)] }
def CallsDecodesSaid : Prop := callsDecodesRow.holds Tryd.pinned (OpenSpec.ofChange callsDecodesSpec)

/-- ITS FALSE NEIGHBOUR: 'it returns false'. Refute it at one input. -/
def callsDecodesWrong : ChangeSpec := { name := "callsDecodes", fn := fun _ => fun
  | [d1, d2, d3] => { results := [.lit (.bool false)], args := [d1, d2, d3] }
  | _ => none }
def CallsDecodesWrongFalsely : Prop := callsDecodesRow.holds Tryd.pinned (OpenSpec.ofChange callsDecodesWrong)

/-- 'monocoquelaw33.CallsEncodes': WHATEVER THE INPUT: true; the input reads as it did. -/
def callsEncodesSpec : ChangeSpec := { name := "callsEncodes", fn := fun _ => fun
  | [d1, d2] => { results := [.lit (.bool true)], args := [d1, d2] }
  | _ => none }
def callsEncodesRow : OpenClaim := { program := "ytglpbngdikfliaadoor", sum := "c6ff7e48b3260e73c49d3aad2d50d15e6ec7e80869cd9259efc750b060e345fa", func := "monocoque/monocoquelaw33.CallsEncodes", spec := "callsEncodes", named := ["monocoque/calls.properties"], apart := false, laid := [("monocoque/calls.properties", laid_monocoque_calls_properties)] }
def CallsEncodesSaid : Prop := callsEncodesRow.holds Tryd.pinned (OpenSpec.ofChange callsEncodesSpec)

/-- ITS FALSE NEIGHBOUR: 'it returns false'. Refute it at one input. -/
def callsEncodesWrong : ChangeSpec := { name := "callsEncodes", fn := fun _ => fun
  | [d1, d2] => { results := [.lit (.bool false)], args := [d1, d2] }
  | _ => none }
def CallsEncodesWrongFalsely : Prop := callsEncodesRow.holds Tryd.pinned (OpenSpec.ofChange callsEncodesWrong)

/-- 'monocoquelaw33.CallsOthers': WHATEVER THE INPUT: true; the input reads as it did. -/
def callsOthersSpec : ChangeSpec := { name := "callsOthers", fn := fun _ => fun
  | [d1, d2, d3, d4] => { results := [.lit (.bool true)], args := [d1, d2, d3, d4] }
  | _ => none }
def callsOthersRow : OpenClaim := { program := "ytglpbngdikfliaadoor", sum := "c6ff7e48b3260e73c49d3aad2d50d15e6ec7e80869cd9259efc750b060e345fa", func := "monocoque/monocoquelaw33.CallsOthers", spec := "callsOthers", named := ["monocoque/calls.properties"], apart := false, laid := [("monocoque/calls.properties", laid_monocoque_calls_properties)] }
def CallsOthersSaid : Prop := callsOthersRow.holds Tryd.pinned (OpenSpec.ofChange callsOthersSpec)

/-- ITS FALSE NEIGHBOUR: 'it returns false'. Refute it at one input. -/
def callsOthersWrong : ChangeSpec := { name := "callsOthers", fn := fun _ => fun
  | [d1, d2, d3, d4] => { results := [.lit (.bool false)], args := [d1, d2, d3, d4] }
  | _ => none }
def CallsOthersWrongFalsely : Prop := callsOthersRow.holds Tryd.pinned (OpenSpec.ofChange callsOthersWrong)

/-- 'monocoquelaw33.CallsWords': WHATEVER THE INPUT: true; the input reads as it did. -/
def callsWordsSpec : ChangeSpec := { name := "callsWords", fn := fun _ => fun
  | [d1, d2] => { results := [.lit (.bool true)], args := [d1, d2] }
  | _ => none }
def callsWordsRow : OpenClaim := { program := "ytglpbngdikfliaadoor", sum := "c6ff7e48b3260e73c49d3aad2d50d15e6ec7e80869cd9259efc750b060e345fa", func := "monocoque/monocoquelaw33.CallsWords", spec := "callsWords", named := ["monocoque/calls.properties"], apart := false, laid := [("monocoque/calls.properties", laid_monocoque_calls_properties)] }
def CallsWordsSaid : Prop := callsWordsRow.holds Tryd.pinned (OpenSpec.ofChange callsWordsSpec)

/-- ITS FALSE NEIGHBOUR: 'it returns false'. Refute it at one input. -/
def callsWordsWrong : ChangeSpec := { name := "callsWords", fn := fun _ => fun
  | [d1, d2] => { results := [.lit (.bool false)], args := [d1, d2] }
  | _ => none }
def CallsWordsWrongFalsely : Prop := callsWordsRow.holds Tryd.pinned (OpenSpec.ofChange callsWordsWrong)

/-- 'monocoquelaw33.CallsBounds': WHATEVER THE INPUT: true; the input reads as it did. -/
def callsBoundsSpec : ChangeSpec := { name := "callsBounds", fn := fun _ => fun
  | [d1, d2, d3] => { results := [.lit (.bool true)], args := [d1, d2, d3] }
  | _ => none }
def callsBoundsRow : OpenClaim := { program := "ytglpbngdikfliaadoor", sum := "c6ff7e48b3260e73c49d3aad2d50d15e6ec7e80869cd9259efc750b060e345fa", func := "monocoque/monocoquelaw33.CallsBounds", spec := "callsBounds", named := ["monocoque/calls.properties"], apart := false, laid := [("monocoque/calls.properties", laid_monocoque_calls_properties)] }
def CallsBoundsSaid : Prop := callsBoundsRow.holds Tryd.pinned (OpenSpec.ofChange callsBoundsSpec)

/-- ITS FALSE NEIGHBOUR: 'it returns false'. Refute it at one input. -/
def callsBoundsWrong : ChangeSpec := { name := "callsBounds", fn := fun _ => fun
  | [d1, d2, d3] => { results := [.lit (.bool false)], args := [d1, d2, d3] }
  | _ => none }
def CallsBoundsWrongFalsely : Prop := callsBoundsRow.holds Tryd.pinned (OpenSpec.ofChange callsBoundsWrong)

/-- 'monocoquelaw33.CallsDear': WHATEVER THE INPUT: true; the input reads as it did. -/
def callsDearSpec : ChangeSpec := { name := "callsDear", fn := fun _ => fun
  | [d1, d2] => { results := [.lit (.bool true)], args := [d1, d2] }
  | _ => none }
def callsDearRow : OpenClaim := { program := "ytglpbngdikfliaadoor", sum := "c6ff7e48b3260e73c49d3aad2d50d15e6ec7e80869cd9259efc750b060e345fa", func := "monocoque/monocoquelaw33.CallsDear", spec := "callsDear", named := ["monocoque/calls.properties"], apart := false, laid := [("monocoque/calls.properties", laid_monocoque_calls_properties)] }
def CallsDearSaid : Prop := callsDearRow.holds Tryd.pinned (OpenSpec.ofChange callsDearSpec)

/-- ITS FALSE NEIGHBOUR: 'it returns false'. Refute it at one input. -/
def callsDearWrong : ChangeSpec := { name := "callsDear", fn := fun _ => fun
  | [d1, d2] => { results := [.lit (.bool false)], args := [d1, d2] }
  | _ => none }
def CallsDearWrongFalsely : Prop := callsDearRow.holds Tryd.pinned (OpenSpec.ofChange callsDearWrong)

/- THE SECOND FORM. 'bulk': how many values and letters a reading holds, each counted each time it is reached (what is shared counts as often as it is met; a slice's spare places count too). A statement '..UptoSaid' is the law's where the arguments, and the package variables that the reading takes, are together of bulk at most 1048576: NARROWER than '..Said'. Prove '..Said' where nothing that the law and all that it calls make is longer than what came in: it says more and counts as full. Else prove '..UptoSaid'. A law counts once. -/
mutual
def uptoBulk {H : Type} : DataW H → Nat
  | .lit (.string bytes) => bytes.length + 1
  | .lit _ => 1
  | .nil => 1
  | .ptr d => uptoBulk d + 1
  | .slice elems spare => uptoBulkAll elems + uptoBulkAll spare + 1
  | .agg parts => uptoBulkAll parts + 1
  | .iface _ d => uptoBulk d + 1
  | .map entries => uptoBulkEntries entries + 1
  | .held _ => 1
def uptoBulkAll {H : Type} : List (DataW H) → Nat
  | [] => 0
  | d :: r => uptoBulk d + uptoBulkAll r
def uptoBulkEntries {H : Type} : List (Lit × DataW H) → Nat
  | [] => 0
  | x :: r => uptoBulkEntry x + uptoBulkEntries r
def uptoBulkEntry {H : Type} : Lit × DataW H → Nat
  | (.string bytes, d) => bytes.length + uptoBulk d + 1
  | (_, d) => uptoBulk d + 1
 end
def uptoSmall : (H : Type) → List (DataW H) → Bool := fun _ ds => decide (uptoBulkAll ds ≤ 1048576)
def OpenSpec.upto (s : _root_.Go.ChangeSpec) : _root_.Go.OpenSpec := { _root_.Go.OpenSpec.ofChange s with cond := some uptoSmall }

/-- 'monocoquelaw33.CallsDecodes', WHERE WHAT IT READS IS OF BULK AT MOST 1048576: true; the input reads as it did. -/
def callsDecodesUptoRow : OpenClaim := { program := "ytglpbngdikfliaadoor", sum := "c6ff7e48b3260e73c49d3aad2d50d15e6ec7e80869cd9259efc750b060e345fa", func := "monocoque/monocoquelaw33.CallsDecodes", spec := "callsDecodes", named := ["monocoque/calls.properties"], apart := false, laid := [("monocoque/calls.properties", laid_monocoque_calls_properties)], narrowed := true }
def CallsDecodesUptoSaid : Prop := callsDecodesUptoRow.holds Tryd.pinned (OpenSpec.upto callsDecodesSpec)

/-- 'monocoquelaw33.CallsEncodes', WHERE WHAT IT READS IS OF BULK AT MOST 1048576: true; the input reads as it did. -/
def callsEncodesUptoRow : OpenClaim := { program := "ytglpbngdikfliaadoor", sum := "c6ff7e48b3260e73c49d3aad2d50d15e6ec7e80869cd9259efc750b060e345fa", func := "monocoque/monocoquelaw33.CallsEncodes", spec := "callsEncodes", named := ["monocoque/calls.properties"], apart := false, laid := [("monocoque/calls.properties", laid_monocoque_calls_properties)], narrowed := true }
def CallsEncodesUptoSaid : Prop := callsEncodesUptoRow.holds Tryd.pinned (OpenSpec.upto callsEncodesSpec)

/-- 'monocoquelaw33.CallsOthers', WHERE WHAT IT READS IS OF BULK AT MOST 1048576: true; the input reads as it did. -/
def callsOthersUptoRow : OpenClaim := { program := "ytglpbngdikfliaadoor", sum := "c6ff7e48b3260e73c49d3aad2d50d15e6ec7e80869cd9259efc750b060e345fa", func := "monocoque/monocoquelaw33.CallsOthers", spec := "callsOthers", named := ["monocoque/calls.properties"], apart := false, laid := [("monocoque/calls.properties", laid_monocoque_calls_properties)], narrowed := true }
def CallsOthersUptoSaid : Prop := callsOthersUptoRow.holds Tryd.pinned (OpenSpec.upto callsOthersSpec)

/-- 'monocoquelaw33.CallsWords', WHERE WHAT IT READS IS OF BULK AT MOST 1048576: true; the input reads as it did. -/
def callsWordsUptoRow : OpenClaim := { program := "ytglpbngdikfliaadoor", sum := "c6ff7e48b3260e73c49d3aad2d50d15e6ec7e80869cd9259efc750b060e345fa", func := "monocoque/monocoquelaw33.CallsWords", spec := "callsWords", named := ["monocoque/calls.properties"], apart := false, laid := [("monocoque/calls.properties", laid_monocoque_calls_properties)], narrowed := true }
def CallsWordsUptoSaid : Prop := callsWordsUptoRow.holds Tryd.pinned (OpenSpec.upto callsWordsSpec)

/-- 'monocoquelaw33.CallsBounds', WHERE WHAT IT READS IS OF BULK AT MOST 1048576: true; the input reads as it did. -/
def callsBoundsUptoRow : OpenClaim := { program := "ytglpbngdikfliaadoor", sum := "c6ff7e48b3260e73c49d3aad2d50d15e6ec7e80869cd9259efc750b060e345fa", func := "monocoque/monocoquelaw33.CallsBounds", spec := "callsBounds", named := ["monocoque/calls.properties"], apart := false, laid := [("monocoque/calls.properties", laid_monocoque_calls_properties)], narrowed := true }
def CallsBoundsUptoSaid : Prop := callsBoundsUptoRow.holds Tryd.pinned (OpenSpec.upto callsBoundsSpec)

/-- 'monocoquelaw33.CallsDear', WHERE WHAT IT READS IS OF BULK AT MOST 1048576: true; the input reads as it did. -/
def callsDearUptoRow : OpenClaim := { program := "ytglpbngdikfliaadoor", sum := "c6ff7e48b3260e73c49d3aad2d50d15e6ec7e80869cd9259efc750b060e345fa", func := "monocoque/monocoquelaw33.CallsDear", spec := "callsDear", named := ["monocoque/calls.properties"], apart := false, laid := [("monocoque/calls.properties", laid_monocoque_calls_properties)], narrowed := true }
def CallsDearUptoSaid : Prop := callsDearUptoRow.holds Tryd.pinned (OpenSpec.upto callsDearSpec)

end Rows
end Go.Proofs.YtglpbngdikfliaaDoor
