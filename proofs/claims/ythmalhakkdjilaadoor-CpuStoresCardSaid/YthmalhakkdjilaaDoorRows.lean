/-
  NARROWER THAN 'FOR EVERY INPUT', by the rows' own cells (each row's printed sentence says how): CpuRuns: laid · CpuStores: laid · CpuStack: laid · CpuLoops: laid · CpuNil: laid.
  DERIVED. THE GIVEN ROWS OF THIS SEAT. 5 by the template 'for every input the law returns true; each argument reads behind the call as it read before'; 0 by the template 'total and deterministic' (their statements: YthmalhakkdjilaaDoorTotals.lean).
  GIVEN WITH THE SEED: the statements are not yours to turn. If you find one false, say at which input.
  Laid BY PROGRAM, IN A SANDBOX (cutbox-rows.mjs): the forced cells as the released guide's own fill.sh prints them over the translation e3226910c2006d9d… (all of the seat's roots in one cut). By AI agents, Wed Nov 11 2026. No macro, syntax, notation, axiom, sorry.
-/
import Derived.Test.YthmalhakkdjilaaDoorChecked
import GoSem.Claim
import GoSem.ClaimJoined
import GoSem.ClaimMapViews
import Derived.JoinedTies
import Derived.KernelRfl
namespace Go.Proofs.YthmalhakkdjilaaDoor
/- THE CELL 'sum', in the pinned program and in every row, IS THE sha256 OF THE DUMP (.gsa) THAT YthmalhakkdjilaaDoorProg.lean LOADS. Nothing in Lean hashes anything: it is a label: what it is worth is what the hold of that sum in a sandbox is worth. -/
noncomputable def Tryd.pinned : Pinned := { name := "ythmalhakkdjilaadoor", sum := "e3226910c2006d9d6e70550c737dad96d1e5fb159315b804206ba59f1ba5a435", checked := Tryd.checked }
namespace Rows
def none {H : Type} : Left H := { results := [], args := [] }

/- WHAT THE LISTED PACKAGE-LEVEL VARIABLES READ AS WHEN THE CALL BEGINS. Each datum BY PROGRAM (the guide's laid-datum.mjs) off the statement by which the dump's own 'gosem.cut.vars' lays the variable. In a bare row this is a premise. The card (YthmalhakkdjilaaDoorCards.lean) ties it to the program's text. -/
def laid_monocoque_isa_operations {H : Type} : DataW H := .agg [.agg [.lit (.string [110, 111, 112]), .lit (.string []), .lit (.int .i64 0), .lit (.int .i64 0), .lit (.int .i64 0), .lit (.int .i64 1)], .agg [.lit (.string [115, 101, 116]), .lit (.string [97, 110]), .lit (.int .i64 1), .lit (.int .i64 (-262144)), .lit (.int .i64 262143), .lit (.int .i64 1)], .agg [.lit (.string [109, 111, 118, 101]), .lit (.string [97, 98]), .lit (.int .i64 2), .lit (.int .i64 0), .lit (.int .i64 0), .lit (.int .i64 1)], .agg [.lit (.string [97, 100, 100]), .lit (.string [97, 98]), .lit (.int .i64 2), .lit (.int .i64 0), .lit (.int .i64 0), .lit (.int .i64 1)], .agg [.lit (.string [97, 100, 100, 110]), .lit (.string [97, 110]), .lit (.int .i64 1), .lit (.int .i64 (-262144)), .lit (.int .i64 262143), .lit (.int .i64 1)], .agg [.lit (.string [115, 117, 98]), .lit (.string [97, 98]), .lit (.int .i64 2), .lit (.int .i64 0), .lit (.int .i64 0), .lit (.int .i64 1)], .agg [.lit (.string [109, 117, 108]), .lit (.string [97, 98]), .lit (.int .i64 2), .lit (.int .i64 0), .lit (.int .i64 0), .lit (.int .i64 3)], .agg [.lit (.string [100, 105, 118]), .lit (.string [97, 98]), .lit (.int .i64 2), .lit (.int .i64 0), .lit (.int .i64 0), .lit (.int .i64 8)], .agg [.lit (.string [97, 110, 100]), .lit (.string [97, 98]), .lit (.int .i64 2), .lit (.int .i64 0), .lit (.int .i64 0), .lit (.int .i64 1)], .agg [.lit (.string [111, 114]), .lit (.string [97, 98]), .lit (.int .i64 2), .lit (.int .i64 0), .lit (.int .i64 0), .lit (.int .i64 1)], .agg [.lit (.string [120, 111, 114]), .lit (.string [97, 98]), .lit (.int .i64 2), .lit (.int .i64 0), .lit (.int .i64 0), .lit (.int .i64 1)], .agg [.lit (.string [115, 104, 108]), .lit (.string [97, 110]), .lit (.int .i64 1), .lit (.int .i64 0), .lit (.int .i64 31), .lit (.int .i64 1)], .agg [.lit (.string [115, 104, 114]), .lit (.string [97, 110]), .lit (.int .i64 1), .lit (.int .i64 0), .lit (.int .i64 31), .lit (.int .i64 1)], .agg [.lit (.string [108, 111, 97, 100]), .lit (.string [97, 98, 110]), .lit (.int .i64 2), .lit (.int .i64 (-262144)), .lit (.int .i64 262143), .lit (.int .i64 2)], .agg [.lit (.string [115, 116, 111, 114, 101]), .lit (.string [97, 98, 110]), .lit (.int .i64 2), .lit (.int .i64 (-262144)), .lit (.int .i64 262143), .lit (.int .i64 2)], .agg [.lit (.string [106, 117, 109, 112]), .lit (.string [108]), .lit (.int .i64 0), .lit (.int .i64 (-262144)), .lit (.int .i64 262143), .lit (.int .i64 1)], .agg [.lit (.string [106, 122]), .lit (.string [97, 108]), .lit (.int .i64 1), .lit (.int .i64 (-262144)), .lit (.int .i64 262143), .lit (.int .i64 1)], .agg [.lit (.string [106, 110, 122]), .lit (.string [97, 108]), .lit (.int .i64 1), .lit (.int .i64 (-262144)), .lit (.int .i64 262143), .lit (.int .i64 1)], .agg [.lit (.string [108, 111, 111, 112]), .lit (.string [108, 110]), .lit (.int .i64 2), .lit (.int .i64 1), .lit (.int .i64 262143), .lit (.int .i64 1)], .agg [.lit (.string [99, 97, 108, 108]), .lit (.string [108]), .lit (.int .i64 0), .lit (.int .i64 0), .lit (.int .i64 262143), .lit (.int .i64 2)], .agg [.lit (.string [114, 101, 116]), .lit (.string []), .lit (.int .i64 0), .lit (.int .i64 0), .lit (.int .i64 0), .lit (.int .i64 2)], .agg [.lit (.string [112, 117, 115, 104]), .lit (.string [97]), .lit (.int .i64 1), .lit (.int .i64 0), .lit (.int .i64 0), .lit (.int .i64 2)], .agg [.lit (.string [112, 111, 112]), .lit (.string [97]), .lit (.int .i64 1), .lit (.int .i64 0), .lit (.int .i64 0), .lit (.int .i64 2)], .agg [.lit (.string [116, 114, 97, 112]), .lit (.string [110]), .lit (.int .i64 0), .lit (.int .i64 0), .lit (.int .i64 262143), .lit (.int .i64 1)]]

/-- 'monocoquelaw15.CpuRuns': WHATEVER THE INPUT: true; the input reads as it did. -/
def cpuRunsSpec : ChangeSpec := { name := "cpuRuns", fn := fun _ => fun
  | [d1, d2, d3, d4] => { results := [.lit (.bool true)], args := [d1, d2, d3, d4] }
  | _ => none }
def cpuRunsRow : OpenClaim := { program := "ythmalhakkdjilaadoor", sum := "e3226910c2006d9d6e70550c737dad96d1e5fb159315b804206ba59f1ba5a435", func := "monocoque/monocoquelaw15.CpuRuns", spec := "cpuRuns", unfollowed := true, recurses := true, named := ["monocoque/isa.operations"], apart := false, laid := [("monocoque/isa.operations", laid_monocoque_isa_operations)] }
def CpuRunsSaid : Prop := cpuRunsRow.holds Tryd.pinned (OpenSpec.ofChange cpuRunsSpec)

/-- ITS FALSE NEIGHBOUR: 'it returns false'. Refute it at one input. -/
def cpuRunsWrong : ChangeSpec := { name := "cpuRuns", fn := fun _ => fun
  | [d1, d2, d3, d4] => { results := [.lit (.bool false)], args := [d1, d2, d3, d4] }
  | _ => none }
def CpuRunsWrongFalsely : Prop := cpuRunsRow.holds Tryd.pinned (OpenSpec.ofChange cpuRunsWrong)

/-- 'monocoquelaw15.CpuStores': WHATEVER THE INPUT: true; the input reads as it did. -/
def cpuStoresSpec : ChangeSpec := { name := "cpuStores", fn := fun _ => fun
  | [d1, d2, d3] => { results := [.lit (.bool true)], args := [d1, d2, d3] }
  | _ => none }
def cpuStoresRow : OpenClaim := { program := "ythmalhakkdjilaadoor", sum := "e3226910c2006d9d6e70550c737dad96d1e5fb159315b804206ba59f1ba5a435", func := "monocoque/monocoquelaw15.CpuStores", spec := "cpuStores", unfollowed := true, recurses := true, named := ["monocoque/isa.operations"], apart := false, laid := [("monocoque/isa.operations", laid_monocoque_isa_operations)] }
def CpuStoresSaid : Prop := cpuStoresRow.holds Tryd.pinned (OpenSpec.ofChange cpuStoresSpec)

/-- ITS FALSE NEIGHBOUR: 'it returns false'. Refute it at one input. -/
def cpuStoresWrong : ChangeSpec := { name := "cpuStores", fn := fun _ => fun
  | [d1, d2, d3] => { results := [.lit (.bool false)], args := [d1, d2, d3] }
  | _ => none }
def CpuStoresWrongFalsely : Prop := cpuStoresRow.holds Tryd.pinned (OpenSpec.ofChange cpuStoresWrong)

/-- 'monocoquelaw15.CpuStack': WHATEVER THE INPUT: true; the input reads as it did. -/
def cpuStackSpec : ChangeSpec := { name := "cpuStack", fn := fun _ => fun
  | [d1, d2] => { results := [.lit (.bool true)], args := [d1, d2] }
  | _ => none }
def cpuStackRow : OpenClaim := { program := "ythmalhakkdjilaadoor", sum := "e3226910c2006d9d6e70550c737dad96d1e5fb159315b804206ba59f1ba5a435", func := "monocoque/monocoquelaw15.CpuStack", spec := "cpuStack", unfollowed := true, recurses := true, named := ["monocoque/isa.operations"], apart := false, laid := [("monocoque/isa.operations", laid_monocoque_isa_operations)] }
def CpuStackSaid : Prop := cpuStackRow.holds Tryd.pinned (OpenSpec.ofChange cpuStackSpec)

/-- ITS FALSE NEIGHBOUR: 'it returns false'. Refute it at one input. -/
def cpuStackWrong : ChangeSpec := { name := "cpuStack", fn := fun _ => fun
  | [d1, d2] => { results := [.lit (.bool false)], args := [d1, d2] }
  | _ => none }
def CpuStackWrongFalsely : Prop := cpuStackRow.holds Tryd.pinned (OpenSpec.ofChange cpuStackWrong)

/-- 'monocoquelaw15.CpuLoops': WHATEVER THE INPUT: true; the input reads as it did. -/
def cpuLoopsSpec : ChangeSpec := { name := "cpuLoops", fn := fun _ => fun
  | [d] => { results := [.lit (.bool true)], args := [d] }
  | _ => none }
def cpuLoopsRow : OpenClaim := { program := "ythmalhakkdjilaadoor", sum := "e3226910c2006d9d6e70550c737dad96d1e5fb159315b804206ba59f1ba5a435", func := "monocoque/monocoquelaw15.CpuLoops", spec := "cpuLoops", unfollowed := true, recurses := true, named := ["monocoque/isa.operations"], apart := false, laid := [("monocoque/isa.operations", laid_monocoque_isa_operations)] }
def CpuLoopsSaid : Prop := cpuLoopsRow.holds Tryd.pinned (OpenSpec.ofChange cpuLoopsSpec)

/-- ITS FALSE NEIGHBOUR: 'it returns false'. Refute it at one input. -/
def cpuLoopsWrong : ChangeSpec := { name := "cpuLoops", fn := fun _ => fun
  | [d] => { results := [.lit (.bool false)], args := [d] }
  | _ => none }
def CpuLoopsWrongFalsely : Prop := cpuLoopsRow.holds Tryd.pinned (OpenSpec.ofChange cpuLoopsWrong)

/-- 'monocoquelaw15.CpuNil': WHATEVER THE INPUT: true; the input reads as it did. -/
def cpuNilSpec : ChangeSpec := { name := "cpuNil", fn := fun _ => fun
  | [d1, d2] => { results := [.lit (.bool true)], args := [d1, d2] }
  | _ => none }
def cpuNilRow : OpenClaim := { program := "ythmalhakkdjilaadoor", sum := "e3226910c2006d9d6e70550c737dad96d1e5fb159315b804206ba59f1ba5a435", func := "monocoque/monocoquelaw15.CpuNil", spec := "cpuNil", unfollowed := true, recurses := true, named := ["monocoque/isa.operations"], apart := false, laid := [("monocoque/isa.operations", laid_monocoque_isa_operations)] }
def CpuNilSaid : Prop := cpuNilRow.holds Tryd.pinned (OpenSpec.ofChange cpuNilSpec)

/-- ITS FALSE NEIGHBOUR: 'it returns false'. Refute it at one input. -/
def cpuNilWrong : ChangeSpec := { name := "cpuNil", fn := fun _ => fun
  | [d1, d2] => { results := [.lit (.bool false)], args := [d1, d2] }
  | _ => none }
def CpuNilWrongFalsely : Prop := cpuNilRow.holds Tryd.pinned (OpenSpec.ofChange cpuNilWrong)

/- THE SECOND FORM. 'bulk': how many values and letters a reading holds, each counted each time it is reached (what is shared counts as often as it is met; a slice's spare places count too). A statement '..UptoSaid' is the law's where the arguments, and the package variables that the reading takes, are together of bulk at most 1048576: NARROWER than '..Said'. Prove '..Said' where nothing that the law and all that it calls make is longer than what came in: it says more and counts as full. Else prove '..UptoSaid'. A law counts once. -/
mutual
def uptoBulk {H : Type} : DataW H → Nat
  | .lit (.string bytes) => bytes.length + 1
  | .lit _ => 1
  | .nil => 1
  | .ptr d => uptoBulk d + 1
  | .slice elems spare => uptoBulkAll elems + uptoBulkAll spare + 1
  | .agg parts => uptoBulkAll parts + 1
  | .iface _ d => uptoBulk d + 1
  | .map entries => uptoBulkEntries entries + 1
  | .held _ => 1
def uptoBulkAll {H : Type} : List (DataW H) → Nat
  | [] => 0
  | d :: r => uptoBulk d + uptoBulkAll r
def uptoBulkEntries {H : Type} : List (Lit × DataW H) → Nat
  | [] => 0
  | x :: r => uptoBulkEntry x + uptoBulkEntries r
def uptoBulkEntry {H : Type} : Lit × DataW H → Nat
  | (.string bytes, d) => bytes.length + uptoBulk d + 1
  | (_, d) => uptoBulk d + 1
 end
def uptoSmall : (H : Type) → List (DataW H) → Bool := fun _ ds => decide (uptoBulkAll ds ≤ 1048576)
def OpenSpec.upto (s : _root_.Go.ChangeSpec) : _root_.Go.OpenSpec := { _root_.Go.OpenSpec.ofChange s with cond := some uptoSmall }

/-- 'monocoquelaw15.CpuRuns', WHERE WHAT IT READS IS OF BULK AT MOST 1048576: true; the input reads as it did. -/
def cpuRunsUptoRow : OpenClaim := { program := "ythmalhakkdjilaadoor", sum := "e3226910c2006d9d6e70550c737dad96d1e5fb159315b804206ba59f1ba5a435", func := "monocoque/monocoquelaw15.CpuRuns", spec := "cpuRuns", unfollowed := true, recurses := true, named := ["monocoque/isa.operations"], apart := false, laid := [("monocoque/isa.operations", laid_monocoque_isa_operations)], narrowed := true }
def CpuRunsUptoSaid : Prop := cpuRunsUptoRow.holds Tryd.pinned (OpenSpec.upto cpuRunsSpec)

/-- 'monocoquelaw15.CpuStores', WHERE WHAT IT READS IS OF BULK AT MOST 1048576: true; the input reads as it did. -/
def cpuStoresUptoRow : OpenClaim := { program := "ythmalhakkdjilaadoor", sum := "e3226910c2006d9d6e70550c737dad96d1e5fb159315b804206ba59f1ba5a435", func := "monocoque/monocoquelaw15.CpuStores", spec := "cpuStores", unfollowed := true, recurses := true, named := ["monocoque/isa.operations"], apart := false, laid := [("monocoque/isa.operations", laid_monocoque_isa_operations)], narrowed := true }
def CpuStoresUptoSaid : Prop := cpuStoresUptoRow.holds Tryd.pinned (OpenSpec.upto cpuStoresSpec)

/-- 'monocoquelaw15.CpuStack', WHERE WHAT IT READS IS OF BULK AT MOST 1048576: true; the input reads as it did. -/
def cpuStackUptoRow : OpenClaim := { program := "ythmalhakkdjilaadoor", sum := "e3226910c2006d9d6e70550c737dad96d1e5fb159315b804206ba59f1ba5a435", func := "monocoque/monocoquelaw15.CpuStack", spec := "cpuStack", unfollowed := true, recurses := true, named := ["monocoque/isa.operations"], apart := false, laid := [("monocoque/isa.operations", laid_monocoque_isa_operations)], narrowed := true }
def CpuStackUptoSaid : Prop := cpuStackUptoRow.holds Tryd.pinned (OpenSpec.upto cpuStackSpec)

/-- 'monocoquelaw15.CpuLoops', WHERE WHAT IT READS IS OF BULK AT MOST 1048576: true; the input reads as it did. -/
def cpuLoopsUptoRow : OpenClaim := { program := "ythmalhakkdjilaadoor", sum := "e3226910c2006d9d6e70550c737dad96d1e5fb159315b804206ba59f1ba5a435", func := "monocoque/monocoquelaw15.CpuLoops", spec := "cpuLoops", unfollowed := true, recurses := true, named := ["monocoque/isa.operations"], apart := false, laid := [("monocoque/isa.operations", laid_monocoque_isa_operations)], narrowed := true }
def CpuLoopsUptoSaid : Prop := cpuLoopsUptoRow.holds Tryd.pinned (OpenSpec.upto cpuLoopsSpec)

/-- 'monocoquelaw15.CpuNil', WHERE WHAT IT READS IS OF BULK AT MOST 1048576: true; the input reads as it did. -/
def cpuNilUptoRow : OpenClaim := { program := "ythmalhakkdjilaadoor", sum := "e3226910c2006d9d6e70550c737dad96d1e5fb159315b804206ba59f1ba5a435", func := "monocoque/monocoquelaw15.CpuNil", spec := "cpuNil", unfollowed := true, recurses := true, named := ["monocoque/isa.operations"], apart := false, laid := [("monocoque/isa.operations", laid_monocoque_isa_operations)], narrowed := true }
def CpuNilUptoSaid : Prop := cpuNilUptoRow.holds Tryd.pinned (OpenSpec.upto cpuNilSpec)

end Rows
end Go.Proofs.YthmalhakkdjilaaDoor
