/-
  No cell of these rows narrows 'for every input' (looked for: loops, veiled, ifaces, maps, wideKeys, modest, calm, conditions, laid).
  DERIVED. THE GIVEN ROWS OF THIS SEAT. 6 by the template 'for every input the law returns true; each argument reads behind the call as it read before'; 0 by the template 'total and deterministic' (their statements: YtobnhjkcbhajbaaTotals.lean).
  GIVEN WITH THE SEED: the statements are not yours to turn. If you find one false, say at which input.
  Laid BY PROGRAM, IN A SANDBOX (cutbox-rows.mjs): the forced cells as the released guide's own fill.sh prints them over the translation 71dde8b21d6a102b… (all of the seat's roots in one cut). By AI agents, Wed Nov 11 2026. No macro, syntax, notation, axiom, sorry.
-/
import Derived.Test.YtobnhjkcbhajbaaChecked
import GoSem.Claim
import GoSem.ClaimJoined
import GoSem.ClaimMapViews
import Derived.JoinedTies
import Derived.KernelRfl
namespace Go.Proofs.Ytobnhjkcbhajbaa
/- THE CELL 'sum', in the pinned program and in every row, IS THE sha256 OF THE DUMP (.gsa) THAT YtobnhjkcbhajbaaProg.lean LOADS. Nothing in Lean hashes anything: it is a label: what it is worth is what the hold of that sum in a sandbox is worth. -/
noncomputable def Try.pinned : Pinned := { name := "ytobnhjkcbhajbaa", sum := "71dde8b21d6a102b24fd35d237a7b6c4e8f9bd5fa9559e930a27f789ac2f3378", checked := Try.checked }
namespace Rows
def none {H : Type} : Left H := { results := [], args := [] }

/-- 'monocoquelaw22.SemaPlays': WHATEVER THE INPUT: true; the input reads as it did. -/
def semaPlaysSpec : ChangeSpec := { name := "semaPlays", fn := fun _ => fun
  | [d1, d2, d3, d4] => { results := [.lit (.bool true)], args := [d1, d2, d3, d4] }
  | _ => none }
def semaPlaysRow : OpenClaim := { program := "ytobnhjkcbhajbaa", sum := "71dde8b21d6a102b24fd35d237a7b6c4e8f9bd5fa9559e930a27f789ac2f3378", func := "monocoque/monocoquelaw22.SemaPlays", spec := "semaPlays", inPlace := ["slices.overlaps[monocoque/sema.waiter]"], unfollowed := true, recurses := true, apart := false }
def SemaPlaysSaid : Prop := semaPlaysRow.holds Try.pinned (OpenSpec.ofChange semaPlaysSpec)

/-- ITS FALSE NEIGHBOUR: 'it returns false'. Refute it at one input. -/
def semaPlaysWrong : ChangeSpec := { name := "semaPlays", fn := fun _ => fun
  | [d1, d2, d3, d4] => { results := [.lit (.bool false)], args := [d1, d2, d3, d4] }
  | _ => none }
def SemaPlaysWrongFalsely : Prop := semaPlaysRow.holds Try.pinned (OpenSpec.ofChange semaPlaysWrong)

/-- 'monocoquelaw22.SemaSums': WHATEVER THE INPUT: true; the input reads as it did. -/
def semaSumsSpec : ChangeSpec := { name := "semaSums", fn := fun _ => fun
  | [d1, d2, d3, d4] => { results := [.lit (.bool true)], args := [d1, d2, d3, d4] }
  | _ => none }
def semaSumsRow : OpenClaim := { program := "ytobnhjkcbhajbaa", sum := "71dde8b21d6a102b24fd35d237a7b6c4e8f9bd5fa9559e930a27f789ac2f3378", func := "monocoque/monocoquelaw22.SemaSums", spec := "semaSums", inPlace := ["slices.overlaps[monocoque/sema.waiter]"], unfollowed := true, recurses := true, apart := false }
def SemaSumsSaid : Prop := semaSumsRow.holds Try.pinned (OpenSpec.ofChange semaSumsSpec)

/-- ITS FALSE NEIGHBOUR: 'it returns false'. Refute it at one input. -/
def semaSumsWrong : ChangeSpec := { name := "semaSums", fn := fun _ => fun
  | [d1, d2, d3, d4] => { results := [.lit (.bool false)], args := [d1, d2, d3, d4] }
  | _ => none }
def SemaSumsWrongFalsely : Prop := semaSumsRow.holds Try.pinned (OpenSpec.ofChange semaSumsWrong)

/-- 'monocoquelaw22.SemaOrder': WHATEVER THE INPUT: true; the input reads as it did. -/
def semaOrderSpec : ChangeSpec := { name := "semaOrder", fn := fun _ => fun
  | [d1, d2] => { results := [.lit (.bool true)], args := [d1, d2] }
  | _ => none }
def semaOrderRow : OpenClaim := { program := "ytobnhjkcbhajbaa", sum := "71dde8b21d6a102b24fd35d237a7b6c4e8f9bd5fa9559e930a27f789ac2f3378", func := "monocoque/monocoquelaw22.SemaOrder", spec := "semaOrder", inPlace := ["slices.overlaps[monocoque/sema.waiter]"], unfollowed := true, recurses := true, apart := false }
def SemaOrderSaid : Prop := semaOrderRow.holds Try.pinned (OpenSpec.ofChange semaOrderSpec)

/-- ITS FALSE NEIGHBOUR: 'it returns false'. Refute it at one input. -/
def semaOrderWrong : ChangeSpec := { name := "semaOrder", fn := fun _ => fun
  | [d1, d2] => { results := [.lit (.bool false)], args := [d1, d2] }
  | _ => none }
def SemaOrderWrongFalsely : Prop := semaOrderRow.holds Try.pinned (OpenSpec.ofChange semaOrderWrong)

/-- 'monocoquelaw22.SemaSame': WHATEVER THE INPUT: true; the input reads as it did. -/
def semaSameSpec : ChangeSpec := { name := "semaSame", fn := fun _ => fun
  | [d1, d2, d3, d4, d5] => { results := [.lit (.bool true)], args := [d1, d2, d3, d4, d5] }
  | _ => none }
def semaSameRow : OpenClaim := { program := "ytobnhjkcbhajbaa", sum := "71dde8b21d6a102b24fd35d237a7b6c4e8f9bd5fa9559e930a27f789ac2f3378", func := "monocoque/monocoquelaw22.SemaSame", spec := "semaSame", inPlace := ["slices.overlaps[monocoque/sema.waiter]"], unfollowed := true, recurses := true, apart := false }
def SemaSameSaid : Prop := semaSameRow.holds Try.pinned (OpenSpec.ofChange semaSameSpec)

/-- ITS FALSE NEIGHBOUR: 'it returns false'. Refute it at one input. -/
def semaSameWrong : ChangeSpec := { name := "semaSame", fn := fun _ => fun
  | [d1, d2, d3, d4, d5] => { results := [.lit (.bool false)], args := [d1, d2, d3, d4, d5] }
  | _ => none }
def SemaSameWrongFalsely : Prop := semaSameRow.holds Try.pinned (OpenSpec.ofChange semaSameWrong)

/-- 'monocoquelaw22.SemaTurns': WHATEVER THE INPUT: true; the input reads as it did. -/
def semaTurnsSpec : ChangeSpec := { name := "semaTurns", fn := fun _ => fun
  | [d1, d2, d3] => { results := [.lit (.bool true)], args := [d1, d2, d3] }
  | _ => none }
def semaTurnsRow : OpenClaim := { program := "ytobnhjkcbhajbaa", sum := "71dde8b21d6a102b24fd35d237a7b6c4e8f9bd5fa9559e930a27f789ac2f3378", func := "monocoque/monocoquelaw22.SemaTurns", spec := "semaTurns", inPlace := ["slices.overlaps[monocoque/sema.waiter]"], unfollowed := true, recurses := true, apart := false }
def SemaTurnsSaid : Prop := semaTurnsRow.holds Try.pinned (OpenSpec.ofChange semaTurnsSpec)

/-- ITS FALSE NEIGHBOUR: 'it returns false'. Refute it at one input. -/
def semaTurnsWrong : ChangeSpec := { name := "semaTurns", fn := fun _ => fun
  | [d1, d2, d3] => { results := [.lit (.bool false)], args := [d1, d2, d3] }
  | _ => none }
def SemaTurnsWrongFalsely : Prop := semaTurnsRow.holds Try.pinned (OpenSpec.ofChange semaTurnsWrong)

/-- 'monocoquelaw22.SemaDrops': WHATEVER THE INPUT: true; the input reads as it did. -/
def semaDropsSpec : ChangeSpec := { name := "semaDrops", fn := fun _ => fun
  | [d1, d2, d3] => { results := [.lit (.bool true)], args := [d1, d2, d3] }
  | _ => none }
def semaDropsRow : OpenClaim := { program := "ytobnhjkcbhajbaa", sum := "71dde8b21d6a102b24fd35d237a7b6c4e8f9bd5fa9559e930a27f789ac2f3378", func := "monocoque/monocoquelaw22.SemaDrops", spec := "semaDrops", inPlace := ["slices.overlaps[monocoque/sema.waiter]"], unfollowed := true, recurses := true, apart := false }
def SemaDropsSaid : Prop := semaDropsRow.holds Try.pinned (OpenSpec.ofChange semaDropsSpec)

/-- ITS FALSE NEIGHBOUR: 'it returns false'. Refute it at one input. -/
def semaDropsWrong : ChangeSpec := { name := "semaDrops", fn := fun _ => fun
  | [d1, d2, d3] => { results := [.lit (.bool false)], args := [d1, d2, d3] }
  | _ => none }
def SemaDropsWrongFalsely : Prop := semaDropsRow.holds Try.pinned (OpenSpec.ofChange semaDropsWrong)

/- THE SECOND FORM. 'bulk': how many values and letters a reading holds, each counted each time it is reached (what is shared counts as often as it is met; a slice's spare places count too). A statement '..UptoSaid' is the law's where the arguments, and the package variables that the reading takes, are together of bulk at most 1048576: NARROWER than '..Said'. Prove '..Said' where nothing that the law and all that it calls make is longer than what came in: it says more and counts as full. Else prove '..UptoSaid'. A law counts once. -/
mutual
def uptoBulk {H : Type} : DataW H → Nat
  | .lit (.string bytes) => bytes.length + 1
  | .lit _ => 1
  | .nil => 1
  | .ptr d => uptoBulk d + 1
  | .slice elems spare => uptoBulkAll elems + uptoBulkAll spare + 1
  | .agg parts => uptoBulkAll parts + 1
  | .iface _ d => uptoBulk d + 1
  | .map entries => uptoBulkEntries entries + 1
  | .held _ => 1
def uptoBulkAll {H : Type} : List (DataW H) → Nat
  | [] => 0
  | d :: r => uptoBulk d + uptoBulkAll r
def uptoBulkEntries {H : Type} : List (Lit × DataW H) → Nat
  | [] => 0
  | x :: r => uptoBulkEntry x + uptoBulkEntries r
def uptoBulkEntry {H : Type} : Lit × DataW H → Nat
  | (.string bytes, d) => bytes.length + uptoBulk d + 1
  | (_, d) => uptoBulk d + 1
 end
def uptoSmall : (H : Type) → List (DataW H) → Bool := fun _ ds => decide (uptoBulkAll ds ≤ 1048576)
def OpenSpec.upto (s : _root_.Go.ChangeSpec) : _root_.Go.OpenSpec := { _root_.Go.OpenSpec.ofChange s with cond := some uptoSmall }

/-- 'monocoquelaw22.SemaPlays', WHERE WHAT IT READS IS OF BULK AT MOST 1048576: true; the input reads as it did. -/
def semaPlaysUptoRow : OpenClaim := { program := "ytobnhjkcbhajbaa", sum := "71dde8b21d6a102b24fd35d237a7b6c4e8f9bd5fa9559e930a27f789ac2f3378", func := "monocoque/monocoquelaw22.SemaPlays", spec := "semaPlays", inPlace := ["slices.overlaps[monocoque/sema.waiter]"], unfollowed := true, recurses := true, apart := false, narrowed := true }
def SemaPlaysUptoSaid : Prop := semaPlaysUptoRow.holds Try.pinned (OpenSpec.upto semaPlaysSpec)

/-- 'monocoquelaw22.SemaSums', WHERE WHAT IT READS IS OF BULK AT MOST 1048576: true; the input reads as it did. -/
def semaSumsUptoRow : OpenClaim := { program := "ytobnhjkcbhajbaa", sum := "71dde8b21d6a102b24fd35d237a7b6c4e8f9bd5fa9559e930a27f789ac2f3378", func := "monocoque/monocoquelaw22.SemaSums", spec := "semaSums", inPlace := ["slices.overlaps[monocoque/sema.waiter]"], unfollowed := true, recurses := true, apart := false, narrowed := true }
def SemaSumsUptoSaid : Prop := semaSumsUptoRow.holds Try.pinned (OpenSpec.upto semaSumsSpec)

/-- 'monocoquelaw22.SemaOrder', WHERE WHAT IT READS IS OF BULK AT MOST 1048576: true; the input reads as it did. -/
def semaOrderUptoRow : OpenClaim := { program := "ytobnhjkcbhajbaa", sum := "71dde8b21d6a102b24fd35d237a7b6c4e8f9bd5fa9559e930a27f789ac2f3378", func := "monocoque/monocoquelaw22.SemaOrder", spec := "semaOrder", inPlace := ["slices.overlaps[monocoque/sema.waiter]"], unfollowed := true, recurses := true, apart := false, narrowed := true }
def SemaOrderUptoSaid : Prop := semaOrderUptoRow.holds Try.pinned (OpenSpec.upto semaOrderSpec)

/-- 'monocoquelaw22.SemaSame', WHERE WHAT IT READS IS OF BULK AT MOST 1048576: true; the input reads as it did. -/
def semaSameUptoRow : OpenClaim := { program := "ytobnhjkcbhajbaa", sum := "71dde8b21d6a102b24fd35d237a7b6c4e8f9bd5fa9559e930a27f789ac2f3378", func := "monocoque/monocoquelaw22.SemaSame", spec := "semaSame", inPlace := ["slices.overlaps[monocoque/sema.waiter]"], unfollowed := true, recurses := true, apart := false, narrowed := true }
def SemaSameUptoSaid : Prop := semaSameUptoRow.holds Try.pinned (OpenSpec.upto semaSameSpec)

/-- 'monocoquelaw22.SemaTurns', WHERE WHAT IT READS IS OF BULK AT MOST 1048576: true; the input reads as it did. -/
def semaTurnsUptoRow : OpenClaim := { program := "ytobnhjkcbhajbaa", sum := "71dde8b21d6a102b24fd35d237a7b6c4e8f9bd5fa9559e930a27f789ac2f3378", func := "monocoque/monocoquelaw22.SemaTurns", spec := "semaTurns", inPlace := ["slices.overlaps[monocoque/sema.waiter]"], unfollowed := true, recurses := true, apart := false, narrowed := true }
def SemaTurnsUptoSaid : Prop := semaTurnsUptoRow.holds Try.pinned (OpenSpec.upto semaTurnsSpec)

/-- 'monocoquelaw22.SemaDrops', WHERE WHAT IT READS IS OF BULK AT MOST 1048576: true; the input reads as it did. -/
def semaDropsUptoRow : OpenClaim := { program := "ytobnhjkcbhajbaa", sum := "71dde8b21d6a102b24fd35d237a7b6c4e8f9bd5fa9559e930a27f789ac2f3378", func := "monocoque/monocoquelaw22.SemaDrops", spec := "semaDrops", inPlace := ["slices.overlaps[monocoque/sema.waiter]"], unfollowed := true, recurses := true, apart := false, narrowed := true }
def SemaDropsUptoSaid : Prop := semaDropsUptoRow.holds Try.pinned (OpenSpec.upto semaDropsSpec)

end Rows
end Go.Proofs.Ytobnhjkcbhajbaa
