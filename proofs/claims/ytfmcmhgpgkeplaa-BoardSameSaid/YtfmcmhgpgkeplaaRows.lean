/-
  No cell of these rows narrows 'for every input' (looked for: loops, veiled, ifaces, maps, wideKeys, modest, calm, conditions, laid).
  DERIVED. THE GIVEN ROWS OF THIS SEAT. 6 by the template 'for every input the law returns true; each argument reads behind the call as it read before'; 0 by the template 'total and deterministic' (their statements: YtfmcmhgpgkeplaaTotals.lean).
  GIVEN WITH THE SEED: the statements are not yours to turn. If you find one false, say at which input.
  Laid BY PROGRAM, IN A SANDBOX (cutbox-rows.mjs): the forced cells as the released guide's own fill.sh prints them over the translation f280abf6849a2037… (all of the seat's roots in one cut). By AI agents, Wed Nov 11 2026. No macro, syntax, notation, axiom, sorry.
-/
import Derived.Test.YtfmcmhgpgkeplaaChecked
import GoSem.Claim
import GoSem.ClaimJoined
import GoSem.ClaimMapViews
import Derived.JoinedTies
import Derived.KernelRfl
namespace Go.Proofs.Ytfmcmhgpgkeplaa
/- THE CELL 'sum', in the pinned program and in every row, IS THE sha256 OF THE DUMP (.gsa) THAT YtfmcmhgpgkeplaaProg.lean LOADS. Nothing in Lean hashes anything: it is a label: what it is worth is what the hold of that sum in a sandbox is worth. -/
noncomputable def Try.pinned : Pinned := { name := "ytfmcmhgpgkeplaa", sum := "f280abf6849a2037b910df1f1d91464f924429a74f027954ea5163e15df9fb0b", checked := Try.checked }
namespace Rows
def none {H : Type} : Left H := { results := [], args := [] }

/-- 'monocoquelaw25.BoardPlays': WHATEVER THE INPUT: true; the input reads as it did. -/
def boardPlaysSpec : ChangeSpec := { name := "boardPlays", fn := fun _ => fun
  | [d1, d2] => { results := [.lit (.bool true)], args := [d1, d2] }
  | _ => none }
def boardPlaysRow : OpenClaim := { program := "ytfmcmhgpgkeplaa", sum := "f280abf6849a2037b910df1f1d91464f924429a74f027954ea5163e15df9fb0b", func := "monocoque/monocoquelaw25.BoardPlays", spec := "boardPlays", apart := false }
def BoardPlaysSaid : Prop := boardPlaysRow.holds Try.pinned (OpenSpec.ofChange boardPlaysSpec)

/-- ITS FALSE NEIGHBOUR: 'it returns false'. Refute it at one input. -/
def boardPlaysWrong : ChangeSpec := { name := "boardPlays", fn := fun _ => fun
  | [d1, d2] => { results := [.lit (.bool false)], args := [d1, d2] }
  | _ => none }
def BoardPlaysWrongFalsely : Prop := boardPlaysRow.holds Try.pinned (OpenSpec.ofChange boardPlaysWrong)

/-- 'monocoquelaw25.BoardOnce': WHATEVER THE INPUT: true; the input reads as it did. -/
def boardOnceSpec : ChangeSpec := { name := "boardOnce", fn := fun _ => fun
  | [d1, d2, d3] => { results := [.lit (.bool true)], args := [d1, d2, d3] }
  | _ => none }
def boardOnceRow : OpenClaim := { program := "ytfmcmhgpgkeplaa", sum := "f280abf6849a2037b910df1f1d91464f924429a74f027954ea5163e15df9fb0b", func := "monocoque/monocoquelaw25.BoardOnce", spec := "boardOnce", apart := false }
def BoardOnceSaid : Prop := boardOnceRow.holds Try.pinned (OpenSpec.ofChange boardOnceSpec)

/-- ITS FALSE NEIGHBOUR: 'it returns false'. Refute it at one input. -/
def boardOnceWrong : ChangeSpec := { name := "boardOnce", fn := fun _ => fun
  | [d1, d2, d3] => { results := [.lit (.bool false)], args := [d1, d2, d3] }
  | _ => none }
def BoardOnceWrongFalsely : Prop := boardOnceRow.holds Try.pinned (OpenSpec.ofChange boardOnceWrong)

/-- 'monocoquelaw25.BoardKeeps': WHATEVER THE INPUT: true; the input reads as it did. -/
def boardKeepsSpec : ChangeSpec := { name := "boardKeeps", fn := fun _ => fun
  | [d] => { results := [.lit (.bool true)], args := [d] }
  | _ => none }
def boardKeepsRow : OpenClaim := { program := "ytfmcmhgpgkeplaa", sum := "f280abf6849a2037b910df1f1d91464f924429a74f027954ea5163e15df9fb0b", func := "monocoque/monocoquelaw25.BoardKeeps", spec := "boardKeeps", apart := false }
def BoardKeepsSaid : Prop := boardKeepsRow.holds Try.pinned (OpenSpec.ofChange boardKeepsSpec)

/-- ITS FALSE NEIGHBOUR: 'it returns false'. Refute it at one input. -/
def boardKeepsWrong : ChangeSpec := { name := "boardKeeps", fn := fun _ => fun
  | [d] => { results := [.lit (.bool false)], args := [d] }
  | _ => none }
def BoardKeepsWrongFalsely : Prop := boardKeepsRow.holds Try.pinned (OpenSpec.ofChange boardKeepsWrong)

/-- 'monocoquelaw25.BoardSame': WHATEVER THE INPUT: true; the input reads as it did. -/
def boardSameSpec : ChangeSpec := { name := "boardSame", fn := fun _ => fun
  | [d1, d2, d3] => { results := [.lit (.bool true)], args := [d1, d2, d3] }
  | _ => none }
def boardSameRow : OpenClaim := { program := "ytfmcmhgpgkeplaa", sum := "f280abf6849a2037b910df1f1d91464f924429a74f027954ea5163e15df9fb0b", func := "monocoque/monocoquelaw25.BoardSame", spec := "boardSame", unfollowed := true, recurses := true, apart := false }
def BoardSameSaid : Prop := boardSameRow.holds Try.pinned (OpenSpec.ofChange boardSameSpec)

/-- ITS FALSE NEIGHBOUR: 'it returns false'. Refute it at one input. -/
def boardSameWrong : ChangeSpec := { name := "boardSame", fn := fun _ => fun
  | [d1, d2, d3] => { results := [.lit (.bool false)], args := [d1, d2, d3] }
  | _ => none }
def BoardSameWrongFalsely : Prop := boardSameRow.holds Try.pinned (OpenSpec.ofChange boardSameWrong)

/-- 'monocoquelaw25.BoardLast': WHATEVER THE INPUT: true; the input reads as it did. -/
def boardLastSpec : ChangeSpec := { name := "boardLast", fn := fun _ => fun
  | [d1, d2] => { results := [.lit (.bool true)], args := [d1, d2] }
  | _ => none }
def boardLastRow : OpenClaim := { program := "ytfmcmhgpgkeplaa", sum := "f280abf6849a2037b910df1f1d91464f924429a74f027954ea5163e15df9fb0b", func := "monocoque/monocoquelaw25.BoardLast", spec := "boardLast", apart := false }
def BoardLastSaid : Prop := boardLastRow.holds Try.pinned (OpenSpec.ofChange boardLastSpec)

/-- ITS FALSE NEIGHBOUR: 'it returns false'. Refute it at one input. -/
def boardLastWrong : ChangeSpec := { name := "boardLast", fn := fun _ => fun
  | [d1, d2] => { results := [.lit (.bool false)], args := [d1, d2] }
  | _ => none }
def BoardLastWrongFalsely : Prop := boardLastRow.holds Try.pinned (OpenSpec.ofChange boardLastWrong)

/-- 'monocoquelaw25.BoardTurns': WHATEVER THE INPUT: true; the input reads as it did. -/
def boardTurnsSpec : ChangeSpec := { name := "boardTurns", fn := fun _ => fun
  | [d] => { results := [.lit (.bool true)], args := [d] }
  | _ => none }
def boardTurnsRow : OpenClaim := { program := "ytfmcmhgpgkeplaa", sum := "f280abf6849a2037b910df1f1d91464f924429a74f027954ea5163e15df9fb0b", func := "monocoque/monocoquelaw25.BoardTurns", spec := "boardTurns", apart := false }
def BoardTurnsSaid : Prop := boardTurnsRow.holds Try.pinned (OpenSpec.ofChange boardTurnsSpec)

/-- ITS FALSE NEIGHBOUR: 'it returns false'. Refute it at one input. -/
def boardTurnsWrong : ChangeSpec := { name := "boardTurns", fn := fun _ => fun
  | [d] => { results := [.lit (.bool false)], args := [d] }
  | _ => none }
def BoardTurnsWrongFalsely : Prop := boardTurnsRow.holds Try.pinned (OpenSpec.ofChange boardTurnsWrong)

/- THE SECOND FORM. 'bulk': how many values and letters a reading holds, each counted each time it is reached (what is shared counts as often as it is met; a slice's spare places count too). A statement '..UptoSaid' is the law's where the arguments, and the package variables that the reading takes, are together of bulk at most 1048576: NARROWER than '..Said'. Prove '..Said' where nothing that the law and all that it calls make is longer than what came in: it says more and counts as full. Else prove '..UptoSaid'. A law counts once. -/
mutual
def uptoBulk {H : Type} : DataW H → Nat
  | .lit (.string bytes) => bytes.length + 1
  | .lit _ => 1
  | .nil => 1
  | .ptr d => uptoBulk d + 1
  | .slice elems spare => uptoBulkAll elems + uptoBulkAll spare + 1
  | .agg parts => uptoBulkAll parts + 1
  | .iface _ d => uptoBulk d + 1
  | .map entries => uptoBulkEntries entries + 1
  | .held _ => 1
def uptoBulkAll {H : Type} : List (DataW H) → Nat
  | [] => 0
  | d :: r => uptoBulk d + uptoBulkAll r
def uptoBulkEntries {H : Type} : List (Lit × DataW H) → Nat
  | [] => 0
  | x :: r => uptoBulkEntry x + uptoBulkEntries r
def uptoBulkEntry {H : Type} : Lit × DataW H → Nat
  | (.string bytes, d) => bytes.length + uptoBulk d + 1
  | (_, d) => uptoBulk d + 1
 end
def uptoSmall : (H : Type) → List (DataW H) → Bool := fun _ ds => decide (uptoBulkAll ds ≤ 1048576)
def OpenSpec.upto (s : _root_.Go.ChangeSpec) : _root_.Go.OpenSpec := { _root_.Go.OpenSpec.ofChange s with cond := some uptoSmall }

/-- 'monocoquelaw25.BoardPlays', WHERE WHAT IT READS IS OF BULK AT MOST 1048576: true; the input reads as it did. -/
def boardPlaysUptoRow : OpenClaim := { program := "ytfmcmhgpgkeplaa", sum := "f280abf6849a2037b910df1f1d91464f924429a74f027954ea5163e15df9fb0b", func := "monocoque/monocoquelaw25.BoardPlays", spec := "boardPlays", apart := false, narrowed := true }
def BoardPlaysUptoSaid : Prop := boardPlaysUptoRow.holds Try.pinned (OpenSpec.upto boardPlaysSpec)

/-- 'monocoquelaw25.BoardOnce', WHERE WHAT IT READS IS OF BULK AT MOST 1048576: true; the input reads as it did. -/
def boardOnceUptoRow : OpenClaim := { program := "ytfmcmhgpgkeplaa", sum := "f280abf6849a2037b910df1f1d91464f924429a74f027954ea5163e15df9fb0b", func := "monocoque/monocoquelaw25.BoardOnce", spec := "boardOnce", apart := false, narrowed := true }
def BoardOnceUptoSaid : Prop := boardOnceUptoRow.holds Try.pinned (OpenSpec.upto boardOnceSpec)

/-- 'monocoquelaw25.BoardKeeps', WHERE WHAT IT READS IS OF BULK AT MOST 1048576: true; the input reads as it did. -/
def boardKeepsUptoRow : OpenClaim := { program := "ytfmcmhgpgkeplaa", sum := "f280abf6849a2037b910df1f1d91464f924429a74f027954ea5163e15df9fb0b", func := "monocoque/monocoquelaw25.BoardKeeps", spec := "boardKeeps", apart := false, narrowed := true }
def BoardKeepsUptoSaid : Prop := boardKeepsUptoRow.holds Try.pinned (OpenSpec.upto boardKeepsSpec)

/-- 'monocoquelaw25.BoardSame', WHERE WHAT IT READS IS OF BULK AT MOST 1048576: true; the input reads as it did. -/
def boardSameUptoRow : OpenClaim := { program := "ytfmcmhgpgkeplaa", sum := "f280abf6849a2037b910df1f1d91464f924429a74f027954ea5163e15df9fb0b", func := "monocoque/monocoquelaw25.BoardSame", spec := "boardSame", unfollowed := true, recurses := true, apart := false, narrowed := true }
def BoardSameUptoSaid : Prop := boardSameUptoRow.holds Try.pinned (OpenSpec.upto boardSameSpec)

/-- 'monocoquelaw25.BoardLast', WHERE WHAT IT READS IS OF BULK AT MOST 1048576: true; the input reads as it did. -/
def boardLastUptoRow : OpenClaim := { program := "ytfmcmhgpgkeplaa", sum := "f280abf6849a2037b910df1f1d91464f924429a74f027954ea5163e15df9fb0b", func := "monocoque/monocoquelaw25.BoardLast", spec := "boardLast", apart := false, narrowed := true }
def BoardLastUptoSaid : Prop := boardLastUptoRow.holds Try.pinned (OpenSpec.upto boardLastSpec)

/-- 'monocoquelaw25.BoardTurns', WHERE WHAT IT READS IS OF BULK AT MOST 1048576: true; the input reads as it did. -/
def boardTurnsUptoRow : OpenClaim := { program := "ytfmcmhgpgkeplaa", sum := "f280abf6849a2037b910df1f1d91464f924429a74f027954ea5163e15df9fb0b", func := "monocoque/monocoquelaw25.BoardTurns", spec := "boardTurns", apart := false, narrowed := true }
def BoardTurnsUptoSaid : Prop := boardTurnsUptoRow.holds Try.pinned (OpenSpec.upto boardTurnsSpec)

end Rows
end Go.Proofs.Ytfmcmhgpgkeplaa
