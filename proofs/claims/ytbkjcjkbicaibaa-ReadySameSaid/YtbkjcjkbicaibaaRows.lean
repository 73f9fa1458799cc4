/-
  No cell of these rows narrows 'for every input' (looked for: loops, veiled, ifaces, maps, wideKeys, modest, calm, conditions, laid).
  DERIVED. THE GIVEN ROWS OF THIS SEAT. 6 by the template 'for every input the law returns true; each argument reads behind the call as it read before'; 0 by the template 'total and deterministic' (their statements: YtbkjcjkbicaibaaTotals.lean).
  GIVEN WITH THE SEED: the statements are not yours to turn. If you find one false, say at which input.
  Laid BY PROGRAM, IN A SANDBOX (cutbox-rows.mjs): the forced cells as the released guide's own fill.sh prints them over the translation b691bea9e1fec37c… (all of the seat's roots in one cut). By AI agents, Wed Nov 11 2026. No macro, syntax, notation, axiom, sorry.
-/
import Derived.Test.YtbkjcjkbicaibaaChecked
import GoSem.Claim
import GoSem.ClaimJoined
import GoSem.ClaimMapViews
import Derived.JoinedTies
import Derived.KernelRfl
namespace Go.Proofs.Ytbkjcjkbicaibaa
/- THE CELL 'sum', in the pinned program and in every row, IS THE sha256 OF THE DUMP (.gsa) THAT YtbkjcjkbicaibaaProg.lean LOADS. Nothing in Lean hashes anything: it is a label: what it is worth is what the hold of that sum in a sandbox is worth. -/
noncomputable def Try.pinned : Pinned := { name := "ytbkjcjkbicaibaa", sum := "b691bea9e1fec37c2d7ca0bcf16d133df41df84ca6254c43777bc7ec049ce826", checked := Try.checked }
namespace Rows
def none {H : Type} : Left H := { results := [], args := [] }

/-- 'monocoquelaw05.ReadyPlays': WHATEVER THE INPUT: true; the input reads as it did. -/
def readyPlaysSpec : ChangeSpec := { name := "readyPlays", fn := fun _ => fun
  | [d1, d2] => { results := [.lit (.bool true)], args := [d1, d2] }
  | _ => none }
def readyPlaysRow : OpenClaim := { program := "ytbkjcjkbicaibaa", sum := "b691bea9e1fec37c2d7ca0bcf16d133df41df84ca6254c43777bc7ec049ce826", func := "monocoque/monocoquelaw05.ReadyPlays", spec := "readyPlays", inPlace := ["slices.overlaps[int]"], apart := false }
def ReadyPlaysSaid : Prop := readyPlaysRow.holds Try.pinned (OpenSpec.ofChange readyPlaysSpec)

/-- ITS FALSE NEIGHBOUR: 'it returns false'. Refute it at one input. -/
def readyPlaysWrong : ChangeSpec := { name := "readyPlays", fn := fun _ => fun
  | [d1, d2] => { results := [.lit (.bool false)], args := [d1, d2] }
  | _ => none }
def ReadyPlaysWrongFalsely : Prop := readyPlaysRow.holds Try.pinned (OpenSpec.ofChange readyPlaysWrong)

/-- 'monocoquelaw05.ReadyFalls': WHATEVER THE INPUT: true; the input reads as it did. -/
def readyFallsSpec : ChangeSpec := { name := "readyFalls", fn := fun _ => fun
  | [d] => { results := [.lit (.bool true)], args := [d] }
  | _ => none }
def readyFallsRow : OpenClaim := { program := "ytbkjcjkbicaibaa", sum := "b691bea9e1fec37c2d7ca0bcf16d133df41df84ca6254c43777bc7ec049ce826", func := "monocoque/monocoquelaw05.ReadyFalls", spec := "readyFalls", inPlace := ["slices.overlaps[int]"], apart := false }
def ReadyFallsSaid : Prop := readyFallsRow.holds Try.pinned (OpenSpec.ofChange readyFallsSpec)

/-- ITS FALSE NEIGHBOUR: 'it returns false'. Refute it at one input. -/
def readyFallsWrong : ChangeSpec := { name := "readyFalls", fn := fun _ => fun
  | [d] => { results := [.lit (.bool false)], args := [d] }
  | _ => none }
def ReadyFallsWrongFalsely : Prop := readyFallsRow.holds Try.pinned (OpenSpec.ofChange readyFallsWrong)

/-- 'monocoquelaw05.ReadyBack': WHATEVER THE INPUT: true; the input reads as it did. -/
def readyBackSpec : ChangeSpec := { name := "readyBack", fn := fun _ => fun
  | [d] => { results := [.lit (.bool true)], args := [d] }
  | _ => none }
def readyBackRow : OpenClaim := { program := "ytbkjcjkbicaibaa", sum := "b691bea9e1fec37c2d7ca0bcf16d133df41df84ca6254c43777bc7ec049ce826", func := "monocoque/monocoquelaw05.ReadyBack", spec := "readyBack", inPlace := ["slices.overlaps[int]"], apart := false }
def ReadyBackSaid : Prop := readyBackRow.holds Try.pinned (OpenSpec.ofChange readyBackSpec)

/-- ITS FALSE NEIGHBOUR: 'it returns false'. Refute it at one input. -/
def readyBackWrong : ChangeSpec := { name := "readyBack", fn := fun _ => fun
  | [d] => { results := [.lit (.bool false)], args := [d] }
  | _ => none }
def ReadyBackWrongFalsely : Prop := readyBackRow.holds Try.pinned (OpenSpec.ofChange readyBackWrong)

/-- 'monocoquelaw05.ReadySame': WHATEVER THE INPUT: true; the input reads as it did. -/
def readySameSpec : ChangeSpec := { name := "readySame", fn := fun _ => fun
  | [d1, d2] => { results := [.lit (.bool true)], args := [d1, d2] }
  | _ => none }
def readySameRow : OpenClaim := { program := "ytbkjcjkbicaibaa", sum := "b691bea9e1fec37c2d7ca0bcf16d133df41df84ca6254c43777bc7ec049ce826", func := "monocoque/monocoquelaw05.ReadySame", spec := "readySame", inPlace := ["slices.overlaps[int]"], apart := false }
def ReadySameSaid : Prop := readySameRow.holds Try.pinned (OpenSpec.ofChange readySameSpec)

/-- ITS FALSE NEIGHBOUR: 'it returns false'. Refute it at one input. -/
def readySameWrong : ChangeSpec := { name := "readySame", fn := fun _ => fun
  | [d1, d2] => { results := [.lit (.bool false)], args := [d1, d2] }
  | _ => none }
def ReadySameWrongFalsely : Prop := readySameRow.holds Try.pinned (OpenSpec.ofChange readySameWrong)

/-- 'monocoquelaw05.ReadyNil': WHATEVER THE INPUT: true; the input reads as it did. -/
def readyNilSpec : ChangeSpec := { name := "readyNil", fn := fun _ => fun
  | [d1, d2] => { results := [.lit (.bool true)], args := [d1, d2] }
  | _ => none }
def readyNilRow : OpenClaim := { program := "ytbkjcjkbicaibaa", sum := "b691bea9e1fec37c2d7ca0bcf16d133df41df84ca6254c43777bc7ec049ce826", func := "monocoque/monocoquelaw05.ReadyNil", spec := "readyNil", inPlace := ["slices.overlaps[int]"], apart := false }
def ReadyNilSaid : Prop := readyNilRow.holds Try.pinned (OpenSpec.ofChange readyNilSpec)

/-- ITS FALSE NEIGHBOUR: 'it returns false'. Refute it at one input. -/
def readyNilWrong : ChangeSpec := { name := "readyNil", fn := fun _ => fun
  | [d1, d2] => { results := [.lit (.bool false)], args := [d1, d2] }
  | _ => none }
def ReadyNilWrongFalsely : Prop := readyNilRow.holds Try.pinned (OpenSpec.ofChange readyNilWrong)

/-- 'monocoquelaw05.ReadyApart': WHATEVER THE INPUT: true; the input reads as it did. -/
def readyApartSpec : ChangeSpec := { name := "readyApart", fn := fun _ => fun
  | [d1, d2] => { results := [.lit (.bool true)], args := [d1, d2] }
  | _ => none }
def readyApartRow : OpenClaim := { program := "ytbkjcjkbicaibaa", sum := "b691bea9e1fec37c2d7ca0bcf16d133df41df84ca6254c43777bc7ec049ce826", func := "monocoque/monocoquelaw05.ReadyApart", spec := "readyApart", inPlace := ["slices.overlaps[int]"], apart := false }
def ReadyApartSaid : Prop := readyApartRow.holds Try.pinned (OpenSpec.ofChange readyApartSpec)

/-- ITS FALSE NEIGHBOUR: 'it returns false'. Refute it at one input. -/
def readyApartWrong : ChangeSpec := { name := "readyApart", fn := fun _ => fun
  | [d1, d2] => { results := [.lit (.bool false)], args := [d1, d2] }
  | _ => none }
def ReadyApartWrongFalsely : Prop := readyApartRow.holds Try.pinned (OpenSpec.ofChange readyApartWrong)

/- THE SECOND FORM. 'bulk': how many values and letters a reading holds, each counted each time it is reached (what is shared counts as often as it is met; a slice's spare places count too). A statement '..UptoSaid' is the law's where the arguments, and the package variables that the reading takes, are together of bulk at most 1048576: NARROWER than '..Said'. Prove '..Said' where nothing that the law and all that it calls make is longer than what came in: it says more and counts as full. Else prove '..UptoSaid'. A law counts once. -/
mutual
def uptoBulk {H : Type} : DataW H → Nat
  | .lit (.string bytes) => bytes.length + 1
  | .lit _ => 1
  | .nil => 1
  | .ptr d => uptoBulk d + 1
  | .slice elems spare => uptoBulkAll elems + uptoBulkAll spare + 1
  | .agg parts => uptoBulkAll parts + 1
  | .iface _ d => uptoBulk d + 1
  | .map entries => uptoBulkEntries entries + 1
  | .held _ => 1
def uptoBulkAll {H : Type} : List (DataW H) → Nat
  | [] => 0
  | d :: r => uptoBulk d + uptoBulkAll r
def uptoBulkEntries {H : Type} : List (Lit × DataW H) → Nat
  | [] => 0
  | x :: r => uptoBulkEntry x + uptoBulkEntries r
def uptoBulkEntry {H : Type} : Lit × DataW H → Nat
  | (.string bytes, d) => bytes.length + uptoBulk d + 1
  | (_, d) => uptoBulk d + 1
 end
def uptoSmall : (H : Type) → List (DataW H) → Bool := fun _ ds => decide (uptoBulkAll ds ≤ 1048576)
def OpenSpec.upto (s : _root_.Go.ChangeSpec) : _root_.Go.OpenSpec := { _root_.Go.OpenSpec.ofChange s with cond := some uptoSmall }

/-- 'monocoquelaw05.ReadyPlays', WHERE WHAT IT READS IS OF BULK AT MOST 1048576: true; the input reads as it did. -/
def readyPlaysUptoRow : OpenClaim := { program := "ytbkjcjkbicaibaa", sum := "b691bea9e1fec37c2d7ca0bcf16d133df41df84ca6254c43777bc7ec049ce826", func := "monocoque/monocoquelaw05.ReadyPlays", spec := "readyPlays", inPlace := ["slices.overlaps[int]"], apart := false, narrowed := true }
def ReadyPlaysUptoSaid : Prop := readyPlaysUptoRow.holds Try.pinned (OpenSpec.upto readyPlaysSpec)

/-- 'monocoquelaw05.ReadyFalls', WHERE WHAT IT READS IS OF BULK AT MOST 1048576: true; the input reads as it did. -/
def readyFallsUptoRow : OpenClaim := { program := "ytbkjcjkbicaibaa", sum := "b691bea9e1fec37c2d7ca0bcf16d133df41df84ca6254c43777bc7ec049ce826", func := "monocoque/monocoquelaw05.ReadyFalls", spec := "readyFalls", inPlace := ["slices.overlaps[int]"], apart := false, narrowed := true }
def ReadyFallsUptoSaid : Prop := readyFallsUptoRow.holds Try.pinned (OpenSpec.upto readyFallsSpec)

/-- 'monocoquelaw05.ReadyBack', WHERE WHAT IT READS IS OF BULK AT MOST 1048576: true; the input reads as it did. -/
def readyBackUptoRow : OpenClaim := { program := "ytbkjcjkbicaibaa", sum := "b691bea9e1fec37c2d7ca0bcf16d133df41df84ca6254c43777bc7ec049ce826", func := "monocoque/monocoquelaw05.ReadyBack", spec := "readyBack", inPlace := ["slices.overlaps[int]"], apart := false, narrowed := true }
def ReadyBackUptoSaid : Prop := readyBackUptoRow.holds Try.pinned (OpenSpec.upto readyBackSpec)

/-- 'monocoquelaw05.ReadySame', WHERE WHAT IT READS IS OF BULK AT MOST 1048576: true; the input reads as it did. -/
def readySameUptoRow : OpenClaim := { program := "ytbkjcjkbicaibaa", sum := "b691bea9e1fec37c2d7ca0bcf16d133df41df84ca6254c43777bc7ec049ce826", func := "monocoque/monocoquelaw05.ReadySame", spec := "readySame", inPlace := ["slices.overlaps[int]"], apart := false, narrowed := true }
def ReadySameUptoSaid : Prop := readySameUptoRow.holds Try.pinned (OpenSpec.upto readySameSpec)

/-- 'monocoquelaw05.ReadyNil', WHERE WHAT IT READS IS OF BULK AT MOST 1048576: true; the input reads as it did. -/
def readyNilUptoRow : OpenClaim := { program := "ytbkjcjkbicaibaa", sum := "b691bea9e1fec37c2d7ca0bcf16d133df41df84ca6254c43777bc7ec049ce826", func := "monocoque/monocoquelaw05.ReadyNil", spec := "readyNil", inPlace := ["slices.overlaps[int]"], apart := false, narrowed := true }
def ReadyNilUptoSaid : Prop := readyNilUptoRow.holds Try.pinned (OpenSpec.upto readyNilSpec)

/-- 'monocoquelaw05.ReadyApart', WHERE WHAT IT READS IS OF BULK AT MOST 1048576: true; the input reads as it did. -/
def readyApartUptoRow : OpenClaim := { program := "ytbkjcjkbicaibaa", sum := "b691bea9e1fec37c2d7ca0bcf16d133df41df84ca6254c43777bc7ec049ce826", func := "monocoque/monocoquelaw05.ReadyApart", spec := "readyApart", inPlace := ["slices.overlaps[int]"], apart := false, narrowed := true }
def ReadyApartUptoSaid : Prop := readyApartUptoRow.holds Try.pinned (OpenSpec.upto readyApartSpec)

end Rows
end Go.Proofs.Ytbkjcjkbicaibaa
