/-
  No cell of these rows narrows 'for every input' (looked for: loops, veiled, ifaces, maps, wideKeys, modest, calm, conditions, laid).
  DERIVED. THE GIVEN ROWS OF THIS SEAT. 7 by the template 'for every input the law returns true; each argument reads behind the call as it read before'; 0 by the template 'total and deterministic' (their statements: YthcoldehpaambaaTotals.lean).
  GIVEN WITH THE SEED: the statements are not yours to turn. If you find one false, say at which input.
  Laid BY PROGRAM, IN A SANDBOX (cutbox-rows.mjs): the forced cells as the released guide's own fill.sh prints them over the translation ed4c115f967b2743… (all of the seat's roots in one cut). By AI agents, Wed Nov 11 2026. No macro, syntax, notation, axiom, sorry.
-/
import Derived.Test.YthcoldehpaambaaChecked
import GoSem.Claim
import GoSem.ClaimJoined
import GoSem.ClaimMapViews
import Derived.JoinedTies
import Derived.KernelRfl
namespace Go.Proofs.Ythcoldehpaambaa
/- THE CELL 'sum', in the pinned program and in every row, IS THE sha256 OF THE DUMP (.gsa) THAT YthcoldehpaambaaProg.lean LOADS. Nothing in Lean hashes anything: it is a label: what it is worth is what the hold of that sum in a sandbox is worth. -/
noncomputable def Try.pinned : Pinned := { name := "ythcoldehpaambaa", sum := "ed4c115f967b2743137e544920ae4cc354f1b263d9d1db9120096bd6f56031df", checked := Try.checked }
namespace Rows
def none {H : Type} : Left H := { results := [], args := [] }

/-- 'monocoquelaw01.SpanTells': WHATEVER THE INPUT: true; the input reads as it did. -/
def spanTellsSpec : ChangeSpec := { name := "spanTells", fn := fun _ => fun
  | [d1, d2, d3] => { results := [.lit (.bool true)], args := [d1, d2, d3] }
  | _ => none }
def spanTellsRow : OpenClaim := { program := "ythcoldehpaambaa", sum := "ed4c115f967b2743137e544920ae4cc354f1b263d9d1db9120096bd6f56031df", func := "monocoque/monocoquelaw01.SpanTells", spec := "spanTells", apart := false }
def SpanTellsSaid : Prop := spanTellsRow.holds Try.pinned (OpenSpec.ofChange spanTellsSpec)

/-- ITS FALSE NEIGHBOUR: 'it returns false'. Refute it at one input. -/
def spanTellsWrong : ChangeSpec := { name := "spanTells", fn := fun _ => fun
  | [d1, d2, d3] => { results := [.lit (.bool false)], args := [d1, d2, d3] }
  | _ => none }
def SpanTellsWrongFalsely : Prop := spanTellsRow.holds Try.pinned (OpenSpec.ofChange spanTellsWrong)

/-- 'monocoquelaw01.SpanAnds': WHATEVER THE INPUT: true; the input reads as it did. -/
def spanAndsSpec : ChangeSpec := { name := "spanAnds", fn := fun _ => fun
  | [d1, d2, d3] => { results := [.lit (.bool true)], args := [d1, d2, d3] }
  | _ => none }
def spanAndsRow : OpenClaim := { program := "ythcoldehpaambaa", sum := "ed4c115f967b2743137e544920ae4cc354f1b263d9d1db9120096bd6f56031df", func := "monocoque/monocoquelaw01.SpanAnds", spec := "spanAnds", apart := false }
def SpanAndsSaid : Prop := spanAndsRow.holds Try.pinned (OpenSpec.ofChange spanAndsSpec)

/-- ITS FALSE NEIGHBOUR: 'it returns false'. Refute it at one input. -/
def spanAndsWrong : ChangeSpec := { name := "spanAnds", fn := fun _ => fun
  | [d1, d2, d3] => { results := [.lit (.bool false)], args := [d1, d2, d3] }
  | _ => none }
def SpanAndsWrongFalsely : Prop := spanAndsRow.holds Try.pinned (OpenSpec.ofChange spanAndsWrong)

/-- 'monocoquelaw01.SpanDivides': WHATEVER THE INPUT: true; the input reads as it did. -/
def spanDividesSpec : ChangeSpec := { name := "spanDivides", fn := fun _ => fun
  | [d] => { results := [.lit (.bool true)], args := [d] }
  | _ => none }
def spanDividesRow : OpenClaim := { program := "ythcoldehpaambaa", sum := "ed4c115f967b2743137e544920ae4cc354f1b263d9d1db9120096bd6f56031df", func := "monocoque/monocoquelaw01.SpanDivides", spec := "spanDivides", apart := false }
def SpanDividesSaid : Prop := spanDividesRow.holds Try.pinned (OpenSpec.ofChange spanDividesSpec)

/-- ITS FALSE NEIGHBOUR: 'it returns false'. Refute it at one input. -/
def spanDividesWrong : ChangeSpec := { name := "spanDivides", fn := fun _ => fun
  | [d] => { results := [.lit (.bool false)], args := [d] }
  | _ => none }
def SpanDividesWrongFalsely : Prop := spanDividesRow.holds Try.pinned (OpenSpec.ofChange spanDividesWrong)

/-- 'monocoquelaw01.SpanShares': WHATEVER THE INPUT: true; the input reads as it did. -/
def spanSharesSpec : ChangeSpec := { name := "spanShares", fn := fun _ => fun
  | [d1, d2] => { results := [.lit (.bool true)], args := [d1, d2] }
  | _ => none }
def spanSharesRow : OpenClaim := { program := "ythcoldehpaambaa", sum := "ed4c115f967b2743137e544920ae4cc354f1b263d9d1db9120096bd6f56031df", func := "monocoque/monocoquelaw01.SpanShares", spec := "spanShares", apart := false }
def SpanSharesSaid : Prop := spanSharesRow.holds Try.pinned (OpenSpec.ofChange spanSharesSpec)

/-- ITS FALSE NEIGHBOUR: 'it returns false'. Refute it at one input. -/
def spanSharesWrong : ChangeSpec := { name := "spanShares", fn := fun _ => fun
  | [d1, d2] => { results := [.lit (.bool false)], args := [d1, d2] }
  | _ => none }
def SpanSharesWrongFalsely : Prop := spanSharesRow.holds Try.pinned (OpenSpec.ofChange spanSharesWrong)

/-- 'monocoquelaw01.SpanBeats': WHATEVER THE INPUT: true; the input reads as it did. -/
def spanBeatsSpec : ChangeSpec := { name := "spanBeats", fn := fun _ => fun
  | [d1, d2, d3, d4] => { results := [.lit (.bool true)], args := [d1, d2, d3, d4] }
  | _ => none }
def spanBeatsRow : OpenClaim := { program := "ythcoldehpaambaa", sum := "ed4c115f967b2743137e544920ae4cc354f1b263d9d1db9120096bd6f56031df", func := "monocoque/monocoquelaw01.SpanBeats", spec := "spanBeats", apart := false }
def SpanBeatsSaid : Prop := spanBeatsRow.holds Try.pinned (OpenSpec.ofChange spanBeatsSpec)

/-- ITS FALSE NEIGHBOUR: 'it returns false'. Refute it at one input. -/
def spanBeatsWrong : ChangeSpec := { name := "spanBeats", fn := fun _ => fun
  | [d1, d2, d3, d4] => { results := [.lit (.bool false)], args := [d1, d2, d3, d4] }
  | _ => none }
def SpanBeatsWrongFalsely : Prop := spanBeatsRow.holds Try.pinned (OpenSpec.ofChange spanBeatsWrong)

/-- 'monocoquelaw01.SpanFar': WHATEVER THE INPUT: true; the input reads as it did. -/
def spanFarSpec : ChangeSpec := { name := "spanFar", fn := fun _ => fun
  | [d1, d2, d3, d4, d5] => { results := [.lit (.bool true)], args := [d1, d2, d3, d4, d5] }
  | _ => none }
def spanFarRow : OpenClaim := { program := "ythcoldehpaambaa", sum := "ed4c115f967b2743137e544920ae4cc354f1b263d9d1db9120096bd6f56031df", func := "monocoque/monocoquelaw01.SpanFar", spec := "spanFar", apart := false }
def SpanFarSaid : Prop := spanFarRow.holds Try.pinned (OpenSpec.ofChange spanFarSpec)

/-- ITS FALSE NEIGHBOUR: 'it returns false'. Refute it at one input. -/
def spanFarWrong : ChangeSpec := { name := "spanFar", fn := fun _ => fun
  | [d1, d2, d3, d4, d5] => { results := [.lit (.bool false)], args := [d1, d2, d3, d4, d5] }
  | _ => none }
def SpanFarWrongFalsely : Prop := spanFarRow.holds Try.pinned (OpenSpec.ofChange spanFarWrong)

/-- 'monocoquelaw01.SpanMeets': WHATEVER THE INPUT: true; the input reads as it did. -/
def spanMeetsSpec : ChangeSpec := { name := "spanMeets", fn := fun _ => fun
  | [d1, d2] => { results := [.lit (.bool true)], args := [d1, d2] }
  | _ => none }
def spanMeetsRow : OpenClaim := { program := "ythcoldehpaambaa", sum := "ed4c115f967b2743137e544920ae4cc354f1b263d9d1db9120096bd6f56031df", func := "monocoque/monocoquelaw01.SpanMeets", spec := "spanMeets", apart := false }
def SpanMeetsSaid : Prop := spanMeetsRow.holds Try.pinned (OpenSpec.ofChange spanMeetsSpec)

/-- ITS FALSE NEIGHBOUR: 'it returns false'. Refute it at one input. -/
def spanMeetsWrong : ChangeSpec := { name := "spanMeets", fn := fun _ => fun
  | [d1, d2] => { results := [.lit (.bool false)], args := [d1, d2] }
  | _ => none }
def SpanMeetsWrongFalsely : Prop := spanMeetsRow.holds Try.pinned (OpenSpec.ofChange spanMeetsWrong)

/- THE SECOND FORM. 'bulk': how many values and letters a reading holds, each counted each time it is reached (what is shared counts as often as it is met; a slice's spare places count too). A statement '..UptoSaid' is the law's where the arguments, and the package variables that the reading takes, are together of bulk at most 1048576: NARROWER than '..Said'. Prove '..Said' where nothing that the law and all that it calls make is longer than what came in: it says more and counts as full. Else prove '..UptoSaid'. A law counts once. -/
mutual
def uptoBulk {H : Type} : DataW H → Nat
  | .lit (.string bytes) => bytes.length + 1
  | .lit _ => 1
  | .nil => 1
  | .ptr d => uptoBulk d + 1
  | .slice elems spare => uptoBulkAll elems + uptoBulkAll spare + 1
  | .agg parts => uptoBulkAll parts + 1
  | .iface _ d => uptoBulk d + 1
  | .map entries => uptoBulkEntries entries + 1
  | .held _ => 1
def uptoBulkAll {H : Type} : List (DataW H) → Nat
  | [] => 0
  | d :: r => uptoBulk d + uptoBulkAll r
def uptoBulkEntries {H : Type} : List (Lit × DataW H) → Nat
  | [] => 0
  | x :: r => uptoBulkEntry x + uptoBulkEntries r
def uptoBulkEntry {H : Type} : Lit × DataW H → Nat
  | (.string bytes, d) => bytes.length + uptoBulk d + 1
  | (_, d) => uptoBulk d + 1
 end
def uptoSmall : (H : Type) → List (DataW H) → Bool := fun _ ds => decide (uptoBulkAll ds ≤ 1048576)
def OpenSpec.upto (s : _root_.Go.ChangeSpec) : _root_.Go.OpenSpec := { _root_.Go.OpenSpec.ofChange s with cond := some uptoSmall }

/-- 'monocoquelaw01.SpanTells', WHERE WHAT IT READS IS OF BULK AT MOST 1048576: true; the input reads as it did. -/
def spanTellsUptoRow : OpenClaim := { program := "ythcoldehpaambaa", sum := "ed4c115f967b2743137e544920ae4cc354f1b263d9d1db9120096bd6f56031df", func := "monocoque/monocoquelaw01.SpanTells", spec := "spanTells", apart := false, narrowed := true }
def SpanTellsUptoSaid : Prop := spanTellsUptoRow.holds Try.pinned (OpenSpec.upto spanTellsSpec)

/-- 'monocoquelaw01.SpanAnds', WHERE WHAT IT READS IS OF BULK AT MOST 1048576: true; the input reads as it did. -/
def spanAndsUptoRow : OpenClaim := { program := "ythcoldehpaambaa", sum := "ed4c115f967b2743137e544920ae4cc354f1b263d9d1db9120096bd6f56031df", func := "monocoque/monocoquelaw01.SpanAnds", spec := "spanAnds", apart := false, narrowed := true }
def SpanAndsUptoSaid : Prop := spanAndsUptoRow.holds Try.pinned (OpenSpec.upto spanAndsSpec)

/-- 'monocoquelaw01.SpanDivides', WHERE WHAT IT READS IS OF BULK AT MOST 1048576: true; the input reads as it did. -/
def spanDividesUptoRow : OpenClaim := { program := "ythcoldehpaambaa", sum := "ed4c115f967b2743137e544920ae4cc354f1b263d9d1db9120096bd6f56031df", func := "monocoque/monocoquelaw01.SpanDivides", spec := "spanDivides", apart := false, narrowed := true }
def SpanDividesUptoSaid : Prop := spanDividesUptoRow.holds Try.pinned (OpenSpec.upto spanDividesSpec)

/-- 'monocoquelaw01.SpanShares', WHERE WHAT IT READS IS OF BULK AT MOST 1048576: true; the input reads as it did. -/
def spanSharesUptoRow : OpenClaim := { program := "ythcoldehpaambaa", sum := "ed4c115f967b2743137e544920ae4cc354f1b263d9d1db9120096bd6f56031df", func := "monocoque/monocoquelaw01.SpanShares", spec := "spanShares", apart := false, narrowed := true }
def SpanSharesUptoSaid : Prop := spanSharesUptoRow.holds Try.pinned (OpenSpec.upto spanSharesSpec)

/-- 'monocoquelaw01.SpanBeats', WHERE WHAT IT READS IS OF BULK AT MOST 1048576: true; the input reads as it did. -/
def spanBeatsUptoRow : OpenClaim := { program := "ythcoldehpaambaa", sum := "ed4c115f967b2743137e544920ae4cc354f1b263d9d1db9120096bd6f56031df", func := "monocoque/monocoquelaw01.SpanBeats", spec := "spanBeats", apart := false, narrowed := true }
def SpanBeatsUptoSaid : Prop := spanBeatsUptoRow.holds Try.pinned (OpenSpec.upto spanBeatsSpec)

/-- 'monocoquelaw01.SpanFar', WHERE WHAT IT READS IS OF BULK AT MOST 1048576: true; the input reads as it did. -/
def spanFarUptoRow : OpenClaim := { program := "ythcoldehpaambaa", sum := "ed4c115f967b2743137e544920ae4cc354f1b263d9d1db9120096bd6f56031df", func := "monocoque/monocoquelaw01.SpanFar", spec := "spanFar", apart := false, narrowed := true }
def SpanFarUptoSaid : Prop := spanFarUptoRow.holds Try.pinned (OpenSpec.upto spanFarSpec)

/-- 'monocoquelaw01.SpanMeets', WHERE WHAT IT READS IS OF BULK AT MOST 1048576: true; the input reads as it did. -/
def spanMeetsUptoRow : OpenClaim := { program := "ythcoldehpaambaa", sum := "ed4c115f967b2743137e544920ae4cc354f1b263d9d1db9120096bd6f56031df", func := "monocoque/monocoquelaw01.SpanMeets", spec := "spanMeets", apart := false, narrowed := true }
def SpanMeetsUptoSaid : Prop := spanMeetsUptoRow.holds Try.pinned (OpenSpec.upto spanMeetsSpec)

end Rows
end Go.Proofs.Ythcoldehpaambaa
