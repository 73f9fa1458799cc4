/-
  No cell of these rows narrows 'for every input' (looked for: loops, veiled, ifaces, maps, wideKeys, modest, calm, conditions, laid).
  DERIVED. THE GIVEN ROWS OF THIS SEAT. 6 by the template 'for every input the law returns true; each argument reads behind the call as it read before'; 0 by the template 'total and deterministic' (their statements: YtnobfmdjnldfpaaTotals.lean).
  GIVEN WITH THE SEED: the statements are not yours to turn. If you find one false, say at which input.
  Laid BY PROGRAM, IN A SANDBOX (cutbox-rows.mjs): the forced cells as the released guide's own fill.sh prints them over the translation 55921d7c553a7320… (all of the seat's roots in one cut). By AI agents, Wed Nov 11 2026. No macro, syntax, notation, axiom, sorry.
-/
import Derived.Test.YtnobfmdjnldfpaaChecked
import GoSem.Claim
import GoSem.ClaimJoined
import GoSem.ClaimMapViews
import Derived.JoinedTies
import Derived.KernelRfl
namespace Go.Proofs.Ytnobfmdjnldfpaa
/- THE CELL 'sum', in the pinned program and in every row, IS THE sha256 OF THE DUMP (.gsa) THAT YtnobfmdjnldfpaaProg.lean LOADS. Nothing in Lean hashes anything: it is a label: what it is worth is what the hold of that sum in a sandbox is worth. -/
noncomputable def Try.pinned : Pinned := { name := "ytnobfmdjnldfpaa", sum := "55921d7c553a7320f1dda814fda40b3852331be43edc3e6d71271eda1ab70e75", checked := Try.checked }
namespace Rows
def none {H : Type} : Left H := { results := [], args := [] }

/-- 'monocoquelaw04.DeltaPlays': WHATEVER THE INPUT: true; the input reads as it did. -/
def deltaPlaysSpec : ChangeSpec := { name := "deltaPlays", fn := fun _ => fun
  | [d] => { results := [.lit (.bool true)], args := [d] }
  | _ => none }
def deltaPlaysRow : OpenClaim := { program := "ytnobfmdjnldfpaa", sum := "55921d7c553a7320f1dda814fda40b3852331be43edc3e6d71271eda1ab70e75", func := "monocoque/monocoquelaw04.DeltaPlays", spec := "deltaPlays", inPlace := ["slices.overlaps[monocoque/delta.timer]"], unfollowed := true, recurses := true, apart := false }
def DeltaPlaysSaid : Prop := deltaPlaysRow.holds Try.pinned (OpenSpec.ofChange deltaPlaysSpec)

/-- ITS FALSE NEIGHBOUR: 'it returns false'. Refute it at one input. -/
def deltaPlaysWrong : ChangeSpec := { name := "deltaPlays", fn := fun _ => fun
  | [d] => { results := [.lit (.bool false)], args := [d] }
  | _ => none }
def DeltaPlaysWrongFalsely : Prop := deltaPlaysRow.holds Try.pinned (OpenSpec.ofChange deltaPlaysWrong)

/-- 'monocoquelaw04.DeltaOnce': WHATEVER THE INPUT: true; the input reads as it did. -/
def deltaOnceSpec : ChangeSpec := { name := "deltaOnce", fn := fun _ => fun
  | [d1, d2, d3] => { results := [.lit (.bool true)], args := [d1, d2, d3] }
  | _ => none }
def deltaOnceRow : OpenClaim := { program := "ytnobfmdjnldfpaa", sum := "55921d7c553a7320f1dda814fda40b3852331be43edc3e6d71271eda1ab70e75", func := "monocoque/monocoquelaw04.DeltaOnce", spec := "deltaOnce", inPlace := ["slices.overlaps[monocoque/delta.timer]"], unfollowed := true, recurses := true, apart := false }
def DeltaOnceSaid : Prop := deltaOnceRow.holds Try.pinned (OpenSpec.ofChange deltaOnceSpec)

/-- ITS FALSE NEIGHBOUR: 'it returns false'. Refute it at one input. -/
def deltaOnceWrong : ChangeSpec := { name := "deltaOnce", fn := fun _ => fun
  | [d1, d2, d3] => { results := [.lit (.bool false)], args := [d1, d2, d3] }
  | _ => none }
def DeltaOnceWrongFalsely : Prop := deltaOnceRow.holds Try.pinned (OpenSpec.ofChange deltaOnceWrong)

/-- 'monocoquelaw04.DeltaSame': WHATEVER THE INPUT: true; the input reads as it did. -/
def deltaSameSpec : ChangeSpec := { name := "deltaSame", fn := fun _ => fun
  | [d1, d2] => { results := [.lit (.bool true)], args := [d1, d2] }
  | _ => none }
def deltaSameRow : OpenClaim := { program := "ytnobfmdjnldfpaa", sum := "55921d7c553a7320f1dda814fda40b3852331be43edc3e6d71271eda1ab70e75", func := "monocoque/monocoquelaw04.DeltaSame", spec := "deltaSame", inPlace := ["slices.overlaps[monocoque/delta.timer]"], unfollowed := true, recurses := true, apart := false }
def DeltaSameSaid : Prop := deltaSameRow.holds Try.pinned (OpenSpec.ofChange deltaSameSpec)

/-- ITS FALSE NEIGHBOUR: 'it returns false'. Refute it at one input. -/
def deltaSameWrong : ChangeSpec := { name := "deltaSame", fn := fun _ => fun
  | [d1, d2] => { results := [.lit (.bool false)], args := [d1, d2] }
  | _ => none }
def DeltaSameWrongFalsely : Prop := deltaSameRow.holds Try.pinned (OpenSpec.ofChange deltaSameWrong)

/-- 'monocoquelaw04.DeltaAgain': WHATEVER THE INPUT: true; the input reads as it did. -/
def deltaAgainSpec : ChangeSpec := { name := "deltaAgain", fn := fun _ => fun
  | [d1, d2, d3] => { results := [.lit (.bool true)], args := [d1, d2, d3] }
  | _ => none }
def deltaAgainRow : OpenClaim := { program := "ytnobfmdjnldfpaa", sum := "55921d7c553a7320f1dda814fda40b3852331be43edc3e6d71271eda1ab70e75", func := "monocoque/monocoquelaw04.DeltaAgain", spec := "deltaAgain", inPlace := ["slices.overlaps[monocoque/delta.timer]"], unfollowed := true, recurses := true, apart := false }
def DeltaAgainSaid : Prop := deltaAgainRow.holds Try.pinned (OpenSpec.ofChange deltaAgainSpec)

/-- ITS FALSE NEIGHBOUR: 'it returns false'. Refute it at one input. -/
def deltaAgainWrong : ChangeSpec := { name := "deltaAgain", fn := fun _ => fun
  | [d1, d2, d3] => { results := [.lit (.bool false)], args := [d1, d2, d3] }
  | _ => none }
def DeltaAgainWrongFalsely : Prop := deltaAgainRow.holds Try.pinned (OpenSpec.ofChange deltaAgainWrong)

/-- 'monocoquelaw04.DeltaNexts': WHATEVER THE INPUT: true; the input reads as it did. -/
def deltaNextsSpec : ChangeSpec := { name := "deltaNexts", fn := fun _ => fun
  | [d] => { results := [.lit (.bool true)], args := [d] }
  | _ => none }
def deltaNextsRow : OpenClaim := { program := "ytnobfmdjnldfpaa", sum := "55921d7c553a7320f1dda814fda40b3852331be43edc3e6d71271eda1ab70e75", func := "monocoque/monocoquelaw04.DeltaNexts", spec := "deltaNexts", inPlace := ["slices.overlaps[monocoque/delta.timer]"], unfollowed := true, recurses := true, apart := false }
def DeltaNextsSaid : Prop := deltaNextsRow.holds Try.pinned (OpenSpec.ofChange deltaNextsSpec)

/-- ITS FALSE NEIGHBOUR: 'it returns false'. Refute it at one input. -/
def deltaNextsWrong : ChangeSpec := { name := "deltaNexts", fn := fun _ => fun
  | [d] => { results := [.lit (.bool false)], args := [d] }
  | _ => none }
def DeltaNextsWrongFalsely : Prop := deltaNextsRow.holds Try.pinned (OpenSpec.ofChange deltaNextsWrong)

/-- 'monocoquelaw04.DeltaDrops': WHATEVER THE INPUT: true; the input reads as it did. -/
def deltaDropsSpec : ChangeSpec := { name := "deltaDrops", fn := fun _ => fun
  | [d1, d2] => { results := [.lit (.bool true)], args := [d1, d2] }
  | _ => none }
def deltaDropsRow : OpenClaim := { program := "ytnobfmdjnldfpaa", sum := "55921d7c553a7320f1dda814fda40b3852331be43edc3e6d71271eda1ab70e75", func := "monocoque/monocoquelaw04.DeltaDrops", spec := "deltaDrops", inPlace := ["slices.overlaps[monocoque/delta.timer]"], unfollowed := true, recurses := true, apart := false }
def DeltaDropsSaid : Prop := deltaDropsRow.holds Try.pinned (OpenSpec.ofChange deltaDropsSpec)

/-- ITS FALSE NEIGHBOUR: 'it returns false'. Refute it at one input. -/
def deltaDropsWrong : ChangeSpec := { name := "deltaDrops", fn := fun _ => fun
  | [d1, d2] => { results := [.lit (.bool false)], args := [d1, d2] }
  | _ => none }
def DeltaDropsWrongFalsely : Prop := deltaDropsRow.holds Try.pinned (OpenSpec.ofChange deltaDropsWrong)

/- THE SECOND FORM. 'bulk': how many values and letters a reading holds, each counted each time it is reached (what is shared counts as often as it is met; a slice's spare places count too). A statement '..UptoSaid' is the law's where the arguments, and the package variables that the reading takes, are together of bulk at most 1048576: NARROWER than '..Said'. Prove '..Said' where nothing that the law and all that it calls make is longer than what came in: it says more and counts as full. Else prove '..UptoSaid'. A law counts once. -/
mutual
def uptoBulk {H : Type} : DataW H → Nat
  | .lit (.string bytes) => bytes.length + 1
  | .lit _ => 1
  | .nil => 1
  | .ptr d => uptoBulk d + 1
  | .slice elems spare => uptoBulkAll elems + uptoBulkAll spare + 1
  | .agg parts => uptoBulkAll parts + 1
  | .iface _ d => uptoBulk d + 1
  | .map entries => uptoBulkEntries entries + 1
  | .held _ => 1
def uptoBulkAll {H : Type} : List (DataW H) → Nat
  | [] => 0
  | d :: r => uptoBulk d + uptoBulkAll r
def uptoBulkEntries {H : Type} : List (Lit × DataW H) → Nat
  | [] => 0
  | x :: r => uptoBulkEntry x + uptoBulkEntries r
def uptoBulkEntry {H : Type} : Lit × DataW H → Nat
  | (.string bytes, d) => bytes.length + uptoBulk d + 1
  | (_, d) => uptoBulk d + 1
 end
def uptoSmall : (H : Type) → List (DataW H) → Bool := fun _ ds => decide (uptoBulkAll ds ≤ 1048576)
def OpenSpec.upto (s : _root_.Go.ChangeSpec) : _root_.Go.OpenSpec := { _root_.Go.OpenSpec.ofChange s with cond := some uptoSmall }

/-- 'monocoquelaw04.DeltaPlays', WHERE WHAT IT READS IS OF BULK AT MOST 1048576: true; the input reads as it did. -/
def deltaPlaysUptoRow : OpenClaim := { program := "ytnobfmdjnldfpaa", sum := "55921d7c553a7320f1dda814fda40b3852331be43edc3e6d71271eda1ab70e75", func := "monocoque/monocoquelaw04.DeltaPlays", spec := "deltaPlays", inPlace := ["slices.overlaps[monocoque/delta.timer]"], unfollowed := true, recurses := true, apart := false, narrowed := true }
def DeltaPlaysUptoSaid : Prop := deltaPlaysUptoRow.holds Try.pinned (OpenSpec.upto deltaPlaysSpec)

/-- 'monocoquelaw04.DeltaOnce', WHERE WHAT IT READS IS OF BULK AT MOST 1048576: true; the input reads as it did. -/
def deltaOnceUptoRow : OpenClaim := { program := "ytnobfmdjnldfpaa", sum := "55921d7c553a7320f1dda814fda40b3852331be43edc3e6d71271eda1ab70e75", func := "monocoque/monocoquelaw04.DeltaOnce", spec := "deltaOnce", inPlace := ["slices.overlaps[monocoque/delta.timer]"], unfollowed := true, recurses := true, apart := false, narrowed := true }
def DeltaOnceUptoSaid : Prop := deltaOnceUptoRow.holds Try.pinned (OpenSpec.upto deltaOnceSpec)

/-- 'monocoquelaw04.DeltaSame', WHERE WHAT IT READS IS OF BULK AT MOST 1048576: true; the input reads as it did. -/
def deltaSameUptoRow : OpenClaim := { program := "ytnobfmdjnldfpaa", sum := "55921d7c553a7320f1dda814fda40b3852331be43edc3e6d71271eda1ab70e75", func := "monocoque/monocoquelaw04.DeltaSame", spec := "deltaSame", inPlace := ["slices.overlaps[monocoque/delta.timer]"], unfollowed := true, recurses := true, apart := false, narrowed := true }
def DeltaSameUptoSaid : Prop := deltaSameUptoRow.holds Try.pinned (OpenSpec.upto deltaSameSpec)

/-- 'monocoquelaw04.DeltaAgain', WHERE WHAT IT READS IS OF BULK AT MOST 1048576: true; the input reads as it did. -/
def deltaAgainUptoRow : OpenClaim := { program := "ytnobfmdjnldfpaa", sum := "55921d7c553a7320f1dda814fda40b3852331be43edc3e6d71271eda1ab70e75", func := "monocoque/monocoquelaw04.DeltaAgain", spec := "deltaAgain", inPlace := ["slices.overlaps[monocoque/delta.timer]"], unfollowed := true, recurses := true, apart := false, narrowed := true }
def DeltaAgainUptoSaid : Prop := deltaAgainUptoRow.holds Try.pinned (OpenSpec.upto deltaAgainSpec)

/-- 'monocoquelaw04.DeltaNexts', WHERE WHAT IT READS IS OF BULK AT MOST 1048576: true; the input reads as it did. -/
def deltaNextsUptoRow : OpenClaim := { program := "ytnobfmdjnldfpaa", sum := "55921d7c553a7320f1dda814fda40b3852331be43edc3e6d71271eda1ab70e75", func := "monocoque/monocoquelaw04.DeltaNexts", spec := "deltaNexts", inPlace := ["slices.overlaps[monocoque/delta.timer]"], unfollowed := true, recurses := true, apart := false, narrowed := true }
def DeltaNextsUptoSaid : Prop := deltaNextsUptoRow.holds Try.pinned (OpenSpec.upto deltaNextsSpec)

/-- 'monocoquelaw04.DeltaDrops', WHERE WHAT IT READS IS OF BULK AT MOST 1048576: true; the input reads as it did. -/
def deltaDropsUptoRow : OpenClaim := { program := "ytnobfmdjnldfpaa", sum := "55921d7c553a7320f1dda814fda40b3852331be43edc3e6d71271eda1ab70e75", func := "monocoque/monocoquelaw04.DeltaDrops", spec := "deltaDrops", inPlace := ["slices.overlaps[monocoque/delta.timer]"], unfollowed := true, recurses := true, apart := false, narrowed := true }
def DeltaDropsUptoSaid : Prop := deltaDropsUptoRow.holds Try.pinned (OpenSpec.upto deltaDropsSpec)

end Rows
end Go.Proofs.Ytnobfmdjnldfpaa
