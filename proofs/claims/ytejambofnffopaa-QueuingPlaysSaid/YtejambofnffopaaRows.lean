/-
  No cell of these rows narrows 'for every input' (looked for: loops, veiled, ifaces, maps, wideKeys, modest, calm, conditions, laid).
  DERIVED. THE GIVEN ROWS OF THIS SEAT. 6 by the template 'for every input the law returns true; each argument reads behind the call as it read before'; 0 by the template 'total and deterministic' (their statements: YtejambofnffopaaTotals.lean).
  GIVEN WITH THE SEED: the statements are not yours to turn. If you find one false, say at which input.
  Laid BY PROGRAM, IN A SANDBOX (cutbox-rows.mjs): the forced cells as the released guide's own fill.sh prints them over the translation 704e2cc7c77a4b7a… (all of the seat's roots in one cut). By AI agents, Wed Nov 11 2026. No macro, syntax, notation, axiom, sorry.
-/
import Derived.Test.YtejambofnffopaaChecked
import GoSem.Claim
import GoSem.ClaimJoined
import GoSem.ClaimMapViews
import Derived.JoinedTies
import Derived.KernelRfl
namespace Go.Proofs.Ytejambofnffopaa
/- THE CELL 'sum', in the pinned program and in every row, IS THE sha256 OF THE DUMP (.gsa) THAT YtejambofnffopaaProg.lean LOADS. Nothing in Lean hashes anything: it is a label: what it is worth is what the hold of that sum in a sandbox is worth. -/
noncomputable def Try.pinned : Pinned := { name := "ytejambofnffopaa", sum := "704e2cc7c77a4b7af85359ca349d5190d6968113e8871e5c95e7085895583463", checked := Try.checked }
namespace Rows
def none {H : Type} : Left H := { results := [], args := [] }

/-- 'monocoquelaw27.QueuingPlays': WHATEVER THE INPUT: true; the input reads as it did. -/
def queuingPlaysSpec : ChangeSpec := { name := "queuingPlays", fn := fun _ => fun
  | [d1, d2, d3] => { results := [.lit (.bool true)], args := [d1, d2, d3] }
  | _ => none }
def queuingPlaysRow : OpenClaim := { program := "ytejambofnffopaa", sum := "704e2cc7c77a4b7af85359ca349d5190d6968113e8871e5c95e7085895583463", func := "monocoque/monocoquelaw27.QueuingPlays", spec := "queuingPlays", unfollowed := true, recurses := true, apart := false }
def QueuingPlaysSaid : Prop := queuingPlaysRow.holds Try.pinned (OpenSpec.ofChange queuingPlaysSpec)

/-- ITS FALSE NEIGHBOUR: 'it returns false'. Refute it at one input. -/
def queuingPlaysWrong : ChangeSpec := { name := "queuingPlays", fn := fun _ => fun
  | [d1, d2, d3] => { results := [.lit (.bool false)], args := [d1, d2, d3] }
  | _ => none }
def QueuingPlaysWrongFalsely : Prop := queuingPlaysRow.holds Try.pinned (OpenSpec.ofChange queuingPlaysWrong)

/-- 'monocoquelaw27.QueuingChain': WHATEVER THE INPUT: true; the input reads as it did. -/
def queuingChainSpec : ChangeSpec := { name := "queuingChain", fn := fun _ => fun
  | [d1, d2, d3] => { results := [.lit (.bool true)], args := [d1, d2, d3] }
  | _ => none }
def queuingChainRow : OpenClaim := { program := "ytejambofnffopaa", sum := "704e2cc7c77a4b7af85359ca349d5190d6968113e8871e5c95e7085895583463", func := "monocoque/monocoquelaw27.QueuingChain", spec := "queuingChain", apart := false }
def QueuingChainSaid : Prop := queuingChainRow.holds Try.pinned (OpenSpec.ofChange queuingChainSpec)

/-- ITS FALSE NEIGHBOUR: 'it returns false'. Refute it at one input. -/
def queuingChainWrong : ChangeSpec := { name := "queuingChain", fn := fun _ => fun
  | [d1, d2, d3] => { results := [.lit (.bool false)], args := [d1, d2, d3] }
  | _ => none }
def QueuingChainWrongFalsely : Prop := queuingChainRow.holds Try.pinned (OpenSpec.ofChange queuingChainWrong)

/-- 'monocoquelaw27.QueuingApart': WHATEVER THE INPUT: true; the input reads as it did. -/
def queuingApartSpec : ChangeSpec := { name := "queuingApart", fn := fun _ => fun
  | [d1, d2] => { results := [.lit (.bool true)], args := [d1, d2] }
  | _ => none }
def queuingApartRow : OpenClaim := { program := "ytejambofnffopaa", sum := "704e2cc7c77a4b7af85359ca349d5190d6968113e8871e5c95e7085895583463", func := "monocoque/monocoquelaw27.QueuingApart", spec := "queuingApart", unfollowed := true, recurses := true, apart := false }
def QueuingApartSaid : Prop := queuingApartRow.holds Try.pinned (OpenSpec.ofChange queuingApartSpec)

/-- ITS FALSE NEIGHBOUR: 'it returns false'. Refute it at one input. -/
def queuingApartWrong : ChangeSpec := { name := "queuingApart", fn := fun _ => fun
  | [d1, d2] => { results := [.lit (.bool false)], args := [d1, d2] }
  | _ => none }
def QueuingApartWrongFalsely : Prop := queuingApartRow.holds Try.pinned (OpenSpec.ofChange queuingApartWrong)

/-- 'monocoquelaw27.QueuingNil': WHATEVER THE INPUT: true; the input reads as it did. -/
def queuingNilSpec : ChangeSpec := { name := "queuingNil", fn := fun _ => fun
  | [d] => { results := [.lit (.bool true)], args := [d] }
  | _ => none }
def queuingNilRow : OpenClaim := { program := "ytejambofnffopaa", sum := "704e2cc7c77a4b7af85359ca349d5190d6968113e8871e5c95e7085895583463", func := "monocoque/monocoquelaw27.QueuingNil", spec := "queuingNil", unfollowed := true, recurses := true, apart := false }
def QueuingNilSaid : Prop := queuingNilRow.holds Try.pinned (OpenSpec.ofChange queuingNilSpec)

/-- ITS FALSE NEIGHBOUR: 'it returns false'. Refute it at one input. -/
def queuingNilWrong : ChangeSpec := { name := "queuingNil", fn := fun _ => fun
  | [d] => { results := [.lit (.bool false)], args := [d] }
  | _ => none }
def QueuingNilWrongFalsely : Prop := queuingNilRow.holds Try.pinned (OpenSpec.ofChange queuingNilWrong)

/-- 'monocoquelaw27.QueuingBacks': WHATEVER THE INPUT: true; the input reads as it did. -/
def queuingBacksSpec : ChangeSpec := { name := "queuingBacks", fn := fun _ => fun
  | [d1, d2, d3, d4] => { results := [.lit (.bool true)], args := [d1, d2, d3, d4] }
  | _ => none }
def queuingBacksRow : OpenClaim := { program := "ytejambofnffopaa", sum := "704e2cc7c77a4b7af85359ca349d5190d6968113e8871e5c95e7085895583463", func := "monocoque/monocoquelaw27.QueuingBacks", spec := "queuingBacks", unfollowed := true, recurses := true, apart := false }
def QueuingBacksSaid : Prop := queuingBacksRow.holds Try.pinned (OpenSpec.ofChange queuingBacksSpec)

/-- ITS FALSE NEIGHBOUR: 'it returns false'. Refute it at one input. -/
def queuingBacksWrong : ChangeSpec := { name := "queuingBacks", fn := fun _ => fun
  | [d1, d2, d3, d4] => { results := [.lit (.bool false)], args := [d1, d2, d3, d4] }
  | _ => none }
def QueuingBacksWrongFalsely : Prop := queuingBacksRow.holds Try.pinned (OpenSpec.ofChange queuingBacksWrong)

/-- 'monocoquelaw27.QueuingLost': WHATEVER THE INPUT: true; the input reads as it did. -/
def queuingLostSpec : ChangeSpec := { name := "queuingLost", fn := fun _ => fun
  | [d1, d2] => { results := [.lit (.bool true)], args := [d1, d2] }
  | _ => none }
def queuingLostRow : OpenClaim := { program := "ytejambofnffopaa", sum := "704e2cc7c77a4b7af85359ca349d5190d6968113e8871e5c95e7085895583463", func := "monocoque/monocoquelaw27.QueuingLost", spec := "queuingLost", apart := false }
def QueuingLostSaid : Prop := queuingLostRow.holds Try.pinned (OpenSpec.ofChange queuingLostSpec)

/-- ITS FALSE NEIGHBOUR: 'it returns false'. Refute it at one input. -/
def queuingLostWrong : ChangeSpec := { name := "queuingLost", fn := fun _ => fun
  | [d1, d2] => { results := [.lit (.bool false)], args := [d1, d2] }
  | _ => none }
def QueuingLostWrongFalsely : Prop := queuingLostRow.holds Try.pinned (OpenSpec.ofChange queuingLostWrong)

/- THE SECOND FORM. 'bulk': how many values and letters a reading holds, each counted each time it is reached (what is shared counts as often as it is met; a slice's spare places count too). A statement '..UptoSaid' is the law's where the arguments, and the package variables that the reading takes, are together of bulk at most 1048576: NARROWER than '..Said'. Prove '..Said' where nothing that the law and all that it calls make is longer than what came in: it says more and counts as full. Else prove '..UptoSaid'. A law counts once. -/
mutual
def uptoBulk {H : Type} : DataW H → Nat
  | .lit (.string bytes) => bytes.length + 1
  | .lit _ => 1
  | .nil => 1
  | .ptr d => uptoBulk d + 1
  | .slice elems spare => uptoBulkAll elems + uptoBulkAll spare + 1
  | .agg parts => uptoBulkAll parts + 1
  | .iface _ d => uptoBulk d + 1
  | .map entries => uptoBulkEntries entries + 1
  | .held _ => 1
def uptoBulkAll {H : Type} : List (DataW H) → Nat
  | [] => 0
  | d :: r => uptoBulk d + uptoBulkAll r
def uptoBulkEntries {H : Type} : List (Lit × DataW H) → Nat
  | [] => 0
  | x :: r => uptoBulkEntry x + uptoBulkEntries r
def uptoBulkEntry {H : Type} : Lit × DataW H → Nat
  | (.string bytes, d) => bytes.length + uptoBulk d + 1
  | (_, d) => uptoBulk d + 1
 end
def uptoSmall : (H : Type) → List (DataW H) → Bool := fun _ ds => decide (uptoBulkAll ds ≤ 1048576)
def OpenSpec.upto (s : _root_.Go.ChangeSpec) : _root_.Go.OpenSpec := { _root_.Go.OpenSpec.ofChange s with cond := some uptoSmall }

/-- 'monocoquelaw27.QueuingPlays', WHERE WHAT IT READS IS OF BULK AT MOST 1048576: true; the input reads as it did. -/
def queuingPlaysUptoRow : OpenClaim := { program := "ytejambofnffopaa", sum := "704e2cc7c77a4b7af85359ca349d5190d6968113e8871e5c95e7085895583463", func := "monocoque/monocoquelaw27.QueuingPlays", spec := "queuingPlays", unfollowed := true, recurses := true, apart := false, narrowed := true }
def QueuingPlaysUptoSaid : Prop := queuingPlaysUptoRow.holds Try.pinned (OpenSpec.upto queuingPlaysSpec)

/-- 'monocoquelaw27.QueuingChain', WHERE WHAT IT READS IS OF BULK AT MOST 1048576: true; the input reads as it did. -/
def queuingChainUptoRow : OpenClaim := { program := "ytejambofnffopaa", sum := "704e2cc7c77a4b7af85359ca349d5190d6968113e8871e5c95e7085895583463", func := "monocoque/monocoquelaw27.QueuingChain", spec := "queuingChain", apart := false, narrowed := true }
def QueuingChainUptoSaid : Prop := queuingChainUptoRow.holds Try.pinned (OpenSpec.upto queuingChainSpec)

/-- 'monocoquelaw27.QueuingApart', WHERE WHAT IT READS IS OF BULK AT MOST 1048576: true; the input reads as it did. -/
def queuingApartUptoRow : OpenClaim := { program := "ytejambofnffopaa", sum := "704e2cc7c77a4b7af85359ca349d5190d6968113e8871e5c95e7085895583463", func := "monocoque/monocoquelaw27.QueuingApart", spec := "queuingApart", unfollowed := true, recurses := true, apart := false, narrowed := true }
def QueuingApartUptoSaid : Prop := queuingApartUptoRow.holds Try.pinned (OpenSpec.upto queuingApartSpec)

/-- 'monocoquelaw27.QueuingNil', WHERE WHAT IT READS IS OF BULK AT MOST 1048576: true; the input reads as it did. -/
def queuingNilUptoRow : OpenClaim := { program := "ytejambofnffopaa", sum := "704e2cc7c77a4b7af85359ca349d5190d6968113e8871e5c95e7085895583463", func := "monocoque/monocoquelaw27.QueuingNil", spec := "queuingNil", unfollowed := true, recurses := true, apart := false, narrowed := true }
def QueuingNilUptoSaid : Prop := queuingNilUptoRow.holds Try.pinned (OpenSpec.upto queuingNilSpec)

/-- 'monocoquelaw27.QueuingBacks', WHERE WHAT IT READS IS OF BULK AT MOST 1048576: true; the input reads as it did. -/
def queuingBacksUptoRow : OpenClaim := { program := "ytejambofnffopaa", sum := "704e2cc7c77a4b7af85359ca349d5190d6968113e8871e5c95e7085895583463", func := "monocoque/monocoquelaw27.QueuingBacks", spec := "queuingBacks", unfollowed := true, recurses := true, apart := false, narrowed := true }
def QueuingBacksUptoSaid : Prop := queuingBacksUptoRow.holds Try.pinned (OpenSpec.upto queuingBacksSpec)

/-- 'monocoquelaw27.QueuingLost', WHERE WHAT IT READS IS OF BULK AT MOST 1048576: true; the input reads as it did. -/
def queuingLostUptoRow : OpenClaim := { program := "ytejambofnffopaa", sum := "704e2cc7c77a4b7af85359ca349d5190d6968113e8871e5c95e7085895583463", func := "monocoque/monocoquelaw27.QueuingLost", spec := "queuingLost", apart := false, narrowed := true }
def QueuingLostUptoSaid : Prop := queuingLostUptoRow.holds Try.pinned (OpenSpec.upto queuingLostSpec)

end Rows
end Go.Proofs.Ytejambofnffopaa
