/-
  No cell of these rows narrows 'for every input' (looked for: loops, veiled, ifaces, maps, wideKeys, modest, calm, conditions, laid).
  DERIVED. THE GIVEN ROWS OF THIS SEAT. 4 by the template 'for every input the law returns true; each argument reads behind the call as it read before'; 0 by the template 'total and deterministic' (their statements: YtchlgihanogeeaaTotals.lean).
  GIVEN WITH THE SEED: the statements are not yours to turn. If you find one false, say at which input.
  Laid BY PROGRAM, IN A SANDBOX (cutbox-rows.mjs): the forced cells as the released guide's own fill.sh prints them over the translation dbb9d26b94b1f2e7… (all of the seat's roots in one cut). By AI agents, Wed Nov 11 2026. No macro, syntax, notation, axiom, sorry.
-/
import Derived.Test.YtchlgihanogeeaaChecked
import GoSem.Claim
import GoSem.ClaimJoined
import GoSem.ClaimMapViews
import Derived.JoinedTies
import Derived.KernelRfl
namespace Go.Proofs.Ytchlgihanogeeaa
/- THE CELL 'sum', in the pinned program and in every row, IS THE sha256 OF THE DUMP (.gsa) THAT YtchlgihanogeeaaProg.lean LOADS. Nothing in Lean hashes anything: it is a label: what it is worth is what the hold of that sum in a sandbox is worth. -/
noncomputable def Try.pinned : Pinned := { name := "ytchlgihanogeeaa", sum := "dbb9d26b94b1f2e7b1da83f0e20cacb6d9477bcda525cbbde872d442fea4fade", checked := Try.checked }
namespace Rows
def none {H : Type} : Left H := { results := [], args := [] }

/-- 'monocoquelaw06.BookNames': WHATEVER THE INPUT: true; the input reads as it did. -/
def bookNamesSpec : ChangeSpec := { name := "bookNames", fn := fun _ => fun
  | [d] => { results := [.lit (.bool true)], args := [d] }
  | _ => none }
def bookNamesRow : OpenClaim := { program := "ytchlgihanogeeaa", sum := "dbb9d26b94b1f2e7b1da83f0e20cacb6d9477bcda525cbbde872d442fea4fade", func := "monocoque/monocoquelaw06.BookNames", spec := "bookNames", unfollowed := true, recurses := true, apart := false }
def BookNamesSaid : Prop := bookNamesRow.holds Try.pinned (OpenSpec.ofChange bookNamesSpec)

/-- ITS FALSE NEIGHBOUR: 'it returns false'. Refute it at one input. -/
def bookNamesWrong : ChangeSpec := { name := "bookNames", fn := fun _ => fun
  | [d] => { results := [.lit (.bool false)], args := [d] }
  | _ => none }
def BookNamesWrongFalsely : Prop := bookNamesRow.holds Try.pinned (OpenSpec.ofChange bookNamesWrong)

/-- 'monocoquelaw06.BookRights': WHATEVER THE INPUT: true; the input reads as it did. -/
def bookRightsSpec : ChangeSpec := { name := "bookRights", fn := fun _ => fun
  | [d] => { results := [.lit (.bool true)], args := [d] }
  | _ => none }
def bookRightsRow : OpenClaim := { program := "ytchlgihanogeeaa", sum := "dbb9d26b94b1f2e7b1da83f0e20cacb6d9477bcda525cbbde872d442fea4fade", func := "monocoque/monocoquelaw06.BookRights", spec := "bookRights", unfollowed := true, recurses := true, apart := false }
def BookRightsSaid : Prop := bookRightsRow.holds Try.pinned (OpenSpec.ofChange bookRightsSpec)

/-- ITS FALSE NEIGHBOUR: 'it returns false'. Refute it at one input. -/
def bookRightsWrong : ChangeSpec := { name := "bookRights", fn := fun _ => fun
  | [d] => { results := [.lit (.bool false)], args := [d] }
  | _ => none }
def BookRightsWrongFalsely : Prop := bookRightsRow.holds Try.pinned (OpenSpec.ofChange bookRightsWrong)

/-- 'monocoquelaw06.BookSames': WHATEVER THE INPUT: true; the input reads as it did. -/
def bookSamesSpec : ChangeSpec := { name := "bookSames", fn := fun _ => fun
  | [d1, d2] => { results := [.lit (.bool true)], args := [d1, d2] }
  | _ => none }
def bookSamesRow : OpenClaim := { program := "ytchlgihanogeeaa", sum := "dbb9d26b94b1f2e7b1da83f0e20cacb6d9477bcda525cbbde872d442fea4fade", func := "monocoque/monocoquelaw06.BookSames", spec := "bookSames", unfollowed := true, recurses := true, apart := false }
def BookSamesSaid : Prop := bookSamesRow.holds Try.pinned (OpenSpec.ofChange bookSamesSpec)

/-- ITS FALSE NEIGHBOUR: 'it returns false'. Refute it at one input. -/
def bookSamesWrong : ChangeSpec := { name := "bookSames", fn := fun _ => fun
  | [d1, d2] => { results := [.lit (.bool false)], args := [d1, d2] }
  | _ => none }
def BookSamesWrongFalsely : Prop := bookSamesRow.holds Try.pinned (OpenSpec.ofChange bookSamesWrong)

/-- 'monocoquelaw06.BookFinds': WHATEVER THE INPUT: true; the input reads as it did. -/
def bookFindsSpec : ChangeSpec := { name := "bookFinds", fn := fun _ => fun
  | [d1, d2, d3] => { results := [.lit (.bool true)], args := [d1, d2, d3] }
  | _ => none }
def bookFindsRow : OpenClaim := { program := "ytchlgihanogeeaa", sum := "dbb9d26b94b1f2e7b1da83f0e20cacb6d9477bcda525cbbde872d442fea4fade", func := "monocoque/monocoquelaw06.BookFinds", spec := "bookFinds", unfollowed := true, recurses := true, apart := false }
def BookFindsSaid : Prop := bookFindsRow.holds Try.pinned (OpenSpec.ofChange bookFindsSpec)

/-- ITS FALSE NEIGHBOUR: 'it returns false'. Refute it at one input. -/
def bookFindsWrong : ChangeSpec := { name := "bookFinds", fn := fun _ => fun
  | [d1, d2, d3] => { results := [.lit (.bool false)], args := [d1, d2, d3] }
  | _ => none }
def BookFindsWrongFalsely : Prop := bookFindsRow.holds Try.pinned (OpenSpec.ofChange bookFindsWrong)

/- THE SECOND FORM. 'bulk': how many values and letters a reading holds, each counted each time it is reached (what is shared counts as often as it is met; a slice's spare places count too). A statement '..UptoSaid' is the law's where the arguments, and the package variables that the reading takes, are together of bulk at most 1048576: NARROWER than '..Said'. Prove '..Said' where nothing that the law and all that it calls make is longer than what came in: it says more and counts as full. Else prove '..UptoSaid'. A law counts once. -/
mutual
def uptoBulk {H : Type} : DataW H → Nat
  | .lit (.string bytes) => bytes.length + 1
  | .lit _ => 1
  | .nil => 1
  | .ptr d => uptoBulk d + 1
  | .slice elems spare => uptoBulkAll elems + uptoBulkAll spare + 1
  | .agg parts => uptoBulkAll parts + 1
  | .iface _ d => uptoBulk d + 1
  | .map entries => uptoBulkEntries entries + 1
  | .held _ => 1
def uptoBulkAll {H : Type} : List (DataW H) → Nat
  | [] => 0
  | d :: r => uptoBulk d + uptoBulkAll r
def uptoBulkEntries {H : Type} : List (Lit × DataW H) → Nat
  | [] => 0
  | x :: r => uptoBulkEntry x + uptoBulkEntries r
def uptoBulkEntry {H : Type} : Lit × DataW H → Nat
  | (.string bytes, d) => bytes.length + uptoBulk d + 1
  | (_, d) => uptoBulk d + 1
 end
def uptoSmall : (H : Type) → List (DataW H) → Bool := fun _ ds => decide (uptoBulkAll ds ≤ 1048576)
def OpenSpec.upto (s : _root_.Go.ChangeSpec) : _root_.Go.OpenSpec := { _root_.Go.OpenSpec.ofChange s with cond := some uptoSmall }

/-- 'monocoquelaw06.BookNames', WHERE WHAT IT READS IS OF BULK AT MOST 1048576: true; the input reads as it did. -/
def bookNamesUptoRow : OpenClaim := { program := "ytchlgihanogeeaa", sum := "dbb9d26b94b1f2e7b1da83f0e20cacb6d9477bcda525cbbde872d442fea4fade", func := "monocoque/monocoquelaw06.BookNames", spec := "bookNames", unfollowed := true, recurses := true, apart := false, narrowed := true }
def BookNamesUptoSaid : Prop := bookNamesUptoRow.holds Try.pinned (OpenSpec.upto bookNamesSpec)

/-- 'monocoquelaw06.BookRights', WHERE WHAT IT READS IS OF BULK AT MOST 1048576: true; the input reads as it did. -/
def bookRightsUptoRow : OpenClaim := { program := "ytchlgihanogeeaa", sum := "dbb9d26b94b1f2e7b1da83f0e20cacb6d9477bcda525cbbde872d442fea4fade", func := "monocoque/monocoquelaw06.BookRights", spec := "bookRights", unfollowed := true, recurses := true, apart := false, narrowed := true }
def BookRightsUptoSaid : Prop := bookRightsUptoRow.holds Try.pinned (OpenSpec.upto bookRightsSpec)

/-- 'monocoquelaw06.BookSames', WHERE WHAT IT READS IS OF BULK AT MOST 1048576: true; the input reads as it did. -/
def bookSamesUptoRow : OpenClaim := { program := "ytchlgihanogeeaa", sum := "dbb9d26b94b1f2e7b1da83f0e20cacb6d9477bcda525cbbde872d442fea4fade", func := "monocoque/monocoquelaw06.BookSames", spec := "bookSames", unfollowed := true, recurses := true, apart := false, narrowed := true }
def BookSamesUptoSaid : Prop := bookSamesUptoRow.holds Try.pinned (OpenSpec.upto bookSamesSpec)

/-- 'monocoquelaw06.BookFinds', WHERE WHAT IT READS IS OF BULK AT MOST 1048576: true; the input reads as it did. -/
def bookFindsUptoRow : OpenClaim := { program := "ytchlgihanogeeaa", sum := "dbb9d26b94b1f2e7b1da83f0e20cacb6d9477bcda525cbbde872d442fea4fade", func := "monocoque/monocoquelaw06.BookFinds", spec := "bookFinds", unfollowed := true, recurses := true, apart := false, narrowed := true }
def BookFindsUptoSaid : Prop := bookFindsUptoRow.holds Try.pinned (OpenSpec.upto bookFindsSpec)

end Rows
end Go.Proofs.Ytchlgihanogeeaa
