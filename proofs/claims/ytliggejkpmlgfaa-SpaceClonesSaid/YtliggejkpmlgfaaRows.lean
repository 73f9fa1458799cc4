/-
  No cell of these rows narrows 'for every input' (looked for: loops, veiled, ifaces, maps, wideKeys, modest, calm, conditions, laid).
  DERIVED. THE GIVEN ROWS OF THIS SEAT. 6 by the template 'for every input the law returns true; each argument reads behind the call as it read before'; 0 by the template 'total and deterministic' (their statements: YtliggejkpmlgfaaTotals.lean).
  GIVEN WITH THE SEED: the statements are not yours to turn. If you find one false, say at which input.
  Laid BY PROGRAM, IN A SANDBOX (cutbox-rows.mjs): the forced cells as the released guide's own fill.sh prints them over the translation ad030cb63652206d… (all of the seat's roots in one cut). By AI agents, Wed Nov 11 2026. No macro, syntax, notation, axiom, sorry.
-/
import Derived.Test.YtliggejkpmlgfaaChecked
import GoSem.Claim
import GoSem.ClaimJoined
import GoSem.ClaimMapViews
import Derived.JoinedTies
import Derived.KernelRfl
namespace Go.Proofs.Ytliggejkpmlgfaa
/- THE CELL 'sum', in the pinned program and in every row, IS THE sha256 OF THE DUMP (.gsa) THAT YtliggejkpmlgfaaProg.lean LOADS. Nothing in Lean hashes anything: it is a label: what it is worth is what the hold of that sum in a sandbox is worth. -/
noncomputable def Try.pinned : Pinned := { name := "ytliggejkpmlgfaa", sum := "ad030cb63652206d74f29c1842547f1590b363370681d966278ff793527c8e31", checked := Try.checked }
namespace Rows
def none {H : Type} : Left H := { results := [], args := [] }

/-- 'monocoquelaw14.SpaceActs': WHATEVER THE INPUT: true; the input reads as it did. -/
def spaceActsSpec : ChangeSpec := { name := "spaceActs", fn := fun _ => fun
  | [d1, d2] => { results := [.lit (.bool true)], args := [d1, d2] }
  | _ => none }
def spaceActsRow : OpenClaim := { program := "ytliggejkpmlgfaa", sum := "ad030cb63652206d74f29c1842547f1590b363370681d966278ff793527c8e31", func := "monocoque/monocoquelaw14.SpaceActs", spec := "spaceActs", unfollowed := true, recurses := true, apart := false }
def SpaceActsSaid : Prop := spaceActsRow.holds Try.pinned (OpenSpec.ofChange spaceActsSpec)

/-- ITS FALSE NEIGHBOUR: 'it returns false'. Refute it at one input. -/
def spaceActsWrong : ChangeSpec := { name := "spaceActs", fn := fun _ => fun
  | [d1, d2] => { results := [.lit (.bool false)], args := [d1, d2] }
  | _ => none }
def SpaceActsWrongFalsely : Prop := spaceActsRow.holds Try.pinned (OpenSpec.ofChange spaceActsWrong)

/-- 'monocoquelaw14.SpaceNews': WHATEVER THE INPUT: true; the input reads as it did. -/
def spaceNewsSpec : ChangeSpec := { name := "spaceNews", fn := fun _ => fun
  | [d] => { results := [.lit (.bool true)], args := [d] }
  | _ => none }
def spaceNewsRow : OpenClaim := { program := "ytliggejkpmlgfaa", sum := "ad030cb63652206d74f29c1842547f1590b363370681d966278ff793527c8e31", func := "monocoque/monocoquelaw14.SpaceNews", spec := "spaceNews", unfollowed := true, recurses := true, apart := false }
def SpaceNewsSaid : Prop := spaceNewsRow.holds Try.pinned (OpenSpec.ofChange spaceNewsSpec)

/-- ITS FALSE NEIGHBOUR: 'it returns false'. Refute it at one input. -/
def spaceNewsWrong : ChangeSpec := { name := "spaceNews", fn := fun _ => fun
  | [d] => { results := [.lit (.bool false)], args := [d] }
  | _ => none }
def SpaceNewsWrongFalsely : Prop := spaceNewsRow.holds Try.pinned (OpenSpec.ofChange spaceNewsWrong)

/-- 'monocoquelaw14.SpaceApart': WHATEVER THE INPUT: true; the input reads as it did. -/
def spaceApartSpec : ChangeSpec := { name := "spaceApart", fn := fun _ => fun
  | [d1, d2, d3] => { results := [.lit (.bool true)], args := [d1, d2, d3] }
  | _ => none }
def spaceApartRow : OpenClaim := { program := "ytliggejkpmlgfaa", sum := "ad030cb63652206d74f29c1842547f1590b363370681d966278ff793527c8e31", func := "monocoque/monocoquelaw14.SpaceApart", spec := "spaceApart", unfollowed := true, recurses := true, apart := false }
def SpaceApartSaid : Prop := spaceApartRow.holds Try.pinned (OpenSpec.ofChange spaceApartSpec)

/-- ITS FALSE NEIGHBOUR: 'it returns false'. Refute it at one input. -/
def spaceApartWrong : ChangeSpec := { name := "spaceApart", fn := fun _ => fun
  | [d1, d2, d3] => { results := [.lit (.bool false)], args := [d1, d2, d3] }
  | _ => none }
def SpaceApartWrongFalsely : Prop := spaceApartRow.holds Try.pinned (OpenSpec.ofChange spaceApartWrong)

/-- 'monocoquelaw14.SpaceFresh': WHATEVER THE INPUT: true; the input reads as it did. -/
def spaceFreshSpec : ChangeSpec := { name := "spaceFresh", fn := fun _ => fun
  | [d1, d2, d3] => { results := [.lit (.bool true)], args := [d1, d2, d3] }
  | _ => none }
def spaceFreshRow : OpenClaim := { program := "ytliggejkpmlgfaa", sum := "ad030cb63652206d74f29c1842547f1590b363370681d966278ff793527c8e31", func := "monocoque/monocoquelaw14.SpaceFresh", spec := "spaceFresh", unfollowed := true, recurses := true, apart := false }
def SpaceFreshSaid : Prop := spaceFreshRow.holds Try.pinned (OpenSpec.ofChange spaceFreshSpec)

/-- ITS FALSE NEIGHBOUR: 'it returns false'. Refute it at one input. -/
def spaceFreshWrong : ChangeSpec := { name := "spaceFresh", fn := fun _ => fun
  | [d1, d2, d3] => { results := [.lit (.bool false)], args := [d1, d2, d3] }
  | _ => none }
def SpaceFreshWrongFalsely : Prop := spaceFreshRow.holds Try.pinned (OpenSpec.ofChange spaceFreshWrong)

/-- 'monocoquelaw14.SpaceClones': WHATEVER THE INPUT: true; the input reads as it did. -/
def spaceClonesSpec : ChangeSpec := { name := "spaceClones", fn := fun _ => fun
  | [d1, d2, d3] => { results := [.lit (.bool true)], args := [d1, d2, d3] }
  | _ => none }
def spaceClonesRow : OpenClaim := { program := "ytliggejkpmlgfaa", sum := "ad030cb63652206d74f29c1842547f1590b363370681d966278ff793527c8e31", func := "monocoque/monocoquelaw14.SpaceClones", spec := "spaceClones", unfollowed := true, recurses := true, apart := false }
def SpaceClonesSaid : Prop := spaceClonesRow.holds Try.pinned (OpenSpec.ofChange spaceClonesSpec)

/-- ITS FALSE NEIGHBOUR: 'it returns false'. Refute it at one input. -/
def spaceClonesWrong : ChangeSpec := { name := "spaceClones", fn := fun _ => fun
  | [d1, d2, d3] => { results := [.lit (.bool false)], args := [d1, d2, d3] }
  | _ => none }
def SpaceClonesWrongFalsely : Prop := spaceClonesRow.holds Try.pinned (OpenSpec.ofChange spaceClonesWrong)

/-- 'monocoquelaw14.SpaceFills': WHATEVER THE INPUT: true; the input reads as it did. -/
def spaceFillsSpec : ChangeSpec := { name := "spaceFills", fn := fun _ => fun
  | [d1, d2, d3] => { results := [.lit (.bool true)], args := [d1, d2, d3] }
  | _ => none }
def spaceFillsRow : OpenClaim := { program := "ytliggejkpmlgfaa", sum := "ad030cb63652206d74f29c1842547f1590b363370681d966278ff793527c8e31", func := "monocoque/monocoquelaw14.SpaceFills", spec := "spaceFills", unfollowed := true, recurses := true, apart := false }
def SpaceFillsSaid : Prop := spaceFillsRow.holds Try.pinned (OpenSpec.ofChange spaceFillsSpec)

/-- ITS FALSE NEIGHBOUR: 'it returns false'. Refute it at one input. -/
def spaceFillsWrong : ChangeSpec := { name := "spaceFills", fn := fun _ => fun
  | [d1, d2, d3] => { results := [.lit (.bool false)], args := [d1, d2, d3] }
  | _ => none }
def SpaceFillsWrongFalsely : Prop := spaceFillsRow.holds Try.pinned (OpenSpec.ofChange spaceFillsWrong)

/- THE SECOND FORM. 'bulk': how many values and letters a reading holds, each counted each time it is reached (what is shared counts as often as it is met; a slice's spare places count too). A statement '..UptoSaid' is the law's where the arguments, and the package variables that the reading takes, are together of bulk at most 1048576: NARROWER than '..Said'. Prove '..Said' where nothing that the law and all that it calls make is longer than what came in: it says more and counts as full. Else prove '..UptoSaid'. A law counts once. -/
mutual
def uptoBulk {H : Type} : DataW H → Nat
  | .lit (.string bytes) => bytes.length + 1
  | .lit _ => 1
  | .nil => 1
  | .ptr d => uptoBulk d + 1
  | .slice elems spare => uptoBulkAll elems + uptoBulkAll spare + 1
  | .agg parts => uptoBulkAll parts + 1
  | .iface _ d => uptoBulk d + 1
  | .map entries => uptoBulkEntries entries + 1
  | .held _ => 1
def uptoBulkAll {H : Type} : List (DataW H) → Nat
  | [] => 0
  | d :: r => uptoBulk d + uptoBulkAll r
def uptoBulkEntries {H : Type} : List (Lit × DataW H) → Nat
  | [] => 0
  | x :: r => uptoBulkEntry x + uptoBulkEntries r
def uptoBulkEntry {H : Type} : Lit × DataW H → Nat
  | (.string bytes, d) => bytes.length + uptoBulk d + 1
  | (_, d) => uptoBulk d + 1
 end
def uptoSmall : (H : Type) → List (DataW H) → Bool := fun _ ds => decide (uptoBulkAll ds ≤ 1048576)
def OpenSpec.upto (s : _root_.Go.ChangeSpec) : _root_.Go.OpenSpec := { _root_.Go.OpenSpec.ofChange s with cond := some uptoSmall }

/-- 'monocoquelaw14.SpaceActs', WHERE WHAT IT READS IS OF BULK AT MOST 1048576: true; the input reads as it did. -/
def spaceActsUptoRow : OpenClaim := { program := "ytliggejkpmlgfaa", sum := "ad030cb63652206d74f29c1842547f1590b363370681d966278ff793527c8e31", func := "monocoque/monocoquelaw14.SpaceActs", spec := "spaceActs", unfollowed := true, recurses := true, apart := false, narrowed := true }
def SpaceActsUptoSaid : Prop := spaceActsUptoRow.holds Try.pinned (OpenSpec.upto spaceActsSpec)

/-- 'monocoquelaw14.SpaceNews', WHERE WHAT IT READS IS OF BULK AT MOST 1048576: true; the input reads as it did. -/
def spaceNewsUptoRow : OpenClaim := { program := "ytliggejkpmlgfaa", sum := "ad030cb63652206d74f29c1842547f1590b363370681d966278ff793527c8e31", func := "monocoque/monocoquelaw14.SpaceNews", spec := "spaceNews", unfollowed := true, recurses := true, apart := false, narrowed := true }
def SpaceNewsUptoSaid : Prop := spaceNewsUptoRow.holds Try.pinned (OpenSpec.upto spaceNewsSpec)

/-- 'monocoquelaw14.SpaceApart', WHERE WHAT IT READS IS OF BULK AT MOST 1048576: true; the input reads as it did. -/
def spaceApartUptoRow : OpenClaim := { program := "ytliggejkpmlgfaa", sum := "ad030cb63652206d74f29c1842547f1590b363370681d966278ff793527c8e31", func := "monocoque/monocoquelaw14.SpaceApart", spec := "spaceApart", unfollowed := true, recurses := true, apart := false, narrowed := true }
def SpaceApartUptoSaid : Prop := spaceApartUptoRow.holds Try.pinned (OpenSpec.upto spaceApartSpec)

/-- 'monocoquelaw14.SpaceFresh', WHERE WHAT IT READS IS OF BULK AT MOST 1048576: true; the input reads as it did. -/
def spaceFreshUptoRow : OpenClaim := { program := "ytliggejkpmlgfaa", sum := "ad030cb63652206d74f29c1842547f1590b363370681d966278ff793527c8e31", func := "monocoque/monocoquelaw14.SpaceFresh", spec := "spaceFresh", unfollowed := true, recurses := true, apart := false, narrowed := true }
def SpaceFreshUptoSaid : Prop := spaceFreshUptoRow.holds Try.pinned (OpenSpec.upto spaceFreshSpec)

/-- 'monocoquelaw14.SpaceClones', WHERE WHAT IT READS IS OF BULK AT MOST 1048576: true; the input reads as it did. -/
def spaceClonesUptoRow : OpenClaim := { program := "ytliggejkpmlgfaa", sum := "ad030cb63652206d74f29c1842547f1590b363370681d966278ff793527c8e31", func := "monocoque/monocoquelaw14.SpaceClones", spec := "spaceClones", unfollowed := true, recurses := true, apart := false, narrowed := true }
def SpaceClonesUptoSaid : Prop := spaceClonesUptoRow.holds Try.pinned (OpenSpec.upto spaceClonesSpec)

/-- 'monocoquelaw14.SpaceFills', WHERE WHAT IT READS IS OF BULK AT MOST 1048576: true; the input reads as it did. -/
def spaceFillsUptoRow : OpenClaim := { program := "ytliggejkpmlgfaa", sum := "ad030cb63652206d74f29c1842547f1590b363370681d966278ff793527c8e31", func := "monocoque/monocoquelaw14.SpaceFills", spec := "spaceFills", unfollowed := true, recurses := true, apart := false, narrowed := true }
def SpaceFillsUptoSaid : Prop := spaceFillsUptoRow.holds Try.pinned (OpenSpec.upto spaceFillsSpec)

end Rows
end Go.Proofs.Ytliggejkpmlgfaa
