/-
  No cell of these rows narrows 'for every input' (looked for: loops, veiled, ifaces, maps, wideKeys, modest, calm, conditions, laid).
  DERIVED. THE GIVEN ROWS OF THIS SEAT. 7 by the template 'for every input the law returns true; each argument reads behind the call as it read before'; 0 by the template 'total and deterministic' (their statements: YtkbjonblflhkoaaTotals.lean).
  GIVEN WITH THE SEED: the statements are not yours to turn. If you find one false, say at which input.
  Laid BY PROGRAM, IN A SANDBOX (cutbox-rows.mjs): the forced cells as the released guide's own fill.sh prints them over the translation 73b4f4280941b5be… (all of the seat's roots in one cut). By AI agents, Wed Nov 11 2026. No macro, syntax, notation, axiom, sorry.
-/
import Derived.Test.YtkbjonblflhkoaaChecked
import GoSem.Claim
import GoSem.ClaimJoined
import GoSem.ClaimMapViews
import Derived.JoinedTies
import Derived.KernelRfl
namespace Go.Proofs.Ytkbjonblflhkoaa
/- THE CELL 'sum', in the pinned program and in every row, IS THE sha256 OF THE DUMP (.gsa) THAT YtkbjonblflhkoaaProg.lean LOADS. Nothing in Lean hashes anything: it is a label: what it is worth is what the hold of that sum in a sandbox is worth. -/
noncomputable def Try.pinned : Pinned := { name := "ytkbjonblflhkoaa", sum := "73b4f4280941b5be45c63a1ff69380e66b07bcde7b923bad842e9c6fafdac5ad", checked := Try.checked }
namespace Rows
def none {H : Type} : Left H := { results := [], args := [] }

/-- 'monocoquelaw29.LinkSends': WHATEVER THE INPUT: true; the input reads as it did. -/
def linkSendsSpec : ChangeSpec := { name := "linkSends", fn := fun _ => fun
  | [d1, d2] => { results := [.lit (.bool true)], args := [d1, d2] }
  | _ => none }
def linkSendsRow : OpenClaim := { program := "ytkbjonblflhkoaa", sum := "73b4f4280941b5be45c63a1ff69380e66b07bcde7b923bad842e9c6fafdac5ad", func := "monocoque/monocoquelaw29.LinkSends", spec := "linkSends", apart := false }
def LinkSendsSaid : Prop := linkSendsRow.holds Try.pinned (OpenSpec.ofChange linkSendsSpec)

/-- ITS FALSE NEIGHBOUR: 'it returns false'. Refute it at one input. -/
def linkSendsWrong : ChangeSpec := { name := "linkSends", fn := fun _ => fun
  | [d1, d2] => { results := [.lit (.bool false)], args := [d1, d2] }
  | _ => none }
def LinkSendsWrongFalsely : Prop := linkSendsRow.holds Try.pinned (OpenSpec.ofChange linkSendsWrong)

/-- 'monocoquelaw29.LinkGaps': WHATEVER THE INPUT: true; the input reads as it did. -/
def linkGapsSpec : ChangeSpec := { name := "linkGaps", fn := fun _ => fun
  | [d1, d2, d3] => { results := [.lit (.bool true)], args := [d1, d2, d3] }
  | _ => none }
def linkGapsRow : OpenClaim := { program := "ytkbjonblflhkoaa", sum := "73b4f4280941b5be45c63a1ff69380e66b07bcde7b923bad842e9c6fafdac5ad", func := "monocoque/monocoquelaw29.LinkGaps", spec := "linkGaps", apart := false }
def LinkGapsSaid : Prop := linkGapsRow.holds Try.pinned (OpenSpec.ofChange linkGapsSpec)

/-- ITS FALSE NEIGHBOUR: 'it returns false'. Refute it at one input. -/
def linkGapsWrong : ChangeSpec := { name := "linkGaps", fn := fun _ => fun
  | [d1, d2, d3] => { results := [.lit (.bool false)], args := [d1, d2, d3] }
  | _ => none }
def LinkGapsWrongFalsely : Prop := linkGapsRow.holds Try.pinned (OpenSpec.ofChange linkGapsWrong)

/-- 'monocoquelaw29.LinkTakes': WHATEVER THE INPUT: true; the input reads as it did. -/
def linkTakesSpec : ChangeSpec := { name := "linkTakes", fn := fun _ => fun
  | [d1, d2] => { results := [.lit (.bool true)], args := [d1, d2] }
  | _ => none }
def linkTakesRow : OpenClaim := { program := "ytkbjonblflhkoaa", sum := "73b4f4280941b5be45c63a1ff69380e66b07bcde7b923bad842e9c6fafdac5ad", func := "monocoque/monocoquelaw29.LinkTakes", spec := "linkTakes", apart := false }
def LinkTakesSaid : Prop := linkTakesRow.holds Try.pinned (OpenSpec.ofChange linkTakesSpec)

/-- ITS FALSE NEIGHBOUR: 'it returns false'. Refute it at one input. -/
def linkTakesWrong : ChangeSpec := { name := "linkTakes", fn := fun _ => fun
  | [d1, d2] => { results := [.lit (.bool false)], args := [d1, d2] }
  | _ => none }
def LinkTakesWrongFalsely : Prop := linkTakesRow.holds Try.pinned (OpenSpec.ofChange linkTakesWrong)

/-- 'monocoquelaw29.LinkOnce': WHATEVER THE INPUT: true; the input reads as it did. -/
def linkOnceSpec : ChangeSpec := { name := "linkOnce", fn := fun _ => fun
  | [d1, d2] => { results := [.lit (.bool true)], args := [d1, d2] }
  | _ => none }
def linkOnceRow : OpenClaim := { program := "ytkbjonblflhkoaa", sum := "73b4f4280941b5be45c63a1ff69380e66b07bcde7b923bad842e9c6fafdac5ad", func := "monocoque/monocoquelaw29.LinkOnce", spec := "linkOnce", apart := false }
def LinkOnceSaid : Prop := linkOnceRow.holds Try.pinned (OpenSpec.ofChange linkOnceSpec)

/-- ITS FALSE NEIGHBOUR: 'it returns false'. Refute it at one input. -/
def linkOnceWrong : ChangeSpec := { name := "linkOnce", fn := fun _ => fun
  | [d1, d2] => { results := [.lit (.bool false)], args := [d1, d2] }
  | _ => none }
def LinkOnceWrongFalsely : Prop := linkOnceRow.holds Try.pinned (OpenSpec.ofChange linkOnceWrong)

/-- 'monocoquelaw29.LinkNews': WHATEVER THE INPUT: true; the input reads as it did. -/
def linkNewsSpec : ChangeSpec := { name := "linkNews", fn := fun _ => fun
  | [d1, d2, d3] => { results := [.lit (.bool true)], args := [d1, d2, d3] }
  | _ => none }
def linkNewsRow : OpenClaim := { program := "ytkbjonblflhkoaa", sum := "73b4f4280941b5be45c63a1ff69380e66b07bcde7b923bad842e9c6fafdac5ad", func := "monocoque/monocoquelaw29.LinkNews", spec := "linkNews", unfollowed := true, recurses := true, apart := false }
def LinkNewsSaid : Prop := linkNewsRow.holds Try.pinned (OpenSpec.ofChange linkNewsSpec)

/-- ITS FALSE NEIGHBOUR: 'it returns false'. Refute it at one input. -/
def linkNewsWrong : ChangeSpec := { name := "linkNews", fn := fun _ => fun
  | [d1, d2, d3] => { results := [.lit (.bool false)], args := [d1, d2, d3] }
  | _ => none }
def LinkNewsWrongFalsely : Prop := linkNewsRow.holds Try.pinned (OpenSpec.ofChange linkNewsWrong)

/-- 'monocoquelaw29.LinkClones': WHATEVER THE INPUT: true; the input reads as it did. -/
def linkClonesSpec : ChangeSpec := { name := "linkClones", fn := fun _ => fun
  | [d1, d2, d3] => { results := [.lit (.bool true)], args := [d1, d2, d3] }
  | _ => none }
def linkClonesRow : OpenClaim := { program := "ytkbjonblflhkoaa", sum := "73b4f4280941b5be45c63a1ff69380e66b07bcde7b923bad842e9c6fafdac5ad", func := "monocoque/monocoquelaw29.LinkClones", spec := "linkClones", unfollowed := true, recurses := true, apart := false }
def LinkClonesSaid : Prop := linkClonesRow.holds Try.pinned (OpenSpec.ofChange linkClonesSpec)

/-- ITS FALSE NEIGHBOUR: 'it returns false'. Refute it at one input. -/
def linkClonesWrong : ChangeSpec := { name := "linkClones", fn := fun _ => fun
  | [d1, d2, d3] => { results := [.lit (.bool false)], args := [d1, d2, d3] }
  | _ => none }
def LinkClonesWrongFalsely : Prop := linkClonesRow.holds Try.pinned (OpenSpec.ofChange linkClonesWrong)

/-- 'monocoquelaw29.LinkHears': WHATEVER THE INPUT: true; the input reads as it did. -/
def linkHearsSpec : ChangeSpec := { name := "linkHears", fn := fun _ => fun
  | [d1, d2] => { results := [.lit (.bool true)], args := [d1, d2] }
  | _ => none }
def linkHearsRow : OpenClaim := { program := "ytkbjonblflhkoaa", sum := "73b4f4280941b5be45c63a1ff69380e66b07bcde7b923bad842e9c6fafdac5ad", func := "monocoque/monocoquelaw29.LinkHears", spec := "linkHears", apart := false }
def LinkHearsSaid : Prop := linkHearsRow.holds Try.pinned (OpenSpec.ofChange linkHearsSpec)

/-- ITS FALSE NEIGHBOUR: 'it returns false'. Refute it at one input. -/
def linkHearsWrong : ChangeSpec := { name := "linkHears", fn := fun _ => fun
  | [d1, d2] => { results := [.lit (.bool false)], args := [d1, d2] }
  | _ => none }
def LinkHearsWrongFalsely : Prop := linkHearsRow.holds Try.pinned (OpenSpec.ofChange linkHearsWrong)

/- THE SECOND FORM. 'bulk': how many values and letters a reading holds, each counted each time it is reached (what is shared counts as often as it is met; a slice's spare places count too). A statement '..UptoSaid' is the law's where the arguments, and the package variables that the reading takes, are together of bulk at most 1048576: NARROWER than '..Said'. Prove '..Said' where nothing that the law and all that it calls make is longer than what came in: it says more and counts as full. Else prove '..UptoSaid'. A law counts once. -/
mutual
def uptoBulk {H : Type} : DataW H → Nat
  | .lit (.string bytes) => bytes.length + 1
  | .lit _ => 1
  | .nil => 1
  | .ptr d => uptoBulk d + 1
  | .slice elems spare => uptoBulkAll elems + uptoBulkAll spare + 1
  | .agg parts => uptoBulkAll parts + 1
  | .iface _ d => uptoBulk d + 1
  | .map entries => uptoBulkEntries entries + 1
  | .held _ => 1
def uptoBulkAll {H : Type} : List (DataW H) → Nat
  | [] => 0
  | d :: r => uptoBulk d + uptoBulkAll r
def uptoBulkEntries {H : Type} : List (Lit × DataW H) → Nat
  | [] => 0
  | x :: r => uptoBulkEntry x + uptoBulkEntries r
def uptoBulkEntry {H : Type} : Lit × DataW H → Nat
  | (.string bytes, d) => bytes.length + uptoBulk d + 1
  | (_, d) => uptoBulk d + 1
 end
def uptoSmall : (H : Type) → List (DataW H) → Bool := fun _ ds => decide (uptoBulkAll ds ≤ 1048576)
def OpenSpec.upto (s : _root_.Go.ChangeSpec) : _root_.Go.OpenSpec := { _root_.Go.OpenSpec.ofChange s with cond := some uptoSmall }

/-- 'monocoquelaw29.LinkSends', WHERE WHAT IT READS IS OF BULK AT MOST 1048576: true; the input reads as it did. -/
def linkSendsUptoRow : OpenClaim := { program := "ytkbjonblflhkoaa", sum := "73b4f4280941b5be45c63a1ff69380e66b07bcde7b923bad842e9c6fafdac5ad", func := "monocoque/monocoquelaw29.LinkSends", spec := "linkSends", apart := false, narrowed := true }
def LinkSendsUptoSaid : Prop := linkSendsUptoRow.holds Try.pinned (OpenSpec.upto linkSendsSpec)

/-- 'monocoquelaw29.LinkGaps', WHERE WHAT IT READS IS OF BULK AT MOST 1048576: true; the input reads as it did. -/
def linkGapsUptoRow : OpenClaim := { program := "ytkbjonblflhkoaa", sum := "73b4f4280941b5be45c63a1ff69380e66b07bcde7b923bad842e9c6fafdac5ad", func := "monocoque/monocoquelaw29.LinkGaps", spec := "linkGaps", apart := false, narrowed := true }
def LinkGapsUptoSaid : Prop := linkGapsUptoRow.holds Try.pinned (OpenSpec.upto linkGapsSpec)

/-- 'monocoquelaw29.LinkTakes', WHERE WHAT IT READS IS OF BULK AT MOST 1048576: true; the input reads as it did. -/
def linkTakesUptoRow : OpenClaim := { program := "ytkbjonblflhkoaa", sum := "73b4f4280941b5be45c63a1ff69380e66b07bcde7b923bad842e9c6fafdac5ad", func := "monocoque/monocoquelaw29.LinkTakes", spec := "linkTakes", apart := false, narrowed := true }
def LinkTakesUptoSaid : Prop := linkTakesUptoRow.holds Try.pinned (OpenSpec.upto linkTakesSpec)

/-- 'monocoquelaw29.LinkOnce', WHERE WHAT IT READS IS OF BULK AT MOST 1048576: true; the input reads as it did. -/
def linkOnceUptoRow : OpenClaim := { program := "ytkbjonblflhkoaa", sum := "73b4f4280941b5be45c63a1ff69380e66b07bcde7b923bad842e9c6fafdac5ad", func := "monocoque/monocoquelaw29.LinkOnce", spec := "linkOnce", apart := false, narrowed := true }
def LinkOnceUptoSaid : Prop := linkOnceUptoRow.holds Try.pinned (OpenSpec.upto linkOnceSpec)

/-- 'monocoquelaw29.LinkNews', WHERE WHAT IT READS IS OF BULK AT MOST 1048576: true; the input reads as it did. -/
def linkNewsUptoRow : OpenClaim := { program := "ytkbjonblflhkoaa", sum := "73b4f4280941b5be45c63a1ff69380e66b07bcde7b923bad842e9c6fafdac5ad", func := "monocoque/monocoquelaw29.LinkNews", spec := "linkNews", unfollowed := true, recurses := true, apart := false, narrowed := true }
def LinkNewsUptoSaid : Prop := linkNewsUptoRow.holds Try.pinned (OpenSpec.upto linkNewsSpec)

/-- 'monocoquelaw29.LinkClones', WHERE WHAT IT READS IS OF BULK AT MOST 1048576: true; the input reads as it did. -/
def linkClonesUptoRow : OpenClaim := { program := "ytkbjonblflhkoaa", sum := "73b4f4280941b5be45c63a1ff69380e66b07bcde7b923bad842e9c6fafdac5ad", func := "monocoque/monocoquelaw29.LinkClones", spec := "linkClones", unfollowed := true, recurses := true, apart := false, narrowed := true }
def LinkClonesUptoSaid : Prop := linkClonesUptoRow.holds Try.pinned (OpenSpec.upto linkClonesSpec)

/-- 'monocoquelaw29.LinkHears', WHERE WHAT IT READS IS OF BULK AT MOST 1048576: true; the input reads as it did. -/
def linkHearsUptoRow : OpenClaim := { program := "ytkbjonblflhkoaa", sum := "73b4f4280941b5be45c63a1ff69380e66b07bcde7b923bad842e9c6fafdac5ad", func := "monocoque/monocoquelaw29.LinkHears", spec := "linkHears", apart := false, narrowed := true }
def LinkHearsUptoSaid : Prop := linkHearsUptoRow.holds Try.pinned (OpenSpec.upto linkHearsSpec)

end Rows
end Go.Proofs.Ytkbjonblflhkoaa
