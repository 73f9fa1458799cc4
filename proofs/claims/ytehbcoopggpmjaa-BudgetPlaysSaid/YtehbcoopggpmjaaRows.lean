/-
  No cell of these rows narrows 'for every input' (looked for: loops, veiled, ifaces, maps, wideKeys, modest, calm, conditions, laid).
  DERIVED. THE GIVEN ROWS OF THIS SEAT. 6 by the template 'for every input the law returns true; each argument reads behind the call as it read before'; 0 by the template 'total and deterministic' (their statements: YtehbcoopggpmjaaTotals.lean).
  GIVEN WITH THE SEED: the statements are not yours to turn. If you find one false, say at which input.
  Laid BY PROGRAM, IN A SANDBOX (cutbox-rows.mjs): the forced cells as the released guide's own fill.sh prints them over the translation a8887c83a627117d… (all of the seat's roots in one cut). By AI agents, Wed Nov 11 2026. No macro, syntax, notation, axiom, sorry.
-/
import Derived.Test.YtehbcoopggpmjaaChecked
import GoSem.Claim
import GoSem.ClaimJoined
import GoSem.ClaimMapViews
import Derived.JoinedTies
import Derived.KernelRfl
namespace Go.Proofs.Ytehbcoopggpmjaa
/- THE CELL 'sum', in the pinned program and in every row, IS THE sha256 OF THE DUMP (.gsa) THAT YtehbcoopggpmjaaProg.lean LOADS. Nothing in Lean hashes anything: it is a label: what it is worth is what the hold of that sum in a sandbox is worth. -/
noncomputable def Try.pinned : Pinned := { name := "ytehbcoopggpmjaa", sum := "a8887c83a627117d15565df3675589bcd3a1c57c83a79558f7000b221301f412", checked := Try.checked }
namespace Rows
def none {H : Type} : Left H := { results := [], args := [] }

/-- 'monocoquelaw30.BudgetPlays': WHATEVER THE INPUT: true; the input reads as it did. -/
def budgetPlaysSpec : ChangeSpec := { name := "budgetPlays", fn := fun _ => fun
  | [d1, d2, d3, d4] => { results := [.lit (.bool true)], args := [d1, d2, d3, d4] }
  | _ => none }
def budgetPlaysRow : OpenClaim := { program := "ytehbcoopggpmjaa", sum := "a8887c83a627117d15565df3675589bcd3a1c57c83a79558f7000b221301f412", func := "monocoque/monocoquelaw30.BudgetPlays", spec := "budgetPlays", apart := false }
def BudgetPlaysSaid : Prop := budgetPlaysRow.holds Try.pinned (OpenSpec.ofChange budgetPlaysSpec)

/-- ITS FALSE NEIGHBOUR: 'it returns false'. Refute it at one input. -/
def budgetPlaysWrong : ChangeSpec := { name := "budgetPlays", fn := fun _ => fun
  | [d1, d2, d3, d4] => { results := [.lit (.bool false)], args := [d1, d2, d3, d4] }
  | _ => none }
def BudgetPlaysWrongFalsely : Prop := budgetPlaysRow.holds Try.pinned (OpenSpec.ofChange budgetPlaysWrong)

/-- 'monocoquelaw30.BudgetBound': WHATEVER THE INPUT: true; the input reads as it did. -/
def budgetBoundSpec : ChangeSpec := { name := "budgetBound", fn := fun _ => fun
  | [d1, d2, d3, d4] => { results := [.lit (.bool true)], args := [d1, d2, d3, d4] }
  | _ => none }
def budgetBoundRow : OpenClaim := { program := "ytehbcoopggpmjaa", sum := "a8887c83a627117d15565df3675589bcd3a1c57c83a79558f7000b221301f412", func := "monocoque/monocoquelaw30.BudgetBound", spec := "budgetBound", apart := false }
def BudgetBoundSaid : Prop := budgetBoundRow.holds Try.pinned (OpenSpec.ofChange budgetBoundSpec)

/-- ITS FALSE NEIGHBOUR: 'it returns false'. Refute it at one input. -/
def budgetBoundWrong : ChangeSpec := { name := "budgetBound", fn := fun _ => fun
  | [d1, d2, d3, d4] => { results := [.lit (.bool false)], args := [d1, d2, d3, d4] }
  | _ => none }
def BudgetBoundWrongFalsely : Prop := budgetBoundRow.holds Try.pinned (OpenSpec.ofChange budgetBoundWrong)

/-- 'monocoquelaw30.BudgetGives': WHATEVER THE INPUT: true; the input reads as it did. -/
def budgetGivesSpec : ChangeSpec := { name := "budgetGives", fn := fun _ => fun
  | [d1, d2, d3, d4] => { results := [.lit (.bool true)], args := [d1, d2, d3, d4] }
  | _ => none }
def budgetGivesRow : OpenClaim := { program := "ytehbcoopggpmjaa", sum := "a8887c83a627117d15565df3675589bcd3a1c57c83a79558f7000b221301f412", func := "monocoque/monocoquelaw30.BudgetGives", spec := "budgetGives", apart := false }
def BudgetGivesSaid : Prop := budgetGivesRow.holds Try.pinned (OpenSpec.ofChange budgetGivesSpec)

/-- ITS FALSE NEIGHBOUR: 'it returns false'. Refute it at one input. -/
def budgetGivesWrong : ChangeSpec := { name := "budgetGives", fn := fun _ => fun
  | [d1, d2, d3, d4] => { results := [.lit (.bool false)], args := [d1, d2, d3, d4] }
  | _ => none }
def BudgetGivesWrongFalsely : Prop := budgetGivesRow.holds Try.pinned (OpenSpec.ofChange budgetGivesWrong)

/-- 'monocoquelaw30.BudgetNil': WHATEVER THE INPUT: true; the input reads as it did. -/
def budgetNilSpec : ChangeSpec := { name := "budgetNil", fn := fun _ => fun
  | [d1, d2] => { results := [.lit (.bool true)], args := [d1, d2] }
  | _ => none }
def budgetNilRow : OpenClaim := { program := "ytehbcoopggpmjaa", sum := "a8887c83a627117d15565df3675589bcd3a1c57c83a79558f7000b221301f412", func := "monocoque/monocoquelaw30.BudgetNil", spec := "budgetNil", apart := false }
def BudgetNilSaid : Prop := budgetNilRow.holds Try.pinned (OpenSpec.ofChange budgetNilSpec)

/-- ITS FALSE NEIGHBOUR: 'it returns false'. Refute it at one input. -/
def budgetNilWrong : ChangeSpec := { name := "budgetNil", fn := fun _ => fun
  | [d1, d2] => { results := [.lit (.bool false)], args := [d1, d2] }
  | _ => none }
def BudgetNilWrongFalsely : Prop := budgetNilRow.holds Try.pinned (OpenSpec.ofChange budgetNilWrong)

/-- 'monocoquelaw30.BudgetParts': WHATEVER THE INPUT: true; the input reads as it did. -/
def budgetPartsSpec : ChangeSpec := { name := "budgetParts", fn := fun _ => fun
  | [d1, d2, d3, d4] => { results := [.lit (.bool true)], args := [d1, d2, d3, d4] }
  | _ => none }
def budgetPartsRow : OpenClaim := { program := "ytehbcoopggpmjaa", sum := "a8887c83a627117d15565df3675589bcd3a1c57c83a79558f7000b221301f412", func := "monocoque/monocoquelaw30.BudgetParts", spec := "budgetParts", apart := false }
def BudgetPartsSaid : Prop := budgetPartsRow.holds Try.pinned (OpenSpec.ofChange budgetPartsSpec)

/-- ITS FALSE NEIGHBOUR: 'it returns false'. Refute it at one input. -/
def budgetPartsWrong : ChangeSpec := { name := "budgetParts", fn := fun _ => fun
  | [d1, d2, d3, d4] => { results := [.lit (.bool false)], args := [d1, d2, d3, d4] }
  | _ => none }
def BudgetPartsWrongFalsely : Prop := budgetPartsRow.holds Try.pinned (OpenSpec.ofChange budgetPartsWrong)

/-- 'monocoquelaw30.BudgetMoves': WHATEVER THE INPUT: true; the input reads as it did. -/
def budgetMovesSpec : ChangeSpec := { name := "budgetMoves", fn := fun _ => fun
  | [d1, d2, d3, d4, d5] => { results := [.lit (.bool true)], args := [d1, d2, d3, d4, d5] }
  | _ => none }
def budgetMovesRow : OpenClaim := { program := "ytehbcoopggpmjaa", sum := "a8887c83a627117d15565df3675589bcd3a1c57c83a79558f7000b221301f412", func := "monocoque/monocoquelaw30.BudgetMoves", spec := "budgetMoves", apart := false }
def BudgetMovesSaid : Prop := budgetMovesRow.holds Try.pinned (OpenSpec.ofChange budgetMovesSpec)

/-- ITS FALSE NEIGHBOUR: 'it returns false'. Refute it at one input. -/
def budgetMovesWrong : ChangeSpec := { name := "budgetMoves", fn := fun _ => fun
  | [d1, d2, d3, d4, d5] => { results := [.lit (.bool false)], args := [d1, d2, d3, d4, d5] }
  | _ => none }
def BudgetMovesWrongFalsely : Prop := budgetMovesRow.holds Try.pinned (OpenSpec.ofChange budgetMovesWrong)

/- THE SECOND FORM. 'bulk': how many values and letters a reading holds, each counted each time it is reached (what is shared counts as often as it is met; a slice's spare places count too). A statement '..UptoSaid' is the law's where the arguments, and the package variables that the reading takes, are together of bulk at most 1048576: NARROWER than '..Said'. Prove '..Said' where nothing that the law and all that it calls make is longer than what came in: it says more and counts as full. Else prove '..UptoSaid'. A law counts once. -/
mutual
def uptoBulk {H : Type} : DataW H → Nat
  | .lit (.string bytes) => bytes.length + 1
  | .lit _ => 1
  | .nil => 1
  | .ptr d => uptoBulk d + 1
  | .slice elems spare => uptoBulkAll elems + uptoBulkAll spare + 1
  | .agg parts => uptoBulkAll parts + 1
  | .iface _ d => uptoBulk d + 1
  | .map entries => uptoBulkEntries entries + 1
  | .held _ => 1
def uptoBulkAll {H : Type} : List (DataW H) → Nat
  | [] => 0
  | d :: r => uptoBulk d + uptoBulkAll r
def uptoBulkEntries {H : Type} : List (Lit × DataW H) → Nat
  | [] => 0
  | x :: r => uptoBulkEntry x + uptoBulkEntries r
def uptoBulkEntry {H : Type} : Lit × DataW H → Nat
  | (.string bytes, d) => bytes.length + uptoBulk d + 1
  | (_, d) => uptoBulk d + 1
 end
def uptoSmall : (H : Type) → List (DataW H) → Bool := fun _ ds => decide (uptoBulkAll ds ≤ 1048576)
def OpenSpec.upto (s : _root_.Go.ChangeSpec) : _root_.Go.OpenSpec := { _root_.Go.OpenSpec.ofChange s with cond := some uptoSmall }

/-- 'monocoquelaw30.BudgetPlays', WHERE WHAT IT READS IS OF BULK AT MOST 1048576: true; the input reads as it did. -/
def budgetPlaysUptoRow : OpenClaim := { program := "ytehbcoopggpmjaa", sum := "a8887c83a627117d15565df3675589bcd3a1c57c83a79558f7000b221301f412", func := "monocoque/monocoquelaw30.BudgetPlays", spec := "budgetPlays", apart := false, narrowed := true }
def BudgetPlaysUptoSaid : Prop := budgetPlaysUptoRow.holds Try.pinned (OpenSpec.upto budgetPlaysSpec)

/-- 'monocoquelaw30.BudgetBound', WHERE WHAT IT READS IS OF BULK AT MOST 1048576: true; the input reads as it did. -/
def budgetBoundUptoRow : OpenClaim := { program := "ytehbcoopggpmjaa", sum := "a8887c83a627117d15565df3675589bcd3a1c57c83a79558f7000b221301f412", func := "monocoque/monocoquelaw30.BudgetBound", spec := "budgetBound", apart := false, narrowed := true }
def BudgetBoundUptoSaid : Prop := budgetBoundUptoRow.holds Try.pinned (OpenSpec.upto budgetBoundSpec)

/-- 'monocoquelaw30.BudgetGives', WHERE WHAT IT READS IS OF BULK AT MOST 1048576: true; the input reads as it did. -/
def budgetGivesUptoRow : OpenClaim := { program := "ytehbcoopggpmjaa", sum := "a8887c83a627117d15565df3675589bcd3a1c57c83a79558f7000b221301f412", func := "monocoque/monocoquelaw30.BudgetGives", spec := "budgetGives", apart := false, narrowed := true }
def BudgetGivesUptoSaid : Prop := budgetGivesUptoRow.holds Try.pinned (OpenSpec.upto budgetGivesSpec)

/-- 'monocoquelaw30.BudgetNil', WHERE WHAT IT READS IS OF BULK AT MOST 1048576: true; the input reads as it did. -/
def budgetNilUptoRow : OpenClaim := { program := "ytehbcoopggpmjaa", sum := "a8887c83a627117d15565df3675589bcd3a1c57c83a79558f7000b221301f412", func := "monocoque/monocoquelaw30.BudgetNil", spec := "budgetNil", apart := false, narrowed := true }
def BudgetNilUptoSaid : Prop := budgetNilUptoRow.holds Try.pinned (OpenSpec.upto budgetNilSpec)

/-- 'monocoquelaw30.BudgetParts', WHERE WHAT IT READS IS OF BULK AT MOST 1048576: true; the input reads as it did. -/
def budgetPartsUptoRow : OpenClaim := { program := "ytehbcoopggpmjaa", sum := "a8887c83a627117d15565df3675589bcd3a1c57c83a79558f7000b221301f412", func := "monocoque/monocoquelaw30.BudgetParts", spec := "budgetParts", apart := false, narrowed := true }
def BudgetPartsUptoSaid : Prop := budgetPartsUptoRow.holds Try.pinned (OpenSpec.upto budgetPartsSpec)

/-- 'monocoquelaw30.BudgetMoves', WHERE WHAT IT READS IS OF BULK AT MOST 1048576: true; the input reads as it did. -/
def budgetMovesUptoRow : OpenClaim := { program := "ytehbcoopggpmjaa", sum := "a8887c83a627117d15565df3675589bcd3a1c57c83a79558f7000b221301f412", func := "monocoque/monocoquelaw30.BudgetMoves", spec := "budgetMoves", apart := false, narrowed := true }
def BudgetMovesUptoSaid : Prop := budgetMovesUptoRow.holds Try.pinned (OpenSpec.upto budgetMovesSpec)

end Rows
end Go.Proofs.Ytehbcoopggpmjaa
