/-
  DERIVED. GIVEN WITH THE SEED: THE CARDS: each row of YtglpbngdikfliaaDoorRows.lean that lists a variable, with what it lists TIED to the program's text (the seventh form; the later family's looks); each row that meets fmt, with fmt's text TOLD by the authors' own Lean function (tested against real Go, not proved from fmt's source: count such statements apart). THE CARD IS WHAT COUNTS. Prove the row's statement (the work); the ties are given (YtglpbngdikfliaaDoorTie.lean); close each card by the builder's one call (the guide's Derived/Test/ToyasCard.lean, 'card_holds'). Laid BY PROGRAM, IN A SANDBOX (cutbox-door.mjs). By AI agents, Wed Nov 11 2026. No macro, syntax, notation, axiom, sorry.
-/
import Derived.Test.YtglpbngdikfliaaDoorRows
import GoSem.ClaimSeven
namespace Go.Proofs.YtglpbngdikfliaaDoor
namespace Rows

/-- THE TIED CARD OF 'monocoquelaw33.CallsDecodes'. -/
def callsDecodesCard : Claim7 := { stood := { row := callsDecodesRow, standIns := [], harness := (true, "89db3b3e7e6e679d7cf6740281aaf808430a5031006d547fa1ee94939c994eb1"), looks := false }, kinds := [], alts := [], laidByText := true, laidKinds := [.data], laidTests := true, laidLooks := .later }
def CallsDecodesCardSaid : Prop := Claim7.holds Tryd.pinned (.plain (OpenSpec.ofChange callsDecodesSpec)) callsDecodesCard

/-- THE TIED CARD OF 'monocoquelaw33.CallsEncodes'. -/
def callsEncodesCard : Claim7 := { stood := { row := callsEncodesRow, standIns := [], harness := (true, "89db3b3e7e6e679d7cf6740281aaf808430a5031006d547fa1ee94939c994eb1"), looks := false }, kinds := [], alts := [], laidByText := true, laidKinds := [.data], laidTests := true, laidLooks := .later }
def CallsEncodesCardSaid : Prop := Claim7.holds Tryd.pinned (.plain (OpenSpec.ofChange callsEncodesSpec)) callsEncodesCard

/-- THE TIED CARD OF 'monocoquelaw33.CallsOthers'. -/
def callsOthersCard : Claim7 := { stood := { row := callsOthersRow, standIns := [], harness := (true, "89db3b3e7e6e679d7cf6740281aaf808430a5031006d547fa1ee94939c994eb1"), looks := false }, kinds := [], alts := [], laidByText := true, laidKinds := [.data], laidTests := true, laidLooks := .later }
def CallsOthersCardSaid : Prop := Claim7.holds Tryd.pinned (.plain (OpenSpec.ofChange callsOthersSpec)) callsOthersCard

/-- THE TIED CARD OF 'monocoquelaw33.CallsWords'. -/
def callsWordsCard : Claim7 := { stood := { row := callsWordsRow, standIns := [], harness := (true, "89db3b3e7e6e679d7cf6740281aaf808430a5031006d547fa1ee94939c994eb1"), looks := false }, kinds := [], alts := [], laidByText := true, laidKinds := [.data], laidTests := true, laidLooks := .later }
def CallsWordsCardSaid : Prop := Claim7.holds Tryd.pinned (.plain (OpenSpec.ofChange callsWordsSpec)) callsWordsCard

/-- THE TIED CARD OF 'monocoquelaw33.CallsBounds'. -/
def callsBoundsCard : Claim7 := { stood := { row := callsBoundsRow, standIns := [], harness := (true, "89db3b3e7e6e679d7cf6740281aaf808430a5031006d547fa1ee94939c994eb1"), looks := false }, kinds := [], alts := [], laidByText := true, laidKinds := [.data], laidTests := true, laidLooks := .later }
def CallsBoundsCardSaid : Prop := Claim7.holds Tryd.pinned (.plain (OpenSpec.ofChange callsBoundsSpec)) callsBoundsCard

/-- THE TIED CARD OF 'monocoquelaw33.CallsDear'. -/
def callsDearCard : Claim7 := { stood := { row := callsDearRow, standIns := [], harness := (true, "89db3b3e7e6e679d7cf6740281aaf808430a5031006d547fa1ee94939c994eb1"), looks := false }, kinds := [], alts := [], laidByText := true, laidKinds := [.data], laidTests := true, laidLooks := .later }
def CallsDearCardSaid : Prop := Claim7.holds Tryd.pinned (.plain (OpenSpec.ofChange callsDearSpec)) callsDearCard

/-- THE SECOND FORM's CARD OF 'monocoquelaw33.CallsDecodes'. -/
def callsDecodesUptoCard : Claim7 := { stood := { row := callsDecodesUptoRow, standIns := [], harness := (true, "89db3b3e7e6e679d7cf6740281aaf808430a5031006d547fa1ee94939c994eb1"), looks := false }, kinds := [], alts := [], laidByText := true, laidKinds := [.data], laidTests := true, laidLooks := .later }
def CallsDecodesUptoCardSaid : Prop := Claim7.holds Tryd.pinned (.plain (OpenSpec.upto callsDecodesSpec)) callsDecodesUptoCard

/-- THE SECOND FORM's CARD OF 'monocoquelaw33.CallsEncodes'. -/
def callsEncodesUptoCard : Claim7 := { stood := { row := callsEncodesUptoRow, standIns := [], harness := (true, "89db3b3e7e6e679d7cf6740281aaf808430a5031006d547fa1ee94939c994eb1"), looks := false }, kinds := [], alts := [], laidByText := true, laidKinds := [.data], laidTests := true, laidLooks := .later }
def CallsEncodesUptoCardSaid : Prop := Claim7.holds Tryd.pinned (.plain (OpenSpec.upto callsEncodesSpec)) callsEncodesUptoCard

/-- THE SECOND FORM's CARD OF 'monocoquelaw33.CallsOthers'. -/
def callsOthersUptoCard : Claim7 := { stood := { row := callsOthersUptoRow, standIns := [], harness := (true, "89db3b3e7e6e679d7cf6740281aaf808430a5031006d547fa1ee94939c994eb1"), looks := false }, kinds := [], alts := [], laidByText := true, laidKinds := [.data], laidTests := true, laidLooks := .later }
def CallsOthersUptoCardSaid : Prop := Claim7.holds Tryd.pinned (.plain (OpenSpec.upto callsOthersSpec)) callsOthersUptoCard

/-- THE SECOND FORM's CARD OF 'monocoquelaw33.CallsWords'. -/
def callsWordsUptoCard : Claim7 := { stood := { row := callsWordsUptoRow, standIns := [], harness := (true, "89db3b3e7e6e679d7cf6740281aaf808430a5031006d547fa1ee94939c994eb1"), looks := false }, kinds := [], alts := [], laidByText := true, laidKinds := [.data], laidTests := true, laidLooks := .later }
def CallsWordsUptoCardSaid : Prop := Claim7.holds Tryd.pinned (.plain (OpenSpec.upto callsWordsSpec)) callsWordsUptoCard

/-- THE SECOND FORM's CARD OF 'monocoquelaw33.CallsBounds'. -/
def callsBoundsUptoCard : Claim7 := { stood := { row := callsBoundsUptoRow, standIns := [], harness := (true, "89db3b3e7e6e679d7cf6740281aaf808430a5031006d547fa1ee94939c994eb1"), looks := false }, kinds := [], alts := [], laidByText := true, laidKinds := [.data], laidTests := true, laidLooks := .later }
def CallsBoundsUptoCardSaid : Prop := Claim7.holds Tryd.pinned (.plain (OpenSpec.upto callsBoundsSpec)) callsBoundsUptoCard

/-- THE SECOND FORM's CARD OF 'monocoquelaw33.CallsDear'. -/
def callsDearUptoCard : Claim7 := { stood := { row := callsDearUptoRow, standIns := [], harness := (true, "89db3b3e7e6e679d7cf6740281aaf808430a5031006d547fa1ee94939c994eb1"), looks := false }, kinds := [], alts := [], laidByText := true, laidKinds := [.data], laidTests := true, laidLooks := .later }
def CallsDearUptoCardSaid : Prop := Claim7.holds Tryd.pinned (.plain (OpenSpec.upto callsDearSpec)) callsDearUptoCard
end Rows
end Go.Proofs.YtglpbngdikfliaaDoor
