/-
  DERIVED. GIVEN WITH THE SEED: THE CARDS: each row of YthmalhakkdjilaaDoorRows.lean that lists a variable, with what it lists TIED to the program's text (the seventh form; the later family's looks); each row that meets fmt, with fmt's text TOLD by the authors' own Lean function (tested against real Go, not proved from fmt's source: count such statements apart). THE CARD IS WHAT COUNTS. Prove the row's statement (the work); the ties are given (YthmalhakkdjilaaDoorTie.lean); close each card by the builder's one call (the guide's Derived/Test/ToyasCard.lean, 'card_holds'). Laid BY PROGRAM, IN A SANDBOX (cutbox-door.mjs). By AI agents, Wed Nov 11 2026. No macro, syntax, notation, axiom, sorry.
-/
import Derived.Test.YthmalhakkdjilaaDoorRows
import GoSem.ClaimSeven
namespace Go.Proofs.YthmalhakkdjilaaDoor
namespace Rows

/-- THE TIED CARD OF 'monocoquelaw15.CpuRuns'. -/
def cpuRunsCard : Claim7 := { stood := { row := cpuRunsRow, standIns := [], harness := (true, "e22a8d1eb674cddcd1ccd1a099b76ee7ee609ce0e594c1956efbfa425255d1bc"), looks := false }, kinds := [], alts := [], laidByText := true, laidKinds := [.data], laidTests := true, laidLooks := .later }
def CpuRunsCardSaid : Prop := Claim7.holds Tryd.pinned (.plain (OpenSpec.ofChange cpuRunsSpec)) cpuRunsCard

/-- THE TIED CARD OF 'monocoquelaw15.CpuStores'. -/
def cpuStoresCard : Claim7 := { stood := { row := cpuStoresRow, standIns := [], harness := (true, "e22a8d1eb674cddcd1ccd1a099b76ee7ee609ce0e594c1956efbfa425255d1bc"), looks := false }, kinds := [], alts := [], laidByText := true, laidKinds := [.data], laidTests := true, laidLooks := .later }
def CpuStoresCardSaid : Prop := Claim7.holds Tryd.pinned (.plain (OpenSpec.ofChange cpuStoresSpec)) cpuStoresCard

/-- THE TIED CARD OF 'monocoquelaw15.CpuStack'. -/
def cpuStackCard : Claim7 := { stood := { row := cpuStackRow, standIns := [], harness := (true, "e22a8d1eb674cddcd1ccd1a099b76ee7ee609ce0e594c1956efbfa425255d1bc"), looks := false }, kinds := [], alts := [], laidByText := true, laidKinds := [.data], laidTests := true, laidLooks := .later }
def CpuStackCardSaid : Prop := Claim7.holds Tryd.pinned (.plain (OpenSpec.ofChange cpuStackSpec)) cpuStackCard

/-- THE TIED CARD OF 'monocoquelaw15.CpuLoops'. -/
def cpuLoopsCard : Claim7 := { stood := { row := cpuLoopsRow, standIns := [], harness := (true, "e22a8d1eb674cddcd1ccd1a099b76ee7ee609ce0e594c1956efbfa425255d1bc"), looks := false }, kinds := [], alts := [], laidByText := true, laidKinds := [.data], laidTests := true, laidLooks := .later }
def CpuLoopsCardSaid : Prop := Claim7.holds Tryd.pinned (.plain (OpenSpec.ofChange cpuLoopsSpec)) cpuLoopsCard

/-- THE TIED CARD OF 'monocoquelaw15.CpuNil'. -/
def cpuNilCard : Claim7 := { stood := { row := cpuNilRow, standIns := [], harness := (true, "e22a8d1eb674cddcd1ccd1a099b76ee7ee609ce0e594c1956efbfa425255d1bc"), looks := false }, kinds := [], alts := [], laidByText := true, laidKinds := [.data], laidTests := true, laidLooks := .later }
def CpuNilCardSaid : Prop := Claim7.holds Tryd.pinned (.plain (OpenSpec.ofChange cpuNilSpec)) cpuNilCard

/-- THE SECOND FORM's CARD OF 'monocoquelaw15.CpuRuns'. -/
def cpuRunsUptoCard : Claim7 := { stood := { row := cpuRunsUptoRow, standIns := [], harness := (true, "e22a8d1eb674cddcd1ccd1a099b76ee7ee609ce0e594c1956efbfa425255d1bc"), looks := false }, kinds := [], alts := [], laidByText := true, laidKinds := [.data], laidTests := true, laidLooks := .later }
def CpuRunsUptoCardSaid : Prop := Claim7.holds Tryd.pinned (.plain (OpenSpec.upto cpuRunsSpec)) cpuRunsUptoCard

/-- THE SECOND FORM's CARD OF 'monocoquelaw15.CpuStores'. -/
def cpuStoresUptoCard : Claim7 := { stood := { row := cpuStoresUptoRow, standIns := [], harness := (true, "e22a8d1eb674cddcd1ccd1a099b76ee7ee609ce0e594c1956efbfa425255d1bc"), looks := false }, kinds := [], alts := [], laidByText := true, laidKinds := [.data], laidTests := true, laidLooks := .later }
def CpuStoresUptoCardSaid : Prop := Claim7.holds Tryd.pinned (.plain (OpenSpec.upto cpuStoresSpec)) cpuStoresUptoCard

/-- THE SECOND FORM's CARD OF 'monocoquelaw15.CpuStack'. -/
def cpuStackUptoCard : Claim7 := { stood := { row := cpuStackUptoRow, standIns := [], harness := (true, "e22a8d1eb674cddcd1ccd1a099b76ee7ee609ce0e594c1956efbfa425255d1bc"), looks := false }, kinds := [], alts := [], laidByText := true, laidKinds := [.data], laidTests := true, laidLooks := .later }
def CpuStackUptoCardSaid : Prop := Claim7.holds Tryd.pinned (.plain (OpenSpec.upto cpuStackSpec)) cpuStackUptoCard

/-- THE SECOND FORM's CARD OF 'monocoquelaw15.CpuLoops'. -/
def cpuLoopsUptoCard : Claim7 := { stood := { row := cpuLoopsUptoRow, standIns := [], harness := (true, "e22a8d1eb674cddcd1ccd1a099b76ee7ee609ce0e594c1956efbfa425255d1bc"), looks := false }, kinds := [], alts := [], laidByText := true, laidKinds := [.data], laidTests := true, laidLooks := .later }
def CpuLoopsUptoCardSaid : Prop := Claim7.holds Tryd.pinned (.plain (OpenSpec.upto cpuLoopsSpec)) cpuLoopsUptoCard

/-- THE SECOND FORM's CARD OF 'monocoquelaw15.CpuNil'. -/
def cpuNilUptoCard : Claim7 := { stood := { row := cpuNilUptoRow, standIns := [], harness := (true, "e22a8d1eb674cddcd1ccd1a099b76ee7ee609ce0e594c1956efbfa425255d1bc"), looks := false }, kinds := [], alts := [], laidByText := true, laidKinds := [.data], laidTests := true, laidLooks := .later }
def CpuNilUptoCardSaid : Prop := Claim7.holds Tryd.pinned (.plain (OpenSpec.upto cpuNilSpec)) cpuNilUptoCard
end Rows
end Go.Proofs.YthmalhakkdjilaaDoor
