/-
  DERIVED. GIVEN WITH THE SEED: THE CARDS: each row of YtppgkaeodaaidaaGreatDoorRows.lean that lists a variable, with what it lists TIED to the program's text (the seventh form; the later family's looks); each row that meets fmt, with fmt's text TOLD by the authors' own Lean function (tested against real Go, not proved from fmt's source: count such statements apart). THE CARD IS WHAT COUNTS. Prove the row's statement (the work); the ties are given (YtppgkaeodaaidaaGreatDoorTie.lean); close each card by the builder's one call (the guide's Derived/Test/ToyasCard.lean, 'card_holds'). Laid BY PROGRAM, IN A SANDBOX (cutbox-door.mjs). By AI agents, Wed Nov 11 2026. No macro, syntax, notation, axiom, sorry.
-/
import Derived.Test.YtppgkaeodaaidaaGreatDoorRows
import GoSem.ClaimSeven
namespace Go.Proofs.YtppgkaeodaaidaaGreatDoor
namespace Rows

/-- THE TIED CARD OF 'mortmainlaw23.ConsoleLines'. -/
def consoleLinesCard : Claim7 := { stood := { row := consoleLinesRow, standIns := [], harness := (true, "c8971ead518be44c10499fc62d681516014870a13f262c1d68723de1b88f6cca"), looks := true }, kinds := [], alts := [], laidByText := true, laidKinds := [.data, .data, .data, .data, .pinned], laidTests := true, laidLooks := .later }
def ConsoleLinesCardSaid : Prop := Claim7.holds Tryz.pinned (.plain (OpenSpec.ofChange consoleLinesSpec)) consoleLinesCard

/-- THE TIED CARD OF 'mortmainlaw23.ConsoleTexts'. -/
def consoleTextsCard : Claim7 := { stood := { row := consoleTextsRow, standIns := [], harness := (true, "c8971ead518be44c10499fc62d681516014870a13f262c1d68723de1b88f6cca"), looks := true }, kinds := [], alts := [], laidByText := true, laidKinds := [.data, .data, .data, .data, .pinned], laidTests := true, laidLooks := .later }
def ConsoleTextsCardSaid : Prop := Claim7.holds Tryz.pinned (.plain (OpenSpec.ofChange consoleTextsSpec)) consoleTextsCard

/-- THE TIED CARD OF 'mortmainlaw23.ConsoleMore'. -/
def consoleMoreCard : Claim7 := { stood := { row := consoleMoreRow, standIns := [], harness := (true, "c8971ead518be44c10499fc62d681516014870a13f262c1d68723de1b88f6cca"), looks := true }, kinds := [], alts := [], laidByText := true, laidKinds := [.data, .data, .data, .data, .pinned], laidTests := true, laidLooks := .later }
def ConsoleMoreCardSaid : Prop := Claim7.holds Tryz.pinned (.plain (OpenSpec.ofChange consoleMoreSpec)) consoleMoreCard

/-- THE TIED CARD OF 'mortmainlaw23.ConsoleHeaps'. -/
def consoleHeapsCard : Claim7 := { stood := { row := consoleHeapsRow, standIns := [], harness := (true, "c8971ead518be44c10499fc62d681516014870a13f262c1d68723de1b88f6cca"), looks := true }, kinds := [], alts := [], laidByText := true, laidKinds := [.data, .data, .data, .data, .pinned], laidTests := true, laidLooks := .later }
def ConsoleHeapsCardSaid : Prop := Claim7.holds Tryz.pinned (.plain (OpenSpec.ofChange consoleHeapsSpec)) consoleHeapsCard

/-- THE TIED CARD OF 'mortmainlaw23.ConsoleRows'. -/
def consoleRowsCard : Claim7 := { stood := { row := consoleRowsRow, standIns := [], harness := (true, "c8971ead518be44c10499fc62d681516014870a13f262c1d68723de1b88f6cca"), looks := true }, kinds := [], alts := [], laidByText := true, laidKinds := [.data, .data, .data, .data, .pinned], laidTests := true, laidLooks := .later }
def ConsoleRowsCardSaid : Prop := Claim7.holds Tryz.pinned (.plain (OpenSpec.ofChange consoleRowsSpec)) consoleRowsCard

/-- THE TIED CARD OF 'mortmaintop.TopConsole'. -/
def topConsoleCard : Claim7 := { stood := { row := topConsoleRow, standIns := [], harness := (true, "c8971ead518be44c10499fc62d681516014870a13f262c1d68723de1b88f6cca"), looks := true }, kinds := [], alts := [], laidByText := true, laidKinds := [.data, .data, .data, .data, .pinned], laidTests := true, laidLooks := .later }
def TopConsoleCardSaid : Prop := Claim7.holds Tryz.pinned (.plain (OpenSpec.ofChange topConsoleSpec)) topConsoleCard

/-- THE SECOND FORM's CARD OF 'mortmainlaw23.ConsoleLines'. -/
def consoleLinesUptoCard : Claim7 := { stood := { row := consoleLinesUptoRow, standIns := [], harness := (true, "c8971ead518be44c10499fc62d681516014870a13f262c1d68723de1b88f6cca"), looks := true }, kinds := [], alts := [], laidByText := true, laidKinds := [.data, .data, .data, .data, .pinned], laidTests := true, laidLooks := .later }
def ConsoleLinesUptoCardSaid : Prop := Claim7.holds Tryz.pinned (.plain (OpenSpec.upto consoleLinesSpec)) consoleLinesUptoCard

/-- THE SECOND FORM's CARD OF 'mortmainlaw23.ConsoleTexts'. -/
def consoleTextsUptoCard : Claim7 := { stood := { row := consoleTextsUptoRow, standIns := [], harness := (true, "c8971ead518be44c10499fc62d681516014870a13f262c1d68723de1b88f6cca"), looks := true }, kinds := [], alts := [], laidByText := true, laidKinds := [.data, .data, .data, .data, .pinned], laidTests := true, laidLooks := .later }
def ConsoleTextsUptoCardSaid : Prop := Claim7.holds Tryz.pinned (.plain (OpenSpec.upto consoleTextsSpec)) consoleTextsUptoCard

/-- THE SECOND FORM's CARD OF 'mortmainlaw23.ConsoleMore'. -/
def consoleMoreUptoCard : Claim7 := { stood := { row := consoleMoreUptoRow, standIns := [], harness := (true, "c8971ead518be44c10499fc62d681516014870a13f262c1d68723de1b88f6cca"), looks := true }, kinds := [], alts := [], laidByText := true, laidKinds := [.data, .data, .data, .data, .pinned], laidTests := true, laidLooks := .later }
def ConsoleMoreUptoCardSaid : Prop := Claim7.holds Tryz.pinned (.plain (OpenSpec.upto consoleMoreSpec)) consoleMoreUptoCard

/-- THE SECOND FORM's CARD OF 'mortmainlaw23.ConsoleHeaps'. -/
def consoleHeapsUptoCard : Claim7 := { stood := { row := consoleHeapsUptoRow, standIns := [], harness := (true, "c8971ead518be44c10499fc62d681516014870a13f262c1d68723de1b88f6cca"), looks := true }, kinds := [], alts := [], laidByText := true, laidKinds := [.data, .data, .data, .data, .pinned], laidTests := true, laidLooks := .later }
def ConsoleHeapsUptoCardSaid : Prop := Claim7.holds Tryz.pinned (.plain (OpenSpec.upto consoleHeapsSpec)) consoleHeapsUptoCard

/-- THE SECOND FORM's CARD OF 'mortmainlaw23.ConsoleRows'. -/
def consoleRowsUptoCard : Claim7 := { stood := { row := consoleRowsUptoRow, standIns := [], harness := (true, "c8971ead518be44c10499fc62d681516014870a13f262c1d68723de1b88f6cca"), looks := true }, kinds := [], alts := [], laidByText := true, laidKinds := [.data, .data, .data, .data, .pinned], laidTests := true, laidLooks := .later }
def ConsoleRowsUptoCardSaid : Prop := Claim7.holds Tryz.pinned (.plain (OpenSpec.upto consoleRowsSpec)) consoleRowsUptoCard

/-- THE SECOND FORM's CARD OF 'mortmaintop.TopConsole'. -/
def topConsoleUptoCard : Claim7 := { stood := { row := topConsoleUptoRow, standIns := [], harness := (true, "c8971ead518be44c10499fc62d681516014870a13f262c1d68723de1b88f6cca"), looks := true }, kinds := [], alts := [], laidByText := true, laidKinds := [.data, .data, .data, .data, .pinned], laidTests := true, laidLooks := .later }
def TopConsoleUptoCardSaid : Prop := Claim7.holds Tryz.pinned (.plain (OpenSpec.upto topConsoleSpec)) topConsoleUptoCard
end Rows
end Go.Proofs.YtppgkaeodaaidaaGreatDoor
