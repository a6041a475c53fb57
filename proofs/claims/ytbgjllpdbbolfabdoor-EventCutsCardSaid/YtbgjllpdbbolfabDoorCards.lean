/-
  DERIVED. GIVEN WITH THE SEED: THE CARDS: each row of YtbgjllpdbbolfabDoorRows.lean that lists a variable, with what it lists TIED to the program's text (the seventh form; the later family's looks); each row that meets fmt, with fmt's text TOLD by the authors' own Lean function (tested against real Go, not proved from fmt's source: count such statements apart). THE CARD IS WHAT COUNTS. Prove the row's statement (the work); the ties are given (YtbgjllpdbbolfabDoorTie.lean); close each card by the builder's one call (the guide's Derived/Test/ToyasCard.lean, 'card_holds'). Laid BY PROGRAM, IN A SANDBOX (cutbox-door.mjs). By AI agents, Wed Nov 11 2026. No macro, syntax, notation, axiom, sorry.
-/
import Derived.Test.YtbgjllpdbbolfabDoorRows
import GoSem.ClaimSeven
namespace Go.Proofs.YtbgjllpdbbolfabDoor
namespace Rows

/-- THE TIED CARD OF 'auspicelaw04.EventKinds'. -/
def eventKindsCard : Claim7 := { stood := { row := eventKindsRow, standIns := [], harness := (true, "428467a3bcc97c58a795449468668db1a86208c4a5e6d5a750a7482daa4be0f0"), looks := false }, kinds := [], alts := [], laidByText := true, laidKinds := [.data, .data, .data], laidTests := true, laidLooks := .later }
def EventKindsCardSaid : Prop := Claim7.holds Tryd.pinned (.plain (OpenSpec.ofChange eventKindsSpec)) eventKindsCard

/-- THE TIED CARD OF 'auspicelaw04.EventValids'. -/
def eventValidsCard : Claim7 := { stood := { row := eventValidsRow, standIns := [], harness := (true, "428467a3bcc97c58a795449468668db1a86208c4a5e6d5a750a7482daa4be0f0"), looks := false }, kinds := [], alts := [], laidByText := true, laidKinds := [.data, .data, .data], laidTests := true, laidLooks := .later }
def EventValidsCardSaid : Prop := Claim7.holds Tryd.pinned (.plain (OpenSpec.ofChange eventValidsSpec)) eventValidsCard

/-- THE TIED CARD OF 'auspicelaw04.EventFits'. -/
def eventFitsCard : Claim7 := { stood := { row := eventFitsRow, standIns := [], harness := (true, "428467a3bcc97c58a795449468668db1a86208c4a5e6d5a750a7482daa4be0f0"), looks := false }, kinds := [], alts := [], laidByText := true, laidKinds := [.data, .data, .data], laidTests := true, laidLooks := .later }
def EventFitsCardSaid : Prop := Claim7.holds Tryd.pinned (.plain (OpenSpec.ofChange eventFitsSpec)) eventFitsCard

/-- THE TIED CARD OF 'auspicelaw04.EventScripts'. -/
def eventScriptsCard : Claim7 := { stood := { row := eventScriptsRow, standIns := [], harness := (true, "428467a3bcc97c58a795449468668db1a86208c4a5e6d5a750a7482daa4be0f0"), looks := false }, kinds := [], alts := [], laidByText := true, laidKinds := [.data, .data, .data], laidTests := true, laidLooks := .later }
def EventScriptsCardSaid : Prop := Claim7.holds Tryd.pinned (.plain (OpenSpec.ofChange eventScriptsSpec)) eventScriptsCard

/-- THE TIED CARD OF 'auspicelaw04.EventCuts'. -/
def eventCutsCard : Claim7 := { stood := { row := eventCutsRow, standIns := [], harness := (true, "428467a3bcc97c58a795449468668db1a86208c4a5e6d5a750a7482daa4be0f0"), looks := false }, kinds := [], alts := [], laidByText := true, laidKinds := [.data, .data, .data], laidTests := true, laidLooks := .later }
def EventCutsCardSaid : Prop := Claim7.holds Tryd.pinned (.plain (OpenSpec.ofChange eventCutsSpec)) eventCutsCard

/-- THE SECOND FORM's CARD OF 'auspicelaw04.EventKinds'. -/
def eventKindsUptoCard : Claim7 := { stood := { row := eventKindsUptoRow, standIns := [], harness := (true, "428467a3bcc97c58a795449468668db1a86208c4a5e6d5a750a7482daa4be0f0"), looks := false }, kinds := [], alts := [], laidByText := true, laidKinds := [.data, .data, .data], laidTests := true, laidLooks := .later }
def EventKindsUptoCardSaid : Prop := Claim7.holds Tryd.pinned (.plain (OpenSpec.upto eventKindsSpec)) eventKindsUptoCard

/-- THE SECOND FORM's CARD OF 'auspicelaw04.EventValids'. -/
def eventValidsUptoCard : Claim7 := { stood := { row := eventValidsUptoRow, standIns := [], harness := (true, "428467a3bcc97c58a795449468668db1a86208c4a5e6d5a750a7482daa4be0f0"), looks := false }, kinds := [], alts := [], laidByText := true, laidKinds := [.data, .data, .data], laidTests := true, laidLooks := .later }
def EventValidsUptoCardSaid : Prop := Claim7.holds Tryd.pinned (.plain (OpenSpec.upto eventValidsSpec)) eventValidsUptoCard

/-- THE SECOND FORM's CARD OF 'auspicelaw04.EventFits'. -/
def eventFitsUptoCard : Claim7 := { stood := { row := eventFitsUptoRow, standIns := [], harness := (true, "428467a3bcc97c58a795449468668db1a86208c4a5e6d5a750a7482daa4be0f0"), looks := false }, kinds := [], alts := [], laidByText := true, laidKinds := [.data, .data, .data], laidTests := true, laidLooks := .later }
def EventFitsUptoCardSaid : Prop := Claim7.holds Tryd.pinned (.plain (OpenSpec.upto eventFitsSpec)) eventFitsUptoCard

/-- THE SECOND FORM's CARD OF 'auspicelaw04.EventScripts'. -/
def eventScriptsUptoCard : Claim7 := { stood := { row := eventScriptsUptoRow, standIns := [], harness := (true, "428467a3bcc97c58a795449468668db1a86208c4a5e6d5a750a7482daa4be0f0"), looks := false }, kinds := [], alts := [], laidByText := true, laidKinds := [.data, .data, .data], laidTests := true, laidLooks := .later }
def EventScriptsUptoCardSaid : Prop := Claim7.holds Tryd.pinned (.plain (OpenSpec.upto eventScriptsSpec)) eventScriptsUptoCard

/-- THE SECOND FORM's CARD OF 'auspicelaw04.EventCuts'. -/
def eventCutsUptoCard : Claim7 := { stood := { row := eventCutsUptoRow, standIns := [], harness := (true, "428467a3bcc97c58a795449468668db1a86208c4a5e6d5a750a7482daa4be0f0"), looks := false }, kinds := [], alts := [], laidByText := true, laidKinds := [.data, .data, .data], laidTests := true, laidLooks := .later }
def EventCutsUptoCardSaid : Prop := Claim7.holds Tryd.pinned (.plain (OpenSpec.upto eventCutsSpec)) eventCutsUptoCard
end Rows
end Go.Proofs.YtbgjllpdbbolfabDoor
