/-
  DERIVED. GIVEN WITH THE SEED: THE CARDS: each row of YtgmlloalidjojaaDoorRows.lean that lists a variable, with what it lists TIED to the program's text (the seventh form; the later family's looks); each row that meets fmt, with fmt's text TOLD by the authors' own Lean function (tested against real Go, not proved from fmt's source: count such statements apart). THE CARD IS WHAT COUNTS. Prove the row's statement (the work); the ties are given (YtgmlloalidjojaaDoorTie.lean); close each card by the builder's one call (the guide's Derived/Test/ToyasCard.lean, 'card_holds'). Laid BY PROGRAM, IN A SANDBOX (cutbox-door.mjs). By AI agents, Wed Nov 11 2026. No macro, syntax, notation, axiom, sorry.
-/
import Derived.Test.YtgmlloalidjojaaDoorRows
import GoSem.ClaimSeven
namespace Go.Proofs.YtgmlloalidjojaaDoor
namespace Rows

/-- THE TIED CARD OF 'auspicelaw10.MatchLines'. -/
def matchLinesCard : Claim7 := { stood := { row := matchLinesRow, standIns := [], harness := (true, "0eac59a8ba93b8092473b2a52b22e9f3c7cf309cb7e0eb8d2324b521ef23a6ab"), looks := true }, kinds := [], alts := [], laidByText := true, laidKinds := [.data, .data, .data, .data, .sentinel, .sentinel, .listed, .data, .pinned], laidTests := true, laidLooks := .later }
def MatchLinesCardSaid : Prop := Claim7.holds Tryd.pinned (.plain (OpenSpec.ofChange matchLinesSpec)) matchLinesCard

/-- THE SECOND FORM's CARD OF 'auspicelaw10.MatchLines'. -/
def matchLinesUptoCard : Claim7 := { stood := { row := matchLinesUptoRow, standIns := [], harness := (true, "0eac59a8ba93b8092473b2a52b22e9f3c7cf309cb7e0eb8d2324b521ef23a6ab"), looks := true }, kinds := [], alts := [], laidByText := true, laidKinds := [.data, .data, .data, .data, .sentinel, .sentinel, .listed, .data, .pinned], laidTests := true, laidLooks := .later }
def MatchLinesUptoCardSaid : Prop := Claim7.holds Tryd.pinned (.plain (OpenSpec.upto matchLinesSpec)) matchLinesUptoCard
end Rows
end Go.Proofs.YtgmlloalidjojaaDoor
