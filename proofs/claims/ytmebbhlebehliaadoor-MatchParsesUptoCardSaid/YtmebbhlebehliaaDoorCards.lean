/-
  DERIVED. GIVEN WITH THE SEED: THE CARDS: each row of YtmebbhlebehliaaDoorRows.lean that lists a variable, with what it lists TIED to the program's text (the seventh form; the later family's looks); each row that meets fmt, with fmt's text TOLD by the authors' own Lean function (tested against real Go, not proved from fmt's source: count such statements apart). THE CARD IS WHAT COUNTS. Prove the row's statement (the work); the ties are given (YtmebbhlebehliaaDoorTie.lean); close each card by the builder's one call (the guide's Derived/Test/ToyasCard.lean, 'card_holds'). Laid BY PROGRAM, IN A SANDBOX (cutbox-door.mjs). By AI agents, Wed Nov 11 2026. No macro, syntax, notation, axiom, sorry.
-/
import Derived.Test.YtmebbhlebehliaaDoorRows
import GoSem.ClaimSeven
namespace Go.Proofs.YtmebbhlebehliaaDoor
namespace Rows

/-- THE TIED CARD OF 'auspicelaw10.MatchParses'. -/
def matchParsesCard : Claim7 := { stood := { row := matchParsesRow, standIns := [], harness := (true, "d0a3c01ee11df0956470c5484344a35b3aaead12ae892ac472383db9cff61a1e"), looks := true }, kinds := [], alts := [], laidByText := true, laidKinds := [.data, .data, .data, .data, .sentinel, .sentinel, .listed, .data, .pinned], laidTests := true, laidLooks := .later }
def MatchParsesCardSaid : Prop := Claim7.holds Tryd.pinned (.plain (OpenSpec.ofChange matchParsesSpec)) matchParsesCard

/-- THE SECOND FORM's CARD OF 'auspicelaw10.MatchParses'. -/
def matchParsesUptoCard : Claim7 := { stood := { row := matchParsesUptoRow, standIns := [], harness := (true, "d0a3c01ee11df0956470c5484344a35b3aaead12ae892ac472383db9cff61a1e"), looks := true }, kinds := [], alts := [], laidByText := true, laidKinds := [.data, .data, .data, .data, .sentinel, .sentinel, .listed, .data, .pinned], laidTests := true, laidLooks := .later }
def MatchParsesUptoCardSaid : Prop := Claim7.holds Tryd.pinned (.plain (OpenSpec.upto matchParsesSpec)) matchParsesUptoCard
end Rows
end Go.Proofs.YtmebbhlebehliaaDoor
