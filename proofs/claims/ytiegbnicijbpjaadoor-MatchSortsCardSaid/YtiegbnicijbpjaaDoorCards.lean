/-
  DERIVED. GIVEN WITH THE SEED: THE CARDS: each row of YtiegbnicijbpjaaDoorRows.lean that lists a variable, with what it lists TIED to the program's text (the seventh form; the later family's looks); each row that meets fmt, with fmt's text TOLD by the authors' own Lean function (tested against real Go, not proved from fmt's source: count such statements apart). THE CARD IS WHAT COUNTS. Prove the row's statement (the work); the ties are given (YtiegbnicijbpjaaDoorTie.lean); close each card by the builder's one call (the guide's Derived/Test/ToyasCard.lean, 'card_holds'). Laid BY PROGRAM, IN A SANDBOX (cutbox-door.mjs). By AI agents, Wed Nov 11 2026. No macro, syntax, notation, axiom, sorry.
-/
import Derived.Test.YtiegbnicijbpjaaDoorRows
import GoSem.ClaimSeven
namespace Go.Proofs.YtiegbnicijbpjaaDoor
namespace Rows

/-- THE TIED CARD OF 'auspicelaw10.MatchSorts'. -/
def matchSortsCard : Claim7 := { stood := { row := matchSortsRow, standIns := [], harness := (true, "b94db7b56953e52fdc545062e671575e26a91f4ca4855aa468f00e23153081fe"), looks := true }, kinds := [], alts := [], laidByText := true, laidKinds := [.data, .data, .data, .data, .sentinel, .sentinel, .listed, .data, .pinned], laidTests := true, laidLooks := .later }
def MatchSortsCardSaid : Prop := Claim7.holds Tryd.pinned (.plain (OpenSpec.ofChange matchSortsSpec)) matchSortsCard

/-- THE SECOND FORM's CARD OF 'auspicelaw10.MatchSorts'. -/
def matchSortsUptoCard : Claim7 := { stood := { row := matchSortsUptoRow, standIns := [], harness := (true, "b94db7b56953e52fdc545062e671575e26a91f4ca4855aa468f00e23153081fe"), looks := true }, kinds := [], alts := [], laidByText := true, laidKinds := [.data, .data, .data, .data, .sentinel, .sentinel, .listed, .data, .pinned], laidTests := true, laidLooks := .later }
def MatchSortsUptoCardSaid : Prop := Claim7.holds Tryd.pinned (.plain (OpenSpec.upto matchSortsSpec)) matchSortsUptoCard
end Rows
end Go.Proofs.YtiegbnicijbpjaaDoor
