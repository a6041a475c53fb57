/-
  No cell of these rows narrows 'for every input' (looked for: loops, veiled, ifaces, maps, wideKeys, modest, calm, conditions, laid).
  DERIVED. THE GIVEN ROWS OF THIS SEAT. 12 by the template 'for every input the law returns true; each argument reads behind the call as it read before'; 0 by the template 'total and deterministic' (their statements: YtpcdeofjadnpbaaTotals.lean).
  GIVEN WITH THE SEED: the statements are not yours to turn. If you find one false, say at which input.
  Laid BY PROGRAM, IN A SANDBOX (cutbox-rows.mjs): the forced cells as the released guide's own fill.sh prints them over the translation 01ff447475bcd0ac… (all of the seat's roots in one cut). By AI agents, Wed Nov 11 2026. No macro, syntax, notation, axiom, sorry.
-/
import Derived.Test.YtpcdeofjadnpbaaChecked
import GoSem.Claim
import GoSem.ClaimJoined
import GoSem.ClaimMapViews
import Derived.JoinedTies
import Derived.KernelRfl
namespace Go.Proofs.Ytpcdeofjadnpbaa
/- THE CELL 'sum', in the pinned program and in every row, IS THE sha256 OF THE DUMP (.gsa) THAT YtpcdeofjadnpbaaProg.lean LOADS. Nothing in Lean hashes anything: it is a label: what it is worth is what the hold of that sum in a sandbox is worth. -/
noncomputable def Try.pinned : Pinned := { name := "ytpcdeofjadnpbaa", sum := "01ff447475bcd0aca9b4bbc5ac63dc3ba49ec9dc88709b2368ad5e30c382819a", checked := Try.checked }
namespace Rows
def none {H : Type} : Left H := { results := [], args := [] }

/-- 'auspicelaw01.RealCanons': WHATEVER THE INPUT: true; the input reads as it did. -/
def realCanonsSpec : ChangeSpec := { name := "realCanons", fn := fun _ => fun
  | [d] => { results := [.lit (.bool true)], args := [d] }
  | _ => none }
def realCanonsRow : OpenClaim := { program := "ytpcdeofjadnpbaa", sum := "01ff447475bcd0aca9b4bbc5ac63dc3ba49ec9dc88709b2368ad5e30c382819a", func := "auspice/auspicelaw01.RealCanons", spec := "realCanons", inPlace := ["math.Float64frombits"], apart := false }
def RealCanonsSaid : Prop := realCanonsRow.holds Try.pinned (OpenSpec.ofChange realCanonsSpec)

/-- ITS FALSE NEIGHBOUR: 'it returns false'. Refute it at one input. -/
def realCanonsWrong : ChangeSpec := { name := "realCanons", fn := fun _ => fun
  | [d] => { results := [.lit (.bool false)], args := [d] }
  | _ => none }
def RealCanonsWrongFalsely : Prop := realCanonsRow.holds Try.pinned (OpenSpec.ofChange realCanonsWrong)

/-- 'auspicelaw01.RealAdds': WHATEVER THE INPUT: true; the input reads as it did. -/
def realAddsSpec : ChangeSpec := { name := "realAdds", fn := fun _ => fun
  | [d1, d2] => { results := [.lit (.bool true)], args := [d1, d2] }
  | _ => none }
def realAddsRow : OpenClaim := { program := "ytpcdeofjadnpbaa", sum := "01ff447475bcd0aca9b4bbc5ac63dc3ba49ec9dc88709b2368ad5e30c382819a", func := "auspice/auspicelaw01.RealAdds", spec := "realAdds", inPlace := ["math.Float64frombits", "math.Float64bits"], apart := false }
def RealAddsSaid : Prop := realAddsRow.holds Try.pinned (OpenSpec.ofChange realAddsSpec)

/-- ITS FALSE NEIGHBOUR: 'it returns false'. Refute it at one input. -/
def realAddsWrong : ChangeSpec := { name := "realAdds", fn := fun _ => fun
  | [d1, d2] => { results := [.lit (.bool false)], args := [d1, d2] }
  | _ => none }
def RealAddsWrongFalsely : Prop := realAddsRow.holds Try.pinned (OpenSpec.ofChange realAddsWrong)

/-- 'auspicelaw01.RealMuls': WHATEVER THE INPUT: true; the input reads as it did. -/
def realMulsSpec : ChangeSpec := { name := "realMuls", fn := fun _ => fun
  | [d1, d2] => { results := [.lit (.bool true)], args := [d1, d2] }
  | _ => none }
def realMulsRow : OpenClaim := { program := "ytpcdeofjadnpbaa", sum := "01ff447475bcd0aca9b4bbc5ac63dc3ba49ec9dc88709b2368ad5e30c382819a", func := "auspice/auspicelaw01.RealMuls", spec := "realMuls", inPlace := ["math.Float64frombits", "math.Float64bits"], apart := false }
def RealMulsSaid : Prop := realMulsRow.holds Try.pinned (OpenSpec.ofChange realMulsSpec)

/-- ITS FALSE NEIGHBOUR: 'it returns false'. Refute it at one input. -/
def realMulsWrong : ChangeSpec := { name := "realMuls", fn := fun _ => fun
  | [d1, d2] => { results := [.lit (.bool false)], args := [d1, d2] }
  | _ => none }
def RealMulsWrongFalsely : Prop := realMulsRow.holds Try.pinned (OpenSpec.ofChange realMulsWrong)

/-- 'auspicelaw01.RealNegs': WHATEVER THE INPUT: true; the input reads as it did. -/
def realNegsSpec : ChangeSpec := { name := "realNegs", fn := fun _ => fun
  | [d1, d2] => { results := [.lit (.bool true)], args := [d1, d2] }
  | _ => none }
def realNegsRow : OpenClaim := { program := "ytpcdeofjadnpbaa", sum := "01ff447475bcd0aca9b4bbc5ac63dc3ba49ec9dc88709b2368ad5e30c382819a", func := "auspice/auspicelaw01.RealNegs", spec := "realNegs", inPlace := ["math.Float64frombits", "math.Float64bits"], apart := false }
def RealNegsSaid : Prop := realNegsRow.holds Try.pinned (OpenSpec.ofChange realNegsSpec)

/-- ITS FALSE NEIGHBOUR: 'it returns false'. Refute it at one input. -/
def realNegsWrong : ChangeSpec := { name := "realNegs", fn := fun _ => fun
  | [d1, d2] => { results := [.lit (.bool false)], args := [d1, d2] }
  | _ => none }
def RealNegsWrongFalsely : Prop := realNegsRow.holds Try.pinned (OpenSpec.ofChange realNegsWrong)

/-- 'auspicelaw01.RealCompares': WHATEVER THE INPUT: true; the input reads as it did. -/
def realComparesSpec : ChangeSpec := { name := "realCompares", fn := fun _ => fun
  | [d1, d2] => { results := [.lit (.bool true)], args := [d1, d2] }
  | _ => none }
def realComparesRow : OpenClaim := { program := "ytpcdeofjadnpbaa", sum := "01ff447475bcd0aca9b4bbc5ac63dc3ba49ec9dc88709b2368ad5e30c382819a", func := "auspice/auspicelaw01.RealCompares", spec := "realCompares", inPlace := ["math.Float64frombits"], apart := false }
def RealComparesSaid : Prop := realComparesRow.holds Try.pinned (OpenSpec.ofChange realComparesSpec)

/-- ITS FALSE NEIGHBOUR: 'it returns false'. Refute it at one input. -/
def realComparesWrong : ChangeSpec := { name := "realCompares", fn := fun _ => fun
  | [d1, d2] => { results := [.lit (.bool false)], args := [d1, d2] }
  | _ => none }
def RealComparesWrongFalsely : Prop := realComparesRow.holds Try.pinned (OpenSpec.ofChange realComparesWrong)

/-- 'auspicelaw01.RealOrders': WHATEVER THE INPUT: true; the input reads as it did. -/
def realOrdersSpec : ChangeSpec := { name := "realOrders", fn := fun _ => fun
  | [d1, d2] => { results := [.lit (.bool true)], args := [d1, d2] }
  | _ => none }
def realOrdersRow : OpenClaim := { program := "ytpcdeofjadnpbaa", sum := "01ff447475bcd0aca9b4bbc5ac63dc3ba49ec9dc88709b2368ad5e30c382819a", func := "auspice/auspicelaw01.RealOrders", spec := "realOrders", inPlace := ["math.Float64frombits"], apart := false }
def RealOrdersSaid : Prop := realOrdersRow.holds Try.pinned (OpenSpec.ofChange realOrdersSpec)

/-- ITS FALSE NEIGHBOUR: 'it returns false'. Refute it at one input. -/
def realOrdersWrong : ChangeSpec := { name := "realOrders", fn := fun _ => fun
  | [d1, d2] => { results := [.lit (.bool false)], args := [d1, d2] }
  | _ => none }
def RealOrdersWrongFalsely : Prop := realOrdersRow.holds Try.pinned (OpenSpec.ofChange realOrdersWrong)

/-- 'auspicelaw01.RealTotal': WHATEVER THE INPUT: true; the input reads as it did. -/
def realTotalSpec : ChangeSpec := { name := "realTotal", fn := fun _ => fun
  | [d1, d2, d3] => { results := [.lit (.bool true)], args := [d1, d2, d3] }
  | _ => none }
def realTotalRow : OpenClaim := { program := "ytpcdeofjadnpbaa", sum := "01ff447475bcd0aca9b4bbc5ac63dc3ba49ec9dc88709b2368ad5e30c382819a", func := "auspice/auspicelaw01.RealTotal", spec := "realTotal", inPlace := ["math.Float64frombits"], apart := false }
def RealTotalSaid : Prop := realTotalRow.holds Try.pinned (OpenSpec.ofChange realTotalSpec)

/-- ITS FALSE NEIGHBOUR: 'it returns false'. Refute it at one input. -/
def realTotalWrong : ChangeSpec := { name := "realTotal", fn := fun _ => fun
  | [d1, d2, d3] => { results := [.lit (.bool false)], args := [d1, d2, d3] }
  | _ => none }
def RealTotalWrongFalsely : Prop := realTotalRow.holds Try.pinned (OpenSpec.ofChange realTotalWrong)

/-- 'auspicelaw01.RealAgrees': WHATEVER THE INPUT: true; the input reads as it did. -/
def realAgreesSpec : ChangeSpec := { name := "realAgrees", fn := fun _ => fun
  | [d1, d2] => { results := [.lit (.bool true)], args := [d1, d2] }
  | _ => none }
def realAgreesRow : OpenClaim := { program := "ytpcdeofjadnpbaa", sum := "01ff447475bcd0aca9b4bbc5ac63dc3ba49ec9dc88709b2368ad5e30c382819a", func := "auspice/auspicelaw01.RealAgrees", spec := "realAgrees", inPlace := ["math.Float64frombits"], apart := false }
def RealAgreesSaid : Prop := realAgreesRow.holds Try.pinned (OpenSpec.ofChange realAgreesSpec)

/-- ITS FALSE NEIGHBOUR: 'it returns false'. Refute it at one input. -/
def realAgreesWrong : ChangeSpec := { name := "realAgrees", fn := fun _ => fun
  | [d1, d2] => { results := [.lit (.bool false)], args := [d1, d2] }
  | _ => none }
def RealAgreesWrongFalsely : Prop := realAgreesRow.holds Try.pinned (OpenSpec.ofChange realAgreesWrong)

/-- 'auspicelaw01.RealPicks': WHATEVER THE INPUT: true; the input reads as it did. -/
def realPicksSpec : ChangeSpec := { name := "realPicks", fn := fun _ => fun
  | [d1, d2] => { results := [.lit (.bool true)], args := [d1, d2] }
  | _ => none }
def realPicksRow : OpenClaim := { program := "ytpcdeofjadnpbaa", sum := "01ff447475bcd0aca9b4bbc5ac63dc3ba49ec9dc88709b2368ad5e30c382819a", func := "auspice/auspicelaw01.RealPicks", spec := "realPicks", inPlace := ["math.Float64frombits"], apart := false }
def RealPicksSaid : Prop := realPicksRow.holds Try.pinned (OpenSpec.ofChange realPicksSpec)

/-- ITS FALSE NEIGHBOUR: 'it returns false'. Refute it at one input. -/
def realPicksWrong : ChangeSpec := { name := "realPicks", fn := fun _ => fun
  | [d1, d2] => { results := [.lit (.bool false)], args := [d1, d2] }
  | _ => none }
def RealPicksWrongFalsely : Prop := realPicksRow.holds Try.pinned (OpenSpec.ofChange realPicksWrong)

/-- 'auspicelaw01.RealInts': WHATEVER THE INPUT: true; the input reads as it did. -/
def realIntsSpec : ChangeSpec := { name := "realInts", fn := fun _ => fun
  | [d] => { results := [.lit (.bool true)], args := [d] }
  | _ => none }
def realIntsRow : OpenClaim := { program := "ytpcdeofjadnpbaa", sum := "01ff447475bcd0aca9b4bbc5ac63dc3ba49ec9dc88709b2368ad5e30c382819a", func := "auspice/auspicelaw01.RealInts", spec := "realInts", inPlace := ["math.Float64bits", "math.Float64frombits"], apart := false }
def RealIntsSaid : Prop := realIntsRow.holds Try.pinned (OpenSpec.ofChange realIntsSpec)

/-- ITS FALSE NEIGHBOUR: 'it returns false'. Refute it at one input. -/
def realIntsWrong : ChangeSpec := { name := "realInts", fn := fun _ => fun
  | [d] => { results := [.lit (.bool false)], args := [d] }
  | _ => none }
def RealIntsWrongFalsely : Prop := realIntsRow.holds Try.pinned (OpenSpec.ofChange realIntsWrong)

/-- 'auspicelaw01.RealDecimals': WHATEVER THE INPUT: true; the input reads as it did. -/
def realDecimalsSpec : ChangeSpec := { name := "realDecimals", fn := fun _ => fun
  | [d1, d2] => { results := [.lit (.bool true)], args := [d1, d2] }
  | _ => none }
def realDecimalsRow : OpenClaim := { program := "ytpcdeofjadnpbaa", sum := "01ff447475bcd0aca9b4bbc5ac63dc3ba49ec9dc88709b2368ad5e30c382819a", func := "auspice/auspicelaw01.RealDecimals", spec := "realDecimals", inPlace := ["math.Float64bits", "math.Float64frombits"], apart := false }
def RealDecimalsSaid : Prop := realDecimalsRow.holds Try.pinned (OpenSpec.ofChange realDecimalsSpec)

/-- ITS FALSE NEIGHBOUR: 'it returns false'. Refute it at one input. -/
def realDecimalsWrong : ChangeSpec := { name := "realDecimals", fn := fun _ => fun
  | [d1, d2] => { results := [.lit (.bool false)], args := [d1, d2] }
  | _ => none }
def RealDecimalsWrongFalsely : Prop := realDecimalsRow.holds Try.pinned (OpenSpec.ofChange realDecimalsWrong)

/-- 'auspicelaw01.RealSums': WHATEVER THE INPUT: true; the input reads as it did. -/
def realSumsSpec : ChangeSpec := { name := "realSums", fn := fun _ => fun
  | [d] => { results := [.lit (.bool true)], args := [d] }
  | _ => none }
def realSumsRow : OpenClaim := { program := "ytpcdeofjadnpbaa", sum := "01ff447475bcd0aca9b4bbc5ac63dc3ba49ec9dc88709b2368ad5e30c382819a", func := "auspice/auspicelaw01.RealSums", spec := "realSums", inPlace := ["math.Float64frombits", "math.Float64bits"], apart := false }
def RealSumsSaid : Prop := realSumsRow.holds Try.pinned (OpenSpec.ofChange realSumsSpec)

/-- ITS FALSE NEIGHBOUR: 'it returns false'. Refute it at one input. -/
def realSumsWrong : ChangeSpec := { name := "realSums", fn := fun _ => fun
  | [d] => { results := [.lit (.bool false)], args := [d] }
  | _ => none }
def RealSumsWrongFalsely : Prop := realSumsRow.holds Try.pinned (OpenSpec.ofChange realSumsWrong)

/- THE SECOND FORM. 'bulk': how many values and letters a reading holds, each counted each time it is reached (what is shared counts as often as it is met; a slice's spare places count too). A statement '..UptoSaid' is the law's where the arguments, and the package variables that the reading takes, are together of bulk at most 1048576: NARROWER than '..Said'. Prove '..Said' where nothing that the law and all that it calls make is longer than what came in: it says more and counts as full. Else prove '..UptoSaid'. A law counts once. -/
mutual
def uptoBulk {H : Type} : DataW H → Nat
  | .lit (.string bytes) => bytes.length + 1
  | .lit _ => 1
  | .nil => 1
  | .ptr d => uptoBulk d + 1
  | .slice elems spare => uptoBulkAll elems + uptoBulkAll spare + 1
  | .agg parts => uptoBulkAll parts + 1
  | .iface _ d => uptoBulk d + 1
  | .map entries => uptoBulkEntries entries + 1
  | .held _ => 1
def uptoBulkAll {H : Type} : List (DataW H) → Nat
  | [] => 0
  | d :: r => uptoBulk d + uptoBulkAll r
def uptoBulkEntries {H : Type} : List (Lit × DataW H) → Nat
  | [] => 0
  | x :: r => uptoBulkEntry x + uptoBulkEntries r
def uptoBulkEntry {H : Type} : Lit × DataW H → Nat
  | (.string bytes, d) => bytes.length + uptoBulk d + 1
  | (_, d) => uptoBulk d + 1
 end
def uptoSmall : (H : Type) → List (DataW H) → Bool := fun _ ds => decide (uptoBulkAll ds ≤ 1048576)
def OpenSpec.upto (s : _root_.Go.ChangeSpec) : _root_.Go.OpenSpec := { _root_.Go.OpenSpec.ofChange s with cond := some uptoSmall }

/-- 'auspicelaw01.RealCanons', WHERE WHAT IT READS IS OF BULK AT MOST 1048576: true; the input reads as it did. -/
def realCanonsUptoRow : OpenClaim := { program := "ytpcdeofjadnpbaa", sum := "01ff447475bcd0aca9b4bbc5ac63dc3ba49ec9dc88709b2368ad5e30c382819a", func := "auspice/auspicelaw01.RealCanons", spec := "realCanons", inPlace := ["math.Float64frombits"], apart := false, narrowed := true }
def RealCanonsUptoSaid : Prop := realCanonsUptoRow.holds Try.pinned (OpenSpec.upto realCanonsSpec)

/-- 'auspicelaw01.RealAdds', WHERE WHAT IT READS IS OF BULK AT MOST 1048576: true; the input reads as it did. -/
def realAddsUptoRow : OpenClaim := { program := "ytpcdeofjadnpbaa", sum := "01ff447475bcd0aca9b4bbc5ac63dc3ba49ec9dc88709b2368ad5e30c382819a", func := "auspice/auspicelaw01.RealAdds", spec := "realAdds", inPlace := ["math.Float64frombits", "math.Float64bits"], apart := false, narrowed := true }
def RealAddsUptoSaid : Prop := realAddsUptoRow.holds Try.pinned (OpenSpec.upto realAddsSpec)

/-- 'auspicelaw01.RealMuls', WHERE WHAT IT READS IS OF BULK AT MOST 1048576: true; the input reads as it did. -/
def realMulsUptoRow : OpenClaim := { program := "ytpcdeofjadnpbaa", sum := "01ff447475bcd0aca9b4bbc5ac63dc3ba49ec9dc88709b2368ad5e30c382819a", func := "auspice/auspicelaw01.RealMuls", spec := "realMuls", inPlace := ["math.Float64frombits", "math.Float64bits"], apart := false, narrowed := true }
def RealMulsUptoSaid : Prop := realMulsUptoRow.holds Try.pinned (OpenSpec.upto realMulsSpec)

/-- 'auspicelaw01.RealNegs', WHERE WHAT IT READS IS OF BULK AT MOST 1048576: true; the input reads as it did. -/
def realNegsUptoRow : OpenClaim := { program := "ytpcdeofjadnpbaa", sum := "01ff447475bcd0aca9b4bbc5ac63dc3ba49ec9dc88709b2368ad5e30c382819a", func := "auspice/auspicelaw01.RealNegs", spec := "realNegs", inPlace := ["math.Float64frombits", "math.Float64bits"], apart := false, narrowed := true }
def RealNegsUptoSaid : Prop := realNegsUptoRow.holds Try.pinned (OpenSpec.upto realNegsSpec)

/-- 'auspicelaw01.RealCompares', WHERE WHAT IT READS IS OF BULK AT MOST 1048576: true; the input reads as it did. -/
def realComparesUptoRow : OpenClaim := { program := "ytpcdeofjadnpbaa", sum := "01ff447475bcd0aca9b4bbc5ac63dc3ba49ec9dc88709b2368ad5e30c382819a", func := "auspice/auspicelaw01.RealCompares", spec := "realCompares", inPlace := ["math.Float64frombits"], apart := false, narrowed := true }
def RealComparesUptoSaid : Prop := realComparesUptoRow.holds Try.pinned (OpenSpec.upto realComparesSpec)

/-- 'auspicelaw01.RealOrders', WHERE WHAT IT READS IS OF BULK AT MOST 1048576: true; the input reads as it did. -/
def realOrdersUptoRow : OpenClaim := { program := "ytpcdeofjadnpbaa", sum := "01ff447475bcd0aca9b4bbc5ac63dc3ba49ec9dc88709b2368ad5e30c382819a", func := "auspice/auspicelaw01.RealOrders", spec := "realOrders", inPlace := ["math.Float64frombits"], apart := false, narrowed := true }
def RealOrdersUptoSaid : Prop := realOrdersUptoRow.holds Try.pinned (OpenSpec.upto realOrdersSpec)

/-- 'auspicelaw01.RealTotal', WHERE WHAT IT READS IS OF BULK AT MOST 1048576: true; the input reads as it did. -/
def realTotalUptoRow : OpenClaim := { program := "ytpcdeofjadnpbaa", sum := "01ff447475bcd0aca9b4bbc5ac63dc3ba49ec9dc88709b2368ad5e30c382819a", func := "auspice/auspicelaw01.RealTotal", spec := "realTotal", inPlace := ["math.Float64frombits"], apart := false, narrowed := true }
def RealTotalUptoSaid : Prop := realTotalUptoRow.holds Try.pinned (OpenSpec.upto realTotalSpec)

/-- 'auspicelaw01.RealAgrees', WHERE WHAT IT READS IS OF BULK AT MOST 1048576: true; the input reads as it did. -/
def realAgreesUptoRow : OpenClaim := { program := "ytpcdeofjadnpbaa", sum := "01ff447475bcd0aca9b4bbc5ac63dc3ba49ec9dc88709b2368ad5e30c382819a", func := "auspice/auspicelaw01.RealAgrees", spec := "realAgrees", inPlace := ["math.Float64frombits"], apart := false, narrowed := true }
def RealAgreesUptoSaid : Prop := realAgreesUptoRow.holds Try.pinned (OpenSpec.upto realAgreesSpec)

/-- 'auspicelaw01.RealPicks', WHERE WHAT IT READS IS OF BULK AT MOST 1048576: true; the input reads as it did. -/
def realPicksUptoRow : OpenClaim := { program := "ytpcdeofjadnpbaa", sum := "01ff447475bcd0aca9b4bbc5ac63dc3ba49ec9dc88709b2368ad5e30c382819a", func := "auspice/auspicelaw01.RealPicks", spec := "realPicks", inPlace := ["math.Float64frombits"], apart := false, narrowed := true }
def RealPicksUptoSaid : Prop := realPicksUptoRow.holds Try.pinned (OpenSpec.upto realPicksSpec)

/-- 'auspicelaw01.RealInts', WHERE WHAT IT READS IS OF BULK AT MOST 1048576: true; the input reads as it did. -/
def realIntsUptoRow : OpenClaim := { program := "ytpcdeofjadnpbaa", sum := "01ff447475bcd0aca9b4bbc5ac63dc3ba49ec9dc88709b2368ad5e30c382819a", func := "auspice/auspicelaw01.RealInts", spec := "realInts", inPlace := ["math.Float64bits", "math.Float64frombits"], apart := false, narrowed := true }
def RealIntsUptoSaid : Prop := realIntsUptoRow.holds Try.pinned (OpenSpec.upto realIntsSpec)

/-- 'auspicelaw01.RealDecimals', WHERE WHAT IT READS IS OF BULK AT MOST 1048576: true; the input reads as it did. -/
def realDecimalsUptoRow : OpenClaim := { program := "ytpcdeofjadnpbaa", sum := "01ff447475bcd0aca9b4bbc5ac63dc3ba49ec9dc88709b2368ad5e30c382819a", func := "auspice/auspicelaw01.RealDecimals", spec := "realDecimals", inPlace := ["math.Float64bits", "math.Float64frombits"], apart := false, narrowed := true }
def RealDecimalsUptoSaid : Prop := realDecimalsUptoRow.holds Try.pinned (OpenSpec.upto realDecimalsSpec)

/-- 'auspicelaw01.RealSums', WHERE WHAT IT READS IS OF BULK AT MOST 1048576: true; the input reads as it did. -/
def realSumsUptoRow : OpenClaim := { program := "ytpcdeofjadnpbaa", sum := "01ff447475bcd0aca9b4bbc5ac63dc3ba49ec9dc88709b2368ad5e30c382819a", func := "auspice/auspicelaw01.RealSums", spec := "realSums", inPlace := ["math.Float64frombits", "math.Float64bits"], apart := false, narrowed := true }
def RealSumsUptoSaid : Prop := realSumsUptoRow.holds Try.pinned (OpenSpec.upto realSumsSpec)

end Rows
end Go.Proofs.Ytpcdeofjadnpbaa
