/-
  NARROWER THAN 'FOR EVERY INPUT', by the rows' own cells (each row's printed sentence says how): EvalNodes: loops.
  DERIVED. THE GIVEN ROWS OF THIS SEAT. 4 by the template 'for every input the law returns true; each argument reads behind the call as it read before'; 0 by the template 'total and deterministic' (their statements: YtfjnphiegoogoaaTotals.lean).
  GIVEN WITH THE SEED: the statements are not yours to turn. If you find one false, say at which input.
  Laid BY PROGRAM, IN A SANDBOX (cutbox-rows.mjs): the forced cells as the released guide's own fill.sh prints them over the translation db4b32c19886263a… (all of the seat's roots in one cut). By AI agents, Wed Nov 11 2026. No macro, syntax, notation, axiom, sorry.
-/
import Derived.Test.YtfjnphiegoogoaaChecked
import GoSem.Claim
import GoSem.ClaimJoined
import GoSem.ClaimMapViews
import Derived.JoinedTies
import Derived.KernelRfl
namespace Go.Proofs.Ytfjnphiegoogoaa
/- THE CELL 'sum', in the pinned program and in every row, IS THE sha256 OF THE DUMP (.gsa) THAT YtfjnphiegoogoaaProg.lean LOADS. Nothing in Lean hashes anything: it is a label: what it is worth is what the hold of that sum in a sandbox is worth. -/
noncomputable def Try.pinned : Pinned := { name := "ytfjnphiegoogoaa", sum := "db4b32c19886263a5a80a1f188118a0c94c7cc0386b78a0311db35d712550af9", checked := Try.checked }
namespace Rows
def none {H : Type} : Left H := { results := [], args := [] }

/-- 'auspicelaw09.EvalNodes': WHATEVER THE INPUT: true; the input reads as it did. -/
def evalNodesSpec : ChangeSpec := { name := "evalNodes", fn := fun _ => fun
  | [d1, d2, d3] => { results := [.lit (.bool true)], args := [d1, d2, d3] }
  | _ => none }
def evalNodesRow : OpenClaim := { program := "ytfjnphiegoogoaa", sum := "db4b32c19886263a5a80a1f188118a0c94c7cc0386b78a0311db35d712550af9", func := "auspice/auspicelaw09.EvalNodes", spec := "evalNodes", inPlace := ["math.Float64frombits", "math.Float64bits"], unfollowed := true, recurses := true, loops := true, apart := false }
def EvalNodesSaid : Prop := evalNodesRow.holds Try.pinned (OpenSpec.ofChange evalNodesSpec)

/-- ITS FALSE NEIGHBOUR: 'it returns false'. Refute it at one input. -/
def evalNodesWrong : ChangeSpec := { name := "evalNodes", fn := fun _ => fun
  | [d1, d2, d3] => { results := [.lit (.bool false)], args := [d1, d2, d3] }
  | _ => none }
def EvalNodesWrongFalsely : Prop := evalNodesRow.holds Try.pinned (OpenSpec.ofChange evalNodesWrong)

/-- 'auspicelaw09.EvalGrows': WHATEVER THE INPUT: true; the input reads as it did. -/
def evalGrowsSpec : ChangeSpec := { name := "evalGrows", fn := fun _ => fun
  | [d1, d2, d3] => { results := [.lit (.bool true)], args := [d1, d2, d3] }
  | _ => none }
def evalGrowsRow : OpenClaim := { program := "ytfjnphiegoogoaa", sum := "db4b32c19886263a5a80a1f188118a0c94c7cc0386b78a0311db35d712550af9", func := "auspice/auspicelaw09.EvalGrows", spec := "evalGrows", inPlace := ["math.Float64frombits", "math.Float64bits"], unfollowed := true, recurses := true, apart := false }
def EvalGrowsSaid : Prop := evalGrowsRow.holds Try.pinned (OpenSpec.ofChange evalGrowsSpec)

/-- ITS FALSE NEIGHBOUR: 'it returns false'. Refute it at one input. -/
def evalGrowsWrong : ChangeSpec := { name := "evalGrows", fn := fun _ => fun
  | [d1, d2, d3] => { results := [.lit (.bool false)], args := [d1, d2, d3] }
  | _ => none }
def EvalGrowsWrongFalsely : Prop := evalGrowsRow.holds Try.pinned (OpenSpec.ofChange evalGrowsWrong)

/-- 'auspicelaw09.EvalEnds': WHATEVER THE INPUT: true; the input reads as it did. -/
def evalEndsSpec : ChangeSpec := { name := "evalEnds", fn := fun _ => fun
  | [d] => { results := [.lit (.bool true)], args := [d] }
  | _ => none }
def evalEndsRow : OpenClaim := { program := "ytfjnphiegoogoaa", sum := "db4b32c19886263a5a80a1f188118a0c94c7cc0386b78a0311db35d712550af9", func := "auspice/auspicelaw09.EvalEnds", spec := "evalEnds", inPlace := ["math.Float64frombits", "math.Float64bits"], unfollowed := true, recurses := true, apart := false }
def EvalEndsSaid : Prop := evalEndsRow.holds Try.pinned (OpenSpec.ofChange evalEndsSpec)

/-- ITS FALSE NEIGHBOUR: 'it returns false'. Refute it at one input. -/
def evalEndsWrong : ChangeSpec := { name := "evalEnds", fn := fun _ => fun
  | [d] => { results := [.lit (.bool false)], args := [d] }
  | _ => none }
def EvalEndsWrongFalsely : Prop := evalEndsRow.holds Try.pinned (OpenSpec.ofChange evalEndsWrong)

/-- 'auspicelaw09.EvalPoison': WHATEVER THE INPUT: true; the input reads as it did. -/
def evalPoisonSpec : ChangeSpec := { name := "evalPoison", fn := fun _ => fun
  | [d1, d2, d3] => { results := [.lit (.bool true)], args := [d1, d2, d3] }
  | _ => none }
def evalPoisonRow : OpenClaim := { program := "ytfjnphiegoogoaa", sum := "db4b32c19886263a5a80a1f188118a0c94c7cc0386b78a0311db35d712550af9", func := "auspice/auspicelaw09.EvalPoison", spec := "evalPoison", inPlace := ["math.Float64frombits", "math.Float64bits"], unfollowed := true, recurses := true, apart := false }
def EvalPoisonSaid : Prop := evalPoisonRow.holds Try.pinned (OpenSpec.ofChange evalPoisonSpec)

/-- ITS FALSE NEIGHBOUR: 'it returns false'. Refute it at one input. -/
def evalPoisonWrong : ChangeSpec := { name := "evalPoison", fn := fun _ => fun
  | [d1, d2, d3] => { results := [.lit (.bool false)], args := [d1, d2, d3] }
  | _ => none }
def EvalPoisonWrongFalsely : Prop := evalPoisonRow.holds Try.pinned (OpenSpec.ofChange evalPoisonWrong)

/- THE SECOND FORM. 'bulk': how many values and letters a reading holds, each counted each time it is reached (what is shared counts as often as it is met; a slice's spare places count too). A statement '..UptoSaid' is the law's where the arguments, and the package variables that the reading takes, are together of bulk at most 1048576: NARROWER than '..Said'. Prove '..Said' where nothing that the law and all that it calls make is longer than what came in: it says more and counts as full. Else prove '..UptoSaid'. A law counts once. -/
mutual
def uptoBulk {H : Type} : DataW H → Nat
  | .lit (.string bytes) => bytes.length + 1
  | .lit _ => 1
  | .nil => 1
  | .ptr d => uptoBulk d + 1
  | .slice elems spare => uptoBulkAll elems + uptoBulkAll spare + 1
  | .agg parts => uptoBulkAll parts + 1
  | .iface _ d => uptoBulk d + 1
  | .map entries => uptoBulkEntries entries + 1
  | .held _ => 1
def uptoBulkAll {H : Type} : List (DataW H) → Nat
  | [] => 0
  | d :: r => uptoBulk d + uptoBulkAll r
def uptoBulkEntries {H : Type} : List (Lit × DataW H) → Nat
  | [] => 0
  | x :: r => uptoBulkEntry x + uptoBulkEntries r
def uptoBulkEntry {H : Type} : Lit × DataW H → Nat
  | (.string bytes, d) => bytes.length + uptoBulk d + 1
  | (_, d) => uptoBulk d + 1
 end
def uptoSmall : (H : Type) → List (DataW H) → Bool := fun _ ds => decide (uptoBulkAll ds ≤ 1048576)
def OpenSpec.upto (s : _root_.Go.ChangeSpec) : _root_.Go.OpenSpec := { _root_.Go.OpenSpec.ofChange s with cond := some uptoSmall }

/-- 'auspicelaw09.EvalNodes', WHERE WHAT IT READS IS OF BULK AT MOST 1048576: true; the input reads as it did. -/
def evalNodesUptoRow : OpenClaim := { program := "ytfjnphiegoogoaa", sum := "db4b32c19886263a5a80a1f188118a0c94c7cc0386b78a0311db35d712550af9", func := "auspice/auspicelaw09.EvalNodes", spec := "evalNodes", inPlace := ["math.Float64frombits", "math.Float64bits"], unfollowed := true, recurses := true, loops := true, apart := false, narrowed := true }
def EvalNodesUptoSaid : Prop := evalNodesUptoRow.holds Try.pinned (OpenSpec.upto evalNodesSpec)

/-- 'auspicelaw09.EvalGrows', WHERE WHAT IT READS IS OF BULK AT MOST 1048576: true; the input reads as it did. -/
def evalGrowsUptoRow : OpenClaim := { program := "ytfjnphiegoogoaa", sum := "db4b32c19886263a5a80a1f188118a0c94c7cc0386b78a0311db35d712550af9", func := "auspice/auspicelaw09.EvalGrows", spec := "evalGrows", inPlace := ["math.Float64frombits", "math.Float64bits"], unfollowed := true, recurses := true, apart := false, narrowed := true }
def EvalGrowsUptoSaid : Prop := evalGrowsUptoRow.holds Try.pinned (OpenSpec.upto evalGrowsSpec)

/-- 'auspicelaw09.EvalEnds', WHERE WHAT IT READS IS OF BULK AT MOST 1048576: true; the input reads as it did. -/
def evalEndsUptoRow : OpenClaim := { program := "ytfjnphiegoogoaa", sum := "db4b32c19886263a5a80a1f188118a0c94c7cc0386b78a0311db35d712550af9", func := "auspice/auspicelaw09.EvalEnds", spec := "evalEnds", inPlace := ["math.Float64frombits", "math.Float64bits"], unfollowed := true, recurses := true, apart := false, narrowed := true }
def EvalEndsUptoSaid : Prop := evalEndsUptoRow.holds Try.pinned (OpenSpec.upto evalEndsSpec)

/-- 'auspicelaw09.EvalPoison', WHERE WHAT IT READS IS OF BULK AT MOST 1048576: true; the input reads as it did. -/
def evalPoisonUptoRow : OpenClaim := { program := "ytfjnphiegoogoaa", sum := "db4b32c19886263a5a80a1f188118a0c94c7cc0386b78a0311db35d712550af9", func := "auspice/auspicelaw09.EvalPoison", spec := "evalPoison", inPlace := ["math.Float64frombits", "math.Float64bits"], unfollowed := true, recurses := true, apart := false, narrowed := true }
def EvalPoisonUptoSaid : Prop := evalPoisonUptoRow.holds Try.pinned (OpenSpec.upto evalPoisonSpec)

end Rows
end Go.Proofs.Ytfjnphiegoogoaa
