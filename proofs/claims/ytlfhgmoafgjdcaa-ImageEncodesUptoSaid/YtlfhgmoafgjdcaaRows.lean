/-
  No cell of these rows narrows 'for every input' (looked for: loops, veiled, ifaces, maps, wideKeys, modest, calm, conditions, laid).
  DERIVED. THE GIVEN ROWS OF THIS SEAT. 4 by the template 'for every input the law returns true; each argument reads behind the call as it read before'; 0 by the template 'total and deterministic' (their statements: YtlfhgmoafgjdcaaTotals.lean).
  GIVEN WITH THE SEED: the statements are not yours to turn. If you find one false, say at which input.
  Laid BY PROGRAM, IN A SANDBOX (cutbox-rows.mjs): the forced cells as the released guide's own fill.sh prints them over the translation 7f1a9898cd3031d2… (all of the seat's roots in one cut). By AI agents, Wed Nov 11 2026. No macro, syntax, notation, axiom, sorry.
-/
import Derived.Test.YtlfhgmoafgjdcaaChecked
import GoSem.Claim
import GoSem.ClaimJoined
import GoSem.ClaimMapViews
import Derived.JoinedTies
import Derived.KernelRfl
namespace Go.Proofs.Ytlfhgmoafgjdcaa
/- THE CELL 'sum', in the pinned program and in every row, IS THE sha256 OF THE DUMP (.gsa) THAT YtlfhgmoafgjdcaaProg.lean LOADS. Nothing in Lean hashes anything: it is a label: what it is worth is what the hold of that sum in a sandbox is worth. -/
noncomputable def Try.pinned : Pinned := { name := "ytlfhgmoafgjdcaa", sum := "7f1a9898cd3031d2802413d578e3e2f603bcb23cb1d9cada0d57f7c1bef9417b", checked := Try.checked }
namespace Rows
def none {H : Type} : Left H := { results := [], args := [] }

/-- 'auspicelaw21.ImageEncodes': WHATEVER THE INPUT: true; the input reads as it did. -/
def imageEncodesSpec : ChangeSpec := { name := "imageEncodes", fn := fun _ => fun
  | [d] => { results := [.lit (.bool true)], args := [d] }
  | _ => none }
def imageEncodesRow : OpenClaim := { program := "ytlfhgmoafgjdcaa", sum := "7f1a9898cd3031d2802413d578e3e2f603bcb23cb1d9cada0d57f7c1bef9417b", func := "auspice/auspicelaw21.ImageEncodes", spec := "imageEncodes", unfollowed := true, recurses := true, plainKeys := false, apart := false }
def ImageEncodesSaid : Prop := imageEncodesRow.holds Try.pinned (OpenSpec.ofChange imageEncodesSpec)

/-- ITS FALSE NEIGHBOUR: 'it returns false'. Refute it at one input. -/
def imageEncodesWrong : ChangeSpec := { name := "imageEncodes", fn := fun _ => fun
  | [d] => { results := [.lit (.bool false)], args := [d] }
  | _ => none }
def ImageEncodesWrongFalsely : Prop := imageEncodesRow.holds Try.pinned (OpenSpec.ofChange imageEncodesWrong)

/-- 'auspicelaw22.LoadVerifies': WHATEVER THE INPUT: true; the input reads as it did. -/
def loadVerifiesSpec : ChangeSpec := { name := "loadVerifies", fn := fun _ => fun
  | [d] => { results := [.lit (.bool true)], args := [d] }
  | _ => none }
def loadVerifiesRow : OpenClaim := { program := "ytlfhgmoafgjdcaa", sum := "7f1a9898cd3031d2802413d578e3e2f603bcb23cb1d9cada0d57f7c1bef9417b", func := "auspice/auspicelaw22.LoadVerifies", spec := "loadVerifies", inPlace := ["math.Float64frombits"], unfollowed := true, recurses := true, plainKeys := false, apart := false }
def LoadVerifiesSaid : Prop := loadVerifiesRow.holds Try.pinned (OpenSpec.ofChange loadVerifiesSpec)

/-- ITS FALSE NEIGHBOUR: 'it returns false'. Refute it at one input. -/
def loadVerifiesWrong : ChangeSpec := { name := "loadVerifies", fn := fun _ => fun
  | [d] => { results := [.lit (.bool false)], args := [d] }
  | _ => none }
def LoadVerifiesWrongFalsely : Prop := loadVerifiesRow.holds Try.pinned (OpenSpec.ofChange loadVerifiesWrong)

/-- 'auspicelaw22.LoadPaths': WHATEVER THE INPUT: true; the input reads as it did. -/
def loadPathsSpec : ChangeSpec := { name := "loadPaths", fn := fun _ => fun
  | [d1, d2] => { results := [.lit (.bool true)], args := [d1, d2] }
  | _ => none }
def loadPathsRow : OpenClaim := { program := "ytlfhgmoafgjdcaa", sum := "7f1a9898cd3031d2802413d578e3e2f603bcb23cb1d9cada0d57f7c1bef9417b", func := "auspice/auspicelaw22.LoadPaths", spec := "loadPaths", inPlace := ["math.Float64frombits"], unfollowed := true, recurses := true, plainKeys := false, apart := false }
def LoadPathsSaid : Prop := loadPathsRow.holds Try.pinned (OpenSpec.ofChange loadPathsSpec)

/-- ITS FALSE NEIGHBOUR: 'it returns false'. Refute it at one input. -/
def loadPathsWrong : ChangeSpec := { name := "loadPaths", fn := fun _ => fun
  | [d1, d2] => { results := [.lit (.bool false)], args := [d1, d2] }
  | _ => none }
def LoadPathsWrongFalsely : Prop := loadPathsRow.holds Try.pinned (OpenSpec.ofChange loadPathsWrong)

/-- 'auspicelaw22.LoadOnce': WHATEVER THE INPUT: true; the input reads as it did. -/
def loadOnceSpec : ChangeSpec := { name := "loadOnce", fn := fun _ => fun
  | [d1, d2] => { results := [.lit (.bool true)], args := [d1, d2] }
  | _ => none }
def loadOnceRow : OpenClaim := { program := "ytlfhgmoafgjdcaa", sum := "7f1a9898cd3031d2802413d578e3e2f603bcb23cb1d9cada0d57f7c1bef9417b", func := "auspice/auspicelaw22.LoadOnce", spec := "loadOnce", inPlace := ["math.Float64frombits"], unfollowed := true, recurses := true, plainKeys := false, apart := false }
def LoadOnceSaid : Prop := loadOnceRow.holds Try.pinned (OpenSpec.ofChange loadOnceSpec)

/-- ITS FALSE NEIGHBOUR: 'it returns false'. Refute it at one input. -/
def loadOnceWrong : ChangeSpec := { name := "loadOnce", fn := fun _ => fun
  | [d1, d2] => { results := [.lit (.bool false)], args := [d1, d2] }
  | _ => none }
def LoadOnceWrongFalsely : Prop := loadOnceRow.holds Try.pinned (OpenSpec.ofChange loadOnceWrong)

/- THE SECOND FORM. 'bulk': how many values and letters a reading holds, each counted each time it is reached (what is shared counts as often as it is met; a slice's spare places count too). A statement '..UptoSaid' is the law's where the arguments, and the package variables that the reading takes, are together of bulk at most 1048576: NARROWER than '..Said'. Prove '..Said' where nothing that the law and all that it calls make is longer than what came in: it says more and counts as full. Else prove '..UptoSaid'. A law counts once. -/
mutual
def uptoBulk {H : Type} : DataW H → Nat
  | .lit (.string bytes) => bytes.length + 1
  | .lit _ => 1
  | .nil => 1
  | .ptr d => uptoBulk d + 1
  | .slice elems spare => uptoBulkAll elems + uptoBulkAll spare + 1
  | .agg parts => uptoBulkAll parts + 1
  | .iface _ d => uptoBulk d + 1
  | .map entries => uptoBulkEntries entries + 1
  | .held _ => 1
def uptoBulkAll {H : Type} : List (DataW H) → Nat
  | [] => 0
  | d :: r => uptoBulk d + uptoBulkAll r
def uptoBulkEntries {H : Type} : List (Lit × DataW H) → Nat
  | [] => 0
  | x :: r => uptoBulkEntry x + uptoBulkEntries r
def uptoBulkEntry {H : Type} : Lit × DataW H → Nat
  | (.string bytes, d) => bytes.length + uptoBulk d + 1
  | (_, d) => uptoBulk d + 1
 end
def uptoSmall : (H : Type) → List (DataW H) → Bool := fun _ ds => decide (uptoBulkAll ds ≤ 1048576)
def OpenSpec.upto (s : _root_.Go.ChangeSpec) : _root_.Go.OpenSpec := { _root_.Go.OpenSpec.ofChange s with cond := some uptoSmall }

/-- 'auspicelaw21.ImageEncodes', WHERE WHAT IT READS IS OF BULK AT MOST 1048576: true; the input reads as it did. -/
def imageEncodesUptoRow : OpenClaim := { program := "ytlfhgmoafgjdcaa", sum := "7f1a9898cd3031d2802413d578e3e2f603bcb23cb1d9cada0d57f7c1bef9417b", func := "auspice/auspicelaw21.ImageEncodes", spec := "imageEncodes", unfollowed := true, recurses := true, plainKeys := false, apart := false, narrowed := true }
def ImageEncodesUptoSaid : Prop := imageEncodesUptoRow.holds Try.pinned (OpenSpec.upto imageEncodesSpec)

/-- 'auspicelaw22.LoadVerifies', WHERE WHAT IT READS IS OF BULK AT MOST 1048576: true; the input reads as it did. -/
def loadVerifiesUptoRow : OpenClaim := { program := "ytlfhgmoafgjdcaa", sum := "7f1a9898cd3031d2802413d578e3e2f603bcb23cb1d9cada0d57f7c1bef9417b", func := "auspice/auspicelaw22.LoadVerifies", spec := "loadVerifies", inPlace := ["math.Float64frombits"], unfollowed := true, recurses := true, plainKeys := false, apart := false, narrowed := true }
def LoadVerifiesUptoSaid : Prop := loadVerifiesUptoRow.holds Try.pinned (OpenSpec.upto loadVerifiesSpec)

/-- 'auspicelaw22.LoadPaths', WHERE WHAT IT READS IS OF BULK AT MOST 1048576: true; the input reads as it did. -/
def loadPathsUptoRow : OpenClaim := { program := "ytlfhgmoafgjdcaa", sum := "7f1a9898cd3031d2802413d578e3e2f603bcb23cb1d9cada0d57f7c1bef9417b", func := "auspice/auspicelaw22.LoadPaths", spec := "loadPaths", inPlace := ["math.Float64frombits"], unfollowed := true, recurses := true, plainKeys := false, apart := false, narrowed := true }
def LoadPathsUptoSaid : Prop := loadPathsUptoRow.holds Try.pinned (OpenSpec.upto loadPathsSpec)

/-- 'auspicelaw22.LoadOnce', WHERE WHAT IT READS IS OF BULK AT MOST 1048576: true; the input reads as it did. -/
def loadOnceUptoRow : OpenClaim := { program := "ytlfhgmoafgjdcaa", sum := "7f1a9898cd3031d2802413d578e3e2f603bcb23cb1d9cada0d57f7c1bef9417b", func := "auspice/auspicelaw22.LoadOnce", spec := "loadOnce", inPlace := ["math.Float64frombits"], unfollowed := true, recurses := true, plainKeys := false, apart := false, narrowed := true }
def LoadOnceUptoSaid : Prop := loadOnceUptoRow.holds Try.pinned (OpenSpec.upto loadOnceSpec)

end Rows
end Go.Proofs.Ytlfhgmoafgjdcaa
