/-
  No cell of these rows narrows 'for every input' (looked for: loops, veiled, ifaces, maps, wideKeys, modest, calm, conditions, laid).
  DERIVED. THE GIVEN ROWS OF THIS SEAT. 7 by the template 'for every input the law returns true; each argument reads behind the call as it read before'; 0 by the template 'total and deterministic' (their statements: YtpjlocmohcjpfaaTotals.lean).
  GIVEN WITH THE SEED: the statements are not yours to turn. If you find one false, say at which input.
  Laid BY PROGRAM, IN A SANDBOX (cutbox-rows.mjs): the forced cells as the released guide's own fill.sh prints them over the translation 033ee8231081a7f8… (all of the seat's roots in one cut). By AI agents, Wed Nov 11 2026. No macro, syntax, notation, axiom, sorry.
-/
import Derived.Test.YtpjlocmohcjpfaaChecked
import GoSem.Claim
import GoSem.ClaimJoined
import GoSem.ClaimMapViews
import Derived.JoinedTies
import Derived.KernelRfl
namespace Go.Proofs.Ytpjlocmohcjpfaa
/- THE CELL 'sum', in the pinned program and in every row, IS THE sha256 OF THE DUMP (.gsa) THAT YtpjlocmohcjpfaaProg.lean LOADS. Nothing in Lean hashes anything: it is a label: what it is worth is what the hold of that sum in a sandbox is worth. -/
noncomputable def Try.pinned : Pinned := { name := "ytpjlocmohcjpfaa", sum := "033ee8231081a7f8f7bd7ac3e394223e65dda3ae334f8bbc3b265f6115682ee4", checked := Try.checked }
namespace Rows
def none {H : Type} : Left H := { results := [], args := [] }

/-- 'auspicelaw02.ValueApplies': WHATEVER THE INPUT: true; the input reads as it did. -/
def valueAppliesSpec : ChangeSpec := { name := "valueApplies", fn := fun _ => fun
  | [d1, d2] => { results := [.lit (.bool true)], args := [d1, d2] }
  | _ => none }
def valueAppliesRow : OpenClaim := { program := "ytpjlocmohcjpfaa", sum := "033ee8231081a7f8f7bd7ac3e394223e65dda3ae334f8bbc3b265f6115682ee4", func := "auspice/auspicelaw02.ValueApplies", spec := "valueApplies", inPlace := ["math.Float64frombits", "math.Float64bits"], unfollowed := true, recurses := true, apart := false }
def ValueAppliesSaid : Prop := valueAppliesRow.holds Try.pinned (OpenSpec.ofChange valueAppliesSpec)

/-- ITS FALSE NEIGHBOUR: 'it returns false'. Refute it at one input. -/
def valueAppliesWrong : ChangeSpec := { name := "valueApplies", fn := fun _ => fun
  | [d1, d2] => { results := [.lit (.bool false)], args := [d1, d2] }
  | _ => none }
def ValueAppliesWrongFalsely : Prop := valueAppliesRow.holds Try.pinned (OpenSpec.ofChange valueAppliesWrong)

/-- 'auspicelaw03.SchemaNames': WHATEVER THE INPUT: true; the input reads as it did. -/
def schemaNamesSpec : ChangeSpec := { name := "schemaNames", fn := fun _ => fun
  | [d] => { results := [.lit (.bool true)], args := [d] }
  | _ => none }
def schemaNamesRow : OpenClaim := { program := "ytpjlocmohcjpfaa", sum := "033ee8231081a7f8f7bd7ac3e394223e65dda3ae334f8bbc3b265f6115682ee4", func := "auspice/auspicelaw03.SchemaNames", spec := "schemaNames", unfollowed := true, recurses := true, apart := false }
def SchemaNamesSaid : Prop := schemaNamesRow.holds Try.pinned (OpenSpec.ofChange schemaNamesSpec)

/-- ITS FALSE NEIGHBOUR: 'it returns false'. Refute it at one input. -/
def schemaNamesWrong : ChangeSpec := { name := "schemaNames", fn := fun _ => fun
  | [d] => { results := [.lit (.bool false)], args := [d] }
  | _ => none }
def SchemaNamesWrongFalsely : Prop := schemaNamesRow.holds Try.pinned (OpenSpec.ofChange schemaNamesWrong)

/-- 'auspicelaw03.SchemaWords': WHATEVER THE INPUT: true; the input reads as it did. -/
def schemaWordsSpec : ChangeSpec := { name := "schemaWords", fn := fun _ => fun
  | [d] => { results := [.lit (.bool true)], args := [d] }
  | _ => none }
def schemaWordsRow : OpenClaim := { program := "ytpjlocmohcjpfaa", sum := "033ee8231081a7f8f7bd7ac3e394223e65dda3ae334f8bbc3b265f6115682ee4", func := "auspice/auspicelaw03.SchemaWords", spec := "schemaWords", unfollowed := true, recurses := true, apart := false }
def SchemaWordsSaid : Prop := schemaWordsRow.holds Try.pinned (OpenSpec.ofChange schemaWordsSpec)

/-- ITS FALSE NEIGHBOUR: 'it returns false'. Refute it at one input. -/
def schemaWordsWrong : ChangeSpec := { name := "schemaWords", fn := fun _ => fun
  | [d] => { results := [.lit (.bool false)], args := [d] }
  | _ => none }
def SchemaWordsWrongFalsely : Prop := schemaWordsRow.holds Try.pinned (OpenSpec.ofChange schemaWordsWrong)

/-- 'auspicelaw03.SchemaChecks': WHATEVER THE INPUT: true; the input reads as it did. -/
def schemaChecksSpec : ChangeSpec := { name := "schemaChecks", fn := fun _ => fun
  | [d] => { results := [.lit (.bool true)], args := [d] }
  | _ => none }
def schemaChecksRow : OpenClaim := { program := "ytpjlocmohcjpfaa", sum := "033ee8231081a7f8f7bd7ac3e394223e65dda3ae334f8bbc3b265f6115682ee4", func := "auspice/auspicelaw03.SchemaChecks", spec := "schemaChecks", unfollowed := true, recurses := true, apart := false }
def SchemaChecksSaid : Prop := schemaChecksRow.holds Try.pinned (OpenSpec.ofChange schemaChecksSpec)

/-- ITS FALSE NEIGHBOUR: 'it returns false'. Refute it at one input. -/
def schemaChecksWrong : ChangeSpec := { name := "schemaChecks", fn := fun _ => fun
  | [d] => { results := [.lit (.bool false)], args := [d] }
  | _ => none }
def SchemaChecksWrongFalsely : Prop := schemaChecksRow.holds Try.pinned (OpenSpec.ofChange schemaChecksWrong)

/-- 'auspicelaw03.SchemaFinds': WHATEVER THE INPUT: true; the input reads as it did. -/
def schemaFindsSpec : ChangeSpec := { name := "schemaFinds", fn := fun _ => fun
  | [d1, d2, d3] => { results := [.lit (.bool true)], args := [d1, d2, d3] }
  | _ => none }
def schemaFindsRow : OpenClaim := { program := "ytpjlocmohcjpfaa", sum := "033ee8231081a7f8f7bd7ac3e394223e65dda3ae334f8bbc3b265f6115682ee4", func := "auspice/auspicelaw03.SchemaFinds", spec := "schemaFinds", unfollowed := true, recurses := true, apart := false }
def SchemaFindsSaid : Prop := schemaFindsRow.holds Try.pinned (OpenSpec.ofChange schemaFindsSpec)

/-- ITS FALSE NEIGHBOUR: 'it returns false'. Refute it at one input. -/
def schemaFindsWrong : ChangeSpec := { name := "schemaFinds", fn := fun _ => fun
  | [d1, d2, d3] => { results := [.lit (.bool false)], args := [d1, d2, d3] }
  | _ => none }
def SchemaFindsWrongFalsely : Prop := schemaFindsRow.holds Try.pinned (OpenSpec.ofChange schemaFindsWrong)

/-- 'auspicelaw03.SchemaKinds': WHATEVER THE INPUT: true; the input reads as it did. -/
def schemaKindsSpec : ChangeSpec := { name := "schemaKinds", fn := fun _ => fun
  | [d1, d2, d3] => { results := [.lit (.bool true)], args := [d1, d2, d3] }
  | _ => none }
def schemaKindsRow : OpenClaim := { program := "ytpjlocmohcjpfaa", sum := "033ee8231081a7f8f7bd7ac3e394223e65dda3ae334f8bbc3b265f6115682ee4", func := "auspice/auspicelaw03.SchemaKinds", spec := "schemaKinds", unfollowed := true, recurses := true, apart := false }
def SchemaKindsSaid : Prop := schemaKindsRow.holds Try.pinned (OpenSpec.ofChange schemaKindsSpec)

/-- ITS FALSE NEIGHBOUR: 'it returns false'. Refute it at one input. -/
def schemaKindsWrong : ChangeSpec := { name := "schemaKinds", fn := fun _ => fun
  | [d1, d2, d3] => { results := [.lit (.bool false)], args := [d1, d2, d3] }
  | _ => none }
def SchemaKindsWrongFalsely : Prop := schemaKindsRow.holds Try.pinned (OpenSpec.ofChange schemaKindsWrong)

/-- 'auspicelaw03.SchemaThere': WHATEVER THE INPUT: true; the input reads as it did. -/
def schemaThereSpec : ChangeSpec := { name := "schemaThere", fn := fun _ => fun
  | [d] => { results := [.lit (.bool true)], args := [d] }
  | _ => none }
def schemaThereRow : OpenClaim := { program := "ytpjlocmohcjpfaa", sum := "033ee8231081a7f8f7bd7ac3e394223e65dda3ae334f8bbc3b265f6115682ee4", func := "auspice/auspicelaw03.SchemaThere", spec := "schemaThere", unfollowed := true, recurses := true, apart := false }
def SchemaThereSaid : Prop := schemaThereRow.holds Try.pinned (OpenSpec.ofChange schemaThereSpec)

/-- ITS FALSE NEIGHBOUR: 'it returns false'. Refute it at one input. -/
def schemaThereWrong : ChangeSpec := { name := "schemaThere", fn := fun _ => fun
  | [d] => { results := [.lit (.bool false)], args := [d] }
  | _ => none }
def SchemaThereWrongFalsely : Prop := schemaThereRow.holds Try.pinned (OpenSpec.ofChange schemaThereWrong)

/- THE SECOND FORM. 'bulk': how many values and letters a reading holds, each counted each time it is reached (what is shared counts as often as it is met; a slice's spare places count too). A statement '..UptoSaid' is the law's where the arguments, and the package variables that the reading takes, are together of bulk at most 1048576: NARROWER than '..Said'. Prove '..Said' where nothing that the law and all that it calls make is longer than what came in: it says more and counts as full. Else prove '..UptoSaid'. A law counts once. -/
mutual
def uptoBulk {H : Type} : DataW H → Nat
  | .lit (.string bytes) => bytes.length + 1
  | .lit _ => 1
  | .nil => 1
  | .ptr d => uptoBulk d + 1
  | .slice elems spare => uptoBulkAll elems + uptoBulkAll spare + 1
  | .agg parts => uptoBulkAll parts + 1
  | .iface _ d => uptoBulk d + 1
  | .map entries => uptoBulkEntries entries + 1
  | .held _ => 1
def uptoBulkAll {H : Type} : List (DataW H) → Nat
  | [] => 0
  | d :: r => uptoBulk d + uptoBulkAll r
def uptoBulkEntries {H : Type} : List (Lit × DataW H) → Nat
  | [] => 0
  | x :: r => uptoBulkEntry x + uptoBulkEntries r
def uptoBulkEntry {H : Type} : Lit × DataW H → Nat
  | (.string bytes, d) => bytes.length + uptoBulk d + 1
  | (_, d) => uptoBulk d + 1
 end
def uptoSmall : (H : Type) → List (DataW H) → Bool := fun _ ds => decide (uptoBulkAll ds ≤ 1048576)
def OpenSpec.upto (s : _root_.Go.ChangeSpec) : _root_.Go.OpenSpec := { _root_.Go.OpenSpec.ofChange s with cond := some uptoSmall }

/-- 'auspicelaw02.ValueApplies', WHERE WHAT IT READS IS OF BULK AT MOST 1048576: true; the input reads as it did. -/
def valueAppliesUptoRow : OpenClaim := { program := "ytpjlocmohcjpfaa", sum := "033ee8231081a7f8f7bd7ac3e394223e65dda3ae334f8bbc3b265f6115682ee4", func := "auspice/auspicelaw02.ValueApplies", spec := "valueApplies", inPlace := ["math.Float64frombits", "math.Float64bits"], unfollowed := true, recurses := true, apart := false, narrowed := true }
def ValueAppliesUptoSaid : Prop := valueAppliesUptoRow.holds Try.pinned (OpenSpec.upto valueAppliesSpec)

/-- 'auspicelaw03.SchemaNames', WHERE WHAT IT READS IS OF BULK AT MOST 1048576: true; the input reads as it did. -/
def schemaNamesUptoRow : OpenClaim := { program := "ytpjlocmohcjpfaa", sum := "033ee8231081a7f8f7bd7ac3e394223e65dda3ae334f8bbc3b265f6115682ee4", func := "auspice/auspicelaw03.SchemaNames", spec := "schemaNames", unfollowed := true, recurses := true, apart := false, narrowed := true }
def SchemaNamesUptoSaid : Prop := schemaNamesUptoRow.holds Try.pinned (OpenSpec.upto schemaNamesSpec)

/-- 'auspicelaw03.SchemaWords', WHERE WHAT IT READS IS OF BULK AT MOST 1048576: true; the input reads as it did. -/
def schemaWordsUptoRow : OpenClaim := { program := "ytpjlocmohcjpfaa", sum := "033ee8231081a7f8f7bd7ac3e394223e65dda3ae334f8bbc3b265f6115682ee4", func := "auspice/auspicelaw03.SchemaWords", spec := "schemaWords", unfollowed := true, recurses := true, apart := false, narrowed := true }
def SchemaWordsUptoSaid : Prop := schemaWordsUptoRow.holds Try.pinned (OpenSpec.upto schemaWordsSpec)

/-- 'auspicelaw03.SchemaChecks', WHERE WHAT IT READS IS OF BULK AT MOST 1048576: true; the input reads as it did. -/
def schemaChecksUptoRow : OpenClaim := { program := "ytpjlocmohcjpfaa", sum := "033ee8231081a7f8f7bd7ac3e394223e65dda3ae334f8bbc3b265f6115682ee4", func := "auspice/auspicelaw03.SchemaChecks", spec := "schemaChecks", unfollowed := true, recurses := true, apart := false, narrowed := true }
def SchemaChecksUptoSaid : Prop := schemaChecksUptoRow.holds Try.pinned (OpenSpec.upto schemaChecksSpec)

/-- 'auspicelaw03.SchemaFinds', WHERE WHAT IT READS IS OF BULK AT MOST 1048576: true; the input reads as it did. -/
def schemaFindsUptoRow : OpenClaim := { program := "ytpjlocmohcjpfaa", sum := "033ee8231081a7f8f7bd7ac3e394223e65dda3ae334f8bbc3b265f6115682ee4", func := "auspice/auspicelaw03.SchemaFinds", spec := "schemaFinds", unfollowed := true, recurses := true, apart := false, narrowed := true }
def SchemaFindsUptoSaid : Prop := schemaFindsUptoRow.holds Try.pinned (OpenSpec.upto schemaFindsSpec)

/-- 'auspicelaw03.SchemaKinds', WHERE WHAT IT READS IS OF BULK AT MOST 1048576: true; the input reads as it did. -/
def schemaKindsUptoRow : OpenClaim := { program := "ytpjlocmohcjpfaa", sum := "033ee8231081a7f8f7bd7ac3e394223e65dda3ae334f8bbc3b265f6115682ee4", func := "auspice/auspicelaw03.SchemaKinds", spec := "schemaKinds", unfollowed := true, recurses := true, apart := false, narrowed := true }
def SchemaKindsUptoSaid : Prop := schemaKindsUptoRow.holds Try.pinned (OpenSpec.upto schemaKindsSpec)

/-- 'auspicelaw03.SchemaThere', WHERE WHAT IT READS IS OF BULK AT MOST 1048576: true; the input reads as it did. -/
def schemaThereUptoRow : OpenClaim := { program := "ytpjlocmohcjpfaa", sum := "033ee8231081a7f8f7bd7ac3e394223e65dda3ae334f8bbc3b265f6115682ee4", func := "auspice/auspicelaw03.SchemaThere", spec := "schemaThere", unfollowed := true, recurses := true, apart := false, narrowed := true }
def SchemaThereUptoSaid : Prop := schemaThereUptoRow.holds Try.pinned (OpenSpec.upto schemaThereSpec)

end Rows
end Go.Proofs.Ytpjlocmohcjpfaa
