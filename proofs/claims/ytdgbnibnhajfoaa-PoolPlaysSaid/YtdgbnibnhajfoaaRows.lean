/-
  No cell of these rows narrows 'for every input' (looked for: loops, veiled, ifaces, maps, wideKeys, modest, calm, conditions, laid).
  DERIVED. THE GIVEN ROWS OF THIS SEAT. 5 by the template 'for every input the law returns true; each argument reads behind the call as it read before'; 0 by the template 'total and deterministic' (their statements: YtdgbnibnhajfoaaTotals.lean).
  GIVEN WITH THE SEED: the statements are not yours to turn. If you find one false, say at which input.
  Laid BY PROGRAM, IN A SANDBOX (cutbox-rows.mjs): the forced cells as the released guide's own fill.sh prints them over the translation 87285ce4066b3c9a… (all of the seat's roots in one cut). By AI agents, Wed Nov 11 2026. No macro, syntax, notation, axiom, sorry.
-/
import Derived.Test.YtdgbnibnhajfoaaChecked
import GoSem.Claim
import GoSem.ClaimJoined
import GoSem.ClaimMapViews
import Derived.JoinedTies
import Derived.KernelRfl
namespace Go.Proofs.Ytdgbnibnhajfoaa
/- THE CELL 'sum', in the pinned program and in every row, IS THE sha256 OF THE DUMP (.gsa) THAT YtdgbnibnhajfoaaProg.lean LOADS. Nothing in Lean hashes anything: it is a label: what it is worth is what the hold of that sum in a sandbox is worth. -/
noncomputable def Try.pinned : Pinned := { name := "ytdgbnibnhajfoaa", sum := "87285ce4066b3c9a61edbbc27ceb1658929efe9b379b1fbad04ecdb31bdf8f6e", checked := Try.checked }
namespace Rows
def none {H : Type} : Left H := { results := [], args := [] }

/-- 'auspicelaw23.PoolPlays': WHATEVER THE INPUT: true; the input reads as it did. -/
def poolPlaysSpec : ChangeSpec := { name := "poolPlays", fn := fun _ => fun
  | [d1, d2] => { results := [.lit (.bool true)], args := [d1, d2] }
  | _ => none }
def poolPlaysRow : OpenClaim := { program := "ytdgbnibnhajfoaa", sum := "87285ce4066b3c9a61edbbc27ceb1658929efe9b379b1fbad04ecdb31bdf8f6e", func := "auspice/auspicelaw23.PoolPlays", spec := "poolPlays", unfollowed := true, recurses := true, plainKeys := false, apart := false }
def PoolPlaysSaid : Prop := poolPlaysRow.holds Try.pinned (OpenSpec.ofChange poolPlaysSpec)

/-- ITS FALSE NEIGHBOUR: 'it returns false'. Refute it at one input. -/
def poolPlaysWrong : ChangeSpec := { name := "poolPlays", fn := fun _ => fun
  | [d1, d2] => { results := [.lit (.bool false)], args := [d1, d2] }
  | _ => none }
def PoolPlaysWrongFalsely : Prop := poolPlaysRow.holds Try.pinned (OpenSpec.ofChange poolPlaysWrong)

/-- 'auspicelaw23.PoolBalances': WHATEVER THE INPUT: true; the input reads as it did. -/
def poolBalancesSpec : ChangeSpec := { name := "poolBalances", fn := fun _ => fun
  | [d1, d2] => { results := [.lit (.bool true)], args := [d1, d2] }
  | _ => none }
def poolBalancesRow : OpenClaim := { program := "ytdgbnibnhajfoaa", sum := "87285ce4066b3c9a61edbbc27ceb1658929efe9b379b1fbad04ecdb31bdf8f6e", func := "auspice/auspicelaw23.PoolBalances", spec := "poolBalances", unfollowed := true, recurses := true, plainKeys := false, apart := false }
def PoolBalancesSaid : Prop := poolBalancesRow.holds Try.pinned (OpenSpec.ofChange poolBalancesSpec)

/-- ITS FALSE NEIGHBOUR: 'it returns false'. Refute it at one input. -/
def poolBalancesWrong : ChangeSpec := { name := "poolBalances", fn := fun _ => fun
  | [d1, d2] => { results := [.lit (.bool false)], args := [d1, d2] }
  | _ => none }
def PoolBalancesWrongFalsely : Prop := poolBalancesRow.holds Try.pinned (OpenSpec.ofChange poolBalancesWrong)

/-- 'auspicelaw23.PoolPaths': WHATEVER THE INPUT: true; the input reads as it did. -/
def poolPathsSpec : ChangeSpec := { name := "poolPaths", fn := fun _ => fun
  | [d] => { results := [.lit (.bool true)], args := [d] }
  | _ => none }
def poolPathsRow : OpenClaim := { program := "ytdgbnibnhajfoaa", sum := "87285ce4066b3c9a61edbbc27ceb1658929efe9b379b1fbad04ecdb31bdf8f6e", func := "auspice/auspicelaw23.PoolPaths", spec := "poolPaths", unfollowed := true, recurses := true, plainKeys := false, apart := false }
def PoolPathsSaid : Prop := poolPathsRow.holds Try.pinned (OpenSpec.ofChange poolPathsSpec)

/-- ITS FALSE NEIGHBOUR: 'it returns false'. Refute it at one input. -/
def poolPathsWrong : ChangeSpec := { name := "poolPaths", fn := fun _ => fun
  | [d] => { results := [.lit (.bool false)], args := [d] }
  | _ => none }
def PoolPathsWrongFalsely : Prop := poolPathsRow.holds Try.pinned (OpenSpec.ofChange poolPathsWrong)

/-- 'auspicelaw23.PoolFull': WHATEVER THE INPUT: true; the input reads as it did. -/
def poolFullSpec : ChangeSpec := { name := "poolFull", fn := fun _ => fun
  | [d1, d2] => { results := [.lit (.bool true)], args := [d1, d2] }
  | _ => none }
def poolFullRow : OpenClaim := { program := "ytdgbnibnhajfoaa", sum := "87285ce4066b3c9a61edbbc27ceb1658929efe9b379b1fbad04ecdb31bdf8f6e", func := "auspice/auspicelaw23.PoolFull", spec := "poolFull", unfollowed := true, recurses := true, plainKeys := false, apart := false }
def PoolFullSaid : Prop := poolFullRow.holds Try.pinned (OpenSpec.ofChange poolFullSpec)

/-- ITS FALSE NEIGHBOUR: 'it returns false'. Refute it at one input. -/
def poolFullWrong : ChangeSpec := { name := "poolFull", fn := fun _ => fun
  | [d1, d2] => { results := [.lit (.bool false)], args := [d1, d2] }
  | _ => none }
def PoolFullWrongFalsely : Prop := poolFullRow.holds Try.pinned (OpenSpec.ofChange poolFullWrong)

/-- 'auspicelaw23.PoolNil': WHATEVER THE INPUT: true; the input reads as it did. -/
def poolNilSpec : ChangeSpec := { name := "poolNil", fn := fun _ => fun
  | [] => { results := [.lit (.bool true)], args := [] }
  | _ => none }
def poolNilRow : OpenClaim := { program := "ytdgbnibnhajfoaa", sum := "87285ce4066b3c9a61edbbc27ceb1658929efe9b379b1fbad04ecdb31bdf8f6e", func := "auspice/auspicelaw23.PoolNil", spec := "poolNil", unfollowed := true, recurses := true, plainKeys := false, apart := false }
def PoolNilSaid : Prop := poolNilRow.holds Try.pinned (OpenSpec.ofChange poolNilSpec)

/-- ITS FALSE NEIGHBOUR: 'it returns false'. Refute it at one input. -/
def poolNilWrong : ChangeSpec := { name := "poolNil", fn := fun _ => fun
  | [] => { results := [.lit (.bool false)], args := [] }
  | _ => none }
def PoolNilWrongFalsely : Prop := poolNilRow.holds Try.pinned (OpenSpec.ofChange poolNilWrong)

/- THE SECOND FORM. 'bulk': how many values and letters a reading holds, each counted each time it is reached (what is shared counts as often as it is met; a slice's spare places count too). A statement '..UptoSaid' is the law's where the arguments, and the package variables that the reading takes, are together of bulk at most 1048576: NARROWER than '..Said'. Prove '..Said' where nothing that the law and all that it calls make is longer than what came in: it says more and counts as full. Else prove '..UptoSaid'. A law counts once. -/
mutual
def uptoBulk {H : Type} : DataW H → Nat
  | .lit (.string bytes) => bytes.length + 1
  | .lit _ => 1
  | .nil => 1
  | .ptr d => uptoBulk d + 1
  | .slice elems spare => uptoBulkAll elems + uptoBulkAll spare + 1
  | .agg parts => uptoBulkAll parts + 1
  | .iface _ d => uptoBulk d + 1
  | .map entries => uptoBulkEntries entries + 1
  | .held _ => 1
def uptoBulkAll {H : Type} : List (DataW H) → Nat
  | [] => 0
  | d :: r => uptoBulk d + uptoBulkAll r
def uptoBulkEntries {H : Type} : List (Lit × DataW H) → Nat
  | [] => 0
  | x :: r => uptoBulkEntry x + uptoBulkEntries r
def uptoBulkEntry {H : Type} : Lit × DataW H → Nat
  | (.string bytes, d) => bytes.length + uptoBulk d + 1
  | (_, d) => uptoBulk d + 1
 end
def uptoSmall : (H : Type) → List (DataW H) → Bool := fun _ ds => decide (uptoBulkAll ds ≤ 1048576)
def OpenSpec.upto (s : _root_.Go.ChangeSpec) : _root_.Go.OpenSpec := { _root_.Go.OpenSpec.ofChange s with cond := some uptoSmall }

/-- 'auspicelaw23.PoolPlays', WHERE WHAT IT READS IS OF BULK AT MOST 1048576: true; the input reads as it did. -/
def poolPlaysUptoRow : OpenClaim := { program := "ytdgbnibnhajfoaa", sum := "87285ce4066b3c9a61edbbc27ceb1658929efe9b379b1fbad04ecdb31bdf8f6e", func := "auspice/auspicelaw23.PoolPlays", spec := "poolPlays", unfollowed := true, recurses := true, plainKeys := false, apart := false, narrowed := true }
def PoolPlaysUptoSaid : Prop := poolPlaysUptoRow.holds Try.pinned (OpenSpec.upto poolPlaysSpec)

/-- 'auspicelaw23.PoolBalances', WHERE WHAT IT READS IS OF BULK AT MOST 1048576: true; the input reads as it did. -/
def poolBalancesUptoRow : OpenClaim := { program := "ytdgbnibnhajfoaa", sum := "87285ce4066b3c9a61edbbc27ceb1658929efe9b379b1fbad04ecdb31bdf8f6e", func := "auspice/auspicelaw23.PoolBalances", spec := "poolBalances", unfollowed := true, recurses := true, plainKeys := false, apart := false, narrowed := true }
def PoolBalancesUptoSaid : Prop := poolBalancesUptoRow.holds Try.pinned (OpenSpec.upto poolBalancesSpec)

/-- 'auspicelaw23.PoolPaths', WHERE WHAT IT READS IS OF BULK AT MOST 1048576: true; the input reads as it did. -/
def poolPathsUptoRow : OpenClaim := { program := "ytdgbnibnhajfoaa", sum := "87285ce4066b3c9a61edbbc27ceb1658929efe9b379b1fbad04ecdb31bdf8f6e", func := "auspice/auspicelaw23.PoolPaths", spec := "poolPaths", unfollowed := true, recurses := true, plainKeys := false, apart := false, narrowed := true }
def PoolPathsUptoSaid : Prop := poolPathsUptoRow.holds Try.pinned (OpenSpec.upto poolPathsSpec)

/-- 'auspicelaw23.PoolFull', WHERE WHAT IT READS IS OF BULK AT MOST 1048576: true; the input reads as it did. -/
def poolFullUptoRow : OpenClaim := { program := "ytdgbnibnhajfoaa", sum := "87285ce4066b3c9a61edbbc27ceb1658929efe9b379b1fbad04ecdb31bdf8f6e", func := "auspice/auspicelaw23.PoolFull", spec := "poolFull", unfollowed := true, recurses := true, plainKeys := false, apart := false, narrowed := true }
def PoolFullUptoSaid : Prop := poolFullUptoRow.holds Try.pinned (OpenSpec.upto poolFullSpec)

/-- 'auspicelaw23.PoolNil', WHERE WHAT IT READS IS OF BULK AT MOST 1048576: true; the input reads as it did. -/
def poolNilUptoRow : OpenClaim := { program := "ytdgbnibnhajfoaa", sum := "87285ce4066b3c9a61edbbc27ceb1658929efe9b379b1fbad04ecdb31bdf8f6e", func := "auspice/auspicelaw23.PoolNil", spec := "poolNil", unfollowed := true, recurses := true, plainKeys := false, apart := false, narrowed := true }
def PoolNilUptoSaid : Prop := poolNilUptoRow.holds Try.pinned (OpenSpec.upto poolNilSpec)

end Rows
end Go.Proofs.Ytdgbnibnhajfoaa
