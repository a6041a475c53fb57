/- Codes as they lie, for the document's Same of two of them (words out of VmP, VmA, VmD, All). -/
import Derived.Test.YtlfhgmoafgjdcaaImR
import Derived.StillTailTactics
import Derived.BigQuiet
namespace Go.Proofs.Ytlfhgmoafgjdcaa
open Go.ChangeShapes Go.WideShapes Go.ChangeAt Go.RowKit
set_option linter.unusedVariables false
set_option linter.unusedSimpArgs false
abbrev I4 := Int × Int × Int × Int
structure CodeP where
  regs : Int
  slots : Int
  ins : List I4
  cs : List (Int × Nat)
  list : List I4
def RowV (w : World) (A : Option Addr) (n : Nat) (vs : List (Int × Nat)) : Prop :=
  vs.length = n ∧ (∀ v ∈ vs, v.2 < 18446744073709551616) ∧ (0 < n → ∃ b off, A = some ⟨b, off, none⟩ ∧ ∀ (i : Nat) (k : Int) (c : Nat), vs[i]? = some (k, c) → w.cell? ⟨b, off + i * 2, none⟩ = some (.int .i64 k) ∧ w.cell? ⟨b, off + i * 2 + 1, none⟩ = some (.int .u64 (c : Int)))
theorem RowV.later {w w1 : World} {A : Option Addr} {n : Nat} {vs : List (Int × Nat)} (h : RowV w A n vs) (hb : Below w.heap.size w w1) : RowV w1 A n vs := by
  refine ⟨h.1, h.2.1, fun hn => ?_⟩
  obtain ⟨b, off, hA, hc⟩ := h.2.2 hn
  exact ⟨b, off, hA, fun i k c hi => ⟨cell_later hb (hc i k c hi).1, cell_later hb (hc i k c hi).2⟩⟩
def QuadAt (w : World) (A : Option Addr) (l : List I4) : Prop :=
  0 < l.length → ∃ b off, A = some ⟨b, off, none⟩ ∧ ∀ (i : Nat) (x : I4), l[i]? = some x →
    w.cell? ⟨b, off + i * 4, none⟩ = some (.int .i64 x.1) ∧ w.cell? ⟨b, off + i * 4 + 1, none⟩ = some (.int .i64 x.2.1) ∧ w.cell? ⟨b, off + i * 4 + 2, none⟩ = some (.int .i64 x.2.2.1) ∧ w.cell? ⟨b, off + i * 4 + 3, none⟩ = some (.int .i64 x.2.2.2)
theorem QuadAt.later {w w1 : World} {A : Option Addr} {l : List I4} (h : QuadAt w A l) (hb : Below w.heap.size w w1) : QuadAt w1 A l := by
  intro hn
  obtain ⟨b, off, hA, hc⟩ := h hn
  exact ⟨b, off, hA, fun i x hi => ⟨cell_later hb (hc i x hi).1, cell_later hb (hc i x hi).2.1, cell_later hb (hc i x hi).2.2.1, cell_later hb (hc i x hi).2.2.2⟩⟩
structure CV where
  xA : Option Addr
  xC : Nat
  cA : Option Addr
  cC : Nat
  lA : Option Addr
  lC : Nat
def codeV (c : CodeP) (v : CV) : Value := .agg #[.int .i64 c.regs, .int .i64 c.slots, .slice v.xA c.ins.length v.xC, .slice v.cA c.cs.length v.cC, .slice v.lA c.list.length v.lC]
structure CodeIn (w : World) (c : CodeP) (v : CV) : Prop where
  ins : QuadAt w v.xA c.ins
  cs : RowV w v.cA c.cs.length c.cs
  list : QuadAt w v.lA c.list
  szI : c.ins.length * 32 ≤ 140737488355328
  szC : c.cs.length * 16 ≤ 140737488355328
  szL : c.list.length * 32 ≤ 140737488355328
theorem CodeIn.later {w w1 : World} {c : CodeP} {v : CV} (h : CodeIn w c v) (hb : Below w.heap.size w w1) : CodeIn w1 c v := { h with ins := h.ins.later hb, cs := h.cs.later hb, list := h.list.later hb }
theorem below_more {w0 w w1 : World} (h : Below w0.heap.size w0 w) (hb : Below w.heap.size w w1) : Below w0.heap.size w0 w1 := h.trans (hb.mono h.size)
end Go.Proofs.Ytlfhgmoafgjdcaa
