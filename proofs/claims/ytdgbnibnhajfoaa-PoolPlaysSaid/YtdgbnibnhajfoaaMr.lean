/- Rows of whole numbers, as they lie in memory. -/
import Derived.Test.YtdgbnibnhajfoaaMem
import Derived.Test.YtdgbnibnhajfoaaSch
namespace Go.Proofs.Ytdgbnibnhajfoaa
open Go.ChangeShapes Go.WideShapes Go.ChangeAt Go.RowKit
set_option linter.unusedVariables false
set_option linter.unusedSimpArgs false

def IntsAt (w : World) (A : Option Addr) (zs : List Int) : Prop := 0 < zs.length → ∃ b off, A = some ⟨b, off, none⟩ ∧ ∀ (i : Nat) (z : Int), zs[i]? = some z → w.cell? ⟨b, off + i, none⟩ = some (.int .i64 z)
theorem IntsAt.later {w w1 : World} {A : Option Addr} {zs : List Int} (h : IntsAt w A zs) (hb : Below w.heap.size w w1) : IntsAt w1 A zs := fun hp => by
  obtain ⟨b, off, e, h⟩ := h hp
  exact ⟨b, off, e, fun i t hi => cell_later hb (h i t hi)⟩
def icells (zs : List Int) : List Value := zs.map (Value.int .i64)
theorem own_ints {w : World} {base : Nat} {e : TypeId} {v : Value} {zs : List Int} (h : w.ownsRow base e 1 v zs.length (icells zs)) : ∃ A cap, v = .slice A zs.length cap ∧ IntsAt w A zs := by
  rcases h.2 with ⟨rfl, h0⟩ | ⟨g, cap, cur, rfl, _⟩
  · exact ⟨none, 0, by rw [h0], fun hp => by omega⟩
  · refine ⟨_, cap, rfl, fun _ => ⟨g, 0, rfl, fun i z hi => ?_⟩⟩
    have hc := h.cells (g := g) rfl
    rw [Nat.zero_add, addr_add g i]
    exact hc i (.int .i64 z) (by unfold icells; rw [List.getElem?_map, hi]; rfl)
/-- a value that reads as whole numbers -/
def IntsIn1 (w : World) (u : Value) (ks : List Int) : Prop := ∃ A cap, u = .slice A ks.length cap ∧ IntsAt w A ks
theorem IntsIn1.later {w w1 : World} {u : Value} {ks : List Int} (h : IntsIn1 w u ks) (hb : Below w.heap.size w w1) : IntsIn1 w1 u ks := by
  obtain ⟨A, cap, e, h⟩ := h
  exact ⟨A, cap, e, h.later hb⟩
/-- a slice that reads as rows of whole numbers -/
def RowsAt (w : World) (A : Option Addr) (kss : List (List Int)) : Prop := 0 < kss.length → ∃ b off, A = some ⟨b, off, none⟩ ∧ ∀ (i : Nat) (ks : List Int), kss[i]? = some ks → ∃ u, w.cell? ⟨b, off + i, none⟩ = some u ∧ IntsIn1 w u ks
theorem RowsAt.later {w w1 : World} {A : Option Addr} {kss : List (List Int)} (h : RowsAt w A kss) (hb : Below w.heap.size w w1) : RowsAt w1 A kss := fun hp => by
  obtain ⟨b, off, e, h⟩ := h hp
  refine ⟨b, off, e, fun i ks hi => ?_⟩
  obtain ⟨u, h0, h1⟩ := h i ks hi
  exact ⟨u, cell_later hb h0, h1.later hb⟩
end Go.Proofs.Ytdgbnibnhajfoaa
