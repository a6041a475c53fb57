/- Key of schemas, as a contract. -/
import Derived.Test.YtfjnphiegoogoaaSchR
namespace Go.Proofs.Ytfjnphiegoogoaa
open Go.ChangeShapes Go.WideShapes Go.ChangeAt Go.RowKit
set_option linter.unusedVariables false
set_option linter.unusedSimpArgs false

def IntsAt (w : World) (A : Option Addr) (zs : List Int) : Prop := 0 < zs.length → ∃ b off, A = some ⟨b, off, none⟩ ∧ ∀ (i : Nat) (z : Int), zs[i]? = some z → w.cell? ⟨b, off + i, none⟩ = some (.int .i64 z)
theorem IntsAt.later {w w1 : World} {A : Option Addr} {zs : List Int} (h : IntsAt w A zs) (hb : Below w.heap.size w w1) : IntsAt w1 A zs := fun hp => by
  obtain ⟨b, off, e, h⟩ := h hp
  exact ⟨b, off, e, fun i t hi => cell_later hb (h i t hi)⟩
def icells (zs : List Int) : List Value := zs.map (Value.int .i64)
theorem own_ints {w : World} {base : Nat} {e : TypeId} {v : Value} {zs : List Int} (h : w.ownsRow base e 1 v zs.length (icells zs)) : ∃ A cap, v = .slice A zs.length cap ∧ IntsAt w A zs := by
  rcases h.2 with ⟨rfl, h0⟩ | ⟨g, cap, cur, rfl, _⟩
  · exact ⟨none, 0, by rw [h0], fun hp => by omega⟩
  · refine ⟨_, cap, rfl, fun _ => ⟨g, 0, rfl, fun i z hi => ?_⟩⟩
    have hc := h.cells (g := g) rfl
    rw [Nat.zero_add, addr_add g i]
    exact hc i (.int .i64 z) (by unfold icells; rw [List.getElem?_map, hi]; rfl)

/-- in each type the attribute of a name -/
def keyOf (ts : List ST) (name : ByteArray) : List Int := (List.range ts.length).map fun (i : Nat) => attrOf ts (i : Int) name
theorem keyOf_length (ts : List ST) (name : ByteArray) : (keyOf ts name).length = ts.length := by simp [keyOf]
theorem keyOf_at (ts : List ST) (name : ByteArray) (k : Nat) (h : k < ts.length) : (keyOf ts name)[k]? = some (attrOf ts (k : Int) name) := by
  unfold keyOf
  rw [List.getElem?_map, List.getElem?_range h]
  rfl
theorem keyOf_snoc (ts : List ST) (name : ByteArray) (k : Nat) (h : k < ts.length) : icells ((keyOf ts name).take (k + 1)) = icells ((keyOf ts name).take k) ++ [.int .i64 (attrOf ts (k : Int) name)] := by
  rw [List.take_add_one, keyOf_at ts name k h]
  simp [icells]
theorem infoInt : (Try.prog.info? 3).map (fun i => (i.zero, i.size, i.bytes)) = some (some (.int .i64 0), 1, 8) := by kernel_rfl

def KeyR (u : World) (ts : List ST) (name : ByteArray) (v i : Value) (wr : World) : Prop :=
  ∃ k : Nat, k ≤ ts.length ∧ i = .int .i64 (k : Int) ∧ wr.ownsRow u.heap.size 3 1 v k (icells ((keyOf ts name).take k)) ∧ Below u.heap.size u wr

end Go.Proofs.Ytfjnphiegoogoaa
