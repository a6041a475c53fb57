/- Type, Attr, Kind, Sym of schemas in both packages, as contracts. -/
import Derived.Test.YtfjnphiegoogoaaFind
namespace Go.Proofs.Ytfjnphiegoogoaa
open Go.ChangeShapes Go.WideShapes Go.ChangeAt Go.RowKit
set_option linter.unusedVariables false
set_option linter.unusedSimpArgs false

def typeOf (ts : List ST) (name : ByteArray) : Int := place (fun t : ST => t.1.toList == name.toList) ts
def fieldOf (fs : List SF) (name : ByteArray) : Int := place (fun f : SF => f.1.toList == name.toList) fs
def textOf (ss : List ByteArray) (name : ByteArray) : Int := place (fun t : ByteArray => t.toList == name.toList) ss
def attrOf (ts : List ST) (t : Int) (name : ByteArray) : Int := if 0 ≤ t then (match ts[t.toNat]? with | some x => fieldOf x.2 name | none => -1) else -1
def kindOf (ts : List ST) (t a : Int) : Int := if 0 ≤ t then (match ts[t.toNat]? with | some x => if a = -1 then 1 else if 0 ≤ a then (match x.2[a.toNat]? with | some f => f.2 | none => 0) else 0 | none => 0) else 0
theorem attrOf_in {ts : List ST} {k : Nat} {x : ST} (h : ts[k]? = some x) (name : ByteArray) : attrOf ts (k : Int) name = fieldOf x.2 name := by
  unfold attrOf
  rw [if_pos (by omega), Int.toNat_natCast, h]
theorem attrOf_out {ts : List ST} {t : Int} (h : ¬ (0 ≤ t ∧ t < (ts.length : Int))) (name : ByteArray) : attrOf ts t name = -1 := by
  unfold attrOf
  by_cases c : 0 ≤ t
  · rw [if_pos c, List.getElem?_eq_none (by omega)]
  · rw [if_neg c]
theorem kindOf_out {ts : List ST} {t : Int} (h : ¬ (0 ≤ t ∧ t < (ts.length : Int))) (a : Int) : kindOf ts t a = 0 := by
  unfold kindOf
  by_cases c : 0 ≤ t
  · rw [if_pos c, List.getElem?_eq_none (by omega)]
  · rw [if_neg c]
theorem kindOf_in {ts : List ST} {k : Nat} {x : ST} (h : ts[k]? = some x) (a : Int) : kindOf ts (k : Int) a = if a = -1 then 1 else if 0 ≤ a then (match x.2[a.toNat]? with | some f => f.2 | none => 0) else 0 := by
  unfold kindOf
  rw [if_pos (by omega), Int.toNat_natCast, h]

theorem FieldsAt.later {w w1 : World} {A : Option Addr} {fs : List SF} (h : FieldsAt w A fs) (hb : Below w.heap.size w w1) : FieldsAt w1 A fs := fun hp => by
  obtain ⟨b, off, e, h⟩ := h hp
  exact ⟨b, off, e, fun i t hi => ⟨cell_later hb (h i t hi).1, cell_later hb (h i t hi).2⟩⟩
theorem TypesAt.later {w w1 : World} {A : Option Addr} {ts : List ST} (h : TypesAt w A ts) (hb : Below w.heap.size w w1) : TypesAt w1 A ts := fun hp => by
  obtain ⟨b, off, e, h⟩ := h hp
  exact ⟨b, off, e, fun i t hi => by
    obtain ⟨u, h0, h1, h2⟩ := h i t hi
    exact ⟨u, cell_later hb h0, cell_later hb h1, h2.later hb⟩⟩
theorem SymsAt.later {w w1 : World} {A : Option Addr} {ss : List ByteArray} (h : SymsAt w A ss) (hb : Below w.heap.size w w1) : SymsAt w1 A ss := fun hp => by
  obtain ⟨b, off, e, h⟩ := h hp
  exact ⟨b, off, e, fun i t hi => cell_later hb (h i t hi)⟩
/-- the k-th type as it lies in memory -/
theorem TypesAt.at_ {w : World} {A : Option Addr} {ts : List ST} (h : TypesAt w A ts) {k : Nat} {x : ST} (hk : ts[k]? = some x) :
    ∃ b off FA fcap, A = some ⟨b, off, none⟩ ∧ w.cell? ⟨b, off + k * 2, none⟩ = some (.string x.1) ∧ w.cell? ⟨b, off + k * 2 + 1, none⟩ = some (.slice FA x.2.length fcap) ∧ FieldsAt w FA x.2 := by
  obtain ⟨b, off, e, h⟩ := h (by have := (List.getElem?_eq_some_iff.1 hk).1; omega)
  obtain ⟨u, h0, h1, FA, fcap, rfl, h2⟩ := h k x hk
  exact ⟨b, off, FA, fcap, e, h0, h1, h2⟩

end Go.Proofs.Ytfjnphiegoogoaa
