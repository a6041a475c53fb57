/- Type, Attr, Kind, Sym of schemas in both packages, as contracts. -/
import Derived.Test.YtkmlbifhpkfinaaGreatDoorFind
namespace Go.Proofs.YtkmlbifhpkfinaaGreatDoor
open Go.ChangeShapes Go.WideShapes Go.ChangeAt Go.RowKit
set_option linter.unusedVariables false
set_option linter.unusedSimpArgs false

def typeOf (ts : List ST) (name : ByteArray) : Int := place (fun t : ST => t.1.toList == name.toList) ts
def fieldOf (fs : List SF) (name : ByteArray) : Int := place (fun f : SF => f.1.toList == name.toList) fs
def textOf (ss : List ByteArray) (name : ByteArray) : Int := place (fun t : ByteArray => t.toList == name.toList) ss
def attrOf (ts : List ST) (t : Int) (name : ByteArray) : Int := if 0 ≤ t then (match ts[t.toNat]? with | some x => fieldOf x.2 name | none => -1) else -1
def kindOf (ts : List ST) (t a : Int) : Int := if 0 ≤ t then (match ts[t.toNat]? with | some x => if a = -1 then 1 else if 0 ≤ a then (match x.2[a.toNat]? with | some f => f.2 | none => 0) else 0 | none => 0) else 0
theorem attrOf_in {ts : List ST} {k : Nat} {x : ST} (h : ts[k]? = some x) (name : ByteArray) : attrOf ts (k : Int) name = fieldOf x.2 name := by
  unfold attrOf
  rw [if_pos (by omega), Int.toNat_natCast, h]
theorem attrOf_out {ts : List ST} {t : Int} (h : ¬ (0 ≤ t ∧ t < (ts.length : Int))) (name : ByteArray) : attrOf ts t name = -1 := by
  unfold attrOf
  by_cases c : 0 ≤ t
  · rw [if_pos c, List.getElem?_eq_none (by omega)]
  · rw [if_neg c]
theorem kindOf_out {ts : List ST} {t : Int} (h : ¬ (0 ≤ t ∧ t < (ts.length : Int))) (a : Int) : kindOf ts t a = 0 := by
  unfold kindOf
  by_cases c : 0 ≤ t
  · rw [if_pos c, List.getElem?_eq_none (by omega)]
  · rw [if_neg c]
theorem kindOf_in {ts : List ST} {k : Nat} {x : ST} (h : ts[k]? = some x) (a : Int) : kindOf ts (k : Int) a = if a = -1 then 1 else if 0 ≤ a then (match x.2[a.toNat]? with | some f => f.2 | none => 0) else 0 := by
  unfold kindOf
  rw [if_pos (by omega), Int.toNat_natCast, h]

theorem type_any (A : Option Addr) (cap : Nat) (v2 : Value) (ts : List ST) (name : ByteArray) (w : World) (hc : TypesAt w A ts) (hn : ts.length ≤ 9223372036854775807) :
    Calls Tryz.prog 42 #[.agg #[.slice A ts.length cap, v2], .string name] w fun e w' => e = .returned (.int .i64 (typeOf ts name)) ∧ Below w.heap.size w w' := by
  have hb := m2 w (.cells #[.slice A ts.length cap, v2] 31) (.cells #[.string name] 9)
  have hc2 : TypesAt ((w.alloc (.cells #[.slice A ts.length cap, v2] 31)).alloc (.cells #[.string name] 9)) A ts := fun hp => by
    obtain ⟨b, off, e, h⟩ := hc hp
    exact ⟨b, off, e, fun i t hi => by
      obtain ⟨u, h0, h1, h2⟩ := h i t hi
      exact ⟨u, cell_later hb h0, cell_later hb h1, h2.later hb⟩⟩
  have CC := Lib.hid (ixtype_any A cap (w.heap.size + 1) ts name _ hc2 hn (by simp))
  replace hb := Lib.hid hb
  unfold typeOf
  generalize place (fun t : ST => t.1.toList == name.toList) ts = r at *
  clear hc hc2
  go_enter Tryz.func42, Tryz.ntmps42
  go_wp2_with (go_at_call 63; refine CC.out.mono ?_; rintro e w1 ⟨rfl, hb1⟩)
  go_ret
  exact ⟨rfl, mmore hb.out hb1⟩

theorem sym_any (B : Option Addr) (cap : Nat) (v1 : Value) (ss : List ByteArray) (name : ByteArray) (w : World) (hc : SymsAt w B ss) (hn : ss.length ≤ 9223372036854775807) :
    Calls Tryz.prog 67 #[.agg #[v1, .slice B ss.length cap], .string name] w fun e w' => e = .returned (.int .i64 (textOf ss name)) ∧ Below w.heap.size w w' := by
  have hb := m1 w (.cells #[v1, .slice B ss.length cap] 31)
  have hc2 : SymsAt (w.alloc (.cells #[v1, .slice B ss.length cap] 31)) B ss := fun hp => by
    obtain ⟨b, off, e, h⟩ := hc hp
    exact ⟨b, off, e, fun i t hi => cell_later hb (h i t hi)⟩
  have CC := Lib.hid (ixtext_any B cap ss name _ hc2 hn)
  replace hb := Lib.hid hb
  unfold textOf
  generalize place (fun t : ByteArray => t.toList == name.toList) ss = r at *
  clear hc hc2
  go_enter Tryz.func67, Tryz.ntmps67
  go_wp2_with (go_at_call 94; refine CC.out.mono ?_; rintro e w1 ⟨rfl, hb1⟩)
  go_ret
  exact ⟨rfl, mmore hb.out hb1⟩

theorem FieldsAt.later {w w1 : World} {A : Option Addr} {fs : List SF} (h : FieldsAt w A fs) (hb : Below w.heap.size w w1) : FieldsAt w1 A fs := fun hp => by
  obtain ⟨b, off, e, h⟩ := h hp
  exact ⟨b, off, e, fun i t hi => ⟨cell_later hb (h i t hi).1, cell_later hb (h i t hi).2⟩⟩
theorem TypesAt.later {w w1 : World} {A : Option Addr} {ts : List ST} (h : TypesAt w A ts) (hb : Below w.heap.size w w1) : TypesAt w1 A ts := fun hp => by
  obtain ⟨b, off, e, h⟩ := h hp
  exact ⟨b, off, e, fun i t hi => by
    obtain ⟨u, h0, h1, h2⟩ := h i t hi
    exact ⟨u, cell_later hb h0, cell_later hb h1, h2.later hb⟩⟩
theorem SymsAt.later {w w1 : World} {A : Option Addr} {ss : List ByteArray} (h : SymsAt w A ss) (hb : Below w.heap.size w w1) : SymsAt w1 A ss := fun hp => by
  obtain ⟨b, off, e, h⟩ := h hp
  exact ⟨b, off, e, fun i t hi => cell_later hb (h i t hi)⟩
/-- the k-th type as it lies in memory -/
theorem TypesAt.at_ {w : World} {A : Option Addr} {ts : List ST} (h : TypesAt w A ts) {k : Nat} {x : ST} (hk : ts[k]? = some x) :
    ∃ b off FA fcap, A = some ⟨b, off, none⟩ ∧ w.cell? ⟨b, off + k * 2, none⟩ = some (.string x.1) ∧ w.cell? ⟨b, off + k * 2 + 1, none⟩ = some (.slice FA x.2.length fcap) ∧ FieldsAt w FA x.2 := by
  obtain ⟨b, off, e, h⟩ := h (by have := (List.getElem?_eq_some_iff.1 hk).1; omega)
  obtain ⟨u, h0, h1, FA, fcap, rfl, h2⟩ := h k x hk
  exact ⟨b, off, FA, fcap, e, h0, h1, h2⟩

end Go.Proofs.YtkmlbifhpkfinaaGreatDoor
