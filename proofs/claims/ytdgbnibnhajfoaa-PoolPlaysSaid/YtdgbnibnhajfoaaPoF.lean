/- A pool: the events up to a cell. -/
import Derived.Test.YtdgbnibnhajfoaaPoB
import Derived.Test.YtdgbnibnhajfoaaMr
import Derived.Test.YtdgbnibnhajfoaaShelf
import Derived.Lib.OwnBridge
import Derived.Deep.LoopGhost
namespace Go.Proofs.Ytdgbnibnhajfoaa
open Go.ChangeShapes Go.WideShapes Go.ChangeAt Go.RowKit
set_option linter.unusedVariables false
set_option linter.unusedSimpArgs false

abbrev Sl := Option Addr × Nat × Nat
def slV (x : Sl) : Value := .slice x.1 x.2.1 x.2.2
theorem grown_putRow {α : Type} [Inhabited α] (enc : α → Value) (w : World) (q g : Nat) (d : Array α) : w.grownBy (Go.Sort.putRow enc (Go.Sort.ahead w q) g 0 d) (some g) :=
  ⟨rfl, rfl, rfl, by simp [Go.Sort.putRow, Go.Sort.mapBlock, Go.Sort.ahead], fun k _ hk => by
    have : ¬ g = k := fun e => hk (by rw [e])
    simp [Go.Sort.putRow, Go.Sort.mapBlock, Go.Sort.ahead, Array.getElem?_modify, this]⟩
theorem rev_ints {w : World} {B n : Nat} {v : Value} {zs : List Int} (h : w.ownsRow B 3 1 v n (zs.map (Value.int .i64))) (hn : n ≤ 9223372036854775807) :
    Calls Try.prog 28 #[v] w fun e w' => e = .returned (.tuple #[]) ∧ w'.ownsRow B 3 1 v n (zs.reverse.map (Value.int .i64)) ∧ w.grownBy w' v.ownBlock := by
  by_cases hv : v = .slice none 0 0
  · have hl : zs = [] := by
      have h1 := h.1
      rcases h.2 with ⟨_, h0⟩ | ⟨g, cap, cur, e, _⟩
      · subst h0; simpa using h1
      · rw [hv] at e; cases e
    have hn0 : n = 0 := by have := h.1; rw [hl] at this; simpa using this.symm
    subst hl hn0 hv
    refine (Try.slices_Reverse_int_empty none 0 w).mono ?_
    rintro e w1 ⟨rfl, rfl⟩
    exact ⟨rfl, h, World.grownBy.refl _ _⟩
  · obtain ⟨g, cap, rfl, hb, hlt, h1, h2, hl, hH⟩ := Go.Lib.holds_of_ownsRow h hv
    subst hl
    refine (Try.slices_Reverse_int g 0 cap zs w hH hn).mono ?_
    rintro e w1 ⟨rfl, q, rfl⟩
    refine ⟨rfl, ?_, grown_putRow _ _ _ _ _⟩
    have := Go.Lib.ownsRow_putRow (q := q) (ys := zs.reverse) h (by simp) (Nat.le_refl _)
    rwa [List.take_of_length_le (by simp)] at this
theorem rev_rows {w : World} {B n : Nat} {v : Value} {zs : List Sl} (h : w.ownsRow B 44 1 v n (zs.map slV)) (hn : n ≤ 9223372036854775807) :
    Calls Try.prog 29 #[v] w fun e w' => e = .returned (.tuple #[]) ∧ w'.ownsRow B 44 1 v n (zs.reverse.map slV) ∧ w.grownBy w' v.ownBlock := by
  by_cases hv : v = .slice none 0 0
  · have hl : zs = [] := by
      have h1 := h.1
      rcases h.2 with ⟨_, h0⟩ | ⟨g, cap, cur, e, _⟩
      · subst h0; simpa using h1
      · rw [hv] at e; cases e
    have hn0 : n = 0 := by have := h.1; rw [hl] at this; simpa using this.symm
    subst hl hn0 hv
    refine (Try.slices_Reverse_empty_f29 (α := Int) none 0 w).mono ?_
    rintro e w1 ⟨rfl, rfl⟩
    exact ⟨rfl, h, World.grownBy.refl _ _⟩
  · obtain ⟨g, cap, rfl, hb, hlt, h1, h2, hl, hH⟩ := Go.Lib.holds_of_ownsRow h hv
    subst hl
    refine (Try.slices_Reverse_f29 slV (fun _ => rfl) g 0 cap zs w hH hn).mono ?_
    rintro e w1 ⟨rfl, q, rfl⟩
    refine ⟨rfl, ?_, grown_putRow _ _ _ _ _⟩
    have := Go.Lib.ownsRow_putRow (q := q) (ys := zs.reverse) h (by simp) (Nat.le_refl _)
    rwa [List.take_of_length_le (by simp)] at this

/-- the cells from one up -/
def chainP (s : PS) : Int → List Cl → Prop
  | i, [] => findP s i = none
  | i, c :: cs => findP s i = some c ∧ chainP s c.prev cs
/-- the lists that they make: those that are done, the one that is begun -/
def pathS : List Cl → List (List Int) → List Int → List (List Int)
  | [], ll, _ => ll.reverse
  | c :: cs, ll, part => if c.fresh then pathS cs (ll ++ [(part ++ [c.event]).reverse]) [] else pathS cs ll (part ++ [c.event])
def pathL (cs : List Cl) : List (List Int) := pathS cs [] []
/-- what find answers -/
def Fv (vA : Value) (s : PS) (i : Int) (v : Value) : Prop := (findP s i = none ∧ v = .pointer none) ∨ ∃ (k : Nat) (c : Cl) (A cap : Nat), i = k ∧ findP s i = some c ∧ vA = .slice (some ⟨A, 0, none⟩) s.all.length cap ∧ v = .pointer (some ⟨A, k * 5, none⟩)
theorem find_any (B p M : Nat) (vA vF : Value) (s : PS) (w : World) (h : PX B p M vA vF s w) (i : Int) (hi : -9223372036854775808 ≤ i ∧ i ≤ 9223372036854775807) :
    ∃ v, Fv vA s i v ∧ Calls Try.prog 24 #[.pointer (some ⟨p, 0, none⟩), .int .i64 i] w fun e w' => e = .returned v ∧ w = w' := by
  cases hf : findP s i with
  | none => exact ⟨_, .inl ⟨hf, rfl⟩, find_none B p M vA vF s w h i hi hf⟩
  | some c =>
    obtain ⟨k, rfl, _, _⟩ := findP_nat hf
    obtain ⟨A, cap, hv, C⟩ := find_some B p M vA vF s w h k c hf
    exact ⟨_, .inr ⟨k, c, A, cap, rfl, hf, hv, rfl⟩, C⟩
/-- a row of whole numbers in a block that is not this one -/
def RowIn (w : World) (B : Nat) (o : Option Nat) (x : Sl) (l : List Int) : Prop := ∃ g, x.1 = some ⟨g, 0, none⟩ ∧ w.ownsRow B 3 1 (slV x) l.length (icells l) ∧ o ≠ some g
/-- between two rounds of Path -/
structure PJ (w0 : World) (N : Nat) (fin : List (List Int)) (vA : Value) (s : PS) (cs : List Cl) (i : Int) (us : List Sl) (ll : List (List Int)) (part : List Int) (v5 v6 v7 : Value) (wr : World) : Prop where
  chain : chainP s i cs
  fv : Fv vA s i v7
  own5 : wr.ownsRow w0.heap.size 44 1 v5 us.length (us.map slV)
  own6 : wr.ownsRow w0.heap.size 3 1 v6 part.length (icells part)
  len : us.length = ll.length
  rows : ∀ (j : Nat) (x : Sl) (l : List Int), us[j]? = some x → ll[j]? = some l → RowIn wr w0.heap.size v6.ownBlock x l
  fin_ : pathS cs ll part = fin
  count : us.length + part.length + cs.length ≤ N
  below : Below w0.heap.size w0 wr
theorem infoI1 : (Try.prog.info? 3).map (fun i => (i.zero, i.size, i.bytes)) = some (some (.int .i64 0), 1, 8) := by kernel_rfl
theorem infoR1 : (Try.prog.info? 44).map (fun i => (i.zero, i.size, i.bytes)) = some (some (.slice none 0 0), 1, 24) := by kernel_rfl
end Go.Proofs.Ytdgbnibnhajfoaa
