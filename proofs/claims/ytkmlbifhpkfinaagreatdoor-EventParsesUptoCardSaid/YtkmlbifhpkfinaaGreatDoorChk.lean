/- Which lists are names, each another one; what the program answers of them, as contracts. -/
import Derived.Test.YtkmlbifhpkfinaaGreatDoorSchC
import Derived.Test.YtkmlbifhpkfinaaGreatDoorNameC
namespace Go.Proofs.YtkmlbifhpkfinaaGreatDoor
open Go.ChangeShapes Go.WideShapes Go.ChangeAt Go.RowKit
set_option linter.unusedVariables false
set_option linter.unusedSimpArgs false

/-- names, each another one -/
def DistinctP (l : List ByteArray) : Prop := ∀ (i : Nat) (x : ByteArray), l[i]? = some x → NameP x ∧ ∀ (j : Nat) (y : ByteArray), j < i → l[j]? = some y → (y.toList == x.toList) = false
theorem placeFrom_neg {α : Type} (p : α → Bool) : ∀ (l : List α) (i : Nat), placeFrom p l i < 0 ↔ ∀ (j : Nat) (y : α), l[j]? = some y → p y = false
  | [], i => by simp [placeFrom]
  | a :: r, i => by
    have ih := placeFrom_neg p r (i + 1)
    simp only [placeFrom]
    by_cases h : p a = true
    · rw [if_pos h]
      constructor
      · intro hh; omega
      · intro hh; have := hh 0 a rfl; rw [h] at this; cases this
    · rw [if_neg h, ih]
      constructor
      · intro hh j y hy
        cases j with
        | zero => simp at hy; subst hy; simpa using h
        | succ j => exact hh j y (by simpa using hy)
      · intro hh j y hy; exact hh (j + 1) y (by simpa using hy)
theorem place_neg {α : Type} (p : α → Bool) (l : List α) : place p l < 0 ↔ ∀ (j : Nat) (y : α), l[j]? = some y → p y = false := placeFrom_neg p l 0

theorem contains_any (A : Option Addr) (cap : Nat) (ss : List ByteArray) (name : ByteArray) (w : World) (hc : SymsAt w A ss) (hn : ss.length ≤ 9223372036854775807) :
    Calls Tryz.prog 100 #[.slice A ss.length cap, .string name] w fun e w' => ∃ b : Bool, e = .returned (.bool b) ∧ (b = false ↔ ∀ (j : Nat) (y : ByteArray), ss[j]? = some y → (y.toList == name.toList) = false) ∧ Below w.heap.size w w' := by
  have CC := Lib.hid (ixtext_any A cap ss name w hc hn)
  have PN := Lib.hid (place_neg (fun t : ByteArray => t.toList == name.toList) ss)
  generalize place (fun t : ByteArray => t.toList == name.toList) ss = r at *
  clear hc
  go_enter Tryz.func100, Tryz.ntmps100
  go_wp2_with (go_at_call 94; refine CC.out.mono ?_; rintro e w1 ⟨rfl, hb1⟩)
  go_ret
  exact ⟨decide (0 ≤ r), rfl, by rw [← PN.out, decide_eq_false_iff_not]; omega, hb1⟩

theorem SymsAt.take {w : World} {A : Option Addr} {ss : List ByteArray} (h : SymsAt w A ss) (k : Nat) : SymsAt w A (ss.take k) := fun hp => by
  have hp2 : 0 < ss.length := by rw [List.length_take] at hp; omega
  obtain ⟨b, off, e, h⟩ := h hp2
  refine ⟨b, off, e, fun i s hi => h i s ?_⟩
  rw [List.getElem?_take] at hi
  split at hi
  · exact hi
  · cases hi

/-- it answers whether a list is of names, each another one -/
def Tells (P : Prop) (w : World) (e : Ending) (w' : World) : Prop := ∃ b : Bool, e = .returned (.bool b) ∧ (b = true ↔ P) ∧ Below w.heap.size w w'
theorem tells_no {P : Prop} {w w' : World} (h : ¬ P) (hb : Below w.heap.size w w') : Tells P w (.returned (.bool false)) w' := ⟨false, rfl, by simp [h], hb⟩
theorem tells_yes {P : Prop} {w w' : World} (h : P) (hb : Below w.heap.size w w') : Tells P w (.returned (.bool true)) w' := ⟨true, rfl, by simp [h], hb⟩

set_option maxHeartbeats 4000000 in
theorem distinct_any (A : Option Addr) (cap : Nat) (ss : List ByteArray) (w : World) (hc : SymsAt w A ss) (hn : ss.length ≤ cap) (hm : cap ≤ maxLen) :
    Calls Tryz.prog 73 #[.slice A ss.length cap] w (Tells (DistinctP ss) w) := by
  replace hc := Lib.hid hc
  unfold maxLen at hm
  go_enter Tryz.func73, Tryz.ntmps73
  go_wp2_with fail
  go_loopw [7] (fun i wr => ∃ k : Nat, k ≤ ss.length ∧ i = .int .i64 (k : Int) ∧ Below w.heap.size w wr ∧ Hid (∀ (i : Nat) (x : ByteArray), i < k → ss[i]? = some x → NameP x ∧ ∀ (j : Nat) (y : ByteArray), j < i → ss[j]? = some y → (y.toList == x.toList) = false)) (fun i _ => ss.length - (intOf i).toNat)
  case atStart => exact ⟨0, Nat.zero_le _, rfl, Below.refl _ _, Lib.hid (fun j y h => by omega)⟩
  case round =>
    obtain ⟨k, hk, rfl, hB, H⟩ := hrel
    by_cases hlt : k < ss.length
    · obtain ⟨b, off, rfl, hcell⟩ := hc.out (by omega)
      have hx : ss[k]? = some ss[k] := List.getElem?_eq_getElem hlt
      have r0 := cell_later hB (hcell k _ hx)
      generalize ss[k] = x at *
      replace hx := Lib.hid hx
      have k0 : (0 : Int) ≤ (k : Int) := by omega
      have k1 : (k : Int) < (ss.length : Int) := by omega
      have k2 : (k : Int) ≤ (cap : Int) := by omega
      clear hcell
      go_wp2_with fail
      refine (name_any x _).mono ?_; rintro e w1 ⟨q, rfl, hq, hb1⟩
      have hB1 := mmore hB hb1
      cases q
      · have hN : ¬ NameP x := by simpa using hq
        replace hN := Lib.hid hN
        clear hq
        go_wp2_with fail
        go_ret
        exact tells_no (fun h => hN.out (h k x hx.out).1) hB1
      · have hN : NameP x := by simpa using hq
        replace hN := Lib.hid hN
        clear hq
        have hl : (ss.take k).length = k := by rw [List.length_take]; omega
        have CC := contains_any (some ⟨b, off, none⟩) cap (ss.take k) x w1 ((hc.out.later hB1).take k) (by rw [hl]; omega)
        rw [hl] at CC
        replace CC := Lib.hid CC
        replace hl := Lib.hid hl
        go_wp2_with fail
        refine CC.out.mono ?_; rintro e w2 ⟨c, rfl, hcq, hb2⟩
        have hB2 := mmore hB1 hb2
        cases c
        · have hC : ∀ (j : Nat) (y : ByteArray), (ss.take k)[j]? = some y → (y.toList == x.toList) = false := hcq.1 rfl
          replace hC := Lib.hid hC
          clear hcq
          go_wp2_with fail
          go_roundw
          case rel => exact ⟨k + 1, by omega, by go_num, hB2, Lib.hid (fun i y h hy => by
            by_cases c : i < k
            · exact H.out i y c hy
            · obtain rfl : i = k := by omega
              rw [hx.out] at hy
              injection hy with hy
              subst hy
              exact ⟨hN.out, fun j y hj hyj => hC.out j y (by rw [List.getElem?_take_of_lt hj]; exact hyj)⟩)⟩
          case measure => simp [intOf]; omega
        · have hC : ¬ ∀ (j : Nat) (y : ByteArray), (ss.take k)[j]? = some y → (y.toList == x.toList) = false := fun h => by have := hcq.2 h; cases this
          replace hC := Lib.hid hC
          clear hcq
          go_wp2_with fail
          go_ret
          exact tells_no (fun h => hC.out (fun j y hy => by
            have hj : j < k := by have := (List.getElem?_eq_some_iff.1 hy).1; rw [hl.out] at this; exact this
            rw [List.getElem?_take_of_lt hj] at hy
            exact (h k x hx.out).2 j y hj hy)) hB2
    · obtain rfl : k = ss.length := by omega
      go_wp2_with fail
      go_ret
      exact tells_yes (fun i x hx => H.out i x (List.getElem?_eq_some_iff.1 hx).1 hx) hB
end Go.Proofs.YtkmlbifhpkfinaaGreatDoor
