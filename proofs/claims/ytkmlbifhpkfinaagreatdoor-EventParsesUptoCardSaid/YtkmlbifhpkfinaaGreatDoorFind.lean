/- Places in schemas: what both packages answer of them, as contracts. -/
import Derived.Test.YtkmlbifhpkfinaaGreatDoorSch
namespace Go.Proofs.YtkmlbifhpkfinaaGreatDoor
open Go.ChangeShapes Go.WideShapes Go.ChangeAt Go.RowKit
set_option linter.unusedVariables false
set_option linter.unusedSimpArgs false

/-- the first place at which p holds; -1 -/
def placeFrom {α : Type} (p : α → Bool) : List α → Nat → Int
  | [], _ => -1
  | x :: r, i => if p x then (i : Int) else placeFrom p r (i + 1)
def place {α : Type} (p : α → Bool) (l : List α) : Int := placeFrom p l 0
theorem placeFrom_hit {α : Type} (p : α → Bool) : ∀ (l : List α) (i k : Nat) (x : α), l[k]? = some x → p x = true → (∀ (j : Nat) (y : α), j < k → l[j]? = some y → p y = false) → placeFrom p l i = ((i + k : Nat) : Int)
  | [], i, k, x, h, _, _ => by simp at h
  | a :: r, i, 0, x, h, hp, _ => by
    simp at h
    subst h
    simp [placeFrom, hp]
  | a :: r, i, k + 1, x, h, hp, hn => by
    have h0 := hn 0 a (by omega) rfl
    have := placeFrom_hit p r (i + 1) k x (by simpa using h) hp (fun j y hj hy => hn (j + 1) y (by omega) (by simpa using hy))
    simp only [placeFrom, h0]
    rw [if_neg (by decide), this]
    congr 1
    omega
theorem placeFrom_miss {α : Type} (p : α → Bool) : ∀ (l : List α) (i : Nat), (∀ (j : Nat) (y : α), l[j]? = some y → p y = false) → placeFrom p l i = -1
  | [], i, _ => rfl
  | a :: r, i, hn => by
    have h0 := hn 0 a rfl
    simp only [placeFrom, h0]
    rw [if_neg (by decide)]
    exact placeFrom_miss p r (i + 1) (fun j y hy => hn (j + 1) y (by simpa using hy))
theorem place_hit {α : Type} (p : α → Bool) (l : List α) (k : Nat) (x : α) (h : l[k]? = some x) (hp : p x = true) (hn : ∀ (j : Nat) (y : α), j < k → l[j]? = some y → p y = false) : place p l = (k : Int) := by
  unfold place
  rw [placeFrom_hit p l 0 k x h hp hn, Nat.zero_add]
theorem place_miss {α : Type} (p : α → Bool) (l : List α) (hn : ∀ (j : Nat) (y : α), l[j]? = some y → p y = false) : place p l = -1 := placeFrom_miss p l 0 hn
theorem fret_int {a b : Int} (h : a = b) : Ending.returned (.int .i64 a) = .returned (.int .i64 b) := by rw [h]

def TypesAt (w : World) (A : Option Addr) (ts : List ST) : Prop := 0 < ts.length → ∃ b off, A = some ⟨b, off, none⟩ ∧ ∀ (i : Nat) (t : ST), ts[i]? = some t → ∃ u, w.cell? ⟨b, off + i * 2, none⟩ = some (.string t.1) ∧ w.cell? ⟨b, off + i * 2 + 1, none⟩ = some u ∧ FieldsIn w u t.2
def FieldsAt (w : World) (A : Option Addr) (fs : List SF) : Prop := 0 < fs.length → ∃ b off, A = some ⟨b, off, none⟩ ∧ ∀ (i : Nat) (f : SF), fs[i]? = some f → w.cell? ⟨b, off + i * 2, none⟩ = some (.string f.1) ∧ w.cell? ⟨b, off + i * 2 + 1, none⟩ = some (.int .i64 f.2)
def SymsAt (w : World) (A : Option Addr) (ss : List ByteArray) : Prop := 0 < ss.length → ∃ b off, A = some ⟨b, off, none⟩ ∧ ∀ (i : Nat) (s : ByteArray), ss[i]? = some s → w.cell? ⟨b, off + i, none⟩ = some (.string s)

theorem clo_type (nm name : ByteArray) (fv : Value) (g : Nat) (w : World) (hg : w.cell? ⟨g, 0, none⟩ = some (.string name)) :
    Calls Tryz.prog 64 #[.agg #[.string nm, fv], .pointer (some ⟨g, 0, none⟩)] w fun e w' => e = .returned (.bool (nm.toList == name.toList)) ∧ Below w.heap.size w w' := by
  have hlt : g < w.heap.size := mblock hg
  have hne : ¬ g = w.heap.size := by omega
  have hne2 : ¬ w.heap.size = g := by omega
  go_enter Tryz.func64, Tryz.ntmps64
  go_wp2
  go_ret
  exact ⟨rfl, m1 _ _⟩
set_option maxHeartbeats 4000000 in
theorem ixtype_any (A : Option Addr) (cap g : Nat) (ts : List ST) (name : ByteArray) (w : World) (hc : TypesAt w A ts) (hn : ts.length ≤ 9223372036854775807) (hg : w.cell? ⟨g, 0, none⟩ = some (.string name)) :
    Calls Tryz.prog 63 #[.slice A ts.length cap, .func (.func 64) #[] #[.pointer (some ⟨g, 0, none⟩)]] w fun e w' => e = .returned (.int .i64 (place (fun t : ST => t.1.toList == name.toList) ts)) ∧ Below w.heap.size w w' := by
  replace hc := Lib.hid hc
  go_enter Tryz.func63, Tryz.ntmps63
  go_wp2_with fail
  go_loopw [8] (fun i wr => ∃ k : Nat, k ≤ ts.length ∧ i = .int .i64 (k : Int) ∧ Below w.heap.size w wr ∧ Hid (∀ (j : Nat) (y : ST), j < k → ts[j]? = some y → (y.1.toList == name.toList) = false)) (fun i _ => ts.length - (intOf i).toNat)
  case atStart => exact ⟨0, Nat.zero_le _, rfl, Below.refl _ _, Lib.hid (fun j y h => by omega)⟩
  case round =>
    obtain ⟨k, hk, rfl, hB, H⟩ := hrel
    by_cases hlt : k < ts.length
    · obtain ⟨b, off, rfl, hcell⟩ := hc.out (by omega)
      have hx : ts[k]? = some ts[k] := List.getElem?_eq_getElem hlt
      obtain ⟨u, r0, r1, FA, fcap, rfl, _⟩ := hcell k _ hx
      have r0 := cell_later hB r0
      have r1 := cell_later hB r1
      have hg1 := cell_later hB hg
      generalize ts[k] = x at *
      obtain ⟨nm, fs⟩ := x
      simp only at r0 r1
      clear hcell
      replace hx := Lib.hid hx
      have k0 : (0 : Int) ≤ (k : Int) := by omega
      have k1 : (k : Int) < (ts.length : Int) := by omega
      obtain ⟨q, hq⟩ : ∃ q, (nm.toList == name.toList) = q := ⟨_, rfl⟩
      have CC := Lib.hid (clo_type nm name (.slice FA fs.length fcap) g wr hg1)
      rw [hq] at CC
      replace hq := Lib.hid hq
      cases q
      · go_wp2_with (go_at_call 64; refine CC.out.mono ?_; rintro e w1 ⟨rfl, hb1⟩)
        go_roundw
        case rel => exact ⟨k + 1, by omega, by go_num, mmore hB hb1, Lib.hid (fun j y h hy => by
          by_cases c : j < k
          · exact H.out j y c hy
          · obtain rfl : j = k := by omega
            rw [hx.out] at hy
            injection hy with hy
            rw [← hy]; exact hq.out)⟩
        case measure => simp [intOf]; omega
      · go_wp2_with (go_at_call 64; refine CC.out.mono ?_; rintro e w1 ⟨rfl, hb1⟩)
        go_ret
        exact ⟨fret_int (by rw [place_hit (fun t : ST => t.1.toList == name.toList) ts k _ hx.out hq.out (fun j y hj hy => H.out j y hj hy)]), mmore hB hb1⟩
    · obtain rfl : k = ts.length := by omega
      go_wp2_with fail
      go_ret
      exact ⟨fret_int (by rw [place_miss (fun t : ST => t.1.toList == name.toList) ts (fun j y hy => H.out j y (List.getElem?_eq_some_iff.1 hy).1 hy)]), hB⟩

set_option maxHeartbeats 4000000 in
theorem ixtext_any (A : Option Addr) (cap : Nat) (ss : List ByteArray) (name : ByteArray) (w : World) (hc : SymsAt w A ss) (hn : ss.length ≤ 9223372036854775807) :
    Calls Tryz.prog 94 #[.slice A ss.length cap, .string name] w fun e w' => e = .returned (.int .i64 (place (fun t : ByteArray => t.toList == name.toList) ss)) ∧ Below w.heap.size w w' := by
  replace hc := Lib.hid hc
  go_enter Tryz.func94, Tryz.ntmps94
  go_wp2_with fail
  go_loopw [8] (fun i wr => ∃ k : Nat, k ≤ ss.length ∧ i = .int .i64 (k : Int) ∧ Below w.heap.size w wr ∧ Hid (∀ (j : Nat) (y : ByteArray), j < k → ss[j]? = some y → (y.toList == name.toList) = false)) (fun i _ => ss.length - (intOf i).toNat)
  case atStart => exact ⟨0, Nat.zero_le _, rfl, Below.refl _ _, Lib.hid (fun j y h => by omega)⟩
  case round =>
    obtain ⟨k, hk, rfl, hB, H⟩ := hrel
    by_cases hlt : k < ss.length
    · obtain ⟨b, off, rfl, hcell⟩ := hc.out (by omega)
      have hx : ss[k]? = some ss[k] := List.getElem?_eq_getElem hlt
      have r0 := cell_later hB (hcell k _ hx)
      generalize ss[k] = nm at *
      clear hcell
      replace hx := Lib.hid hx
      have k0 : (0 : Int) ≤ (k : Int) := by omega
      have k1 : (k : Int) < (ss.length : Int) := by omega
      obtain ⟨q, hq⟩ : ∃ q, (nm.toList == name.toList) = q := ⟨_, rfl⟩
      have hq2 : (name.toList == nm.toList) = q := by rw [← hq, Bool.eq_iff_iff, beq_iff_eq, beq_iff_eq]; exact ⟨Eq.symm, Eq.symm⟩
      replace hq := Lib.hid hq
      cases q
      · go_wp2_with fail
        go_roundw
        case rel => exact ⟨k + 1, by omega, by go_num, hB, Lib.hid (fun j y h hy => by
          by_cases c : j < k
          · exact H.out j y c hy
          · obtain rfl : j = k := by omega
            rw [hx.out] at hy
            injection hy with hy
            rw [← hy]; exact hq.out)⟩
        case measure => simp [intOf]; omega
      · go_wp2_with fail
        go_ret
        exact ⟨fret_int (by rw [place_hit (fun t : ByteArray => t.toList == name.toList) ss k _ hx.out hq.out (fun j y hj hy => H.out j y hj hy)]), hB⟩
    · obtain rfl : k = ss.length := by omega
      go_wp2_with fail
      go_ret
      exact ⟨fret_int (by rw [place_miss (fun t : ByteArray => t.toList == name.toList) ss (fun j y hy => H.out j y (List.getElem?_eq_some_iff.1 hy).1 hy)]), hB⟩

set_option maxHeartbeats 4000000 in
theorem rtypeat_any (A : Option Addr) (cap : Nat) (v2 : Value) (ts : List ST) (name : ByteArray) (w : World) (hc : TypesAt w A ts) (hn : ts.length ≤ 9223372036854775807) :
    Calls Tryz.prog 28 #[.agg #[.slice A ts.length cap, v2], .string name] w fun e w' => e = .returned (.int .i64 (place (fun t : ST => t.1.toList == name.toList) ts)) ∧ Below w.heap.size w w' := by
  replace hc := Lib.hid hc
  go_enter Tryz.func28, Tryz.ntmps28
  go_wp2_with fail
  have hu := m1 w (.cells #[.slice A ts.length cap, v2] 25)
  generalize w.alloc (.cells #[.slice A ts.length cap, v2] 25) = u0 at *
  go_loopw [10] (fun i wr => ∃ k : Nat, k ≤ ts.length ∧ i = .int .i64 (k : Int) ∧ Below u0.heap.size u0 wr ∧ Hid (∀ (j : Nat) (y : ST), j < k → ts[j]? = some y → (y.1.toList == name.toList) = false)) (fun i _ => ts.length - (intOf i).toNat)
  case atStart => exact ⟨0, Nat.zero_le _, rfl, Below.refl _ _, Lib.hid (fun j y h => by omega)⟩
  case round =>
    obtain ⟨k, hk, rfl, hB, H⟩ := hrel
    by_cases hlt : k < ts.length
    · obtain ⟨b, off, rfl, hcell⟩ := hc.out (by omega)
      have hx : ts[k]? = some ts[k] := List.getElem?_eq_getElem hlt
      obtain ⟨u, r0, r1, FA, fcap, rfl, _⟩ := hcell k _ hx
      have r0 := cell_later hB (cell_later hu r0)
      have r1 := cell_later hB (cell_later hu r1)
      generalize ts[k] = x at *
      obtain ⟨nm, fs⟩ := x
      simp only at r0 r1
      clear hcell
      replace hx := Lib.hid hx
      have k0 : (0 : Int) ≤ (k : Int) := by omega
      have k1 : (k : Int) < (ts.length : Int) := by omega
      obtain ⟨q, hq⟩ : ∃ q, (nm.toList == name.toList) = q := ⟨_, rfl⟩
      have hq2 := hq
      replace hq := Lib.hid hq
      cases q
      · go_wp2_with fail
        go_roundw
        case rel => exact ⟨k + 1, by omega, by go_num, mmore hB (m1 _ _), Lib.hid (fun j y h hy => by
          by_cases c : j < k
          · exact H.out j y c hy
          · obtain rfl : j = k := by omega
            rw [hx.out] at hy
            injection hy with hy
            rw [← hy]; exact hq.out)⟩
        case measure => simp [intOf]; omega
      · go_wp2_with fail
        go_ret
        exact ⟨fret_int (by rw [place_hit (fun t : ST => t.1.toList == name.toList) ts k _ hx.out hq.out (fun j y hj hy => H.out j y hj hy)]), mmore hu (mmore hB (m1 _ _))⟩
    · obtain rfl : k = ts.length := by omega
      go_wp2_with fail
      go_ret
      exact ⟨fret_int (by rw [place_miss (fun t : ST => t.1.toList == name.toList) ts (fun j y hy => H.out j y (List.getElem?_eq_some_iff.1 hy).1 hy)]), mmore hu hB⟩
end Go.Proofs.YtkmlbifhpkfinaaGreatDoor
