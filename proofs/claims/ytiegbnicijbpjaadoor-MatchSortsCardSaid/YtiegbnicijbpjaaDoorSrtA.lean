/- Matches in memory of their own: the program's Sort up to its call of slices.SortFunc. -/
import Derived.Test.YtiegbnicijbpjaaDoorOrdG
import Derived.Deep.CutRange
import Derived.Deep.DeepCutAuto
import Derived.Maps.AppendAt
import Derived.Lib.SmallJoins
namespace Go.Proofs.YtiegbnicijbpjaaDoor
open Go.ChangeShapes Go.WideShapes Go.ChangeAt Go.RowKit
set_option linter.unusedVariables false
set_option linter.unusedSimpArgs false

abbrev MT := Int × Int × List (List Int)
theorem sInfoM : (Tryd.prog.info? 27).map (fun i => (i.zero, i.size, i.bytes)) = some (some (.agg #[.int .i64 0, .int .i64 0, .slice none 0 0]), 3, 40) := by kernel_rfl
theorem sInfoR : (Tryd.prog.info? 29).map (fun i => (i.zero, i.size, i.bytes)) = some (some (.slice none 0 0), 1, 24) := by kernel_rfl
/-- rows, each of the call's own -/
def RowsO (w : World) (base : Nat) (kss : List (List Int)) (us : List Value) : Prop := us.length = kss.length ∧ ∀ (i : Nat) (ks : List Int) (x : Value), kss[i]? = some ks → us[i]? = some x → w.ownsRow base 3 1 x ks.length (icells ks)
/-- what is kept of rows that aren't touched -/
def KeepO (base : Nat) (W W' : World) : Prop := ∀ (e : TypeId) (v : Value) (n : Nat) (xs : List Value), e ≠ 27 → W.ownsRow base e 1 v n xs → W'.ownsRow base e 1 v n xs
theorem RowsO.keep {base : Nat} {W W' : World} (h : KeepO base W W') {kss : List (List Int)} {us : List Value} (hu : RowsO W base kss us) : RowsO W' base kss us := ⟨hu.1, fun i ks x hi hx => h _ _ _ _ (by decide) (hu.2 i ks x hi hx)⟩
theorem KeepO.below {base : Nat} {W W' : World} (h : Below W.heap.size W W') : KeepO base W W' := fun e v n xs _ hO => mown_below hO h
theorem KeepO.trans {base : Nat} {W W1 W2 : World} (h : KeepO base W W1) (k : KeepO base W1 W2) : KeepO base W W2 := fun e v n xs he hO => k e v n xs he (h e v n xs he hO)
theorem rowsO_more {W w1 : World} {base k : Nat} {v pv : Value} {us : List Value} {bs : List (List Int)} {ns : List Int} (hns : bs[k]? = some ns) (hpv : W.ownsRow base 3 1 pv ns.length (icells ns)) (h2 : W.ownsRow base 29 1 v k us) (h3 : RowsO W base (bs.take k) us)
    (hg : (W.alloc (.cells #[pv] 29)).grownBy w1 v.ownBlock) : RowsO w1 base (bs.take (k + 1)) (us ++ [pv]) := by
  have hp : w1.ownsRow base 3 1 pv ns.length (icells ns) := (mown_below hpv (m1 W _)).kept hg (by
    rcases mown_ne hpv h2 (by decide) with h | h
    · exact .inl h
    · exact .inr h)
  have hus : ∀ (i : Nat) (ks : List Int) (y : Value), (bs.take k)[i]? = some ks → us[i]? = some y → w1.ownsRow base 3 1 y ks.length (icells ks) := fun i ks y hi hy => (mown_below (h3.2 i ks y hi hy) (m1 W _)).kept hg (by
    rcases mown_ne (h3.2 i ks y hi hy) h2 (by decide) with h | h
    · exact .inl h
    · exact .inr h)
  have hpl : k < bs.length := (List.getElem?_eq_some_iff.1 hns).1
  have hul : us.length = k := by have := h3.1; simp at this; omega
  refine ⟨by rw [List.length_take, List.length_append, hul]; simp; omega, fun i ks y hi hy => ?_⟩
  by_cases c : i < k
  · rw [List.getElem?_append_left (by omega)] at hy
    refine hus i ks y ?_ hy
    rw [List.getElem?_take_of_lt c]
    rwa [List.getElem?_take_of_lt (by omega)] at hi
  · have hi2 := (List.getElem?_eq_some_iff.1 hy).1
    rw [List.length_append] at hi2
    simp at hi2
    obtain rfl : i = k := by omega
    rw [List.getElem?_append_right (by omega), hul, Nat.sub_self] at hy
    simp at hy
    subst hy
    rw [List.getElem?_take_of_lt (by omega), hns] at hi
    injection hi with hi
    subst hi
    exact hp
/-- matches, each with rows of the call's own -/
def ListO (w : World) (base : Nat) (ms : List MT) (xs : List Value) : Prop := xs.length = ms.length * 3 ∧ ∀ (i : Nat) (m : MT), ms[i]? = some m → ∃ v us, xs[i * 3]? = some (.int .i64 m.1) ∧ xs[i * 3 + 1]? = some (.int .i64 m.2.1) ∧ xs[i * 3 + 2]? = some v ∧
  w.ownsRow base 29 1 v m.2.2.length us ∧ RowsO w base m.2.2 us
theorem ListO.keep {base : Nat} {W W' : World} (h : KeepO base W W') {ms : List MT} {xs : List Value} (hl : ListO W base ms xs) : ListO W' base ms xs := ⟨hl.1, fun i m hi => by
  obtain ⟨v, us, h0, h1, h2, h3, h4⟩ := hl.2 i m hi
  exact ⟨v, us, h0, h1, h2, h _ _ _ _ (by decide) h3, h4.keep h⟩⟩
theorem ListO.nil (w : World) (base : Nat) : ListO w base [] [] := ⟨rfl, fun i m hi => by simp at hi⟩
theorem ListO.more {base : Nat} {W : World} {ms : List MT} {xs : List Value} (hl : ListO W base ms xs) (m : MT) (v : Value) (us : List Value) (h3 : W.ownsRow base 29 1 v m.2.2.length us) (h4 : RowsO W base m.2.2 us) : ListO W base (ms ++ [m]) (xs ++ [.int .i64 m.1, .int .i64 m.2.1, v]) := by
  have hl1 := hl.1
  refine ⟨by simp [hl1]; omega, fun i n hi => ?_⟩
  by_cases c : i < ms.length
  · rw [List.getElem?_append_left c] at hi
    obtain ⟨v', us', h0, h1, h2, h3, h4⟩ := hl.2 i n hi
    refine ⟨v', us', ?_, ?_, ?_, h3, h4⟩
    · rw [List.getElem?_append_left (by omega)]; exact h0
    · rw [List.getElem?_append_left (by omega)]; exact h1
    · rw [List.getElem?_append_left (by omega)]; exact h2
  · have hi2 := (List.getElem?_eq_some_iff.1 hi).1
    rw [List.length_append] at hi2
    simp at hi2
    obtain rfl : i = ms.length := by omega
    rw [List.getElem?_append_right (by omega), Nat.sub_self] at hi
    simp at hi
    subst hi
    refine ⟨v, us, ?_, ?_, ?_, h3, h4⟩
    · rw [List.getElem?_append_right (by omega), hl1, Nat.sub_self]; rfl
    · rw [List.getElem?_append_right (by omega), hl1, Nat.add_sub_cancel_left]; rfl
    · rw [List.getElem?_append_right (by omega), hl1, Nat.add_sub_cancel_left]; rfl
/-- an append to a list of matches keeps the rows -/
theorem KeepO.grown {base base' : Nat} {W w1 : World} {v : Value} {k : Nat} {xs : List Value} (hO : W.ownsRow base' 27 3 v k xs) (o : Obj) (hg : (W.alloc o).grownBy w1 v.ownBlock) : KeepO base W w1 := fun e u n ys he hu => (mown_below hu (m1 W _)).kept hg (by
    rcases mown_ne hu hO he with h | h
    · exact .inl h
    · exact .inr h)
/-- a store into a match's block keeps the rows -/
theorem KeepO.set {base : Nat} {W : World} {p : Addr} {cs : Array Value} (hb : Blk W p.block 27 cs) (u : Value) : KeepO base W (W.setCell p u) := fun e v n xs he hO => mown_set hO (fun h => hb.own_ne hO he h.symm) u
/-- a list of matches as it lies -/
def MatsAt (w : World) (A : Option Addr) (ms : List MT) : Prop := 0 < ms.length → ∃ b off, A = some ⟨b, off, none⟩ ∧ ∀ (i : Nat) (m : MT), ms[i]? = some m →
  w.cell? ⟨b, off + i * 3, none⟩ = some (.int .i64 m.1) ∧ w.cell? ⟨b, off + i * 3 + 1, none⟩ = some (.int .i64 m.2.1) ∧ ∃ A2 c2, w.cell? ⟨b, off + i * 3 + 2, none⟩ = some (.slice A2 m.2.2.length c2) ∧ RowsAt w A2 m.2.2
theorem MatsAt.later {w w1 : World} {A : Option Addr} {ms : List MT} (h : MatsAt w A ms) (hb : Below w.heap.size w w1) : MatsAt w1 A ms := fun hp => by
  obtain ⟨b, off, e, h⟩ := h hp
  refine ⟨b, off, e, fun i m hi => ?_⟩
  obtain ⟨h0, h1, A2, c2, h2, h3⟩ := h i m hi
  exact ⟨cell_later hb h0, cell_later hb h1, A2, c2, cell_later hb h2, h3.later hb⟩
/-- no more than a machine's memory holds -/
def Small (ms : List MT) : Prop := ms.length * 40 ≤ 140737488351232 ∧ ∀ m ∈ ms, m.2.2.length * 24 ≤ 140737488351232 ∧ ∀ l ∈ m.2.2, l.length * 8 ≤ 140737488351232
theorem clone_any (A : Option Addr) (c : Nat) (zs : List Int) (w : World) (hA : IntsAt w A zs) (hx : zs.length * 8 ≤ 140737488355328) :
    Calls Tryd.prog 14 #[.slice A zs.length c] w fun e w' => ∃ a d, e = .returned (.slice a zs.length d) ∧ w'.ownsRow w.heap.size 3 1 (.slice a zs.length d) zs.length (icells zs) ∧ Below w.heap.size w w' := by
  have sl : ∀ {W : World} {base n : Nat} {v : Value} {xs : List Value}, W.ownsRow base 3 1 v n xs → ∃ a c, v = .slice a n c := fun h => by
    rcases h.2 with ⟨rfl, h0⟩ | ⟨g, cap, cur, rfl, _⟩
    · exact ⟨none, 0, by rw [h0]⟩
    · exact ⟨_, _, rfl⟩
  by_cases h0 : 0 < zs.length
  · obtain ⟨b, off, rfl, hc⟩ := hA h0
    refine (Tryd.slices_Clone_int b off zs.length c zs w (Nat.le_refl _) hx (fun j hj => ?_)).mono ?_
    · rw [hc j _ (List.getElem?_eq_getElem hj), List.getD_eq_getElem?_getD, List.getElem?_eq_getElem hj]; rfl
    · rintro e w' ⟨v, rfl, ho, _, hb⟩
      rw [List.take_of_length_le (Nat.le_refl _)] at ho
      obtain ⟨a, d, rfl⟩ := sl ho
      exact ⟨a, d, rfl, ho, hb⟩
  · obtain rfl : zs = [] := List.length_eq_zero_iff.1 (by omega)
    cases A with
    | none =>
      refine (Tryd.slices_Clone_int_nil _ c w).mono ?_
      rintro e w' ⟨rfl, rfl⟩
      exact ⟨none, 0, rfl, World.ownsRow_nil _ _ _ _, Below.refl _ _⟩
    | some a =>
      refine (Tryd.slices_Clone_int_zero a c w).mono ?_
      rintro e w' ⟨v, rfl, ho, _, hb⟩
      obtain ⟨a, d, rfl⟩ := sl ho
      exact ⟨a, d, rfl, ho, hb⟩
end Go.Proofs.YtiegbnicijbpjaaDoor
