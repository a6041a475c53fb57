/- A match in memory of its own (the document's Twin, of one match), as a contract. -/
import Derived.Test.YtmebbhlebehliaaDoorPar
import Derived.Test.YtmebbhlebehliaaDoorOrdB
import Derived.Test.YtmebbhlebehliaaDoorWords
import Derived.Deep.CutRange
import Derived.Deep.DeepCutAuto
namespace Go.Proofs.YtmebbhlebehliaaDoor
open Go.ChangeShapes Go.WideShapes Go.ChangeAt Go.RowKit
set_option linter.unusedVariables false
set_option linter.unusedSimpArgs false

theorem infoM : (Tryd.prog.info? 24).map (fun i => (i.zero, i.size, i.bytes)) = some (some (.agg #[.int .i64 0, .int .i64 0, .slice none 0 0]), 3, 40) := by kernel_rfl
theorem infoI : (Tryd.prog.info? 3).map (fun i => (i.zero, i.size, i.bytes)) = some (some (.int .i64 0), 1, 8) := by kernel_rfl
theorem reads_ints {w : World} {A : Option Addr} {zs : List Int} (h : IntsAt w A zs) : Reads w w.heap.size 1 A zs.length (icells zs) :=
  ⟨by simp [icells], fun hn => by
    obtain ⟨b, off, rfl, hc⟩ := h hn
    refine ⟨_, rfl, mblock (hc 0 _ (List.getElem?_eq_getElem hn)), fun j u hu => ?_⟩
    unfold icells at hu
    rw [List.getElem?_map] at hu
    obtain ⟨z, hz, rfl⟩ := Option.map_eq_some_iff.1 hu
    have := hc j z hz
    rwa [show (⟨b, off + j, none⟩ : Addr) = (⟨b, off, none⟩ : Addr).add j by unfold Addr.add; split <;> simp_all] at this⟩
theorem icells_one (zs : List Int) : ∀ u ∈ icells zs, u.oneCell' = true := fun u hu => by obtain ⟨z, _, rfl⟩ := List.mem_map.1 hu; rfl
/-- a row more to rows of the call's own -/
theorem rows_more {W w1 : World} {base k : Nat} {v pv : Value} {us : List Value} {bs : List (List Int)} {ns : List Int} (hns : bs[k]? = some ns) (hpv : W.ownsRow base 3 1 pv ns.length (icells ns)) (h2 : W.ownsRow base 34 1 v k us) (h3 : RowsOwnL W base (bs.take k) us)
    (hg : (W.alloc (.cells #[pv] 34)).grownBy w1 v.ownBlock) : RowsOwnL w1 base (bs.take (k + 1)) (us ++ [pv]) := by
  have hp : w1.ownsRow base 3 1 pv ns.length (icells ns) := (mown_below hpv (m1 W _)).kept hg (by
    rcases mown_ne hpv h2 (by decide) with h | h
    · exact .inl h
    · exact .inr h)
  have hus : ∀ (i : Nat) (ks : List Int) (y : Value), (bs.take k)[i]? = some ks → us[i]? = some y → w1.ownsRow base 3 1 y ks.length (icells ks) := fun i ks y hi hy => (mown_below (h3.2 i ks y hi hy) (m1 W _)).kept hg (by
    rcases mown_ne (h3.2 i ks y hi hy) h2 (by decide) with h | h
    · exact .inl h
    · exact .inr h)
  have hpl : k < bs.length := (List.getElem?_eq_some_iff.1 hns).1
  have hul : us.length = k := by have := h3.1; simp at this; omega
  refine ⟨by rw [List.length_take, List.length_append, hul]; simp; omega, fun i ks y hi hy => ?_⟩
  by_cases c : i < k
  · rw [List.getElem?_append_left (by omega)] at hy
    refine hus i ks y ?_ hy
    rw [List.getElem?_take_of_lt c]
    rwa [List.getElem?_take_of_lt (by omega)] at hi
  · have hi2 := (List.getElem?_eq_some_iff.1 hy).1
    rw [List.length_append] at hi2
    simp at hi2
    obtain rfl : i = k := by omega
    rw [List.getElem?_append_right (by omega), hul, Nat.sub_self] at hy
    simp at hy
    subst hy
    rw [List.getElem?_take_of_lt (by omega), hns] at hi
    injection hi with hi
    subst hi
    exact hp
theorem rows_later {W W' : World} {base : Nat} {kss : List (List Int)} {us : List Value} (h : RowsOwnL W base kss us) (hb : Below W.heap.size W W') : RowsOwnL W' base kss us := ⟨h.1, fun i ks x hi hx => mown_below (h.2 i ks x hi hx) hb⟩
theorem slice_of {W : World} {base n : Nat} {e : TypeId} {size : Nat} {v : Value} {xs : List Value} (h : W.ownsRow base e size v n xs) : ∃ a c, v = .slice a n c := by
  rcases h.2 with ⟨rfl, h0⟩ | ⟨g, cap, cur, rfl, _⟩
  · exact ⟨none, 0, by rw [h0]⟩
  · exact ⟨_, _, rfl⟩
theorem below_grown {w0 W w1 : World} {v : Value} {base : Nat} {e : TypeId} {size n : Nat} {xs : List Value} (h : Below w0.heap.size w0 W) (hb : w0.heap.size ≤ base) (ho : W.ownsRow base e size v n xs) (hg : W.grownBy w1 v.ownBlock) : Below w0.heap.size w0 w1 :=
  h.grown hg h.size (fun j ej => by
    rcases ho.2 with ⟨rfl, _⟩ | ⟨g, cap, cur, rfl, hg0, _⟩
    · simp [Value.ownBlock] at ej
    · obtain rfl : g = j := by simpa [Value.ownBlock] using ej
      omega)

/-- the twin as it lies -/
def TwinIs (w : World) (st br : Int) (bs : List (List Int)) (e : Ending) (w' : World) : Prop :=
  ∃ G c v us, e = .returned (.slice (some ⟨G, 0, none⟩) 1 c) ∧ w'.cell? ⟨G, 0, none⟩ = some (.int .i64 st) ∧ w'.cell? ⟨G, 1, none⟩ = some (.int .i64 br) ∧ w'.cell? ⟨G, 2, none⟩ = some v ∧ w'.ownsRow w.heap.size 34 1 v bs.length us ∧ RowsOwnL w' w.heap.size bs us ∧ Below w.heap.size w w'
end Go.Proofs.YtmebbhlebehliaaDoor
