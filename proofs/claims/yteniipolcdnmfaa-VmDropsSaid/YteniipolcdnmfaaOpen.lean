/- A list of values that is handed in reads as a list of pairs. -/
import Derived.Test.YteniipolcdnmfaaAll
import Derived.Deep.SlicePairs
namespace Go.Proofs.Yteniipolcdnmfaa
open Go.ChangeShapes Go.WideShapes Go.ChangeAt Go.RowKit Go.Fl

theorem spot_none {w : World} {a : Addr} {v : Value} (h : w.cell? a = some v) : a.spot = none := by
  unfold World.cell? at h
  split at h
  · split at h
    · cases h
    · rename_i hs; simpa using hs
  · cases h

theorem row_of_pairs {w : World} {a : Addr} {l m : Nat} {V0 V1 : Nat → Value} (hlm : l ≤ m) (hc : ∀ i, i < m → w.cell? (a.add (i * 2)) = some (V0 i) ∧ w.cell? (a.add (i * 2 + 1)) = some (V1 i))
    (hv : ∀ i, i < m → ∃ q : Int × Nat, V0 i = .int .i64 q.1 ∧ V1 i = .int .u64 (q.2 : Int) ∧ q.2 < 18446744073709551616) : ∃ z, RowV w (some a) l z := by
  obtain ⟨q, hq⟩ := Go.Deep.choose_lt hv
  refine ⟨(List.range l).map q, by simp, ?_, fun hp => ?_⟩
  · intro v hm
    obtain ⟨i, hi, rfl⟩ := List.mem_map.1 hm
    exact (hq i (by have := List.mem_range.1 hi; omega)).2.2
  · have h0 := (hc 0 (by omega)).1
    have hs : a.spot = none := by
      have := spot_none h0
      simpa [Addr.add] using this
    obtain ⟨b, off, sp⟩ := a
    simp only at hs
    subst hs
    refine ⟨b, off, rfl, fun i k c hi => ?_⟩
    rw [List.getElem?_map] at hi
    have hil : i < l := by
      apply Classical.byContradiction
      intro hge
      rw [List.getElem?_eq_none (by simp; omega)] at hi
      cases hi
    rw [List.getElem?_range hil] at hi
    simp at hi
    have h1 := hc i (by omega)
    have h2 := hq i (by omega)
    rw [h2.1, h2.2.1, hi] at h1
    have e : ∀ n, (⟨b, off, none⟩ : Addr).add n = ⟨b, off + n, none⟩ := fun n => by unfold Addr.add; split <;> simp_all
    rw [e, e] at h1
    simpa [Nat.add_assoc] using h1
end Go.Proofs.Yteniipolcdnmfaa
