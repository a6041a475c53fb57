/- A match that is handed in reads as its step, its branch and its rows of places. -/
import Derived.Test.YtdgbnibnhajfoaaSchO
import Derived.Test.YtdgbnibnhajfoaaMr
import Derived.Deep.Matrix
namespace Go.Proofs.Ytdgbnibnhajfoaa
open Go.ChangeShapes Go.WideShapes Go.ChangeAt Go.RowKit Go.Deep Go.Joins
set_option linter.unusedVariables false
set_option linter.unusedSimpArgs false

section
variable {H : Type} {enc : TypeId × Value → H} {w : World} {base : Nat} {held : Bool}
theorem open_rows {fuel : Nat} {v : Value} {y : DataW H × List MemPlace} (h : DataW.trod enc Try.prog w base (fun _ => true) held fuel 41 [v] = some y) (hw : WB Try.prog 41 y.1) :
    ∃ (A : Option Addr) (cap : Nat) (bs : List (List Int)), v = .slice A bs.length cap ∧ RowsAt w A bs ∧ bs.length * 24 ≤ 140737488351232 ∧ ∀ l ∈ bs, l.length * 8 ≤ 140737488351232 := by
  rcases open_int_rows Try.underlying41 Try.underlying44 Try.underlying3 (by kernel_rfl) (by kernel_rfl) h with ⟨hcs, _⟩ | ⟨a, len, cap, A, L, C, Z, hcs, _, hl, hm, hx, hcell⟩
  · simp at hcs
    subst hcs
    exact ⟨none, 0, [], rfl, fun hp => absurd hp (by simp), by decide, fun l hl => by simp at hl⟩
  · simp at hcs
    subst hcs hx
    obtain ⟨hb, hw2⟩ := wb_slice Try.underlying41 hw
    rw [show Try.prog.bytesOf 44 = 24 by kernel_rfl] at hb
    simp only [List.length_map, List.length_range, reachBytes] at hb
    refine ⟨some a, cap, (List.range len).map fun r => (Z r).take (L r), by simp, fun hp => ?_, by simpa using hb, fun t ht => ?_⟩
    · have hp' : 0 < len := by simpa using hp
      obtain ⟨b, off, rfl⟩ := spot_of (hcell 0 (by omega)).1
      refine ⟨b, off, rfl, fun i l hi => ?_⟩
      have hil : i < len := by have := (List.getElem?_eq_some_iff.1 hi).1; simpa using this
      rw [List.getElem?_map, List.getElem?_range hil] at hi
      simp at hi
      subst hi
      obtain ⟨h0, h1, h2, h3, h4, h5, h6⟩ := hcell i (by omega)
      rw [add_plain] at h0
      have hlen : ((Z i).take (L i)).length = L i := by rw [List.length_take]; omega
      refine ⟨_, h0, A i, C i, by rw [hlen], fun hq => ?_⟩
      rw [hlen] at hq
      cases hA : A i with
      | none => have := h5 hA; omega
      | some a' =>
        obtain ⟨_, hc⟩ := h6 a' hA
        obtain ⟨b', off', rfl⟩ := spot_of (hc 0 (by omega))
        refine ⟨b', off', rfl, fun j z hj => ?_⟩
        have hjl : j < L i := by have := (List.getElem?_eq_some_iff.1 hj).1; omega
        have := hc j (by omega)
        rw [add_plain] at this
        rw [this]
        rw [List.getElem?_take_of_lt hjl] at hj
        rw [List.getD_eq_getElem?_getD, hj]; rfl
    · obtain ⟨i, hi, rfl⟩ := List.mem_map.1 ht
      have hil := List.mem_range.1 hi
      have hWi : WB Try.prog 44 (intRow (H := H) .i64 (A i) (L i) (Z i)) := hw2 _ (List.mem_map.2 ⟨i, hi, rfl⟩)
      obtain ⟨h0, h1, h2, h3, h4, h5, h6⟩ := hcell i (by omega)
      cases hA : A i with
      | none => have := h5 hA; rw [List.length_take]; omega
      | some a' =>
        rw [hA] at hWi
        obtain ⟨hb2, _⟩ := wb_slice Try.underlying44 hWi
        rw [show Try.prog.bytesOf 3 = 8 by kernel_rfl] at hb2
        simpa [lits, reachBytes] using hb2
end
end Go.Proofs.Ytdgbnibnhajfoaa
