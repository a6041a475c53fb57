/- A binding and the event that is asked, that are handed in. -/
import Derived.Test.YtfjnphiegoogoaaEvN
import Derived.Test.YtfjnphiegoogoaaEvK
import Derived.Deep.Matrix
import Derived.Lib.SmallJoins
namespace Go.Proofs.Ytfjnphiegoogoaa
open Go.ChangeShapes Go.WideShapes Go.ChangeAt Go.RowKit Go.Joins
set_option linter.unusedVariables false
set_option linter.unusedSimpArgs false
section
variable {H : Type} {enc : TypeId × Value → H} {w : World}
set_option maxRecDepth 100000 in
theorem open_place9 {r : Reach} {b0 : Nat} {v : Value} {d : DataW H} {p : List MemPlace} (hv : Value.okWide Try.prog w r b0 31 v) (h : DataW.Trod enc Try.prog w 0 (fun _ => true) true 31 v d p) (hw : WB Try.prog 31 d) :
    ∃ (A : Option Addr) (c : Nat) (bs : List (List Int)) (cu : Int), v = .agg #[.slice A bs.length c, .int .i64 cu] ∧ KindsAt w A bs ∧ bs.length * 24 ≤ 140737488351232 ∧ ∀ l ∈ bs, l.length * 8 ≤ 140737488351232 := by
  obtain ⟨v0, v1, y0, y1, n, rfl, rfl, rfl, t0, t1⟩ := open_agg2 Try.underlying31 (by kernel_rfl) (by kernel_rfl) hv h
  obtain ⟨cu, e1, _, _⟩ := DataW.trod_int Try.underlying3 t1
  simp at e1
  subst e1
  have hW0 : WB Try.prog 29 y0.1 := wb_agg Try.underlying31 hw (j := 0) rfl rfl
  rcases Go.Deep.open_int_rows Try.underlying29 Try.underlying43 Try.underlying3 (by kernel_rfl) (by kernel_rfl) t0 with ⟨hcs, _⟩ | ⟨a, len, cap, Af, L, C, Z, hcs, _, hl, hm, hx, hcell⟩
  · simp at hcs
    subst hcs
    exact ⟨none, 0, [], _, rfl, fun hp => absurd hp (by simp), by decide, by simp⟩
  · simp at hcs
    subst hcs
    rw [hx] at hW0
    obtain ⟨hb, hw2⟩ := wb_slice Try.underlying29 hW0
    rw [show Try.prog.bytesOf 43 = 24 by kernel_rfl] at hb
    simp only [List.length_map, List.length_range, reachBytes] at hb
    refine ⟨some a, cap, (List.range len).map fun r => (Z r).take (L r), _, by simp; rfl, fun hp => ?_, by simpa using hb, fun l hm' => ?_⟩
    · have hp' : 0 < len := by simpa using hp
      obtain ⟨b, off, rfl⟩ := spot_of (hcell 0 (by omega)).1
      refine ⟨b, off, rfl, fun i ks hi => ?_⟩
      have hil : i < len := by have := (List.getElem?_eq_some_iff.1 hi).1; simpa using this
      rw [List.getElem?_map, List.getElem?_range hil] at hi
      simp at hi
      subst hi
      obtain ⟨h0, h1, h2, h3, h4, h5, h6⟩ := hcell i (by omega)
      rw [add_plain] at h0
      refine ⟨_, h0, Af i, C i, by rw [List.length_take, h3, Nat.min_eq_left h1], fun hp2 => ?_⟩
      cases hA : Af i with
      | none => rw [List.length_take, h3] at hp2; have := h5 hA; omega
      | some a' =>
        have hc := (h6 a' hA).2
        obtain ⟨b2, off2, rfl⟩ := spot_of (hc 0 (by rw [List.length_take, h3] at hp2; omega))
        refine ⟨b2, off2, rfl, fun j z hj => ?_⟩
        have hj2 : j < L i := by have := (List.getElem?_eq_some_iff.1 hj).1; rw [List.length_take] at this; omega
        rw [List.getElem?_take_of_lt hj2] at hj
        have := hc j (by omega)
        rw [add_plain, List.getD_eq_getElem?_getD, hj] at this
        exact this
    · obtain ⟨i, hi, rfl⟩ := List.mem_map.1 hm'
      have hi' := List.mem_range.1 hi
      have hW := hw2 _ (List.mem_map.2 ⟨i, hi, rfl⟩)
      obtain ⟨h0, h1, h2, h3, h4, h5, h6⟩ := hcell i (by omega)
      rw [List.length_take]
      cases hA : Af i with
      | none => have := h5 hA; omega
      | some a' =>
        rw [hA] at hW
        have hb2 := (wb_slice Try.underlying43 hW).1
        rw [show Try.prog.bytesOf 3 = 8 by kernel_rfl] at hb2
        simp only [lits, List.length_map, List.length_take, h3, reachBytes] at hb2
        omega
end
end Go.Proofs.Ytfjnphiegoogoaa
