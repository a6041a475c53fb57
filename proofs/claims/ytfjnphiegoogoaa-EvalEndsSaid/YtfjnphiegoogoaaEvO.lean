/- Events that are handed in read as such. -/
import Derived.Test.YtfjnphiegoogoaaSchO
import Derived.Test.YtfjnphiegoogoaaAll
namespace Go.Proofs.Ytfjnphiegoogoaa
open Go.ChangeShapes Go.WideShapes Go.ChangeAt Go.RowKit Go.Deep Go.Joins Go.Fl
set_option linter.unusedVariables false
set_option linter.unusedSimpArgs false

/-- an event: its type, its time, its values -/
abbrev Ev := Int × Int × List (Int × Nat)
/-- events as they lie in a slice -/
def EvsAt (w : World) (A : Option Addr) (es : List Ev) : Prop := 0 < es.length → ∃ b off, A = some ⟨b, off, none⟩ ∧ ∀ (i : Nat) (e : Ev), es[i]? = some e → w.cell? ⟨b, off + i * 3, none⟩ = some (.int .i64 e.1) ∧ w.cell? ⟨b, off + i * 3 + 1, none⟩ = some (.int .i64 e.2.1) ∧ ∃ B cap, w.cell? ⟨b, off + i * 3 + 2, none⟩ = some (.slice B e.2.2.length cap) ∧ RowV w B e.2.2.length e.2.2
theorem EvsAt.later {w w1 : World} {A : Option Addr} {es : List Ev} (h : EvsAt w A es) (hb : Below w.heap.size w w1) : EvsAt w1 A es := fun hp => by
  obtain ⟨b, off, e, h⟩ := h hp
  refine ⟨b, off, e, fun i x hi => ?_⟩
  obtain ⟨h0, h1, B, cap, h2, h3⟩ := h i x hi
  exact ⟨cell_later hb h0, cell_later hb h1, B, cap, cell_later hb h2, h3.later hb⟩

section
variable {H : Type} {enc : TypeId × Value → H} {w : World} {base : Nat} {spare : Nat → Bool} {held : Bool}
theorem open_values {fuel : Nat} {v : Value} {y : DataW H × List MemPlace} (h : DataW.trod enc Try.prog w base spare held fuel 57 [v] = some y) (hw : WB Try.prog 57 y.1) :
    ∃ (B : Option Addr) (cap : Nat) (vs : List (Int × Nat)), v = .slice B vs.length cap ∧ RowV w B vs.length vs ∧ vs.length * 16 ≤ 140737488351232 := by
  rcases open_slice_fields Try.underlying57 Try.underlying36 (by kernel_rfl) (by kernel_rfl) h with ⟨hcs, _⟩ | ⟨a, len, cap, m, D, Pl, hcs, _, hl, hm, hmm, hx, hcell⟩
  · simp at hcs
    subst hcs
    exact ⟨none, 0, [], rfl, ⟨rfl, by simp, fun hp => absurd hp (by simp)⟩, by decide⟩
  · simp at hcs
    subst hcs hx
    have hlm : len ≤ m := by rw [hmm]; split <;> omega
    have hb := (wb_slice Try.underlying57 hw).1
    rw [show Try.prog.bytesOf 36 = 16 by kernel_rfl] at hb
    simp only [List.length_map, List.length_range, reachBytes] at hb
    have hv : ∀ i, i < len → ∃ q : Int × Nat, w.cell? (a.add (i * 2)) = some (.int .i64 q.1) ∧ w.cell? (a.add (i * 2 + 1)) = some (.int .u64 (q.2 : Int)) ∧ q.2 < 18446744073709551616 := by
      intro i hi
      obtain ⟨ys, n, _, _, _, hf⟩ := hcell i (by omega)
      obtain ⟨v0, y0, c0, _, t0⟩ := hf 0 _ rfl
      obtain ⟨v1, y1, c1, _, t1⟩ := hf 1 _ rfl
      obtain ⟨k, e0, _, _⟩ := DataW.trod_int Try.underlying3 t0
      obtain ⟨b, e1, _, wb⟩ := DataW.trod_int Try.underlying23 t1
      simp at e0 e1
      subst e0 e1
      obtain ⟨n, rfl, hn⟩ := nat_of_wf wb
      exact ⟨(k, n), c0, c1, hn⟩
    obtain ⟨q, hq⟩ := Go.Deep.choose_lt hv
    refine ⟨some a, cap, (List.range len).map q, by simp, ⟨by simp, ?_, fun hp => ?_⟩, by simpa using hb⟩
    · intro v hm
      obtain ⟨i, hi, rfl⟩ := List.mem_map.1 hm
      exact (hq i (List.mem_range.1 hi)).2.2
    · have hp' : 0 < len := by simpa using hp
      obtain ⟨b, off, rfl⟩ := spot_of (hq 0 hp').1
      refine ⟨b, off, rfl, fun i k c hi => ?_⟩
      have hil : i < len := by have := (List.getElem?_eq_some_iff.1 hi).1; simpa using this
      rw [List.getElem?_map, List.getElem?_range hil] at hi
      simp at hi
      have := hq i hil
      rw [hi, add_plain, add_plain] at this
      exact ⟨this.1, by rw [Nat.add_assoc]; exact this.2.1⟩
end
end Go.Proofs.Ytfjnphiegoogoaa
