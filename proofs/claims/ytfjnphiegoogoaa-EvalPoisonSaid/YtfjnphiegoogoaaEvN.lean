/- A script that is handed in, of the program's own types. -/
import Derived.Test.YtfjnphiegoogoaaEvO
import Derived.Deep.Matrix
namespace Go.Proofs.Ytfjnphiegoogoaa
open Go.ChangeShapes Go.WideShapes Go.ChangeAt Go.RowKit Go.Deep Go.Joins Go.Fl
set_option linter.unusedVariables false
set_option linter.unusedSimpArgs false
section
variable {H : Type} {enc : TypeId × Value → H} {w : World} {base : Nat} {spare : Nat → Bool} {held : Bool}
theorem open_values9 {fuel : Nat} {v : Value} {y : DataW H × List MemPlace} (h : DataW.trod enc Try.prog w base spare held fuel 47 [v] = some y) (hw : WB Try.prog 47 y.1) :
    ∃ (B : Option Addr) (cap : Nat) (vs : List (Int × Nat)), v = .slice B vs.length cap ∧ RowV w B vs.length vs ∧ vs.length * 16 ≤ 140737488351232 := by
  rcases open_slice_fields Try.underlying47 Try.underlying25 (by kernel_rfl) (by kernel_rfl) h with ⟨hcs, _⟩ | ⟨a, len, cap, m, D, Pl, hcs, _, hl, hm, hmm, hx, hcell⟩
  · simp at hcs
    subst hcs
    exact ⟨none, 0, [], rfl, ⟨rfl, by simp, fun hp => absurd hp (by simp)⟩, by decide⟩
  · simp at hcs
    subst hcs hx
    have hlm : len ≤ m := by rw [hmm]; split <;> omega
    have hb := (wb_slice Try.underlying47 hw).1
    rw [show Try.prog.bytesOf 25 = 16 by kernel_rfl] at hb
    simp only [List.length_map, List.length_range, reachBytes] at hb
    have hv : ∀ i, i < len → ∃ q : Int × Nat, w.cell? (a.add (i * 2)) = some (.int .i64 q.1) ∧ w.cell? (a.add (i * 2 + 1)) = some (.int .u64 (q.2 : Int)) ∧ q.2 < 18446744073709551616 := by
      intro i hi
      obtain ⟨ys, n, _, _, _, hf⟩ := hcell i (by omega)
      obtain ⟨v0, y0, c0, _, t0⟩ := hf 0 _ rfl
      obtain ⟨v1, y1, c1, _, t1⟩ := hf 1 _ rfl
      obtain ⟨k, e0, _, _⟩ := DataW.trod_int Try.underlying3 t0
      obtain ⟨b, e1, _, wb⟩ := DataW.trod_int Try.underlying23 t1
      simp at e0 e1
      subst e0 e1
      obtain ⟨n, rfl, hn⟩ := nat_of_wf wb
      exact ⟨(k, n), c0, c1, hn⟩
    obtain ⟨q, hq⟩ := Go.Deep.choose_lt hv
    refine ⟨some a, cap, (List.range len).map q, by simp, ⟨by simp, ?_, fun hp => ?_⟩, by simpa using hb⟩
    · intro v hm
      obtain ⟨i, hi, rfl⟩ := List.mem_map.1 hm
      exact (hq i (List.mem_range.1 hi)).2.2
    · have hp' : 0 < len := by simpa using hp
      obtain ⟨b, off, rfl⟩ := spot_of (hq 0 hp').1
      refine ⟨b, off, rfl, fun i k c hi => ?_⟩
      have hil : i < len := by have := (List.getElem?_eq_some_iff.1 hi).1; simpa using this
      rw [List.getElem?_map, List.getElem?_range hil] at hi
      simp at hi
      have := hq i hil
      rw [hi, add_plain, add_plain] at this
      exact ⟨this.1, by rw [Nat.add_assoc]; exact this.2.1⟩
set_option maxRecDepth 100000 in
theorem open_event9 {r : Reach} {b0 : Nat} {v : Value} {d : DataW H} {p : List MemPlace} (hv : Value.okWide Try.prog w r b0 65 v) (h : DataW.Trod enc Try.prog w base spare held 65 v d p) (hw : WB Try.prog 65 d) :
    ∃ (ty tm : Int) (B : Option Addr) (cap : Nat) (vs : List (Int × Nat)), v = .agg #[.int .i64 ty, .int .i64 tm, .slice B vs.length cap] ∧ RowV w B vs.length vs ∧ vs.length * 16 ≤ 140737488351232 := by
  obtain ⟨v0, v1, v2, y0, y1, y2, n, rfl, rfl, rfl, t0, t1, t2⟩ := open_agg3 Try.underlying65 (by kernel_rfl) (by kernel_rfl) hv h
  obtain ⟨ty, e0, _, _⟩ := DataW.trod_int Try.underlying3 t0
  obtain ⟨tm, e1, _, _⟩ := DataW.trod_int Try.underlying2 t1
  simp at e0 e1
  subst e0 e1
  have hW2 : WB Try.prog 47 y2.1 := wb_agg Try.underlying65 hw (j := 2) rfl rfl
  obtain ⟨B, cap, vs, rfl, hR, hb⟩ := open_values9 t2 hW2
  exact ⟨ty, tm, B, cap, vs, rfl, hR, hb⟩
set_option maxRecDepth 100000 in
theorem open_events9 {r : Reach} {b0 : Nat} {v : Value} {d : DataW H} {p : List MemPlace} (hv : Value.okWide Try.prog w r b0 28 v) (h : DataW.Trod enc Try.prog w base spare held 28 v d p) (hw : WB Try.prog 28 d) :
    ∃ (A : Option Addr) (cap : Nat) (es : List Ev), v = .slice A es.length cap ∧ es.length ≤ cap ∧ cap ≤ maxLen ∧ EvsAt w A es ∧ es.length * 40 ≤ 140737488351232 ∧ ∀ e ∈ es, e.2.2.length * 16 ≤ 140737488351232 := by
  obtain ⟨A0, len, cap, rfl⟩ := okWide_slice Try.underlying28 hv
  obtain ⟨fuel, h⟩ := h
  rcases open_slice_fields Try.underlying28 Try.underlying65 (by kernel_rfl) (by kernel_rfl) h with ⟨hcs, _⟩ | ⟨a, len', cap', m, D, Pl, hcs, _, hl, hm, hmm, hx, hcell⟩
  · simp [Value.cells] at hcs
    obtain ⟨rfl, rfl, rfl⟩ := hcs
    exact ⟨none, 0, [], rfl, by simp, by unfold maxLen; omega, fun hp => absurd hp (by simp), by decide, fun e he => by simp at he⟩
  · simp [Value.cells] at hcs
    obtain ⟨rfl, rfl, rfl⟩ := hcs
    simp only [Prod.mk.injEq] at hx
    obtain ⟨rfl, rfl⟩ := hx
    have hlm : len ≤ m := by rw [hmm]; split <;> omega
    obtain ⟨hb, hw2⟩ := wb_slice Try.underlying28 hw
    rw [show Try.prog.bytesOf 65 = 40 by kernel_rfl] at hb
    simp only [List.length_map, List.length_range, reachBytes] at hb
    have hv : ∀ i, i < len → ∃ q : Ev, w.cell? (a.add (i * 3)) = some (.int .i64 q.1) ∧ w.cell? (a.add (i * 3 + 1)) = some (.int .i64 q.2.1) ∧ ∃ B cp, w.cell? (a.add (i * 3 + 2)) = some (.slice B q.2.2.length cp) ∧ RowV w B q.2.2.length q.2.2 ∧ q.2.2.length * 16 ≤ 140737488351232 := by
      intro i hi
      obtain ⟨ys, n, hD, _, hyl, hf⟩ := hcell i (by omega)
      have hWi : WB Try.prog 65 (D i) := hw2 (D i) (List.mem_map.2 ⟨i, List.mem_range.2 hi, rfl⟩)
      obtain ⟨v0, y0, c0, _, t0⟩ := hf 0 _ rfl
      obtain ⟨v1, y1, c1, _, t1⟩ := hf 1 _ rfl
      obtain ⟨v2, y2, c2, e2, t2⟩ := hf 2 _ rfl
      obtain ⟨ty, e0, _, _⟩ := DataW.trod_int Try.underlying3 t0
      obtain ⟨tm, e1, _, _⟩ := DataW.trod_int Try.underlying2 t1
      simp at e0 e1
      subst e0 e1
      rw [hD] at hWi
      have hW1 : WB Try.prog 47 y2.1 := wb_agg Try.underlying65 hWi (j := 2) rfl (by rw [List.getElem?_map, e2]; rfl)
      obtain ⟨B, cp, vs, rfl, hR, hbv⟩ := open_values9 t2 hW1
      exact ⟨(ty, tm, vs), c0, c1, B, cp, c2, hR, hbv⟩
    obtain ⟨q, hq⟩ := Go.Deep.choose_lt hv
    refine ⟨some a, cap, (List.range len).map q, by simp, by simpa using hl, hm, fun hp => ?_, by simpa using hb, fun t ht => ?_⟩
    · have hp' : 0 < len := by simpa using hp
      obtain ⟨b, off, rfl⟩ := spot_of (hq 0 hp').1
      refine ⟨b, off, rfl, fun i f hi => ?_⟩
      have hil : i < len := by have := (List.getElem?_eq_some_iff.1 hi).1; simpa using this
      rw [List.getElem?_map, List.getElem?_range hil] at hi
      simp at hi
      subst hi
      obtain ⟨h0, h1, B, cp, h2, h3, _⟩ := hq i hil
      rw [add_plain] at h0 h1 h2
      exact ⟨h0, by rw [Nat.add_assoc]; exact h1, B, cp, by rw [Nat.add_assoc]; exact h2, h3⟩
    · obtain ⟨i, hi, rfl⟩ := List.mem_map.1 ht
      obtain ⟨_, _, B, cp, _, _, h3⟩ := hq i (List.mem_range.1 hi)
      exact h3
end
end Go.Proofs.Ytfjnphiegoogoaa
