/- What a script's beginning tells. -/
import Derived.Test.YtbgjllpdbbolfabDoorEvD
namespace Go.Proofs.YtbgjllpdbbolfabDoor
open Go.ChangeShapes Go.WideShapes Go.ChangeAt Go.RowKit Go.Fl
set_option linter.unusedVariables false
set_option linter.unusedSimpArgs false

theorem take_at {es : List Ev} {n i : Nat} (h : i < n) : (es.take n)[i]? = es[i]? := List.getElem?_take_of_lt h
theorem okay_take {ok : Ev → Prop} {es : List Ev} {n i : Nat} (h : i < n) (ho : Okay ok es i) : Okay ok (es.take n) i := fun e he => by
  rw [take_at h] at he
  obtain ⟨h1, h2⟩ := ho e he
  refine ⟨h1, fun j d e1 hd => h2 j d e1 ?_⟩
  rwa [take_at (by omega)] at hd
theorem scr_ahead {ok : Ev → Prop} {es : List Ev} {i : Nat} (h : ∀ j, j < i → Okay ok es j) : ScrIs ok (es.take i) 0 0 :=
  .inl ⟨fun j hj => okay_take (by rw [List.length_take] at hj; omega) (h j (by rw [List.length_take] at hj; omega)), rfl, rfl⟩
theorem scr_with {ok : Ev → Prop} {es : List Ev} {i : Nat} {e : Ev} {r : Int} (hi : es[i]? = some e) (h : ∀ j, j < i → Okay ok es j) (hr : (¬ ok e ∧ r = 20) ∨ (ok e ∧ (∃ (j : Nat) (d : Ev), i = j + 1 ∧ es[j]? = some d ∧ e.2.1 < d.2.1) ∧ r = 21)) : ScrIs ok (es.take (i + 1)) (i : Int) r := by
  refine .inr ⟨i, e, by rw [take_at (by omega)]; exact hi, fun j hj => okay_take (by omega) (h j hj), rfl, ?_⟩
  rcases hr with hr | ⟨a, ⟨j, d, e1, hd, ht⟩, b⟩
  · exact .inl hr
  · exact .inr ⟨a, ⟨j, d, e1, by rw [take_at (by omega)]; exact hd, ht⟩, b⟩
theorem EvsAt.take {w : World} {A : Option Addr} {es : List Ev} (h : EvsAt w A es) (n : Nat) : EvsAt w A (es.take n) := fun hp => by
  obtain ⟨b, off, e, hc⟩ := h (by rw [List.length_take] at hp; omega)
  refine ⟨b, off, e, fun i x hi => hc i x ?_⟩
  have hl := (List.getElem?_eq_some_iff.1 hi).1
  rw [List.length_take] at hl
  rwa [take_at (by omega)] at hi
theorem take_length {es : List Ev} {n : Nat} (h : n ≤ es.length) : (es.take n).length = n := by rw [List.length_take]; omega
section
variable {w0 w w1 : World} {a0 a1 : Addr} {v0 v1 : Value} {A C B : Option Addr} {ts : List ST} {ss : List ByteArray} {es : List Ev}
theorem evsS (h : w.cell? a0 = some v0 ∧ w.cell? a1 = some v1 ∧ TypesAt w A ts ∧ SymsAt w C ss ∧ EvsAt w B es ∧ Below w0.heap.size w0 w) : EvsAt w B es := h.2.2.2.2.1
end
theorem all_take (A : Option Addr) (cap : Nat) (es : List Ev) (n : Nat) (w : World) (hE : EvsAt w A es) (hle : n ≤ es.length) (hn : es.length * 40 ≤ 140737488351232) (hf : ∀ e ∈ es, e.2.2.length * 16 ≤ 140737488351232) :
    Calls Tryd.prog 18 #[.slice A n cap] w fun e w' => ∃ A' cap', e = .returned (.slice A' n cap') ∧ n ≤ cap' ∧ cap' ≤ maxLen ∧ EvsAt w' A' (es.take n) ∧ Below w.heap.size w w' := by
  have h := evall_any A cap (es.take n) w (hE.take n) (by rw [take_length hle]; omega) (fun e he => hf e (List.mem_of_mem_take he))
  rw [take_length hle] at h
  exact h
theorem script_take (A C B : Option Addr) (cap capC capB : Nat) (ts : List ST) (ss : List ByteArray) (es : List Ev) (n : Nat) (w : World) (hT : TypesAt w A ts) (hS : SymsAt w C ss) (hE : EvsAt w B (es.take n)) (hle : n ≤ es.length) (b1 : ts.length * 40 ≤ 140737488351232) (b2 : ∀ t ∈ ts, t.2.length * 24 ≤ 140737488351232) (hc1 : ss.length ≤ capC) (hc2 : capC ≤ maxLen) (hn : es.length * 40 ≤ 140737488351232) (hf : ∀ e ∈ es, e.2.2.length * 16 ≤ 140737488351232) :
    Calls Tryd.prog 17 #[.agg #[.slice A ts.length cap, .slice C ss.length capC], .slice B n capB] w (Scr (OkE ts ss) (es.take n) w) := by
  have h := script_any A C B cap capC capB ts ss (es.take n) w hT hS hE b1 b2 hc1 hc2 (by rw [take_length hle]; omega) (fun e he => hf e (List.mem_of_mem_take he))
  rw [take_length hle] at h
  exact h
end Go.Proofs.YtbgjllpdbbolfabDoor
