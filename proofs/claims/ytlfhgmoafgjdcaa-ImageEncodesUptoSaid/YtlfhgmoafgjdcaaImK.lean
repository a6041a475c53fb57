/- A table that is handed in: how it lies, and what it carries (made by genImK.py). -/
import Derived.Test.YtlfhgmoafgjdcaaWrO
import Derived.Test.YtlfhgmoafgjdcaaImL
import Derived.Deep.Slices
namespace Go.Proofs.Ytlfhgmoafgjdcaa
open Go.ChangeShapes Go.WideShapes Go.ChangeAt Go.RowKit Go.Deep Go.Joins
set_option linter.unusedVariables false
set_option linter.unusedSimpArgs false
theorem cell_lt {w : World} {b o : Nat} {v : Value} (h : w.cell? ⟨b, o, none⟩ = some v) : b < w.heap.size := by
  apply Classical.byContradiction
  intro hn
  have hh : w.heap[b]? = none := Array.getElem?_eq_none (by omega)
  simp [World.cell?, hh] at h
theorem wf_L {X : Type} {f : X → List Itm} {xs : List X} (hl : xs.length ≤ 9223372036854775807) (h : ∀ x ∈ xs, ∀ i ∈ f x, wfI i) : ∀ i ∈ itL f xs, wfI i := fun i hi => by
  unfold itL at hi
  rcases List.mem_cons.1 hi with rfl | k
  · exact hl
  · obtain ⟨x, hx, hy⟩ := List.mem_flatMap.1 k
    exact h x hx i hy
theorem wf_app {a b : List Itm} (ha : ∀ i ∈ a, wfI i) (hb : ∀ i ∈ b, wfI i) : ∀ i ∈ a ++ b, wfI i := fun i hi => (List.mem_append.1 hi).elim (ha i) (hb i)
theorem wf_nil : ∀ i ∈ ([] : List Itm), wfI i := fun i hi => by cases hi
theorem wf_one {j : Itm} (h : wfI j) : ∀ i ∈ [j], wfI i := fun i hi => by simp at hi; exact hi ▸ h
theorem LField.mono {X : Type} {P P' : World → Nat → Nat → X → Prop} {size base base' : Nat} {w w1 : World} {b o : Nat} {xs : List X} (hb : Below base w w1) (hle : base ≤ base') (hbl : b < base) (hP : ∀ b o x, b < base → P w b o x → P' w1 b o x) (h : LField P size base w b o xs) : LField P' size base' w1 b o xs := by
  obtain ⟨A, c, h1, h2, h3⟩ := h
  refine ⟨A, c, cellB hb hbl h1, fun hl => ?_, h3⟩
  obtain ⟨b', off, k1, k2, k3⟩ := h2 hl
  exact ⟨b', off, k1, by omega, fun i x hi => hP _ _ _ k2 (k3 i x hi)⟩
theorem ListAt.mono {X : Type} {P P' : World → Nat → Nat → X → Prop} {size base base' : Nat} {w w1 : World} {A : Option Addr} {xs : List X} (hle : base ≤ base') (hP : ∀ b o x, b < base → P w b o x → P' w1 b o x) (h : ListAt P size base w A xs) : ListAt P' size base' w1 A xs := fun hl => by
  obtain ⟨b', off, k1, k2, k3⟩ := h hl
  exact ⟨b', off, k1, by omega, fun i x hi => hP _ _ _ k2 (k3 i x hi)⟩
theorem pInts.mono {w w1 : World} {base base' b o : Nat} {x : List Int} (hb : Below base w w1) (hle : base ≤ base') (hbl : b < base) (h : pInts base w b o x) : pInts base' w1 b o x := LField.mono hb hle hbl (fun _ _ _ hl h => pInt.belowB hb hl h) h
theorem pTail.mono {w w1 : World} {base base' b o : Nat} {x : TTail} (hb : Below base w w1) (hle : base ≤ base') (hbl : b < base) (h : pTail base w b o x) : pTail base' w1 b o x := by
  obtain ⟨h0, h1, h2⟩ := h
  exact ⟨cellB hb hbl h0, cellB hb hbl h1, LField.mono hb hle hbl (fun _ _ _ hl h => pStop.belowB hb hl h) h2⟩
theorem pRow.mono {w w1 : World} {base base' b o : Nat} {x : TRow} (hb : Below base w w1) (hle : base ≤ base') (hbl : b < base) (h : pRow base w b o x) : pRow base' w1 b o x := by
  obtain ⟨h0, h1, h2, h3, h4, h5, h6, h7⟩ := h
  exact ⟨cellB hb hbl h0, cellB hb hbl h1, cellB hb hbl h2, cellB hb hbl h3, LField.mono hb hle hbl (fun _ _ _ hl h => pStop.belowB hb hl h) h4, cellB hb hbl h5, cellB hb hbl h6, LField.mono hb hle hbl (fun _ _ _ hl h => pTail.mono hb hle hl h) h7⟩
theorem pCode.mono {w w1 : World} {base base' b o : Nat} {x : TCode} (hb : Below base w w1) (hle : base ≤ base') (hbl : b < base) (h : pCode base w b o x) : pCode base' w1 b o x := by
  obtain ⟨h0, h1, h2, h3, h4⟩ := h
  exact ⟨cellB hb hbl h0, cellB hb hbl h1, LField.mono hb hle hbl (fun _ _ _ hl h => pInput.belowB hb hl h) h2, LField.mono hb hle hbl (fun _ _ _ hl h => pValue.belowB hb hl h) h3, LField.mono hb hle hbl (fun _ _ _ hl h => pIns.belowB hb hl h) h4⟩
section
variable {H : Type} {enc : TypeId × Value → H} {w : World} {base : Nat} {spare : Nat → Bool} {held : Bool}
/-- a value of one cell that is handed in -/
def TR (enc : TypeId × Value → H) (w : World) (base : Nat) (spare : Nat → Bool) (held : Bool) (t : TypeId) (v : Value) : Prop := ∃ n y, DataW.trod enc Try.prog w base spare held n t [v] = some y
theorem tr_int {t : TypeId} {v : Value} (ht : Try.prog.underlying t = some (.int .i64)) (h : TR enc w base spare held t v) : ∃ z : Int, v = .int .i64 z ∧ wfI (.n z) := by
  obtain ⟨n, y, h⟩ := h
  obtain ⟨k, e0, _, hw⟩ := DataW.trod_int ht h
  simp at e0
  exact ⟨k, e0, wf_i64 hw⟩
theorem tr_u64 {t : TypeId} {v : Value} (ht : Try.prog.underlying t = some (.int .u64)) (h : TR enc w base spare held t v) : ∃ z : Nat, v = .int .u64 (z : Int) ∧ wfI (.b z) := by
  obtain ⟨n, y, h⟩ := h
  obtain ⟨k, e0, _, hw⟩ := DataW.trod_int ht h
  simp at e0
  obtain ⟨m, rfl, hn⟩ := wf_u64 hw
  exact ⟨m, e0, hn⟩
theorem tr_bool {t : TypeId} {v : Value} (ht : Try.prog.underlying t = some .bool) (h : TR enc w base spare held t v) : ∃ y : Bool, v = .bool y := by
  obtain ⟨n, y, h⟩ := h
  obtain ⟨k, e0, _⟩ := DataW.trod_bool ht h
  simp at e0
  exact ⟨k, e0⟩
/-- a list of structs -/
theorem tr_list {X : Type} {P : World → Nat → Nat → X → Prop} {W : X → Prop} {t e : TypeId} {fs : Array Field} {v : Value} (ht : Try.prog.underlying t = some (.slice e)) (he : Try.prog.underlying e = some (.struct fs)) (hone : oneCellFields Try.prog fs = true) (hC : Try.prog.cellsOf e = fs.size) (hpos : 0 < fs.size)
    (hel : ∀ b off, (∀ (j : Nat) (f : Field), fs[j]? = some f → ∃ v, w.cell? ⟨b, off + j, none⟩ = some v ∧ TR enc w base spare held f.type v) → ∃ x, P w b off x ∧ W x) (h : TR enc w base spare held t v) :
    ∃ A xs c, v = .slice A xs.length c ∧ ListAt P fs.size w.heap.size w A xs ∧ xs.length ≤ 9223372036854775807 ∧ ∀ x ∈ xs, W x := by
  obtain ⟨n, y, h⟩ := h
  rcases open_slice_fields ht he hone hC h with ⟨hcs, _⟩ | ⟨a, len, cap, m, D, Pl, hcs, _, hl, hm, hmm, hx, hcell⟩
  · simp at hcs
    subst hcs
    exact ⟨none, [], 0, rfl, fun hp => absurd hp (by simp), by simp, fun x hx => by cases hx⟩
  · simp at hcs
    subst hcs hx
    have hlm : len ≤ m := by rw [hmm]; split <;> omega
    have hml : len ≤ 9223372036854775807 := by unfold maxLen at hm; omega
    by_cases hp : 0 < len
    · obtain ⟨f0, hf0⟩ : ∃ f0, fs[0]? = some f0 := ⟨_, Array.getElem?_eq_getElem hpos⟩
      obtain ⟨ys, k, _, _, _, hf⟩ := hcell 0 (by omega)
      obtain ⟨v0, _, c0, _, _⟩ := hf 0 f0 hf0
      rw [Nat.zero_mul] at c0
      obtain ⟨b, off, rfl⟩ := spot_of c0
      rw [add_plain] at c0
      have hq : ∀ i, i < len → ∃ x, P w b (off + i * fs.size) x ∧ W x := fun i hi => hel b _ (fun j f hj => by
        obtain ⟨ys, k, _, _, _, hf⟩ := hcell i (by omega)
        obtain ⟨v1, y1, c1, _, t1⟩ := hf j f hj
        rw [add_plain] at c1
        exact ⟨v1, by rw [Nat.add_assoc]; exact c1, k, y1, t1⟩)
      obtain ⟨q, hq⟩ : ∃ q : Nat → X, ∀ i, i < len → P w b (off + i * fs.size) (q i) ∧ W (q i) := by
        obtain ⟨x0, _⟩ := hq 0 hp
        exact ⟨fun i => if hi : i < len then (hq i hi).choose else x0, fun i hi => by simp only [dif_pos hi]; exact (hq i hi).choose_spec⟩
      refine ⟨_, (List.range len).map q, cap, by simp, fun _ => ⟨b, off, rfl, cell_lt c0, fun i x hi => ?_⟩, by simpa using hml, fun x hx => ?_⟩
      · have hil : i < len := by have := (List.getElem?_eq_some_iff.1 hi).1; simpa using this
        rw [List.getElem?_map, List.getElem?_range hil] at hi
        simp at hi
        subst hi
        exact (hq i hil).1
      · obtain ⟨i, hi, rfl⟩ := List.mem_map.1 hx
        exact (hq i (List.mem_range.1 hi)).2
    · obtain rfl : len = 0 := by omega
      exact ⟨some a, [], cap, rfl, fun hp => absurd hp (by simp), by simp, fun x hx => by cases hx⟩
/-- a list of values of one cell -/
theorem tr_list1 {X : Type} {P : World → Nat → Nat → X → Prop} {W : X → Prop} {t e : TypeId} {v : Value} (ht : Try.prog.underlying t = some (.slice e)) (hc : Try.prog.cellsOf e = 1)
    (hel : ∀ b off v, w.cell? ⟨b, off, none⟩ = some v → TR enc w base spare held e v → ∃ x, P w b off x ∧ W x) (h : TR enc w base spare held t v) :
    ∃ A xs c, v = .slice A xs.length c ∧ ListAt P 1 w.heap.size w A xs ∧ xs.length ≤ 9223372036854775807 ∧ ∀ x ∈ xs, W x := by
  obtain ⟨n, y, h⟩ := h
  rcases open_slice1 ht hc h with ⟨hcs, _⟩ | ⟨a, len, cap, m, n1, V, D, Pl, hcs, _, hl, hm, hmm, hx, hcell⟩
  · simp at hcs
    subst hcs
    exact ⟨none, [], 0, rfl, fun hp => absurd hp (by simp), by simp, fun x hx => by cases hx⟩
  · simp at hcs
    subst hcs hx
    have hlm : len ≤ m := by rw [hmm]; split <;> omega
    have hml : len ≤ 9223372036854775807 := by unfold maxLen at hm; omega
    by_cases hp : 0 < len
    · have c0 := (hcell 0 (by omega)).1
      obtain ⟨b, off, rfl⟩ := spot_of c0
      rw [add_plain] at c0
      have hq : ∀ i, i < len → ∃ x, P w b (off + i * 1) x ∧ W x := fun i hi => by
        obtain ⟨c1, t1⟩ := hcell i (by omega)
        rw [add_plain] at c1
        exact hel b _ _ (by rw [Nat.mul_one]; exact c1) ⟨n1, _, t1⟩
      obtain ⟨q, hq⟩ : ∃ q : Nat → X, ∀ i, i < len → P w b (off + i * 1) (q i) ∧ W (q i) := by
        obtain ⟨x0, _⟩ := hq 0 hp
        exact ⟨fun i => if hi : i < len then (hq i hi).choose else x0, fun i hi => by simp only [dif_pos hi]; exact (hq i hi).choose_spec⟩
      refine ⟨_, (List.range len).map q, cap, by simp, fun _ => ⟨b, off, rfl, cell_lt c0, fun i x hi => ?_⟩, by simpa using hml, fun x hx => ?_⟩
      · have hil : i < len := by have := (List.getElem?_eq_some_iff.1 hi).1; simpa using this
        rw [List.getElem?_map, List.getElem?_range hil] at hi
        simp at hi
        subst hi
        exact (hq i hil).1
      · obtain ⟨i, hi, rfl⟩ := List.mem_map.1 hx
        exact (hq i (List.mem_range.1 hi)).2
    · obtain rfl : len = 0 := by omega
      exact ⟨some a, [], cap, rfl, fun hp => absurd hp (by simp), by simp, fun x hx => by cases hx⟩
/-- what is told of a value that is a list -/
def LIn {X : Type} (P : World → Nat → Nat → X → Prop) (size : Nat) (f : X → List Itm) (w : World) (v : Value) : Prop := ∃ A xs c, v = .slice A xs.length c ∧ ListAt P size w.heap.size w A xs ∧ xs.length ≤ 9223372036854775807 ∧ ∀ x ∈ xs, ∀ i ∈ f x, wfI i
theorem tr_Int {v : Value} (h : TR enc w base spare held 22 v) : LIn pInt 1 iInt w v :=
  tr_list1 Try.underlying22 (by kernel_rfl) (fun b off v hv ht => by
    obtain ⟨z, rfl, hz⟩ := tr_int Try.underlying3 ht
    exact ⟨z, hv, wf_one hz⟩) h
theorem tr_Ints {v : Value} (h : TR enc w base spare held 23 v) : LIn (pInts w.heap.size) 1 iInts w v :=
  tr_list1 Try.underlying23 (by kernel_rfl) (fun b off v hv ht => by
    obtain ⟨A, xs, c, rfl, h1, h2, h3⟩ := tr_Int ht
    exact ⟨xs, ⟨A, c, hv, h1, h2⟩, wf_L h2 h3⟩) h
theorem tr_Stop {v : Value} (h : TR enc w base spare held 50 v) : LIn pStop 2 iStop w v :=
  tr_list Try.underlying50 Try.underlying126 (by kernel_rfl) (by kernel_rfl) (by decide) (fun b off h => by
    obtain ⟨v0, c0, t0⟩ := h 0 _ rfl
    obtain ⟨v1, c1, t1⟩ := h 1 _ rfl
    obtain ⟨z0, rfl, w0⟩ := tr_int Try.underlying3 t0
    obtain ⟨z1, rfl, w1⟩ := tr_int Try.underlying3 t1
    exact ⟨(z0, z1), ⟨c0, c1⟩, wf_app (wf_one w0) (wf_app (wf_one w1) (wf_nil))⟩) h
theorem tr_Tail {v : Value} (h : TR enc w base spare held 51 v) : LIn (pTail w.heap.size) 3 iTail w v :=
  tr_list Try.underlying51 Try.underlying55 (by kernel_rfl) (by kernel_rfl) (by decide) (fun b off h => by
    obtain ⟨v0, c0, t0⟩ := h 0 _ rfl
    obtain ⟨v1, c1, t1⟩ := h 1 _ rfl
    obtain ⟨v2, c2, t2⟩ := h 2 _ rfl
    obtain ⟨z0, rfl, w0⟩ := tr_int Try.underlying3 t0
    obtain ⟨z1, rfl, w1⟩ := tr_int Try.underlying3 t1
    obtain ⟨A2, l2, n2, rfl, q2, g2, w2⟩ := tr_Stop t2
    exact ⟨(z0, z1, l2), ⟨c0, c1, ⟨A2, n2, c2, q2, g2⟩⟩, wf_app (wf_one w0) (wf_app (wf_one w1) (wf_app (wf_L g2 w2) (wf_nil)))⟩) h
theorem tr_Row {v : Value} (h : TR enc w base spare held 24 v) : LIn (pRow w.heap.size) 8 iRow w v :=
  tr_list Try.underlying24 Try.underlying53 (by kernel_rfl) (by kernel_rfl) (by decide) (fun b off h => by
    obtain ⟨v0, c0, t0⟩ := h 0 _ rfl
    obtain ⟨v1, c1, t1⟩ := h 1 _ rfl
    obtain ⟨v2, c2, t2⟩ := h 2 _ rfl
    obtain ⟨v3, c3, t3⟩ := h 3 _ rfl
    obtain ⟨v4, c4, t4⟩ := h 4 _ rfl
    obtain ⟨v5, c5, t5⟩ := h 5 _ rfl
    obtain ⟨v6, c6, t6⟩ := h 6 _ rfl
    obtain ⟨v7, c7, t7⟩ := h 7 _ rfl
    obtain ⟨z0, rfl, w0⟩ := tr_int Try.underlying3 t0
    obtain ⟨z1, rfl, w1⟩ := tr_int Try.underlying3 t1
    obtain ⟨z2, rfl⟩ := tr_bool Try.underlying4 t2
    obtain ⟨z3, rfl, w3⟩ := tr_int Try.underlying2 t3
    obtain ⟨A4, l4, n4, rfl, q4, g4, w4⟩ := tr_Stop t4
    obtain ⟨z5, rfl, w5⟩ := tr_int Try.underlying3 t5
    obtain ⟨z6, rfl, w6⟩ := tr_int Try.underlying3 t6
    obtain ⟨A7, l7, n7, rfl, q7, g7, w7⟩ := tr_Tail t7
    exact ⟨((z0, z1, z2, z3, l4), (z5, z6, l7)), ⟨c0, c1, c2, c3, ⟨A4, n4, c4, q4, g4⟩, c5, c6, ⟨A7, n7, c7, q7, g7⟩⟩, wf_app (wf_one w0) (wf_app (wf_one w1) (wf_app (wf_one trivial) (wf_app (wf_one w3) (wf_app (wf_L g4 w4) (wf_app (wf_one w5) (wf_app (wf_one w6) (wf_app (wf_L g7 w7) (wf_nil))))))))⟩) h
theorem tr_Input {v : Value} (h : TR enc w base spare held 43 v) : LIn pInput 4 iInput w v :=
  tr_list Try.underlying43 Try.underlying89 (by kernel_rfl) (by kernel_rfl) (by decide) (fun b off h => by
    obtain ⟨v0, c0, t0⟩ := h 0 _ rfl
    obtain ⟨v1, c1, t1⟩ := h 1 _ rfl
    obtain ⟨v2, c2, t2⟩ := h 2 _ rfl
    obtain ⟨v3, c3, t3⟩ := h 3 _ rfl
    obtain ⟨z0, rfl, w0⟩ := tr_int Try.underlying3 t0
    obtain ⟨z1, rfl, w1⟩ := tr_int Try.underlying3 t1
    obtain ⟨z2, rfl, w2⟩ := tr_int Try.underlying3 t2
    obtain ⟨z3, rfl, w3⟩ := tr_int Try.underlying3 t3
    exact ⟨(z0, z1, z2, z3), ⟨c0, c1, c2, c3⟩, wf_app (wf_one w0) (wf_app (wf_one w1) (wf_app (wf_one w2) (wf_app (wf_one w3) (wf_nil))))⟩) h
theorem tr_Value {v : Value} (h : TR enc w base spare held 44 v) : LIn pValue 2 iValue w v :=
  tr_list Try.underlying44 Try.underlying106 (by kernel_rfl) (by kernel_rfl) (by decide) (fun b off h => by
    obtain ⟨v0, c0, t0⟩ := h 0 _ rfl
    obtain ⟨v1, c1, t1⟩ := h 1 _ rfl
    obtain ⟨z0, rfl, w0⟩ := tr_int Try.underlying3 t0
    obtain ⟨z1, rfl, w1⟩ := tr_u64 Try.underlying104 t1
    exact ⟨(z0, z1), ⟨c0, c1⟩, wf_app (wf_one w0) (wf_app (wf_one w1) (wf_nil))⟩) h
theorem tr_Ins {v : Value} (h : TR enc w base spare held 45 v) : LIn pIns 4 iIns w v :=
  tr_list Try.underlying45 Try.underlying94 (by kernel_rfl) (by kernel_rfl) (by decide) (fun b off h => by
    obtain ⟨v0, c0, t0⟩ := h 0 _ rfl
    obtain ⟨v1, c1, t1⟩ := h 1 _ rfl
    obtain ⟨v2, c2, t2⟩ := h 2 _ rfl
    obtain ⟨v3, c3, t3⟩ := h 3 _ rfl
    obtain ⟨z0, rfl, w0⟩ := tr_int Try.underlying3 t0
    obtain ⟨z1, rfl, w1⟩ := tr_int Try.underlying3 t1
    obtain ⟨z2, rfl, w2⟩ := tr_int Try.underlying3 t2
    obtain ⟨z3, rfl, w3⟩ := tr_int Try.underlying3 t3
    exact ⟨(z0, z1, z2, z3), ⟨c0, c1, c2, c3⟩, wf_app (wf_one w0) (wf_app (wf_one w1) (wf_app (wf_one w2) (wf_app (wf_one w3) (wf_nil))))⟩) h
theorem tr_Code {v : Value} (h : TR enc w base spare held 25 v) : LIn (pCode w.heap.size) 5 iCode w v :=
  tr_list Try.underlying25 Try.underlying47 (by kernel_rfl) (by kernel_rfl) (by decide) (fun b off h => by
    obtain ⟨v0, c0, t0⟩ := h 0 _ rfl
    obtain ⟨v1, c1, t1⟩ := h 1 _ rfl
    obtain ⟨v2, c2, t2⟩ := h 2 _ rfl
    obtain ⟨v3, c3, t3⟩ := h 3 _ rfl
    obtain ⟨v4, c4, t4⟩ := h 4 _ rfl
    obtain ⟨z0, rfl, w0⟩ := tr_int Try.underlying3 t0
    obtain ⟨z1, rfl, w1⟩ := tr_int Try.underlying3 t1
    obtain ⟨A2, l2, n2, rfl, q2, g2, w2⟩ := tr_Input t2
    obtain ⟨A3, l3, n3, rfl, q3, g3, w3⟩ := tr_Value t3
    obtain ⟨A4, l4, n4, rfl, q4, g4, w4⟩ := tr_Ins t4
    exact ⟨(z0, z1, l2, l3, l4), ⟨c0, c1, ⟨A2, n2, c2, q2, g2⟩, ⟨A3, n3, c3, q3, g3⟩, ⟨A4, n4, c4, q4, g4⟩⟩, wf_app (wf_one w0) (wf_app (wf_one w1) (wf_app (wf_L g2 w2) (wf_app (wf_L g3 w3) (wf_app (wf_L g4 w4) (wf_nil)))))⟩) h
theorem tr_field {t : TypeId} {fs : Array Field} {cs : Array Value} {xs : List (DataW H × List MemPlace)} {n i : Nat} {f : Field} {u : Value} (hone : oneCellFields Try.prog fs = true) (hq : ∀ (i : Nat) (f : Field), fs[i]? = some f → DataW.trod enc Try.prog w base spare held n f.type (((Value.agg cs).cells.toList.drop f.offset).take (Try.prog.cellsOf f.type)) = xs[i]?) (hlen : xs.length = fs.size) (hi : fs[i]? = some f) (hu : cs[i]? = some u) (ht : f.type = t) : TR enc w base spare held t u := by
  have h := hq i f hi
  obtain ⟨h1, h2⟩ := hone_of hone i f hi
  rw [h1, h2] at h
  have hil : i < fs.size := (Array.getElem?_eq_some_iff.1 hi).1
  have hcs : ((Value.agg cs).cells.toList.drop i).take 1 = [u] := by
    have hul := (Array.getElem?_eq_some_iff.1 hu).1
    show (cs.toList.drop i).take 1 = [u]
    rw [List.drop_eq_getElem_cons (by simpa using hul)]
    have := (Array.getElem?_eq_some_iff.1 hu).2
    simp [this]
  rw [hcs, List.getElem?_eq_getElem (by omega)] at h
  exact ⟨n, _, ht ▸ h⟩
theorem array8 {α : Type} {cs : Array α} (h : cs.size = 8) : ∃ c0 c1 c2 c3 c4 c5 c6 c7, cs = #[c0, c1, c2, c3, c4, c5, c6, c7] := by
  obtain ⟨l⟩ := cs
  match l, h with
  | [c0, c1, c2, c3, c4, c5, c6, c7], _ => exact ⟨c0, c1, c2, c3, c4, c5, c6, c7, rfl⟩
/-- eight values that are a table, wherever they are laid -/
def TabIn (w : World) (z0 : Int) (A1 : Option Addr) (n1 c1 : Nat) (A2 : Option Addr) (n2 c2 : Nat) (z3 z4 z5 : Int) (A6 : Option Addr) (n6 c6 : Nat) (A7 : Option Addr) (n7 c7 : Nat) (x : TTable) : Prop :=
  (∀ u, Below w.heap.size w u → pTable (u.heap.size + 1) (u.alloc (.cells #[.int .i64 z0, .slice A1 n1 c1, .slice A2 n2 c2, .int .i64 z3, .int .i64 z4, .int .i64 z5, .slice A6 n6 c6, .slice A7 n7 c7] 27)) u.heap.size 0 x) ∧ ∀ i ∈ iTable x, wfI i
theorem TabIn.later {w w1 : World} {z0 : Int} {A1 : Option Addr} {n1 c1 : Nat} {A2 : Option Addr} {n2 c2 : Nat} {z3 z4 z5 : Int} {A6 : Option Addr} {n6 c6 : Nat} {A7 : Option Addr} {n7 c7 : Nat} {x : TTable} (h : TabIn w z0 A1 n1 c1 A2 n2 c2 z3 z4 z5 A6 n6 c6 A7 n7 c7 x) (hb : Below w.heap.size w w1) : TabIn w1 z0 A1 n1 c1 A2 n2 c2 z3 z4 z5 A6 n6 c6 A7 n7 c7 x := ⟨fun u hu => h.1 u (mmore hb hu), h.2⟩
set_option maxRecDepth 100000 in
theorem open_table {r : Reach} {b0 : Nat} {v : Value} {d : DataW H} {p : List MemPlace} (hv : Value.okWide Try.prog w r b0 27 v) (h : DataW.Trod enc Try.prog w base spare held 27 v d p) :
    ∃ z0 A1 n1 c1 A2 n2 c2 z3 z4 z5 A6 n6 c6 A7 n7 c7 x, v = .agg #[.int .i64 z0, .slice A1 n1 c1, .slice A2 n2 c2, .int .i64 z3, .int .i64 z4, .int .i64 z5, .slice A6 n6 c6, .slice A7 n7 c7] ∧ TabIn w z0 A1 n1 c1 A2 n2 c2 z3 z4 z5 A6 n6 c6 A7 n7 c7 x := by
  obtain ⟨cs, rfl, hsz⟩ := okWide_struct Try.underlying27 hv
  obtain ⟨u0, u1, u2, u3, u4, u5, u6, u7, rfl⟩ := array8 (hsz.trans (by kernel_rfl))
  obtain ⟨fuel, hf⟩ := h
  obtain ⟨xs, n, _, hx, hl, hlen, hq⟩ := DataW.trod_struct Try.underlying27 hf
  have hone : oneCellFields Try.prog _ = true := (by kernel_rfl : oneCellFields Try.prog (match Try.prog.underlying 27 with | some (.struct fs) => fs | _ => #[]) = true)
  have t0 : TR enc w base spare held 3 u0 := tr_field hone hq hlen (i := 0) rfl rfl rfl
  have t1 : TR enc w base spare held 22 u1 := tr_field hone hq hlen (i := 1) rfl rfl rfl
  have t2 : TR enc w base spare held 23 u2 := tr_field hone hq hlen (i := 2) rfl rfl rfl
  have t3 : TR enc w base spare held 3 u3 := tr_field hone hq hlen (i := 3) rfl rfl rfl
  have t4 : TR enc w base spare held 3 u4 := tr_field hone hq hlen (i := 4) rfl rfl rfl
  have t5 : TR enc w base spare held 3 u5 := tr_field hone hq hlen (i := 5) rfl rfl rfl
  have t6 : TR enc w base spare held 24 u6 := tr_field hone hq hlen (i := 6) rfl rfl rfl
  have t7 : TR enc w base spare held 25 u7 := tr_field hone hq hlen (i := 7) rfl rfl rfl
  obtain ⟨z0, rfl, w0⟩ := tr_int Try.underlying3 t0
  obtain ⟨A1, l1, c1, rfl, q1, g1, w1⟩ := tr_Int t1
  obtain ⟨A2, l2, c2, rfl, q2, g2, w2⟩ := tr_Ints t2
  obtain ⟨z3, rfl, w3⟩ := tr_int Try.underlying3 t3
  obtain ⟨z4, rfl, w4⟩ := tr_int Try.underlying3 t4
  obtain ⟨z5, rfl, w5⟩ := tr_int Try.underlying3 t5
  obtain ⟨A6, l6, c6, rfl, q6, g6, w6⟩ := tr_Row t6
  obtain ⟨A7, l7, c7, rfl, q7, g7, w7⟩ := tr_Code t7
  refine ⟨z0, A1, l1.length, c1, A2, l2.length, c2, z3, z4, z5, A6, l6.length, c6, A7, l7.length, c7, ((z0, l1, l2, z3, z4, z5), (l6, l7)), rfl, fun u hu => ?_, wf_app (wf_one w0) (wf_app (wf_L g1 w1) (wf_app (wf_L g2 w2) (wf_app (wf_one w3) (wf_app (wf_one w4) (wf_app (wf_one w5) (wf_app (wf_L g6 w6) (wf_app (wf_L g7 w7) (wf_nil))))))))⟩
  have hb := mmore hu (m1 u (.cells #[.int .i64 z0, .slice A1 l1.length c1, .slice A2 l2.length c2, .int .i64 z3, .int .i64 z4, .int .i64 z5, .slice A6 l6.length c6, .slice A7 l7.length c7] 27))
  have hB := Blk.made u 27 #[.int .i64 z0, .slice A1 l1.length c1, .slice A2 l2.length c2, .int .i64 z3, .int .i64 z4, .int .i64 z5, .slice A6 l6.length c6, .slice A7 l7.length c7]
  have hle : w.heap.size ≤ u.heap.size + 1 := by have := hu.size; omega
  exact ⟨hB.cell 0, ⟨A1, c1, hB.cell 1, q1.mono hle (fun _ _ _ hl h => pInt.belowB hb hl h), g1⟩, ⟨A2, c2, hB.cell 2, q2.mono hle (fun _ _ _ hl h => pInts.mono hb hle hl h), g2⟩, hB.cell 3, hB.cell 4, hB.cell 5, ⟨A6, c6, hB.cell 6, q6.mono hle (fun _ _ _ hl h => pRow.mono hb hle hl h), g6⟩, ⟨A7, c7, hB.cell 7, q7.mono hle (fun _ _ _ hl h => pCode.mono hb hle hl h), g7⟩⟩
end
end Go.Proofs.Ytlfhgmoafgjdcaa
