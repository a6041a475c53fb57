/- A table that is handed in, with the bound of its bulk: it has no more items than that (made by genImKu.py). -/
import Derived.Test.YtlfhgmoafgjdcaaImK
import Derived.Test.YtlfhgmoafgjdcaaRows
namespace Go.Proofs.Ytlfhgmoafgjdcaa
open Go.ChangeShapes Go.WideShapes Go.ChangeAt Go.RowKit Go.Deep Go.Joins
set_option linter.unusedVariables false
set_option linter.unusedSimpArgs false
theorem bulk_pos {H : Type} (d : DataW H) : 1 ≤ Rows.uptoBulk d := by
  unfold Rows.uptoBulk
  split <;> omega
theorem bulk_flatI {H X : Type} {f : X → List Itm} {q : Nat → X} {D : Nat → DataW H} : ∀ l : List Nat, (∀ r ∈ l, (f (q r)).length ≤ Rows.uptoBulk (D r)) → ((l.map q).flatMap f).length ≤ Rows.uptoBulkAll (l.map D)
  | [], _ => Nat.le_refl _
  | x :: l, h => by
    have ih := bulk_flatI l (fun r hr => h r (List.mem_cons_of_mem _ hr))
    have hx := h x (List.mem_cons_self ..)
    rw [List.map_cons, List.map_cons, List.flatMap_cons, List.length_append, Rows.uptoBulkAll]
    omega
theorem itL_length {X : Type} (f : X → List Itm) (xs : List X) : (itL f xs).length = (xs.flatMap f).length + 1 := rfl
/-- eight values that are a table whose lists lie below base -/
structure TabRaw (base : Nat) (w : World) (z0 : Int) (A1 : Option Addr) (n1 : Nat) (A2 : Option Addr) (n2 : Nat) (z3 z4 z5 : Int) (A6 : Option Addr) (n6 : Nat) (A7 : Option Addr) (n7 : Nat) (x : TTable) : Prop where
  num : x.1.1 = z0 ∧ x.1.2.2.2.1 = z3 ∧ x.1.2.2.2.2.1 = z4 ∧ x.1.2.2.2.2.2 = z5
  len : x.1.2.1.length = n1 ∧ x.1.2.2.1.length = n2 ∧ x.2.1.length = n6 ∧ x.2.2.length = n7
  q1 : ListAt pInt 1 base w A1 x.1.2.1
  q2 : ListAt (pInts base) 1 base w A2 x.1.2.2.1
  q6 : ListAt (pRow base) 8 base w A6 x.2.1
  q7 : ListAt (pCode base) 5 base w A7 x.2.2
theorem TabRaw.later {base base' : Nat} {w w1 : World} {z0 : Int} {A1 : Option Addr} {n1 : Nat} {A2 : Option Addr} {n2 : Nat} {z3 z4 z5 : Int} {A6 : Option Addr} {n6 : Nat} {A7 : Option Addr} {n7 : Nat} {x : TTable} (h : TabRaw base w z0 A1 n1 A2 n2 z3 z4 z5 A6 n6 A7 n7 x) (hb : Below base w w1) (hle : base ≤ base') : TabRaw base' w1 z0 A1 n1 A2 n2 z3 z4 z5 A6 n6 A7 n7 x :=
  ⟨h.num, h.len, h.q1.mono hle (fun _ _ _ hl h => pInt.belowB hb hl h), h.q2.mono hle (fun _ _ _ hl h => pInts.mono hb hle hl h), h.q6.mono hle (fun _ _ _ hl h => pRow.mono hb hle hl h), h.q7.mono hle (fun _ _ _ hl h => pCode.mono hb hle hl h)⟩
theorem TabRaw.tab {base : Nat} {w : World} {z0 : Int} {A1 : Option Addr} {n1 : Nat} {A2 : Option Addr} {n2 : Nat} {z3 z4 z5 : Int} {A6 : Option Addr} {n6 : Nat} {A7 : Option Addr} {n7 : Nat} {x : TTable} (h : TabRaw base w z0 A1 n1 A2 n2 z3 z4 z5 A6 n6 A7 n7 x) (hbs : base ≤ w.heap.size) (hg : n1 ≤ 9223372036854775807 ∧ n2 ≤ 9223372036854775807 ∧ n6 ≤ 9223372036854775807 ∧ n7 ≤ 9223372036854775807) (c1 c2 c6 c7 : Nat) (u : World) (hu : Below w.heap.size w u) :
    pTable (u.heap.size + 1) (u.alloc (.cells #[.int .i64 z0, .slice A1 n1 c1, .slice A2 n2 c2, .int .i64 z3, .int .i64 z4, .int .i64 z5, .slice A6 n6 c6, .slice A7 n7 c7] 27)) u.heap.size 0 x := by
  have hb := (mmore hu (m1 u (.cells #[.int .i64 z0, .slice A1 n1 c1, .slice A2 n2 c2, .int .i64 z3, .int .i64 z4, .int .i64 z5, .slice A6 n6 c6, .slice A7 n7 c7] 27))).mono hbs
  have hB := Blk.made u 27 #[.int .i64 z0, .slice A1 n1 c1, .slice A2 n2 c2, .int .i64 z3, .int .i64 z4, .int .i64 z5, .slice A6 n6 c6, .slice A7 n7 c7]
  have hle : base ≤ u.heap.size + 1 := by have := hu.size; omega
  have k := h.later hb hle
  obtain ⟨⟨e0, e3, e4, e5⟩, ⟨l1, l2, l6, l7⟩, q1, q2, q6, q7⟩ := k
  subst e0 e3 e4 e5 l1 l2 l6 l7
  obtain ⟨g1, g2, g6, g7⟩ := hg
  exact ⟨hB.cell 0, ⟨A1, c1, hB.cell 1, q1, g1⟩, ⟨A2, c2, hB.cell 2, q2, g2⟩, hB.cell 3, hB.cell 4, hB.cell 5, ⟨A6, c6, hB.cell 6, q6, g6⟩, ⟨A7, c7, hB.cell 7, q7, g7⟩⟩
section
variable {H : Type} {enc : TypeId × Value → H} {w : World} {base : Nat} {spare : Nat → Bool} {held : Bool}
/-- a value of one cell that is handed in, and its reading -/
def TRd (enc : TypeId × Value → H) (w : World) (base : Nat) (spare : Nat → Bool) (held : Bool) (t : TypeId) (v : Value) (d : DataW H) : Prop := ∃ n p, DataW.trod enc Try.prog w base spare held n t [v] = some (d, p)
theorem TRd.tr {t : TypeId} {v : Value} {d : DataW H} (h : TRd enc w base spare held t v d) : TR enc w base spare held t v := by
  obtain ⟨n, p, h⟩ := h
  exact ⟨n, _, h⟩
/-- what is told of a value that is a list -/
def LInU {X : Type} (P : World → Nat → Nat → X → Prop) (size : Nat) (f : X → List Itm) (w : World) (v : Value) (d : DataW H) : Prop := ∃ A xs c, v = .slice A xs.length c ∧ ListAt P size w.heap.size w A xs ∧ xs.length ≤ 9223372036854775807 ∧ (∀ x ∈ xs, ∀ i ∈ f x, wfI i) ∧ (itL f xs).length ≤ Rows.uptoBulk d
/-- a list of structs -/
theorem tru_list {X : Type} {P : World → Nat → Nat → X → Prop} {F : X → List Itm} {t e : TypeId} {fs : Array Field} {v : Value} {d : DataW H} (ht : Try.prog.underlying t = some (.slice e)) (he : Try.prog.underlying e = some (.struct fs)) (hone : oneCellFields Try.prog fs = true) (hC : Try.prog.cellsOf e = fs.size) (hpos : 0 < fs.size)
    (hel : ∀ b off (ds : List (DataW H)), ds.length = fs.size → (∀ (j : Nat) (f : Field), fs[j]? = some f → ∃ v d, w.cell? ⟨b, off + j, none⟩ = some v ∧ ds[j]? = some d ∧ TRd enc w base spare held f.type v d) → ∃ x, P w b off x ∧ (∀ i ∈ F x, wfI i) ∧ (F x).length ≤ Rows.uptoBulkAll ds) (h : TRd enc w base spare held t v d) :
    LInU P fs.size F w v d := by
  obtain ⟨n, y, h⟩ := h
  rcases open_slice_fields ht he hone hC h with ⟨hcs, _⟩ | ⟨a, len, cap, m, D, Pl, hcs, _, hl, hm, hmm, hx, hcell⟩
  · simp at hcs
    subst hcs
    exact ⟨none, [], 0, rfl, fun hp => absurd hp (by simp), by simp, (fun x hx => by cases hx), bulk_pos _⟩
  · simp at hcs
    subst hcs
    simp only [Prod.mk.injEq] at hx
    obtain ⟨rfl, _⟩ := hx
    have hlm : len ≤ m := by rw [hmm]; split <;> omega
    have hml : len ≤ 9223372036854775807 := by unfold maxLen at hm; omega
    by_cases hp : 0 < len
    · obtain ⟨f0, hf0⟩ : ∃ f0, fs[0]? = some f0 := ⟨_, Array.getElem?_eq_getElem hpos⟩
      obtain ⟨ys, k, _, _, _, hf⟩ := hcell 0 (by omega)
      obtain ⟨v0, _, c0, _, _⟩ := hf 0 f0 hf0
      rw [Nat.zero_mul] at c0
      obtain ⟨b, off, rfl⟩ := spot_of c0
      rw [add_plain] at c0
      have hq : ∀ i, i < len → ∃ x, P w b (off + i * fs.size) x ∧ (∀ j ∈ F x, wfI j) ∧ (F x).length ≤ Rows.uptoBulk (D i) := fun i hi => by
        obtain ⟨ys, k, hD, _, hyl, hf⟩ := hcell i (by omega)
        obtain ⟨x, h1, h2, h3⟩ := hel b (off + i * fs.size) (ys.map (·.1)) (by simp [hyl]) (fun j f hj => by
          obtain ⟨v1, y1, c1, hy1, t1⟩ := hf j f hj
          rw [add_plain] at c1
          exact ⟨v1, y1.1, by rw [Nat.add_assoc]; exact c1, by rw [List.getElem?_map, hy1]; rfl, k, y1.2, t1⟩)
        refine ⟨x, h1, h2, ?_⟩
        rw [hD, Rows.uptoBulk]
        omega
      obtain ⟨q, hq⟩ : ∃ q : Nat → X, ∀ i, i < len → P w b (off + i * fs.size) (q i) ∧ (∀ j ∈ F (q i), wfI j) ∧ (F (q i)).length ≤ Rows.uptoBulk (D i) := by
        obtain ⟨x0, _⟩ := hq 0 hp
        exact ⟨fun i => if hi : i < len then (hq i hi).choose else x0, fun i hi => by simp only [dif_pos hi]; exact (hq i hi).choose_spec⟩
      refine ⟨_, (List.range len).map q, cap, by simp, fun _ => ⟨b, off, rfl, cell_lt c0, fun i x hi => ?_⟩, by simpa using hml, fun x hx => ?_, ?_⟩
      · have hil : i < len := by have := (List.getElem?_eq_some_iff.1 hi).1; simpa using this
        rw [List.getElem?_map, List.getElem?_range hil] at hi
        simp at hi
        subst hi
        exact (hq i hil).1
      · obtain ⟨i, hi, rfl⟩ := List.mem_map.1 hx
        exact (hq i (List.mem_range.1 hi)).2.1
      · have := bulk_flatI (f := F) (q := q) (D := D) (List.range len) (fun r hr => (hq r (List.mem_range.1 hr)).2.2)
        rw [itL_length, Rows.uptoBulk]
        omega
    · obtain rfl : len = 0 := by omega
      exact ⟨some a, [], cap, rfl, fun hp => absurd hp (by simp), by simp, (fun x hx => by cases hx), bulk_pos _⟩
/-- a list of values of one cell -/
theorem tru_list1 {X : Type} {P : World → Nat → Nat → X → Prop} {F : X → List Itm} {t e : TypeId} {v : Value} {d : DataW H} (ht : Try.prog.underlying t = some (.slice e)) (hc : Try.prog.cellsOf e = 1)
    (hel : ∀ b off v (d : DataW H), w.cell? ⟨b, off, none⟩ = some v → TRd enc w base spare held e v d → ∃ x, P w b off x ∧ (∀ i ∈ F x, wfI i) ∧ (F x).length ≤ Rows.uptoBulk d) (h : TRd enc w base spare held t v d) :
    LInU P 1 F w v d := by
  obtain ⟨n, y, h⟩ := h
  rcases open_slice1 ht hc h with ⟨hcs, _⟩ | ⟨a, len, cap, m, n1, V, D, Pl, hcs, _, hl, hm, hmm, hx, hcell⟩
  · simp at hcs
    subst hcs
    exact ⟨none, [], 0, rfl, fun hp => absurd hp (by simp), by simp, (fun x hx => by cases hx), bulk_pos _⟩
  · simp at hcs
    subst hcs
    simp only [Prod.mk.injEq] at hx
    obtain ⟨rfl, _⟩ := hx
    have hlm : len ≤ m := by rw [hmm]; split <;> omega
    have hml : len ≤ 9223372036854775807 := by unfold maxLen at hm; omega
    by_cases hp : 0 < len
    · have c0 := (hcell 0 (by omega)).1
      obtain ⟨b, off, rfl⟩ := spot_of c0
      rw [add_plain] at c0
      have hq : ∀ i, i < len → ∃ x, P w b (off + i * 1) x ∧ (∀ j ∈ F x, wfI j) ∧ (F x).length ≤ Rows.uptoBulk (D i) := fun i hi => by
        obtain ⟨c1, t1⟩ := hcell i (by omega)
        rw [add_plain] at c1
        exact hel b _ _ _ (by rw [Nat.mul_one]; exact c1) ⟨n1, _, t1⟩
      obtain ⟨q, hq⟩ : ∃ q : Nat → X, ∀ i, i < len → P w b (off + i * 1) (q i) ∧ (∀ j ∈ F (q i), wfI j) ∧ (F (q i)).length ≤ Rows.uptoBulk (D i) := by
        obtain ⟨x0, _⟩ := hq 0 hp
        exact ⟨fun i => if hi : i < len then (hq i hi).choose else x0, fun i hi => by simp only [dif_pos hi]; exact (hq i hi).choose_spec⟩
      refine ⟨_, (List.range len).map q, cap, by simp, fun _ => ⟨b, off, rfl, cell_lt c0, fun i x hi => ?_⟩, by simpa using hml, fun x hx => ?_, ?_⟩
      · have hil : i < len := by have := (List.getElem?_eq_some_iff.1 hi).1; simpa using this
        rw [List.getElem?_map, List.getElem?_range hil] at hi
        simp at hi
        subst hi
        exact (hq i hil).1
      · obtain ⟨i, hi, rfl⟩ := List.mem_map.1 hx
        exact (hq i (List.mem_range.1 hi)).2.1
      · have := bulk_flatI (f := F) (q := q) (D := D) (List.range len) (fun r hr => (hq r (List.mem_range.1 hr)).2.2)
        rw [itL_length, Rows.uptoBulk]
        omega
    · obtain rfl : len = 0 := by omega
      exact ⟨some a, [], cap, rfl, fun hp => absurd hp (by simp), by simp, (fun x hx => by cases hx), bulk_pos _⟩
theorem tru_Int {v : Value} {d : DataW H} (h : TRd enc w base spare held 22 v d) : LInU pInt 1 iInt w v d :=
  tru_list1 Try.underlying22 (by kernel_rfl) (fun b off v d hv ht => by
    obtain ⟨z, rfl, hz⟩ := tr_int Try.underlying3 ht.tr
    exact ⟨z, hv, wf_one hz, bulk_pos d⟩) h
theorem tru_Ints {v : Value} {d : DataW H} (h : TRd enc w base spare held 23 v d) : LInU (pInts w.heap.size) 1 iInts w v d :=
  tru_list1 Try.underlying23 (by kernel_rfl) (fun b off v d hv ht => by
    obtain ⟨A, xs, c, rfl, h1, h2, h3, h4⟩ := tru_Int ht
    exact ⟨xs, ⟨A, c, hv, h1, h2⟩, wf_L h2 h3, h4⟩) h
theorem tru_Stop {v : Value} {d : DataW H} (h : TRd enc w base spare held 50 v d) : LInU pStop 2 iStop w v d :=
  tru_list Try.underlying50 Try.underlying126 (by kernel_rfl) (by kernel_rfl) (by decide) (fun b off ds hds h => by
    match ds, hds with
    | [e0, e1], _ =>
    obtain ⟨v0, d0, c0, s0, t0⟩ := h 0 _ rfl
    obtain ⟨v1, d1, c1, s1, t1⟩ := h 1 _ rfl
    simp only [List.getElem?_cons_zero, List.getElem?_cons_succ, Option.some.injEq] at s0 s1
    subst s0 s1
    obtain ⟨z0, rfl, w0⟩ := tr_int Try.underlying3 t0.tr
    obtain ⟨z1, rfl, w1⟩ := tr_int Try.underlying3 t1.tr
    refine ⟨(z0, z1), ⟨c0, c1⟩, wf_app (wf_one w0) (wf_app (wf_one w1) (wf_nil)), ?_⟩
    have p0 := bulk_pos e0
    have p1 := bulk_pos e1
    simp only [iStop, List.length_append, List.length_cons, List.length_nil, Rows.uptoBulkAll]
    omega) h
theorem tru_Tail {v : Value} {d : DataW H} (h : TRd enc w base spare held 51 v d) : LInU (pTail w.heap.size) 3 iTail w v d :=
  tru_list Try.underlying51 Try.underlying55 (by kernel_rfl) (by kernel_rfl) (by decide) (fun b off ds hds h => by
    match ds, hds with
    | [e0, e1, e2], _ =>
    obtain ⟨v0, d0, c0, s0, t0⟩ := h 0 _ rfl
    obtain ⟨v1, d1, c1, s1, t1⟩ := h 1 _ rfl
    obtain ⟨v2, d2, c2, s2, t2⟩ := h 2 _ rfl
    simp only [List.getElem?_cons_zero, List.getElem?_cons_succ, Option.some.injEq] at s0 s1 s2
    subst s0 s1 s2
    obtain ⟨z0, rfl, w0⟩ := tr_int Try.underlying3 t0.tr
    obtain ⟨z1, rfl, w1⟩ := tr_int Try.underlying3 t1.tr
    obtain ⟨A2, l2, n2, rfl, q2, g2, w2, k2⟩ := tru_Stop t2
    refine ⟨(z0, z1, l2), ⟨c0, c1, ⟨A2, n2, c2, q2, g2⟩⟩, wf_app (wf_one w0) (wf_app (wf_one w1) (wf_app (wf_L g2 w2) (wf_nil))), ?_⟩
    have p0 := bulk_pos e0
    have p1 := bulk_pos e1
    simp only [iTail, List.length_append, List.length_cons, List.length_nil, Rows.uptoBulkAll]
    omega) h
theorem tru_Row {v : Value} {d : DataW H} (h : TRd enc w base spare held 24 v d) : LInU (pRow w.heap.size) 8 iRow w v d :=
  tru_list Try.underlying24 Try.underlying53 (by kernel_rfl) (by kernel_rfl) (by decide) (fun b off ds hds h => by
    match ds, hds with
    | [e0, e1, e2, e3, e4, e5, e6, e7], _ =>
    obtain ⟨v0, d0, c0, s0, t0⟩ := h 0 _ rfl
    obtain ⟨v1, d1, c1, s1, t1⟩ := h 1 _ rfl
    obtain ⟨v2, d2, c2, s2, t2⟩ := h 2 _ rfl
    obtain ⟨v3, d3, c3, s3, t3⟩ := h 3 _ rfl
    obtain ⟨v4, d4, c4, s4, t4⟩ := h 4 _ rfl
    obtain ⟨v5, d5, c5, s5, t5⟩ := h 5 _ rfl
    obtain ⟨v6, d6, c6, s6, t6⟩ := h 6 _ rfl
    obtain ⟨v7, d7, c7, s7, t7⟩ := h 7 _ rfl
    simp only [List.getElem?_cons_zero, List.getElem?_cons_succ, Option.some.injEq] at s0 s1 s2 s3 s4 s5 s6 s7
    subst s0 s1 s2 s3 s4 s5 s6 s7
    obtain ⟨z0, rfl, w0⟩ := tr_int Try.underlying3 t0.tr
    obtain ⟨z1, rfl, w1⟩ := tr_int Try.underlying3 t1.tr
    obtain ⟨z2, rfl⟩ := tr_bool Try.underlying4 t2.tr
    obtain ⟨z3, rfl, w3⟩ := tr_int Try.underlying2 t3.tr
    obtain ⟨A4, l4, n4, rfl, q4, g4, w4, k4⟩ := tru_Stop t4
    obtain ⟨z5, rfl, w5⟩ := tr_int Try.underlying3 t5.tr
    obtain ⟨z6, rfl, w6⟩ := tr_int Try.underlying3 t6.tr
    obtain ⟨A7, l7, n7, rfl, q7, g7, w7, k7⟩ := tru_Tail t7
    refine ⟨((z0, z1, z2, z3, l4), (z5, z6, l7)), ⟨c0, c1, c2, c3, ⟨A4, n4, c4, q4, g4⟩, c5, c6, ⟨A7, n7, c7, q7, g7⟩⟩, wf_app (wf_one w0) (wf_app (wf_one w1) (wf_app (wf_one trivial) (wf_app (wf_one w3) (wf_app (wf_L g4 w4) (wf_app (wf_one w5) (wf_app (wf_one w6) (wf_app (wf_L g7 w7) (wf_nil)))))))), ?_⟩
    have p0 := bulk_pos e0
    have p1 := bulk_pos e1
    have p2 := bulk_pos e2
    have p3 := bulk_pos e3
    have p5 := bulk_pos e5
    have p6 := bulk_pos e6
    simp only [iRow, List.length_append, List.length_cons, List.length_nil, Rows.uptoBulkAll]
    omega) h
theorem tru_Input {v : Value} {d : DataW H} (h : TRd enc w base spare held 43 v d) : LInU pInput 4 iInput w v d :=
  tru_list Try.underlying43 Try.underlying89 (by kernel_rfl) (by kernel_rfl) (by decide) (fun b off ds hds h => by
    match ds, hds with
    | [e0, e1, e2, e3], _ =>
    obtain ⟨v0, d0, c0, s0, t0⟩ := h 0 _ rfl
    obtain ⟨v1, d1, c1, s1, t1⟩ := h 1 _ rfl
    obtain ⟨v2, d2, c2, s2, t2⟩ := h 2 _ rfl
    obtain ⟨v3, d3, c3, s3, t3⟩ := h 3 _ rfl
    simp only [List.getElem?_cons_zero, List.getElem?_cons_succ, Option.some.injEq] at s0 s1 s2 s3
    subst s0 s1 s2 s3
    obtain ⟨z0, rfl, w0⟩ := tr_int Try.underlying3 t0.tr
    obtain ⟨z1, rfl, w1⟩ := tr_int Try.underlying3 t1.tr
    obtain ⟨z2, rfl, w2⟩ := tr_int Try.underlying3 t2.tr
    obtain ⟨z3, rfl, w3⟩ := tr_int Try.underlying3 t3.tr
    refine ⟨(z0, z1, z2, z3), ⟨c0, c1, c2, c3⟩, wf_app (wf_one w0) (wf_app (wf_one w1) (wf_app (wf_one w2) (wf_app (wf_one w3) (wf_nil)))), ?_⟩
    have p0 := bulk_pos e0
    have p1 := bulk_pos e1
    have p2 := bulk_pos e2
    have p3 := bulk_pos e3
    simp only [iInput, List.length_append, List.length_cons, List.length_nil, Rows.uptoBulkAll]
    omega) h
theorem tru_Value {v : Value} {d : DataW H} (h : TRd enc w base spare held 44 v d) : LInU pValue 2 iValue w v d :=
  tru_list Try.underlying44 Try.underlying106 (by kernel_rfl) (by kernel_rfl) (by decide) (fun b off ds hds h => by
    match ds, hds with
    | [e0, e1], _ =>
    obtain ⟨v0, d0, c0, s0, t0⟩ := h 0 _ rfl
    obtain ⟨v1, d1, c1, s1, t1⟩ := h 1 _ rfl
    simp only [List.getElem?_cons_zero, List.getElem?_cons_succ, Option.some.injEq] at s0 s1
    subst s0 s1
    obtain ⟨z0, rfl, w0⟩ := tr_int Try.underlying3 t0.tr
    obtain ⟨z1, rfl, w1⟩ := tr_u64 Try.underlying104 t1.tr
    refine ⟨(z0, z1), ⟨c0, c1⟩, wf_app (wf_one w0) (wf_app (wf_one w1) (wf_nil)), ?_⟩
    have p0 := bulk_pos e0
    have p1 := bulk_pos e1
    simp only [iValue, List.length_append, List.length_cons, List.length_nil, Rows.uptoBulkAll]
    omega) h
theorem tru_Ins {v : Value} {d : DataW H} (h : TRd enc w base spare held 45 v d) : LInU pIns 4 iIns w v d :=
  tru_list Try.underlying45 Try.underlying94 (by kernel_rfl) (by kernel_rfl) (by decide) (fun b off ds hds h => by
    match ds, hds with
    | [e0, e1, e2, e3], _ =>
    obtain ⟨v0, d0, c0, s0, t0⟩ := h 0 _ rfl
    obtain ⟨v1, d1, c1, s1, t1⟩ := h 1 _ rfl
    obtain ⟨v2, d2, c2, s2, t2⟩ := h 2 _ rfl
    obtain ⟨v3, d3, c3, s3, t3⟩ := h 3 _ rfl
    simp only [List.getElem?_cons_zero, List.getElem?_cons_succ, Option.some.injEq] at s0 s1 s2 s3
    subst s0 s1 s2 s3
    obtain ⟨z0, rfl, w0⟩ := tr_int Try.underlying3 t0.tr
    obtain ⟨z1, rfl, w1⟩ := tr_int Try.underlying3 t1.tr
    obtain ⟨z2, rfl, w2⟩ := tr_int Try.underlying3 t2.tr
    obtain ⟨z3, rfl, w3⟩ := tr_int Try.underlying3 t3.tr
    refine ⟨(z0, z1, z2, z3), ⟨c0, c1, c2, c3⟩, wf_app (wf_one w0) (wf_app (wf_one w1) (wf_app (wf_one w2) (wf_app (wf_one w3) (wf_nil)))), ?_⟩
    have p0 := bulk_pos e0
    have p1 := bulk_pos e1
    have p2 := bulk_pos e2
    have p3 := bulk_pos e3
    simp only [iIns, List.length_append, List.length_cons, List.length_nil, Rows.uptoBulkAll]
    omega) h
theorem tru_Code {v : Value} {d : DataW H} (h : TRd enc w base spare held 25 v d) : LInU (pCode w.heap.size) 5 iCode w v d :=
  tru_list Try.underlying25 Try.underlying47 (by kernel_rfl) (by kernel_rfl) (by decide) (fun b off ds hds h => by
    match ds, hds with
    | [e0, e1, e2, e3, e4], _ =>
    obtain ⟨v0, d0, c0, s0, t0⟩ := h 0 _ rfl
    obtain ⟨v1, d1, c1, s1, t1⟩ := h 1 _ rfl
    obtain ⟨v2, d2, c2, s2, t2⟩ := h 2 _ rfl
    obtain ⟨v3, d3, c3, s3, t3⟩ := h 3 _ rfl
    obtain ⟨v4, d4, c4, s4, t4⟩ := h 4 _ rfl
    simp only [List.getElem?_cons_zero, List.getElem?_cons_succ, Option.some.injEq] at s0 s1 s2 s3 s4
    subst s0 s1 s2 s3 s4
    obtain ⟨z0, rfl, w0⟩ := tr_int Try.underlying3 t0.tr
    obtain ⟨z1, rfl, w1⟩ := tr_int Try.underlying3 t1.tr
    obtain ⟨A2, l2, n2, rfl, q2, g2, w2, k2⟩ := tru_Input t2
    obtain ⟨A3, l3, n3, rfl, q3, g3, w3, k3⟩ := tru_Value t3
    obtain ⟨A4, l4, n4, rfl, q4, g4, w4, k4⟩ := tru_Ins t4
    refine ⟨(z0, z1, l2, l3, l4), ⟨c0, c1, ⟨A2, n2, c2, q2, g2⟩, ⟨A3, n3, c3, q3, g3⟩, ⟨A4, n4, c4, q4, g4⟩⟩, wf_app (wf_one w0) (wf_app (wf_one w1) (wf_app (wf_L g2 w2) (wf_app (wf_L g3 w3) (wf_app (wf_L g4 w4) (wf_nil))))), ?_⟩
    have p0 := bulk_pos e0
    have p1 := bulk_pos e1
    simp only [iCode, List.length_append, List.length_cons, List.length_nil, Rows.uptoBulkAll]
    omega) h
theorem tru_field {t : TypeId} {fs : Array Field} {cs : Array Value} {xs : List (DataW H × List MemPlace)} {n i : Nat} {f : Field} {u : Value} {y : DataW H × List MemPlace} (hone : oneCellFields Try.prog fs = true) (hq : ∀ (i : Nat) (f : Field), fs[i]? = some f → DataW.trod enc Try.prog w base spare held n f.type (((Value.agg cs).cells.toList.drop f.offset).take (Try.prog.cellsOf f.type)) = xs[i]?) (hy : xs[i]? = some y) (hi : fs[i]? = some f) (hu : cs[i]? = some u) (ht : f.type = t) : TRd enc w base spare held t u y.1 := by
  have h := hq i f hi
  obtain ⟨h1, h2⟩ := hone_of hone i f hi
  rw [h1, h2] at h
  have hil : i < fs.size := (Array.getElem?_eq_some_iff.1 hi).1
  have hcs : ((Value.agg cs).cells.toList.drop i).take 1 = [u] := by
    have hul := (Array.getElem?_eq_some_iff.1 hu).1
    show (cs.toList.drop i).take 1 = [u]
    rw [List.drop_eq_getElem_cons (by simpa using hul)]
    have := (Array.getElem?_eq_some_iff.1 hu).2
    simp [this]
  rw [hcs, hy] at h
  exact ⟨n, y.2, ht ▸ h⟩
set_option maxRecDepth 100000 in
theorem open_tableU {r : Reach} {b0 : Nat} {v : Value} {d : DataW H} {p : List MemPlace} (hv : Value.okWide Try.prog w r b0 27 v) (h : DataW.Trod enc Try.prog w base spare held 27 v d p) :
    ∃ z0 A1 n1 c1 A2 n2 c2 z3 z4 z5 A6 n6 c6 A7 n7 c7 x, v = .agg #[.int .i64 z0, .slice A1 n1 c1, .slice A2 n2 c2, .int .i64 z3, .int .i64 z4, .int .i64 z5, .slice A6 n6 c6, .slice A7 n7 c7] ∧ TabIn w z0 A1 n1 c1 A2 n2 c2 z3 z4 z5 A6 n6 c6 A7 n7 c7 x ∧ TabRaw w.heap.size w z0 A1 n1 A2 n2 z3 z4 z5 A6 n6 A7 n7 x ∧ (iTable x).length ≤ Rows.uptoBulk d := by
  obtain ⟨cs, rfl, hsz⟩ := okWide_struct Try.underlying27 hv
  obtain ⟨u0, u1, u2, u3, u4, u5, u6, u7, rfl⟩ := array8 (hsz.trans (by kernel_rfl))
  obtain ⟨fuel, hf⟩ := h
  obtain ⟨xs, n, _, hx, hl, hlen, hq⟩ := DataW.trod_struct Try.underlying27 hf
  have hone : oneCellFields Try.prog _ = true := (by kernel_rfl : oneCellFields Try.prog (match Try.prog.underlying 27 with | some (.struct fs) => fs | _ => #[]) = true)
  simp only [Prod.mk.injEq] at hx
  obtain ⟨rfl, _⟩ := hx
  match xs, hlen with
  | [y0, y1, y2, y3, y4, y5, y6, y7], _ =>
  have t0 : TRd enc w base spare held 3 u0 y0.1 := tru_field hone hq (i := 0) rfl rfl rfl rfl
  have t1 : TRd enc w base spare held 22 u1 y1.1 := tru_field hone hq (i := 1) rfl rfl rfl rfl
  have t2 : TRd enc w base spare held 23 u2 y2.1 := tru_field hone hq (i := 2) rfl rfl rfl rfl
  have t3 : TRd enc w base spare held 3 u3 y3.1 := tru_field hone hq (i := 3) rfl rfl rfl rfl
  have t4 : TRd enc w base spare held 3 u4 y4.1 := tru_field hone hq (i := 4) rfl rfl rfl rfl
  have t5 : TRd enc w base spare held 3 u5 y5.1 := tru_field hone hq (i := 5) rfl rfl rfl rfl
  have t6 : TRd enc w base spare held 24 u6 y6.1 := tru_field hone hq (i := 6) rfl rfl rfl rfl
  have t7 : TRd enc w base spare held 25 u7 y7.1 := tru_field hone hq (i := 7) rfl rfl rfl rfl
  obtain ⟨z0, rfl, w0⟩ := tr_int Try.underlying3 t0.tr
  obtain ⟨A1, l1, c1, rfl, q1, g1, w1, k1⟩ := tru_Int t1
  obtain ⟨A2, l2, c2, rfl, q2, g2, w2, k2⟩ := tru_Ints t2
  obtain ⟨z3, rfl, w3⟩ := tr_int Try.underlying3 t3.tr
  obtain ⟨z4, rfl, w4⟩ := tr_int Try.underlying3 t4.tr
  obtain ⟨z5, rfl, w5⟩ := tr_int Try.underlying3 t5.tr
  obtain ⟨A6, l6, c6, rfl, q6, g6, w6, k6⟩ := tru_Row t6
  obtain ⟨A7, l7, c7, rfl, q7, g7, w7, k7⟩ := tru_Code t7
  have hR : TabRaw w.heap.size w z0 A1 l1.length A2 l2.length z3 z4 z5 A6 l6.length A7 l7.length ((z0, l1, l2, z3, z4, z5), (l6, l7)) := ⟨⟨rfl, rfl, rfl, rfl⟩, ⟨rfl, rfl, rfl, rfl⟩, q1, q2, q6, q7⟩
  refine ⟨z0, A1, l1.length, c1, A2, l2.length, c2, z3, z4, z5, A6, l6.length, c6, A7, l7.length, c7, ((z0, l1, l2, z3, z4, z5), (l6, l7)), rfl, ⟨fun u hu => hR.tab (Nat.le_refl _) ⟨g1, g2, g6, g7⟩ c1 c2 c6 c7 u hu, wf_app (wf_one w0) (wf_app (wf_L g1 w1) (wf_app (wf_L g2 w2) (wf_app (wf_one w3) (wf_app (wf_one w4) (wf_app (wf_one w5) (wf_app (wf_L g6 w6) (wf_app (wf_L g7 w7) (wf_nil))))))))⟩, hR, ?_⟩
  · have p0 := bulk_pos y0.1
    have p3 := bulk_pos y3.1
    have p4 := bulk_pos y4.1
    have p5 := bulk_pos y5.1
    simp only [iTable, List.length_append, List.length_cons, List.length_nil, Rows.uptoBulk, Rows.uptoBulkAll, List.map_cons, List.map_nil]
    omega
end
end Go.Proofs.Ytlfhgmoafgjdcaa
