/- EvN, NdO -/
import Derived.Test.YtfjnphiegoogoaaZ03
import Derived.Deep.Matrix
import Derived.Test.YtfjnphiegoogoaaZ12
import Derived.Test.YtfjnphiegoogoaaZ00
import Derived.Test.YtfjnphiegoogoaaRows
/- EvN -/
namespace Go.Proofs.Ytfjnphiegoogoaa
open Go.ChangeShapes Go.WideShapes Go.ChangeAt Go.RowKit Go.Deep Go.Joins Go.Fl
set_option linter.unusedVariables false
set_option linter.unusedSimpArgs false
section
variable {H : Type} {enc : TypeId × Value → H} {w : World} {base : Nat} {spare : Nat → Bool} {held : Bool}
theorem open_values9 {fuel : Nat} {v : Value} {y : DataW H × List MemPlace} (h : DataW.trod enc Try.prog w base spare held fuel 47 [v] = some y) (hw : WB Try.prog 47 y.1) :
    ∃ (B : Option Addr) (cap : Nat) (vs : List (Int × Nat)), v = .slice B vs.length cap ∧ RowV w B vs.length vs ∧ vs.length * 16 ≤ 140737488351232 := by
  rcases open_slice_fields Try.underlying47 Try.underlying25 (by kernel_rfl) (by kernel_rfl) h with ⟨hcs, _⟩ | ⟨a, len, cap, m, D, Pl, hcs, _, hl, hm, hmm, hx, hcell⟩
  · simp at hcs
    subst hcs
    exact ⟨none, 0, [], rfl, ⟨rfl, by simp, fun hp => absurd hp (by simp)⟩, by decide⟩
  · simp at hcs
    subst hcs hx
    have hlm : len ≤ m := by rw [hmm]; split <;> omega
    have hb := (wb_slice Try.underlying47 hw).1
    rw [show Try.prog.bytesOf 25 = 16 by kernel_rfl] at hb
    simp only [List.length_map, List.length_range, reachBytes] at hb
    have hv : ∀ i, i < len → ∃ q : Int × Nat, w.cell? (a.add (i * 2)) = some (.int .i64 q.1) ∧ w.cell? (a.add (i * 2 + 1)) = some (.int .u64 (q.2 : Int)) ∧ q.2 < 18446744073709551616 := by
      intro i hi
      obtain ⟨ys, n, _, _, _, hf⟩ := hcell i (by omega)
      obtain ⟨v0, y0, c0, _, t0⟩ := hf 0 _ rfl
      obtain ⟨v1, y1, c1, _, t1⟩ := hf 1 _ rfl
      obtain ⟨k, e0, _, _⟩ := DataW.trod_int Try.underlying3 t0
      obtain ⟨b, e1, _, wb⟩ := DataW.trod_int Try.underlying23 t1
      simp at e0 e1
      subst e0 e1
      obtain ⟨n, rfl, hn⟩ := nat_of_wf wb
      exact ⟨(k, n), c0, c1, hn⟩
    obtain ⟨q, hq⟩ := Go.Deep.choose_lt hv
    refine ⟨some a, cap, (List.range len).map q, by simp, ⟨by simp, ?_, fun hp => ?_⟩, by simpa using hb⟩
    · intro v hm
      obtain ⟨i, hi, rfl⟩ := List.mem_map.1 hm
      exact (hq i (List.mem_range.1 hi)).2.2
    · have hp' : 0 < len := by simpa using hp
      obtain ⟨b, off, rfl⟩ := spot_of (hq 0 hp').1
      refine ⟨b, off, rfl, fun i k c hi => ?_⟩
      have hil : i < len := by have := (List.getElem?_eq_some_iff.1 hi).1; simpa using this
      rw [List.getElem?_map, List.getElem?_range hil] at hi
      simp at hi
      have := hq i hil
      rw [hi, add_plain, add_plain] at this
      exact ⟨this.1, by rw [Nat.add_assoc]; exact this.2.1⟩
set_option maxRecDepth 100000 in
theorem open_event9 {r : Reach} {b0 : Nat} {v : Value} {d : DataW H} {p : List MemPlace} (hv : Value.okWide Try.prog w r b0 65 v) (h : DataW.Trod enc Try.prog w base spare held 65 v d p) (hw : WB Try.prog 65 d) :
    ∃ (ty tm : Int) (B : Option Addr) (cap : Nat) (vs : List (Int × Nat)), v = .agg #[.int .i64 ty, .int .i64 tm, .slice B vs.length cap] ∧ RowV w B vs.length vs ∧ vs.length * 16 ≤ 140737488351232 := by
  obtain ⟨v0, v1, v2, y0, y1, y2, n, rfl, rfl, rfl, t0, t1, t2⟩ := open_agg3 Try.underlying65 (by kernel_rfl) (by kernel_rfl) hv h
  obtain ⟨ty, e0, _, _⟩ := DataW.trod_int Try.underlying3 t0
  obtain ⟨tm, e1, _, _⟩ := DataW.trod_int Try.underlying2 t1
  simp at e0 e1
  subst e0 e1
  have hW2 : WB Try.prog 47 y2.1 := wb_agg Try.underlying65 hw (j := 2) rfl rfl
  obtain ⟨B, cap, vs, rfl, hR, hb⟩ := open_values9 t2 hW2
  exact ⟨ty, tm, B, cap, vs, rfl, hR, hb⟩
set_option maxRecDepth 100000 in
theorem open_events9 {r : Reach} {b0 : Nat} {v : Value} {d : DataW H} {p : List MemPlace} (hv : Value.okWide Try.prog w r b0 28 v) (h : DataW.Trod enc Try.prog w base spare held 28 v d p) (hw : WB Try.prog 28 d) :
    ∃ (A : Option Addr) (cap : Nat) (es : List Ev), v = .slice A es.length cap ∧ es.length ≤ cap ∧ cap ≤ maxLen ∧ EvsAt w A es ∧ es.length * 40 ≤ 140737488351232 ∧ ∀ e ∈ es, e.2.2.length * 16 ≤ 140737488351232 := by
  obtain ⟨A0, len, cap, rfl⟩ := okWide_slice Try.underlying28 hv
  obtain ⟨fuel, h⟩ := h
  rcases open_slice_fields Try.underlying28 Try.underlying65 (by kernel_rfl) (by kernel_rfl) h with ⟨hcs, _⟩ | ⟨a, len', cap', m, D, Pl, hcs, _, hl, hm, hmm, hx, hcell⟩
  · simp [Value.cells] at hcs
    obtain ⟨rfl, rfl, rfl⟩ := hcs
    exact ⟨none, 0, [], rfl, by simp, by unfold maxLen; omega, fun hp => absurd hp (by simp), by decide, fun e he => by simp at he⟩
  · simp [Value.cells] at hcs
    obtain ⟨rfl, rfl, rfl⟩ := hcs
    simp only [Prod.mk.injEq] at hx
    obtain ⟨rfl, rfl⟩ := hx
    have hlm : len ≤ m := by rw [hmm]; split <;> omega
    obtain ⟨hb, hw2⟩ := wb_slice Try.underlying28 hw
    rw [show Try.prog.bytesOf 65 = 40 by kernel_rfl] at hb
    simp only [List.length_map, List.length_range, reachBytes] at hb
    have hv : ∀ i, i < len → ∃ q : Ev, w.cell? (a.add (i * 3)) = some (.int .i64 q.1) ∧ w.cell? (a.add (i * 3 + 1)) = some (.int .i64 q.2.1) ∧ ∃ B cp, w.cell? (a.add (i * 3 + 2)) = some (.slice B q.2.2.length cp) ∧ RowV w B q.2.2.length q.2.2 ∧ q.2.2.length * 16 ≤ 140737488351232 := by
      intro i hi
      obtain ⟨ys, n, hD, _, hyl, hf⟩ := hcell i (by omega)
      have hWi : WB Try.prog 65 (D i) := hw2 (D i) (List.mem_map.2 ⟨i, List.mem_range.2 hi, rfl⟩)
      obtain ⟨v0, y0, c0, _, t0⟩ := hf 0 _ rfl
      obtain ⟨v1, y1, c1, _, t1⟩ := hf 1 _ rfl
      obtain ⟨v2, y2, c2, e2, t2⟩ := hf 2 _ rfl
      obtain ⟨ty, e0, _, _⟩ := DataW.trod_int Try.underlying3 t0
      obtain ⟨tm, e1, _, _⟩ := DataW.trod_int Try.underlying2 t1
      simp at e0 e1
      subst e0 e1
      rw [hD] at hWi
      have hW1 : WB Try.prog 47 y2.1 := wb_agg Try.underlying65 hWi (j := 2) rfl (by rw [List.getElem?_map, e2]; rfl)
      obtain ⟨B, cp, vs, rfl, hR, hbv⟩ := open_values9 t2 hW1
      exact ⟨(ty, tm, vs), c0, c1, B, cp, c2, hR, hbv⟩
    obtain ⟨q, hq⟩ := Go.Deep.choose_lt hv
    refine ⟨some a, cap, (List.range len).map q, by simp, by simpa using hl, hm, fun hp => ?_, by simpa using hb, fun t ht => ?_⟩
    · have hp' : 0 < len := by simpa using hp
      obtain ⟨b, off, rfl⟩ := spot_of (hq 0 hp').1
      refine ⟨b, off, rfl, fun i f hi => ?_⟩
      have hil : i < len := by have := (List.getElem?_eq_some_iff.1 hi).1; simpa using this
      rw [List.getElem?_map, List.getElem?_range hil] at hi
      simp at hi
      subst hi
      obtain ⟨h0, h1, B, cp, h2, h3, _⟩ := hq i hil
      rw [add_plain] at h0 h1 h2
      exact ⟨h0, by rw [Nat.add_assoc]; exact h1, B, cp, by rw [Nat.add_assoc]; exact h2, h3⟩
    · obtain ⟨i, hi, rfl⟩ := List.mem_map.1 ht
      obtain ⟨_, _, B, cp, _, _, h3⟩ := hq i (List.mem_range.1 hi)
      exact h3
end
end Go.Proofs.Ytfjnphiegoogoaa

/- NdO -/
namespace Go.Proofs.Ytfjnphiegoogoaa
open Go.ChangeShapes Go.WideShapes Go.ChangeAt Go.RowKit Go.Deep Go.Joins Go.Fl
set_option linter.unusedVariables false
set_option linter.unusedSimpArgs false

/-- a list of trees lies behind a slice -/
def NodesIs (w : World) (A : Option Addr) (l : List NT) : Prop :=
  (0 < l.length → ∃ ab ao, A = some ⟨ab, ao, none⟩) ∧ ∀ (i : Nat) (t : NT), l[i]? = some t → ∀ ab ao, A = some ⟨ab, ao, none⟩ → NodeIs w ⟨ab, ao + i * 7, none⟩ t
theorem NodesIs.later {w w1 : World} (hb : Below w.heap.size w w1) {A : Option Addr} {l : List NT} (h : NodesIs w A l) : NodesIs w1 A l :=
  ⟨h.1, fun i t hi ab ao e => (h.2 i t hi ab ao e).later hb⟩
/-- the cells of a tree's root -/
def rootC (op kd vk : Int) (vb : Nat) (pos attr : Int) (A : Option Addr) (n c : Nat) : List Value := [.int .i64 op, .int .i64 kd, .slice A n c, .int .i64 vk, .int .u64 (vb : Int), .int .i64 pos, .int .i64 attr]
theorem bulk_one {H : Type} (d : DataW H) : 1 ≤ Rows.uptoBulk d := by
  cases d with
  | lit l => cases l <;> simp [Rows.uptoBulk]
  | nil => simp [Rows.uptoBulk]
  | ptr d => simp [Rows.uptoBulk]
  | slice elems spare => simp [Rows.uptoBulk]
  | agg parts => simp [Rows.uptoBulk]
  | iface t d => simp [Rows.uptoBulk]
  | map entries => simp [Rows.uptoBulk]
  | held h => simp [Rows.uptoBulk]
theorem bulk_cat {H : Type} (l r : List (DataW H)) : Rows.uptoBulkAll (l ++ r) = Rows.uptoBulkAll l + Rows.uptoBulkAll r := by
  induction l with
  | nil => simp [Rows.uptoBulkAll]
  | cons x l ih => simp only [List.cons_append, Rows.uptoBulkAll, ih]; omega
theorem cNode : Try.prog.cellsOf 27 = 7 := by kernel_rfl
theorem cInt : Try.prog.cellsOf 3 = 1 := by kernel_rfl
theorem cU64 : Try.prog.cellsOf 23 = 1 := by kernel_rfl
theorem cArgs : Try.prog.cellsOf 22 = 1 := by kernel_rfl
theorem cVal : Try.prog.cellsOf 25 = 2 := by kernel_rfl
section
variable {H : Type} {enc : TypeId × Value → H} {w : World} {base : Nat} {spare : Nat → Bool} {held : Bool}
def OpenN (enc : TypeId × Value → H) (w : World) (base : Nat) (spare : Nat → Bool) (held : Bool) (n : Nat) : Prop := ∀ (cs : List Value) (y : DataW H × List MemPlace), DataW.trod enc Try.prog w base spare held n 27 cs = some y →
  ∃ (op kd vk : Int) (vb : Nat) (pos attr : Int) (A : Option Addr) (c : Nat) (args : List NT), cs = rootC op kd vk vb pos attr A args.length c ∧ vb < 18446744073709551616 ∧ NodesIs w A args ∧ NT.sizes args + 1 ≤ Rows.uptoBulk y.1
def OpenS (enc : TypeId × Value → H) (w : World) (base : Nat) (spare : Nat → Bool) (held : Bool) (n : Nat) : Prop := ∀ (v : Value) (y : DataW H × List MemPlace), DataW.trod enc Try.prog w base spare held n 22 [v] = some y →
  ∃ (A : Option Addr) (c : Nat) (l : List NT), v = .slice A l.length c ∧ l.length ≤ c ∧ c ≤ maxLen ∧ NodesIs w A l ∧ NT.sizes l + 1 ≤ Rows.uptoBulk y.1
theorem sizes_cat : ∀ (a b : List NT), NT.sizes (a ++ b) = NT.sizes a + NT.sizes b := by
  intro a b
  induction a with
  | nil => simp [NT.sizes]
  | cons x a iha => simp only [List.cons_append, NT.sizes, iha]; omega
set_option maxRecDepth 100000 in
theorem openN_step {n : Nat} (ih : OpenS enc w base spare held n) : OpenN enc w base spare held (n + 1) := by
  intro cs y h
  obtain ⟨xs, n', e, rfl, hl, hxl, hf⟩ := DataW.trod_struct Try.underlying27 h
  obtain rfl : n = n' := by omega
  rw [cNode] at hl
  match cs, hl with
  | [c0, c1, c2, c3, c4, c5, c6], _ =>
  match xs, hxl with
  | [y0, y1, y2, y3, y4, y5], _ =>
  have f0 := hf 0 _ rfl
  have f1 := hf 1 _ rfl
  have f2 := hf 2 _ rfl
  have f3 := hf 3 _ rfl
  have f4 := hf 4 _ rfl
  have f5 := hf 5 _ rfl
  simp [cInt, cArgs, cVal] at f0 f1 f2 f3 f4 f5
  obtain ⟨op, e0, _, _⟩ := DataW.trod_int Try.underlying3 f0
  obtain ⟨kd, e1, _, _⟩ := DataW.trod_int Try.underlying3 f1
  obtain ⟨A, c, l, e2, _, _, hN, hS⟩ := ih c2 y2 f2
  obtain ⟨z0, z1, m, e3, _, g0, g1⟩ := trod_struct2 Try.underlying25 f3
  simp [cInt, cU64] at g0 g1
  obtain ⟨vk, e30, _, _⟩ := DataW.trod_int Try.underlying3 g0
  obtain ⟨vb, e31, _, wb⟩ := DataW.trod_int Try.underlying23 g1
  obtain ⟨pos, e4, _, _⟩ := DataW.trod_int Try.underlying3 f4
  obtain ⟨attr, e5, _, _⟩ := DataW.trod_int Try.underlying3 f5
  obtain ⟨vb, rfl, hvb⟩ := nat_of_wf wb
  simp at e0 e1 e2 e30 e31 e4 e5
  subst e0 e1 e2 e30 e31 e4 e5
  refine ⟨op, kd, vk, vb, pos, attr, A, c, l, rfl, hvb, hN, ?_⟩
  simp only [List.map_cons, List.map_nil, Rows.uptoBulk, Rows.uptoBulkAll]
  omega
theorem openS_step {n : Nat} (ih : OpenN enc w base spare held n) : OpenS enc w base spare held (n + 1) := by
  intro v y h
  rcases DataW.trod_slice Try.underlying22 h with ⟨hcs, rfl⟩ | ⟨a, len, cap, elems, rest, n', e, hcs, rfl, hb, hlc, hcm, hel, hi, _, _⟩
  · simp at hcs
    subst hcs
    exact ⟨none, 0, [], rfl, by simp, by unfold maxLen; omega, ⟨fun h => absurd h (by simp), fun i t h => by simp at h⟩, by simp [NT.sizes, Rows.uptoBulk]⟩
  obtain rfl : n = n' := by omega
  simp at hcs
  subst hcs
  rw [cNode] at hi
  have key : ∀ k, k ≤ len → ∃ l : List NT, l.length = k ∧ NT.sizes l ≤ Rows.uptoBulkAll ((elems.take k).map (·.1)) ∧ (0 < k → ∃ ab ao, a = ⟨ab, ao, none⟩) ∧ ∀ (i : Nat) (t : NT), l[i]? = some t → ∀ ab ao, a = ⟨ab, ao, none⟩ → NodeIs w ⟨ab, ao + i * 7, none⟩ t := by
    intro k
    induction k with
    | zero => intro _; exact ⟨[], rfl, by simp [NT.sizes], fun h => absurd h (by omega), fun i t h => by simp at h⟩
    | succ k ihk =>
      intro hk
      obtain ⟨l, l1, l2, l3, l4⟩ := ihk (by omega)
      have h1 := hi k (by omega)
      rw [List.getElem?_eq_getElem (by omega), Option.bind_eq_some_iff] at h1
      obtain ⟨cs, hc, ht⟩ := h1
      obtain ⟨_, hcl, hat⟩ := World.cells?_some hc
      obtain ⟨op, kd, vk, vb, pos, attr, A, c, args, rfl, hvb, hN, hS⟩ := ih cs _ ht
      have hp : ∃ ab ao, a = ⟨ab, ao, none⟩ := by
        by_cases hk0 : k = 0
        · subst hk0
          obtain ⟨ab, ao, sp⟩ := a
          have := hat 0 (by omega)
          have h2 := spot_no (w := w) this
          simp [Addr.add] at h2
          exact ⟨ab, ao, by rw [h2]⟩
        · exact l3 (by omega)
      obtain ⟨ab, ao, rfl⟩ := hp
      have hN' : NodeIs w ⟨ab, ao + k * 7, none⟩ (.mk op kd vk vb pos attr args) := by
        rw [add_plain] at hat
        have g0 := hat 0 (by omega)
        have g1 := hat 1 (by omega)
        have g2 := hat 2 (by omega)
        have g3 := hat 3 (by omega)
        have g4 := hat 4 (by omega)
        have g5 := hat 5 (by omega)
        have g6 := hat 6 (by omega)
        rw [add_plain] at g0 g1 g2 g3 g4 g5 g6
        exact .mk _ _ op kd vk vb pos attr args A c g0 g1 g2 g3 g4 g5 g6 hvb hN.1 hN.2
      refine ⟨l ++ [.mk op kd vk vb pos attr args], by simp [l1], ?_, fun _ => ⟨ab, ao, rfl⟩, fun i t hit ab' ao' he => ?_⟩
      · rw [sizes_cat, List.take_add_one, List.getElem?_eq_getElem (by omega), List.map_append, bulk_cat]
        simp only [Option.toList_some, List.map_cons, List.map_nil, Rows.uptoBulkAll, NT.sizes, NT.size]
        omega
      · by_cases hil : i < k
        · rw [List.getElem?_append_left (by omega)] at hit
          exact l4 i t hit ab' ao' he
        · have hil2 := (List.getElem?_eq_some_iff.1 hit).1
          simp only [List.length_append, List.length_cons, List.length_nil, l1] at hil2
          obtain rfl : i = k := by omega
          rw [List.getElem?_append_right (by omega), l1, Nat.sub_self] at hit
          simp at hit
          subst hit
          cases he
          exact hN'
  obtain ⟨l, l1, l2, l3, l4⟩ := key len (Nat.le_refl _)
  rw [← hel, List.take_length] at l2
  refine ⟨some a, cap, l, by rw [l1], by omega, hcm, ⟨fun h => ?_, fun i t hit ab ao e => l4 i t hit ab ao (Option.some.inj e)⟩, ?_⟩
  · obtain ⟨ab, ao, rfl⟩ := l3 (by omega)
    exact ⟨ab, ao, rfl⟩
  · simp only [Rows.uptoBulk]
    omega
theorem open_both : ∀ n, OpenN enc w base spare held n ∧ OpenS enc w base spare held n
  | 0 => ⟨fun cs y h => by simp [DataW.trod] at h, fun v y h => by simp [DataW.trod] at h⟩
  | n + 1 => ⟨openN_step (open_both n).2, openS_step (open_both n).1⟩
set_option maxRecDepth 100000 in
/-- a list of conditions that is handed in -/
theorem open_nodes {r : Reach} {b0 : Nat} {v : Value} {d : DataW H} {p : List MemPlace} (hv : Value.okWide Try.prog w r b0 22 v) (h : DataW.Trod enc Try.prog w base spare held 22 v d p) :
    ∃ (A : Option Addr) (c : Nat) (l : List NT), v = .slice A l.length c ∧ l.length ≤ c ∧ c ≤ maxLen ∧ NodesIs w A l ∧ NT.sizes l + 1 ≤ Rows.uptoBulk d := by
  obtain ⟨A0, len, cap, rfl⟩ := okWide_slice Try.underlying22 hv
  obtain ⟨fuel, h⟩ := h
  exact (open_both fuel).2 _ _ h
set_option maxRecDepth 100000 in
/-- a condition that is handed in -/
theorem open_node {r : Reach} {b0 : Nat} {v : Value} {d : DataW H} {p : List MemPlace} (hv : Value.okWide Try.prog w r b0 27 v) (h : DataW.Trod enc Try.prog w base spare held 27 v d p) :
    ∃ (op kd vk : Int) (vb : Nat) (pos attr : Int) (A : Option Addr) (c : Nat) (args : List NT), v = .agg (rootC op kd vk vb pos attr A args.length c).toArray ∧ vb < 18446744073709551616 ∧ NodesIs w A args ∧ NT.sizes args + 1 ≤ Rows.uptoBulk d := by
  obtain ⟨cs, rfl, hsz⟩ := okWide_struct Try.underlying27 hv
  obtain ⟨fuel, h⟩ := h
  obtain ⟨op, kd, vk, vb, pos, attr, A, c, args, e, h1, h2, h3⟩ := (open_both fuel).1 _ _ h
  refine ⟨op, kd, vk, vb, pos, attr, A, c, args, ?_, h1, h2, h3⟩
  congr 1
  simp [Value.cells] at e
  rw [← e]
end
end Go.Proofs.Ytfjnphiegoogoaa
