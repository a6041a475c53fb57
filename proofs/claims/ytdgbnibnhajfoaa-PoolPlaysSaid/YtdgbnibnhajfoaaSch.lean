/- A schema as it lies in memory; the document's schema carried to the program's ('To'), as a contract. -/
import Derived.Test.YtdgbnibnhajfoaaMem
namespace Go.Proofs.Ytdgbnibnhajfoaa
open Go.ChangeShapes Go.WideShapes Go.ChangeAt Go.RowKit
set_option linter.unusedVariables false
set_option linter.unusedSimpArgs false

/-- an attribute: its name and its kind -/
abbrev SF := ByteArray × Int
/-- a type: its name and its attributes -/
abbrev ST := ByteArray × List SF
def fcells (fs : List SF) : List Value := fs.flatMap fun f => [.string f.1, .int .i64 f.2]
theorem fcells_length (fs : List SF) : (fcells fs).length = fs.length * 2 := by
  induction fs with
  | nil => rfl
  | cons v vs ih => simp only [fcells, List.flatMap_cons, List.length_append, List.length_cons, List.length_nil] at *; omega
theorem fcells_snoc (fs : List SF) (k : Nat) (f : SF) (h : fs[k]? = some f) : fcells (fs.take (k + 1)) = fcells (fs.take k) ++ [.string f.1, .int .i64 f.2] := by
  rw [List.take_add_one, h]
  simp [fcells]
theorem fcells_at (fs : List SF) : ∀ (i : Nat) (f : SF), fs[i]? = some f → (fcells fs)[i * 2]? = some (.string f.1) ∧ (fcells fs)[i * 2 + 1]? = some (.int .i64 f.2) := by
  induction fs with
  | nil => intro i f h; simp at h
  | cons v vs ih =>
    intro i f h
    cases i with
    | zero => simp at h; subst h; exact ⟨rfl, rfl⟩
    | succ i =>
      have := ih i f (by simpa using h)
      rw [show (i + 1) * 2 = i * 2 + 2 by omega]
      exact this
/-- types as cells: their names and the slices of their attributes -/
def tcells (ts : List ST) (us : List Value) : List Value := (ts.zip us).flatMap fun p => [.string p.1.1, p.2]

/-- a slice that reads as attributes -/
def FieldsIn (w : World) (v : Value) (fs : List SF) : Prop := ∃ A cap, v = .slice A fs.length cap ∧ (0 < fs.length → ∃ b off, A = some ⟨b, off, none⟩ ∧ ∀ (i : Nat) (f : SF), fs[i]? = some f → w.cell? ⟨b, off + i * 2, none⟩ = some (.string f.1) ∧ w.cell? ⟨b, off + i * 2 + 1, none⟩ = some (.int .i64 f.2))
/-- a slice that reads as types -/
def TypesIn (w : World) (v : Value) (ts : List ST) : Prop := ∃ A cap, v = .slice A ts.length cap ∧ (0 < ts.length → ∃ b off, A = some ⟨b, off, none⟩ ∧ ∀ (i : Nat) (t : ST), ts[i]? = some t → ∃ u, w.cell? ⟨b, off + i * 2, none⟩ = some (.string t.1) ∧ w.cell? ⟨b, off + i * 2 + 1, none⟩ = some u ∧ FieldsIn w u t.2)
/-- a slice that reads as texts -/
def SymsIn (w : World) (v : Value) (ss : List ByteArray) : Prop := ∃ A cap, v = .slice A ss.length cap ∧ (ss.length ≤ cap ∧ cap ≤ maxLen) ∧ (0 < ss.length → ∃ b off, A = some ⟨b, off, none⟩ ∧ ∀ (i : Nat) (s : ByteArray), ss[i]? = some s → w.cell? ⟨b, off + i, none⟩ = some (.string s))

theorem FieldsIn.later {w w1 : World} {v : Value} {fs : List SF} (h : FieldsIn w v fs) (hb : Below w.heap.size w w1) : FieldsIn w1 v fs := by
  obtain ⟨A, cap, rfl, hc⟩ := h
  refine ⟨A, cap, rfl, fun hn => ?_⟩
  obtain ⟨b, off, rfl, hx⟩ := hc hn
  exact ⟨b, off, rfl, fun i f hi => ⟨cell_later hb (hx i f hi).1, cell_later hb (hx i f hi).2⟩⟩
theorem TypesIn.later {w w1 : World} {v : Value} {ts : List ST} (h : TypesIn w v ts) (hb : Below w.heap.size w w1) : TypesIn w1 v ts := by
  obtain ⟨A, cap, rfl, hc⟩ := h
  refine ⟨A, cap, rfl, fun hn => ?_⟩
  obtain ⟨b, off, rfl, hx⟩ := hc hn
  refine ⟨b, off, rfl, fun i t hi => ?_⟩
  obtain ⟨u, h0, h1, h2⟩ := hx i t hi
  exact ⟨u, cell_later hb h0, cell_later hb h1, h2.later hb⟩
theorem SymsIn.later {w w1 : World} {v : Value} {ss : List ByteArray} (h : SymsIn w v ss) (hb : Below w.heap.size w w1) : SymsIn w1 v ss := by
  obtain ⟨A, cap, rfl, hcap, hc⟩ := h
  refine ⟨A, cap, rfl, hcap, fun hn => ?_⟩
  obtain ⟨b, off, rfl, hx⟩ := hc hn
  exact ⟨b, off, rfl, fun i s hi => cell_later hb (hx i s hi)⟩

theorem addr_add (g j : Nat) : (⟨g, j, none⟩ : Addr) = (⟨g, 0, none⟩ : Addr).add j := by unfold Addr.add; split <;> simp_all
theorem own_fields {w : World} {base : Nat} {e : TypeId} {v : Value} {fs : List SF} (h : w.ownsRow base e 2 v fs.length (fcells fs)) : FieldsIn w v fs := by
  rcases h.2 with ⟨rfl, h0⟩ | ⟨g, cap, cur, rfl, _⟩
  · exact ⟨none, 0, by rw [h0], fun hp => by omega⟩
  · refine ⟨_, cap, rfl, fun _ => ⟨g, 0, rfl, fun i f hi => ?_⟩⟩
    have hc := h.cells (g := g) rfl
    have hx := fcells_at fs i f hi
    rw [Nat.zero_add, addr_add g (i * 2), addr_add g (i * 2 + 1)]
    exact ⟨hc _ _ hx.1, hc _ _ hx.2⟩
theorem tcells_at : ∀ (ts : List ST) (us : List Value), us.length = ts.length → ∀ (i : Nat) (t : ST), ts[i]? = some t → ∃ u, us[i]? = some u ∧ (tcells ts us)[i * 2]? = some (.string t.1) ∧ (tcells ts us)[i * 2 + 1]? = some u
  | [], us, _, i, t, h => by simp at h
  | t0 :: ts, [], hl, _, _, _ => by simp at hl
  | t0 :: ts, u0 :: us, hl, i, t, h => by
    cases i with
    | zero => simp at h; subst h; exact ⟨u0, rfl, rfl, rfl⟩
    | succ i =>
      obtain ⟨u, h0, h1, h2⟩ := tcells_at ts us (by simpa using hl) i t (by simpa using h)
      refine ⟨u, by simpa using h0, ?_⟩
      rw [show (i + 1) * 2 = i * 2 + 2 by omega]
      exact ⟨h1, h2⟩
theorem tcells_snoc (ts : List ST) (us : List Value) (k : Nat) (t : ST) (u : Value) (h : ts[k]? = some t) (hl : us.length = k) : tcells (ts.take (k + 1)) (us ++ [u]) = tcells (ts.take k) us ++ [.string t.1, u] := by
  have hk : k < ts.length := (List.getElem?_eq_some_iff.1 h).1
  have hl2 : (ts.take k).length = us.length := by rw [List.length_take]; omega
  rw [List.take_add_one, h]
  unfold tcells
  simp only [Option.toList_some]
  rw [List.zip_append hl2]
  simp
theorem own_types {w : World} {base base' : Nat} {e e' : TypeId} {v : Value} {ts : List ST} {us : List Value} (hl : us.length = ts.length) (h : w.ownsRow base e 2 v ts.length (tcells ts us))
    (hu : ∀ (i : Nat) (t : ST) (u : Value), ts[i]? = some t → us[i]? = some u → w.ownsRow base' e' 2 u t.2.length (fcells t.2)) : TypesIn w v ts := by
  rcases h.2 with ⟨rfl, h0⟩ | ⟨g, cap, cur, rfl, _⟩
  · exact ⟨none, 0, by rw [h0], fun hp => by omega⟩
  · refine ⟨_, cap, rfl, fun _ => ⟨g, 0, rfl, fun i t hi => ?_⟩⟩
    have hc := h.cells (g := g) rfl
    obtain ⟨u, hx, h0, h1⟩ := tcells_at ts us hl i t hi
    rw [Nat.zero_add, addr_add g (i * 2), addr_add g (i * 2 + 1)]
    exact ⟨u, hc _ _ h0, hc _ _ h1, own_fields (hu i t u hi hx)⟩
theorem own_syms {w : World} {base : Nat} {e : TypeId} {v : Value} {ss : List ByteArray} (h : w.ownsRow base e 1 v ss.length (ss.map Value.string)) : SymsIn w v ss := by
  rcases h.2 with ⟨rfl, h0⟩ | ⟨g, cap, cur, rfl, _, _, hnc, hcm, _⟩
  · exact ⟨none, 0, by rw [h0], ⟨by omega, by unfold maxLen; omega⟩, fun hp => by omega⟩
  · refine ⟨_, cap, rfl, ⟨hnc, hcm⟩, fun _ => ⟨g, 0, rfl, fun i s hi => ?_⟩⟩
    have hc := h.cells (g := g) rfl
    rw [Nat.zero_add, addr_add g i]
    exact hc i (.string s) (by rw [List.getElem?_map, hi]; rfl)
end Go.Proofs.Ytdgbnibnhajfoaa
