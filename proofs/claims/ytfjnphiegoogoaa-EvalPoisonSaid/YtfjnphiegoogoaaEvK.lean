/- The kinds of a schema's attributes, type by type, as a contract. -/
import Derived.Test.YtfjnphiegoogoaaKey
import Derived.Test.YtfjnphiegoogoaaSto
namespace Go.Proofs.Ytfjnphiegoogoaa
open Go.ChangeShapes Go.WideShapes Go.ChangeAt Go.RowKit
set_option linter.unusedVariables false
set_option linter.unusedSimpArgs false

/-- a value that reads as whole numbers -/
def IntsIn1 (w : World) (u : Value) (ks : List Int) : Prop := ∃ A cap, u = .slice A ks.length cap ∧ IntsAt w A ks
theorem IntsIn1.later {w w1 : World} {u : Value} {ks : List Int} (h : IntsIn1 w u ks) (hb : Below w.heap.size w w1) : IntsIn1 w1 u ks := by
  obtain ⟨A, cap, e, h⟩ := h
  exact ⟨A, cap, e, h.later hb⟩
/-- a slice that reads as rows of whole numbers -/
def KindsAt (w : World) (A : Option Addr) (kss : List (List Int)) : Prop := 0 < kss.length → ∃ b off, A = some ⟨b, off, none⟩ ∧ ∀ (i : Nat) (ks : List Int), kss[i]? = some ks → ∃ u, w.cell? ⟨b, off + i, none⟩ = some u ∧ IntsIn1 w u ks
theorem KindsAt.later {w w1 : World} {A : Option Addr} {kss : List (List Int)} (h : KindsAt w A kss) (hb : Below w.heap.size w w1) : KindsAt w1 A kss := fun hp => by
  obtain ⟨b, off, e, h⟩ := h hp
  refine ⟨b, off, e, fun i ks hi => ?_⟩
  obtain ⟨u, h0, h1⟩ := h i ks hi
  exact ⟨u, cell_later hb h0, h1.later hb⟩
def ksT (t : ST) : List Int := t.2.map (·.2)
def ksOf (ts : List ST) : List (List Int) := ts.map ksT
theorem ksOf_length (ts : List ST) : (ksOf ts).length = ts.length := by simp [ksOf]
theorem ksT_length (t : ST) : (ksT t).length = t.2.length := by simp [ksT]

/-- the rows, each of the call's own -/
def RowsOwn (w : World) (base : Nat) (ts : List ST) (us : List Value) : Prop := ∀ (i : Nat) (t : ST) (x : Value), ts[i]? = some t → us[i]? = some x → w.ownsRow base 3 1 x (ksT t).length (icells (ksT t))
theorem own_kinds {w : World} {base base' : Nat} {e : TypeId} {v : Value} {ts : List ST} {us : List Value} (hl : us.length = ts.length) (h : w.ownsRow base e 1 v ts.length us) (hu : RowsOwn w base' ts us) :
    ∃ A cap, v = .slice A ts.length cap ∧ KindsAt w A (ksOf ts) := by
  rcases h.2 with ⟨rfl, h0⟩ | ⟨g, cap, cur, rfl, _⟩
  · exact ⟨none, 0, by rw [h0], fun hp => by rw [ksOf_length] at hp; omega⟩
  · refine ⟨_, cap, rfl, fun _ => ⟨g, 0, rfl, fun i ks hi => ?_⟩⟩
    have hc := h.cells (g := g) rfl
    unfold ksOf at hi
    rw [List.getElem?_map] at hi
    obtain ⟨t, ht, rfl⟩ := Option.map_eq_some_iff.1 hi
    have hlt : i < us.length := by rw [hl]; exact (List.getElem?_eq_some_iff.1 ht).1
    have hx : us[i]? = some us[i] := List.getElem?_eq_getElem hlt
    refine ⟨us[i], ?_, ?_⟩
    · rw [Nat.zero_add, addr_add g i]
      exact hc i _ hx
    · obtain ⟨A', cap', e1, hI⟩ := own_ints (hu i t _ ht hx)
      exact ⟨A', cap', e1, hI⟩

theorem infoRow : (Try.prog.info? 43).map (fun i => (i.zero, i.size, i.bytes)) = some (some (.slice none 0 0), 1, 24) := by kernel_rfl

def KsR (u : World) (ts : List ST) (v i : Value) (wr : World) : Prop :=
  ∃ (k : Nat) (us : List Value), k ≤ ts.length ∧ i = .int .i64 (k : Int) ∧ us.length = k ∧ wr.ownsRow u.heap.size 43 1 v k us ∧ RowsOwn wr u.heap.size (ts.take k) us ∧ Below u.heap.size u wr
def KsI (u : World) (fs : List SF) (v i : Value) (wr : World) : Prop :=
  ∃ j : Nat, j ≤ fs.length ∧ i = .int .i64 (j : Int) ∧ wr.ownsRow u.heap.size 3 1 v j (icells ((fs.map (·.2)).take j)) ∧ Below u.heap.size u wr
theorem ics_snoc (fs : List SF) (k : Nat) (f : SF) (h : fs[k]? = some f) : icells ((fs.map (·.2)).take (k + 1)) = icells ((fs.map (·.2)).take k) ++ [.int .i64 f.2] := by
  rw [List.take_add_one, List.getElem?_map, h]
  simp [icells]

end Go.Proofs.Ytfjnphiegoogoaa
