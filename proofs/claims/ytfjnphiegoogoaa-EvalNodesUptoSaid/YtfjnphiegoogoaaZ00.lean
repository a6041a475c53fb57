/- Mem, Sch, Find, SchC, SchR, Key, Words, Sto, EvK, SchO -/
import Derived.Test.YtfjnphiegoogoaaProg
import Derived.WalkKit
import Derived.ProofKit
import Derived.WalkLawsBesides
import Derived.WalkSpells
import Derived.Deep.Draws
import Derived.Lib.Hide
import Derived.Outline
import Derived.Below
import Derived.Laws.AppendOwn
import Derived.Laws.OwnMore
import Derived.OwnWalk
import Derived.Deep.AppendLies
import Derived.Maps.AppendAt
import Derived.RegionTactic
import Derived.Deep.Slices
import Derived.Deep.Fields
import Derived.Deep.SlicePairs
import Derived.ChangeSame
import Derived.SizedLaws
import Derived.OpenShut
import Derived.Lib.SmallJoins
/- Mem -/
namespace Go.Proofs.Ytfjnphiegoogoaa
open Go.ChangeShapes Go.WideShapes Go.ChangeAt Go.RowKit

theorem m1 (w : World) (o : Obj) : Below w.heap.size w (w.alloc o) := (Below.refl _ _).alloc (Nat.le_refl _) _
theorem m2 (w : World) (o p : Obj) : Below w.heap.size w ((w.alloc o).alloc p) := (m1 w o).alloc (by simp) _
theorem mmore {w0 w w1 : World} (h : Below w0.heap.size w0 w) (hb : Below w.heap.size w w1) : Below w0.heap.size w0 w1 := h.trans (hb.mono h.size)
theorem mblock {w : World} {a : Addr} {v : Value} (h : w.cell? a = some v) : a.block < w.heap.size := by
  by_cases c : a.block < w.heap.size
  · exact c
  · unfold World.cell? at h
    rw [Array.getElem?_eq_none (by omega)] at h
    simp at h
theorem mlater {w w1 : World} {a : Addr} {v : Value} (hb : Below w.heap.size w w1) (h : w.cell? a = some v) : w1.cell? a = some v := by
  rw [hb.cell (mblock h), h]
theorem mgrows {w w1 : World} (hb : Below w.heap.size w w1) (row : Option Nat) : w.grownBy w1 row := ⟨hb.os, hb.tape, hb.output, hb.size, fun i hi _ => hb.block i hi⟩
theorem mown_below {w w1 : World} {base : Nat} {e : TypeId} {size n : Nat} {v : Value} {xs : List Value} (h : w.ownsRow base e size v n xs) (hb : Below w.heap.size w w1) : w1.ownsRow base e size v n xs :=
  h.kept (mgrows hb none) (Classical.em _)
theorem mown_ne {w : World} {base base' : Nat} {e e' : TypeId} {size size' n n' : Nat} {v v' : Value} {xs xs' : List Value} (h : w.ownsRow base e size v n xs) (h' : w.ownsRow base' e' size' v' n' xs') (hne : e ≠ e') : v.ownBlock = none ∨ v.ownBlock ≠ v'.ownBlock := by
  rcases h.2 with ⟨rfl, _⟩ | ⟨g, cap, cur, rfl, _, hh, _⟩
  · left; rfl
  · right
    intro e1
    rcases h'.2 with ⟨rfl, _⟩ | ⟨g', cap', cur', rfl, _, hh', _⟩
    · simp [Value.ownBlock] at e1
    · have : g = g' := by simpa [Value.ownBlock] using e1
      subst this
      rw [hh] at hh'
      injection hh' with h1
      injection h1 with _ h2
      exact hne h2

theorem mown_mono {w : World} {base base' : Nat} {e : TypeId} {size n : Nat} {v : Value} {xs : List Value} (h : w.ownsRow base e size v n xs) (hb : base' ≤ base) : w.ownsRow base' e size v n xs := by
  refine ⟨h.1, ?_⟩
  rcases h.2 with h0 | ⟨g, cap, cur, hv, hg, hr⟩
  · exact .inl h0
  · exact .inr ⟨g, cap, cur, hv, Nat.le_trans hb hg, hr⟩

/-- block g is whole: these cells, of this type -/
def Blk (w : World) (g : Nat) (t : TypeId) (cs : Array Value) : Prop := w.heap[g]? = some (.cells cs t (0, 0))
section
variable {w w' : World} {g : Nat} {t : TypeId} {cs : Array Value}
theorem Blk.lt (h : Blk w g t cs) : g < w.heap.size := by
  apply Classical.byContradiction
  intro hn
  unfold Blk at h
  rw [Array.getElem?_eq_none (by omega)] at h
  cases h
theorem Blk.cell (h : Blk w g t cs) (i : Nat) : w.cell? ⟨g, i, none⟩ = cs[i]? := by
  unfold Blk at h
  simp [World.cell?, h]
theorem Blk.free (h : Blk w g t cs) (i : Nat) : w.frozen? ⟨g, i, none⟩ = false := by
  unfold Blk at h
  simp [World.frozen?, h]
theorem Blk.kept (h : Blk w g t cs) (hb : Below w.heap.size w w') : Blk w' g t cs := (hb.block g h.lt).trans h
theorem Blk.grown {row : Option Nat} (h : Blk w g t cs) (hg : w.grownBy w' row) (hne : some g ≠ row) : Blk w' g t cs := (hg.block g h.lt hne).trans h
theorem Blk.made (w : World) (t : TypeId) (cs : Array Value) : Blk (w.alloc (.cells cs t)) w.heap.size t cs := heap_alloc_new w _
theorem Blk.put_ (h : Blk w g t cs) (i : Nat) (u : Value) : Blk (w.setCell ⟨g, i, none⟩ u) g t (cs.setIfInBounds i u) := by
  unfold Blk at *
  simp [World.setCell, Array.getElem?_modify, h]
theorem Blk.else_ (h : Blk w g t cs) {p : Addr} (hp : p.block ≠ g) (u : Value) : Blk (w.setCell p u) g t cs := by
  unfold Blk at *
  simp only [World.setCell, Array.getElem?_modify]
  rw [if_neg hp]
  exact h
/-- a row of the call's own whose elements are of another type than a block lies elsewhere -/
theorem Blk.own_ne {base : Nat} {e : TypeId} {size n : Nat} {v : Value} {xs : List Value} (hg : Blk w g t cs) (h : w.ownsRow base e size v n xs) (hne : e ≠ t) : some g ≠ v.ownBlock := by
  rcases h.2 with ⟨rfl, _⟩ | ⟨g', cap, cur, rfl, _, hh, _⟩
  · simp [Value.ownBlock]
  · intro he
    have : g = g' := by simpa [Value.ownBlock] using he
    subst this
    unfold Blk at hg
    rw [hg] at hh
    injection hh with h1
    injection h1 with _ h2
    exact hne h2.symm
end
/-- a cell stored is growth of its block alone -/
theorem mset (w : World) (p : Addr) (u : Value) : w.grownBy (w.setCell p u) (some p.block) :=
  ⟨rfl, rfl, rfl, by simp [World.setCell], fun k _ hk => by
    simp only [World.setCell, Array.getElem?_modify]
    rw [if_neg (fun e => hk (by rw [e]))]⟩
theorem mown_set {w : World} {base : Nat} {e : TypeId} {size n : Nat} {v : Value} {xs : List Value} (h : w.ownsRow base e size v n xs) {p : Addr} (hp : v.ownBlock ≠ some p.block) (u : Value) : (w.setCell p u).ownsRow base e size v n xs :=
  h.kept (mset w p u) (.inr hp)
/-- growth of block g alone, and then of a block that is newer than the beginning (or of g once more) -/
theorem mgrown {w0 w w1 : World} {row row' : Option Nat} (h : w0.grownBy w row) (h1 : w.grownBy w1 row') (hr : ∀ k, row' = some k → row = some k ∨ w0.heap.size ≤ k) : w0.grownBy w1 row :=
  ⟨h1.os.trans h.os, h1.tape.trans h.tape, h1.output.trans h.output, Nat.le_trans h.size h1.size, fun k hk hne =>
    (h1.block k (Nat.lt_of_lt_of_le hk h.size) (fun e => by
      rcases hr k e.symm with e' | e'
      · exact hne e'.symm
      · omega)).trans (h.block k hk hne)⟩
end Go.Proofs.Ytfjnphiegoogoaa

/- Sch -/
namespace Go.Proofs.Ytfjnphiegoogoaa
open Go.ChangeShapes Go.WideShapes Go.ChangeAt Go.RowKit
set_option linter.unusedVariables false
set_option linter.unusedSimpArgs false

/-- an attribute: its name and its kind -/
abbrev SF := ByteArray × Int
/-- a type: its name and its attributes -/
abbrev ST := ByteArray × List SF
def fcells (fs : List SF) : List Value := fs.flatMap fun f => [.string f.1, .int .i64 f.2]
theorem fcells_length (fs : List SF) : (fcells fs).length = fs.length * 2 := by
  induction fs with
  | nil => rfl
  | cons v vs ih => simp only [fcells, List.flatMap_cons, List.length_append, List.length_cons, List.length_nil] at *; omega
theorem fcells_snoc (fs : List SF) (k : Nat) (f : SF) (h : fs[k]? = some f) : fcells (fs.take (k + 1)) = fcells (fs.take k) ++ [.string f.1, .int .i64 f.2] := by
  rw [List.take_add_one, h]
  simp [fcells]
theorem fcells_at (fs : List SF) : ∀ (i : Nat) (f : SF), fs[i]? = some f → (fcells fs)[i * 2]? = some (.string f.1) ∧ (fcells fs)[i * 2 + 1]? = some (.int .i64 f.2) := by
  induction fs with
  | nil => intro i f h; simp at h
  | cons v vs ih =>
    intro i f h
    cases i with
    | zero => simp at h; subst h; exact ⟨rfl, rfl⟩
    | succ i =>
      have := ih i f (by simpa using h)
      rw [show (i + 1) * 2 = i * 2 + 2 by omega]
      exact this
/-- types as cells: their names and the slices of their attributes -/
def tcells (ts : List ST) (us : List Value) : List Value := (ts.zip us).flatMap fun p => [.string p.1.1, p.2]

/-- a slice that reads as attributes -/
def FieldsIn (w : World) (v : Value) (fs : List SF) : Prop := ∃ A cap, v = .slice A fs.length cap ∧ (0 < fs.length → ∃ b off, A = some ⟨b, off, none⟩ ∧ ∀ (i : Nat) (f : SF), fs[i]? = some f → w.cell? ⟨b, off + i * 2, none⟩ = some (.string f.1) ∧ w.cell? ⟨b, off + i * 2 + 1, none⟩ = some (.int .i64 f.2))
/-- a slice that reads as types -/
def TypesIn (w : World) (v : Value) (ts : List ST) : Prop := ∃ A cap, v = .slice A ts.length cap ∧ (0 < ts.length → ∃ b off, A = some ⟨b, off, none⟩ ∧ ∀ (i : Nat) (t : ST), ts[i]? = some t → ∃ u, w.cell? ⟨b, off + i * 2, none⟩ = some (.string t.1) ∧ w.cell? ⟨b, off + i * 2 + 1, none⟩ = some u ∧ FieldsIn w u t.2)
/-- a slice that reads as texts -/
def SymsIn (w : World) (v : Value) (ss : List ByteArray) : Prop := ∃ A cap, v = .slice A ss.length cap ∧ (ss.length ≤ cap ∧ cap ≤ maxLen) ∧ (0 < ss.length → ∃ b off, A = some ⟨b, off, none⟩ ∧ ∀ (i : Nat) (s : ByteArray), ss[i]? = some s → w.cell? ⟨b, off + i, none⟩ = some (.string s))

theorem FieldsIn.later {w w1 : World} {v : Value} {fs : List SF} (h : FieldsIn w v fs) (hb : Below w.heap.size w w1) : FieldsIn w1 v fs := by
  obtain ⟨A, cap, rfl, hc⟩ := h
  refine ⟨A, cap, rfl, fun hn => ?_⟩
  obtain ⟨b, off, rfl, hx⟩ := hc hn
  exact ⟨b, off, rfl, fun i f hi => ⟨cell_later hb (hx i f hi).1, cell_later hb (hx i f hi).2⟩⟩
theorem TypesIn.later {w w1 : World} {v : Value} {ts : List ST} (h : TypesIn w v ts) (hb : Below w.heap.size w w1) : TypesIn w1 v ts := by
  obtain ⟨A, cap, rfl, hc⟩ := h
  refine ⟨A, cap, rfl, fun hn => ?_⟩
  obtain ⟨b, off, rfl, hx⟩ := hc hn
  refine ⟨b, off, rfl, fun i t hi => ?_⟩
  obtain ⟨u, h0, h1, h2⟩ := hx i t hi
  exact ⟨u, cell_later hb h0, cell_later hb h1, h2.later hb⟩
theorem SymsIn.later {w w1 : World} {v : Value} {ss : List ByteArray} (h : SymsIn w v ss) (hb : Below w.heap.size w w1) : SymsIn w1 v ss := by
  obtain ⟨A, cap, rfl, hcap, hc⟩ := h
  refine ⟨A, cap, rfl, hcap, fun hn => ?_⟩
  obtain ⟨b, off, rfl, hx⟩ := hc hn
  exact ⟨b, off, rfl, fun i s hi => cell_later hb (hx i s hi)⟩

theorem addr_add (g j : Nat) : (⟨g, j, none⟩ : Addr) = (⟨g, 0, none⟩ : Addr).add j := by unfold Addr.add; split <;> simp_all
theorem own_fields {w : World} {base : Nat} {e : TypeId} {v : Value} {fs : List SF} (h : w.ownsRow base e 2 v fs.length (fcells fs)) : FieldsIn w v fs := by
  rcases h.2 with ⟨rfl, h0⟩ | ⟨g, cap, cur, rfl, _⟩
  · exact ⟨none, 0, by rw [h0], fun hp => by omega⟩
  · refine ⟨_, cap, rfl, fun _ => ⟨g, 0, rfl, fun i f hi => ?_⟩⟩
    have hc := h.cells (g := g) rfl
    have hx := fcells_at fs i f hi
    rw [Nat.zero_add, addr_add g (i * 2), addr_add g (i * 2 + 1)]
    exact ⟨hc _ _ hx.1, hc _ _ hx.2⟩
theorem tcells_at : ∀ (ts : List ST) (us : List Value), us.length = ts.length → ∀ (i : Nat) (t : ST), ts[i]? = some t → ∃ u, us[i]? = some u ∧ (tcells ts us)[i * 2]? = some (.string t.1) ∧ (tcells ts us)[i * 2 + 1]? = some u
  | [], us, _, i, t, h => by simp at h
  | t0 :: ts, [], hl, _, _, _ => by simp at hl
  | t0 :: ts, u0 :: us, hl, i, t, h => by
    cases i with
    | zero => simp at h; subst h; exact ⟨u0, rfl, rfl, rfl⟩
    | succ i =>
      obtain ⟨u, h0, h1, h2⟩ := tcells_at ts us (by simpa using hl) i t (by simpa using h)
      refine ⟨u, by simpa using h0, ?_⟩
      rw [show (i + 1) * 2 = i * 2 + 2 by omega]
      exact ⟨h1, h2⟩
theorem tcells_snoc (ts : List ST) (us : List Value) (k : Nat) (t : ST) (u : Value) (h : ts[k]? = some t) (hl : us.length = k) : tcells (ts.take (k + 1)) (us ++ [u]) = tcells (ts.take k) us ++ [.string t.1, u] := by
  have hk : k < ts.length := (List.getElem?_eq_some_iff.1 h).1
  have hl2 : (ts.take k).length = us.length := by rw [List.length_take]; omega
  rw [List.take_add_one, h]
  unfold tcells
  simp only [Option.toList_some]
  rw [List.zip_append hl2]
  simp
theorem own_types {w : World} {base base' : Nat} {e e' : TypeId} {v : Value} {ts : List ST} {us : List Value} (hl : us.length = ts.length) (h : w.ownsRow base e 2 v ts.length (tcells ts us))
    (hu : ∀ (i : Nat) (t : ST) (u : Value), ts[i]? = some t → us[i]? = some u → w.ownsRow base' e' 2 u t.2.length (fcells t.2)) : TypesIn w v ts := by
  rcases h.2 with ⟨rfl, h0⟩ | ⟨g, cap, cur, rfl, _⟩
  · exact ⟨none, 0, by rw [h0], fun hp => by omega⟩
  · refine ⟨_, cap, rfl, fun _ => ⟨g, 0, rfl, fun i t hi => ?_⟩⟩
    have hc := h.cells (g := g) rfl
    obtain ⟨u, hx, h0, h1⟩ := tcells_at ts us hl i t hi
    rw [Nat.zero_add, addr_add g (i * 2), addr_add g (i * 2 + 1)]
    exact ⟨u, hc _ _ h0, hc _ _ h1, own_fields (hu i t u hi hx)⟩
theorem own_syms {w : World} {base : Nat} {e : TypeId} {v : Value} {ss : List ByteArray} (h : w.ownsRow base e 1 v ss.length (ss.map Value.string)) : SymsIn w v ss := by
  rcases h.2 with ⟨rfl, h0⟩ | ⟨g, cap, cur, rfl, _, _, hnc, hcm, _⟩
  · exact ⟨none, 0, by rw [h0], ⟨by omega, by unfold maxLen; omega⟩, fun hp => by omega⟩
  · refine ⟨_, cap, rfl, ⟨hnc, hcm⟩, fun _ => ⟨g, 0, rfl, fun i s hi => ?_⟩⟩
    have hc := h.cells (g := g) rfl
    rw [Nat.zero_add, addr_add g i]
    exact hc i (.string s) (by rw [List.getElem?_map, hi]; rfl)
end Go.Proofs.Ytfjnphiegoogoaa

/- Find -/
namespace Go.Proofs.Ytfjnphiegoogoaa
open Go.ChangeShapes Go.WideShapes Go.ChangeAt Go.RowKit
set_option linter.unusedVariables false
set_option linter.unusedSimpArgs false

/-- the first place at which p holds; -1 -/
def placeFrom {α : Type} (p : α → Bool) : List α → Nat → Int
  | [], _ => -1
  | x :: r, i => if p x then (i : Int) else placeFrom p r (i + 1)
def place {α : Type} (p : α → Bool) (l : List α) : Int := placeFrom p l 0
theorem placeFrom_hit {α : Type} (p : α → Bool) : ∀ (l : List α) (i k : Nat) (x : α), l[k]? = some x → p x = true → (∀ (j : Nat) (y : α), j < k → l[j]? = some y → p y = false) → placeFrom p l i = ((i + k : Nat) : Int)
  | [], i, k, x, h, _, _ => by simp at h
  | a :: r, i, 0, x, h, hp, _ => by
    simp at h
    subst h
    simp [placeFrom, hp]
  | a :: r, i, k + 1, x, h, hp, hn => by
    have h0 := hn 0 a (by omega) rfl
    have := placeFrom_hit p r (i + 1) k x (by simpa using h) hp (fun j y hj hy => hn (j + 1) y (by omega) (by simpa using hy))
    simp only [placeFrom, h0]
    rw [if_neg (by decide), this]
    congr 1
    omega
theorem placeFrom_miss {α : Type} (p : α → Bool) : ∀ (l : List α) (i : Nat), (∀ (j : Nat) (y : α), l[j]? = some y → p y = false) → placeFrom p l i = -1
  | [], i, _ => rfl
  | a :: r, i, hn => by
    have h0 := hn 0 a rfl
    simp only [placeFrom, h0]
    rw [if_neg (by decide)]
    exact placeFrom_miss p r (i + 1) (fun j y hy => hn (j + 1) y (by simpa using hy))
theorem place_hit {α : Type} (p : α → Bool) (l : List α) (k : Nat) (x : α) (h : l[k]? = some x) (hp : p x = true) (hn : ∀ (j : Nat) (y : α), j < k → l[j]? = some y → p y = false) : place p l = (k : Int) := by
  unfold place
  rw [placeFrom_hit p l 0 k x h hp hn, Nat.zero_add]
theorem place_miss {α : Type} (p : α → Bool) (l : List α) (hn : ∀ (j : Nat) (y : α), l[j]? = some y → p y = false) : place p l = -1 := placeFrom_miss p l 0 hn
theorem fret_int {a b : Int} (h : a = b) : Ending.returned (.int .i64 a) = .returned (.int .i64 b) := by rw [h]

def TypesAt (w : World) (A : Option Addr) (ts : List ST) : Prop := 0 < ts.length → ∃ b off, A = some ⟨b, off, none⟩ ∧ ∀ (i : Nat) (t : ST), ts[i]? = some t → ∃ u, w.cell? ⟨b, off + i * 2, none⟩ = some (.string t.1) ∧ w.cell? ⟨b, off + i * 2 + 1, none⟩ = some u ∧ FieldsIn w u t.2
def FieldsAt (w : World) (A : Option Addr) (fs : List SF) : Prop := 0 < fs.length → ∃ b off, A = some ⟨b, off, none⟩ ∧ ∀ (i : Nat) (f : SF), fs[i]? = some f → w.cell? ⟨b, off + i * 2, none⟩ = some (.string f.1) ∧ w.cell? ⟨b, off + i * 2 + 1, none⟩ = some (.int .i64 f.2)
def SymsAt (w : World) (A : Option Addr) (ss : List ByteArray) : Prop := 0 < ss.length → ∃ b off, A = some ⟨b, off, none⟩ ∧ ∀ (i : Nat) (s : ByteArray), ss[i]? = some s → w.cell? ⟨b, off + i, none⟩ = some (.string s)

end Go.Proofs.Ytfjnphiegoogoaa

/- SchC -/
namespace Go.Proofs.Ytfjnphiegoogoaa
open Go.ChangeShapes Go.WideShapes Go.ChangeAt Go.RowKit
set_option linter.unusedVariables false
set_option linter.unusedSimpArgs false

def typeOf (ts : List ST) (name : ByteArray) : Int := place (fun t : ST => t.1.toList == name.toList) ts
def fieldOf (fs : List SF) (name : ByteArray) : Int := place (fun f : SF => f.1.toList == name.toList) fs
def textOf (ss : List ByteArray) (name : ByteArray) : Int := place (fun t : ByteArray => t.toList == name.toList) ss
def attrOf (ts : List ST) (t : Int) (name : ByteArray) : Int := if 0 ≤ t then (match ts[t.toNat]? with | some x => fieldOf x.2 name | none => -1) else -1
def kindOf (ts : List ST) (t a : Int) : Int := if 0 ≤ t then (match ts[t.toNat]? with | some x => if a = -1 then 1 else if 0 ≤ a then (match x.2[a.toNat]? with | some f => f.2 | none => 0) else 0 | none => 0) else 0
theorem attrOf_in {ts : List ST} {k : Nat} {x : ST} (h : ts[k]? = some x) (name : ByteArray) : attrOf ts (k : Int) name = fieldOf x.2 name := by
  unfold attrOf
  rw [if_pos (by omega), Int.toNat_natCast, h]
theorem attrOf_out {ts : List ST} {t : Int} (h : ¬ (0 ≤ t ∧ t < (ts.length : Int))) (name : ByteArray) : attrOf ts t name = -1 := by
  unfold attrOf
  by_cases c : 0 ≤ t
  · rw [if_pos c, List.getElem?_eq_none (by omega)]
  · rw [if_neg c]
theorem kindOf_out {ts : List ST} {t : Int} (h : ¬ (0 ≤ t ∧ t < (ts.length : Int))) (a : Int) : kindOf ts t a = 0 := by
  unfold kindOf
  by_cases c : 0 ≤ t
  · rw [if_pos c, List.getElem?_eq_none (by omega)]
  · rw [if_neg c]
theorem kindOf_in {ts : List ST} {k : Nat} {x : ST} (h : ts[k]? = some x) (a : Int) : kindOf ts (k : Int) a = if a = -1 then 1 else if 0 ≤ a then (match x.2[a.toNat]? with | some f => f.2 | none => 0) else 0 := by
  unfold kindOf
  rw [if_pos (by omega), Int.toNat_natCast, h]

theorem FieldsAt.later {w w1 : World} {A : Option Addr} {fs : List SF} (h : FieldsAt w A fs) (hb : Below w.heap.size w w1) : FieldsAt w1 A fs := fun hp => by
  obtain ⟨b, off, e, h⟩ := h hp
  exact ⟨b, off, e, fun i t hi => ⟨cell_later hb (h i t hi).1, cell_later hb (h i t hi).2⟩⟩
theorem TypesAt.later {w w1 : World} {A : Option Addr} {ts : List ST} (h : TypesAt w A ts) (hb : Below w.heap.size w w1) : TypesAt w1 A ts := fun hp => by
  obtain ⟨b, off, e, h⟩ := h hp
  exact ⟨b, off, e, fun i t hi => by
    obtain ⟨u, h0, h1, h2⟩ := h i t hi
    exact ⟨u, cell_later hb h0, cell_later hb h1, h2.later hb⟩⟩
theorem SymsAt.later {w w1 : World} {A : Option Addr} {ss : List ByteArray} (h : SymsAt w A ss) (hb : Below w.heap.size w w1) : SymsAt w1 A ss := fun hp => by
  obtain ⟨b, off, e, h⟩ := h hp
  exact ⟨b, off, e, fun i t hi => cell_later hb (h i t hi)⟩
/-- the k-th type as it lies in memory -/
theorem TypesAt.at_ {w : World} {A : Option Addr} {ts : List ST} (h : TypesAt w A ts) {k : Nat} {x : ST} (hk : ts[k]? = some x) :
    ∃ b off FA fcap, A = some ⟨b, off, none⟩ ∧ w.cell? ⟨b, off + k * 2, none⟩ = some (.string x.1) ∧ w.cell? ⟨b, off + k * 2 + 1, none⟩ = some (.slice FA x.2.length fcap) ∧ FieldsAt w FA x.2 := by
  obtain ⟨b, off, e, h⟩ := h (by have := (List.getElem?_eq_some_iff.1 hk).1; omega)
  obtain ⟨u, h0, h1, FA, fcap, rfl, h2⟩ := h k x hk
  exact ⟨b, off, FA, fcap, e, h0, h1, h2⟩

end Go.Proofs.Ytfjnphiegoogoaa

/- SchR -/
namespace Go.Proofs.Ytfjnphiegoogoaa
open Go.ChangeShapes Go.WideShapes Go.ChangeAt Go.RowKit
set_option linter.unusedVariables false
set_option linter.unusedSimpArgs false

end Go.Proofs.Ytfjnphiegoogoaa

/- Key -/
namespace Go.Proofs.Ytfjnphiegoogoaa
open Go.ChangeShapes Go.WideShapes Go.ChangeAt Go.RowKit
set_option linter.unusedVariables false
set_option linter.unusedSimpArgs false

def IntsAt (w : World) (A : Option Addr) (zs : List Int) : Prop := 0 < zs.length → ∃ b off, A = some ⟨b, off, none⟩ ∧ ∀ (i : Nat) (z : Int), zs[i]? = some z → w.cell? ⟨b, off + i, none⟩ = some (.int .i64 z)
theorem IntsAt.later {w w1 : World} {A : Option Addr} {zs : List Int} (h : IntsAt w A zs) (hb : Below w.heap.size w w1) : IntsAt w1 A zs := fun hp => by
  obtain ⟨b, off, e, h⟩ := h hp
  exact ⟨b, off, e, fun i t hi => cell_later hb (h i t hi)⟩
def icells (zs : List Int) : List Value := zs.map (Value.int .i64)
theorem own_ints {w : World} {base : Nat} {e : TypeId} {v : Value} {zs : List Int} (h : w.ownsRow base e 1 v zs.length (icells zs)) : ∃ A cap, v = .slice A zs.length cap ∧ IntsAt w A zs := by
  rcases h.2 with ⟨rfl, h0⟩ | ⟨g, cap, cur, rfl, _⟩
  · exact ⟨none, 0, by rw [h0], fun hp => by omega⟩
  · refine ⟨_, cap, rfl, fun _ => ⟨g, 0, rfl, fun i z hi => ?_⟩⟩
    have hc := h.cells (g := g) rfl
    rw [Nat.zero_add, addr_add g i]
    exact hc i (.int .i64 z) (by unfold icells; rw [List.getElem?_map, hi]; rfl)

/-- in each type the attribute of a name -/
def keyOf (ts : List ST) (name : ByteArray) : List Int := (List.range ts.length).map fun (i : Nat) => attrOf ts (i : Int) name
theorem keyOf_length (ts : List ST) (name : ByteArray) : (keyOf ts name).length = ts.length := by simp [keyOf]
theorem keyOf_at (ts : List ST) (name : ByteArray) (k : Nat) (h : k < ts.length) : (keyOf ts name)[k]? = some (attrOf ts (k : Int) name) := by
  unfold keyOf
  rw [List.getElem?_map, List.getElem?_range h]
  rfl
theorem keyOf_snoc (ts : List ST) (name : ByteArray) (k : Nat) (h : k < ts.length) : icells ((keyOf ts name).take (k + 1)) = icells ((keyOf ts name).take k) ++ [.int .i64 (attrOf ts (k : Int) name)] := by
  rw [List.take_add_one, keyOf_at ts name k h]
  simp [icells]
theorem infoInt : (Try.prog.info? 3).map (fun i => (i.zero, i.size, i.bytes)) = some (some (.int .i64 0), 1, 8) := by kernel_rfl

def KeyR (u : World) (ts : List ST) (name : ByteArray) (v i : Value) (wr : World) : Prop :=
  ∃ k : Nat, k ≤ ts.length ∧ i = .int .i64 (k : Int) ∧ wr.ownsRow u.heap.size 3 1 v k (icells ((keyOf ts name).take k)) ∧ Below u.heap.size u wr

end Go.Proofs.Ytfjnphiegoogoaa

/- Words -/
namespace Go.Proofs.Ytfjnphiegoogoaa
open Go.RowKit

theorem block_of_add (a : Addr) (n : Nat) : (a.add n).block = a.block := by unfold Addr.add; split <;> rfl
theorem add_of_add (a : Addr) (i j : Nat) : (a.add i).add j = a.add (i + j) := by
  unfold Addr.add
  by_cases hi : i = 0 <;> by_cases hj : j = 0 <;> simp [hi, hj, Nat.add_assoc]

def Reads (w : World) (B size : Nat) (A : Option Addr) (n : Nat) (xs : List Value) : Prop :=
  xs.length = n * size ∧ (0 < n → ∃ ad, A = some ad ∧ ad.block < B ∧ ∀ j u, xs[j]? = some u → w.cell? (ad.add j) = some u)

section
variable {w w' : World} {B B' size n : Nat} {A : Option Addr} {xs : List Value}
theorem Reads.none_ : Reads w B size A 0 [] := ⟨by simp, fun h => absurd h (by omega)⟩
theorem Reads.at_ {k : Nat} (h : Reads w B 1 A n xs) (hk : k < n) : ∃ ad u, A = some ad ∧ ad.block < B ∧ xs[k]? = some u ∧ w.cell? (ad.add k) = some u := by
  obtain ⟨ad, e, hb, hc⟩ := h.2 (by omega)
  have hl : k < xs.length := by have := h.1; omega
  exact ⟨ad, xs[k], e, hb, List.getElem?_eq_getElem hl, hc k _ (List.getElem?_eq_getElem hl)⟩
theorem Reads.keep (h : Reads w B size A n xs) (hk : ∀ p : Addr, p.block < B → w'.cell? p = w.cell? p) : Reads w' B size A n xs :=
  ⟨h.1, fun hn => by
    obtain ⟨ad, e, hb, hc⟩ := h.2 hn
    exact ⟨ad, e, hb, fun j u hu => (hk _ (by rw [block_of_add]; exact hb)).trans (hc j u hu)⟩⟩
theorem Reads.more (h : Reads w B size A n xs) (hB : B ≤ B') : Reads w B' size A n xs :=
  ⟨h.1, fun hn => by
    obtain ⟨ad, e, hb, hc⟩ := h.2 hn
    exact ⟨ad, e, by omega, hc⟩⟩
theorem Reads.below (h : Reads w B size A n xs) (hb : Below B w w') : Reads w' B size A n xs := h.keep fun _ hp => hb.cell hp
theorem Reads.drew (h : Reads w B size A n xs) : Reads w.drew B size A n xs := h
theorem Reads.drewN (h : Reads w B size A n xs) (k : Nat) : Reads (w.drewN k) B size A n xs := h
theorem Reads.alloc (h : Reads w B size A n xs) (hB : B ≤ w.heap.size) (o : Obj) : Reads (w.alloc o) B size A n xs := h.keep fun p hp => World.cell?_alloc_lt w o p (by omega)
theorem Reads.setCell (h : Reads w B size A n xs) {p : Addr} (hB : B ≤ p.block) (u : Value) : Reads (w.setCell p u) B size A n xs :=
  h.keep fun q hq => World.cell?_setCell_other w p q u (fun e => by subst e; omega)
theorem Reads.grown (h : Reads w B size A n xs) {row : Option Nat} (hg : w.grownBy w' row) (hB : B ≤ w.heap.size) (hr : ∀ g, row = some g → B ≤ g) : Reads w' B size A n xs :=
  h.keep fun p hp => World.cell?_of_block (hg.block p.block (by omega) (fun e => by have := hr _ e.symm; omega))
theorem Reads.cut (h : Reads w B size A n xs) {k cap : Nat} (hk : k ≤ n) (hc : n ≤ cap) :
    Reads w B size (if cap = k then A else A.map (·.add (k * size))) (n - k) (xs.drop (k * size)) := by
  refine ⟨by rw [List.length_drop, h.1, Nat.sub_mul], fun hn => ?_⟩
  obtain ⟨ad, rfl, hb, hcell⟩ := h.2 (by omega)
  rw [if_neg (by omega)]
  refine ⟨ad.add (k * size), rfl, by rw [block_of_add]; exact hb, fun j u hu => ?_⟩
  rw [add_of_add]
  exact hcell _ u (by rw [← hu, List.getElem?_drop])
theorem Reads.of_own {base : Nat} {e : TypeId} {c : Nat} (h : w.ownsRow base e size (.slice A n c) n xs) : Reads w w.heap.size size A n xs := by
  refine ⟨h.1, fun hn => ?_⟩
  obtain ⟨g, cap, hv, _, hlt⟩ := h.form hn
  have hA : A = some ⟨g, 0, none⟩ := by injection hv
  subst hA
  exact ⟨_, rfl, hlt, h.cells (g := g) rfl⟩
end

section
variable {P : Program} (w : World)

theorem run_append_of_nil (base : Nat) (t ty e : TypeId) (i : TypeInfo) (size : Nat) (ht : P.underlying t = some (.slice e)) (hi : P.info? e = some i)
    (v : Value) (n : Nat) (xs : List Value) (hown : w.ownsRow base e size v n xs) (c : Nat) : (Builtin.append_ #[t, t] ty #[v, .slice none 0 c]).run P w = .ok v w := by
  rcases hown.2 with ⟨rfl, rfl⟩ | ⟨g, cap, cur, rfl, _, _, hnc, _⟩
  · simp [Builtin.append_, run_underlying ht, sizeOf, typeInfo, hi, Builtin.lenOf, Builtin.firstCells]
  · simp [Builtin.append_, run_underlying ht, sizeOf, typeInfo, hi, Builtin.lenOf, Builtin.firstCells, hnc, storeCells]

theorem run_append_any (base : Nat) (t ty e : TypeId) (i : TypeInfo) (z : Value) (size bytes : Nat) (ht : P.underlying t = some (.slice e)) (hi : P.info? e = some i) (hz : i.zero = some z)
    (hsize : i.size = size) (hby : i.bytes = bytes) (hzs : z.cells.size = size) (hsz : 0 < size)
    (v : Value) (n : Nat) (xs : List Value) (hown : w.ownsRow base e size v n xs)
    (B : Nat) (A : Option Addr) (m c : Nat) (news : List Value) (hr : Reads w B size A m news) (h1 : ∀ u ∈ news, u.oneCell' = true)
    (h63 : n + m ≤ maxLen) (hbytes : (n + m) * bytes ≤ 140737488355328) (hbase : base ≤ w.heap.size) :
    ∃ v' w', (Builtin.append_ #[t, t] ty #[v, .slice A m c]).run P w = .ok v' w' ∧ w'.ownsRow base e size v' (n + m) (xs ++ news) ∧ w.grownBy w' v.ownBlock ∧
      (v'.ownBlock = v.ownBlock ∨ v'.ownBlock = some w.heap.size) := by
  rcases A with _ | ad
  · have hm : m = 0 := by
      rcases Nat.eq_zero_or_pos m with h0 | h0
      · exact h0
      · obtain ⟨ad, h, _⟩ := hr.2 h0
        cases h
    subst hm
    have hn : news = [] := List.eq_nil_of_length_eq_zero (by simpa using hr.1)
    subst hn
    exact ⟨v, w, run_append_of_nil w base t ty e i size ht hi v n xs hown c, by simpa using hown, World.grownBy.refl w _, .inl rfl⟩
  · have hcells : ∀ j u, news[j]? = some u → w.cell? (ad.add j) = some u := by
      intro j u hu
      rcases Nat.eq_zero_or_pos m with h0 | h0
      · subst h0
        have hn : news = [] := List.eq_nil_of_length_eq_zero (by simpa using hr.1)
        subst hn
        simp at hu
      · obtain ⟨ad', h, _, hc⟩ := hr.2 h0
        injection h with h
        subst h
        exact hc j u hu
    obtain ⟨v', w', hrun, h2, h3, _, h5⟩ := run_append_own_at (P := P) w base t ty e i z size bytes ht hi hz hsize hby hzs hsz v n xs hown ad m c news hr.1 hcells h1 h63 hbytes hbase
    exact ⟨v', w', hrun, h2, h3, h5⟩

theorem wp_append_any {o : Oper} {a : Act} {K : Act → World → Prop} {Q : Exit → Act → World → Prop} (s x : Operand) (t : TypeId)
    (ho : o.op = .call { callee := .builtin .append, args := #[s, x], argTypes := #[t, t] })
    (base : Nat) (e : TypeId) (i : TypeInfo) (z : Value) (size bytes : Nat) (ht : P.underlying t = some (.slice e)) (hi : P.info? e = some i) (hz : i.zero = some z)
    (hsize : i.size = size) (hby : i.bytes = bytes) (hzs : z.cells.size = size) (hsz : 0 < size)
    (v : Value) (n : Nat) (xs : List Value) (hs : a.eval s = v) (hown : w.ownsRow base e size v n xs)
    (B : Nat) (A : Option Addr) (m c : Nat) (news : List Value) (hx : a.eval x = .slice A m c) (hr : Reads w B size A m news) (h1 : ∀ u ∈ news, u.oneCell' = true)
    (h63 : n + m ≤ maxLen) (hbytes : (n + m) * bytes ≤ 140737488355328) (hbase : base ≤ w.heap.size)
    (h : ∀ v' w', w'.ownsRow base e size v' (n + m) (xs ++ news) → w.grownBy w' v.ownBlock → (v'.ownBlock = v.ownBlock ∨ v'.ownBlock = some w.heap.size) → K (a.put o.dst v') w') : o.wp P a w K Q := by
  obtain ⟨v', w', hrun, h2, h3, h4⟩ := run_append_any (P := P) w base t o.type e i z size bytes ht hi hz hsize hby hzs hsz v n xs hown B A m c news hr h1 h63 hbytes hbase
  unfold Oper.wp execOp
  simp only [ho, resolve, invoke, builtin, Sem.run_bind, Sem.run_pure, Result.andThen_ok, List.map_toArray, List.map_cons, List.map_nil, hs, hx, hrun]
  exact h v' w' h2 h3 h4

theorem wpList_append_any {ops : Array Oper} {rest : List Oper} {o : Oper} {a : Act} {Q : Exit → Act → World → Prop} (hgd : o.guard = none) (s x : Operand) (t : TypeId)
    (ho : o.op = .call { callee := .builtin .append, args := #[s, x], argTypes := #[t, t] })
    (base : Nat) (e : TypeId) (i : TypeInfo) (z : Value) (size bytes : Nat) (ht : P.underlying t = some (.slice e)) (hi : P.info? e = some i) (hz : i.zero = some z)
    (hsize : i.size = size) (hby : i.bytes = bytes) (hzs : z.cells.size = size) (hsz : 0 < size)
    (v : Value) (n : Nat) (xs : List Value) (hs : a.eval s = v) (hown : w.ownsRow base e size v n xs)
    (B : Nat) (A : Option Addr) (m c : Nat) (news : List Value) (hx : a.eval x = .slice A m c) (hr : Reads w B size A m news) (h1 : ∀ u ∈ news, u.oneCell' = true)
    (h63 : n + m ≤ maxLen) (hbytes : (n + m) * bytes ≤ 140737488355328) (hbase : base ≤ w.heap.size)
    (h : ∀ v' w', w'.ownsRow base e size v' (n + m) (xs ++ news) → w.grownBy w' v.ownBlock → (v'.ownBlock = v.ownBlock ∨ v'.ownBlock = some w.heap.size) → wpList P ops Q rest (a.put o.dst v') w') : wpList P ops Q (o :: rest) a w :=
  wpList_plain hgd fun _ hK => wp_append_any w s x t ho base e i z size bytes ht hi hz hsize hby hzs hsz v n xs hs hown B A m c news hx hr h1 h63 hbytes hbase fun v' w' h2 h3 h4 => hK _ _ (h v' w' h2 h3 h4)

theorem step_append_any {ops : Array Oper} {o : Oper} {a : Act} {K : Act → World → Prop} {Q : Exit → Act → World → Prop} {E : Prop} (hgd : o.guard = none) (s x : Operand) (t : TypeId)
    (ho : o.op = .call { callee := .builtin .append, args := #[s, x], argTypes := #[t, t] })
    (base : Nat) (e : TypeId) (i : TypeInfo) (z : Value) (size bytes : Nat) (ht : P.underlying t = some (.slice e)) (hi : P.info? e = some i) (hz : i.zero = some z)
    (hsize : i.size = size) (hby : i.bytes = bytes) (hzs : z.cells.size = size) (hsz : 0 < size)
    (v : Value) (n : Nat) (xs : List Value) (hs : a.eval s = v) (hown : w.ownsRow base e size v n xs)
    (B : Nat) (A : Option Addr) (m c : Nat) (news : List Value) (hx : a.eval x = .slice A m c) (hr : Reads w B size A m news) (h1 : ∀ u ∈ news, u.oneCell' = true)
    (h63 : n + m ≤ maxLen) (hbytes : (n + m) * bytes ≤ 140737488355328) (hbase : base ≤ w.heap.size)
    (h : ∀ v' w', w'.ownsRow base e size v' (n + m) (xs ++ news) → w.grownBy w' v.ownBlock → (v'.ownBlock = v.ownBlock ∨ v'.ownBlock = some w.heap.size) → K (a.put o.dst v') w') :
    if Region.wanted o (yielded ops a.tmps) = true then Oper.wp P o a w K Q else E := by
  have hw : Region.wanted o (yielded ops a.tmps) = true := by simp [Region.wanted, hgd]
  rw [if_pos hw]
  exact wp_append_any w s x t ho base e i z size bytes ht hi hz hsize hby hzs hsz v n xs hs hown B A m c news hx hr h1 h63 hbytes hbase h
end

theorem wpList_append_wanted {P : Program} (w : World) {ops : Array Oper} {rest : List Oper} {o : Oper} {a : Act} {Q : Exit → Act → World → Prop} (hw : Region.wanted o (yielded ops a.tmps) = true) (s x : Operand) (t : TypeId)
    (ho : o.op = .call { callee := .builtin .append, args := #[s, x], argTypes := #[t, t] })
    (base : Nat) (e : TypeId) (i : TypeInfo) (z : Value) (size bytes : Nat) (ht : P.underlying t = some (.slice e)) (hi : P.info? e = some i) (hz : i.zero = some z)
    (hsize : i.size = size) (hby : i.bytes = bytes) (hzs : z.cells.size = size) (hsz : 0 < size)
    (v : Value) (n : Nat) (xs : List Value) (hs : a.eval s = v) (hown : w.ownsRow base e size v n xs)
    (B : Nat) (A : Option Addr) (m c : Nat) (news : List Value) (hx : a.eval x = .slice A m c) (hr : Reads w B size A m news) (h1 : ∀ u ∈ news, u.oneCell' = true)
    (h63 : n + m ≤ maxLen) (hbytes : (n + m) * bytes ≤ 140737488355328) (hbase : base ≤ w.heap.size)
    (h : ∀ v' w', w'.ownsRow base e size v' (n + m) (xs ++ news) → w.grownBy w' v.ownBlock → (v'.ownBlock = v.ownBlock ∨ v'.ownBlock = some w.heap.size) → wpList P ops Q rest (a.put o.dst v') w') : wpList P ops Q (o :: rest) a w :=
  wpList_step fun K hK => by
    rw [if_pos hw]
    exact wp_append_any w s x t ho base e i z size bytes ht hi hz hsize hby hzs hsz v n xs hs hown B A m c news hx hr h1 h63 hbytes hbase fun v' w' h2 h3 h4 => hK _ _ (h v' w' h2 h3 h4)
end Go.Proofs.Ytfjnphiegoogoaa

/- Sto -/
namespace Go.Proofs.Ytfjnphiegoogoaa
open Go.ChangeShapes Go.WideShapes Go.ChangeAt Go.RowKit
set_option linter.unusedVariables false
set_option linter.unusedSimpArgs false

theorem infoText : (Try.prog.info? 9).map (fun i => (i.zero, i.size, i.bytes)) = some (some (.string ⟨#[]⟩), 1, 16) := by kernel_rfl

theorem block_of_add' {w : World} {b off : Nat} {v : Value} (h : w.cell? ⟨b, off, none⟩ = some v) : b < w.heap.size := mblock h
theorem own_one {w : World} {base : Nat} {e : TypeId} {size n : Nat} {v : Value} {xs : List Value} (h : w.ownsRow base e size v n xs) : v.oneCell' = true := by
  rcases h.2 with ⟨rfl, _⟩ | ⟨g, cap, cur, rfl, _⟩ <;> rfl

end Go.Proofs.Ytfjnphiegoogoaa

/- EvK -/
namespace Go.Proofs.Ytfjnphiegoogoaa
open Go.ChangeShapes Go.WideShapes Go.ChangeAt Go.RowKit
set_option linter.unusedVariables false
set_option linter.unusedSimpArgs false

/-- a value that reads as whole numbers -/
def IntsIn1 (w : World) (u : Value) (ks : List Int) : Prop := ∃ A cap, u = .slice A ks.length cap ∧ IntsAt w A ks
theorem IntsIn1.later {w w1 : World} {u : Value} {ks : List Int} (h : IntsIn1 w u ks) (hb : Below w.heap.size w w1) : IntsIn1 w1 u ks := by
  obtain ⟨A, cap, e, h⟩ := h
  exact ⟨A, cap, e, h.later hb⟩
/-- a slice that reads as rows of whole numbers -/
def KindsAt (w : World) (A : Option Addr) (kss : List (List Int)) : Prop := 0 < kss.length → ∃ b off, A = some ⟨b, off, none⟩ ∧ ∀ (i : Nat) (ks : List Int), kss[i]? = some ks → ∃ u, w.cell? ⟨b, off + i, none⟩ = some u ∧ IntsIn1 w u ks
theorem KindsAt.later {w w1 : World} {A : Option Addr} {kss : List (List Int)} (h : KindsAt w A kss) (hb : Below w.heap.size w w1) : KindsAt w1 A kss := fun hp => by
  obtain ⟨b, off, e, h⟩ := h hp
  refine ⟨b, off, e, fun i ks hi => ?_⟩
  obtain ⟨u, h0, h1⟩ := h i ks hi
  exact ⟨u, cell_later hb h0, h1.later hb⟩
def ksT (t : ST) : List Int := t.2.map (·.2)
def ksOf (ts : List ST) : List (List Int) := ts.map ksT
theorem ksOf_length (ts : List ST) : (ksOf ts).length = ts.length := by simp [ksOf]
theorem ksT_length (t : ST) : (ksT t).length = t.2.length := by simp [ksT]

/-- the rows, each of the call's own -/
def RowsOwn (w : World) (base : Nat) (ts : List ST) (us : List Value) : Prop := ∀ (i : Nat) (t : ST) (x : Value), ts[i]? = some t → us[i]? = some x → w.ownsRow base 3 1 x (ksT t).length (icells (ksT t))
theorem own_kinds {w : World} {base base' : Nat} {e : TypeId} {v : Value} {ts : List ST} {us : List Value} (hl : us.length = ts.length) (h : w.ownsRow base e 1 v ts.length us) (hu : RowsOwn w base' ts us) :
    ∃ A cap, v = .slice A ts.length cap ∧ KindsAt w A (ksOf ts) := by
  rcases h.2 with ⟨rfl, h0⟩ | ⟨g, cap, cur, rfl, _⟩
  · exact ⟨none, 0, by rw [h0], fun hp => by rw [ksOf_length] at hp; omega⟩
  · refine ⟨_, cap, rfl, fun _ => ⟨g, 0, rfl, fun i ks hi => ?_⟩⟩
    have hc := h.cells (g := g) rfl
    unfold ksOf at hi
    rw [List.getElem?_map] at hi
    obtain ⟨t, ht, rfl⟩ := Option.map_eq_some_iff.1 hi
    have hlt : i < us.length := by rw [hl]; exact (List.getElem?_eq_some_iff.1 ht).1
    have hx : us[i]? = some us[i] := List.getElem?_eq_getElem hlt
    refine ⟨us[i], ?_, ?_⟩
    · rw [Nat.zero_add, addr_add g i]
      exact hc i _ hx
    · obtain ⟨A', cap', e1, hI⟩ := own_ints (hu i t _ ht hx)
      exact ⟨A', cap', e1, hI⟩

theorem infoRow : (Try.prog.info? 43).map (fun i => (i.zero, i.size, i.bytes)) = some (some (.slice none 0 0), 1, 24) := by kernel_rfl

def KsR (u : World) (ts : List ST) (v i : Value) (wr : World) : Prop :=
  ∃ (k : Nat) (us : List Value), k ≤ ts.length ∧ i = .int .i64 (k : Int) ∧ us.length = k ∧ wr.ownsRow u.heap.size 43 1 v k us ∧ RowsOwn wr u.heap.size (ts.take k) us ∧ Below u.heap.size u wr
def KsI (u : World) (fs : List SF) (v i : Value) (wr : World) : Prop :=
  ∃ j : Nat, j ≤ fs.length ∧ i = .int .i64 (j : Int) ∧ wr.ownsRow u.heap.size 3 1 v j (icells ((fs.map (·.2)).take j)) ∧ Below u.heap.size u wr
theorem ics_snoc (fs : List SF) (k : Nat) (f : SF) (h : fs[k]? = some f) : icells ((fs.map (·.2)).take (k + 1)) = icells ((fs.map (·.2)).take k) ++ [.int .i64 f.2] := by
  rw [List.take_add_one, List.getElem?_map, h]
  simp [icells]

end Go.Proofs.Ytfjnphiegoogoaa

/- SchO -/
namespace Go.Proofs.Ytfjnphiegoogoaa
open Go.ChangeShapes Go.WideShapes Go.ChangeAt Go.RowKit Go.Deep Go.Joins
set_option linter.unusedVariables false
set_option linter.unusedSimpArgs false

section
variable {H : Type} {P : Program}
/-- what is read of d is within the reach -/
def WB (P : Program) (t : TypeId) (d : DataW H) : Prop := ∀ n ∈ d.weights P t, n ≤ reachBytes
theorem wb_each {ts : List TypeId} {ds : List (DataW H)} (h : (DataW.weightsEach P ts ds).all (· ≤ reachBytes) = true) {j : Nat} {t : TypeId} {d : DataW H} (ht : ts[j]? = some t) (hd : ds[j]? = some d) : WB P t d := fun n hn => by
  have := List.all_eq_true.1 h n (DataW.weights_mem_each ht hd n hn)
  simpa using this
theorem wb_agg {t : TypeId} {fs : Array Field} {parts : List (DataW H)} (hu : P.underlying t = some (.struct fs)) (h : WB P t (.agg parts)) {j : Nat} {ft : TypeId} {d : DataW H} (ht : (fs.toList.map (·.type))[j]? = some ft) (hd : parts[j]? = some d) : WB P ft d := fun n hn =>
  h n (by simp only [DataW.weights, hu]; exact DataW.weights_mem_each ht hd n hn)
theorem mem_weightsAll {e : TypeId} : ∀ {elems : List (DataW H)} {d : DataW H} {n : Nat}, d ∈ elems → n ∈ d.weights P e → n ∈ DataW.weightsAll P e elems
  | [], _, _, h, _ => by simp at h
  | a :: r, d, n, h, hn => by
    simp only [DataW.weightsAll, List.mem_append]
    rcases List.mem_cons.1 h with rfl | h
    · exact .inl hn
    · exact .inr (mem_weightsAll h hn)
theorem wb_slice {t e : TypeId} {elems spare : List (DataW H)} (hu : P.underlying t = some (.slice e)) (h : WB P t (.slice elems spare)) : elems.length * P.bytesOf e ≤ reachBytes ∧ ∀ d ∈ elems, WB P e d := by
  refine ⟨?_, fun d hd n hn => h n ?_⟩
  · have := h ((elems.length + spare.length) * P.bytesOf e) (by simp [DataW.weights, hu])
    exact Nat.le_trans (Nat.mul_le_mul_right _ (Nat.le_add_right _ _)) this
  · simp only [DataW.weights, hu, List.mem_cons, List.mem_append]
    exact .inr (.inl (mem_weightsAll hd hn))
end

section
variable {H : Type} {enc : TypeId × Value → H} {P : Program} {w : World} {base : Nat} {spare : Nat → Bool} {held : Bool}
/-- a slice of structs whose fields are of one cell each (from the guide's page of structs) -/
theorem open_slice_fields {t e : TypeId} {fs : Array Field} {fuel : Nat} {cs : List Value} {x : DataW H × List MemPlace} (ht : P.underlying t = some (.slice e)) (he : P.underlying e = some (.struct fs))
    (hone : oneCellFields P fs = true) (hC : P.cellsOf e = fs.size) (h : DataW.trod enc P w base spare held fuel t cs = some x) :
    (cs = [.slice none 0 0] ∧ x = (.nil, [])) ∨
    ∃ (a : Addr) (len cap m : Nat) (D : Nat → DataW H) (Pl : Nat → List MemPlace), cs = [.slice (some a) len cap] ∧ base ≤ a.block ∧ len ≤ cap ∧ cap ≤ maxLen ∧ m = (if spare a.block then cap else len) ∧
      x = (.slice ((List.range len).map D) ((List.range (m - len)).map fun j => D (len + j)), MemPlace.row a (m * fs.size) ++ (List.range m).flatMap Pl) ∧
      ∀ i, i < m → ∃ (ys : List (DataW H × List MemPlace)) (n : Nat), D i = .agg (ys.map (·.1)) ∧ Pl i = ys.flatMap (·.2) ∧ ys.length = fs.size ∧
        ∀ (j : Nat) (f : Field), fs[j]? = some f → ∃ (v : Value) (y : DataW H × List MemPlace), w.cell? (a.add (i * fs.size + j)) = some v ∧ ys[j]? = some y ∧ DataW.trod enc P w base spare held n f.type [v] = some y := by
  rcases open_slice ht h with h0 | ⟨a, len, cap, m, n, D, Pl, hcs, hb, hl, hm, hmm, hx, hi⟩
  · exact .inl h0
  · refine .inr ⟨a, len, cap, m, D, Pl, hcs, hb, hl, hm, hmm, by rw [hC] at hx; exact hx, fun i him => ?_⟩
    obtain ⟨cs', hc, ht'⟩ := hi i him
    rw [hC] at hc
    obtain ⟨ys, n', hn', hy, hlen, hyl, hf⟩ := DataW.trod_struct he ht'
    obtain ⟨_, hcl, hat⟩ := World.cells?_some hc
    simp only [Prod.mk.injEq] at hy
    refine ⟨ys, n', hy.1, hy.2, hyl, fun j f hj => ?_⟩
    obtain ⟨ho, hk⟩ := hone_of hone j f hj
    have hjl : j < fs.size := (Array.getElem?_eq_some_iff.1 hj).1
    have hcell := hat j hjl
    have hv : cs'[j]? = some (cs'[j]'(by omega)) := List.getElem?_eq_getElem (by omega)
    have h1 := hf j f hj
    rw [ho, hk] at h1
    have hone' : (cs'.drop j).take 1 = [cs'[j]'(by omega)] := by
      rw [List.drop_eq_getElem_cons (by omega)]
      rfl
    rw [hone'] at h1
    have hys : ys[j]? = some (ys[j]'(by omega)) := List.getElem?_eq_getElem (by omega)
    refine ⟨_, _, ?_, hys, h1.trans hys⟩
    rw [← Go.Deep.add_add, hcell, hv]

theorem okWide_arr {P : Program} {w : World} {r : Reach} {b0 n : Nat} {t e : TypeId} {v : Value} (ht : P.underlying t = some (.array n e)) (h : Value.okWide P w r b0 t v) : ∃ cs, v = .agg cs ∧ cs.size = P.cellsOf t := by
  simp only [Value.okWide, ht] at h
  obtain ⟨cs, h1, h2, _⟩ := h
  exact ⟨cs, h1, h2⟩
/-- two whole numbers in an array -/
theorem open_two {r : Reach} {b0 : Nat} {t e : TypeId} {v : Value} {d : DataW H} {p : List MemPlace} (ht : P.underlying t = some (.array 2 e)) (he : P.underlying e = some (.int .i64)) (hC : P.cellsOf t = 2) (hc : P.cellsOf e = 1)
    (hv : Value.okWide P w r b0 t v) (h : DataW.Trod enc P w base spare held t v d p) : ∃ a b : Int, v = .agg #[.int .i64 a, .int .i64 b] ∧ (Lit.int .i64 a).wf = true ∧ (Lit.int .i64 b).wf = true := by
  obtain ⟨cs, rfl, hs⟩ := okWide_arr ht hv
  obtain ⟨l⟩ := cs
  rw [hC] at hs
  match l, hs with
  | [c0, c1], _ =>
    obtain ⟨fuel, hf⟩ := h
    obtain ⟨xs, m, _, _, _, hl, hx⟩ := DataW.trod_array ht hf
    have h0 := hx 0 (by omega)
    have h1 := hx 1 (by omega)
    rw [hc] at h0 h1
    match xs, hl with
    | [y0, y1], _ =>
      simp [Value.cells] at h0 h1
      obtain ⟨a, e0, _, wa⟩ := DataW.trod_int he h0
      obtain ⟨b, e1, _, wb⟩ := DataW.trod_int he h1
      simp at e0 e1
      subst e0 e1
      exact ⟨a, b, rfl, wa, wb⟩

theorem spot_no {w : World} {a : Addr} {v : Value} (h : w.cell? a = some v) : a.spot = none := by
  unfold World.cell? at h
  split at h
  · split at h
    · cases h
    · rename_i hs; simpa using hs
  · cases h
theorem add_plain {b off : Nat} (n : Nat) : (⟨b, off, none⟩ : Addr).add n = ⟨b, off + n, none⟩ := by unfold Addr.add; split <;> simp_all
theorem spot_of {w : World} {a : Addr} {v : Value} (h : w.cell? (a.add 0) = some v) : ∃ b off, a = ⟨b, off, none⟩ := by
  obtain ⟨b, off, sp⟩ := a
  have h1 : (⟨b, off, sp⟩ : Addr).spot = none := spot_no h
  exact ⟨b, off, by simp only at h1; rw [h1]⟩
end
section
variable {H : Type} {enc : TypeId × Value → H} {w : World} {base : Nat} {spare : Nat → Bool} {held : Bool}
end
end Go.Proofs.Ytfjnphiegoogoaa
