/- Places in schemas: what both packages answer of them, as contracts. -/
import Derived.Test.YtfjnphiegoogoaaSch
namespace Go.Proofs.Ytfjnphiegoogoaa
open Go.ChangeShapes Go.WideShapes Go.ChangeAt Go.RowKit
set_option linter.unusedVariables false
set_option linter.unusedSimpArgs false

/-- the first place at which p holds; -1 -/
def placeFrom {α : Type} (p : α → Bool) : List α → Nat → Int
  | [], _ => -1
  | x :: r, i => if p x then (i : Int) else placeFrom p r (i + 1)
def place {α : Type} (p : α → Bool) (l : List α) : Int := placeFrom p l 0
theorem placeFrom_hit {α : Type} (p : α → Bool) : ∀ (l : List α) (i k : Nat) (x : α), l[k]? = some x → p x = true → (∀ (j : Nat) (y : α), j < k → l[j]? = some y → p y = false) → placeFrom p l i = ((i + k : Nat) : Int)
  | [], i, k, x, h, _, _ => by simp at h
  | a :: r, i, 0, x, h, hp, _ => by
    simp at h
    subst h
    simp [placeFrom, hp]
  | a :: r, i, k + 1, x, h, hp, hn => by
    have h0 := hn 0 a (by omega) rfl
    have := placeFrom_hit p r (i + 1) k x (by simpa using h) hp (fun j y hj hy => hn (j + 1) y (by omega) (by simpa using hy))
    simp only [placeFrom, h0]
    rw [if_neg (by decide), this]
    congr 1
    omega
theorem placeFrom_miss {α : Type} (p : α → Bool) : ∀ (l : List α) (i : Nat), (∀ (j : Nat) (y : α), l[j]? = some y → p y = false) → placeFrom p l i = -1
  | [], i, _ => rfl
  | a :: r, i, hn => by
    have h0 := hn 0 a rfl
    simp only [placeFrom, h0]
    rw [if_neg (by decide)]
    exact placeFrom_miss p r (i + 1) (fun j y hy => hn (j + 1) y (by simpa using hy))
theorem place_hit {α : Type} (p : α → Bool) (l : List α) (k : Nat) (x : α) (h : l[k]? = some x) (hp : p x = true) (hn : ∀ (j : Nat) (y : α), j < k → l[j]? = some y → p y = false) : place p l = (k : Int) := by
  unfold place
  rw [placeFrom_hit p l 0 k x h hp hn, Nat.zero_add]
theorem place_miss {α : Type} (p : α → Bool) (l : List α) (hn : ∀ (j : Nat) (y : α), l[j]? = some y → p y = false) : place p l = -1 := placeFrom_miss p l 0 hn
theorem fret_int {a b : Int} (h : a = b) : Ending.returned (.int .i64 a) = .returned (.int .i64 b) := by rw [h]

def TypesAt (w : World) (A : Option Addr) (ts : List ST) : Prop := 0 < ts.length → ∃ b off, A = some ⟨b, off, none⟩ ∧ ∀ (i : Nat) (t : ST), ts[i]? = some t → ∃ u, w.cell? ⟨b, off + i * 2, none⟩ = some (.string t.1) ∧ w.cell? ⟨b, off + i * 2 + 1, none⟩ = some u ∧ FieldsIn w u t.2
def FieldsAt (w : World) (A : Option Addr) (fs : List SF) : Prop := 0 < fs.length → ∃ b off, A = some ⟨b, off, none⟩ ∧ ∀ (i : Nat) (f : SF), fs[i]? = some f → w.cell? ⟨b, off + i * 2, none⟩ = some (.string f.1) ∧ w.cell? ⟨b, off + i * 2 + 1, none⟩ = some (.int .i64 f.2)
def SymsAt (w : World) (A : Option Addr) (ss : List ByteArray) : Prop := 0 < ss.length → ∃ b off, A = some ⟨b, off, none⟩ ∧ ∀ (i : Nat) (s : ByteArray), ss[i]? = some s → w.cell? ⟨b, off + i, none⟩ = some (.string s)

end Go.Proofs.Ytfjnphiegoogoaa
