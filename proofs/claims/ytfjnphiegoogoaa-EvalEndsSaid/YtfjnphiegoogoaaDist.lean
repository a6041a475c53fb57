/- Blocks that one drawn region makes in slots of its own are apart; what such a slot holds, as a word. -/
import Derived.Test.YtfjnphiegoogoaaInvV
namespace Go.Proofs.Ytfjnphiegoogoaa
open Go.ChangeShapes Go.WideShapes Go.ChangeAt Go.RowKit Go.Fl

def slotP (a : Act) (p : Nat) : Value := (a.tmps[p]?).getD undef
/-- the slots of L hold pointers to blocks that are there, each to another one -/
def DistD (L : List Nat) (a : Act) (w : World) : Prop := ∀ p, p ∈ L → ∀ g, slotP a p = .pointer (some ⟨g, 0, none⟩) → g < w.heap.size ∧ ∀ q, q ∈ L → q ≠ p → slotP a q ≠ .pointer (some ⟨g, 0, none⟩)

theorem slot_put_ne (a : Act) (d : Option Tmp) (v : Value) (k : Nat) (h : d ≠ some k) : slotP (a.put d v) k = slotP a k := by
  unfold slotP Act.put
  cases d with
  | none => rfl
  | some d =>
    have hk : ¬ d = k := fun e => h (by rw [e])
    simp [hk]
theorem slot_put_same (a : Act) (p : Nat) (v : Value) : slotP (a.put (some p) v) p = v ∨ slotP (a.put (some p) v) p = undef := by
  unfold slotP Act.put
  by_cases c : p < a.tmps.size
  · left; simp [c]
  · right; simp [c]

theorem keepsD_dist (L : List Nat) : KeepsD (DistD L) L := by
  intro a d v w w' hD hb hL p hp g hg
  have ne : ∀ k, k ∈ L → d ≠ some k := fun k hk e => by
    have := List.all_eq_true.1 hL k hk
    rw [e] at this
    simp at this
  rw [slot_put_ne a d v p (ne p hp)] at hg
  obtain ⟨h1, h2⟩ := hD p hp g hg
  refine ⟨Nat.lt_of_lt_of_le h1 hb.size, fun q hq hqp => ?_⟩
  rw [slot_put_ne a d v q (ne q hq)]
  exact h2 q hq hqp

theorem dist_new {L : List Nat} {a : Act} {w : World} (p : Nat) (o : Obj) (h : DistD L a w) : DistD L (a.put (some p) (.pointer (some ⟨w.heap.size, 0, none⟩))) (w.alloc o) := by
  intro p' hp' g hg
  have hsz : (w.alloc o).heap.size = w.heap.size + 1 := by simp
  by_cases e : p' = p
  · subst e
    rcases slot_put_same a p' (.pointer (some ⟨w.heap.size, 0, none⟩)) with h1 | h1
    · rw [h1] at hg
      have hgs : g = w.heap.size := by injection hg with h1; injection h1 with h2; injection h2 with h3; exact h3.symm
      subst hgs
      refine ⟨by omega, fun q hq hqp hqg => ?_⟩
      rw [slot_put_ne a _ _ q (fun e => hqp (by injection e with e; exact e.symm))] at hqg
      have := (h q hq _ hqg).1
      omega
    · rw [h1] at hg; cases hg
  · rw [slot_put_ne a _ _ p' (fun e' => e (by injection e' with e'; exact e'.symm))] at hg
    obtain ⟨h1, h2⟩ := h p' hp' g hg
    refine ⟨by omega, fun q hq hqp hqg => ?_⟩
    by_cases eq : q = p
    · subst eq
      rcases slot_put_same a q (.pointer (some ⟨w.heap.size, 0, none⟩)) with h3 | h3
      · rw [h3] at hqg
        have : g = w.heap.size := by injection hqg with h1; injection h1 with h2; injection h2 with h3; exact h3.symm
        omega
      · rw [h3] at hqg; cases hqg
    · rw [slot_put_ne a _ _ q (fun e' => eq (by injection e' with e'; exact e'.symm))] at hqg
      exact h2 q hq hqp hqg

/-- block g is whole: these cells, of this type -/
def Whole (w : World) (g : Nat) (t : TypeId) (cs : Array Value) : Prop := w.heap[g]? = some (.cells cs t (0, 0))
theorem Whole.inside {w : World} {g : Nat} {t : TypeId} {cs : Array Value} (h : Whole w g t cs) : g < w.heap.size := by
  apply Classical.byContradiction
  intro hn
  unfold Whole at h
  rw [Array.getElem?_eq_none (by omega)] at h
  cases h
theorem Whole.at_ {w : World} {g : Nat} {t : TypeId} {cs : Array Value} (h : Whole w g t cs) (i : Nat) : w.cell? ⟨g, i, none⟩ = cs[i]? := by
  unfold Whole at h
  simp [World.cell?, h]
theorem Whole.free {w : World} {g : Nat} {t : TypeId} {cs : Array Value} (h : Whole w g t cs) (i : Nat) : w.frozen? ⟨g, i, none⟩ = false := by
  unfold Whole at h
  simp [World.frozen?, h]
theorem Whole.kept {w w' : World} {g : Nat} {t : TypeId} {cs : Array Value} (h : Whole w g t cs) (hb : Below w.heap.size w w') : Whole w' g t cs := (hb.block g h.inside).trans h
theorem Whole.made (w : World) (t : TypeId) (cs : Array Value) : Whole (w.alloc (.cells cs t)) w.heap.size t cs := by
  exact heap_alloc_new w _
theorem Whole.put_ {w : World} {g : Nat} {t : TypeId} {cs : Array Value} (h : Whole w g t cs) (i : Nat) (u : Value) : Whole (w.setCell ⟨g, i, none⟩ u) g t (cs.setIfInBounds i u) := by
  unfold Whole at *
  simp [World.setCell, Array.getElem?_modify, h]
theorem Whole.else_ {w : World} {g : Nat} {t : TypeId} {cs : Array Value} (h : Whole w g t cs) {p : Addr} (hp : p.block ≠ g) (u : Value) : Whole (w.setCell p u) g t cs := by
  unfold Whole at *
  simp only [World.setCell, Array.getElem?_modify]
  rw [if_neg hp]
  exact h
/-- a struct of two cells stored whole -/
theorem Whole.two {w : World} {g : Nat} {t : TypeId} {x y : Value} (h : Whole w g t #[x, y]) (u v : Value) : Whole ((w.setCell ⟨g, 0, none⟩ u).setCell ⟨g, 1, none⟩ v) g t #[u, v] := by
  have := (h.put_ 0 u).put_ 1 v
  simpa using this

/-- a new block of type t from B on -/
def ptrW (B : Nat) (t : TypeId) (cs : Array Value) : Value → World → Prop := fun v w => ∃ g, v = .pointer (some ⟨g, 0, none⟩) ∧ B ≤ g ∧ Whole w g t cs
theorem ptr_mono (B : Nat) (t : TypeId) (cs : Array Value) : MonoW (ptrW B t cs) := fun _ _ _ ⟨g, e, hB, h⟩ hb => ⟨g, e, hB, h.kept hb⟩
end Go.Proofs.Ytfjnphiegoogoaa
