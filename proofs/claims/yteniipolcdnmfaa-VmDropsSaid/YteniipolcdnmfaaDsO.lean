/- Slices that one drawn region makes in slots of its own lie in blocks of their own. -/
import Derived.Test.YteniipolcdnmfaaInvG
namespace Go.Proofs.Yteniipolcdnmfaa
open Go.ChangeShapes Go.WideShapes Go.ChangeAt Go.RowKit

def slotO (a : Act) (p : Nat) : Value := (a.tmps[p]?).getD undef
/-- the slots of L that hold slices hold such that lie in blocks that are there, each in another one -/
def DistO (L : List Nat) (a : Act) (w : World) : Prop := ∀ p, p ∈ L → ∀ g, (slotO a p).ownBlock = some g → g < w.heap.size ∧ ∀ q, q ∈ L → q ≠ p → (slotO a q).ownBlock ≠ some g
theorem sloto_ne (a : Act) (d : Option Tmp) (v : Value) (k : Nat) (h : d ≠ some k) : slotO (a.put d v) k = slotO a k := by
  unfold slotO Act.put
  cases d with
  | none => rfl
  | some d =>
    have hk : ¬ d = k := fun e => h (by rw [e])
    simp [hk]
theorem sloto_same (a : Act) (p : Nat) (v : Value) : slotO (a.put (some p) v) p = v ∨ slotO (a.put (some p) v) p = undef := by
  unfold slotO Act.put
  by_cases c : p < a.tmps.size
  · left; simp [c]
  · right; simp [c]
theorem keepsD_own (L : List Nat) : G.KeepsD (DistO L) L := by
  intro a d v w w' hD hb hL p hp g hg
  have ne : ∀ k, k ∈ L → d ≠ some k := fun k hk e => by
    have := List.all_eq_true.1 hL k hk
    rw [e] at this
    simp at this
  rw [sloto_ne a d v p (ne p hp)] at hg
  obtain ⟨h1, h2⟩ := hD p hp g hg
  refine ⟨Nat.lt_of_lt_of_le h1 hb.size, fun q hq hqp => ?_⟩
  rw [sloto_ne a d v q (ne q hq)]
  exact h2 q hq hqp
theorem disto_new {L : List Nat} {a : Act} {w : World} (p : Nat) (o : Obj) (n c : Nat) (h : DistO L a w) : DistO L (a.put (some p) (.slice (some ⟨w.heap.size, 0, none⟩) n c)) (w.alloc o) := by
  intro p' hp' g hg
  have hsz : (w.alloc o).heap.size = w.heap.size + 1 := by simp
  by_cases e : p' = p
  · subst e
    rcases sloto_same a p' (.slice (some ⟨w.heap.size, 0, none⟩) n c) with h1 | h1
    · rw [h1] at hg
      have hgs : g = w.heap.size := by simp [Value.ownBlock] at hg; exact hg.symm
      subst hgs
      refine ⟨by omega, fun q hq hqp hqg => ?_⟩
      rw [sloto_ne a _ _ q (fun e => hqp (by injection e with e; exact e.symm))] at hqg
      have := (h q hq _ hqg).1
      omega
    · rw [h1] at hg; simp [undef, Value.ownBlock] at hg
  · rw [sloto_ne a _ _ p' (fun e' => e (by injection e' with e'; exact e'.symm))] at hg
    obtain ⟨h1, h2⟩ := h p' hp' g hg
    refine ⟨by omega, fun q hq hqp hqg => ?_⟩
    by_cases eq : q = p
    · subst eq
      rcases sloto_same a q (.slice (some ⟨w.heap.size, 0, none⟩) n c) with h3 | h3
      · rw [h3] at hqg
        have : g = w.heap.size := by simp [Value.ownBlock] at hqg; exact hqg.symm
        omega
      · rw [h3] at hqg; simp [undef, Value.ownBlock] at hqg
    · rw [sloto_ne a _ _ q (fun e' => eq (by injection e' with e'; exact e'.symm))] at hqg
      exact h2 q hq hqp hqg
theorem disto_none {L : List Nat} {a : Act} {w : World} (h : ∀ p ∈ L, slotO a p = undef) : DistO L a w := by
  intro p hp g hg
  rw [h p hp] at hg
  simp [undef, Value.ownBlock] at hg
end Go.Proofs.Yteniipolcdnmfaa
