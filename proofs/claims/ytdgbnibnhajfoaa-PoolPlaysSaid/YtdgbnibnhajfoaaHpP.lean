/- Heaps of whole numbers, as lists: what going up and going down keep (nothing of it is of this program). -/
import Derived.Test.YtdgbnibnhajfoaaMem
namespace Go.Proofs.Ytdgbnibnhajfoaa
set_option linter.unusedVariables false
set_option linter.unusedSimpArgs false

def hget (l : List Int) (k : Nat) : Int := l.getD k 0
def swapL (l : List Int) (i j : Nat) : List Int := (l.set i (hget l j)).set j (hget l i)
/-- each of the first n is at least what is half-way ahead of it -/
def HeapN (l : List Int) (n : Nat) : Prop := ∀ k, 0 < k → k < n → hget l ((k - 1) / 2) ≤ hget l k
theorem hget_at {l : List Int} {k : Nat} {x : Int} (h : l[k]? = some x) : hget l k = x := by unfold hget; rw [List.getD_eq_getElem?_getD, h]; rfl
theorem at_hget {l : List Int} {k : Nat} (h : k < l.length) : l[k]? = some (hget l k) := by
  unfold hget
  rw [List.getD_eq_getElem?_getD, List.getElem?_eq_getElem h]; rfl
theorem swapL_len (l : List Int) (i j : Nat) : (swapL l i j).length = l.length := by simp [swapL]
theorem swapL_get {l : List Int} {i j : Nat} (hi : i < l.length) (hj : j < l.length) (k : Nat) : hget (swapL l i j) k = if k = j then hget l i else if k = i then hget l j else hget l k := by
  unfold swapL
  rw [hget, List.getD_eq_getElem?_getD, List.getElem?_set]
  by_cases h1 : j = k
  · subst h1
    rw [if_pos rfl, if_pos (by simpa using hj), if_pos rfl]; rfl
  · rw [if_neg h1, if_neg (fun e => h1 e.symm), List.getElem?_set]
    by_cases h2 : i = k
    · subst h2
      rw [if_pos rfl, if_pos hi, if_pos rfl]; rfl
    · rw [if_neg h2, if_neg (fun e => h2 e.symm), ← List.getD_eq_getElem?_getD]; rfl
theorem swapL_perm {l : List Int} {i j : Nat} (hi : i < l.length) (hj : j < l.length) : (swapL l i j).Perm l := by
  have h : (l.toArray.swap i j (by simpa using hi) (by simpa using hj)).toList = swapL l i j := by
    rw [Array.toList_swap]
    unfold swapL
    have e1 : hget l j = l[j] := hget_at (List.getElem?_eq_getElem hj)
    have e2 : hget l i = l[i] := hget_at (List.getElem?_eq_getElem hi)
    rw [e1, e2]
    simp
  have := Array.swap_perm (xs := l.toArray) (i := i) (j := j) (by simpa using hi) (by simpa using hj)
  rw [← h]
  simpa using this.toList

/-- a heap, but that the one at j may be less than what is ahead of it -/
def UpI (l : List Int) (j : Nat) : Prop := (∀ k, 0 < k → k < l.length → k ≠ j → hget l ((k - 1) / 2) ≤ hget l k) ∧ ∀ k, 0 < k → k < l.length → (k - 1) / 2 = j → 0 < j → hget l ((j - 1) / 2) ≤ hget l k
theorem up_done {l : List Int} {j : Nat} (h : UpI l j) (hd : j = 0 ∨ hget l ((j - 1) / 2) ≤ hget l j) : HeapN l l.length := by
  intro k h0 hk
  by_cases e : k = j
  · subst e
    rcases hd with hd | hd
    · omega
    · exact hd
  · exact h.1 k h0 hk e
theorem up_step {l : List Int} {j : Nat} (h : UpI l j) (hj : j < l.length) (h0 : 0 < j) (hlt : hget l j < hget l ((j - 1) / 2)) : UpI (swapL l ((j - 1) / 2) j) ((j - 1) / 2) := by
  have hi : (j - 1) / 2 < j := by omega
  obtain ⟨i, hie⟩ : ∃ i, (j - 1) / 2 = i := ⟨_, rfl⟩
  rw [hie] at hlt hi ⊢
  have g := swapL_get (l := l) (i := i) (j := j) (by omega) hj
  refine ⟨fun k k0 kl kn => ?_, fun k k0 kl kp i0 => ?_⟩
  · rw [swapL_len] at kl
    rw [g, g]
    by_cases e1 : k = j
    · subst e1
      rw [if_pos rfl, hie, if_neg (by omega), if_pos rfl]
      omega
    · rw [if_neg e1, if_neg kn]
      by_cases e2 : (k - 1) / 2 = j
      · rw [if_pos e2, ← hie]
        exact h.2 k k0 kl e2 h0
      · rw [if_neg e2]
        by_cases e3 : (k - 1) / 2 = i
        · rw [if_pos e3]
          have := h.1 k k0 kl e1
          rw [e3] at this
          omega
        · rw [if_neg e3]
          exact h.1 k k0 kl e1
  · rw [swapL_len] at kl
    have hpi := h.1 i i0 (by omega) (by omega)
    rw [g, g, if_neg (by omega), if_neg (by omega)]
    by_cases e1 : k = j
    · rw [if_pos e1]; exact hpi
    · rw [if_neg e1, if_neg (by omega)]
      have := h.1 k k0 kl e1
      rw [kp] at this
      omega
theorem UpI.push {l : List Int} (h : HeapN l l.length) (x : Int) : UpI (l ++ [x]) l.length := by
  have g : ∀ k, k < l.length → hget (l ++ [x]) k = hget l k := fun k hk => by
    unfold hget
    rw [List.getD_eq_getElem?_getD, List.getD_eq_getElem?_getD, List.getElem?_append_left hk]
  refine ⟨fun k k0 kl kn => ?_, fun k k0 kl kp i0 => ?_⟩
  · simp at kl
    rw [g _ (by omega), g _ (by omega)]
    exact h k k0 (by omega)
  · simp at kl
    omega

/-- the first n are a heap, but that the one at i may be greater than those behind it -/
def DnI (l : List Int) (n i : Nat) : Prop := (∀ k, 0 < k → k < n → (k - 1) / 2 ≠ i → hget l ((k - 1) / 2) ≤ hget l k) ∧ ∀ k, 0 < k → k < n → (k - 1) / 2 = i → 0 < i → hget l ((i - 1) / 2) ≤ hget l k
theorem down_done {l : List Int} {n i : Nat} (h : DnI l n i) (hd : ∀ k, 0 < k → k < n → (k - 1) / 2 = i → hget l i ≤ hget l k) : HeapN l n := by
  intro k h0 hk
  by_cases e : (k - 1) / 2 = i
  · rw [e]; exact hd k h0 hk e
  · exact h.1 k h0 hk e
theorem down_step {l : List Int} {n i j : Nat} (h : DnI l n i) (hn : n ≤ l.length) (hj : j < n) (j0 : 0 < j) (hp : (j - 1) / 2 = i) (hm : ∀ k, 0 < k → k < n → (k - 1) / 2 = i → hget l j ≤ hget l k) (hlt : hget l j < hget l i) : DnI (swapL l i j) n j := by
  have g := swapL_get (l := l) (i := i) (j := j) (by omega) (by omega)
  refine ⟨fun k k0 kl kp => ?_, fun k k0 kl kp _ => ?_⟩
  · rw [g, g, if_neg kp]
    by_cases e1 : (k - 1) / 2 = i
    · rw [if_pos e1]
      by_cases e2 : k = j
      · rw [if_pos e2]; omega
      · rw [if_neg e2, if_neg (by omega)]
        exact hm k k0 kl e1
    · rw [if_neg e1]
      have e2 : k ≠ j := fun e => e1 (e ▸ hp)
      rw [if_neg e2]
      by_cases e3 : k = i
      · rw [if_pos e3]
        subst e3
        exact h.2 j j0 hj hp k0
      · rw [if_neg e3]
        exact h.1 k k0 kl e1
  · rw [g, g, if_neg (by omega), if_pos hp, if_neg (by omega), if_neg (by omega)]
    have := h.1 k k0 kl (by omega)
    rw [kp] at this
    exact this
/-- the least one comes first -/
theorem HeapN.least {l : List Int} {n : Nat} (h : HeapN l n) : ∀ k, k < n → hget l 0 ≤ hget l k
  | 0, _ => Int.le_refl _
  | k + 1, hk => Int.le_trans (h.least ((k + 1 - 1) / 2) (by omega)) (h (k + 1) (by omega) hk)
termination_by k => k
/-- the last one is put first, and the least last -/
theorem DnI.swap {l : List Int} {n : Nat} (h : HeapN l (n + 1)) (hl : l.length = n + 1) : DnI (swapL l 0 n) n 0 := by
  have g := swapL_get (l := l) (i := 0) (j := n) (by omega) (by omega)
  refine ⟨fun k k0 kl kp => ?_, fun k k0 kl kp i0 => absurd i0 (by omega)⟩
  rw [g, g, if_neg (by omega), if_neg kp, if_neg (by omega), if_neg (by omega)]
  exact h k k0 (by omega)
end Go.Proofs.Ytdgbnibnhajfoaa
