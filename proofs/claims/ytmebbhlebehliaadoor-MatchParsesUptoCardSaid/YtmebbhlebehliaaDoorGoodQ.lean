/- Which matches are well made, in the document's words: all places in one row. -/
import Derived.Test.YtmebbhlebehliaaDoorLine
namespace Go.Proofs.YtmebbhlebehliaaDoor
open Go.ChangeShapes Go.WideShapes Go.ChangeAt Go.RowKit
set_option linter.unusedVariables false
set_option linter.unusedSimpArgs false

def fullB (bs : List (List Int)) : Bool := bs.all fun l => decide (0 < l.length)
/-- numbers from 0 on, below n, each behind the one ahead -/
def chkF (n : Int) : Int → List Int → Bool
  | _, [] => true
  | a, x :: r => decide (0 ≤ x) && decide (x < n) && decide (a < x) && chkF n x r
def lastZ (l : List Int) : Int := l.getD (l.length - 1) 0
theorem scL_app : ∀ (l r : List Int) (a : Int), scL a (l ++ r) = (scL a l).bind fun z => scL z r
  | [], r, a => rfl
  | x :: l, r, a => by
    simp only [List.cons_append, scL]
    split
    · rfl
    · exact scL_app l r x
theorem scR_flat : ∀ (bs : List (List Int)) (a : Int), scR a bs = if fullB bs = true then scL a bs.flatten else none
  | [], a => rfl
  | l :: r, a => by
    simp only [scR, fullB, List.all_cons, List.flatten_cons]
    by_cases h : l = []
    · rw [if_pos h]; subst h; simp
    · rw [if_neg h]
      have hl : 0 < l.length := List.length_pos_iff.2 h
      have ih := fun z => scR_flat r z
      unfold fullB at ih
      simp only [hl, decide_true, Bool.true_and]
      rw [scL_app]
      by_cases c : (r.all fun l => decide (0 < l.length)) = true
      · rw [if_pos c]
        congr 1
        funext z
        rw [ih z, if_pos c]
      · rw [if_neg c]
        cases scL a l with
        | none => rfl
        | some z => show scR z r = none; rw [ih z, if_neg c]
theorem chkF_iff {n : Int} : ∀ (l : List Int) (a : Int), -1 ≤ a → (chkF n a l = true ↔ ∃ z, scL a l = some z ∧ (l = [] ∨ z < n))
  | [], a, _ => by simp [chkF, scL]
  | x :: r, a, ha => by
    simp only [chkF, scL, Bool.and_eq_true, decide_eq_true_eq]
    constructor
    · rintro ⟨⟨⟨h0, h1⟩, h2⟩, h3⟩
      rw [if_neg (by omega)]
      obtain ⟨z, hz, h⟩ := (chkF_iff r x (by omega)).1 h3
      refine ⟨z, hz, .inr ?_⟩
      rcases h with rfl | h
      · simp [scL] at hz; omega
      · exact h
    · rintro ⟨z, hz, h⟩
      split at hz
      · cases hz
      · rename_i hx
        have := (scL_le hz).1
        rcases h with h | h
        · cases h
        · exact ⟨⟨⟨by omega, by omega⟩, by omega⟩, (chkF_iff r x (by omega)).2 ⟨z, hz, .inr h⟩⟩
theorem scL_last : ∀ (l : List Int) (a z : Int), scL a l = some z → l ≠ [] → z = lastZ l
  | [], _, _, _, h => absurd rfl h
  | [x], a, z, h, _ => by
    simp only [scL] at h
    split at h
    · cases h
    · injection h with h; rw [← h]; rfl
  | x :: y :: r, a, z, h, _ => by
    rw [scL] at h
    split at h
    · cases h
    · have := scL_last (y :: r) x z h (by simp)
      rw [this]
      simp [lastZ]
theorem good_eq (st br : Int) (bs : List (List Int)) (n : Int) : goodP st br bs n = (decide (0 ≤ br) && decide (0 < bs.length) && fullB bs && chkF n (-1) bs.flatten && decide (st ≤ n) && decide (lastZ bs.flatten ≤ st)) := by
  unfold goodP
  rw [scR_flat]
  by_cases hf : fullB bs = true
  · rw [if_pos hf, hf]
    by_cases hb : 0 < bs.length
    · have hne : bs.flatten ≠ [] := by
        obtain ⟨l, r, rfl⟩ : ∃ l r, bs = l :: r := by cases bs with | nil => simp at hb | cons l r => exact ⟨l, r, rfl⟩
        have : 0 < l.length := by simp [fullB] at hf; exact hf.1
        intro e
        simp at e
        rw [e.1] at this
        simp at this
      have hc := chkF_iff (n := n) bs.flatten (-1) (by omega)
      cases h : scL (-1) bs.flatten with
      | none =>
        have : chkF n (-1) bs.flatten = false := by
          cases c : chkF n (-1) bs.flatten with
          | false => rfl
          | true => obtain ⟨z, hz, _⟩ := hc.1 c; rw [h] at hz; cases hz
        rw [this]
        simp
      | some z =>
        have hz := scL_last _ _ _ h hne
        have e : chkF n (-1) bs.flatten = decide (z < n) := by
          rw [Bool.eq_iff_iff, hc, decide_eq_true_eq]
          constructor
          · rintro ⟨y, hy, h2⟩
            rw [h] at hy
            injection hy with hy
            subst hy
            rcases h2 with h2 | h2
            · exact absurd h2 hne
            · exact h2
          · intro h2; exact ⟨z, h, .inr h2⟩
        rw [e, ← hz]
        show (decide (0 ≤ br) && decide (0 < bs.length) && decide (z < n) && decide (z ≤ st) && decide (st ≤ n)) = _
        rw [Bool.eq_iff_iff]
        simp
        constructor <;> (rintro ⟨⟨⟨⟨h1, h2⟩, h3⟩, h4⟩, h5⟩; exact ⟨⟨⟨⟨h1, h2⟩, h3⟩, h5⟩, h4⟩)
    · have : decide (0 < bs.length) = false := by simpa using hb
      rw [this]
      cases scL (-1) bs.flatten with
      | none => simp
      | some z => simp
  · rw [if_neg hf]
    have : fullB bs = false := by simpa using hf
    rw [this]
    simp
end Go.Proofs.YtmebbhlebehliaaDoor
