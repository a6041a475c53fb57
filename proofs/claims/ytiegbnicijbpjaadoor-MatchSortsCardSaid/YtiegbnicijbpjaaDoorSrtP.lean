/- Pure: lists of matches in order; an insertion; there is one sorted list. -/
import Derived.Test.YtiegbnicijbpjaaDoorSrtE
namespace Go.Proofs.YtiegbnicijbpjaaDoor
open Go.ChangeShapes Go.WideShapes Go.ChangeAt Go.RowKit
set_option linter.unusedVariables false
set_option linter.unusedSimpArgs false

theorem cmpInt_zero {x y : Int} (h : Lib.compareInt x y = 0) : x = y := by unfold Lib.compareInt at h; split at h <;> (try split at h) <;> omega
theorem lexL_zero {α : Type} {f : α → α → Int} (hf : ∀ {x y}, f x y = 0 → x = y) : ∀ {xs ys : List α}, lexL f xs ys = 0 → xs = ys
  | [], [], _ => rfl
  | [], _ :: _, h => by simp [lexL] at h
  | _ :: _, [], h => by simp [lexL] at h
  | x :: xs, y :: ys, h => by
    simp only [lexL] at h
    by_cases c : f x y = 0
    · rw [if_pos c] at h
      rw [hf c, lexL_zero hf h]
    · rw [if_neg c] at h
      exact absurd h c
theorem cL_zero {xs ys : List Int} (h : cL xs ys = 0) : xs = ys := lexL_zero cmpInt_zero (by rw [← cL_lex]; exact h)
theorem cR_zero {xs ys : List (List Int)} (h : cR xs ys = 0) : xs = ys := lexL_zero cL_zero (by rw [← cR_lex]; exact h)
theorem cmpS_zero {x y : MT} (h : cmpS x y = 0) : x = y := by
  obtain ⟨a, b, p⟩ := x
  obtain ⟨c, d, q⟩ := y
  simp only [cmpS, ordM, orP] at h
  split at h
  · rename_i h1
    split at h
    · rename_i h2
      split at h
      · rename_i h3
        rw [cmpInt_zero h1, cmpInt_zero h2, cR_zero h3]
      · exact absurd h (by assumption)
    · exact absurd h (by assumption)
  · exact absurd h (by assumption)
theorem cmpS_self (x : MT) : cmpS x x = 0 := by have := cmpOk_S.s x x; omega
theorem sameL_self : ∀ xs : List MT, sameL xs xs = true
  | [] => rfl
  | x :: xs => by simp only [sameL, cmpS_self, sameL_self xs]; rfl
theorem sorted_one : ∀ {xs ys : List MT}, xs.Perm ys → SortedS xs → SortedS ys → xs = ys
  | [], ys, hp, _, _ => by rw [List.nil_perm.1 hp]
  | x :: xs, [], hp, _, _ => absurd hp.length_eq (by simp)
  | x :: xs, y :: ys, hp, hx, hy => by
    have hx1 := List.pairwise_cons.1 hx
    have hy1 := List.pairwise_cons.1 hy
    have e : x = y := by
      have h1 : x ∈ y :: ys := hp.mem_iff.1 (List.mem_cons_self ..)
      have h2 : y ∈ x :: xs := hp.mem_iff.2 (List.mem_cons_self ..)
      rcases List.mem_cons.1 h1 with h1 | h1
      · exact h1
      rcases List.mem_cons.1 h2 with h2 | h2
      · exact h2.symm
      have a := hy1.1 x h1
      have b := hx1.1 y h2
      have s := cmpOk_S.s x y
      exact cmpS_zero (by omega)
    subst e
    rw [sorted_one (List.perm_cons _ |>.1 hp) hx1.2 hy1.2]
theorem same_sorted {ms xs ys : List MT} (h1 : xs.Perm ms) (h2 : SortedS xs) (h3 : ys.Perm ms) (h4 : SortedS ys) : sameL xs ys = true := by
  rw [sorted_one (h1.trans h3.symm) h2 h4]
  exact sameL_self ys
/-- put in ahead of those that are behind it: what stands before the place isn't behind it -/
theorem sorted_in {xs : List MT} {m : MT} {i : Nat} (h : SortedS xs) (hi : i ≤ xs.length) (hb : ∀ x ∈ xs.drop i, cmpS m x < 0) (ha : i = 0 ∨ ∃ x, xs[i - 1]? = some x ∧ ¬ cmpS m x < 0) : SortedS (xs.take i ++ m :: xs.drop i) := by
  unfold SortedS at *
  rw [← List.take_append_drop i xs, List.pairwise_append] at h
  rw [List.pairwise_append]
  have hm : ∀ x ∈ xs.take i, cmpS x m ≤ 0 := fun x hx => by
    rcases ha with rfl | ⟨y, hy, hn⟩
    · simp at hx
    · have hyl := (List.getElem?_eq_some_iff.1 hy).1
      have hi0 : 0 < i := by
        rcases Nat.eq_zero_or_pos i with c | c
        · subst c; simp at hx
        · exact c
      have s := cmpOk_S.s m y
      have hym : cmpS y m ≤ 0 := by omega
      have e : xs.take i = xs.take (i - 1) ++ [y] := by
        conv => lhs; rw [show i = i - 1 + 1 by omega]
        rw [List.take_add_one, hy]; rfl
      rw [e] at hx
      rcases List.mem_append.1 hx with hx | hx
      · have h1 := h.1
        rw [e, List.pairwise_append] at h1
        exact cmpOk_S.t x y m (h1.2.2 x hx y (by simp)) hym
      · obtain rfl : x = y := by simpa using hx
        exact hym
  refine ⟨h.1, List.pairwise_cons.2 ⟨fun x hx => by have := hb x hx; omega, h.2.1⟩, fun x hx y hy => ?_⟩
  rcases List.mem_cons.1 hy with rfl | hy
  · exact hm x hx
  · exact h.2.2 x hx y hy
theorem perm_in {xs : List MT} {m : MT} (i : Nat) : (xs.take i ++ m :: xs.drop i).Perm (m :: xs) := by
  refine List.perm_middle.trans ?_
  rw [List.take_append_drop]
end Go.Proofs.YtiegbnicijbpjaaDoor
