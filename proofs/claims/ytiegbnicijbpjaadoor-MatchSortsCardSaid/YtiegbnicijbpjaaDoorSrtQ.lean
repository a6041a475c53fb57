/- Matches laid flat in a row of the call's own, and stores into it. -/
import Derived.Test.YtiegbnicijbpjaaDoorSrtP
namespace Go.Proofs.YtiegbnicijbpjaaDoor
open Go.ChangeShapes Go.WideShapes Go.ChangeAt Go.RowKit
set_option linter.unusedVariables false
set_option linter.unusedSimpArgs false

def flatM : List MV → List Value
  | [] => []
  | m :: l => .int .i64 m.st :: .int .i64 m.br :: .slice m.A m.rows.length m.cap :: flatM l
theorem flatM_len : ∀ l : List MV, (flatM l).length = l.length * 3
  | [] => rfl
  | m :: l => by simp only [flatM, List.length_cons, flatM_len l]; omega
theorem flatM_more : ∀ (l : List MV) (m : MV), flatM (l ++ [m]) = flatM l ++ [.int .i64 m.st, .int .i64 m.br, .slice m.A m.rows.length m.cap]
  | [], m => rfl
  | x :: l, m => by simp only [List.cons_append, flatM, flatM_more l m]
theorem flatM_get : ∀ (l : List MV) (i : Nat) (m : MV), l[i]? = some m → (flatM l)[i * 3]? = some (.int .i64 m.st) ∧ (flatM l)[i * 3 + 1]? = some (.int .i64 m.br) ∧ (flatM l)[i * 3 + 2]? = some (.slice m.A m.rows.length m.cap)
  | [], i, m, h => by simp at h
  | x :: l, 0, m, h => by simp at h; subst h; exact ⟨rfl, rfl, rfl⟩
  | x :: l, i + 1, m, h => by
    have := flatM_get l i m (by simpa using h)
    rw [show (i + 1) * 3 = i * 3 + 1 + 1 + 1 by omega, show i * 3 + 1 + 1 + 1 + 1 = i * 3 + 1 + 1 + 1 + 1 from rfl, show i * 3 + 1 + 1 + 1 + 2 = i * 3 + 2 + 1 + 1 + 1 by omega]
    simp only [flatM, List.getElem?_cons_succ]
    exact this
theorem flatM_set : ∀ (l : List MV) (i : Nat) (m : MV), i < l.length → (((flatM l).set (i * 3) (.int .i64 m.st)).set (i * 3 + 1) (.int .i64 m.br)).set (i * 3 + 2) (.slice m.A m.rows.length m.cap) = flatM (l.set i m)
  | [], i, m, h => by simp at h
  | x :: l, 0, m, h => rfl
  | x :: l, i + 1, m, h => by
    have := flatM_set l i m (by simpa using h)
    rw [show (i + 1) * 3 = i * 3 + 1 + 1 + 1 by omega, show i * 3 + 1 + 1 + 1 + 2 = i * 3 + 2 + 1 + 1 + 1 by omega]
    simp only [flatM, List.set_cons_succ]
    rw [this]
/-- a struct stored at a place of such a row -/
theorem own_put {w : World} {base g cap n : Nat} {l : List MV} (h : w.ownsRow base 27 3 (.slice (some ⟨g, 0, none⟩) n cap) n (flatM l)) (i : Nat) (m : MV) (hi : i < l.length) :
    (((w.setCell ⟨g, i * 3, none⟩ (.int .i64 m.st)).setCell ⟨g, i * 3 + 1, none⟩ (.int .i64 m.br)).setCell ⟨g, i * 3 + 2, none⟩ (.slice m.A m.rows.length m.cap)).ownsRow base 27 3 (.slice (some ⟨g, 0, none⟩) n cap) n (flatM (l.set i m)) := by
  have := (((h.stored (i * 3) (.int .i64 m.st)).1.stored (i * 3 + 1) (.int .i64 m.br)).1.stored (i * 3 + 2) (.slice m.A m.rows.length m.cap)).1
  rwa [flatM_set l i m hi] at this
/-- the hole of an insertion goes down by one -/
theorem hole_down {S : List MV} {i : Nat} {j x : MV} (hi : 0 < i) (hx : S[i - 1]? = some x) : (S.take i ++ j :: S.drop i).set i x = S.take (i - 1) ++ x :: S.drop (i - 1) := by
  have hl := (List.getElem?_eq_some_iff.1 hx)
  obtain ⟨hl, rfl⟩ := hl
  have e : S.take i = S.take (i - 1) ++ [S[i - 1]] := by
    conv => lhs; rw [show i = i - 1 + 1 by omega]
    rw [List.take_add_one, List.getElem?_eq_getElem hl]; rfl
  rw [List.set_append_right _ _ (by rw [List.length_take]; omega), List.length_take, show i - min i S.length = 0 by omega, List.set_cons_zero, e, List.append_assoc]
  rw [drop_at hl, show i - 1 + 1 = i by omega]
  rfl
theorem hole_fill {S : List MV} {i : Nat} {j m : MV} (hi : i ≤ S.length) : (S.take i ++ j :: S.drop i).set i m = S.take i ++ m :: S.drop i := by
  rw [List.set_append_right _ _ (by rw [List.length_take]; omega), List.length_take, show i - min i S.length = 0 by omega, List.set_cons_zero]
theorem hole_len {S : List MV} {i : Nat} {j : MV} (hi : i ≤ S.length) : (S.take i ++ j :: S.drop i).length = S.length + 1 := by simp; omega
theorem hole_before {S : List MV} {i : Nat} {j : MV} (hi : 0 < i) (hl : i ≤ S.length) : (S.take i ++ j :: S.drop i)[i - 1]? = S[i - 1]? := by
  rw [List.getElem?_append_left (by rw [List.length_take]; omega), List.getElem?_take_of_lt (by omega)]
end Go.Proofs.YtiegbnicijbpjaaDoor
