/- The sign that a text begins with, as a contract. -/
import Derived.Test.YteojcohmocbakaaDoorLexW
import Derived.Deep.CutRange
import Derived.Deep.DeepCutAuto
namespace Go.Proofs.YteojcohmocbakaaDoor
open Go.ChangeShapes Go.WideShapes Go.ChangeAt Go.RowKit
set_option linter.unusedVariables false
set_option linter.unusedSimpArgs false

theorem extract_le (s : ByteArray) (a b m : Nat) (h : s.size ≤ m) : (s.extract a b).size ≤ m := by simp; omega
theorem prefix_two {s : ByteArray} (h : Lib.hasPrefix (s.extract 1 s.size).data.toList [61] = true) : 2 ≤ s.size := by
  apply Classical.byContradiction
  intro hn
  have hz : (s.extract 1 s.size).size = 0 := by rw [ByteArray.size_extract]; omega
  have hl : (s.extract 1 s.size).data.toList = [] := by
    rw [← List.length_eq_zero_iff, Array.length_toList]
    exact hz
  rw [hl] at h
  cases h
def twoC (c : Int) : Bool := c == 33 || c == 60 || c == 62
def oneC (c : Int) : Bool := c == 40 || c == 41 || c == 44 || c == 46 || c == 43 || c == 45 || c == 42 || c == 47 || c == 37 || c == 61 || c == 124
/-- what the sign that a text begins with makes; q: an equals sign stands behind the first byte -/
def SignIs (s : ByteArray) (q : Bool) (c : Int) (v : Value) (n : Int) : Prop := (twoC c = true ∧ q = true ∧ v = tokV 6 (s.extract 0 2) 0 0 0 ∧ n = 2) ∨ (((twoC c = true ∧ q = false) ∨ oneC c = true) ∧ v = tokV 6 (s.extract 0 1) 0 0 0 ∧ n = 1) ∨ (twoC c = false ∧ oneC c = false ∧ v = tokV 0 ⟨#[]⟩ 0 0 0 ∧ n = 0)

set_option maxHeartbeats 8000000 in
set_option maxRecDepth 100000 in
theorem sign_any (s : ByteArray) (w : World) (hs : s.size ≤ 281474976710656) (h0 : 0 < s.size) (q : Bool) (hq : Lib.hasPrefix (s.extract 1 s.size).data.toList [61] = q) :
    Calls Tryd.prog 29 #[.string s] w fun e w' => ∃ v n, e = .returned (.tuple #[v, .int .i64 n]) ∧ SignIs s q ((s[0]'h0).toNat : Int) v n ∧ Below w.heap.size w w' := by
  have hu := m1 w (.cells #[.int .i64 0, .string ⟨#[]⟩, .int .i64 0, .int .i64 0, .int .i64 0] 33)
  have hT := Lib.hid (TokZ.made w)
  have i1 : (1 : Int) ≤ (s.size : Int) := by omega
  have i0 : (0 : Int) < (s.size : Int) := by omega
  have CH : ∀ w, Calls Tryd.prog 45 #[.string (s.extract 1 s.size), .string ⟨#[61]⟩] w fun e w' => e = .returned (.bool q) ∧ w' = w := by
    intro w
    rw [← hq]
    exact Tryd.strings_HasPrefix (s.extract 1 s.size) ⟨#[61]⟩ w
  have i2 : q = true → (2 : Int) ≤ (s.size : Int) := fun h => by
    have := prefix_two (hq.trans h)
    omega
  replace CH := Lib.hid CH
  clear hq
  go_enter Tryd.func29, Tryd.ntmps29
  go_upto_region 1 with (fail)
  generalize w.alloc (.cells #[.int .i64 0, .string ⟨#[]⟩, .int .i64 0, .int .i64 0, .int .i64 0] 33) = u at *
  obtain ⟨c0, c1, c2, c3, c4, f0, f1, f2, f3, f4⟩ := hT.out
  have g0 := mblock c0
  cases q
  · clear i2
    go_wp2_with (first | (go_at_call 45; refine (CH.out _).mono ?_; rintro e w1 ⟨rfl, rfl⟩) | (go_at_call 41; refine (spoken_any 6 _ _ (extract_le _ _ _ _ hs)).mono ?_; rintro e w3 ⟨rfl, hb3⟩; unfold tokV; obtain ⟨c0, c1, c2, c3, c4, f0, f1, f2, f3, f4⟩ := hT.out.later hb3; have g1 := mblock c0; have hB3 := mmore hu hb3))
    all_goals first
      | (obtain ⟨q0, q1, q2, q3, q4⟩ := five_cells (.int .i64 6) (.string (s.extract 0 1)) (.int .i64 0) (.int .i64 0) (.int .i64 0) c0 c1 c2 c3 c4; have B2 := ((((hB3.setCell (p := ⟨w.heap.size, 0, none⟩) (Nat.le_refl _) (.int .i64 6)).setCell (p := ⟨w.heap.size, 1, none⟩) (Nat.le_refl _) (.string (s.extract 0 1))).setCell (p := ⟨w.heap.size, 2, none⟩) (Nat.le_refl _) (.int .i64 0)).setCell (p := ⟨w.heap.size, 3, none⟩) (Nat.le_refl _) (.int .i64 0)).setCell (p := ⟨w.heap.size, 4, none⟩) (Nat.le_refl _) (.int .i64 0); clear c0 c1 c2 c3 c4 f0 f1 f2 f3 f4; generalize ((((w3.setCell ⟨w.heap.size, 0, none⟩ (.int .i64 6)).setCell ⟨w.heap.size, 1, none⟩ (.string (s.extract 0 1))).setCell ⟨w.heap.size, 2, none⟩ (.int .i64 0)).setCell ⟨w.heap.size, 3, none⟩ (.int .i64 0)).setCell ⟨w.heap.size, 4, none⟩ (.int .i64 0) = wz at *; exact bodyPost_ret (v := .tuple #[.agg #[(.int .i64 6), (.string (s.extract 0 1)), .int .i64 0, .int .i64 0, .int .i64 0], .int .i64 1]) (by simp [results, Tryd.results29, go_sem, q0, q1, q2, q3, q4]) rfl ⟨_, _, rfl, .inr (.inl ⟨by simp_all [twoC, oneC], rfl, rfl⟩), B2⟩)
      | (obtain ⟨q0, q1, q2, q3, q4⟩ := five_cells (.int .i64 0) (.string ⟨#[]⟩) (.int .i64 0) (.int .i64 0) (.int .i64 0) c0 c1 c2 c3 c4; have B2 := ((((hu.setCell (p := ⟨w.heap.size, 0, none⟩) (Nat.le_refl _) (.int .i64 0)).setCell (p := ⟨w.heap.size, 1, none⟩) (Nat.le_refl _) (.string ⟨#[]⟩)).setCell (p := ⟨w.heap.size, 2, none⟩) (Nat.le_refl _) (.int .i64 0)).setCell (p := ⟨w.heap.size, 3, none⟩) (Nat.le_refl _) (.int .i64 0)).setCell (p := ⟨w.heap.size, 4, none⟩) (Nat.le_refl _) (.int .i64 0); clear c0 c1 c2 c3 c4 f0 f1 f2 f3 f4; generalize ((((u.setCell ⟨w.heap.size, 0, none⟩ (.int .i64 0)).setCell ⟨w.heap.size, 1, none⟩ (.string ⟨#[]⟩)).setCell ⟨w.heap.size, 2, none⟩ (.int .i64 0)).setCell ⟨w.heap.size, 3, none⟩ (.int .i64 0)).setCell ⟨w.heap.size, 4, none⟩ (.int .i64 0) = wz at *; exact bodyPost_ret (v := .tuple #[.agg #[(.int .i64 0), (.string ⟨#[]⟩), .int .i64 0, .int .i64 0, .int .i64 0], .int .i64 0]) (by simp [results, Tryd.results29, go_sem, q0, q1, q2, q3, q4]) rfl ⟨_, _, rfl, .inr (.inr ⟨by simp_all [twoC], by simp_all [oneC], rfl, rfl⟩), B2⟩)
  · replace i2 := i2 rfl
    go_wp2_with (first | (go_at_call 45; refine (CH.out _).mono ?_; rintro e w1 ⟨rfl, rfl⟩) | (go_at_call 41; refine (spoken_any 6 _ _ (extract_le _ _ _ _ hs)).mono ?_; rintro e w3 ⟨rfl, hb3⟩; unfold tokV; obtain ⟨c0, c1, c2, c3, c4, f0, f1, f2, f3, f4⟩ := hT.out.later hb3; have g1 := mblock c0; have hB3 := mmore hu hb3))
    all_goals first
      | (obtain ⟨q0, q1, q2, q3, q4⟩ := five_cells (.int .i64 6) (.string (s.extract 0 2)) (.int .i64 0) (.int .i64 0) (.int .i64 0) c0 c1 c2 c3 c4; have B2 := ((((hB3.setCell (p := ⟨w.heap.size, 0, none⟩) (Nat.le_refl _) (.int .i64 6)).setCell (p := ⟨w.heap.size, 1, none⟩) (Nat.le_refl _) (.string (s.extract 0 2))).setCell (p := ⟨w.heap.size, 2, none⟩) (Nat.le_refl _) (.int .i64 0)).setCell (p := ⟨w.heap.size, 3, none⟩) (Nat.le_refl _) (.int .i64 0)).setCell (p := ⟨w.heap.size, 4, none⟩) (Nat.le_refl _) (.int .i64 0); clear c0 c1 c2 c3 c4 f0 f1 f2 f3 f4; generalize ((((w3.setCell ⟨w.heap.size, 0, none⟩ (.int .i64 6)).setCell ⟨w.heap.size, 1, none⟩ (.string (s.extract 0 2))).setCell ⟨w.heap.size, 2, none⟩ (.int .i64 0)).setCell ⟨w.heap.size, 3, none⟩ (.int .i64 0)).setCell ⟨w.heap.size, 4, none⟩ (.int .i64 0) = wz at *; exact bodyPost_ret (v := .tuple #[.agg #[(.int .i64 6), (.string (s.extract 0 2)), .int .i64 0, .int .i64 0, .int .i64 0], .int .i64 2]) (by simp [results, Tryd.results29, go_sem, q0, q1, q2, q3, q4]) rfl ⟨_, _, rfl, .inl ⟨by simp_all [twoC], rfl, rfl, rfl⟩, B2⟩)
      | (obtain ⟨q0, q1, q2, q3, q4⟩ := five_cells (.int .i64 6) (.string (s.extract 0 1)) (.int .i64 0) (.int .i64 0) (.int .i64 0) c0 c1 c2 c3 c4; have B2 := ((((hB3.setCell (p := ⟨w.heap.size, 0, none⟩) (Nat.le_refl _) (.int .i64 6)).setCell (p := ⟨w.heap.size, 1, none⟩) (Nat.le_refl _) (.string (s.extract 0 1))).setCell (p := ⟨w.heap.size, 2, none⟩) (Nat.le_refl _) (.int .i64 0)).setCell (p := ⟨w.heap.size, 3, none⟩) (Nat.le_refl _) (.int .i64 0)).setCell (p := ⟨w.heap.size, 4, none⟩) (Nat.le_refl _) (.int .i64 0); clear c0 c1 c2 c3 c4 f0 f1 f2 f3 f4; generalize ((((w3.setCell ⟨w.heap.size, 0, none⟩ (.int .i64 6)).setCell ⟨w.heap.size, 1, none⟩ (.string (s.extract 0 1))).setCell ⟨w.heap.size, 2, none⟩ (.int .i64 0)).setCell ⟨w.heap.size, 3, none⟩ (.int .i64 0)).setCell ⟨w.heap.size, 4, none⟩ (.int .i64 0) = wz at *; exact bodyPost_ret (v := .tuple #[.agg #[(.int .i64 6), (.string (s.extract 0 1)), .int .i64 0, .int .i64 0, .int .i64 0], .int .i64 1]) (by simp [results, Tryd.results29, go_sem, q0, q1, q2, q3, q4]) rfl ⟨_, _, rfl, .inr (.inl ⟨by simp_all [twoC, oneC], rfl, rfl⟩), B2⟩)
      | (obtain ⟨q0, q1, q2, q3, q4⟩ := five_cells (.int .i64 0) (.string ⟨#[]⟩) (.int .i64 0) (.int .i64 0) (.int .i64 0) c0 c1 c2 c3 c4; have B2 := ((((hu.setCell (p := ⟨w.heap.size, 0, none⟩) (Nat.le_refl _) (.int .i64 0)).setCell (p := ⟨w.heap.size, 1, none⟩) (Nat.le_refl _) (.string ⟨#[]⟩)).setCell (p := ⟨w.heap.size, 2, none⟩) (Nat.le_refl _) (.int .i64 0)).setCell (p := ⟨w.heap.size, 3, none⟩) (Nat.le_refl _) (.int .i64 0)).setCell (p := ⟨w.heap.size, 4, none⟩) (Nat.le_refl _) (.int .i64 0); clear c0 c1 c2 c3 c4 f0 f1 f2 f3 f4; generalize ((((u.setCell ⟨w.heap.size, 0, none⟩ (.int .i64 0)).setCell ⟨w.heap.size, 1, none⟩ (.string ⟨#[]⟩)).setCell ⟨w.heap.size, 2, none⟩ (.int .i64 0)).setCell ⟨w.heap.size, 3, none⟩ (.int .i64 0)).setCell ⟨w.heap.size, 4, none⟩ (.int .i64 0) = wz at *; exact bodyPost_ret (v := .tuple #[.agg #[(.int .i64 0), (.string ⟨#[]⟩), .int .i64 0, .int .i64 0, .int .i64 0], .int .i64 0]) (by simp [results, Tryd.results29, go_sem, q0, q1, q2, q3, q4]) rfl ⟨_, _, rfl, .inr (.inr ⟨by simp_all [twoC], by simp_all [oneC], rfl, rfl⟩), B2⟩)
end Go.Proofs.YteojcohmocbakaaDoor
