/- The number that a text begins with, as a contract. -/
import Derived.Test.YteojcohmocbakaaDoorLexX
namespace Go.Proofs.YteojcohmocbakaaDoor
open Go.ChangeShapes Go.WideShapes Go.ChangeAt Go.RowKit
set_option linter.unusedVariables false
set_option linter.unusedSimpArgs false

/-- what the number makes whose digits are a many ahead of the point, P those behind; v: what they spell, if an int64 holds it -/
def NumIs (c : Int) (a : Nat) (P : ByteArray) (v : Int) (good : Bool) (t : Value) (n : Int) : Prop :=
  ((good = false ∨ (c = 48 ∧ 1 < a)) ∧ t = tokV 0 ⟨#[]⟩ 0 0 0 ∧ n = 0) ∨
  (good = true ∧ ¬ (c = 48 ∧ 1 < a) ∧ P.size = 0 ∧ t = tokV 3 ⟨#[]⟩ v 0 0 ∧ n = (a : Int)) ∨
  (good = true ∧ ¬ (c = 48 ∧ 1 < a) ∧ P.size ≠ 0 ∧ 15 < a + P.size ∧ t = tokV 0 ⟨#[]⟩ 0 0 0 ∧ n = 0) ∨
  (good = true ∧ ¬ (c = 48 ∧ 1 < a) ∧ P.size ≠ 0 ∧ a + P.size ≤ 15 ∧ t = tokV 4 ⟨#[]⟩ v P.size 0 ∧ n = (a : Int) + 1 + P.size)

set_option maxHeartbeats 8000000 in
set_option maxRecDepth 100000 in
theorem number_bad (s : ByteArray) (a : Nat) (c v : Int) (P : ByteArray) (w : World) (hs : s.size ≤ 281474976710656) (hr : RunIs digC s a) (ha : 0 < a) (hPs : P.size ≤ 281474976710656)
    (hF : ∀ w, Calls Tryd.prog 43 #[.string (s.extract a s.size)] w fun e w' => e = .returned (.string P) ∧ w = w')
    (hP : ∀ w1, Below w.heap.size w w1 → Calls Tryd.prog 44 #[.string (s.extract 0 a ++ P), .int .i64 10, .int .i64 64] w1 fun e w' => ∃ N, e = .returned (.tuple #[.int .i64 v, .iface 97 (.pointer (some ⟨N, 0, none⟩))]) ∧ Below w1.heap.size w1 w') :
    Calls Tryd.prog 27 #[.string s] w fun e w' => ∃ t n, e = .returned (.tuple #[t, .int .i64 n]) ∧ NumIs c a P v false t n ∧ Below w.heap.size w w' := by
  have CS := fun w => span_digit s a w (by omega) hr
  have hr0 := hr.1
  have hu := m1 w (.cells #[.int .i64 0, .string ⟨#[]⟩, .int .i64 0, .int .i64 0, .int .i64 0] 33)
  have hT := Lib.hid (TokZ.made w)
  have CP := Lib.hid (hP _ hu)
  have r0 : (0 : Int) ≤ (a : Int) := by omega
  have r1 : (a : Int) ≤ (s.size : Int) := by omega
  have hz : (s.extract 0 a).size = a := by simp; omega
  replace CS := Lib.hid CS
  replace hr := Lib.hid hr
  replace hF := Lib.hid hF
  have z0 : (0 : Int) ≤ ((s.extract 0 a).size : Int) := by omega
  have z1 : ((s.extract 0 a).size : Int) ≤ (s.size : Int) := by omega
  replace hz := Lib.hid hz
  have hlen : ¬ 9223372036854775807 < a + P.size := by omega
  clear hP
  go_enter Tryd.func27, Tryd.ntmps27
  go_wp2_with fail
  generalize w.alloc (.cells #[.int .i64 0, .string ⟨#[]⟩, .int .i64 0, .int .i64 0, .int .i64 0] 33) = u at *
  refine (CS.out _).mono ?_; rintro e w1 ⟨rfl, rfl⟩
  go_wp2_with fail
  refine (hF.out _).mono ?_; rintro e w1 ⟨rfl, rfl⟩
  clear CS hr hF
  go_wp2_with fail
  refine CP.out.mono ?_; rintro e w2 ⟨N, rfl, hb2⟩
  have hne : ∀ w, (binOp .neq 55 (.iface 97 (.pointer (some ⟨N, 0, none⟩))) .nilIface).run Tryd.prog w = .ok (.bool true) w := fun w => by simp [go_sem]
  have hT2 := Lib.hid (hT.out.later hb2)
  have hB2 := mmore hu hb2
  obtain ⟨c0, c1, c2, c3, c4, f0, f1, f2, f3, f4⟩ := hT2.out
  have g1 := mblock c0
  clear CP hb2
  go_wp2_with fail
  obtain ⟨q0, q1, q2, q3, q4⟩ := five_cells (.int .i64 0) (.string ⟨#[]⟩) (.int .i64 0) (.int .i64 0) (.int .i64 0) c0 c1 c2 c3 c4
  have B2 := (((((hB2.setCell (p := ⟨w.heap.size, 0, none⟩) (Nat.le_refl _) (.int .i64 0)).setCell (p := ⟨w.heap.size, 1, none⟩) (Nat.le_refl _) (.string ⟨#[]⟩)).setCell (p := ⟨w.heap.size, 2, none⟩) (Nat.le_refl _) (.int .i64 0)).setCell (p := ⟨w.heap.size, 3, none⟩) (Nat.le_refl _) (.int .i64 0)).setCell (p := ⟨w.heap.size, 4, none⟩) (Nat.le_refl _) (.int .i64 0))
  clear c0 c1 c2 c3 c4 f0 f1 f2 f3 f4
  generalize (((((w2.setCell ⟨w.heap.size, 0, none⟩ (.int .i64 0)).setCell ⟨w.heap.size, 1, none⟩ (.string ⟨#[]⟩)).setCell ⟨w.heap.size, 2, none⟩ (.int .i64 0)).setCell ⟨w.heap.size, 3, none⟩ (.int .i64 0)).setCell ⟨w.heap.size, 4, none⟩ (.int .i64 0)) = wz at *
  exact bodyPost_ret (v := .tuple #[.agg #[.int .i64 0, .string ⟨#[]⟩, .int .i64 0, .int .i64 0, .int .i64 0], .int .i64 0]) (by simp [results, Tryd.results27, go_sem, q0, q1, q2, q3, q4]) rfl ⟨_, _, rfl, (.inl ⟨.inl rfl, rfl, rfl⟩), B2⟩

set_option maxHeartbeats 8000000 in
set_option maxRecDepth 100000 in
theorem number_lead (s : ByteArray) (a : Nat) (v : Int) (P : ByteArray) (w : World) (hs : s.size ≤ 281474976710656) (hr : RunIs digC s a) (ha : 0 < (s.extract 0 a).size) (hPs : P.size ≤ 281474976710656) (hc : (s.extract 0 a)[0] = 48) (h1 : 1 < a)
    (hF : ∀ w, Calls Tryd.prog 43 #[.string (s.extract a s.size)] w fun e w' => e = .returned (.string P) ∧ w = w')
    (hP : ∀ w1, Below w.heap.size w w1 → Calls Tryd.prog 44 #[.string (s.extract 0 a ++ P), .int .i64 10, .int .i64 64] w1 fun e w' => e = .returned (.tuple #[.int .i64 v, .nilIface]) ∧ Below w1.heap.size w1 w') :
    Calls Tryd.prog 27 #[.string s] w fun e w' => ∃ t n, e = .returned (.tuple #[t, .int .i64 n]) ∧ NumIs (((s.extract 0 a)[0]'ha).toNat : Int) a P v true t n ∧ Below w.heap.size w w' := by
  have CS := fun w => span_digit s a w (by omega) hr
  have hr0 := hr.1
  have hu := m1 w (.cells #[.int .i64 0, .string ⟨#[]⟩, .int .i64 0, .int .i64 0, .int .i64 0] 33)
  have hT := Lib.hid (TokZ.made w)
  have CP := Lib.hid (hP _ hu)
  have r0 : (0 : Int) ≤ (a : Int) := by omega
  have r1 : (a : Int) ≤ (s.size : Int) := by omega
  have hz : (s.extract 0 a).size = a := by simp; omega
  replace CS := Lib.hid CS
  replace hr := Lib.hid hr
  replace hF := Lib.hid hF
  have a0 : 0 < a := by omega
  replace hz := Lib.hid hz
  have hlen : ¬ 9223372036854775807 < a + P.size := by omega
  have hne : ∀ w, (binOp .neq 55 .nilIface .nilIface).run Tryd.prog w = .ok (.bool false) w := fun w => by simp [go_sem]
  have k1 : (((s.extract 0 a)[0].toNat : Int) == 48) = true := by rw [hc]; rfl
  have k2 : (1 : Int) < (a : Int) := by omega
  have hcc : ((s.extract 0 a)[0].toNat : Int) = 48 := by rw [hc]; rfl
  replace hcc := Lib.hid hcc
  clear hc
  clear hP
  go_enter Tryd.func27, Tryd.ntmps27
  go_wp2_with fail
  generalize w.alloc (.cells #[.int .i64 0, .string ⟨#[]⟩, .int .i64 0, .int .i64 0, .int .i64 0] 33) = u at *
  refine (CS.out _).mono ?_; rintro e w1 ⟨rfl, rfl⟩
  go_wp2_with fail
  refine (hF.out _).mono ?_; rintro e w1 ⟨rfl, rfl⟩
  clear CS hr hF
  go_wp2_with fail
  refine CP.out.mono ?_; rintro e w2 ⟨rfl, hb2⟩
  have hT2 := Lib.hid (hT.out.later hb2)
  have hB2 := mmore hu hb2
  obtain ⟨c0, c1, c2, c3, c4, f0, f1, f2, f3, f4⟩ := hT2.out
  have g1 := mblock c0
  clear CP hb2
  go_wp2_with fail
  obtain ⟨q0, q1, q2, q3, q4⟩ := five_cells (.int .i64 0) (.string ⟨#[]⟩) (.int .i64 0) (.int .i64 0) (.int .i64 0) c0 c1 c2 c3 c4
  have B2 := (((((hB2.setCell (p := ⟨w.heap.size, 0, none⟩) (Nat.le_refl _) (.int .i64 0)).setCell (p := ⟨w.heap.size, 1, none⟩) (Nat.le_refl _) (.string ⟨#[]⟩)).setCell (p := ⟨w.heap.size, 2, none⟩) (Nat.le_refl _) (.int .i64 0)).setCell (p := ⟨w.heap.size, 3, none⟩) (Nat.le_refl _) (.int .i64 0)).setCell (p := ⟨w.heap.size, 4, none⟩) (Nat.le_refl _) (.int .i64 0))
  clear c0 c1 c2 c3 c4 f0 f1 f2 f3 f4
  generalize (((((w2.setCell ⟨w.heap.size, 0, none⟩ (.int .i64 0)).setCell ⟨w.heap.size, 1, none⟩ (.string ⟨#[]⟩)).setCell ⟨w.heap.size, 2, none⟩ (.int .i64 0)).setCell ⟨w.heap.size, 3, none⟩ (.int .i64 0)).setCell ⟨w.heap.size, 4, none⟩ (.int .i64 0)) = wz at *
  exact bodyPost_ret (v := .tuple #[.agg #[.int .i64 0, .string ⟨#[]⟩, .int .i64 0, .int .i64 0, .int .i64 0], .int .i64 0]) (by simp [results, Tryd.results27, go_sem, q0, q1, q2, q3, q4]) rfl ⟨_, _, rfl, (.inl ⟨.inr ⟨hcc.out, h1⟩, rfl, rfl⟩), B2⟩

end Go.Proofs.YteojcohmocbakaaDoor
