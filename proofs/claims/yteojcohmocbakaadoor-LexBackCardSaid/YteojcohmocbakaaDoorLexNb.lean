/- The number that a text begins with, as a contract: the rest. -/
import Derived.Test.YteojcohmocbakaaDoorLexN
namespace Go.Proofs.YteojcohmocbakaaDoor
open Go.ChangeShapes Go.WideShapes Go.ChangeAt Go.RowKit
set_option linter.unusedVariables false
set_option linter.unusedSimpArgs false
theorem loopL (P : ByteArray) : ∀ (n i : Nat) (r : List UInt8), P.size - i = n → r ≠ [] → ByteArray.toList.loop P i r ≠ []
  | 0, i, r, h, hr => by
    unfold ByteArray.toList.loop
    rw [if_neg (by omega)]
    simpa using hr
  | n + 1, i, r, h, hr => by
    unfold ByteArray.toList.loop
    rw [if_pos (by omega)]
    exact loopL P n (i + 1) _ (by omega) (by simp)
theorem toList_ne (P : ByteArray) (h : P.size ≠ 0) : ¬ P.toList = [] := by
  unfold ByteArray.toList ByteArray.toList.loop
  rw [if_pos (by omega)]
  exact loopL P (P.size - 1) 1 _ (by omega) (by simp)
theorem not48 (x : UInt8) (hc : x ≠ 48) : ((x.toNat : Int) == 48) = false := by
  have : x.toNat ≠ 48 := fun h => hc (UInt8.toNat_inj.1 (show x.toNat = (48 : UInt8).toNat from h))
  simp; omega

set_option maxHeartbeats 8000000 in
set_option maxRecDepth 100000 in
theorem number_int_a (s : ByteArray) (a : Nat) (v : Int) (w : World) (hs : s.size ≤ 281474976710656) (hr : RunIs digC s a) (ha : 0 < (s.extract 0 a).size) (hPs : (⟨#[]⟩ : ByteArray).size ≤ 281474976710656) (hc : (s.extract 0 a)[0] ≠ 48)
    (hF : ∀ w, Calls Tryd.prog 43 #[.string (s.extract a s.size)] w fun e w' => e = .returned (.string (⟨#[]⟩ : ByteArray)) ∧ w = w')
    (hP : ∀ w1, Below w.heap.size w w1 → Calls Tryd.prog 44 #[.string (s.extract 0 a ++ (⟨#[]⟩ : ByteArray)), .int .i64 10, .int .i64 64] w1 fun e w' => e = .returned (.tuple #[.int .i64 v, .nilIface]) ∧ Below w1.heap.size w1 w') :
    Calls Tryd.prog 27 #[.string s] w fun e w' => ∃ t n, e = .returned (.tuple #[t, .int .i64 n]) ∧ NumIs (((s.extract 0 a)[0]'ha).toNat : Int) a (⟨#[]⟩ : ByteArray) v true t n ∧ Below w.heap.size w w' := by
  have CS := fun w => span_digit s a w (by omega) hr
  have hr0 := hr.1
  have hu := m1 w (.cells #[.int .i64 0, .string ⟨#[]⟩, .int .i64 0, .int .i64 0, .int .i64 0] 33)
  have hT := Lib.hid (TokZ.made w)
  have CP := Lib.hid (hP _ hu)
  have r0 : (0 : Int) ≤ (a : Int) := by omega
  have r1 : (a : Int) ≤ (s.size : Int) := by omega
  have hz : (s.extract 0 a).size = a := by simp; omega
  replace CS := Lib.hid CS
  replace hr := Lib.hid hr
  replace hF := Lib.hid hF
  have a0 : 0 < a := by omega
  replace hz := Lib.hid hz
  have hlen : ¬ 9223372036854775807 < a + (⟨#[]⟩ : ByteArray).size := by show ¬ 9223372036854775807 < a + 0; omega
  have hne : ∀ w, (binOp .neq 55 .nilIface .nilIface).run Tryd.prog w = .ok (.bool false) w := fun w => by simp [go_sem]
  have k1 : (((s.extract 0 a)[0].toNat : Int) == 48) = false := not48 _ hc
  have hcc : ¬ (((s.extract 0 a)[0].toNat : Int) = 48 ∧ 1 < a) := fun h => by have := h.1; simp [this] at k1
  replace hcc := Lib.hid hcc
  clear hc
  have hpe : ∀ w, (binOp .eql 9 (.string ⟨#[]⟩) (.string ⟨#[]⟩)).run Tryd.prog w = .ok (.bool true) w := fun w => by simp [go_sem]
  clear hP
  go_enter Tryd.func27, Tryd.ntmps27
  go_wp2_with fail
  generalize w.alloc (.cells #[.int .i64 0, .string ⟨#[]⟩, .int .i64 0, .int .i64 0, .int .i64 0] 33) = u at *
  refine (CS.out _).mono ?_; rintro e w1 ⟨rfl, rfl⟩
  go_wp2_with fail
  refine (hF.out _).mono ?_; rintro e w1 ⟨rfl, rfl⟩
  clear CS hr hF
  go_wp2_with fail
  refine CP.out.mono ?_; rintro e w2 ⟨rfl, hb2⟩
  have hT2 := Lib.hid (hT.out.later hb2)
  have hB2 := mmore hu hb2
  obtain ⟨c0, c1, c2, c3, c4, f0, f1, f2, f3, f4⟩ := hT2.out
  have g1 := mblock c0
  clear CP hb2
  go_wp2_with fail
  obtain ⟨q0, q1, q2, q3, q4⟩ := five_cells (.int .i64 3) (.string ⟨#[]⟩) (.int .i64 v) (.int .i64 0) (.int .i64 0) c0 c1 c2 c3 c4
  have B2 := (((((hB2.setCell (p := ⟨w.heap.size, 0, none⟩) (Nat.le_refl _) (.int .i64 3)).setCell (p := ⟨w.heap.size, 1, none⟩) (Nat.le_refl _) (.string ⟨#[]⟩)).setCell (p := ⟨w.heap.size, 2, none⟩) (Nat.le_refl _) (.int .i64 v)).setCell (p := ⟨w.heap.size, 3, none⟩) (Nat.le_refl _) (.int .i64 0)).setCell (p := ⟨w.heap.size, 4, none⟩) (Nat.le_refl _) (.int .i64 0))
  clear c0 c1 c2 c3 c4 f0 f1 f2 f3 f4
  generalize (((((w2.setCell ⟨w.heap.size, 0, none⟩ (.int .i64 3)).setCell ⟨w.heap.size, 1, none⟩ (.string ⟨#[]⟩)).setCell ⟨w.heap.size, 2, none⟩ (.int .i64 v)).setCell ⟨w.heap.size, 3, none⟩ (.int .i64 0)).setCell ⟨w.heap.size, 4, none⟩ (.int .i64 0)) = wz at *
  exact bodyPost_ret (v := .tuple #[.agg #[.int .i64 3, .string ⟨#[]⟩, .int .i64 v, .int .i64 0, .int .i64 0], .int .i64 (a : Int)]) (by simp [results, Tryd.results27, go_sem, q0, q1, q2, q3, q4]) rfl ⟨_, _, rfl, (.inr (.inl ⟨rfl, hcc.out, rfl, rfl, rfl⟩)), B2⟩

set_option maxHeartbeats 8000000 in
set_option maxRecDepth 100000 in
theorem number_long_a (s : ByteArray) (a : Nat) (v : Int) (P : ByteArray) (w : World) (hs : s.size ≤ 281474976710656) (hr : RunIs digC s a) (ha : 0 < (s.extract 0 a).size) (hPs : P.size ≤ 281474976710656) (hc : (s.extract 0 a)[0] ≠ 48) (hp : P.size ≠ 0) (h15 : 15 < a + P.size)
    (hF : ∀ w, Calls Tryd.prog 43 #[.string (s.extract a s.size)] w fun e w' => e = .returned (.string P) ∧ w = w')
    (hP : ∀ w1, Below w.heap.size w w1 → Calls Tryd.prog 44 #[.string (s.extract 0 a ++ P), .int .i64 10, .int .i64 64] w1 fun e w' => e = .returned (.tuple #[.int .i64 v, .nilIface]) ∧ Below w1.heap.size w1 w') :
    Calls Tryd.prog 27 #[.string s] w fun e w' => ∃ t n, e = .returned (.tuple #[t, .int .i64 n]) ∧ NumIs (((s.extract 0 a)[0]'ha).toNat : Int) a P v true t n ∧ Below w.heap.size w w' := by
  have CS := fun w => span_digit s a w (by omega) hr
  have hr0 := hr.1
  have hu := m1 w (.cells #[.int .i64 0, .string ⟨#[]⟩, .int .i64 0, .int .i64 0, .int .i64 0] 33)
  have hT := Lib.hid (TokZ.made w)
  have CP := Lib.hid (hP _ hu)
  have r0 : (0 : Int) ≤ (a : Int) := by omega
  have r1 : (a : Int) ≤ (s.size : Int) := by omega
  have hz : (s.extract 0 a).size = a := by simp; omega
  replace CS := Lib.hid CS
  replace hr := Lib.hid hr
  replace hF := Lib.hid hF
  have a0 : 0 < a := by omega
  replace hz := Lib.hid hz
  have hlen : ¬ 9223372036854775807 < a + P.size := by omega
  have hne : ∀ w, (binOp .neq 55 .nilIface .nilIface).run Tryd.prog w = .ok (.bool false) w := fun w => by simp [go_sem]
  have k1 : (((s.extract 0 a)[0].toNat : Int) == 48) = false := not48 _ hc
  have hcc : ¬ (((s.extract 0 a)[0].toNat : Int) = 48 ∧ 1 < a) := fun h => by have := h.1; simp [this] at k1
  replace hcc := Lib.hid hcc
  clear hc
  have h2 : P.toList.isEmpty = false := by
    have h3 := toList_ne P hp
    cases hq : P.toList with
    | nil => exact absurd hq h3
    | cons _ _ => rfl
  replace hp := Lib.hid hp
  have k5 : (15 : Int) < (a : Int) + (P.size : Int) := by omega
  replace h15 := Lib.hid h15
  clear hP
  go_enter Tryd.func27, Tryd.ntmps27
  go_wp2_with fail
  generalize w.alloc (.cells #[.int .i64 0, .string ⟨#[]⟩, .int .i64 0, .int .i64 0, .int .i64 0] 33) = u at *
  refine (CS.out _).mono ?_; rintro e w1 ⟨rfl, rfl⟩
  go_wp2_with fail
  refine (hF.out _).mono ?_; rintro e w1 ⟨rfl, rfl⟩
  clear CS hr hF
  go_wp2_with fail
  refine CP.out.mono ?_; rintro e w2 ⟨rfl, hb2⟩
  have hT2 := Lib.hid (hT.out.later hb2)
  have hB2 := mmore hu hb2
  obtain ⟨c0, c1, c2, c3, c4, f0, f1, f2, f3, f4⟩ := hT2.out
  have g1 := mblock c0
  clear CP hb2
  go_wp2_with fail
  obtain ⟨q0, q1, q2, q3, q4⟩ := five_cells (.int .i64 0) (.string ⟨#[]⟩) (.int .i64 0) (.int .i64 0) (.int .i64 0) c0 c1 c2 c3 c4
  have B2 := (((((hB2.setCell (p := ⟨w.heap.size, 0, none⟩) (Nat.le_refl _) (.int .i64 0)).setCell (p := ⟨w.heap.size, 1, none⟩) (Nat.le_refl _) (.string ⟨#[]⟩)).setCell (p := ⟨w.heap.size, 2, none⟩) (Nat.le_refl _) (.int .i64 0)).setCell (p := ⟨w.heap.size, 3, none⟩) (Nat.le_refl _) (.int .i64 0)).setCell (p := ⟨w.heap.size, 4, none⟩) (Nat.le_refl _) (.int .i64 0))
  clear c0 c1 c2 c3 c4 f0 f1 f2 f3 f4
  generalize (((((w2.setCell ⟨w.heap.size, 0, none⟩ (.int .i64 0)).setCell ⟨w.heap.size, 1, none⟩ (.string ⟨#[]⟩)).setCell ⟨w.heap.size, 2, none⟩ (.int .i64 0)).setCell ⟨w.heap.size, 3, none⟩ (.int .i64 0)).setCell ⟨w.heap.size, 4, none⟩ (.int .i64 0)) = wz at *
  exact bodyPost_ret (v := .tuple #[.agg #[.int .i64 0, .string ⟨#[]⟩, .int .i64 0, .int .i64 0, .int .i64 0], .int .i64 0]) (by simp [results, Tryd.results27, go_sem, q0, q1, q2, q3, q4]) rfl ⟨_, _, rfl, (.inr (.inr (.inl ⟨rfl, hcc.out, hp.out, h15.out, rfl, rfl⟩))), B2⟩

set_option maxHeartbeats 8000000 in
set_option maxRecDepth 100000 in
theorem number_real_a (s : ByteArray) (a : Nat) (v : Int) (P : ByteArray) (w : World) (hs : s.size ≤ 281474976710656) (hr : RunIs digC s a) (ha : 0 < (s.extract 0 a).size) (hPs : P.size ≤ 281474976710656) (hc : (s.extract 0 a)[0] ≠ 48) (hp : P.size ≠ 0) (h15 : a + P.size ≤ 15)
    (hF : ∀ w, Calls Tryd.prog 43 #[.string (s.extract a s.size)] w fun e w' => e = .returned (.string P) ∧ w = w')
    (hP : ∀ w1, Below w.heap.size w w1 → Calls Tryd.prog 44 #[.string (s.extract 0 a ++ P), .int .i64 10, .int .i64 64] w1 fun e w' => e = .returned (.tuple #[.int .i64 v, .nilIface]) ∧ Below w1.heap.size w1 w') :
    Calls Tryd.prog 27 #[.string s] w fun e w' => ∃ t n, e = .returned (.tuple #[t, .int .i64 n]) ∧ NumIs (((s.extract 0 a)[0]'ha).toNat : Int) a P v true t n ∧ Below w.heap.size w w' := by
  have CS := fun w => span_digit s a w (by omega) hr
  have hr0 := hr.1
  have hu := m1 w (.cells #[.int .i64 0, .string ⟨#[]⟩, .int .i64 0, .int .i64 0, .int .i64 0] 33)
  have hT := Lib.hid (TokZ.made w)
  have CP := Lib.hid (hP _ hu)
  have r0 : (0 : Int) ≤ (a : Int) := by omega
  have r1 : (a : Int) ≤ (s.size : Int) := by omega
  have hz : (s.extract 0 a).size = a := by simp; omega
  replace CS := Lib.hid CS
  replace hr := Lib.hid hr
  replace hF := Lib.hid hF
  have a0 : 0 < a := by omega
  replace hz := Lib.hid hz
  have hlen : ¬ 9223372036854775807 < a + P.size := by omega
  have hne : ∀ w, (binOp .neq 55 .nilIface .nilIface).run Tryd.prog w = .ok (.bool false) w := fun w => by simp [go_sem]
  have k1 : (((s.extract 0 a)[0].toNat : Int) == 48) = false := not48 _ hc
  have hcc : ¬ (((s.extract 0 a)[0].toNat : Int) = 48 ∧ 1 < a) := fun h => by have := h.1; simp [this] at k1
  replace hcc := Lib.hid hcc
  clear hc
  have h2 : P.toList.isEmpty = false := by
    have h3 := toList_ne P hp
    cases hq : P.toList with
    | nil => exact absurd hq h3
    | cons _ _ => rfl
  replace hp := Lib.hid hp
  have k5 : ¬ (15 : Int) < (a : Int) + (P.size : Int) := by omega
  replace h15 := Lib.hid h15
  clear hP
  go_enter Tryd.func27, Tryd.ntmps27
  go_wp2_with fail
  generalize w.alloc (.cells #[.int .i64 0, .string ⟨#[]⟩, .int .i64 0, .int .i64 0, .int .i64 0] 33) = u at *
  refine (CS.out _).mono ?_; rintro e w1 ⟨rfl, rfl⟩
  go_wp2_with fail
  refine (hF.out _).mono ?_; rintro e w1 ⟨rfl, rfl⟩
  clear CS hr hF
  go_wp2_with fail
  refine CP.out.mono ?_; rintro e w2 ⟨rfl, hb2⟩
  have hT2 := Lib.hid (hT.out.later hb2)
  have hB2 := mmore hu hb2
  obtain ⟨c0, c1, c2, c3, c4, f0, f1, f2, f3, f4⟩ := hT2.out
  have g1 := mblock c0
  clear CP hb2
  go_wp2_with fail
  obtain ⟨q0, q1, q2, q3, q4⟩ := five_cells (.int .i64 4) (.string ⟨#[]⟩) (.int .i64 v) (.int .i64 (P.size : Int)) (.int .i64 0) c0 c1 c2 c3 c4
  have B2 := (((((hB2.setCell (p := ⟨w.heap.size, 0, none⟩) (Nat.le_refl _) (.int .i64 4)).setCell (p := ⟨w.heap.size, 1, none⟩) (Nat.le_refl _) (.string ⟨#[]⟩)).setCell (p := ⟨w.heap.size, 2, none⟩) (Nat.le_refl _) (.int .i64 v)).setCell (p := ⟨w.heap.size, 3, none⟩) (Nat.le_refl _) (.int .i64 (P.size : Int))).setCell (p := ⟨w.heap.size, 4, none⟩) (Nat.le_refl _) (.int .i64 0))
  clear c0 c1 c2 c3 c4 f0 f1 f2 f3 f4
  generalize (((((w2.setCell ⟨w.heap.size, 0, none⟩ (.int .i64 4)).setCell ⟨w.heap.size, 1, none⟩ (.string ⟨#[]⟩)).setCell ⟨w.heap.size, 2, none⟩ (.int .i64 v)).setCell ⟨w.heap.size, 3, none⟩ (.int .i64 (P.size : Int))).setCell ⟨w.heap.size, 4, none⟩ (.int .i64 0)) = wz at *
  exact bodyPost_ret (v := .tuple #[.agg #[.int .i64 4, .string ⟨#[]⟩, .int .i64 v, .int .i64 (P.size : Int), .int .i64 0], .int .i64 ((a : Int) + 1 + (P.size : Int))]) (by simp [results, Tryd.results27, go_sem, q0, q1, q2, q3, q4]) rfl ⟨_, _, rfl, (.inr (.inr (.inr ⟨rfl, hcc.out, hp.out, h15.out, rfl, rfl⟩))), B2⟩

set_option maxHeartbeats 8000000 in
set_option maxRecDepth 100000 in
theorem number_int_b (s : ByteArray) (a : Nat) (v : Int) (w : World) (hs : s.size ≤ 281474976710656) (hr : RunIs digC s a) (ha : 0 < (s.extract 0 a).size) (hPs : (⟨#[]⟩ : ByteArray).size ≤ 281474976710656) (hc : (s.extract 0 a)[0] = 48) (h1 : a = 1)
    (hF : ∀ w, Calls Tryd.prog 43 #[.string (s.extract a s.size)] w fun e w' => e = .returned (.string (⟨#[]⟩ : ByteArray)) ∧ w = w')
    (hP : ∀ w1, Below w.heap.size w w1 → Calls Tryd.prog 44 #[.string (s.extract 0 a ++ (⟨#[]⟩ : ByteArray)), .int .i64 10, .int .i64 64] w1 fun e w' => e = .returned (.tuple #[.int .i64 v, .nilIface]) ∧ Below w1.heap.size w1 w') :
    Calls Tryd.prog 27 #[.string s] w fun e w' => ∃ t n, e = .returned (.tuple #[t, .int .i64 n]) ∧ NumIs (((s.extract 0 a)[0]'ha).toNat : Int) a (⟨#[]⟩ : ByteArray) v true t n ∧ Below w.heap.size w w' := by
  have CS := fun w => span_digit s a w (by omega) hr
  have hr0 := hr.1
  have hu := m1 w (.cells #[.int .i64 0, .string ⟨#[]⟩, .int .i64 0, .int .i64 0, .int .i64 0] 33)
  have hT := Lib.hid (TokZ.made w)
  have CP := Lib.hid (hP _ hu)
  have r0 : (0 : Int) ≤ (a : Int) := by omega
  have r1 : (a : Int) ≤ (s.size : Int) := by omega
  have hz : (s.extract 0 a).size = a := by simp; omega
  replace CS := Lib.hid CS
  replace hr := Lib.hid hr
  replace hF := Lib.hid hF
  have a0 : 0 < a := by omega
  replace hz := Lib.hid hz
  have hlen : ¬ 9223372036854775807 < a + (⟨#[]⟩ : ByteArray).size := by show ¬ 9223372036854775807 < a + 0; omega
  have hne : ∀ w, (binOp .neq 55 .nilIface .nilIface).run Tryd.prog w = .ok (.bool false) w := fun w => by simp [go_sem]
  have k1 : (((s.extract 0 a)[0].toNat : Int) == 48) = true := by rw [hc]; rfl
  have k2 : ¬ (1 : Int) < (a : Int) := by omega
  have hcc : ¬ (((s.extract 0 a)[0].toNat : Int) = 48 ∧ 1 < a) := fun h => by have := h.2; omega
  replace hcc := Lib.hid hcc
  replace h1 := Lib.hid h1
  clear hc
  have hpe : ∀ w, (binOp .eql 9 (.string ⟨#[]⟩) (.string ⟨#[]⟩)).run Tryd.prog w = .ok (.bool true) w := fun w => by simp [go_sem]
  clear hP
  go_enter Tryd.func27, Tryd.ntmps27
  go_wp2_with fail
  generalize w.alloc (.cells #[.int .i64 0, .string ⟨#[]⟩, .int .i64 0, .int .i64 0, .int .i64 0] 33) = u at *
  refine (CS.out _).mono ?_; rintro e w1 ⟨rfl, rfl⟩
  go_wp2_with fail
  refine (hF.out _).mono ?_; rintro e w1 ⟨rfl, rfl⟩
  clear CS hr hF
  go_wp2_with fail
  refine CP.out.mono ?_; rintro e w2 ⟨rfl, hb2⟩
  have hT2 := Lib.hid (hT.out.later hb2)
  have hB2 := mmore hu hb2
  obtain ⟨c0, c1, c2, c3, c4, f0, f1, f2, f3, f4⟩ := hT2.out
  have g1 := mblock c0
  clear CP hb2
  go_wp2_with fail
  obtain ⟨q0, q1, q2, q3, q4⟩ := five_cells (.int .i64 3) (.string ⟨#[]⟩) (.int .i64 v) (.int .i64 0) (.int .i64 0) c0 c1 c2 c3 c4
  have B2 := (((((hB2.setCell (p := ⟨w.heap.size, 0, none⟩) (Nat.le_refl _) (.int .i64 3)).setCell (p := ⟨w.heap.size, 1, none⟩) (Nat.le_refl _) (.string ⟨#[]⟩)).setCell (p := ⟨w.heap.size, 2, none⟩) (Nat.le_refl _) (.int .i64 v)).setCell (p := ⟨w.heap.size, 3, none⟩) (Nat.le_refl _) (.int .i64 0)).setCell (p := ⟨w.heap.size, 4, none⟩) (Nat.le_refl _) (.int .i64 0))
  clear c0 c1 c2 c3 c4 f0 f1 f2 f3 f4
  generalize (((((w2.setCell ⟨w.heap.size, 0, none⟩ (.int .i64 3)).setCell ⟨w.heap.size, 1, none⟩ (.string ⟨#[]⟩)).setCell ⟨w.heap.size, 2, none⟩ (.int .i64 v)).setCell ⟨w.heap.size, 3, none⟩ (.int .i64 0)).setCell ⟨w.heap.size, 4, none⟩ (.int .i64 0)) = wz at *
  exact bodyPost_ret (v := .tuple #[.agg #[.int .i64 3, .string ⟨#[]⟩, .int .i64 v, .int .i64 0, .int .i64 0], .int .i64 (a : Int)]) (by simp [results, Tryd.results27, go_sem, q0, q1, q2, q3, q4]) rfl ⟨_, _, rfl, (.inr (.inl ⟨rfl, hcc.out, rfl, rfl, rfl⟩)), B2⟩

set_option maxHeartbeats 8000000 in
set_option maxRecDepth 100000 in
theorem number_long_b (s : ByteArray) (a : Nat) (v : Int) (P : ByteArray) (w : World) (hs : s.size ≤ 281474976710656) (hr : RunIs digC s a) (ha : 0 < (s.extract 0 a).size) (hPs : P.size ≤ 281474976710656) (hc : (s.extract 0 a)[0] = 48) (h1 : a = 1) (hp : P.size ≠ 0) (h15 : 15 < a + P.size)
    (hF : ∀ w, Calls Tryd.prog 43 #[.string (s.extract a s.size)] w fun e w' => e = .returned (.string P) ∧ w = w')
    (hP : ∀ w1, Below w.heap.size w w1 → Calls Tryd.prog 44 #[.string (s.extract 0 a ++ P), .int .i64 10, .int .i64 64] w1 fun e w' => e = .returned (.tuple #[.int .i64 v, .nilIface]) ∧ Below w1.heap.size w1 w') :
    Calls Tryd.prog 27 #[.string s] w fun e w' => ∃ t n, e = .returned (.tuple #[t, .int .i64 n]) ∧ NumIs (((s.extract 0 a)[0]'ha).toNat : Int) a P v true t n ∧ Below w.heap.size w w' := by
  have CS := fun w => span_digit s a w (by omega) hr
  have hr0 := hr.1
  have hu := m1 w (.cells #[.int .i64 0, .string ⟨#[]⟩, .int .i64 0, .int .i64 0, .int .i64 0] 33)
  have hT := Lib.hid (TokZ.made w)
  have CP := Lib.hid (hP _ hu)
  have r0 : (0 : Int) ≤ (a : Int) := by omega
  have r1 : (a : Int) ≤ (s.size : Int) := by omega
  have hz : (s.extract 0 a).size = a := by simp; omega
  replace CS := Lib.hid CS
  replace hr := Lib.hid hr
  replace hF := Lib.hid hF
  have a0 : 0 < a := by omega
  replace hz := Lib.hid hz
  have hlen : ¬ 9223372036854775807 < a + P.size := by omega
  have hne : ∀ w, (binOp .neq 55 .nilIface .nilIface).run Tryd.prog w = .ok (.bool false) w := fun w => by simp [go_sem]
  have k1 : (((s.extract 0 a)[0].toNat : Int) == 48) = true := by rw [hc]; rfl
  have k2 : ¬ (1 : Int) < (a : Int) := by omega
  have hcc : ¬ (((s.extract 0 a)[0].toNat : Int) = 48 ∧ 1 < a) := fun h => by have := h.2; omega
  replace hcc := Lib.hid hcc
  replace h1 := Lib.hid h1
  clear hc
  have h2 : P.toList.isEmpty = false := by
    have h3 := toList_ne P hp
    cases hq : P.toList with
    | nil => exact absurd hq h3
    | cons _ _ => rfl
  replace hp := Lib.hid hp
  have k5 : (15 : Int) < (a : Int) + (P.size : Int) := by omega
  replace h15 := Lib.hid h15
  clear hP
  go_enter Tryd.func27, Tryd.ntmps27
  go_wp2_with fail
  generalize w.alloc (.cells #[.int .i64 0, .string ⟨#[]⟩, .int .i64 0, .int .i64 0, .int .i64 0] 33) = u at *
  refine (CS.out _).mono ?_; rintro e w1 ⟨rfl, rfl⟩
  go_wp2_with fail
  refine (hF.out _).mono ?_; rintro e w1 ⟨rfl, rfl⟩
  clear CS hr hF
  go_wp2_with fail
  refine CP.out.mono ?_; rintro e w2 ⟨rfl, hb2⟩
  have hT2 := Lib.hid (hT.out.later hb2)
  have hB2 := mmore hu hb2
  obtain ⟨c0, c1, c2, c3, c4, f0, f1, f2, f3, f4⟩ := hT2.out
  have g1 := mblock c0
  clear CP hb2
  go_wp2_with fail
  obtain ⟨q0, q1, q2, q3, q4⟩ := five_cells (.int .i64 0) (.string ⟨#[]⟩) (.int .i64 0) (.int .i64 0) (.int .i64 0) c0 c1 c2 c3 c4
  have B2 := (((((hB2.setCell (p := ⟨w.heap.size, 0, none⟩) (Nat.le_refl _) (.int .i64 0)).setCell (p := ⟨w.heap.size, 1, none⟩) (Nat.le_refl _) (.string ⟨#[]⟩)).setCell (p := ⟨w.heap.size, 2, none⟩) (Nat.le_refl _) (.int .i64 0)).setCell (p := ⟨w.heap.size, 3, none⟩) (Nat.le_refl _) (.int .i64 0)).setCell (p := ⟨w.heap.size, 4, none⟩) (Nat.le_refl _) (.int .i64 0))
  clear c0 c1 c2 c3 c4 f0 f1 f2 f3 f4
  generalize (((((w2.setCell ⟨w.heap.size, 0, none⟩ (.int .i64 0)).setCell ⟨w.heap.size, 1, none⟩ (.string ⟨#[]⟩)).setCell ⟨w.heap.size, 2, none⟩ (.int .i64 0)).setCell ⟨w.heap.size, 3, none⟩ (.int .i64 0)).setCell ⟨w.heap.size, 4, none⟩ (.int .i64 0)) = wz at *
  exact bodyPost_ret (v := .tuple #[.agg #[.int .i64 0, .string ⟨#[]⟩, .int .i64 0, .int .i64 0, .int .i64 0], .int .i64 0]) (by simp [results, Tryd.results27, go_sem, q0, q1, q2, q3, q4]) rfl ⟨_, _, rfl, (.inr (.inr (.inl ⟨rfl, hcc.out, hp.out, h15.out, rfl, rfl⟩))), B2⟩

set_option maxHeartbeats 8000000 in
set_option maxRecDepth 100000 in
theorem number_real_b (s : ByteArray) (a : Nat) (v : Int) (P : ByteArray) (w : World) (hs : s.size ≤ 281474976710656) (hr : RunIs digC s a) (ha : 0 < (s.extract 0 a).size) (hPs : P.size ≤ 281474976710656) (hc : (s.extract 0 a)[0] = 48) (h1 : a = 1) (hp : P.size ≠ 0) (h15 : a + P.size ≤ 15)
    (hF : ∀ w, Calls Tryd.prog 43 #[.string (s.extract a s.size)] w fun e w' => e = .returned (.string P) ∧ w = w')
    (hP : ∀ w1, Below w.heap.size w w1 → Calls Tryd.prog 44 #[.string (s.extract 0 a ++ P), .int .i64 10, .int .i64 64] w1 fun e w' => e = .returned (.tuple #[.int .i64 v, .nilIface]) ∧ Below w1.heap.size w1 w') :
    Calls Tryd.prog 27 #[.string s] w fun e w' => ∃ t n, e = .returned (.tuple #[t, .int .i64 n]) ∧ NumIs (((s.extract 0 a)[0]'ha).toNat : Int) a P v true t n ∧ Below w.heap.size w w' := by
  have CS := fun w => span_digit s a w (by omega) hr
  have hr0 := hr.1
  have hu := m1 w (.cells #[.int .i64 0, .string ⟨#[]⟩, .int .i64 0, .int .i64 0, .int .i64 0] 33)
  have hT := Lib.hid (TokZ.made w)
  have CP := Lib.hid (hP _ hu)
  have r0 : (0 : Int) ≤ (a : Int) := by omega
  have r1 : (a : Int) ≤ (s.size : Int) := by omega
  have hz : (s.extract 0 a).size = a := by simp; omega
  replace CS := Lib.hid CS
  replace hr := Lib.hid hr
  replace hF := Lib.hid hF
  have a0 : 0 < a := by omega
  replace hz := Lib.hid hz
  have hlen : ¬ 9223372036854775807 < a + P.size := by omega
  have hne : ∀ w, (binOp .neq 55 .nilIface .nilIface).run Tryd.prog w = .ok (.bool false) w := fun w => by simp [go_sem]
  have k1 : (((s.extract 0 a)[0].toNat : Int) == 48) = true := by rw [hc]; rfl
  have k2 : ¬ (1 : Int) < (a : Int) := by omega
  have hcc : ¬ (((s.extract 0 a)[0].toNat : Int) = 48 ∧ 1 < a) := fun h => by have := h.2; omega
  replace hcc := Lib.hid hcc
  replace h1 := Lib.hid h1
  clear hc
  have h2 : P.toList.isEmpty = false := by
    have h3 := toList_ne P hp
    cases hq : P.toList with
    | nil => exact absurd hq h3
    | cons _ _ => rfl
  replace hp := Lib.hid hp
  have k5 : ¬ (15 : Int) < (a : Int) + (P.size : Int) := by omega
  replace h15 := Lib.hid h15
  clear hP
  go_enter Tryd.func27, Tryd.ntmps27
  go_wp2_with fail
  generalize w.alloc (.cells #[.int .i64 0, .string ⟨#[]⟩, .int .i64 0, .int .i64 0, .int .i64 0] 33) = u at *
  refine (CS.out _).mono ?_; rintro e w1 ⟨rfl, rfl⟩
  go_wp2_with fail
  refine (hF.out _).mono ?_; rintro e w1 ⟨rfl, rfl⟩
  clear CS hr hF
  go_wp2_with fail
  refine CP.out.mono ?_; rintro e w2 ⟨rfl, hb2⟩
  have hT2 := Lib.hid (hT.out.later hb2)
  have hB2 := mmore hu hb2
  obtain ⟨c0, c1, c2, c3, c4, f0, f1, f2, f3, f4⟩ := hT2.out
  have g1 := mblock c0
  clear CP hb2
  go_wp2_with fail
  obtain ⟨q0, q1, q2, q3, q4⟩ := five_cells (.int .i64 4) (.string ⟨#[]⟩) (.int .i64 v) (.int .i64 (P.size : Int)) (.int .i64 0) c0 c1 c2 c3 c4
  have B2 := (((((hB2.setCell (p := ⟨w.heap.size, 0, none⟩) (Nat.le_refl _) (.int .i64 4)).setCell (p := ⟨w.heap.size, 1, none⟩) (Nat.le_refl _) (.string ⟨#[]⟩)).setCell (p := ⟨w.heap.size, 2, none⟩) (Nat.le_refl _) (.int .i64 v)).setCell (p := ⟨w.heap.size, 3, none⟩) (Nat.le_refl _) (.int .i64 (P.size : Int))).setCell (p := ⟨w.heap.size, 4, none⟩) (Nat.le_refl _) (.int .i64 0))
  clear c0 c1 c2 c3 c4 f0 f1 f2 f3 f4
  generalize (((((w2.setCell ⟨w.heap.size, 0, none⟩ (.int .i64 4)).setCell ⟨w.heap.size, 1, none⟩ (.string ⟨#[]⟩)).setCell ⟨w.heap.size, 2, none⟩ (.int .i64 v)).setCell ⟨w.heap.size, 3, none⟩ (.int .i64 (P.size : Int))).setCell ⟨w.heap.size, 4, none⟩ (.int .i64 0)) = wz at *
  exact bodyPost_ret (v := .tuple #[.agg #[.int .i64 4, .string ⟨#[]⟩, .int .i64 v, .int .i64 (P.size : Int), .int .i64 0], .int .i64 ((a : Int) + 1 + (P.size : Int))]) (by simp [results, Tryd.results27, go_sem, q0, q1, q2, q3, q4]) rfl ⟨_, _, rfl, (.inr (.inr (.inr ⟨rfl, hcc.out, hp.out, h15.out, rfl, rfl⟩))), B2⟩
end Go.Proofs.YteojcohmocbakaaDoor
