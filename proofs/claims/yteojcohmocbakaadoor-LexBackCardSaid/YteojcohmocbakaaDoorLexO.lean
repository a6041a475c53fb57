/- The document's number that stands at a place, as contracts, way by way. -/
import Derived.Test.YteojcohmocbakaaDoorLexM
import Derived.Lib.ConvBytes
namespace Go.Proofs.YteojcohmocbakaaDoor
open Go.ChangeShapes Go.WideShapes Go.ChangeAt Go.RowKit
set_option linter.unusedVariables false
set_option linter.unusedSimpArgs false

theorem TokZ.made5 (w : World) : TokZ (w.alloc (.cells #[.int .i64 0, .string ⟨#[]⟩, .int .i64 0, .int .i64 0, .int .i64 0] 36)) w.heap.size := by
  refine ⟨?_, ?_, ?_, ?_, ?_, ?_, ?_, ?_, ?_, ?_⟩ <;> simp [go_sem]

set_option maxHeartbeats 8000000 in
set_option maxRecDepth 100000 in
theorem rn_p0_z (s : ByteArray) (a n b : Nat) (w : World) (hs : s.size ≤ 4000) (hb : b = a + n) (hbs : b ≤ s.size) (hn : 0 < n) (d : ByteArray) (hd : s.extract a b = d) (hx0 : 0 < d.size)
    (CM : ∀ w, Calls Tryd.prog 31 #[.string s, .int .i64 (a : Int), .bool false] w fun e w' => e = .returned (.int .i64 (n : Int)) ∧ w = w') (h46 : ¬ b < s.size) (h1 : 1 < n) (hc : ((d[0]'hx0).toNat : Int) = 48) :
    Calls Tryd.prog 35 #[.string s, .int .i64 (a : Int)] w fun e w' => e = .returned (.tuple #[.agg #[.int .i64 0, .string ⟨#[]⟩, .int .i64 0, .int .i64 0, .int .i64 0], .int .i64 0]) ∧ Below w.heap.size w w' := by
  have hu := m1 w (.cells #[.int .i64 0, .string ⟨#[]⟩, .int .i64 0, .int .i64 0, .int .i64 0] 36)
  have hT := Lib.hid (TokZ.made5 w)
  have a0 : (0 : Int) ≤ (a : Int) := by omega
  have b0 : (0 : Int) ≤ (b : Int) := by omega
  have ab : (a : Int) ≤ (b : Int) := by omega
  have bs : (b : Int) ≤ (s.size : Int) := by omega
  have hwb : IntKind.i64.wrap ((a : Int) + (n : Int)) = (b : Int) := by rw [IntKind.wrap_i64]; omega
  have hz : d.size = n := by rw [← hd, ByteArray.size_extract]; omega
  have hz0 : (0 : Int) < (d.size : Int) := by omega
  replace hd := Lib.hid hd
  replace CM := Lib.hid CM
  have k46 : ¬ (b : Int) < (s.size : Int) := by omega
  clear h46
  have k1 : (n : Int) > 1 := by omega
  have k2 : (((d[0]'hx0).toNat : Int) == 48) = true := by rw [hc]; rfl
  clear hc h1
  replace hz := Lib.hid hz
  clear hb hbs hn
  go_enter Tryd.func35, Tryd.ntmps35
  go_wp2_with fail
  generalize w.alloc (.cells #[.int .i64 0, .string ⟨#[]⟩, .int .i64 0, .int .i64 0, .int .i64 0] 36) = u at *
  refine (CM.out _).mono ?_; rintro e w1 ⟨rfl, rfl⟩
  clear CM
  go_upto_region 3 with (fail)
  rw [hd.out]
  obtain ⟨c0, c1, c2, c3, c4, f0, f1, f2, f3, f4⟩ := hT.out
  have g1 := mblock c0
  go_wp2_with fail
  obtain ⟨q0, q1, q2, q3, q4⟩ := five_cells (.int .i64 0) (.string ⟨#[]⟩) (.int .i64 0) (.int .i64 0) (.int .i64 0) c0 c1 c2 c3 c4
  have B2 := (((((hu.setCell (p := ⟨w.heap.size, 0, none⟩) (Nat.le_refl _) (.int .i64 0)).setCell (p := ⟨w.heap.size, 1, none⟩) (Nat.le_refl _) (.string ⟨#[]⟩)).setCell (p := ⟨w.heap.size, 2, none⟩) (Nat.le_refl _) (.int .i64 0)).setCell (p := ⟨w.heap.size, 3, none⟩) (Nat.le_refl _) (.int .i64 0)).setCell (p := ⟨w.heap.size, 4, none⟩) (Nat.le_refl _) (.int .i64 0))
  clear c0 c1 c2 c3 c4 f0 f1 f2 f3 f4
  generalize (((((u.setCell ⟨w.heap.size, 0, none⟩ (.int .i64 0)).setCell ⟨w.heap.size, 1, none⟩ (.string ⟨#[]⟩)).setCell ⟨w.heap.size, 2, none⟩ (.int .i64 0)).setCell ⟨w.heap.size, 3, none⟩ (.int .i64 0)).setCell ⟨w.heap.size, 4, none⟩ (.int .i64 0)) = wz at *
  exact bodyPost_ret (v := .tuple #[.agg #[.int .i64 0, .string ⟨#[]⟩, .int .i64 0, .int .i64 0, .int .i64 0], .int .i64 0]) (by simp [results, Tryd.results35, go_sem, q0, q1, q2, q3, q4]) rfl ⟨rfl, B2⟩

set_option maxHeartbeats 8000000 in
set_option maxRecDepth 100000 in
theorem rn_p0_l (s : ByteArray) (a n b : Nat) (w : World) (hs : s.size ≤ 4000) (hb : b = a + n) (hbs : b ≤ s.size) (hn : 0 < n) (d : ByteArray) (hd : s.extract a b = d) (hx0 : 0 < d.size)
    (CM : ∀ w, Calls Tryd.prog 31 #[.string s, .int .i64 (a : Int), .bool false] w fun e w' => e = .returned (.int .i64 (n : Int)) ∧ w = w') (h46 : ¬ b < s.size) (h1 : 1 < n) (hc : ¬ ((d[0]'hx0).toNat : Int) = 48) (h19 : 19 < n) :
    Calls Tryd.prog 35 #[.string s, .int .i64 (a : Int)] w fun e w' => e = .returned (.tuple #[.agg #[.int .i64 0, .string ⟨#[]⟩, .int .i64 0, .int .i64 0, .int .i64 0], .int .i64 0]) ∧ Below w.heap.size w w' := by
  have hu := m1 w (.cells #[.int .i64 0, .string ⟨#[]⟩, .int .i64 0, .int .i64 0, .int .i64 0] 36)
  have hT := Lib.hid (TokZ.made5 w)
  have a0 : (0 : Int) ≤ (a : Int) := by omega
  have b0 : (0 : Int) ≤ (b : Int) := by omega
  have ab : (a : Int) ≤ (b : Int) := by omega
  have bs : (b : Int) ≤ (s.size : Int) := by omega
  have hwb : IntKind.i64.wrap ((a : Int) + (n : Int)) = (b : Int) := by rw [IntKind.wrap_i64]; omega
  have hz : d.size = n := by rw [← hd, ByteArray.size_extract]; omega
  have hz0 : (0 : Int) < (d.size : Int) := by omega
  replace hd := Lib.hid hd
  replace CM := Lib.hid CM
  have k46 : ¬ (b : Int) < (s.size : Int) := by omega
  clear h46
  have k1 : (n : Int) > 1 := by omega
  have k2 : (((d[0]'hx0).toNat : Int) == 48) = false := by simp; omega
  clear hc h1
  have k3 : (n : Int) > 19 := by omega
  clear h19
  replace hz := Lib.hid hz
  clear hb hbs hn
  go_enter Tryd.func35, Tryd.ntmps35
  go_wp2_with fail
  generalize w.alloc (.cells #[.int .i64 0, .string ⟨#[]⟩, .int .i64 0, .int .i64 0, .int .i64 0] 36) = u at *
  refine (CM.out _).mono ?_; rintro e w1 ⟨rfl, rfl⟩
  clear CM
  go_upto_region 3 with (fail)
  rw [hd.out]
  obtain ⟨c0, c1, c2, c3, c4, f0, f1, f2, f3, f4⟩ := hT.out
  have g1 := mblock c0
  go_wp2_with fail
  obtain ⟨q0, q1, q2, q3, q4⟩ := five_cells (.int .i64 0) (.string ⟨#[]⟩) (.int .i64 0) (.int .i64 0) (.int .i64 0) c0 c1 c2 c3 c4
  have B2 := (((((hu.setCell (p := ⟨w.heap.size, 0, none⟩) (Nat.le_refl _) (.int .i64 0)).setCell (p := ⟨w.heap.size, 1, none⟩) (Nat.le_refl _) (.string ⟨#[]⟩)).setCell (p := ⟨w.heap.size, 2, none⟩) (Nat.le_refl _) (.int .i64 0)).setCell (p := ⟨w.heap.size, 3, none⟩) (Nat.le_refl _) (.int .i64 0)).setCell (p := ⟨w.heap.size, 4, none⟩) (Nat.le_refl _) (.int .i64 0))
  clear c0 c1 c2 c3 c4 f0 f1 f2 f3 f4
  generalize (((((u.setCell ⟨w.heap.size, 0, none⟩ (.int .i64 0)).setCell ⟨w.heap.size, 1, none⟩ (.string ⟨#[]⟩)).setCell ⟨w.heap.size, 2, none⟩ (.int .i64 0)).setCell ⟨w.heap.size, 3, none⟩ (.int .i64 0)).setCell ⟨w.heap.size, 4, none⟩ (.int .i64 0)) = wz at *
  exact bodyPost_ret (v := .tuple #[.agg #[.int .i64 0, .string ⟨#[]⟩, .int .i64 0, .int .i64 0, .int .i64 0], .int .i64 0]) (by simp [results, Tryd.results35, go_sem, q0, q1, q2, q3, q4]) rfl ⟨rfl, B2⟩

set_option maxHeartbeats 8000000 in
set_option maxRecDepth 100000 in
theorem rn_p0_ia (s : ByteArray) (a n b : Nat) (w : World) (hs : s.size ≤ 4000) (hb : b = a + n) (hbs : b ≤ s.size) (hn : 0 < n) (d : ByteArray) (hd : s.extract a b = d) (hx0 : 0 < d.size)
    (CM : ∀ w, Calls Tryd.prog 31 #[.string s, .int .i64 (a : Int), .bool false] w fun e w' => e = .returned (.int .i64 (n : Int)) ∧ w = w') (h46 : ¬ b < s.size) (h1 : 1 < n) (hc : ¬ ((d[0]'hx0).toNat : Int) = 48) (h19 : ¬ 19 < n) (v : Int) (CN : ∀ w, Calls Tryd.prog 47 #[.string d] w fun e w' => e = .returned (.tuple #[.int .i64 v, .bool true]) ∧ Below w.heap.size w w') :
    Calls Tryd.prog 35 #[.string s, .int .i64 (a : Int)] w fun e w' => e = .returned (.tuple #[.agg #[.int .i64 3, .string ⟨#[]⟩, .int .i64 v, .int .i64 0, .int .i64 0], .int .i64 (n : Int)]) ∧ Below w.heap.size w w' := by
  have hu := m1 w (.cells #[.int .i64 0, .string ⟨#[]⟩, .int .i64 0, .int .i64 0, .int .i64 0] 36)
  have hT := Lib.hid (TokZ.made5 w)
  have a0 : (0 : Int) ≤ (a : Int) := by omega
  have b0 : (0 : Int) ≤ (b : Int) := by omega
  have ab : (a : Int) ≤ (b : Int) := by omega
  have bs : (b : Int) ≤ (s.size : Int) := by omega
  have hwb : IntKind.i64.wrap ((a : Int) + (n : Int)) = (b : Int) := by rw [IntKind.wrap_i64]; omega
  have hz : d.size = n := by rw [← hd, ByteArray.size_extract]; omega
  have hz0 : (0 : Int) < (d.size : Int) := by omega
  replace hd := Lib.hid hd
  replace CM := Lib.hid CM
  have k46 : ¬ (b : Int) < (s.size : Int) := by omega
  clear h46
  have k1 : (n : Int) > 1 := by omega
  have k2 : (((d[0]'hx0).toNat : Int) == 48) = false := by simp; omega
  clear hc h1
  have k3 : ¬ (n : Int) > 19 := by omega
  clear h19
  replace CN := Lib.hid CN
  replace hz := Lib.hid hz
  clear hb hbs hn
  go_enter Tryd.func35, Tryd.ntmps35
  go_wp2_with fail
  generalize w.alloc (.cells #[.int .i64 0, .string ⟨#[]⟩, .int .i64 0, .int .i64 0, .int .i64 0] 36) = u at *
  refine (CM.out _).mono ?_; rintro e w1 ⟨rfl, rfl⟩
  clear CM
  go_upto_region 3 with (fail)
  rw [hd.out]
  go_wp2_with fail
  refine (CN.out _).mono ?_; rintro e w2 ⟨rfl, hb2⟩
  obtain ⟨c0, c1, c2, c3, c4, f0, f1, f2, f3, f4⟩ := hT.out.later hb2
  have g1 := mblock c0
  have hB2 := mmore hu hb2
  clear CN
  go_wp2_with fail
  obtain ⟨q0, q1, q2, q3, q4⟩ := five_cells (.int .i64 3) (.string ⟨#[]⟩) (.int .i64 v) (.int .i64 0) (.int .i64 0) c0 c1 c2 c3 c4
  have B2 := (((((hB2.setCell (p := ⟨w.heap.size, 0, none⟩) (Nat.le_refl _) (.int .i64 3)).setCell (p := ⟨w.heap.size, 1, none⟩) (Nat.le_refl _) (.string ⟨#[]⟩)).setCell (p := ⟨w.heap.size, 2, none⟩) (Nat.le_refl _) (.int .i64 v)).setCell (p := ⟨w.heap.size, 3, none⟩) (Nat.le_refl _) (.int .i64 0)).setCell (p := ⟨w.heap.size, 4, none⟩) (Nat.le_refl _) (.int .i64 0))
  clear c0 c1 c2 c3 c4 f0 f1 f2 f3 f4
  generalize (((((w2.setCell ⟨w.heap.size, 0, none⟩ (.int .i64 3)).setCell ⟨w.heap.size, 1, none⟩ (.string ⟨#[]⟩)).setCell ⟨w.heap.size, 2, none⟩ (.int .i64 v)).setCell ⟨w.heap.size, 3, none⟩ (.int .i64 0)).setCell ⟨w.heap.size, 4, none⟩ (.int .i64 0)) = wz at *
  exact bodyPost_ret (v := .tuple #[.agg #[.int .i64 3, .string ⟨#[]⟩, .int .i64 v, .int .i64 0, .int .i64 0], .int .i64 (n : Int)]) (by simp [results, Tryd.results35, go_sem, q0, q1, q2, q3, q4]) rfl ⟨rfl, B2⟩

set_option maxHeartbeats 8000000 in
set_option maxRecDepth 100000 in
theorem rn_p0_na (s : ByteArray) (a n b : Nat) (w : World) (hs : s.size ≤ 4000) (hb : b = a + n) (hbs : b ≤ s.size) (hn : 0 < n) (d : ByteArray) (hd : s.extract a b = d) (hx0 : 0 < d.size)
    (CM : ∀ w, Calls Tryd.prog 31 #[.string s, .int .i64 (a : Int), .bool false] w fun e w' => e = .returned (.int .i64 (n : Int)) ∧ w = w') (h46 : ¬ b < s.size) (h1 : 1 < n) (hc : ¬ ((d[0]'hx0).toNat : Int) = 48) (h19 : ¬ 19 < n) (CN : ∀ w, Calls Tryd.prog 47 #[.string d] w fun e w' => ∃ v, e = .returned (.tuple #[.int .i64 v, .bool false]) ∧ Below w.heap.size w w') :
    Calls Tryd.prog 35 #[.string s, .int .i64 (a : Int)] w fun e w' => e = .returned (.tuple #[.agg #[.int .i64 0, .string ⟨#[]⟩, .int .i64 0, .int .i64 0, .int .i64 0], .int .i64 0]) ∧ Below w.heap.size w w' := by
  have hu := m1 w (.cells #[.int .i64 0, .string ⟨#[]⟩, .int .i64 0, .int .i64 0, .int .i64 0] 36)
  have hT := Lib.hid (TokZ.made5 w)
  have a0 : (0 : Int) ≤ (a : Int) := by omega
  have b0 : (0 : Int) ≤ (b : Int) := by omega
  have ab : (a : Int) ≤ (b : Int) := by omega
  have bs : (b : Int) ≤ (s.size : Int) := by omega
  have hwb : IntKind.i64.wrap ((a : Int) + (n : Int)) = (b : Int) := by rw [IntKind.wrap_i64]; omega
  have hz : d.size = n := by rw [← hd, ByteArray.size_extract]; omega
  have hz0 : (0 : Int) < (d.size : Int) := by omega
  replace hd := Lib.hid hd
  replace CM := Lib.hid CM
  have k46 : ¬ (b : Int) < (s.size : Int) := by omega
  clear h46
  have k1 : (n : Int) > 1 := by omega
  have k2 : (((d[0]'hx0).toNat : Int) == 48) = false := by simp; omega
  clear hc h1
  have k3 : ¬ (n : Int) > 19 := by omega
  clear h19
  replace CN := Lib.hid CN
  replace hz := Lib.hid hz
  clear hb hbs hn
  go_enter Tryd.func35, Tryd.ntmps35
  go_wp2_with fail
  generalize w.alloc (.cells #[.int .i64 0, .string ⟨#[]⟩, .int .i64 0, .int .i64 0, .int .i64 0] 36) = u at *
  refine (CM.out _).mono ?_; rintro e w1 ⟨rfl, rfl⟩
  clear CM
  go_upto_region 3 with (fail)
  rw [hd.out]
  go_wp2_with fail
  refine (CN.out _).mono ?_; rintro e w2 ⟨v, rfl, hb2⟩
  obtain ⟨c0, c1, c2, c3, c4, f0, f1, f2, f3, f4⟩ := hT.out.later hb2
  have g1 := mblock c0
  have hB2 := mmore hu hb2
  clear CN
  go_wp2_with fail
  obtain ⟨q0, q1, q2, q3, q4⟩ := five_cells (.int .i64 0) (.string ⟨#[]⟩) (.int .i64 0) (.int .i64 0) (.int .i64 0) c0 c1 c2 c3 c4
  have B2 := (((((hB2.setCell (p := ⟨w.heap.size, 0, none⟩) (Nat.le_refl _) (.int .i64 0)).setCell (p := ⟨w.heap.size, 1, none⟩) (Nat.le_refl _) (.string ⟨#[]⟩)).setCell (p := ⟨w.heap.size, 2, none⟩) (Nat.le_refl _) (.int .i64 0)).setCell (p := ⟨w.heap.size, 3, none⟩) (Nat.le_refl _) (.int .i64 0)).setCell (p := ⟨w.heap.size, 4, none⟩) (Nat.le_refl _) (.int .i64 0))
  clear c0 c1 c2 c3 c4 f0 f1 f2 f3 f4
  generalize (((((w2.setCell ⟨w.heap.size, 0, none⟩ (.int .i64 0)).setCell ⟨w.heap.size, 1, none⟩ (.string ⟨#[]⟩)).setCell ⟨w.heap.size, 2, none⟩ (.int .i64 0)).setCell ⟨w.heap.size, 3, none⟩ (.int .i64 0)).setCell ⟨w.heap.size, 4, none⟩ (.int .i64 0)) = wz at *
  exact bodyPost_ret (v := .tuple #[.agg #[.int .i64 0, .string ⟨#[]⟩, .int .i64 0, .int .i64 0, .int .i64 0], .int .i64 0]) (by simp [results, Tryd.results35, go_sem, q0, q1, q2, q3, q4]) rfl ⟨rfl, B2⟩

set_option maxHeartbeats 8000000 in
set_option maxRecDepth 100000 in
theorem rn_p0_ib (s : ByteArray) (a n b : Nat) (w : World) (hs : s.size ≤ 4000) (hb : b = a + n) (hbs : b ≤ s.size) (hn : 0 < n) (d : ByteArray) (hd : s.extract a b = d) (hx0 : 0 < d.size)
    (CM : ∀ w, Calls Tryd.prog 31 #[.string s, .int .i64 (a : Int), .bool false] w fun e w' => e = .returned (.int .i64 (n : Int)) ∧ w = w') (h46 : ¬ b < s.size) (h1 : ¬ 1 < n) (h19 : ¬ 19 < n) (v : Int) (CN : ∀ w, Calls Tryd.prog 47 #[.string d] w fun e w' => e = .returned (.tuple #[.int .i64 v, .bool true]) ∧ Below w.heap.size w w') :
    Calls Tryd.prog 35 #[.string s, .int .i64 (a : Int)] w fun e w' => e = .returned (.tuple #[.agg #[.int .i64 3, .string ⟨#[]⟩, .int .i64 v, .int .i64 0, .int .i64 0], .int .i64 (n : Int)]) ∧ Below w.heap.size w w' := by
  have hu := m1 w (.cells #[.int .i64 0, .string ⟨#[]⟩, .int .i64 0, .int .i64 0, .int .i64 0] 36)
  have hT := Lib.hid (TokZ.made5 w)
  have a0 : (0 : Int) ≤ (a : Int) := by omega
  have b0 : (0 : Int) ≤ (b : Int) := by omega
  have ab : (a : Int) ≤ (b : Int) := by omega
  have bs : (b : Int) ≤ (s.size : Int) := by omega
  have hwb : IntKind.i64.wrap ((a : Int) + (n : Int)) = (b : Int) := by rw [IntKind.wrap_i64]; omega
  have hz : d.size = n := by rw [← hd, ByteArray.size_extract]; omega
  have hz0 : (0 : Int) < (d.size : Int) := by omega
  replace hd := Lib.hid hd
  replace CM := Lib.hid CM
  have k46 : ¬ (b : Int) < (s.size : Int) := by omega
  clear h46
  have k1 : ¬ (n : Int) > 1 := by omega
  clear h1
  have k3 : ¬ (n : Int) > 19 := by omega
  clear h19
  replace CN := Lib.hid CN
  replace hz := Lib.hid hz
  clear hb hbs hn
  go_enter Tryd.func35, Tryd.ntmps35
  go_wp2_with fail
  generalize w.alloc (.cells #[.int .i64 0, .string ⟨#[]⟩, .int .i64 0, .int .i64 0, .int .i64 0] 36) = u at *
  refine (CM.out _).mono ?_; rintro e w1 ⟨rfl, rfl⟩
  clear CM
  go_upto_region 3 with (fail)
  rw [hd.out]
  go_wp2_with fail
  refine (CN.out _).mono ?_; rintro e w2 ⟨rfl, hb2⟩
  obtain ⟨c0, c1, c2, c3, c4, f0, f1, f2, f3, f4⟩ := hT.out.later hb2
  have g1 := mblock c0
  have hB2 := mmore hu hb2
  clear CN
  go_wp2_with fail
  obtain ⟨q0, q1, q2, q3, q4⟩ := five_cells (.int .i64 3) (.string ⟨#[]⟩) (.int .i64 v) (.int .i64 0) (.int .i64 0) c0 c1 c2 c3 c4
  have B2 := (((((hB2.setCell (p := ⟨w.heap.size, 0, none⟩) (Nat.le_refl _) (.int .i64 3)).setCell (p := ⟨w.heap.size, 1, none⟩) (Nat.le_refl _) (.string ⟨#[]⟩)).setCell (p := ⟨w.heap.size, 2, none⟩) (Nat.le_refl _) (.int .i64 v)).setCell (p := ⟨w.heap.size, 3, none⟩) (Nat.le_refl _) (.int .i64 0)).setCell (p := ⟨w.heap.size, 4, none⟩) (Nat.le_refl _) (.int .i64 0))
  clear c0 c1 c2 c3 c4 f0 f1 f2 f3 f4
  generalize (((((w2.setCell ⟨w.heap.size, 0, none⟩ (.int .i64 3)).setCell ⟨w.heap.size, 1, none⟩ (.string ⟨#[]⟩)).setCell ⟨w.heap.size, 2, none⟩ (.int .i64 v)).setCell ⟨w.heap.size, 3, none⟩ (.int .i64 0)).setCell ⟨w.heap.size, 4, none⟩ (.int .i64 0)) = wz at *
  exact bodyPost_ret (v := .tuple #[.agg #[.int .i64 3, .string ⟨#[]⟩, .int .i64 v, .int .i64 0, .int .i64 0], .int .i64 (n : Int)]) (by simp [results, Tryd.results35, go_sem, q0, q1, q2, q3, q4]) rfl ⟨rfl, B2⟩

set_option maxHeartbeats 8000000 in
set_option maxRecDepth 100000 in
theorem rn_p0_nb (s : ByteArray) (a n b : Nat) (w : World) (hs : s.size ≤ 4000) (hb : b = a + n) (hbs : b ≤ s.size) (hn : 0 < n) (d : ByteArray) (hd : s.extract a b = d) (hx0 : 0 < d.size)
    (CM : ∀ w, Calls Tryd.prog 31 #[.string s, .int .i64 (a : Int), .bool false] w fun e w' => e = .returned (.int .i64 (n : Int)) ∧ w = w') (h46 : ¬ b < s.size) (h1 : ¬ 1 < n) (h19 : ¬ 19 < n) (CN : ∀ w, Calls Tryd.prog 47 #[.string d] w fun e w' => ∃ v, e = .returned (.tuple #[.int .i64 v, .bool false]) ∧ Below w.heap.size w w') :
    Calls Tryd.prog 35 #[.string s, .int .i64 (a : Int)] w fun e w' => e = .returned (.tuple #[.agg #[.int .i64 0, .string ⟨#[]⟩, .int .i64 0, .int .i64 0, .int .i64 0], .int .i64 0]) ∧ Below w.heap.size w w' := by
  have hu := m1 w (.cells #[.int .i64 0, .string ⟨#[]⟩, .int .i64 0, .int .i64 0, .int .i64 0] 36)
  have hT := Lib.hid (TokZ.made5 w)
  have a0 : (0 : Int) ≤ (a : Int) := by omega
  have b0 : (0 : Int) ≤ (b : Int) := by omega
  have ab : (a : Int) ≤ (b : Int) := by omega
  have bs : (b : Int) ≤ (s.size : Int) := by omega
  have hwb : IntKind.i64.wrap ((a : Int) + (n : Int)) = (b : Int) := by rw [IntKind.wrap_i64]; omega
  have hz : d.size = n := by rw [← hd, ByteArray.size_extract]; omega
  have hz0 : (0 : Int) < (d.size : Int) := by omega
  replace hd := Lib.hid hd
  replace CM := Lib.hid CM
  have k46 : ¬ (b : Int) < (s.size : Int) := by omega
  clear h46
  have k1 : ¬ (n : Int) > 1 := by omega
  clear h1
  have k3 : ¬ (n : Int) > 19 := by omega
  clear h19
  replace CN := Lib.hid CN
  replace hz := Lib.hid hz
  clear hb hbs hn
  go_enter Tryd.func35, Tryd.ntmps35
  go_wp2_with fail
  generalize w.alloc (.cells #[.int .i64 0, .string ⟨#[]⟩, .int .i64 0, .int .i64 0, .int .i64 0] 36) = u at *
  refine (CM.out _).mono ?_; rintro e w1 ⟨rfl, rfl⟩
  clear CM
  go_upto_region 3 with (fail)
  rw [hd.out]
  go_wp2_with fail
  refine (CN.out _).mono ?_; rintro e w2 ⟨v, rfl, hb2⟩
  obtain ⟨c0, c1, c2, c3, c4, f0, f1, f2, f3, f4⟩ := hT.out.later hb2
  have g1 := mblock c0
  have hB2 := mmore hu hb2
  clear CN
  go_wp2_with fail
  obtain ⟨q0, q1, q2, q3, q4⟩ := five_cells (.int .i64 0) (.string ⟨#[]⟩) (.int .i64 0) (.int .i64 0) (.int .i64 0) c0 c1 c2 c3 c4
  have B2 := (((((hB2.setCell (p := ⟨w.heap.size, 0, none⟩) (Nat.le_refl _) (.int .i64 0)).setCell (p := ⟨w.heap.size, 1, none⟩) (Nat.le_refl _) (.string ⟨#[]⟩)).setCell (p := ⟨w.heap.size, 2, none⟩) (Nat.le_refl _) (.int .i64 0)).setCell (p := ⟨w.heap.size, 3, none⟩) (Nat.le_refl _) (.int .i64 0)).setCell (p := ⟨w.heap.size, 4, none⟩) (Nat.le_refl _) (.int .i64 0))
  clear c0 c1 c2 c3 c4 f0 f1 f2 f3 f4
  generalize (((((w2.setCell ⟨w.heap.size, 0, none⟩ (.int .i64 0)).setCell ⟨w.heap.size, 1, none⟩ (.string ⟨#[]⟩)).setCell ⟨w.heap.size, 2, none⟩ (.int .i64 0)).setCell ⟨w.heap.size, 3, none⟩ (.int .i64 0)).setCell ⟨w.heap.size, 4, none⟩ (.int .i64 0)) = wz at *
  exact bodyPost_ret (v := .tuple #[.agg #[.int .i64 0, .string ⟨#[]⟩, .int .i64 0, .int .i64 0, .int .i64 0], .int .i64 0]) (by simp [results, Tryd.results35, go_sem, q0, q1, q2, q3, q4]) rfl ⟨rfl, B2⟩

set_option maxHeartbeats 8000000 in
set_option maxRecDepth 100000 in
theorem rn_p1_z (s : ByteArray) (a n b : Nat) (w : World) (hs : s.size ≤ 4000) (hb : b = a + n) (hbs : b ≤ s.size) (hn : 0 < n) (d : ByteArray) (hd : s.extract a b = d) (hx0 : 0 < d.size)
    (CM : ∀ w, Calls Tryd.prog 31 #[.string s, .int .i64 (a : Int), .bool false] w fun e w' => e = .returned (.int .i64 (n : Int)) ∧ w = w') (hb2 : b < s.size) (h46 : (((s[b]'hb2).toNat : Int) == 46) = false) (h1 : 1 < n) (hc : ((d[0]'hx0).toNat : Int) = 48) :
    Calls Tryd.prog 35 #[.string s, .int .i64 (a : Int)] w fun e w' => e = .returned (.tuple #[.agg #[.int .i64 0, .string ⟨#[]⟩, .int .i64 0, .int .i64 0, .int .i64 0], .int .i64 0]) ∧ Below w.heap.size w w' := by
  have hu := m1 w (.cells #[.int .i64 0, .string ⟨#[]⟩, .int .i64 0, .int .i64 0, .int .i64 0] 36)
  have hT := Lib.hid (TokZ.made5 w)
  have a0 : (0 : Int) ≤ (a : Int) := by omega
  have b0 : (0 : Int) ≤ (b : Int) := by omega
  have ab : (a : Int) ≤ (b : Int) := by omega
  have bs : (b : Int) ≤ (s.size : Int) := by omega
  have hwb : IntKind.i64.wrap ((a : Int) + (n : Int)) = (b : Int) := by rw [IntKind.wrap_i64]; omega
  have hz : d.size = n := by rw [← hd, ByteArray.size_extract]; omega
  have hz0 : (0 : Int) < (d.size : Int) := by omega
  replace hd := Lib.hid hd
  replace CM := Lib.hid CM
  have k46 : (b : Int) < (s.size : Int) := by omega
  have k1 : (n : Int) > 1 := by omega
  have k2 : (((d[0]'hx0).toNat : Int) == 48) = true := by rw [hc]; rfl
  clear hc h1
  replace hz := Lib.hid hz
  clear hb hbs hn
  go_enter Tryd.func35, Tryd.ntmps35
  go_wp2_with fail
  generalize w.alloc (.cells #[.int .i64 0, .string ⟨#[]⟩, .int .i64 0, .int .i64 0, .int .i64 0] 36) = u at *
  refine (CM.out _).mono ?_; rintro e w1 ⟨rfl, rfl⟩
  clear CM
  go_upto_region 3 with (fail)
  rw [hd.out]
  obtain ⟨c0, c1, c2, c3, c4, f0, f1, f2, f3, f4⟩ := hT.out
  have g1 := mblock c0
  go_wp2_with fail
  obtain ⟨q0, q1, q2, q3, q4⟩ := five_cells (.int .i64 0) (.string ⟨#[]⟩) (.int .i64 0) (.int .i64 0) (.int .i64 0) c0 c1 c2 c3 c4
  have B2 := (((((hu.setCell (p := ⟨w.heap.size, 0, none⟩) (Nat.le_refl _) (.int .i64 0)).setCell (p := ⟨w.heap.size, 1, none⟩) (Nat.le_refl _) (.string ⟨#[]⟩)).setCell (p := ⟨w.heap.size, 2, none⟩) (Nat.le_refl _) (.int .i64 0)).setCell (p := ⟨w.heap.size, 3, none⟩) (Nat.le_refl _) (.int .i64 0)).setCell (p := ⟨w.heap.size, 4, none⟩) (Nat.le_refl _) (.int .i64 0))
  clear c0 c1 c2 c3 c4 f0 f1 f2 f3 f4
  generalize (((((u.setCell ⟨w.heap.size, 0, none⟩ (.int .i64 0)).setCell ⟨w.heap.size, 1, none⟩ (.string ⟨#[]⟩)).setCell ⟨w.heap.size, 2, none⟩ (.int .i64 0)).setCell ⟨w.heap.size, 3, none⟩ (.int .i64 0)).setCell ⟨w.heap.size, 4, none⟩ (.int .i64 0)) = wz at *
  exact bodyPost_ret (v := .tuple #[.agg #[.int .i64 0, .string ⟨#[]⟩, .int .i64 0, .int .i64 0, .int .i64 0], .int .i64 0]) (by simp [results, Tryd.results35, go_sem, q0, q1, q2, q3, q4]) rfl ⟨rfl, B2⟩

set_option maxHeartbeats 8000000 in
set_option maxRecDepth 100000 in
theorem rn_p1_l (s : ByteArray) (a n b : Nat) (w : World) (hs : s.size ≤ 4000) (hb : b = a + n) (hbs : b ≤ s.size) (hn : 0 < n) (d : ByteArray) (hd : s.extract a b = d) (hx0 : 0 < d.size)
    (CM : ∀ w, Calls Tryd.prog 31 #[.string s, .int .i64 (a : Int), .bool false] w fun e w' => e = .returned (.int .i64 (n : Int)) ∧ w = w') (hb2 : b < s.size) (h46 : (((s[b]'hb2).toNat : Int) == 46) = false) (h1 : 1 < n) (hc : ¬ ((d[0]'hx0).toNat : Int) = 48) (h19 : 19 < n) :
    Calls Tryd.prog 35 #[.string s, .int .i64 (a : Int)] w fun e w' => e = .returned (.tuple #[.agg #[.int .i64 0, .string ⟨#[]⟩, .int .i64 0, .int .i64 0, .int .i64 0], .int .i64 0]) ∧ Below w.heap.size w w' := by
  have hu := m1 w (.cells #[.int .i64 0, .string ⟨#[]⟩, .int .i64 0, .int .i64 0, .int .i64 0] 36)
  have hT := Lib.hid (TokZ.made5 w)
  have a0 : (0 : Int) ≤ (a : Int) := by omega
  have b0 : (0 : Int) ≤ (b : Int) := by omega
  have ab : (a : Int) ≤ (b : Int) := by omega
  have bs : (b : Int) ≤ (s.size : Int) := by omega
  have hwb : IntKind.i64.wrap ((a : Int) + (n : Int)) = (b : Int) := by rw [IntKind.wrap_i64]; omega
  have hz : d.size = n := by rw [← hd, ByteArray.size_extract]; omega
  have hz0 : (0 : Int) < (d.size : Int) := by omega
  replace hd := Lib.hid hd
  replace CM := Lib.hid CM
  have k46 : (b : Int) < (s.size : Int) := by omega
  have k1 : (n : Int) > 1 := by omega
  have k2 : (((d[0]'hx0).toNat : Int) == 48) = false := by simp; omega
  clear hc h1
  have k3 : (n : Int) > 19 := by omega
  clear h19
  replace hz := Lib.hid hz
  clear hb hbs hn
  go_enter Tryd.func35, Tryd.ntmps35
  go_wp2_with fail
  generalize w.alloc (.cells #[.int .i64 0, .string ⟨#[]⟩, .int .i64 0, .int .i64 0, .int .i64 0] 36) = u at *
  refine (CM.out _).mono ?_; rintro e w1 ⟨rfl, rfl⟩
  clear CM
  go_upto_region 3 with (fail)
  rw [hd.out]
  obtain ⟨c0, c1, c2, c3, c4, f0, f1, f2, f3, f4⟩ := hT.out
  have g1 := mblock c0
  go_wp2_with fail
  obtain ⟨q0, q1, q2, q3, q4⟩ := five_cells (.int .i64 0) (.string ⟨#[]⟩) (.int .i64 0) (.int .i64 0) (.int .i64 0) c0 c1 c2 c3 c4
  have B2 := (((((hu.setCell (p := ⟨w.heap.size, 0, none⟩) (Nat.le_refl _) (.int .i64 0)).setCell (p := ⟨w.heap.size, 1, none⟩) (Nat.le_refl _) (.string ⟨#[]⟩)).setCell (p := ⟨w.heap.size, 2, none⟩) (Nat.le_refl _) (.int .i64 0)).setCell (p := ⟨w.heap.size, 3, none⟩) (Nat.le_refl _) (.int .i64 0)).setCell (p := ⟨w.heap.size, 4, none⟩) (Nat.le_refl _) (.int .i64 0))
  clear c0 c1 c2 c3 c4 f0 f1 f2 f3 f4
  generalize (((((u.setCell ⟨w.heap.size, 0, none⟩ (.int .i64 0)).setCell ⟨w.heap.size, 1, none⟩ (.string ⟨#[]⟩)).setCell ⟨w.heap.size, 2, none⟩ (.int .i64 0)).setCell ⟨w.heap.size, 3, none⟩ (.int .i64 0)).setCell ⟨w.heap.size, 4, none⟩ (.int .i64 0)) = wz at *
  exact bodyPost_ret (v := .tuple #[.agg #[.int .i64 0, .string ⟨#[]⟩, .int .i64 0, .int .i64 0, .int .i64 0], .int .i64 0]) (by simp [results, Tryd.results35, go_sem, q0, q1, q2, q3, q4]) rfl ⟨rfl, B2⟩

set_option maxHeartbeats 8000000 in
set_option maxRecDepth 100000 in
theorem rn_p1_ia (s : ByteArray) (a n b : Nat) (w : World) (hs : s.size ≤ 4000) (hb : b = a + n) (hbs : b ≤ s.size) (hn : 0 < n) (d : ByteArray) (hd : s.extract a b = d) (hx0 : 0 < d.size)
    (CM : ∀ w, Calls Tryd.prog 31 #[.string s, .int .i64 (a : Int), .bool false] w fun e w' => e = .returned (.int .i64 (n : Int)) ∧ w = w') (hb2 : b < s.size) (h46 : (((s[b]'hb2).toNat : Int) == 46) = false) (h1 : 1 < n) (hc : ¬ ((d[0]'hx0).toNat : Int) = 48) (h19 : ¬ 19 < n) (v : Int) (CN : ∀ w, Calls Tryd.prog 47 #[.string d] w fun e w' => e = .returned (.tuple #[.int .i64 v, .bool true]) ∧ Below w.heap.size w w') :
    Calls Tryd.prog 35 #[.string s, .int .i64 (a : Int)] w fun e w' => e = .returned (.tuple #[.agg #[.int .i64 3, .string ⟨#[]⟩, .int .i64 v, .int .i64 0, .int .i64 0], .int .i64 (n : Int)]) ∧ Below w.heap.size w w' := by
  have hu := m1 w (.cells #[.int .i64 0, .string ⟨#[]⟩, .int .i64 0, .int .i64 0, .int .i64 0] 36)
  have hT := Lib.hid (TokZ.made5 w)
  have a0 : (0 : Int) ≤ (a : Int) := by omega
  have b0 : (0 : Int) ≤ (b : Int) := by omega
  have ab : (a : Int) ≤ (b : Int) := by omega
  have bs : (b : Int) ≤ (s.size : Int) := by omega
  have hwb : IntKind.i64.wrap ((a : Int) + (n : Int)) = (b : Int) := by rw [IntKind.wrap_i64]; omega
  have hz : d.size = n := by rw [← hd, ByteArray.size_extract]; omega
  have hz0 : (0 : Int) < (d.size : Int) := by omega
  replace hd := Lib.hid hd
  replace CM := Lib.hid CM
  have k46 : (b : Int) < (s.size : Int) := by omega
  have k1 : (n : Int) > 1 := by omega
  have k2 : (((d[0]'hx0).toNat : Int) == 48) = false := by simp; omega
  clear hc h1
  have k3 : ¬ (n : Int) > 19 := by omega
  clear h19
  replace CN := Lib.hid CN
  replace hz := Lib.hid hz
  clear hb hbs hn
  go_enter Tryd.func35, Tryd.ntmps35
  go_wp2_with fail
  generalize w.alloc (.cells #[.int .i64 0, .string ⟨#[]⟩, .int .i64 0, .int .i64 0, .int .i64 0] 36) = u at *
  refine (CM.out _).mono ?_; rintro e w1 ⟨rfl, rfl⟩
  clear CM
  go_upto_region 3 with (fail)
  rw [hd.out]
  go_wp2_with fail
  refine (CN.out _).mono ?_; rintro e w2 ⟨rfl, hb2⟩
  obtain ⟨c0, c1, c2, c3, c4, f0, f1, f2, f3, f4⟩ := hT.out.later hb2
  have g1 := mblock c0
  have hB2 := mmore hu hb2
  clear CN
  go_wp2_with fail
  obtain ⟨q0, q1, q2, q3, q4⟩ := five_cells (.int .i64 3) (.string ⟨#[]⟩) (.int .i64 v) (.int .i64 0) (.int .i64 0) c0 c1 c2 c3 c4
  have B2 := (((((hB2.setCell (p := ⟨w.heap.size, 0, none⟩) (Nat.le_refl _) (.int .i64 3)).setCell (p := ⟨w.heap.size, 1, none⟩) (Nat.le_refl _) (.string ⟨#[]⟩)).setCell (p := ⟨w.heap.size, 2, none⟩) (Nat.le_refl _) (.int .i64 v)).setCell (p := ⟨w.heap.size, 3, none⟩) (Nat.le_refl _) (.int .i64 0)).setCell (p := ⟨w.heap.size, 4, none⟩) (Nat.le_refl _) (.int .i64 0))
  clear c0 c1 c2 c3 c4 f0 f1 f2 f3 f4
  generalize (((((w2.setCell ⟨w.heap.size, 0, none⟩ (.int .i64 3)).setCell ⟨w.heap.size, 1, none⟩ (.string ⟨#[]⟩)).setCell ⟨w.heap.size, 2, none⟩ (.int .i64 v)).setCell ⟨w.heap.size, 3, none⟩ (.int .i64 0)).setCell ⟨w.heap.size, 4, none⟩ (.int .i64 0)) = wz at *
  exact bodyPost_ret (v := .tuple #[.agg #[.int .i64 3, .string ⟨#[]⟩, .int .i64 v, .int .i64 0, .int .i64 0], .int .i64 (n : Int)]) (by simp [results, Tryd.results35, go_sem, q0, q1, q2, q3, q4]) rfl ⟨rfl, B2⟩

set_option maxHeartbeats 8000000 in
set_option maxRecDepth 100000 in
theorem rn_p1_na (s : ByteArray) (a n b : Nat) (w : World) (hs : s.size ≤ 4000) (hb : b = a + n) (hbs : b ≤ s.size) (hn : 0 < n) (d : ByteArray) (hd : s.extract a b = d) (hx0 : 0 < d.size)
    (CM : ∀ w, Calls Tryd.prog 31 #[.string s, .int .i64 (a : Int), .bool false] w fun e w' => e = .returned (.int .i64 (n : Int)) ∧ w = w') (hb2 : b < s.size) (h46 : (((s[b]'hb2).toNat : Int) == 46) = false) (h1 : 1 < n) (hc : ¬ ((d[0]'hx0).toNat : Int) = 48) (h19 : ¬ 19 < n) (CN : ∀ w, Calls Tryd.prog 47 #[.string d] w fun e w' => ∃ v, e = .returned (.tuple #[.int .i64 v, .bool false]) ∧ Below w.heap.size w w') :
    Calls Tryd.prog 35 #[.string s, .int .i64 (a : Int)] w fun e w' => e = .returned (.tuple #[.agg #[.int .i64 0, .string ⟨#[]⟩, .int .i64 0, .int .i64 0, .int .i64 0], .int .i64 0]) ∧ Below w.heap.size w w' := by
  have hu := m1 w (.cells #[.int .i64 0, .string ⟨#[]⟩, .int .i64 0, .int .i64 0, .int .i64 0] 36)
  have hT := Lib.hid (TokZ.made5 w)
  have a0 : (0 : Int) ≤ (a : Int) := by omega
  have b0 : (0 : Int) ≤ (b : Int) := by omega
  have ab : (a : Int) ≤ (b : Int) := by omega
  have bs : (b : Int) ≤ (s.size : Int) := by omega
  have hwb : IntKind.i64.wrap ((a : Int) + (n : Int)) = (b : Int) := by rw [IntKind.wrap_i64]; omega
  have hz : d.size = n := by rw [← hd, ByteArray.size_extract]; omega
  have hz0 : (0 : Int) < (d.size : Int) := by omega
  replace hd := Lib.hid hd
  replace CM := Lib.hid CM
  have k46 : (b : Int) < (s.size : Int) := by omega
  have k1 : (n : Int) > 1 := by omega
  have k2 : (((d[0]'hx0).toNat : Int) == 48) = false := by simp; omega
  clear hc h1
  have k3 : ¬ (n : Int) > 19 := by omega
  clear h19
  replace CN := Lib.hid CN
  replace hz := Lib.hid hz
  clear hb hbs hn
  go_enter Tryd.func35, Tryd.ntmps35
  go_wp2_with fail
  generalize w.alloc (.cells #[.int .i64 0, .string ⟨#[]⟩, .int .i64 0, .int .i64 0, .int .i64 0] 36) = u at *
  refine (CM.out _).mono ?_; rintro e w1 ⟨rfl, rfl⟩
  clear CM
  go_upto_region 3 with (fail)
  rw [hd.out]
  go_wp2_with fail
  refine (CN.out _).mono ?_; rintro e w2 ⟨v, rfl, hb2⟩
  obtain ⟨c0, c1, c2, c3, c4, f0, f1, f2, f3, f4⟩ := hT.out.later hb2
  have g1 := mblock c0
  have hB2 := mmore hu hb2
  clear CN
  go_wp2_with fail
  obtain ⟨q0, q1, q2, q3, q4⟩ := five_cells (.int .i64 0) (.string ⟨#[]⟩) (.int .i64 0) (.int .i64 0) (.int .i64 0) c0 c1 c2 c3 c4
  have B2 := (((((hB2.setCell (p := ⟨w.heap.size, 0, none⟩) (Nat.le_refl _) (.int .i64 0)).setCell (p := ⟨w.heap.size, 1, none⟩) (Nat.le_refl _) (.string ⟨#[]⟩)).setCell (p := ⟨w.heap.size, 2, none⟩) (Nat.le_refl _) (.int .i64 0)).setCell (p := ⟨w.heap.size, 3, none⟩) (Nat.le_refl _) (.int .i64 0)).setCell (p := ⟨w.heap.size, 4, none⟩) (Nat.le_refl _) (.int .i64 0))
  clear c0 c1 c2 c3 c4 f0 f1 f2 f3 f4
  generalize (((((w2.setCell ⟨w.heap.size, 0, none⟩ (.int .i64 0)).setCell ⟨w.heap.size, 1, none⟩ (.string ⟨#[]⟩)).setCell ⟨w.heap.size, 2, none⟩ (.int .i64 0)).setCell ⟨w.heap.size, 3, none⟩ (.int .i64 0)).setCell ⟨w.heap.size, 4, none⟩ (.int .i64 0)) = wz at *
  exact bodyPost_ret (v := .tuple #[.agg #[.int .i64 0, .string ⟨#[]⟩, .int .i64 0, .int .i64 0, .int .i64 0], .int .i64 0]) (by simp [results, Tryd.results35, go_sem, q0, q1, q2, q3, q4]) rfl ⟨rfl, B2⟩

set_option maxHeartbeats 8000000 in
set_option maxRecDepth 100000 in
theorem rn_p1_ib (s : ByteArray) (a n b : Nat) (w : World) (hs : s.size ≤ 4000) (hb : b = a + n) (hbs : b ≤ s.size) (hn : 0 < n) (d : ByteArray) (hd : s.extract a b = d) (hx0 : 0 < d.size)
    (CM : ∀ w, Calls Tryd.prog 31 #[.string s, .int .i64 (a : Int), .bool false] w fun e w' => e = .returned (.int .i64 (n : Int)) ∧ w = w') (hb2 : b < s.size) (h46 : (((s[b]'hb2).toNat : Int) == 46) = false) (h1 : ¬ 1 < n) (h19 : ¬ 19 < n) (v : Int) (CN : ∀ w, Calls Tryd.prog 47 #[.string d] w fun e w' => e = .returned (.tuple #[.int .i64 v, .bool true]) ∧ Below w.heap.size w w') :
    Calls Tryd.prog 35 #[.string s, .int .i64 (a : Int)] w fun e w' => e = .returned (.tuple #[.agg #[.int .i64 3, .string ⟨#[]⟩, .int .i64 v, .int .i64 0, .int .i64 0], .int .i64 (n : Int)]) ∧ Below w.heap.size w w' := by
  have hu := m1 w (.cells #[.int .i64 0, .string ⟨#[]⟩, .int .i64 0, .int .i64 0, .int .i64 0] 36)
  have hT := Lib.hid (TokZ.made5 w)
  have a0 : (0 : Int) ≤ (a : Int) := by omega
  have b0 : (0 : Int) ≤ (b : Int) := by omega
  have ab : (a : Int) ≤ (b : Int) := by omega
  have bs : (b : Int) ≤ (s.size : Int) := by omega
  have hwb : IntKind.i64.wrap ((a : Int) + (n : Int)) = (b : Int) := by rw [IntKind.wrap_i64]; omega
  have hz : d.size = n := by rw [← hd, ByteArray.size_extract]; omega
  have hz0 : (0 : Int) < (d.size : Int) := by omega
  replace hd := Lib.hid hd
  replace CM := Lib.hid CM
  have k46 : (b : Int) < (s.size : Int) := by omega
  have k1 : ¬ (n : Int) > 1 := by omega
  clear h1
  have k3 : ¬ (n : Int) > 19 := by omega
  clear h19
  replace CN := Lib.hid CN
  replace hz := Lib.hid hz
  clear hb hbs hn
  go_enter Tryd.func35, Tryd.ntmps35
  go_wp2_with fail
  generalize w.alloc (.cells #[.int .i64 0, .string ⟨#[]⟩, .int .i64 0, .int .i64 0, .int .i64 0] 36) = u at *
  refine (CM.out _).mono ?_; rintro e w1 ⟨rfl, rfl⟩
  clear CM
  go_upto_region 3 with (fail)
  rw [hd.out]
  go_wp2_with fail
  refine (CN.out _).mono ?_; rintro e w2 ⟨rfl, hb2⟩
  obtain ⟨c0, c1, c2, c3, c4, f0, f1, f2, f3, f4⟩ := hT.out.later hb2
  have g1 := mblock c0
  have hB2 := mmore hu hb2
  clear CN
  go_wp2_with fail
  obtain ⟨q0, q1, q2, q3, q4⟩ := five_cells (.int .i64 3) (.string ⟨#[]⟩) (.int .i64 v) (.int .i64 0) (.int .i64 0) c0 c1 c2 c3 c4
  have B2 := (((((hB2.setCell (p := ⟨w.heap.size, 0, none⟩) (Nat.le_refl _) (.int .i64 3)).setCell (p := ⟨w.heap.size, 1, none⟩) (Nat.le_refl _) (.string ⟨#[]⟩)).setCell (p := ⟨w.heap.size, 2, none⟩) (Nat.le_refl _) (.int .i64 v)).setCell (p := ⟨w.heap.size, 3, none⟩) (Nat.le_refl _) (.int .i64 0)).setCell (p := ⟨w.heap.size, 4, none⟩) (Nat.le_refl _) (.int .i64 0))
  clear c0 c1 c2 c3 c4 f0 f1 f2 f3 f4
  generalize (((((w2.setCell ⟨w.heap.size, 0, none⟩ (.int .i64 3)).setCell ⟨w.heap.size, 1, none⟩ (.string ⟨#[]⟩)).setCell ⟨w.heap.size, 2, none⟩ (.int .i64 v)).setCell ⟨w.heap.size, 3, none⟩ (.int .i64 0)).setCell ⟨w.heap.size, 4, none⟩ (.int .i64 0)) = wz at *
  exact bodyPost_ret (v := .tuple #[.agg #[.int .i64 3, .string ⟨#[]⟩, .int .i64 v, .int .i64 0, .int .i64 0], .int .i64 (n : Int)]) (by simp [results, Tryd.results35, go_sem, q0, q1, q2, q3, q4]) rfl ⟨rfl, B2⟩

set_option maxHeartbeats 8000000 in
set_option maxRecDepth 100000 in
theorem rn_p1_nb (s : ByteArray) (a n b : Nat) (w : World) (hs : s.size ≤ 4000) (hb : b = a + n) (hbs : b ≤ s.size) (hn : 0 < n) (d : ByteArray) (hd : s.extract a b = d) (hx0 : 0 < d.size)
    (CM : ∀ w, Calls Tryd.prog 31 #[.string s, .int .i64 (a : Int), .bool false] w fun e w' => e = .returned (.int .i64 (n : Int)) ∧ w = w') (hb2 : b < s.size) (h46 : (((s[b]'hb2).toNat : Int) == 46) = false) (h1 : ¬ 1 < n) (h19 : ¬ 19 < n) (CN : ∀ w, Calls Tryd.prog 47 #[.string d] w fun e w' => ∃ v, e = .returned (.tuple #[.int .i64 v, .bool false]) ∧ Below w.heap.size w w') :
    Calls Tryd.prog 35 #[.string s, .int .i64 (a : Int)] w fun e w' => e = .returned (.tuple #[.agg #[.int .i64 0, .string ⟨#[]⟩, .int .i64 0, .int .i64 0, .int .i64 0], .int .i64 0]) ∧ Below w.heap.size w w' := by
  have hu := m1 w (.cells #[.int .i64 0, .string ⟨#[]⟩, .int .i64 0, .int .i64 0, .int .i64 0] 36)
  have hT := Lib.hid (TokZ.made5 w)
  have a0 : (0 : Int) ≤ (a : Int) := by omega
  have b0 : (0 : Int) ≤ (b : Int) := by omega
  have ab : (a : Int) ≤ (b : Int) := by omega
  have bs : (b : Int) ≤ (s.size : Int) := by omega
  have hwb : IntKind.i64.wrap ((a : Int) + (n : Int)) = (b : Int) := by rw [IntKind.wrap_i64]; omega
  have hz : d.size = n := by rw [← hd, ByteArray.size_extract]; omega
  have hz0 : (0 : Int) < (d.size : Int) := by omega
  replace hd := Lib.hid hd
  replace CM := Lib.hid CM
  have k46 : (b : Int) < (s.size : Int) := by omega
  have k1 : ¬ (n : Int) > 1 := by omega
  clear h1
  have k3 : ¬ (n : Int) > 19 := by omega
  clear h19
  replace CN := Lib.hid CN
  replace hz := Lib.hid hz
  clear hb hbs hn
  go_enter Tryd.func35, Tryd.ntmps35
  go_wp2_with fail
  generalize w.alloc (.cells #[.int .i64 0, .string ⟨#[]⟩, .int .i64 0, .int .i64 0, .int .i64 0] 36) = u at *
  refine (CM.out _).mono ?_; rintro e w1 ⟨rfl, rfl⟩
  clear CM
  go_upto_region 3 with (fail)
  rw [hd.out]
  go_wp2_with fail
  refine (CN.out _).mono ?_; rintro e w2 ⟨v, rfl, hb2⟩
  obtain ⟨c0, c1, c2, c3, c4, f0, f1, f2, f3, f4⟩ := hT.out.later hb2
  have g1 := mblock c0
  have hB2 := mmore hu hb2
  clear CN
  go_wp2_with fail
  obtain ⟨q0, q1, q2, q3, q4⟩ := five_cells (.int .i64 0) (.string ⟨#[]⟩) (.int .i64 0) (.int .i64 0) (.int .i64 0) c0 c1 c2 c3 c4
  have B2 := (((((hB2.setCell (p := ⟨w.heap.size, 0, none⟩) (Nat.le_refl _) (.int .i64 0)).setCell (p := ⟨w.heap.size, 1, none⟩) (Nat.le_refl _) (.string ⟨#[]⟩)).setCell (p := ⟨w.heap.size, 2, none⟩) (Nat.le_refl _) (.int .i64 0)).setCell (p := ⟨w.heap.size, 3, none⟩) (Nat.le_refl _) (.int .i64 0)).setCell (p := ⟨w.heap.size, 4, none⟩) (Nat.le_refl _) (.int .i64 0))
  clear c0 c1 c2 c3 c4 f0 f1 f2 f3 f4
  generalize (((((w2.setCell ⟨w.heap.size, 0, none⟩ (.int .i64 0)).setCell ⟨w.heap.size, 1, none⟩ (.string ⟨#[]⟩)).setCell ⟨w.heap.size, 2, none⟩ (.int .i64 0)).setCell ⟨w.heap.size, 3, none⟩ (.int .i64 0)).setCell ⟨w.heap.size, 4, none⟩ (.int .i64 0)) = wz at *
  exact bodyPost_ret (v := .tuple #[.agg #[.int .i64 0, .string ⟨#[]⟩, .int .i64 0, .int .i64 0, .int .i64 0], .int .i64 0]) (by simp [results, Tryd.results35, go_sem, q0, q1, q2, q3, q4]) rfl ⟨rfl, B2⟩

set_option maxHeartbeats 8000000 in
set_option maxRecDepth 100000 in
theorem rn_p2_z (s : ByteArray) (a n b : Nat) (w : World) (hs : s.size ≤ 4000) (hb : b = a + n) (hbs : b ≤ s.size) (hn : 0 < n) (d : ByteArray) (hd : s.extract a b = d) (hx0 : 0 < d.size)
    (CM : ∀ w, Calls Tryd.prog 31 #[.string s, .int .i64 (a : Int), .bool false] w fun e w' => e = .returned (.int .i64 (n : Int)) ∧ w = w') (hb2 : b < s.size) (h46 : (((s[b]'hb2).toNat : Int) == 46) = true) (CM2 : ∀ w, Calls Tryd.prog 31 #[.string s, .int .i64 ((b + 1 : Nat) : Int), .bool false] w fun e w' => e = .returned (.int .i64 0) ∧ w = w') (h1 : 1 < n) (hc : ((d[0]'hx0).toNat : Int) = 48) :
    Calls Tryd.prog 35 #[.string s, .int .i64 (a : Int)] w fun e w' => e = .returned (.tuple #[.agg #[.int .i64 0, .string ⟨#[]⟩, .int .i64 0, .int .i64 0, .int .i64 0], .int .i64 0]) ∧ Below w.heap.size w w' := by
  have hu := m1 w (.cells #[.int .i64 0, .string ⟨#[]⟩, .int .i64 0, .int .i64 0, .int .i64 0] 36)
  have hT := Lib.hid (TokZ.made5 w)
  have a0 : (0 : Int) ≤ (a : Int) := by omega
  have b0 : (0 : Int) ≤ (b : Int) := by omega
  have ab : (a : Int) ≤ (b : Int) := by omega
  have bs : (b : Int) ≤ (s.size : Int) := by omega
  have hwb : IntKind.i64.wrap ((a : Int) + (n : Int)) = (b : Int) := by rw [IntKind.wrap_i64]; omega
  have hz : d.size = n := by rw [← hd, ByteArray.size_extract]; omega
  have hz0 : (0 : Int) < (d.size : Int) := by omega
  replace hd := Lib.hid hd
  replace CM := Lib.hid CM
  have k46 : (b : Int) < (s.size : Int) := by omega
  obtain ⟨b1, hb1⟩ : ∃ b1 : Nat, b1 = b + 1 := ⟨_, rfl⟩
  have hwb1 : IntKind.i64.wrap ((b : Int) + 1) = (b1 : Int) := by rw [IntKind.wrap_i64]; omega
  rw [← hb1] at CM2
  replace CM2 := Lib.hid CM2
  clear hb1
  have k1 : (n : Int) > 1 := by omega
  have k2 : (((d[0]'hx0).toNat : Int) == 48) = true := by rw [hc]; rfl
  clear hc h1
  replace hz := Lib.hid hz
  clear hb hbs hn
  go_enter Tryd.func35, Tryd.ntmps35
  go_wp2_with fail
  generalize w.alloc (.cells #[.int .i64 0, .string ⟨#[]⟩, .int .i64 0, .int .i64 0, .int .i64 0] 36) = u at *
  refine (CM.out _).mono ?_; rintro e w1 ⟨rfl, rfl⟩
  clear CM
  go_upto_region 3 with (fail)
  rw [hd.out]
  go_wp2_with fail
  refine (CM2.out _).mono ?_; rintro e w1 ⟨rfl, rfl⟩
  clear CM2
  obtain ⟨c0, c1, c2, c3, c4, f0, f1, f2, f3, f4⟩ := hT.out
  have g1 := mblock c0
  go_wp2_with fail
  obtain ⟨q0, q1, q2, q3, q4⟩ := five_cells (.int .i64 0) (.string ⟨#[]⟩) (.int .i64 0) (.int .i64 0) (.int .i64 0) c0 c1 c2 c3 c4
  have B2 := (((((hu.setCell (p := ⟨w.heap.size, 0, none⟩) (Nat.le_refl _) (.int .i64 0)).setCell (p := ⟨w.heap.size, 1, none⟩) (Nat.le_refl _) (.string ⟨#[]⟩)).setCell (p := ⟨w.heap.size, 2, none⟩) (Nat.le_refl _) (.int .i64 0)).setCell (p := ⟨w.heap.size, 3, none⟩) (Nat.le_refl _) (.int .i64 0)).setCell (p := ⟨w.heap.size, 4, none⟩) (Nat.le_refl _) (.int .i64 0))
  clear c0 c1 c2 c3 c4 f0 f1 f2 f3 f4
  generalize (((((u.setCell ⟨w.heap.size, 0, none⟩ (.int .i64 0)).setCell ⟨w.heap.size, 1, none⟩ (.string ⟨#[]⟩)).setCell ⟨w.heap.size, 2, none⟩ (.int .i64 0)).setCell ⟨w.heap.size, 3, none⟩ (.int .i64 0)).setCell ⟨w.heap.size, 4, none⟩ (.int .i64 0)) = wz at *
  exact bodyPost_ret (v := .tuple #[.agg #[.int .i64 0, .string ⟨#[]⟩, .int .i64 0, .int .i64 0, .int .i64 0], .int .i64 0]) (by simp [results, Tryd.results35, go_sem, q0, q1, q2, q3, q4]) rfl ⟨rfl, B2⟩

set_option maxHeartbeats 8000000 in
set_option maxRecDepth 100000 in
theorem rn_p2_l (s : ByteArray) (a n b : Nat) (w : World) (hs : s.size ≤ 4000) (hb : b = a + n) (hbs : b ≤ s.size) (hn : 0 < n) (d : ByteArray) (hd : s.extract a b = d) (hx0 : 0 < d.size)
    (CM : ∀ w, Calls Tryd.prog 31 #[.string s, .int .i64 (a : Int), .bool false] w fun e w' => e = .returned (.int .i64 (n : Int)) ∧ w = w') (hb2 : b < s.size) (h46 : (((s[b]'hb2).toNat : Int) == 46) = true) (CM2 : ∀ w, Calls Tryd.prog 31 #[.string s, .int .i64 ((b + 1 : Nat) : Int), .bool false] w fun e w' => e = .returned (.int .i64 0) ∧ w = w') (h1 : 1 < n) (hc : ¬ ((d[0]'hx0).toNat : Int) = 48) (h19 : 19 < n) :
    Calls Tryd.prog 35 #[.string s, .int .i64 (a : Int)] w fun e w' => e = .returned (.tuple #[.agg #[.int .i64 0, .string ⟨#[]⟩, .int .i64 0, .int .i64 0, .int .i64 0], .int .i64 0]) ∧ Below w.heap.size w w' := by
  have hu := m1 w (.cells #[.int .i64 0, .string ⟨#[]⟩, .int .i64 0, .int .i64 0, .int .i64 0] 36)
  have hT := Lib.hid (TokZ.made5 w)
  have a0 : (0 : Int) ≤ (a : Int) := by omega
  have b0 : (0 : Int) ≤ (b : Int) := by omega
  have ab : (a : Int) ≤ (b : Int) := by omega
  have bs : (b : Int) ≤ (s.size : Int) := by omega
  have hwb : IntKind.i64.wrap ((a : Int) + (n : Int)) = (b : Int) := by rw [IntKind.wrap_i64]; omega
  have hz : d.size = n := by rw [← hd, ByteArray.size_extract]; omega
  have hz0 : (0 : Int) < (d.size : Int) := by omega
  replace hd := Lib.hid hd
  replace CM := Lib.hid CM
  have k46 : (b : Int) < (s.size : Int) := by omega
  obtain ⟨b1, hb1⟩ : ∃ b1 : Nat, b1 = b + 1 := ⟨_, rfl⟩
  have hwb1 : IntKind.i64.wrap ((b : Int) + 1) = (b1 : Int) := by rw [IntKind.wrap_i64]; omega
  rw [← hb1] at CM2
  replace CM2 := Lib.hid CM2
  clear hb1
  have k1 : (n : Int) > 1 := by omega
  have k2 : (((d[0]'hx0).toNat : Int) == 48) = false := by simp; omega
  clear hc h1
  have k3 : (n : Int) > 19 := by omega
  clear h19
  replace hz := Lib.hid hz
  clear hb hbs hn
  go_enter Tryd.func35, Tryd.ntmps35
  go_wp2_with fail
  generalize w.alloc (.cells #[.int .i64 0, .string ⟨#[]⟩, .int .i64 0, .int .i64 0, .int .i64 0] 36) = u at *
  refine (CM.out _).mono ?_; rintro e w1 ⟨rfl, rfl⟩
  clear CM
  go_upto_region 3 with (fail)
  rw [hd.out]
  go_wp2_with fail
  refine (CM2.out _).mono ?_; rintro e w1 ⟨rfl, rfl⟩
  clear CM2
  obtain ⟨c0, c1, c2, c3, c4, f0, f1, f2, f3, f4⟩ := hT.out
  have g1 := mblock c0
  go_wp2_with fail
  obtain ⟨q0, q1, q2, q3, q4⟩ := five_cells (.int .i64 0) (.string ⟨#[]⟩) (.int .i64 0) (.int .i64 0) (.int .i64 0) c0 c1 c2 c3 c4
  have B2 := (((((hu.setCell (p := ⟨w.heap.size, 0, none⟩) (Nat.le_refl _) (.int .i64 0)).setCell (p := ⟨w.heap.size, 1, none⟩) (Nat.le_refl _) (.string ⟨#[]⟩)).setCell (p := ⟨w.heap.size, 2, none⟩) (Nat.le_refl _) (.int .i64 0)).setCell (p := ⟨w.heap.size, 3, none⟩) (Nat.le_refl _) (.int .i64 0)).setCell (p := ⟨w.heap.size, 4, none⟩) (Nat.le_refl _) (.int .i64 0))
  clear c0 c1 c2 c3 c4 f0 f1 f2 f3 f4
  generalize (((((u.setCell ⟨w.heap.size, 0, none⟩ (.int .i64 0)).setCell ⟨w.heap.size, 1, none⟩ (.string ⟨#[]⟩)).setCell ⟨w.heap.size, 2, none⟩ (.int .i64 0)).setCell ⟨w.heap.size, 3, none⟩ (.int .i64 0)).setCell ⟨w.heap.size, 4, none⟩ (.int .i64 0)) = wz at *
  exact bodyPost_ret (v := .tuple #[.agg #[.int .i64 0, .string ⟨#[]⟩, .int .i64 0, .int .i64 0, .int .i64 0], .int .i64 0]) (by simp [results, Tryd.results35, go_sem, q0, q1, q2, q3, q4]) rfl ⟨rfl, B2⟩

set_option maxHeartbeats 8000000 in
set_option maxRecDepth 100000 in
theorem rn_p2_ia (s : ByteArray) (a n b : Nat) (w : World) (hs : s.size ≤ 4000) (hb : b = a + n) (hbs : b ≤ s.size) (hn : 0 < n) (d : ByteArray) (hd : s.extract a b = d) (hx0 : 0 < d.size)
    (CM : ∀ w, Calls Tryd.prog 31 #[.string s, .int .i64 (a : Int), .bool false] w fun e w' => e = .returned (.int .i64 (n : Int)) ∧ w = w') (hb2 : b < s.size) (h46 : (((s[b]'hb2).toNat : Int) == 46) = true) (CM2 : ∀ w, Calls Tryd.prog 31 #[.string s, .int .i64 ((b + 1 : Nat) : Int), .bool false] w fun e w' => e = .returned (.int .i64 0) ∧ w = w') (h1 : 1 < n) (hc : ¬ ((d[0]'hx0).toNat : Int) = 48) (h19 : ¬ 19 < n) (v : Int) (CN : ∀ w, Calls Tryd.prog 47 #[.string d] w fun e w' => e = .returned (.tuple #[.int .i64 v, .bool true]) ∧ Below w.heap.size w w') :
    Calls Tryd.prog 35 #[.string s, .int .i64 (a : Int)] w fun e w' => e = .returned (.tuple #[.agg #[.int .i64 3, .string ⟨#[]⟩, .int .i64 v, .int .i64 0, .int .i64 0], .int .i64 (n : Int)]) ∧ Below w.heap.size w w' := by
  have hu := m1 w (.cells #[.int .i64 0, .string ⟨#[]⟩, .int .i64 0, .int .i64 0, .int .i64 0] 36)
  have hT := Lib.hid (TokZ.made5 w)
  have a0 : (0 : Int) ≤ (a : Int) := by omega
  have b0 : (0 : Int) ≤ (b : Int) := by omega
  have ab : (a : Int) ≤ (b : Int) := by omega
  have bs : (b : Int) ≤ (s.size : Int) := by omega
  have hwb : IntKind.i64.wrap ((a : Int) + (n : Int)) = (b : Int) := by rw [IntKind.wrap_i64]; omega
  have hz : d.size = n := by rw [← hd, ByteArray.size_extract]; omega
  have hz0 : (0 : Int) < (d.size : Int) := by omega
  replace hd := Lib.hid hd
  replace CM := Lib.hid CM
  have k46 : (b : Int) < (s.size : Int) := by omega
  obtain ⟨b1, hb1⟩ : ∃ b1 : Nat, b1 = b + 1 := ⟨_, rfl⟩
  have hwb1 : IntKind.i64.wrap ((b : Int) + 1) = (b1 : Int) := by rw [IntKind.wrap_i64]; omega
  rw [← hb1] at CM2
  replace CM2 := Lib.hid CM2
  clear hb1
  have k1 : (n : Int) > 1 := by omega
  have k2 : (((d[0]'hx0).toNat : Int) == 48) = false := by simp; omega
  clear hc h1
  have k3 : ¬ (n : Int) > 19 := by omega
  clear h19
  replace CN := Lib.hid CN
  replace hz := Lib.hid hz
  clear hb hbs hn
  go_enter Tryd.func35, Tryd.ntmps35
  go_wp2_with fail
  generalize w.alloc (.cells #[.int .i64 0, .string ⟨#[]⟩, .int .i64 0, .int .i64 0, .int .i64 0] 36) = u at *
  refine (CM.out _).mono ?_; rintro e w1 ⟨rfl, rfl⟩
  clear CM
  go_upto_region 3 with (fail)
  rw [hd.out]
  go_wp2_with fail
  refine (CM2.out _).mono ?_; rintro e w1 ⟨rfl, rfl⟩
  clear CM2
  go_wp2_with fail
  refine (CN.out _).mono ?_; rintro e w2 ⟨rfl, hb2⟩
  obtain ⟨c0, c1, c2, c3, c4, f0, f1, f2, f3, f4⟩ := hT.out.later hb2
  have g1 := mblock c0
  have hB2 := mmore hu hb2
  clear CN
  go_wp2_with fail
  obtain ⟨q0, q1, q2, q3, q4⟩ := five_cells (.int .i64 3) (.string ⟨#[]⟩) (.int .i64 v) (.int .i64 0) (.int .i64 0) c0 c1 c2 c3 c4
  have B2 := (((((hB2.setCell (p := ⟨w.heap.size, 0, none⟩) (Nat.le_refl _) (.int .i64 3)).setCell (p := ⟨w.heap.size, 1, none⟩) (Nat.le_refl _) (.string ⟨#[]⟩)).setCell (p := ⟨w.heap.size, 2, none⟩) (Nat.le_refl _) (.int .i64 v)).setCell (p := ⟨w.heap.size, 3, none⟩) (Nat.le_refl _) (.int .i64 0)).setCell (p := ⟨w.heap.size, 4, none⟩) (Nat.le_refl _) (.int .i64 0))
  clear c0 c1 c2 c3 c4 f0 f1 f2 f3 f4
  generalize (((((w2.setCell ⟨w.heap.size, 0, none⟩ (.int .i64 3)).setCell ⟨w.heap.size, 1, none⟩ (.string ⟨#[]⟩)).setCell ⟨w.heap.size, 2, none⟩ (.int .i64 v)).setCell ⟨w.heap.size, 3, none⟩ (.int .i64 0)).setCell ⟨w.heap.size, 4, none⟩ (.int .i64 0)) = wz at *
  exact bodyPost_ret (v := .tuple #[.agg #[.int .i64 3, .string ⟨#[]⟩, .int .i64 v, .int .i64 0, .int .i64 0], .int .i64 (n : Int)]) (by simp [results, Tryd.results35, go_sem, q0, q1, q2, q3, q4]) rfl ⟨rfl, B2⟩

set_option maxHeartbeats 8000000 in
set_option maxRecDepth 100000 in
theorem rn_p2_na (s : ByteArray) (a n b : Nat) (w : World) (hs : s.size ≤ 4000) (hb : b = a + n) (hbs : b ≤ s.size) (hn : 0 < n) (d : ByteArray) (hd : s.extract a b = d) (hx0 : 0 < d.size)
    (CM : ∀ w, Calls Tryd.prog 31 #[.string s, .int .i64 (a : Int), .bool false] w fun e w' => e = .returned (.int .i64 (n : Int)) ∧ w = w') (hb2 : b < s.size) (h46 : (((s[b]'hb2).toNat : Int) == 46) = true) (CM2 : ∀ w, Calls Tryd.prog 31 #[.string s, .int .i64 ((b + 1 : Nat) : Int), .bool false] w fun e w' => e = .returned (.int .i64 0) ∧ w = w') (h1 : 1 < n) (hc : ¬ ((d[0]'hx0).toNat : Int) = 48) (h19 : ¬ 19 < n) (CN : ∀ w, Calls Tryd.prog 47 #[.string d] w fun e w' => ∃ v, e = .returned (.tuple #[.int .i64 v, .bool false]) ∧ Below w.heap.size w w') :
    Calls Tryd.prog 35 #[.string s, .int .i64 (a : Int)] w fun e w' => e = .returned (.tuple #[.agg #[.int .i64 0, .string ⟨#[]⟩, .int .i64 0, .int .i64 0, .int .i64 0], .int .i64 0]) ∧ Below w.heap.size w w' := by
  have hu := m1 w (.cells #[.int .i64 0, .string ⟨#[]⟩, .int .i64 0, .int .i64 0, .int .i64 0] 36)
  have hT := Lib.hid (TokZ.made5 w)
  have a0 : (0 : Int) ≤ (a : Int) := by omega
  have b0 : (0 : Int) ≤ (b : Int) := by omega
  have ab : (a : Int) ≤ (b : Int) := by omega
  have bs : (b : Int) ≤ (s.size : Int) := by omega
  have hwb : IntKind.i64.wrap ((a : Int) + (n : Int)) = (b : Int) := by rw [IntKind.wrap_i64]; omega
  have hz : d.size = n := by rw [← hd, ByteArray.size_extract]; omega
  have hz0 : (0 : Int) < (d.size : Int) := by omega
  replace hd := Lib.hid hd
  replace CM := Lib.hid CM
  have k46 : (b : Int) < (s.size : Int) := by omega
  obtain ⟨b1, hb1⟩ : ∃ b1 : Nat, b1 = b + 1 := ⟨_, rfl⟩
  have hwb1 : IntKind.i64.wrap ((b : Int) + 1) = (b1 : Int) := by rw [IntKind.wrap_i64]; omega
  rw [← hb1] at CM2
  replace CM2 := Lib.hid CM2
  clear hb1
  have k1 : (n : Int) > 1 := by omega
  have k2 : (((d[0]'hx0).toNat : Int) == 48) = false := by simp; omega
  clear hc h1
  have k3 : ¬ (n : Int) > 19 := by omega
  clear h19
  replace CN := Lib.hid CN
  replace hz := Lib.hid hz
  clear hb hbs hn
  go_enter Tryd.func35, Tryd.ntmps35
  go_wp2_with fail
  generalize w.alloc (.cells #[.int .i64 0, .string ⟨#[]⟩, .int .i64 0, .int .i64 0, .int .i64 0] 36) = u at *
  refine (CM.out _).mono ?_; rintro e w1 ⟨rfl, rfl⟩
  clear CM
  go_upto_region 3 with (fail)
  rw [hd.out]
  go_wp2_with fail
  refine (CM2.out _).mono ?_; rintro e w1 ⟨rfl, rfl⟩
  clear CM2
  go_wp2_with fail
  refine (CN.out _).mono ?_; rintro e w2 ⟨v, rfl, hb2⟩
  obtain ⟨c0, c1, c2, c3, c4, f0, f1, f2, f3, f4⟩ := hT.out.later hb2
  have g1 := mblock c0
  have hB2 := mmore hu hb2
  clear CN
  go_wp2_with fail
  obtain ⟨q0, q1, q2, q3, q4⟩ := five_cells (.int .i64 0) (.string ⟨#[]⟩) (.int .i64 0) (.int .i64 0) (.int .i64 0) c0 c1 c2 c3 c4
  have B2 := (((((hB2.setCell (p := ⟨w.heap.size, 0, none⟩) (Nat.le_refl _) (.int .i64 0)).setCell (p := ⟨w.heap.size, 1, none⟩) (Nat.le_refl _) (.string ⟨#[]⟩)).setCell (p := ⟨w.heap.size, 2, none⟩) (Nat.le_refl _) (.int .i64 0)).setCell (p := ⟨w.heap.size, 3, none⟩) (Nat.le_refl _) (.int .i64 0)).setCell (p := ⟨w.heap.size, 4, none⟩) (Nat.le_refl _) (.int .i64 0))
  clear c0 c1 c2 c3 c4 f0 f1 f2 f3 f4
  generalize (((((w2.setCell ⟨w.heap.size, 0, none⟩ (.int .i64 0)).setCell ⟨w.heap.size, 1, none⟩ (.string ⟨#[]⟩)).setCell ⟨w.heap.size, 2, none⟩ (.int .i64 0)).setCell ⟨w.heap.size, 3, none⟩ (.int .i64 0)).setCell ⟨w.heap.size, 4, none⟩ (.int .i64 0)) = wz at *
  exact bodyPost_ret (v := .tuple #[.agg #[.int .i64 0, .string ⟨#[]⟩, .int .i64 0, .int .i64 0, .int .i64 0], .int .i64 0]) (by simp [results, Tryd.results35, go_sem, q0, q1, q2, q3, q4]) rfl ⟨rfl, B2⟩

set_option maxHeartbeats 8000000 in
set_option maxRecDepth 100000 in
theorem rn_p2_ib (s : ByteArray) (a n b : Nat) (w : World) (hs : s.size ≤ 4000) (hb : b = a + n) (hbs : b ≤ s.size) (hn : 0 < n) (d : ByteArray) (hd : s.extract a b = d) (hx0 : 0 < d.size)
    (CM : ∀ w, Calls Tryd.prog 31 #[.string s, .int .i64 (a : Int), .bool false] w fun e w' => e = .returned (.int .i64 (n : Int)) ∧ w = w') (hb2 : b < s.size) (h46 : (((s[b]'hb2).toNat : Int) == 46) = true) (CM2 : ∀ w, Calls Tryd.prog 31 #[.string s, .int .i64 ((b + 1 : Nat) : Int), .bool false] w fun e w' => e = .returned (.int .i64 0) ∧ w = w') (h1 : ¬ 1 < n) (h19 : ¬ 19 < n) (v : Int) (CN : ∀ w, Calls Tryd.prog 47 #[.string d] w fun e w' => e = .returned (.tuple #[.int .i64 v, .bool true]) ∧ Below w.heap.size w w') :
    Calls Tryd.prog 35 #[.string s, .int .i64 (a : Int)] w fun e w' => e = .returned (.tuple #[.agg #[.int .i64 3, .string ⟨#[]⟩, .int .i64 v, .int .i64 0, .int .i64 0], .int .i64 (n : Int)]) ∧ Below w.heap.size w w' := by
  have hu := m1 w (.cells #[.int .i64 0, .string ⟨#[]⟩, .int .i64 0, .int .i64 0, .int .i64 0] 36)
  have hT := Lib.hid (TokZ.made5 w)
  have a0 : (0 : Int) ≤ (a : Int) := by omega
  have b0 : (0 : Int) ≤ (b : Int) := by omega
  have ab : (a : Int) ≤ (b : Int) := by omega
  have bs : (b : Int) ≤ (s.size : Int) := by omega
  have hwb : IntKind.i64.wrap ((a : Int) + (n : Int)) = (b : Int) := by rw [IntKind.wrap_i64]; omega
  have hz : d.size = n := by rw [← hd, ByteArray.size_extract]; omega
  have hz0 : (0 : Int) < (d.size : Int) := by omega
  replace hd := Lib.hid hd
  replace CM := Lib.hid CM
  have k46 : (b : Int) < (s.size : Int) := by omega
  obtain ⟨b1, hb1⟩ : ∃ b1 : Nat, b1 = b + 1 := ⟨_, rfl⟩
  have hwb1 : IntKind.i64.wrap ((b : Int) + 1) = (b1 : Int) := by rw [IntKind.wrap_i64]; omega
  rw [← hb1] at CM2
  replace CM2 := Lib.hid CM2
  clear hb1
  have k1 : ¬ (n : Int) > 1 := by omega
  clear h1
  have k3 : ¬ (n : Int) > 19 := by omega
  clear h19
  replace CN := Lib.hid CN
  replace hz := Lib.hid hz
  clear hb hbs hn
  go_enter Tryd.func35, Tryd.ntmps35
  go_wp2_with fail
  generalize w.alloc (.cells #[.int .i64 0, .string ⟨#[]⟩, .int .i64 0, .int .i64 0, .int .i64 0] 36) = u at *
  refine (CM.out _).mono ?_; rintro e w1 ⟨rfl, rfl⟩
  clear CM
  go_upto_region 3 with (fail)
  rw [hd.out]
  go_wp2_with fail
  refine (CM2.out _).mono ?_; rintro e w1 ⟨rfl, rfl⟩
  clear CM2
  go_wp2_with fail
  refine (CN.out _).mono ?_; rintro e w2 ⟨rfl, hb2⟩
  obtain ⟨c0, c1, c2, c3, c4, f0, f1, f2, f3, f4⟩ := hT.out.later hb2
  have g1 := mblock c0
  have hB2 := mmore hu hb2
  clear CN
  go_wp2_with fail
  obtain ⟨q0, q1, q2, q3, q4⟩ := five_cells (.int .i64 3) (.string ⟨#[]⟩) (.int .i64 v) (.int .i64 0) (.int .i64 0) c0 c1 c2 c3 c4
  have B2 := (((((hB2.setCell (p := ⟨w.heap.size, 0, none⟩) (Nat.le_refl _) (.int .i64 3)).setCell (p := ⟨w.heap.size, 1, none⟩) (Nat.le_refl _) (.string ⟨#[]⟩)).setCell (p := ⟨w.heap.size, 2, none⟩) (Nat.le_refl _) (.int .i64 v)).setCell (p := ⟨w.heap.size, 3, none⟩) (Nat.le_refl _) (.int .i64 0)).setCell (p := ⟨w.heap.size, 4, none⟩) (Nat.le_refl _) (.int .i64 0))
  clear c0 c1 c2 c3 c4 f0 f1 f2 f3 f4
  generalize (((((w2.setCell ⟨w.heap.size, 0, none⟩ (.int .i64 3)).setCell ⟨w.heap.size, 1, none⟩ (.string ⟨#[]⟩)).setCell ⟨w.heap.size, 2, none⟩ (.int .i64 v)).setCell ⟨w.heap.size, 3, none⟩ (.int .i64 0)).setCell ⟨w.heap.size, 4, none⟩ (.int .i64 0)) = wz at *
  exact bodyPost_ret (v := .tuple #[.agg #[.int .i64 3, .string ⟨#[]⟩, .int .i64 v, .int .i64 0, .int .i64 0], .int .i64 (n : Int)]) (by simp [results, Tryd.results35, go_sem, q0, q1, q2, q3, q4]) rfl ⟨rfl, B2⟩

set_option maxHeartbeats 8000000 in
set_option maxRecDepth 100000 in
theorem rn_p2_nb (s : ByteArray) (a n b : Nat) (w : World) (hs : s.size ≤ 4000) (hb : b = a + n) (hbs : b ≤ s.size) (hn : 0 < n) (d : ByteArray) (hd : s.extract a b = d) (hx0 : 0 < d.size)
    (CM : ∀ w, Calls Tryd.prog 31 #[.string s, .int .i64 (a : Int), .bool false] w fun e w' => e = .returned (.int .i64 (n : Int)) ∧ w = w') (hb2 : b < s.size) (h46 : (((s[b]'hb2).toNat : Int) == 46) = true) (CM2 : ∀ w, Calls Tryd.prog 31 #[.string s, .int .i64 ((b + 1 : Nat) : Int), .bool false] w fun e w' => e = .returned (.int .i64 0) ∧ w = w') (h1 : ¬ 1 < n) (h19 : ¬ 19 < n) (CN : ∀ w, Calls Tryd.prog 47 #[.string d] w fun e w' => ∃ v, e = .returned (.tuple #[.int .i64 v, .bool false]) ∧ Below w.heap.size w w') :
    Calls Tryd.prog 35 #[.string s, .int .i64 (a : Int)] w fun e w' => e = .returned (.tuple #[.agg #[.int .i64 0, .string ⟨#[]⟩, .int .i64 0, .int .i64 0, .int .i64 0], .int .i64 0]) ∧ Below w.heap.size w w' := by
  have hu := m1 w (.cells #[.int .i64 0, .string ⟨#[]⟩, .int .i64 0, .int .i64 0, .int .i64 0] 36)
  have hT := Lib.hid (TokZ.made5 w)
  have a0 : (0 : Int) ≤ (a : Int) := by omega
  have b0 : (0 : Int) ≤ (b : Int) := by omega
  have ab : (a : Int) ≤ (b : Int) := by omega
  have bs : (b : Int) ≤ (s.size : Int) := by omega
  have hwb : IntKind.i64.wrap ((a : Int) + (n : Int)) = (b : Int) := by rw [IntKind.wrap_i64]; omega
  have hz : d.size = n := by rw [← hd, ByteArray.size_extract]; omega
  have hz0 : (0 : Int) < (d.size : Int) := by omega
  replace hd := Lib.hid hd
  replace CM := Lib.hid CM
  have k46 : (b : Int) < (s.size : Int) := by omega
  obtain ⟨b1, hb1⟩ : ∃ b1 : Nat, b1 = b + 1 := ⟨_, rfl⟩
  have hwb1 : IntKind.i64.wrap ((b : Int) + 1) = (b1 : Int) := by rw [IntKind.wrap_i64]; omega
  rw [← hb1] at CM2
  replace CM2 := Lib.hid CM2
  clear hb1
  have k1 : ¬ (n : Int) > 1 := by omega
  clear h1
  have k3 : ¬ (n : Int) > 19 := by omega
  clear h19
  replace CN := Lib.hid CN
  replace hz := Lib.hid hz
  clear hb hbs hn
  go_enter Tryd.func35, Tryd.ntmps35
  go_wp2_with fail
  generalize w.alloc (.cells #[.int .i64 0, .string ⟨#[]⟩, .int .i64 0, .int .i64 0, .int .i64 0] 36) = u at *
  refine (CM.out _).mono ?_; rintro e w1 ⟨rfl, rfl⟩
  clear CM
  go_upto_region 3 with (fail)
  rw [hd.out]
  go_wp2_with fail
  refine (CM2.out _).mono ?_; rintro e w1 ⟨rfl, rfl⟩
  clear CM2
  go_wp2_with fail
  refine (CN.out _).mono ?_; rintro e w2 ⟨v, rfl, hb2⟩
  obtain ⟨c0, c1, c2, c3, c4, f0, f1, f2, f3, f4⟩ := hT.out.later hb2
  have g1 := mblock c0
  have hB2 := mmore hu hb2
  clear CN
  go_wp2_with fail
  obtain ⟨q0, q1, q2, q3, q4⟩ := five_cells (.int .i64 0) (.string ⟨#[]⟩) (.int .i64 0) (.int .i64 0) (.int .i64 0) c0 c1 c2 c3 c4
  have B2 := (((((hB2.setCell (p := ⟨w.heap.size, 0, none⟩) (Nat.le_refl _) (.int .i64 0)).setCell (p := ⟨w.heap.size, 1, none⟩) (Nat.le_refl _) (.string ⟨#[]⟩)).setCell (p := ⟨w.heap.size, 2, none⟩) (Nat.le_refl _) (.int .i64 0)).setCell (p := ⟨w.heap.size, 3, none⟩) (Nat.le_refl _) (.int .i64 0)).setCell (p := ⟨w.heap.size, 4, none⟩) (Nat.le_refl _) (.int .i64 0))
  clear c0 c1 c2 c3 c4 f0 f1 f2 f3 f4
  generalize (((((w2.setCell ⟨w.heap.size, 0, none⟩ (.int .i64 0)).setCell ⟨w.heap.size, 1, none⟩ (.string ⟨#[]⟩)).setCell ⟨w.heap.size, 2, none⟩ (.int .i64 0)).setCell ⟨w.heap.size, 3, none⟩ (.int .i64 0)).setCell ⟨w.heap.size, 4, none⟩ (.int .i64 0)) = wz at *
  exact bodyPost_ret (v := .tuple #[.agg #[.int .i64 0, .string ⟨#[]⟩, .int .i64 0, .int .i64 0, .int .i64 0], .int .i64 0]) (by simp [results, Tryd.results35, go_sem, q0, q1, q2, q3, q4]) rfl ⟨rfl, B2⟩

set_option maxHeartbeats 8000000 in
set_option maxRecDepth 100000 in
theorem rn_p3_z (s : ByteArray) (a n b : Nat) (w : World) (hs : s.size ≤ 4000) (hb : b = a + n) (hbs : b ≤ s.size) (hn : 0 < n) (d : ByteArray) (hd : s.extract a b = d) (hx0 : 0 < d.size)
    (CM : ∀ w, Calls Tryd.prog 31 #[.string s, .int .i64 (a : Int), .bool false] w fun e w' => e = .returned (.int .i64 (n : Int)) ∧ w = w') (m : Nat) (hm : 0 < m) (hbm : b + 1 + m ≤ s.size) (hb2 : b < s.size) (h46 : (((s[b]'hb2).toNat : Int) == 46) = true) (CM2 : ∀ w, Calls Tryd.prog 31 #[.string s, .int .i64 ((b + 1 : Nat) : Int), .bool false] w fun e w' => e = .returned (.int .i64 (m : Int)) ∧ w = w') (h1 : 1 < n) (hc : ((d[0]'hx0).toNat : Int) = 48) :
    Calls Tryd.prog 35 #[.string s, .int .i64 (a : Int)] w fun e w' => e = .returned (.tuple #[.agg #[.int .i64 0, .string ⟨#[]⟩, .int .i64 0, .int .i64 0, .int .i64 0], .int .i64 0]) ∧ Below w.heap.size w w' := by
  have hu := m1 w (.cells #[.int .i64 0, .string ⟨#[]⟩, .int .i64 0, .int .i64 0, .int .i64 0] 36)
  have hT := Lib.hid (TokZ.made5 w)
  have a0 : (0 : Int) ≤ (a : Int) := by omega
  have b0 : (0 : Int) ≤ (b : Int) := by omega
  have ab : (a : Int) ≤ (b : Int) := by omega
  have bs : (b : Int) ≤ (s.size : Int) := by omega
  have hwb : IntKind.i64.wrap ((a : Int) + (n : Int)) = (b : Int) := by rw [IntKind.wrap_i64]; omega
  have hz : d.size = n := by rw [← hd, ByteArray.size_extract]; omega
  have hz0 : (0 : Int) < (d.size : Int) := by omega
  replace hd := Lib.hid hd
  replace CM := Lib.hid CM
  have k46 : (b : Int) < (s.size : Int) := by omega
  obtain ⟨b1, hb1⟩ : ∃ b1 : Nat, b1 = b + 1 := ⟨_, rfl⟩
  have hwb1 : IntKind.i64.wrap ((b : Int) + 1) = (b1 : Int) := by rw [IntKind.wrap_i64]; omega
  rw [← hb1] at CM2
  replace CM2 := Lib.hid CM2
  have hm0 : ((m : Int) == 0) = false := by simp; omega
  have hm1 : (m : Int) > 0 := by omega
  obtain ⟨nm, hnm⟩ : ∃ nm : Nat, nm = n + m := ⟨_, rfl⟩
  have hwnm : IntKind.i64.wrap ((n : Int) + (m : Int)) = (nm : Int) := by rw [IntKind.wrap_i64]; omega
  have k1 : (n : Int) > 1 := by omega
  have k2 : (((d[0]'hx0).toNat : Int) == 48) = true := by rw [hc]; rfl
  clear hc h1
  clear hnm hm hbm hb1
  replace hz := Lib.hid hz
  clear hb hbs hn
  go_enter Tryd.func35, Tryd.ntmps35
  go_wp2_with fail
  generalize w.alloc (.cells #[.int .i64 0, .string ⟨#[]⟩, .int .i64 0, .int .i64 0, .int .i64 0] 36) = u at *
  refine (CM.out _).mono ?_; rintro e w1 ⟨rfl, rfl⟩
  clear CM
  go_upto_region 3 with (fail)
  rw [hd.out]
  go_wp2_with fail
  refine (CM2.out _).mono ?_; rintro e w1 ⟨rfl, rfl⟩
  clear CM2
  obtain ⟨c0, c1, c2, c3, c4, f0, f1, f2, f3, f4⟩ := hT.out
  have g1 := mblock c0
  go_wp2_with fail
  obtain ⟨q0, q1, q2, q3, q4⟩ := five_cells (.int .i64 0) (.string ⟨#[]⟩) (.int .i64 0) (.int .i64 0) (.int .i64 0) c0 c1 c2 c3 c4
  have B2 := (((((hu.setCell (p := ⟨w.heap.size, 0, none⟩) (Nat.le_refl _) (.int .i64 0)).setCell (p := ⟨w.heap.size, 1, none⟩) (Nat.le_refl _) (.string ⟨#[]⟩)).setCell (p := ⟨w.heap.size, 2, none⟩) (Nat.le_refl _) (.int .i64 0)).setCell (p := ⟨w.heap.size, 3, none⟩) (Nat.le_refl _) (.int .i64 0)).setCell (p := ⟨w.heap.size, 4, none⟩) (Nat.le_refl _) (.int .i64 0))
  clear c0 c1 c2 c3 c4 f0 f1 f2 f3 f4
  generalize (((((u.setCell ⟨w.heap.size, 0, none⟩ (.int .i64 0)).setCell ⟨w.heap.size, 1, none⟩ (.string ⟨#[]⟩)).setCell ⟨w.heap.size, 2, none⟩ (.int .i64 0)).setCell ⟨w.heap.size, 3, none⟩ (.int .i64 0)).setCell ⟨w.heap.size, 4, none⟩ (.int .i64 0)) = wz at *
  exact bodyPost_ret (v := .tuple #[.agg #[.int .i64 0, .string ⟨#[]⟩, .int .i64 0, .int .i64 0, .int .i64 0], .int .i64 0]) (by simp [results, Tryd.results35, go_sem, q0, q1, q2, q3, q4]) rfl ⟨rfl, B2⟩

set_option maxHeartbeats 8000000 in
set_option maxRecDepth 100000 in
theorem rn_p3_la (s : ByteArray) (a n b : Nat) (w : World) (hs : s.size ≤ 4000) (hb : b = a + n) (hbs : b ≤ s.size) (hn : 0 < n) (d : ByteArray) (hd : s.extract a b = d) (hx0 : 0 < d.size)
    (CM : ∀ w, Calls Tryd.prog 31 #[.string s, .int .i64 (a : Int), .bool false] w fun e w' => e = .returned (.int .i64 (n : Int)) ∧ w = w') (m : Nat) (hm : 0 < m) (hbm : b + 1 + m ≤ s.size) (hb2 : b < s.size) (h46 : (((s[b]'hb2).toNat : Int) == 46) = true) (CM2 : ∀ w, Calls Tryd.prog 31 #[.string s, .int .i64 ((b + 1 : Nat) : Int), .bool false] w fun e w' => e = .returned (.int .i64 (m : Int)) ∧ w = w') (h1 : 1 < n) (hc : ¬ ((d[0]'hx0).toNat : Int) = 48) (h15 : 15 < n + m) :
    Calls Tryd.prog 35 #[.string s, .int .i64 (a : Int)] w fun e w' => e = .returned (.tuple #[.agg #[.int .i64 0, .string ⟨#[]⟩, .int .i64 0, .int .i64 0, .int .i64 0], .int .i64 0]) ∧ Below w.heap.size w w' := by
  have hu := m1 w (.cells #[.int .i64 0, .string ⟨#[]⟩, .int .i64 0, .int .i64 0, .int .i64 0] 36)
  have hT := Lib.hid (TokZ.made5 w)
  have a0 : (0 : Int) ≤ (a : Int) := by omega
  have b0 : (0 : Int) ≤ (b : Int) := by omega
  have ab : (a : Int) ≤ (b : Int) := by omega
  have bs : (b : Int) ≤ (s.size : Int) := by omega
  have hwb : IntKind.i64.wrap ((a : Int) + (n : Int)) = (b : Int) := by rw [IntKind.wrap_i64]; omega
  have hz : d.size = n := by rw [← hd, ByteArray.size_extract]; omega
  have hz0 : (0 : Int) < (d.size : Int) := by omega
  replace hd := Lib.hid hd
  replace CM := Lib.hid CM
  have k46 : (b : Int) < (s.size : Int) := by omega
  obtain ⟨b1, hb1⟩ : ∃ b1 : Nat, b1 = b + 1 := ⟨_, rfl⟩
  have hwb1 : IntKind.i64.wrap ((b : Int) + 1) = (b1 : Int) := by rw [IntKind.wrap_i64]; omega
  rw [← hb1] at CM2
  replace CM2 := Lib.hid CM2
  have hm0 : ((m : Int) == 0) = false := by simp; omega
  have hm1 : (m : Int) > 0 := by omega
  obtain ⟨nm, hnm⟩ : ∃ nm : Nat, nm = n + m := ⟨_, rfl⟩
  have hwnm : IntKind.i64.wrap ((n : Int) + (m : Int)) = (nm : Int) := by rw [IntKind.wrap_i64]; omega
  have k1 : (n : Int) > 1 := by omega
  have k2 : (((d[0]'hx0).toNat : Int) == 48) = false := by simp; omega
  clear hc h1
  have k3 : (nm : Int) > 15 := by omega
  clear h15 hnm hm hbm hb1
  replace hz := Lib.hid hz
  clear hb hbs hn
  go_enter Tryd.func35, Tryd.ntmps35
  go_wp2_with fail
  generalize w.alloc (.cells #[.int .i64 0, .string ⟨#[]⟩, .int .i64 0, .int .i64 0, .int .i64 0] 36) = u at *
  refine (CM.out _).mono ?_; rintro e w1 ⟨rfl, rfl⟩
  clear CM
  go_upto_region 3 with (fail)
  rw [hd.out]
  go_wp2_with fail
  refine (CM2.out _).mono ?_; rintro e w1 ⟨rfl, rfl⟩
  clear CM2
  obtain ⟨c0, c1, c2, c3, c4, f0, f1, f2, f3, f4⟩ := hT.out
  have g1 := mblock c0
  go_wp2_with fail
  obtain ⟨q0, q1, q2, q3, q4⟩ := five_cells (.int .i64 0) (.string ⟨#[]⟩) (.int .i64 0) (.int .i64 0) (.int .i64 0) c0 c1 c2 c3 c4
  have B2 := (((((hu.setCell (p := ⟨w.heap.size, 0, none⟩) (Nat.le_refl _) (.int .i64 0)).setCell (p := ⟨w.heap.size, 1, none⟩) (Nat.le_refl _) (.string ⟨#[]⟩)).setCell (p := ⟨w.heap.size, 2, none⟩) (Nat.le_refl _) (.int .i64 0)).setCell (p := ⟨w.heap.size, 3, none⟩) (Nat.le_refl _) (.int .i64 0)).setCell (p := ⟨w.heap.size, 4, none⟩) (Nat.le_refl _) (.int .i64 0))
  clear c0 c1 c2 c3 c4 f0 f1 f2 f3 f4
  generalize (((((u.setCell ⟨w.heap.size, 0, none⟩ (.int .i64 0)).setCell ⟨w.heap.size, 1, none⟩ (.string ⟨#[]⟩)).setCell ⟨w.heap.size, 2, none⟩ (.int .i64 0)).setCell ⟨w.heap.size, 3, none⟩ (.int .i64 0)).setCell ⟨w.heap.size, 4, none⟩ (.int .i64 0)) = wz at *
  exact bodyPost_ret (v := .tuple #[.agg #[.int .i64 0, .string ⟨#[]⟩, .int .i64 0, .int .i64 0, .int .i64 0], .int .i64 0]) (by simp [results, Tryd.results35, go_sem, q0, q1, q2, q3, q4]) rfl ⟨rfl, B2⟩

set_option maxHeartbeats 8000000 in
set_option maxRecDepth 100000 in
theorem rn_p3_ra (s : ByteArray) (a n b : Nat) (w : World) (hs : s.size ≤ 4000) (hb : b = a + n) (hbs : b ≤ s.size) (hn : 0 < n) (d : ByteArray) (hd : s.extract a b = d) (hx0 : 0 < d.size)
    (CM : ∀ w, Calls Tryd.prog 31 #[.string s, .int .i64 (a : Int), .bool false] w fun e w' => e = .returned (.int .i64 (n : Int)) ∧ w = w') (m : Nat) (hm : 0 < m) (hbm : b + 1 + m ≤ s.size) (hb2 : b < s.size) (h46 : (((s[b]'hb2).toNat : Int) == 46) = true) (CM2 : ∀ w, Calls Tryd.prog 31 #[.string s, .int .i64 ((b + 1 : Nat) : Int), .bool false] w fun e w' => e = .returned (.int .i64 (m : Int)) ∧ w = w') (h1 : 1 < n) (hc : ¬ ((d[0]'hx0).toNat : Int) = 48) (h15 : ¬ 15 < n + m) (hdig : ∀ x ∈ d.data.toList ++ (s.extract (b + 1) (b + 1 + m)).data.toList, digC (x.toNat : Int) = true) (vv : Int) (hvv : (digV (d.data.toList ++ (s.extract (b + 1) (b + 1 + m)).data.toList) : Int) = vv) :
    Calls Tryd.prog 35 #[.string s, .int .i64 (a : Int)] w fun e w' => e = .returned (.tuple #[.agg #[.int .i64 4, .string ⟨#[]⟩, .int .i64 vv, .int .i64 (m : Int), .int .i64 0], .int .i64 ((n + 1 + m : Nat) : Int)]) ∧ Below w.heap.size w w' := by
  have hu := m1 w (.cells #[.int .i64 0, .string ⟨#[]⟩, .int .i64 0, .int .i64 0, .int .i64 0] 36)
  have hT := Lib.hid (TokZ.made5 w)
  have a0 : (0 : Int) ≤ (a : Int) := by omega
  have b0 : (0 : Int) ≤ (b : Int) := by omega
  have ab : (a : Int) ≤ (b : Int) := by omega
  have bs : (b : Int) ≤ (s.size : Int) := by omega
  have hwb : IntKind.i64.wrap ((a : Int) + (n : Int)) = (b : Int) := by rw [IntKind.wrap_i64]; omega
  have hz : d.size = n := by rw [← hd, ByteArray.size_extract]; omega
  have hz0 : (0 : Int) < (d.size : Int) := by omega
  replace hd := Lib.hid hd
  replace CM := Lib.hid CM
  have k46 : (b : Int) < (s.size : Int) := by omega
  obtain ⟨b1, hb1⟩ : ∃ b1 : Nat, b1 = b + 1 := ⟨_, rfl⟩
  have hwb1 : IntKind.i64.wrap ((b : Int) + 1) = (b1 : Int) := by rw [IntKind.wrap_i64]; omega
  rw [← hb1] at CM2
  replace CM2 := Lib.hid CM2
  have hm0 : ((m : Int) == 0) = false := by simp; omega
  have hm1 : (m : Int) > 0 := by omega
  obtain ⟨nm, hnm⟩ : ∃ nm : Nat, nm = n + m := ⟨_, rfl⟩
  have hwnm : IntKind.i64.wrap ((n : Int) + (m : Int)) = (nm : Int) := by rw [IntKind.wrap_i64]; omega
  have k1 : (n : Int) > 1 := by omega
  have k2 : (((d[0]'hx0).toNat : Int) == 48) = false := by simp; omega
  clear hc h1
  have k3 : ¬ (nm : Int) > 15 := by omega
  obtain ⟨b2, hb2'⟩ : ∃ b2 : Nat, b2 = b1 + m := ⟨_, rfl⟩
  have hwb2 : IntKind.i64.wrap ((b1 : Int) + (m : Int)) = (b2 : Int) := by rw [IntKind.wrap_i64]; omega
  have b12 : (b1 : Int) ≤ (b2 : Int) := by omega
  have b2s : (b2 : Int) ≤ (s.size : Int) := by omega
  have b10 : (0 : Int) ≤ (b1 : Int) := by omega
  obtain ⟨ln, hln⟩ : ∃ ln : Nat, ln = n + 1 + m := ⟨_, rfl⟩
  have hwl : IntKind.i64.wrap ((n : Int) + 1) = (n : Int) + 1 := by rw [IntKind.wrap_i64]; omega
  have hwl2 : IntKind.i64.wrap ((n : Int) + 1 + (m : Int)) = (ln : Int) := by rw [IntKind.wrap_i64]; omega
  have hbig : d.size + (min b2 s.size - b1) ≤ 9223372036854775807 := by omega
  replace hbig := Lib.hid hbig
  obtain ⟨D, hD⟩ : ∃ D, d ++ s.extract b1 b2 = D := ⟨_, rfl⟩
  have hDl : D.data.toList = d.data.toList ++ (s.extract b1 b2).data.toList := by rw [← hD]; exact list_append _ _
  have hDz : D.size ≤ 15 := by rw [← hD, ByteArray.size_append, ByteArray.size_extract]; omega
  rw [← hln]
  rw [← hb1] at hdig hvv
  rw [← hb2'] at hdig hvv
  replace hvv := Lib.hid hvv
  replace hD := Lib.hid hD
  replace hDl := Lib.hid hDl
  replace hDz := Lib.hid hDz
  replace hdig := Lib.hid hdig
  clear hnm hm hbm hb1 hb2' hln h15
  replace hz := Lib.hid hz
  clear hb hbs hn
  go_enter Tryd.func35, Tryd.ntmps35
  go_wp2_with fail
  generalize w.alloc (.cells #[.int .i64 0, .string ⟨#[]⟩, .int .i64 0, .int .i64 0, .int .i64 0] 36) = u at *
  refine (CM.out _).mono ?_; rintro e w1 ⟨rfl, rfl⟩
  clear CM
  go_upto_region 3 with (fail)
  rw [hd.out]
  go_wp2_with fail
  refine (CM2.out _).mono ?_; rintro e w1 ⟨rfl, rfl⟩
  clear CM2
  go_upto_region 14 with (fail)
  have hbg : ¬ 9223372036854775807 < d.size + (min b2 s.size - b1) := by have := hbig.out; omega
  have cv : ∀ w, (convert 9 37 (.string (d ++ s.extract b1 b2))).run Tryd.prog w = .ok (.slice (some ⟨w.heap.size, 0, none⟩) D.size (grownCap w D.size 0 5)) (Lib.bytesWorld w 5 D) := fun w => by
    rw [hD.out]
    exact Lib.run_convert_string_bytes w _ _ 5 D Tryd.underlying9 Tryd.underlying37 Tryd.underlying5
  go_wp2_with fail
  have hv : Below u.heap.size u (Lib.bytesWorld u 5 D) := Go.Joins.below_bytesWorld _ _ _ _ (Nat.le_refl _)
  have hcs := Lib.hid (fun j hj => Lib.bytesWorld_cell u 5 D j hj)
  have hTv := Lib.hid (hT.out.later hv)
  have hBv := mmore hu hv
  clear cv hv hT hu
  generalize Lib.bytesWorld u 5 D = v at *
  generalize u.heap.size = g at *
  go_loopw [11, 98] (fun x i wr => ∃ k : Nat, k ≤ D.size ∧ i = .int .i64 (k : Int) ∧ x = .int .i64 (digV (D.data.toList.take k) : Int) ∧ v = wr) (fun _ i _ => D.size - (intOf i).toNat)
  case atStart => exact ⟨0, Nat.zero_le _, rfl, rfl, rfl⟩
  case round =>
    obtain ⟨k, hk, rfl, rfl, rfl⟩ := hrel
    by_cases hlt : k < D.size
    · have hl2 : k < D.data.toList.length := by rw [list_size]; exact hlt
      have cc := hcs.out k hlt
      have hx := hdig.out (D.data.toList[k]) (by rw [← hDl.out]; exact List.getElem_mem _)
      have hst := take_snoc D.data.toList k hl2
      rw [show D.data.toList.getD k 0 = D.data.toList[k] by unfold List.getD; rw [List.getElem?_eq_getElem hl2]; rfl] at cc
      have hlt10 := digV_lt _ (D.data.toList.take k) rfl (fun x h => hdig.out x (by rw [← hDl.out]; exact List.mem_of_mem_take h))
      generalize D.data.toList[k] = y at *
      have hxb := dig_bounds hx
      have hp : 10 ^ (D.data.toList.take k).length ≤ 10 ^ 14 := Nat.pow_le_pow_right (by omega) (by rw [List.length_take]; have := hDz.out; omega)
      have hN : digV (D.data.toList.take k) < 100000000000000 := by omega
      have hk'' : (k : Int) < (D.size : Int) := by omega
      have hk15 : D.size ≤ 15 := hDz.out
      have hk0 : (0 : Int) ≤ (k : Int) := by omega
      have w1 : IntKind.i64.wrap (10 * (digV (D.data.toList.take k) : Int)) = 10 * (digV (D.data.toList.take k) : Int) := by rw [IntKind.wrap_i64]; omega
      have w2 : IntKind.u8.wrap ((y.toNat : Int) - 48) = (y.toNat : Int) - 48 := by rw [IntKind.wrap_u8]; omega
      have w3 : IntKind.i64.wrap ((y.toNat : Int) - 48) = (y.toNat : Int) - 48 := by rw [IntKind.wrap_i64]; omega
      have w4 : IntKind.i64.wrap (10 * (digV (D.data.toList.take k) : Int) + ((y.toNat : Int) - 48)) = (digV (D.data.toList.take (k + 1)) : Int) := by rw [IntKind.wrap_i64, hst]; omega
      clear hst hlt10 hp hN hx hxb hl2
      go_wp2_with fail
      go_roundw
      case rel => exact ⟨k + 1, by omega, by go_num, by first | rfl | (rw [w4]) | simp, by first | rfl | trivial⟩
      case measure => simp [intOf]; omega
    · obtain rfl : k = D.size := by omega
      rw [List.take_of_length_le (by rw [list_size]; exact Nat.le_refl _)]
      rw [show (digV D.data.toList : Int) = vv by rw [hDl.out]; exact hvv.out]
      obtain ⟨c0, c1, c2, c3, c4, f0, f1, f2, f3, f4⟩ := hTv.out
      have g1 := mblock c0
      clear hcs
      go_wp2_with fail
      obtain ⟨q0, q1, q2, q3, q4⟩ := five_cells (.int .i64 4) (.string ⟨#[]⟩) (.int .i64 vv) (.int .i64 (m : Int)) (.int .i64 0) c0 c1 c2 c3 c4
      have B2 := (((((hBv.setCell (p := ⟨w.heap.size, 0, none⟩) (Nat.le_refl _) (.int .i64 4)).setCell (p := ⟨w.heap.size, 1, none⟩) (Nat.le_refl _) (.string ⟨#[]⟩)).setCell (p := ⟨w.heap.size, 2, none⟩) (Nat.le_refl _) (.int .i64 vv)).setCell (p := ⟨w.heap.size, 3, none⟩) (Nat.le_refl _) (.int .i64 (m : Int))).setCell (p := ⟨w.heap.size, 4, none⟩) (Nat.le_refl _) (.int .i64 0))
      clear c0 c1 c2 c3 c4 f0 f1 f2 f3 f4
      generalize (((((v.setCell ⟨w.heap.size, 0, none⟩ (.int .i64 4)).setCell ⟨w.heap.size, 1, none⟩ (.string ⟨#[]⟩)).setCell ⟨w.heap.size, 2, none⟩ (.int .i64 vv)).setCell ⟨w.heap.size, 3, none⟩ (.int .i64 (m : Int))).setCell ⟨w.heap.size, 4, none⟩ (.int .i64 0)) = wz at *
      exact bodyPost_ret (v := .tuple #[.agg #[.int .i64 4, .string ⟨#[]⟩, .int .i64 vv, .int .i64 (m : Int), .int .i64 0], .int .i64 (ln : Int)]) (by simp [results, Tryd.results35, go_sem, q0, q1, q2, q3, q4]) rfl ⟨rfl, B2⟩

set_option maxHeartbeats 8000000 in
set_option maxRecDepth 100000 in
theorem rn_p3_lb (s : ByteArray) (a n b : Nat) (w : World) (hs : s.size ≤ 4000) (hb : b = a + n) (hbs : b ≤ s.size) (hn : 0 < n) (d : ByteArray) (hd : s.extract a b = d) (hx0 : 0 < d.size)
    (CM : ∀ w, Calls Tryd.prog 31 #[.string s, .int .i64 (a : Int), .bool false] w fun e w' => e = .returned (.int .i64 (n : Int)) ∧ w = w') (m : Nat) (hm : 0 < m) (hbm : b + 1 + m ≤ s.size) (hb2 : b < s.size) (h46 : (((s[b]'hb2).toNat : Int) == 46) = true) (CM2 : ∀ w, Calls Tryd.prog 31 #[.string s, .int .i64 ((b + 1 : Nat) : Int), .bool false] w fun e w' => e = .returned (.int .i64 (m : Int)) ∧ w = w') (h1 : ¬ 1 < n) (h15 : 15 < n + m) :
    Calls Tryd.prog 35 #[.string s, .int .i64 (a : Int)] w fun e w' => e = .returned (.tuple #[.agg #[.int .i64 0, .string ⟨#[]⟩, .int .i64 0, .int .i64 0, .int .i64 0], .int .i64 0]) ∧ Below w.heap.size w w' := by
  have hu := m1 w (.cells #[.int .i64 0, .string ⟨#[]⟩, .int .i64 0, .int .i64 0, .int .i64 0] 36)
  have hT := Lib.hid (TokZ.made5 w)
  have a0 : (0 : Int) ≤ (a : Int) := by omega
  have b0 : (0 : Int) ≤ (b : Int) := by omega
  have ab : (a : Int) ≤ (b : Int) := by omega
  have bs : (b : Int) ≤ (s.size : Int) := by omega
  have hwb : IntKind.i64.wrap ((a : Int) + (n : Int)) = (b : Int) := by rw [IntKind.wrap_i64]; omega
  have hz : d.size = n := by rw [← hd, ByteArray.size_extract]; omega
  have hz0 : (0 : Int) < (d.size : Int) := by omega
  replace hd := Lib.hid hd
  replace CM := Lib.hid CM
  have k46 : (b : Int) < (s.size : Int) := by omega
  obtain ⟨b1, hb1⟩ : ∃ b1 : Nat, b1 = b + 1 := ⟨_, rfl⟩
  have hwb1 : IntKind.i64.wrap ((b : Int) + 1) = (b1 : Int) := by rw [IntKind.wrap_i64]; omega
  rw [← hb1] at CM2
  replace CM2 := Lib.hid CM2
  have hm0 : ((m : Int) == 0) = false := by simp; omega
  have hm1 : (m : Int) > 0 := by omega
  obtain ⟨nm, hnm⟩ : ∃ nm : Nat, nm = n + m := ⟨_, rfl⟩
  have hwnm : IntKind.i64.wrap ((n : Int) + (m : Int)) = (nm : Int) := by rw [IntKind.wrap_i64]; omega
  have k1 : ¬ (n : Int) > 1 := by omega
  clear h1
  have k3 : (nm : Int) > 15 := by omega
  clear h15 hnm hm hbm hb1
  replace hz := Lib.hid hz
  clear hb hbs hn
  go_enter Tryd.func35, Tryd.ntmps35
  go_wp2_with fail
  generalize w.alloc (.cells #[.int .i64 0, .string ⟨#[]⟩, .int .i64 0, .int .i64 0, .int .i64 0] 36) = u at *
  refine (CM.out _).mono ?_; rintro e w1 ⟨rfl, rfl⟩
  clear CM
  go_upto_region 3 with (fail)
  rw [hd.out]
  go_wp2_with fail
  refine (CM2.out _).mono ?_; rintro e w1 ⟨rfl, rfl⟩
  clear CM2
  obtain ⟨c0, c1, c2, c3, c4, f0, f1, f2, f3, f4⟩ := hT.out
  have g1 := mblock c0
  go_wp2_with fail
  obtain ⟨q0, q1, q2, q3, q4⟩ := five_cells (.int .i64 0) (.string ⟨#[]⟩) (.int .i64 0) (.int .i64 0) (.int .i64 0) c0 c1 c2 c3 c4
  have B2 := (((((hu.setCell (p := ⟨w.heap.size, 0, none⟩) (Nat.le_refl _) (.int .i64 0)).setCell (p := ⟨w.heap.size, 1, none⟩) (Nat.le_refl _) (.string ⟨#[]⟩)).setCell (p := ⟨w.heap.size, 2, none⟩) (Nat.le_refl _) (.int .i64 0)).setCell (p := ⟨w.heap.size, 3, none⟩) (Nat.le_refl _) (.int .i64 0)).setCell (p := ⟨w.heap.size, 4, none⟩) (Nat.le_refl _) (.int .i64 0))
  clear c0 c1 c2 c3 c4 f0 f1 f2 f3 f4
  generalize (((((u.setCell ⟨w.heap.size, 0, none⟩ (.int .i64 0)).setCell ⟨w.heap.size, 1, none⟩ (.string ⟨#[]⟩)).setCell ⟨w.heap.size, 2, none⟩ (.int .i64 0)).setCell ⟨w.heap.size, 3, none⟩ (.int .i64 0)).setCell ⟨w.heap.size, 4, none⟩ (.int .i64 0)) = wz at *
  exact bodyPost_ret (v := .tuple #[.agg #[.int .i64 0, .string ⟨#[]⟩, .int .i64 0, .int .i64 0, .int .i64 0], .int .i64 0]) (by simp [results, Tryd.results35, go_sem, q0, q1, q2, q3, q4]) rfl ⟨rfl, B2⟩

set_option maxHeartbeats 8000000 in
set_option maxRecDepth 100000 in
theorem rn_p3_rb (s : ByteArray) (a n b : Nat) (w : World) (hs : s.size ≤ 4000) (hb : b = a + n) (hbs : b ≤ s.size) (hn : 0 < n) (d : ByteArray) (hd : s.extract a b = d) (hx0 : 0 < d.size)
    (CM : ∀ w, Calls Tryd.prog 31 #[.string s, .int .i64 (a : Int), .bool false] w fun e w' => e = .returned (.int .i64 (n : Int)) ∧ w = w') (m : Nat) (hm : 0 < m) (hbm : b + 1 + m ≤ s.size) (hb2 : b < s.size) (h46 : (((s[b]'hb2).toNat : Int) == 46) = true) (CM2 : ∀ w, Calls Tryd.prog 31 #[.string s, .int .i64 ((b + 1 : Nat) : Int), .bool false] w fun e w' => e = .returned (.int .i64 (m : Int)) ∧ w = w') (h1 : ¬ 1 < n) (h15 : ¬ 15 < n + m) (hdig : ∀ x ∈ d.data.toList ++ (s.extract (b + 1) (b + 1 + m)).data.toList, digC (x.toNat : Int) = true) (vv : Int) (hvv : (digV (d.data.toList ++ (s.extract (b + 1) (b + 1 + m)).data.toList) : Int) = vv) :
    Calls Tryd.prog 35 #[.string s, .int .i64 (a : Int)] w fun e w' => e = .returned (.tuple #[.agg #[.int .i64 4, .string ⟨#[]⟩, .int .i64 vv, .int .i64 (m : Int), .int .i64 0], .int .i64 ((n + 1 + m : Nat) : Int)]) ∧ Below w.heap.size w w' := by
  have hu := m1 w (.cells #[.int .i64 0, .string ⟨#[]⟩, .int .i64 0, .int .i64 0, .int .i64 0] 36)
  have hT := Lib.hid (TokZ.made5 w)
  have a0 : (0 : Int) ≤ (a : Int) := by omega
  have b0 : (0 : Int) ≤ (b : Int) := by omega
  have ab : (a : Int) ≤ (b : Int) := by omega
  have bs : (b : Int) ≤ (s.size : Int) := by omega
  have hwb : IntKind.i64.wrap ((a : Int) + (n : Int)) = (b : Int) := by rw [IntKind.wrap_i64]; omega
  have hz : d.size = n := by rw [← hd, ByteArray.size_extract]; omega
  have hz0 : (0 : Int) < (d.size : Int) := by omega
  replace hd := Lib.hid hd
  replace CM := Lib.hid CM
  have k46 : (b : Int) < (s.size : Int) := by omega
  obtain ⟨b1, hb1⟩ : ∃ b1 : Nat, b1 = b + 1 := ⟨_, rfl⟩
  have hwb1 : IntKind.i64.wrap ((b : Int) + 1) = (b1 : Int) := by rw [IntKind.wrap_i64]; omega
  rw [← hb1] at CM2
  replace CM2 := Lib.hid CM2
  have hm0 : ((m : Int) == 0) = false := by simp; omega
  have hm1 : (m : Int) > 0 := by omega
  obtain ⟨nm, hnm⟩ : ∃ nm : Nat, nm = n + m := ⟨_, rfl⟩
  have hwnm : IntKind.i64.wrap ((n : Int) + (m : Int)) = (nm : Int) := by rw [IntKind.wrap_i64]; omega
  have k1 : ¬ (n : Int) > 1 := by omega
  clear h1
  have k3 : ¬ (nm : Int) > 15 := by omega
  obtain ⟨b2, hb2'⟩ : ∃ b2 : Nat, b2 = b1 + m := ⟨_, rfl⟩
  have hwb2 : IntKind.i64.wrap ((b1 : Int) + (m : Int)) = (b2 : Int) := by rw [IntKind.wrap_i64]; omega
  have b12 : (b1 : Int) ≤ (b2 : Int) := by omega
  have b2s : (b2 : Int) ≤ (s.size : Int) := by omega
  have b10 : (0 : Int) ≤ (b1 : Int) := by omega
  obtain ⟨ln, hln⟩ : ∃ ln : Nat, ln = n + 1 + m := ⟨_, rfl⟩
  have hwl : IntKind.i64.wrap ((n : Int) + 1) = (n : Int) + 1 := by rw [IntKind.wrap_i64]; omega
  have hwl2 : IntKind.i64.wrap ((n : Int) + 1 + (m : Int)) = (ln : Int) := by rw [IntKind.wrap_i64]; omega
  have hbig : d.size + (min b2 s.size - b1) ≤ 9223372036854775807 := by omega
  replace hbig := Lib.hid hbig
  obtain ⟨D, hD⟩ : ∃ D, d ++ s.extract b1 b2 = D := ⟨_, rfl⟩
  have hDl : D.data.toList = d.data.toList ++ (s.extract b1 b2).data.toList := by rw [← hD]; exact list_append _ _
  have hDz : D.size ≤ 15 := by rw [← hD, ByteArray.size_append, ByteArray.size_extract]; omega
  rw [← hln]
  rw [← hb1] at hdig hvv
  rw [← hb2'] at hdig hvv
  replace hvv := Lib.hid hvv
  replace hD := Lib.hid hD
  replace hDl := Lib.hid hDl
  replace hDz := Lib.hid hDz
  replace hdig := Lib.hid hdig
  clear hnm hm hbm hb1 hb2' hln h15
  replace hz := Lib.hid hz
  clear hb hbs hn
  go_enter Tryd.func35, Tryd.ntmps35
  go_wp2_with fail
  generalize w.alloc (.cells #[.int .i64 0, .string ⟨#[]⟩, .int .i64 0, .int .i64 0, .int .i64 0] 36) = u at *
  refine (CM.out _).mono ?_; rintro e w1 ⟨rfl, rfl⟩
  clear CM
  go_upto_region 3 with (fail)
  rw [hd.out]
  go_wp2_with fail
  refine (CM2.out _).mono ?_; rintro e w1 ⟨rfl, rfl⟩
  clear CM2
  go_upto_region 14 with (fail)
  have hbg : ¬ 9223372036854775807 < d.size + (min b2 s.size - b1) := by have := hbig.out; omega
  have cv : ∀ w, (convert 9 37 (.string (d ++ s.extract b1 b2))).run Tryd.prog w = .ok (.slice (some ⟨w.heap.size, 0, none⟩) D.size (grownCap w D.size 0 5)) (Lib.bytesWorld w 5 D) := fun w => by
    rw [hD.out]
    exact Lib.run_convert_string_bytes w _ _ 5 D Tryd.underlying9 Tryd.underlying37 Tryd.underlying5
  go_wp2_with fail
  have hv : Below u.heap.size u (Lib.bytesWorld u 5 D) := Go.Joins.below_bytesWorld _ _ _ _ (Nat.le_refl _)
  have hcs := Lib.hid (fun j hj => Lib.bytesWorld_cell u 5 D j hj)
  have hTv := Lib.hid (hT.out.later hv)
  have hBv := mmore hu hv
  clear cv hv hT hu
  generalize Lib.bytesWorld u 5 D = v at *
  generalize u.heap.size = g at *
  go_loopw [11, 98] (fun x i wr => ∃ k : Nat, k ≤ D.size ∧ i = .int .i64 (k : Int) ∧ x = .int .i64 (digV (D.data.toList.take k) : Int) ∧ v = wr) (fun _ i _ => D.size - (intOf i).toNat)
  case atStart => exact ⟨0, Nat.zero_le _, rfl, rfl, rfl⟩
  case round =>
    obtain ⟨k, hk, rfl, rfl, rfl⟩ := hrel
    by_cases hlt : k < D.size
    · have hl2 : k < D.data.toList.length := by rw [list_size]; exact hlt
      have cc := hcs.out k hlt
      have hx := hdig.out (D.data.toList[k]) (by rw [← hDl.out]; exact List.getElem_mem _)
      have hst := take_snoc D.data.toList k hl2
      rw [show D.data.toList.getD k 0 = D.data.toList[k] by unfold List.getD; rw [List.getElem?_eq_getElem hl2]; rfl] at cc
      have hlt10 := digV_lt _ (D.data.toList.take k) rfl (fun x h => hdig.out x (by rw [← hDl.out]; exact List.mem_of_mem_take h))
      generalize D.data.toList[k] = y at *
      have hxb := dig_bounds hx
      have hp : 10 ^ (D.data.toList.take k).length ≤ 10 ^ 14 := Nat.pow_le_pow_right (by omega) (by rw [List.length_take]; have := hDz.out; omega)
      have hN : digV (D.data.toList.take k) < 100000000000000 := by omega
      have hk'' : (k : Int) < (D.size : Int) := by omega
      have hk15 : D.size ≤ 15 := hDz.out
      have hk0 : (0 : Int) ≤ (k : Int) := by omega
      have w1 : IntKind.i64.wrap (10 * (digV (D.data.toList.take k) : Int)) = 10 * (digV (D.data.toList.take k) : Int) := by rw [IntKind.wrap_i64]; omega
      have w2 : IntKind.u8.wrap ((y.toNat : Int) - 48) = (y.toNat : Int) - 48 := by rw [IntKind.wrap_u8]; omega
      have w3 : IntKind.i64.wrap ((y.toNat : Int) - 48) = (y.toNat : Int) - 48 := by rw [IntKind.wrap_i64]; omega
      have w4 : IntKind.i64.wrap (10 * (digV (D.data.toList.take k) : Int) + ((y.toNat : Int) - 48)) = (digV (D.data.toList.take (k + 1)) : Int) := by rw [IntKind.wrap_i64, hst]; omega
      clear hst hlt10 hp hN hx hxb hl2
      go_wp2_with fail
      go_roundw
      case rel => exact ⟨k + 1, by omega, by go_num, by first | rfl | (rw [w4]) | simp, by first | rfl | trivial⟩
      case measure => simp [intOf]; omega
    · obtain rfl : k = D.size := by omega
      rw [List.take_of_length_le (by rw [list_size]; exact Nat.le_refl _)]
      rw [show (digV D.data.toList : Int) = vv by rw [hDl.out]; exact hvv.out]
      obtain ⟨c0, c1, c2, c3, c4, f0, f1, f2, f3, f4⟩ := hTv.out
      have g1 := mblock c0
      clear hcs
      go_wp2_with fail
      obtain ⟨q0, q1, q2, q3, q4⟩ := five_cells (.int .i64 4) (.string ⟨#[]⟩) (.int .i64 vv) (.int .i64 (m : Int)) (.int .i64 0) c0 c1 c2 c3 c4
      have B2 := (((((hBv.setCell (p := ⟨w.heap.size, 0, none⟩) (Nat.le_refl _) (.int .i64 4)).setCell (p := ⟨w.heap.size, 1, none⟩) (Nat.le_refl _) (.string ⟨#[]⟩)).setCell (p := ⟨w.heap.size, 2, none⟩) (Nat.le_refl _) (.int .i64 vv)).setCell (p := ⟨w.heap.size, 3, none⟩) (Nat.le_refl _) (.int .i64 (m : Int))).setCell (p := ⟨w.heap.size, 4, none⟩) (Nat.le_refl _) (.int .i64 0))
      clear c0 c1 c2 c3 c4 f0 f1 f2 f3 f4
      generalize (((((v.setCell ⟨w.heap.size, 0, none⟩ (.int .i64 4)).setCell ⟨w.heap.size, 1, none⟩ (.string ⟨#[]⟩)).setCell ⟨w.heap.size, 2, none⟩ (.int .i64 vv)).setCell ⟨w.heap.size, 3, none⟩ (.int .i64 (m : Int))).setCell ⟨w.heap.size, 4, none⟩ (.int .i64 0)) = wz at *
      exact bodyPost_ret (v := .tuple #[.agg #[.int .i64 4, .string ⟨#[]⟩, .int .i64 vv, .int .i64 (m : Int), .int .i64 0], .int .i64 (ln : Int)]) (by simp [results, Tryd.results35, go_sem, q0, q1, q2, q3, q4]) rfl ⟨rfl, B2⟩
end Go.Proofs.YteojcohmocbakaaDoor
