/- The symbol and the fraction that a text begins with, as contracts. -/
import Derived.Test.YteojcohmocbakaaDoorLexW
import Derived.Deep.CutRange
import Derived.Deep.DeepCutAuto
namespace Go.Proofs.YteojcohmocbakaaDoor
open Go.ChangeShapes Go.WideShapes Go.ChangeAt Go.RowKit
set_option linter.unusedVariables false
set_option linter.unusedSimpArgs false

theorem extract_le2 (s : ByteArray) (a b m : Nat) (h : s.size ≤ m) : (s.extract a b).size ≤ m := by simp; omega
/-- what the symbol makes whose name t stands behind the quote; q: a quote stands behind the name -/
def SymIs (t : ByteArray) (q : Bool) (v : Value) (n : Int) : Prop := (NameP t ∧ q = true ∧ v = tokV 5 t 0 0 0 ∧ n = (t.size : Int) + 2) ∨ ((¬ NameP t ∨ q = false) ∧ v = tokV 0 ⟨#[]⟩ 0 0 0 ∧ n = 0)

set_option maxHeartbeats 8000000 in
set_option maxRecDepth 100000 in
theorem symbol_any (s : ByteArray) (r : Nat) (w : World) (hs : s.size ≤ 281474976710656) (h0 : 0 < s.size) (hr : RunIs okC (s.extract 1 s.size) r) (q : Bool) (hq : Lib.hasPrefix ((s.extract 1 s.size).extract ((s.extract 1 s.size).extract 0 r).size (s.extract 1 s.size).size).data.toList [39] = q) :
    Calls Tryd.prog 28 #[.string s] w fun e w' => ∃ v n, e = .returned (.tuple #[v, .int .i64 n]) ∧ SymIs ((s.extract 1 s.size).extract 0 r) q v n ∧ Below w.heap.size w w' := by
  have hb1 : (s.extract 1 s.size).size ≤ 281474976710656 := extract_le2 _ _ _ _ hs
  have i1 : (1 : Int) ≤ (s.size : Int) := by omega
  have CS := fun w => span_further (s.extract 1 s.size) r w (by omega) hr
  have hr0 := hr.1
  have hu := m1 w (.cells #[.int .i64 0, .string ⟨#[]⟩, .int .i64 0, .int .i64 0, .int .i64 0] 33)
  have hT := Lib.hid (TokZ.made w)
  generalize hbs : s.extract 1 s.size = bs at *
  replace hbs := Lib.hid hbs
  have hz : (bs.extract 0 r).size = r := by simp; omega
  have CH : ∀ w, Calls Tryd.prog 45 #[.string (bs.extract (bs.extract 0 r).size bs.size), .string ⟨#[39]⟩] w fun e w' => e = .returned (.bool q) ∧ w' = w := by
    intro w
    rw [← hq]
    exact Tryd.strings_HasPrefix _ ⟨#[39]⟩ w
  replace CS := Lib.hid CS
  replace CH := Lib.hid CH
  replace hr := Lib.hid hr
  replace hq := Lib.hid hq
  have hts : (bs.extract 0 r).size ≤ 281474976710656 := by omega
  have r0 : (0 : Int) ≤ (r : Int) := by omega
  have r1 : (r : Int) ≤ (bs.size : Int) := by omega
  go_enter Tryd.func28, Tryd.ntmps28
  go_wp2_with fail
  rw [hbs.out]
  generalize w.alloc (.cells #[.int .i64 0, .string ⟨#[]⟩, .int .i64 0, .int .i64 0, .int .i64 0] 33) = u at *
  refine (CS.out _).mono ?_; rintro e w1 ⟨rfl, rfl⟩
  replace hz := Lib.hid hz
  replace hu := Lib.hid hu
  clear hts
  go_wp2_with fail
  have hz := hz.out
  have hu := hu.out
  have hts : (bs.extract 0 r).size ≤ 281474976710656 := by omega
  generalize et : bs.extract 0 r = t at *
  replace et := Lib.hid et
  clear CS hr
  refine (name_any t _).mono ?_; rintro e w2 ⟨q2, rfl, hq2, hb2⟩
  have hT2 := Lib.hid (hT.out.later hb2)
  have hB2 := mmore hu hb2
  have hz' : (t.size : Int) ≤ (bs.size : Int) := by omega
  have hz0 : (0 : Int) ≤ (t.size : Int) := by omega
  replace hz := Lib.hid hz
  cases q2
  · have hN : ¬ NameP t := by simpa using hq2
    replace hN := Lib.hid hN
    obtain ⟨c0, c1, c2, c3, c4, f0, f1, f2, f3, f4⟩ := hT2.out
    have g1 := mblock c0
    clear hq2
    go_wp2_with fail
    obtain ⟨q0, q1, q2, q3, q4⟩ := five_cells (.int .i64 0) (.string ⟨#[]⟩) (.int .i64 0) (.int .i64 0) (.int .i64 0) c0 c1 c2 c3 c4
    have B2 := (((((hB2.setCell (p := ⟨w.heap.size, 0, none⟩) (Nat.le_refl _) (.int .i64 0)).setCell (p := ⟨w.heap.size, 1, none⟩) (Nat.le_refl _) (.string ⟨#[]⟩)).setCell (p := ⟨w.heap.size, 2, none⟩) (Nat.le_refl _) (.int .i64 0)).setCell (p := ⟨w.heap.size, 3, none⟩) (Nat.le_refl _) (.int .i64 0)).setCell (p := ⟨w.heap.size, 4, none⟩) (Nat.le_refl _) (.int .i64 0))
    clear c0 c1 c2 c3 c4 f0 f1 f2 f3 f4
    generalize (((((w2.setCell ⟨w.heap.size, 0, none⟩ (.int .i64 0)).setCell ⟨w.heap.size, 1, none⟩ (.string ⟨#[]⟩)).setCell ⟨w.heap.size, 2, none⟩ (.int .i64 0)).setCell ⟨w.heap.size, 3, none⟩ (.int .i64 0)).setCell ⟨w.heap.size, 4, none⟩ (.int .i64 0)) = wz at *
    exact bodyPost_ret (v := .tuple #[.agg #[.int .i64 0, .string ⟨#[]⟩, .int .i64 0, .int .i64 0, .int .i64 0], .int .i64 0]) (by simp [results, Tryd.results28, go_sem, q0, q1, q2, q3, q4]) rfl ⟨_, _, rfl, (by rw [et.out]; exact .inr ⟨.inl hN.out, rfl, rfl⟩), B2⟩
  · have hN : NameP t := by simpa using hq2
    replace hN := Lib.hid hN
    clear hq2
    cases q
    · obtain ⟨c0, c1, c2, c3, c4, f0, f1, f2, f3, f4⟩ := hT2.out
      have g1 := mblock c0
      go_wp2_with (go_at_call 45; refine (CH.out _).mono ?_; rintro e w3 ⟨rfl, rfl⟩)
      obtain ⟨q0, q1, q2, q3, q4⟩ := five_cells (.int .i64 0) (.string ⟨#[]⟩) (.int .i64 0) (.int .i64 0) (.int .i64 0) c0 c1 c2 c3 c4
      have B2 := (((((hB2.setCell (p := ⟨w.heap.size, 0, none⟩) (Nat.le_refl _) (.int .i64 0)).setCell (p := ⟨w.heap.size, 1, none⟩) (Nat.le_refl _) (.string ⟨#[]⟩)).setCell (p := ⟨w.heap.size, 2, none⟩) (Nat.le_refl _) (.int .i64 0)).setCell (p := ⟨w.heap.size, 3, none⟩) (Nat.le_refl _) (.int .i64 0)).setCell (p := ⟨w.heap.size, 4, none⟩) (Nat.le_refl _) (.int .i64 0))
      clear c0 c1 c2 c3 c4 f0 f1 f2 f3 f4
      generalize (((((w3.setCell ⟨w.heap.size, 0, none⟩ (.int .i64 0)).setCell ⟨w.heap.size, 1, none⟩ (.string ⟨#[]⟩)).setCell ⟨w.heap.size, 2, none⟩ (.int .i64 0)).setCell ⟨w.heap.size, 3, none⟩ (.int .i64 0)).setCell ⟨w.heap.size, 4, none⟩ (.int .i64 0)) = wz at *
      exact bodyPost_ret (v := .tuple #[.agg #[.int .i64 0, .string ⟨#[]⟩, .int .i64 0, .int .i64 0, .int .i64 0], .int .i64 0]) (by simp [results, Tryd.results28, go_sem, q0, q1, q2, q3, q4]) rfl ⟨_, _, rfl, (by rw [et.out]; exact .inr ⟨.inr rfl, rfl, rfl⟩), B2⟩
    · go_wp2_with (first | (go_at_call 45; refine (CH.out _).mono ?_; rintro e w3 ⟨rfl, rfl⟩) | fail)
      refine (spoken_any 5 t _ hts).mono ?_; rintro e w3 ⟨rfl, hb3⟩
      have hT3 := Lib.hid (hT2.out.later hb3)
      have hB3 := mmore hB2 hb3
      obtain ⟨c0, c1, c2, c3, c4, f0, f1, f2, f3, f4⟩ := hT3.out
      have g1 := mblock c0
      unfold tokV
      have hsum : (1 : Int) + (t.size : Int) + 1 = (t.size : Int) + 2 := by omega
      go_wp2_with fail
      obtain ⟨q0, q1, q2, q3, q4⟩ := five_cells (.int .i64 5) (.string t) (.int .i64 0) (.int .i64 0) (.int .i64 0) c0 c1 c2 c3 c4
      have B2 := (((((hB3.setCell (p := ⟨w.heap.size, 0, none⟩) (Nat.le_refl _) (.int .i64 5)).setCell (p := ⟨w.heap.size, 1, none⟩) (Nat.le_refl _) (.string t)).setCell (p := ⟨w.heap.size, 2, none⟩) (Nat.le_refl _) (.int .i64 0)).setCell (p := ⟨w.heap.size, 3, none⟩) (Nat.le_refl _) (.int .i64 0)).setCell (p := ⟨w.heap.size, 4, none⟩) (Nat.le_refl _) (.int .i64 0))
      clear c0 c1 c2 c3 c4 f0 f1 f2 f3 f4
      generalize (((((w3.setCell ⟨w.heap.size, 0, none⟩ (.int .i64 5)).setCell ⟨w.heap.size, 1, none⟩ (.string t)).setCell ⟨w.heap.size, 2, none⟩ (.int .i64 0)).setCell ⟨w.heap.size, 3, none⟩ (.int .i64 0)).setCell ⟨w.heap.size, 4, none⟩ (.int .i64 0)) = wz at *
      exact bodyPost_ret (v := .tuple #[.agg #[.int .i64 5, .string t, .int .i64 0, .int .i64 0, .int .i64 0], .int .i64 ((t.size : Int) + 2)]) (by simp [results, Tryd.results28, go_sem, q0, q1, q2, q3, q4]) rfl ⟨_, _, rfl, (by rw [et.out]; exact .inl ⟨hN.out, rfl, rfl, rfl⟩), B2⟩
end Go.Proofs.YteojcohmocbakaaDoor
