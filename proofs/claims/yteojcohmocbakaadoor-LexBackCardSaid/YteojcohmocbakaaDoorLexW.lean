/- Words and names that a text begins with, as a contract. -/
import Derived.Test.YteojcohmocbakaaDoorLexS
namespace Go.Proofs.YteojcohmocbakaaDoor
open Go.ChangeShapes Go.WideShapes Go.ChangeAt Go.RowKit
set_option linter.unusedVariables false
set_option linter.unusedSimpArgs false

/-- an empty token lies there, and may be written -/
def TokZ (w : World) (g : Nat) : Prop := w.cell? ⟨g, 0, none⟩ = some (.int .i64 0) ∧ w.cell? ⟨g, 1, none⟩ = some (.string ⟨#[]⟩) ∧ w.cell? ⟨g, 2, none⟩ = some (.int .i64 0) ∧ w.cell? ⟨g, 3, none⟩ = some (.int .i64 0) ∧ w.cell? ⟨g, 4, none⟩ = some (.int .i64 0) ∧
  w.frozen? ⟨g, 0, none⟩ = false ∧ w.frozen? ⟨g, 1, none⟩ = false ∧ w.frozen? ⟨g, 2, none⟩ = false ∧ w.frozen? ⟨g, 3, none⟩ = false ∧ w.frozen? ⟨g, 4, none⟩ = false
theorem TokZ.made (w : World) : TokZ (w.alloc (.cells #[.int .i64 0, .string ⟨#[]⟩, .int .i64 0, .int .i64 0, .int .i64 0] 33)) w.heap.size := by
  refine ⟨?_, ?_, ?_, ?_, ?_, ?_, ?_, ?_, ?_, ?_⟩ <;> simp [go_sem]
theorem TokZ.later {w w1 : World} {g : Nat} (h : TokZ w g) (hb : Below w.heap.size w w1) : TokZ w1 g := by
  obtain ⟨c0, c1, c2, c3, c4, f0, f1, f2, f3, f4⟩ := h
  have g1 : g < w.heap.size := mblock c0
  exact ⟨cell_later hb c0, cell_later hb c1, cell_later hb c2, cell_later hb c3, cell_later hb c4, (hb.frozen (p := ⟨g, 0, none⟩) g1).trans f0, (hb.frozen (p := ⟨g, 1, none⟩) g1).trans f1, (hb.frozen (p := ⟨g, 2, none⟩) g1).trans f2, (hb.frozen (p := ⟨g, 3, none⟩) g1).trans f3, (hb.frozen (p := ⟨g, 4, none⟩) g1).trans f4⟩
/-- what the word that a text begins with makes -/
def WordIs (t : ByteArray) (v : Value) (n : Int) : Prop := (wordB t = true ∧ v = tokV 1 t 0 0 0 ∧ n = t.size) ∨ (wordB t = false ∧ NameP t ∧ v = tokV 2 t 0 0 0 ∧ n = t.size) ∨ (wordB t = false ∧ ¬ NameP t ∧ v = tokV 0 ⟨#[]⟩ 0 0 0 ∧ n = 0)

set_option maxHeartbeats 4000000 in
set_option maxRecDepth 100000 in
theorem lword_any (s : ByteArray) (r : Nat) (w : World) (hs : s.size ≤ 281474976710656) (hr : RunIs okC s r) :
    Calls Tryd.prog 25 #[.string s] w fun e w' => ∃ v n, e = .returned (.tuple #[v, .int .i64 n]) ∧ WordIs (s.extract 0 r) v n ∧ Below w.heap.size w w' := by
  have CS := Lib.hid (fun w => span_further s r w (by omega) hr)
  have hr0 := hr.1
  have hz : (s.extract 0 r).size = r := by simp; omega
  replace hr := Lib.hid hr
  have hu := m1 w (.cells #[.int .i64 0, .string ⟨#[]⟩, .int .i64 0, .int .i64 0, .int .i64 0] 33)
  have hT := Lib.hid (TokZ.made w)
  go_enter Tryd.func25, Tryd.ntmps25
  go_wp2_with fail
  generalize w.alloc (.cells #[.int .i64 0, .string ⟨#[]⟩, .int .i64 0, .int .i64 0, .int .i64 0] 33) = u at *
  refine (CS.out _).mono ?_; rintro e w1 ⟨rfl, rfl⟩
  have r0 : (0 : Int) ≤ (r : Int) := by omega
  have r1 : (r : Int) ≤ (s.size : Int) := by omega
  go_wp2_with fail
  generalize et : s.extract 0 r = t at *
  replace et := Lib.hid et
  clear CS hr r0 r1
  obtain ⟨q, hq⟩ : ∃ q, wordB t = q := ⟨_, rfl⟩
  have CW := word_any t u
  rw [hq] at CW
  refine CW.mono ?_; rintro e w1 ⟨rfl, rfl⟩
  clear CW
  have hts : t.size ≤ 281474976710656 := by omega
  replace hq := Lib.hid hq
  replace hz := Lib.hid hz
  cases q
  · go_wp2_with fail
    refine (name_any t _).mono ?_; rintro e w2 ⟨q, rfl, hq2, hb2⟩
    have hT2 := Lib.hid (hT.out.later hb2)
    have hB2 := mmore hu hb2
    cases q
    · have hN : ¬ NameP t := by simpa using hq2
      replace hN := Lib.hid hN
      obtain ⟨c0, c1, c2, c3, c4, f0, f1, f2, f3, f4⟩ := hT2.out
      have g1 := mblock c0
      clear hq2
      go_wp2_with fail
      obtain ⟨q0, q1, q2, q3, q4⟩ := five_cells (.int .i64 0) (.string ⟨#[]⟩) (.int .i64 0) (.int .i64 0) (.int .i64 0) c0 c1 c2 c3 c4
      have B2 := ((((hB2.setCell (p := ⟨w.heap.size, 0, none⟩) (Nat.le_refl _) (.int .i64 0)).setCell (p := ⟨w.heap.size, 1, none⟩) (Nat.le_refl _) (.string ⟨#[]⟩)).setCell (p := ⟨w.heap.size, 2, none⟩) (Nat.le_refl _) (.int .i64 0)).setCell (p := ⟨w.heap.size, 3, none⟩) (Nat.le_refl _) (.int .i64 0)).setCell (p := ⟨w.heap.size, 4, none⟩) (Nat.le_refl _) (.int .i64 0)
      clear c0 c1 c2 c3 c4 f0 f1 f2 f3 f4
      generalize ((((w2.setCell ⟨w.heap.size, 0, none⟩ (.int .i64 0)).setCell ⟨w.heap.size, 1, none⟩ (.string ⟨#[]⟩)).setCell ⟨w.heap.size, 2, none⟩ (.int .i64 0)).setCell ⟨w.heap.size, 3, none⟩ (.int .i64 0)).setCell ⟨w.heap.size, 4, none⟩ (.int .i64 0) = wz at *
      exact bodyPost_ret (v := .tuple #[.agg #[(.int .i64 0), (.string ⟨#[]⟩), .int .i64 0, .int .i64 0, .int .i64 0], .int .i64 0]) (by simp [results, Tryd.results25, go_sem, q0, q1, q2, q3, q4]) rfl ⟨_, _, rfl, (by rw [et.out]; exact .inr (.inr ⟨hq.out, hN.out, rfl, rfl⟩)), B2⟩
    · have hN : NameP t := by simpa using hq2
      replace hN := Lib.hid hN
      clear hq2
      go_wp2_with fail
      refine (spoken_any 2 t _ hts).mono ?_; rintro e w3 ⟨rfl, hb3⟩
      have hT3 := Lib.hid (hT2.out.later hb3)
      have hB3 := mmore hB2 hb3
      obtain ⟨c0, c1, c2, c3, c4, f0, f1, f2, f3, f4⟩ := hT3.out
      have g1 := mblock c0
      unfold tokV
      go_wp2_with fail
      obtain ⟨q0, q1, q2, q3, q4⟩ := five_cells (.int .i64 2) (.string t) (.int .i64 0) (.int .i64 0) (.int .i64 0) c0 c1 c2 c3 c4
      have B2 := ((((hB3.setCell (p := ⟨w.heap.size, 0, none⟩) (Nat.le_refl _) (.int .i64 2)).setCell (p := ⟨w.heap.size, 1, none⟩) (Nat.le_refl _) (.string t)).setCell (p := ⟨w.heap.size, 2, none⟩) (Nat.le_refl _) (.int .i64 0)).setCell (p := ⟨w.heap.size, 3, none⟩) (Nat.le_refl _) (.int .i64 0)).setCell (p := ⟨w.heap.size, 4, none⟩) (Nat.le_refl _) (.int .i64 0)
      clear c0 c1 c2 c3 c4 f0 f1 f2 f3 f4
      generalize ((((w3.setCell ⟨w.heap.size, 0, none⟩ (.int .i64 2)).setCell ⟨w.heap.size, 1, none⟩ (.string t)).setCell ⟨w.heap.size, 2, none⟩ (.int .i64 0)).setCell ⟨w.heap.size, 3, none⟩ (.int .i64 0)).setCell ⟨w.heap.size, 4, none⟩ (.int .i64 0) = wz at *
      exact bodyPost_ret (v := .tuple #[.agg #[(.int .i64 2), (.string t), .int .i64 0, .int .i64 0, .int .i64 0], .int .i64 (t.size : Int)]) (by simp [results, Tryd.results25, go_sem, q0, q1, q2, q3, q4]) rfl ⟨_, _, rfl, (by rw [et.out]; exact .inr (.inl ⟨hq.out, hN.out, rfl, rfl⟩)), B2⟩
  · go_wp2_with fail
    refine (spoken_any 1 t _ hts).mono ?_; rintro e w3 ⟨rfl, hb3⟩
    have hT3 := Lib.hid (hT.out.later hb3)
    have hB3 := mmore hu hb3
    obtain ⟨c0, c1, c2, c3, c4, f0, f1, f2, f3, f4⟩ := hT3.out
    have g1 := mblock c0
    unfold tokV
    go_wp2_with fail
    obtain ⟨q0, q1, q2, q3, q4⟩ := five_cells (.int .i64 1) (.string t) (.int .i64 0) (.int .i64 0) (.int .i64 0) c0 c1 c2 c3 c4
    have B2 := ((((hB3.setCell (p := ⟨w.heap.size, 0, none⟩) (Nat.le_refl _) (.int .i64 1)).setCell (p := ⟨w.heap.size, 1, none⟩) (Nat.le_refl _) (.string t)).setCell (p := ⟨w.heap.size, 2, none⟩) (Nat.le_refl _) (.int .i64 0)).setCell (p := ⟨w.heap.size, 3, none⟩) (Nat.le_refl _) (.int .i64 0)).setCell (p := ⟨w.heap.size, 4, none⟩) (Nat.le_refl _) (.int .i64 0)
    clear c0 c1 c2 c3 c4 f0 f1 f2 f3 f4
    generalize ((((w3.setCell ⟨w.heap.size, 0, none⟩ (.int .i64 1)).setCell ⟨w.heap.size, 1, none⟩ (.string t)).setCell ⟨w.heap.size, 2, none⟩ (.int .i64 0)).setCell ⟨w.heap.size, 3, none⟩ (.int .i64 0)).setCell ⟨w.heap.size, 4, none⟩ (.int .i64 0) = wz at *
    exact bodyPost_ret (v := .tuple #[.agg #[(.int .i64 1), (.string t), .int .i64 0, .int .i64 0, .int .i64 0], .int .i64 (t.size : Int)]) (by simp [results, Tryd.results25, go_sem, q0, q1, q2, q3, q4]) rfl ⟨_, _, rfl, (by rw [et.out]; exact .inl ⟨hq.out, rfl, rfl⟩), B2⟩
end Go.Proofs.YteojcohmocbakaaDoor
