/- The chapter's example of tokens (awake), as a contract; what a row of tokens holds. -/
import Derived.Test.YteojcohmocbakaaDoorLexC
namespace Go.Proofs.YteojcohmocbakaaDoor
open Go.ChangeShapes Go.WideShapes Go.ChangeAt Go.RowKit
set_option linter.unusedVariables false
set_option linter.unusedSimpArgs false

theorem addr_adds (g j : Nat) : (⟨g, 0, none⟩ : Addr).add j = (⟨g, j, none⟩ : Addr) := by unfold Addr.add; split <;> simp_all
/-- tokens lie there, one behind the other -/
def TokAt (w : World) (v : Value) (L : List (Tok × Nat)) : Prop := ∃ g cap, v = .slice (some ⟨g, 0, none⟩) L.length cap ∧ L.length ≤ cap ∧ cap ≤ maxLen ∧ g < w.heap.size ∧
  ∀ (i : Nat) (p : Tok × Nat), L[i]? = some p → w.cell? ⟨g, i * 5, none⟩ = some (.int .i64 p.1.kind) ∧ w.cell? ⟨g, i * 5 + 1, none⟩ = some (.string (ba p.1.text)) ∧ w.cell? ⟨g, i * 5 + 2, none⟩ = some (.int .i64 p.1.n) ∧ w.cell? ⟨g, i * 5 + 3, none⟩ = some (.int .i64 p.1.scale) ∧ w.cell? ⟨g, i * 5 + 4, none⟩ = some (.int .i64 (p.2 : Int))
theorem TokAt.later {w w1 : World} {v : Value} {L : List (Tok × Nat)} (h : TokAt w v L) (hb : Below w.heap.size w w1) : TokAt w1 v L := by
  obtain ⟨g, cap, e, h1, h2, h3, h4⟩ := h
  refine ⟨g, cap, e, h1, h2, Nat.lt_of_lt_of_le h3 hb.size, fun i p hi => ?_⟩
  obtain ⟨a0, a1, a2, a3, a4⟩ := h4 i p hi
  exact ⟨cell_later hb a0, cell_later hb a1, cell_later hb a2, cell_later hb a3, cell_later hb a4⟩
theorem tcells_at : ∀ (L : List (Tok × Nat)) (i : Nat) (p : Tok × Nat), L[i]? = some p → (tcells L)[i * 5]? = some (.int .i64 p.1.kind) ∧ (tcells L)[i * 5 + 1]? = some (.string (ba p.1.text)) ∧ (tcells L)[i * 5 + 2]? = some (.int .i64 p.1.n) ∧ (tcells L)[i * 5 + 3]? = some (.int .i64 p.1.scale) ∧ (tcells L)[i * 5 + 4]? = some (.int .i64 (p.2 : Int))
  | [], i, p, h => by simp at h
  | q :: L, 0, p, h => by
    simp at h
    subst h
    simp [tcells]
  | q :: L, i + 1, p, h => by
    have h2 : L[i]? = some p := by simpa using h
    have := tcells_at L i p h2
    have e : tcells (q :: L) = [.int .i64 q.1.kind, .string (ba q.1.text), .int .i64 q.1.n, .int .i64 q.1.scale, .int .i64 (q.2 : Int)] ++ tcells L := by simp [tcells]
    rw [e]
    have sh : ∀ j, ([.int .i64 q.1.kind, .string (ba q.1.text), .int .i64 q.1.n, .int .i64 q.1.scale, .int .i64 (q.2 : Int)] ++ tcells L)[(i + 1) * 5 + j]? = (tcells L)[i * 5 + j]? := by
      intro j
      rw [List.getElem?_append_right (by simp; omega)]
      congr 1
      simp
      omega
    exact ⟨(sh 0).trans this.1, (sh 1).trans this.2.1, (sh 2).trans this.2.2.1, (sh 3).trans this.2.2.2.1, (sh 4).trans this.2.2.2.2⟩
theorem tok_at {w : World} {base : Nat} {v : Value} {L : List (Tok × Nat)} (h : w.ownsRow base 33 5 v L.length (tcells L)) (h0 : 0 < L.length) : TokAt w v L := by
  rcases h.2 with ⟨rfl, h1⟩ | ⟨g, cap, cur, rfl, _, hgb, hnc, hcm, _⟩
  · omega
  · have hc := h.cells (g := g) rfl
    refine ⟨g, cap, rfl, hnc, hcm, (h.lt g rfl).2, fun i p hi => ?_⟩
    obtain ⟨a0, a1, a2, a3, a4⟩ := tcells_at L i p hi
    rw [← addr_adds g (i * 5), ← addr_adds g (i * 5 + 1), ← addr_adds g (i * 5 + 2), ← addr_adds g (i * 5 + 3), ← addr_adds g (i * 5 + 4)]
    exact ⟨hc _ _ a0, hc _ _ a1, hc _ _ a2, hc _ _ a3, hc _ _ a4⟩

theorem name_a : NameP (ba [97]) := by
  refine ⟨by decide, by decide, fun h => by rfl, fun i h => ?_, ?_⟩
  · have : i = 0 := by have : (ba [97]).size = 1 := rfl; omega
    subst this
    rfl
  · simp [wordB, wordL, ByteArray.toList_eq, ba]
def litA : List UInt8 := [97, 60, 61, 49, 46, 53, 48]
def litT : List (Tok × Nat) := [(⟨2, [97], 0, 0⟩, 0), (⟨6, [60, 61], 0, 0⟩, 1), (⟨4, [], 150, 2⟩, 3)]
theorem first_a (r : List UInt8) (h : runL okC (97 :: r) = [97]) : firstF (97 :: r) = (⟨2, [97], 0, 0⟩, 1) := by
  rw [firstF_cons, if_pos (by decide)]
  unfold wordF
  rw [h, if_neg, if_pos name_a]
  · rfl
  · have := name_a.2.2.2.2
    rw [this]
    simp
theorem lit_scan : ScanR 0 litA litT (true, 7) := by
  have f1 : firstF [97, 60, 61, 49, 46, 53, 48] = (⟨2, [97], 0, 0⟩, 1) := first_a _ (by decide)
  have f2 : firstF [60, 61, 49, 46, 53, 48] = (⟨6, [60, 61], 0, 0⟩, 2) := by
    rw [firstF_cons, if_neg (by decide), if_neg (by decide), if_neg (by decide)]
    rfl
  have f3 : firstF [49, 46, 53, 48] = (⟨4, [], 150, 2⟩, 4) := by
    rw [firstF_cons, if_neg (by decide), if_pos (by decide)]
    rfl
  have s4 : ScanR 7 [] [] (true, 7) := .fin 7
  have s3 : ScanR 3 [49, 46, 53, 48] [(⟨4, [], 150, 2⟩, 3)] (true, 7) := by
    have := ScanR.tok 3 49 [46, 53, 48] [] (true, 7) (by decide) (by rw [f3]; decide) (by rw [f3]; exact s4)
    rw [f3] at this
    exact this
  have s2 : ScanR 1 [60, 61, 49, 46, 53, 48] [(⟨6, [60, 61], 0, 0⟩, 1), (⟨4, [], 150, 2⟩, 3)] (true, 7) := by
    have := ScanR.tok 1 60 [61, 49, 46, 53, 48] _ (true, 7) (by decide) (by rw [f2]; decide) (by rw [f2]; exact s3)
    rw [f2] at this
    exact this
  have := ScanR.tok 0 97 [60, 61, 49, 46, 53, 48] _ (true, 7) (by decide) (by rw [f1]; decide) (by rw [f1]; exact s2)
  rw [f1] at this
  exact this
set_option maxHeartbeats 8000000 in
set_option maxRecDepth 100000 in
theorem awake5 (w : World) (hE : ErrCell w) :
    Calls Tryd.prog 10 #[] w fun e w' => e = .returned (.bool true) ∧ Below w.heap.size w w' := by
  have CS : Calls Tryd.prog 8 #[.string ⟨#[97, 60, 61, 49, 46, 53, 48]⟩] w fun en w' => ∃ g cap, en = .returned (.tuple #[.slice (some ⟨g, 0, none⟩) 4 cap, .int .i64 0, .int .i64 0]) ∧ 4 ≤ cap ∧ cap ≤ maxLen ∧ w'.cell? ⟨g, 6, none⟩ = some (.string ⟨#[60, 61]⟩) ∧ w'.cell? ⟨g, 12, none⟩ = some (.int .i64 150) ∧ w'.cell? ⟨g, 13, none⟩ = some (.int .i64 2) ∧ w'.cell? ⟨g, 19, none⟩ = some (.int .i64 7) ∧ Below w.heap.size w w' := by
    refine (scan_F _ litT (true, 7) w (by decide) lit_scan hE).mono ?_
    rintro en w' ⟨⟨_, v, rfl, h⟩ | ⟨h, _⟩, hb⟩
    · obtain ⟨g, cap, rfl, h1, h2, h3, h4⟩ := tok_at h (by simp)
      exact ⟨g, cap, rfl, h1, h2, (h4 1 _ rfl).2.1, (h4 2 _ rfl).2.2.1, (h4 2 _ rfl).2.2.2.1, (h4 3 _ rfl).2.2.2.2, hb⟩
    · cases h
  replace CS := Lib.hid CS
  go_enter Tryd.func10, Tryd.ntmps10
  go_wp2_with (go_at_call 8; refine CS.out.mono ?_; rintro e w1 ⟨g, cap, rfl, k1, k2, c6, c12, c13, c19, hb⟩)
  go_ret
  exact ⟨rfl, hb⟩
end Go.Proofs.YteojcohmocbakaaDoor
