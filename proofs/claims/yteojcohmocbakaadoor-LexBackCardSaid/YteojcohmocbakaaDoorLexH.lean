/- Rows of tokens that are alike (same), as contracts; the document's scan as the laws read it. -/
import Derived.Test.YteojcohmocbakaaDoorLexV
namespace Go.Proofs.YteojcohmocbakaaDoor
open Go.ChangeShapes Go.WideShapes Go.ChangeAt Go.RowKit
set_option linter.unusedVariables false
set_option linter.unusedSimpArgs false

theorem same_nil (w : World) :
    Calls Tryd.prog 11 #[.slice none 0 0, .slice none 0 0] w fun e w' => e = .returned (.bool true) ∧ w = w' := by
  go_enter Tryd.func11, Tryd.ntmps11
  go_wp2_with fail
  go_loopw [14] (fun i wr => i = .int .i64 0 ∧ w = wr) (fun _ _ => 0)
  case atStart => exact ⟨rfl, rfl⟩
  case round =>
    obtain ⟨rfl, rfl⟩ := hrel
    go_wp2_with fail
    go_ret
    exact ⟨rfl, rfl⟩
set_option maxHeartbeats 8000000 in
set_option maxRecDepth 100000 in
theorem same_F (w : World) (v v2 : Value) (L : List (Tok × Nat)) (h : TokAt w v L) (h2 : TokAt w v2 L) :
    Calls Tryd.prog 11 #[v, v2] w fun e w' => e = .returned (.bool true) ∧ Below w.heap.size w w' := by
  obtain ⟨g, cap, rfl, k1, k2, k3, k4⟩ := h
  obtain ⟨g2, cap2, rfl, l1, l2, l3, l4⟩ := h2
  replace k4 := Lib.hid k4
  replace l4 := Lib.hid l4
  go_enter Tryd.func11, Tryd.ntmps11
  go_wp2_with fail
  go_loopw [14] (fun i wr => ∃ k : Nat, k ≤ L.length ∧ i = .int .i64 (k : Int) ∧ Below w.heap.size w wr) (fun i _ => L.length - (intOf i).toNat)
  case atStart => exact ⟨0, Nat.zero_le _, rfl, Below.refl _ _⟩
  case round =>
    obtain ⟨k, hk, rfl, hB⟩ := hrel
    by_cases hlt : k < L.length
    · have hp : L[k]? = some L[k] := List.getElem?_eq_getElem hlt
      obtain ⟨a0, a1, a2, a3, a4⟩ := k4.out k _ hp
      obtain ⟨b0, b1, b2, b3, b4⟩ := l4.out k _ hp
      generalize L[k] = p at *
      obtain ⟨⟨kd, t, n, sc⟩, at_⟩ := p
      simp only at a0 a1 a2 a3 a4 b0 b1 b2 b3 b4
      have hz : (k : Int) < (L.length : Int) := by omega
      have hz0 : (0 : Int) ≤ (k : Int) := by omega
      have hcap : cap ≤ 9223372036854775807 := by unfold maxLen at k2; omega
      have a0 := cell_later hB a0
      have a1 := cell_later hB a1
      have a2 := cell_later hB a2
      have a3 := cell_later hB a3
      have a4 := cell_later hB a4
      have g1 := mblock a0
      clear hp
      generalize ba t = t at *
      go_upto_region 6 with (fail)
      have hu := m1 wr (.cells #[.int .i64 kd, .string t, .int .i64 n, .int .i64 sc, .int .i64 (at_ : Int)] 33)
      have hB2 := mmore hB hu
      have b0 := cell_later hB2 b0
      have b1 := cell_later hB2 b1
      have b2 := cell_later hB2 b2
      have b3 := cell_later hB2 b3
      have b4 := cell_later hB2 b4
      have g2' := mblock b0
      have c0 : (wr.alloc (.cells #[.int .i64 kd, .string t, .int .i64 n, .int .i64 sc, .int .i64 (at_ : Int)] 33)).cell? ⟨wr.heap.size, 0, none⟩ = some (.int .i64 kd) := by simp [go_sem]
      have c1 : (wr.alloc (.cells #[.int .i64 kd, .string t, .int .i64 n, .int .i64 sc, .int .i64 (at_ : Int)] 33)).cell? ⟨wr.heap.size, 1, none⟩ = some (.string t) := by simp [go_sem]
      have c2 : (wr.alloc (.cells #[.int .i64 kd, .string t, .int .i64 n, .int .i64 sc, .int .i64 (at_ : Int)] 33)).cell? ⟨wr.heap.size, 2, none⟩ = some (.int .i64 n) := by simp [go_sem]
      have c3 : (wr.alloc (.cells #[.int .i64 kd, .string t, .int .i64 n, .int .i64 sc, .int .i64 (at_ : Int)] 33)).cell? ⟨wr.heap.size, 3, none⟩ = some (.int .i64 sc) := by simp [go_sem]
      have c4 : (wr.alloc (.cells #[.int .i64 kd, .string t, .int .i64 n, .int .i64 sc, .int .i64 (at_ : Int)] 33)).cell? ⟨wr.heap.size, 4, none⟩ = some (.int .i64 (at_ : Int)) := by simp [go_sem]
      have hne : ∀ w, (binOp .neq 36 (.agg #[.int .i64 kd, .string t, .int .i64 n, .int .i64 sc, .int .i64 (at_ : Int)]) (.agg #[.int .i64 kd, .string t, .int .i64 n, .int .i64 sc, .int .i64 (at_ : Int)])).run Tryd.prog w = .ok (.bool false) w := fun w => by simp [go_sem]
      generalize wr.alloc (.cells #[.int .i64 kd, .string t, .int .i64 n, .int .i64 sc, .int .i64 (at_ : Int)] 33) = u at *
      generalize wr.heap.size = q at *
      clear a0 a1 a2 a3 a4 hB hu g1
      go_quiet (fail)
      have hB3 := Go.below_drewN hB2 nq
      clear hB2 b0 b1 b2 b3 b4 c0 c1 c2 c3 c4
      generalize u.drewN nq = u2 at *
      go_wp2_with fail
      go_roundw
      case rel => exact ⟨k + 1, by omega, by go_num, hB3⟩
      case measure => simp [intOf]; omega
    · obtain rfl : k = L.length := by omega
      go_wp2_with fail
      go_ret
      exact ⟨rfl, hB⟩
theorem tok_at5 {w : World} {base : Nat} {v : Value} {L : List (Tok × Nat)} (h : w.ownsRow base 36 5 v L.length (tcells L)) (h0 : 0 < L.length) : TokAt w v L := by
  rcases h.2 with ⟨rfl, h1⟩ | ⟨g, cap, cur, rfl, _, hgb, hnc, hcm, _⟩
  · omega
  · have hc := h.cells (g := g) rfl
    refine ⟨g, cap, rfl, hnc, hcm, (h.lt g rfl).2, fun i p hi => ?_⟩
    obtain ⟨a0, a1, a2, a3, a4⟩ := tcells_at L i p hi
    rw [← addr_adds g (i * 5), ← addr_adds g (i * 5 + 1), ← addr_adds g (i * 5 + 2), ← addr_adds g (i * 5 + 3), ← addr_adds g (i * 5 + 4)]
    exact ⟨hc _ _ a0, hc _ _ a1, hc _ _ a2, hc _ _ a3, hc _ _ a4⟩

theorem rscan_ok (s : ByteArray) (T : List (Tok × Nat)) (p : Nat) (w : World) (hs : s.size ≤ 4000) (hR : ScanR 0 s.data.toList T (true, p)) :
    Calls Tryd.prog 9 #[.string s] w fun en w' => ∃ g cap, en = .returned (.tuple #[.slice (some ⟨g, 0, none⟩) (T.length + 1) cap, .int .i64 0, .int .i64 0]) ∧ TokAt w' (.slice (some ⟨g, 0, none⟩) (T.length + 1) cap) (T ++ [(⟨0, [], 0, 0⟩, s.size)]) ∧ Below w.heap.size w w' := by
  refine (rscan_F s T (true, p) w hs hR).mono ?_
  rintro en w' ⟨⟨_, v, rfl, h⟩ | ⟨h, _⟩, hb⟩
  · have h2 : w'.ownsRow w.heap.size 36 5 v (T ++ [((⟨0, [], 0, 0⟩ : Tok), s.size)]).length (tcells (T ++ [(⟨0, [], 0, 0⟩, s.size)])) := by rw [List.length_append]; exact h
    have hT := tok_at5 h2 (by simp)
    obtain ⟨g, cap, rfl, _⟩ := id hT
    rw [List.length_append] at hT
    exact ⟨g, cap, by simp, hT, hb⟩
  · cases h
theorem rscan_bad (s : ByteArray) (T : List (Tok × Nat)) (p : Nat) (w : World) (hs : s.size ≤ 4000) (hR : ScanR 0 s.data.toList T (false, p)) :
    Calls Tryd.prog 9 #[.string s] w fun en w' => en = .returned (.tuple #[.slice none 0 0, .int .i64 (p : Int), .int .i64 12]) ∧ Below w.heap.size w w' := by
  refine (rscan_F s T (false, p) w hs hR).mono ?_
  rintro en w' ⟨⟨h, _⟩ | ⟨_, h⟩, hb⟩
  · cases h
  · exact ⟨h, hb⟩
end Go.Proofs.YteojcohmocbakaaDoor
