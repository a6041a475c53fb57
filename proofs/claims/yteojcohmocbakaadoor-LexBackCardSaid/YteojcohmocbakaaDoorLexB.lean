/- Texts of one byte, and what a scan of any text tells (for the laws). -/
import Derived.Test.YteojcohmocbakaaDoorLexA
import Derived.Laws.BytesArg
namespace Go.Proofs.YteojcohmocbakaaDoor
open Go.ChangeShapes Go.WideShapes Go.ChangeAt Go.RowKit
set_option linter.unusedVariables false
set_option linter.unusedSimpArgs false

theorem digit_text (w : World) (n : Nat) (hn : n < 256) : (convert 37 9 (.slice (some ⟨w.heap.size, 0, none⟩) 1 1)).run Tryd.prog (w.alloc (.cells #[.int .u8 (n : Int)] 5)) = .ok (.string ⟨#[UInt8.ofNat n]⟩) (w.alloc (.cells #[.int .u8 (n : Int)] 5)) := by
  have h := run_convert_bytes_arg (P := Tryd.prog) (w.alloc (.cells #[.int .u8 (n : Int)] 5)) 37 5 Tryd.underlying37 Tryd.underlying5 w.heap.size 0 1 1 [(n : Int)] rfl (fun i hi => by
    obtain rfl : i = 0 := by omega
    simp [go_sem]) 9 Tryd.underlying9
  rw [h]
  rfl
theorem byte_nat {a : Int} (h : (Lit.int .u8 a).wf = true) : ∃ n : Nat, a = (n : Int) ∧ n < 256 := by
  simp [Lit.wf, IntKind.min, IntKind.max, IntKind.signed, IntKind.bits] at h
  exact ⟨a.toNat, by omega, by omega⟩
/-- a scan that ends well, as the laws read it -/
theorem scan_ok (s : ByteArray) (T : List (Tok × Nat)) (p : Nat) (w : World) (hs : s.size ≤ 4000) (hR : ScanR 0 s.data.toList T (true, p)) (hE : ErrCell w) :
    Calls Tryd.prog 8 #[.string s] w fun en w' => ∃ g cap, en = .returned (.tuple #[.slice (some ⟨g, 0, none⟩) (T.length + 1) cap, .int .i64 0, .int .i64 0]) ∧ TokAt w' (.slice (some ⟨g, 0, none⟩) (T.length + 1) cap) (T ++ [(⟨0, [], 0, 0⟩, s.size)]) ∧ Below w.heap.size w w' := by
  refine (scan_F s T (true, p) w hs hR hE).mono ?_
  rintro en w' ⟨⟨_, v, rfl, h⟩ | ⟨h, _⟩, hb⟩
  · have h2 : w'.ownsRow w.heap.size 33 5 v (T ++ [((⟨0, [], 0, 0⟩ : Tok), s.size)]).length (tcells (T ++ [(⟨0, [], 0, 0⟩, s.size)])) := by rw [List.length_append]; exact h
    have hT := tok_at h2 (by simp)
    obtain ⟨g, cap, rfl, _⟩ := id hT
    rw [List.length_append] at hT
    exact ⟨g, cap, by simp, hT, hb⟩
  · cases h
theorem scan_bad (s : ByteArray) (T : List (Tok × Nat)) (p : Nat) (w : World) (hs : s.size ≤ 4000) (hR : ScanR 0 s.data.toList T (false, p)) (hE : ErrCell w) :
    Calls Tryd.prog 8 #[.string s] w fun en w' => en = .returned (.tuple #[.slice none 0 0, .int .i64 (p : Int), .int .i64 12]) ∧ Below w.heap.size w w' := by
  refine (scan_F s T (false, p) w hs hR hE).mono ?_
  rintro en w' ⟨⟨h, _⟩ | ⟨_, h⟩, hb⟩
  · cases h
  · exact ⟨h, hb⟩
end Go.Proofs.YteojcohmocbakaaDoor
