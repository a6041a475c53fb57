/- What AND and OR are in the document's package, as a contract. -/
import Derived.Test.YteniipolcdnmfaaInvV
import Derived.Test.YteniipolcdnmfaaUna
namespace Go.Proofs.Yteniipolcdnmfaa
open Go.ChangeShapes Go.WideShapes Go.ChangeAt Go.RowKit Go.Fl

/-- both operands and the answer's place, of the document's values -/
def TwoR (w0 : World) (k : Int) (b : Nat) (l : Int) (c : Nat) (w' : World) : Prop :=
  w'.cell? ⟨w0.heap.size, 0, none⟩ = some (.int .i64 k) ∧ w'.cell? ⟨w0.heap.size, 1, none⟩ = some (.int .u64 (b : Int)) ∧ w'.cell? ⟨w0.heap.size + 1, 0, none⟩ = some (.int .i64 l) ∧ w'.cell? ⟨w0.heap.size + 1, 1, none⟩ = some (.int .u64 (c : Int)) ∧
  w'.cell? ⟨w0.heap.size + 1 + 1, 0, none⟩ = some (.int .i64 0) ∧ w'.cell? ⟨w0.heap.size + 1 + 1, 1, none⟩ = some (.int .u64 0) ∧ w'.frozen? ⟨w0.heap.size + 1 + 1, 0, none⟩ = false ∧ w'.frozen? ⟨w0.heap.size + 1 + 1, 1, none⟩ = false ∧ Below w0.heap.size w0 w'
theorem TwoR.later {w0 w w1 : World} {k : Int} {b : Nat} {l : Int} {c : Nat} (h : TwoR w0 k b l c w) (hb : Below w.heap.size w w1) : TwoR w0 k b l c w1 := by
  obtain ⟨h0, h1, h2, h3, h4, h5, h6, h7, h8⟩ := h
  have hg := block_of_cell h4
  exact ⟨cell_later hb h0, cell_later hb h1, cell_later hb h2, cell_later hb h3, cell_later hb h4, cell_later hb h5, (hb.frozen (p := ⟨w0.heap.size + 1 + 1, 0, none⟩) hg).trans h6, (hb.frozen (p := ⟨w0.heap.size + 1 + 1, 1, none⟩) hg).trans h7, below_more h8 hb⟩
theorem TwoR.start (k : Int) (b : Nat) (l : Int) (c : Nat) (w : World) : TwoR w k b l c (((w.alloc (.cells #[.int .i64 k, .int .u64 (b : Int)] 36)).alloc (.cells #[.int .i64 l, .int .u64 (c : Int)] 36)).alloc (.cells #[.int .i64 0, .int .u64 0] 36)) :=
  ⟨by simp [go_sem], by simp [go_sem], by simp [go_sem], by simp [go_sem], by simp [go_sem], by simp [go_sem], by simp [go_sem], by simp [go_sem], below3 _ _ _ _⟩
end Go.Proofs.Yteniipolcdnmfaa
