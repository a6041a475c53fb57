/- A literal list of one value or two reads as such. -/
import Derived.Test.YtfjnphiegoogoaaDo
namespace Go.Proofs.Ytfjnphiegoogoaa
open Go.ChangeShapes Go.WideShapes Go.ChangeAt Go.RowKit Go.Fl

/-- the operands lie where a literal list was made -/
theorem row_two {w : World} {g : Nat} {k1 k2 : Int} {b1 b2 : Nat} (h1 : b1 < 18446744073709551616) (h2 : b2 < 18446744073709551616)
    (c0 : w.cell? ⟨g, 0, none⟩ = some (.int .i64 k1)) (c1 : w.cell? ⟨g, 1, none⟩ = some (.int .u64 (b1 : Int))) (c2 : w.cell? ⟨g, 2, none⟩ = some (.int .i64 k2)) (c3 : w.cell? ⟨g, 3, none⟩ = some (.int .u64 (b2 : Int))) :
    RowV w (some ⟨g, 0, none⟩) 2 [(k1, b1), (k2, b2)] := by
  refine ⟨rfl, by simp; exact ⟨h1, h2⟩, fun _ => ⟨g, 0, rfl, fun i k c h => ?_⟩⟩
  match i, h with
  | 0, h => simp at h; obtain ⟨rfl, rfl⟩ := h; exact ⟨c0, c1⟩
  | 1, h => simp at h; obtain ⟨rfl, rfl⟩ := h; exact ⟨c2, c3⟩
theorem row_one {w : World} {g : Nat} {k1 : Int} {b1 : Nat} (h1 : b1 < 18446744073709551616)
    (c0 : w.cell? ⟨g, 0, none⟩ = some (.int .i64 k1)) (c1 : w.cell? ⟨g, 1, none⟩ = some (.int .u64 (b1 : Int))) :
    RowV w (some ⟨g, 0, none⟩) 1 [(k1, b1)] := by
  refine ⟨rfl, by simp; exact h1, fun _ => ⟨g, 0, rfl, fun i k c h => ?_⟩⟩
  match i, h with
  | 0, h => simp at h; obtain ⟨rfl, rfl⟩ := h; exact ⟨c0, c1⟩

end Go.Proofs.Ytfjnphiegoogoaa
