/- What 'do' and 'awake' answer, as contracts. -/
import Derived.Test.YtfjnphiegoogoaaApp
namespace Go.Proofs.Ytfjnphiegoogoaa
open Go.ChangeShapes Go.WideShapes Go.ChangeAt Go.RowKit Go.Fl

theorem cellsV_at (vs : List (Int × Nat)) : ∀ (i : Nat) (k : Int) (c : Nat), vs[i]? = some (k, c) → (cellsV vs)[i * 2]? = some (.int .i64 k) ∧ (cellsV vs)[i * 2 + 1]? = some (.int .u64 (c : Int)) := by
  induction vs with
  | nil => intro i k c h; simp at h
  | cons v vs ih =>
    intro i k c h
    cases i with
    | zero => simp at h; subst h; exact ⟨rfl, rfl⟩
    | succ i =>
      have := ih i k c (by simpa using h)
      rw [show (i + 1) * 2 = i * 2 + 2 by omega]
      exact this

theorem own_row {w : World} {base : Nat} {e : TypeId} {v : Value} {vs : List (Int × Nat)} (h : w.ownsRow base e 2 v vs.length (cellsV vs)) (hb : ∀ v ∈ vs, v.2 < 18446744073709551616) :
    ∃ A cap, v = .slice A vs.length cap ∧ RowV w A vs.length vs := by
  by_cases z : vs.length = 0
  · have hnil : vs = [] := List.eq_nil_of_length_eq_zero z
    subst hnil
    rcases h.2 with ⟨rfl, _⟩ | ⟨g, cap, cur, rfl, _⟩
    · exact ⟨none, 0, rfl, rfl, hb, fun h => absurd h (by simp)⟩
    · exact ⟨some ⟨g, 0, none⟩, cap, rfl, rfl, hb, fun h => absurd h (by simp)⟩
  · obtain ⟨g, cap, rfl, _, _⟩ := h.form (by omega)
    have hc := h.cells (g := g) rfl
    refine ⟨_, cap, rfl, rfl, hb, fun _ => ⟨g, 0, rfl, fun i k c hi => ?_⟩⟩
    have hx := cellsV_at vs i k c hi
    have e0 := hc _ _ hx.1
    have e1 := hc _ _ hx.2
    constructor
    · rw [show (⟨g, 0 + i * 2, none⟩ : Addr) = (⟨g, 0, none⟩ : Addr).add (i * 2) by unfold Addr.add; split <;> simp_all]; exact e0
    · rw [show (⟨g, 0 + i * 2 + 1, none⟩ : Addr) = (⟨g, 0, none⟩ : Addr).add (i * 2 + 1) by unfold Addr.add; split <;> simp_all]; exact e1

end Go.Proofs.Ytfjnphiegoogoaa
