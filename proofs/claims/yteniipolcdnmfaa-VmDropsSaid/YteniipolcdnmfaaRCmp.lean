/- What 'compare' answers in the document's package, as a contract. -/
import Derived.Test.YteniipolcdnmfaaRWholeB
import Derived.Test.YteniipolcdnmfaaValC
import Derived.Test.YteniipolcdnmfaaKinds
namespace Go.Proofs.Yteniipolcdnmfaa
open Go.ChangeShapes Go.WideShapes Go.ChangeAt Go.RowKit Go.Fl
set_option linter.unusedVariables false
set_option linter.unusedSimpArgs false

theorem TwoR.drewn {w0 w : World} {k : Int} {b : Nat} {l : Int} {c : Nat} (h : TwoR w0 k b l c w) (n : Nat) : TwoR w0 k b l c (w.drewN n) := by
  obtain ⟨h0, h1, h2, h3, h4, h5, h6, h7, h8⟩ := h
  exact ⟨h0, h1, h2, h3, h4, h5, h6, h7, below_drewN h8 n⟩

/-- two values of one kind that are no reals, as the document orders them -/
theorem vord_whole (k : Int) (b c : Nat) (hk : k ≠ 4) (h1 : isClean (k, b)) (h2 : isClean (k, c)) : decide (vordP k b k c < 0) = ltV k b c := by
  rw [vordP_doc]
  unfold isClean at h1 h2
  simp only at h1 h2
  rw [h1.1, h2.1, h1.2, h2.2, if_neg (by omega), if_pos rfl]
  unfold ltV
  rw [if_neg hk]
  unfold cmpP
  (repeat' split) <;> simp <;> omega

end Go.Proofs.Yteniipolcdnmfaa
