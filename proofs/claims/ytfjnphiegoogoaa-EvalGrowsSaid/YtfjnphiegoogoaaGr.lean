/- What a position has one event more, as plain facts and a walk. -/
import Derived.Test.YtfjnphiegoogoaaLkJ
import Derived.Test.YtfjnphiegoogoaaRes
import Derived.Test.YtfjnphiegoogoaaWords
namespace Go.Proofs.Ytfjnphiegoogoaa
open Go.ChangeShapes Go.WideShapes Go.ChangeAt Go.RowKit Go.Fl
set_option linter.unusedVariables false
set_option linter.unusedSimpArgs false

theorem placesP_one (l : List Int) : placesP [l] 0 = l := rfl
theorem gr_attrs (es : List Ev) (l : List Int) (m a : Int) : attrsP es [l ++ [m]] 0 a = attrsP es [l] 0 a ++ [attrP es m a] := by
  unfold attrsP; rw [placesP_one, placesP_one, List.map_append]; rfl
theorem gr_ag (op : Int) (h : op ≠ 40 ∧ op ≠ 41 ∧ op ≠ 25) (es : List Ev) (l : List Int) (a cur : Int) : leafP op 0 0 0 a es [l] cur = if l = [] then (0, 0) else aggP op (attrsP es [l] 0 a) := by
  unfold leafP
  rw [if_neg h.1, if_neg h.2.1, if_neg h.2.2, placesP_one]
theorem gr_last (es : List Ev) (l : List Int) (m a cur : Int) : leafP 27 0 0 0 a es [l ++ [m]] cur = attrP es m a := by
  rw [gr_ag 27 (by decide), if_neg (by simp)]
  unfold aggP
  rw [if_pos rfl, gr_attrs]
  unfold lastP
  rw [List.getLastD_concat]
theorem gr_first (es : List Ev) (l : List Int) (m a cur cur' : Int) (h : l ≠ []) : leafP 26 0 0 0 a es [l ++ [m]] cur = leafP 26 0 0 0 a es [l] cur' := by
  rw [gr_ag 26 (by decide), gr_ag 26 (by decide), if_neg (by simp), if_neg h]
  show headP _ = headP _
  rw [gr_attrs]
  unfold headP
  have : attrsP es [l] 0 a ≠ [] := by unfold attrsP; rw [placesP_one]; simpa using h
  cases hx : attrsP es [l] 0 a with
  | nil => exact absurd hx this
  | cons x xs => rfl
theorem gr_first1 (es : List Ev) (m a cur : Int) : leafP 26 0 0 0 a es [[m]] cur = attrP es m a := rfl
theorem gr_sum1 (es : List Ev) (m a cur : Int) : leafP 28 0 0 0 a es [[m]] cur = attrP es m a := rfl
theorem gr_none (es : List Ev) (a cur : Int) : leafP 26 0 0 0 a es [[]] cur = (0, 0) := rfl
theorem gr_sum (es : List Ev) (l : List Int) (m a cur cur' : Int) (h : l ≠ []) : leafP 28 0 0 0 a es [l ++ [m]] cur = appP 1 [leafP 28 0 0 0 a es [l] cur', attrP es m a] := by
  rw [gr_ag 28 (by decide), gr_ag 28 (by decide), if_neg (by simp), if_neg h]
  show sumP _ = appP 1 [sumP _, _]
  rw [gr_attrs]
  have : attrsP es [l] 0 a ≠ [] := by unfold attrsP; rw [placesP_one]; simpa using h
  cases hx : attrsP es [l] 0 a with
  | nil => exact absurd hx this
  | cons x xs =>
    show (xs ++ [_]).foldl addP x = _
    rw [List.foldl_append]; rfl
theorem gr_count (es : List Ev) (l : List Int) (a cur : Int) : leafP 25 0 0 0 a es [l] cur = (1, nU (l.length : Int)) := rfl
end Go.Proofs.Ytfjnphiegoogoaa
