/- What Apply makes is clean, and of the kind that Result tells, or poison. -/
import Derived.Test.YtfjnphiegoogoaaUna
import Derived.Test.YtfjnphiegoogoaaRes
namespace Go.Proofs.Ytfjnphiegoogoaa
open Go.ChangeShapes Go.WideShapes Go.ChangeAt Go.RowKit Go.Fl

theorem cn_nanv : cn 9221120237041090560 = 9221120237041090560 := by decide
theorem cn_res (o : Option Nat) : cn (res o) = res o := by
  unfold res; cases o with
  | none => exact cn_nanv
  | some r => exact cn_cn r

/-- a value that counts as itself -/
def isClean (v : Int × Nat) : Prop := clK v.1 v.2 = v.1 ∧ clB v.1 v.2 = v.2
theorem clean_zero : isClean (0, 0) := by unfold isClean; decide
theorem clean_bool (n : Nat) (h : n ≤ 1) : isClean (2, n) := by
  unfold isClean clK clB
  constructor
  · show (if (2 : Int) = 1 ∨ _ then _ else _) = _; rw [if_pos (by omega)]
  · show (if (2 : Int) = 4 then _ else _) = _; rw [if_neg (by omega), if_pos (by omega)]
theorem clean_int (n : Nat) : isClean (1, n) := by
  unfold isClean clK clB
  constructor
  · show (if (1 : Int) = 1 ∨ _ then _ else _) = _; rw [if_pos (by omega)]
  · show (if (1 : Int) = 4 then _ else _) = _; rw [if_neg (by omega), if_pos (by omega)]
theorem clean_real (n : Nat) (h : cn n = n) : isClean (4, n) := by
  unfold isClean clK clB
  constructor
  · show (if (4 : Int) = 1 ∨ _ then _ else _) = _; rw [if_pos (by omega)]
  · show (if (4 : Int) = 4 then _ else _) = _; rw [if_pos rfl, h]
theorem clean_pair (z : Option Int) : isClean (pairI z) := by
  cases z with
  | none => exact clean_zero
  | some z => exact clean_int _
theorem b2n_le (x : Bool) : b2n x ≤ 1 := by cases x <;> decide
theorem ofI_clean (b : Nat) : cn (ofI (wrap64 (b : Int))) = ofI (wrap64 (b : Int)) := cn_ofI _ (by have := w64 b; unfold I64 at this; omega)
theorem ansR_clean (op : Int) (b c : Nat) : cn (ansR op b c) = ansR op b c := by
  unfold ansR; (repeat' split) <;> exact cn_res _

theorem one_clean (op k : Int) (b : Nat) : isClean (appOne op k b) := by
  unfold appOne
  split
  · refine clean_bool _ ?_; split <;> omega
  split
  · exact clean_pair _
  split
  · exact clean_real _ (cn_cn _)
  split
  · exact clean_real _ (ofI_clean b)
  split
  · exact clean_bool _ (b2n_le _)
  · exact clean_zero

theorem bo2_clean (t : Nat) (ht : t ≤ 1) (k : Int) (b : Nat) (l : Int) (c : Nat) (h : k = 2 → b ≤ 1) : isClean (bo2 t k b l c) := by
  unfold bo2
  split
  · exact clean_bool t ht
  split
  · exact clean_zero
  · obtain rfl : k = 2 := by omega
    exact clean_bool b (h rfl)

theorem two_clean (op k : Int) (b : Nat) (l : Int) (c : Nat) (h : k = 2 → b ≤ 1) : isClean (appTwo op k b l c) := by
  unfold appTwo
  split
  · exact bo2_clean 0 (by omega) k b l c h
  split
  · exact bo2_clean 1 (by omega) k b l c h
  split
  · exact clean_zero
  split
  · exact clean_bool _ (b2n_le _)
  split
  · exact clean_pair _
  · exact clean_real _ (ansR_clean op b c)

theorem cl_bool (k : Int) (b : Nat) (h : clK k b = 2) : clB k b ≤ 1 := by
  have := cl_tri k b h
  have h2 := this.2
  rw [this.1]
  unfold tvB
  split <;> omega

theorem app_clean (op : Int) (vs : List (Int × Nat)) : isClean (appP op vs) := by
  unfold appP
  split
  · exact one_clean _ _ _
  · exact two_clean _ _ _ _ _ (cl_bool _ _)
  · exact clean_zero

theorem pair_kind (z : Option Int) : (pairI z).1 = 0 ∨ (pairI z).1 = 1 := by cases z with
  | none => exact .inl rfl
  | some z => exact .inr rfl

theorem one_kind (op k : Int) (b : Nat) : (appOne op k b).1 = 0 ∨ (appOne op k b).1 = r1P op k := by
  unfold appOne
  by_cases c1 : op = 15 ∧ k = 2
  · rw [if_pos c1]; right; obtain ⟨rfl, rfl⟩ := c1; rfl
  rw [if_neg c1]
  by_cases c2 : op = 6 ∧ k = 1
  · rw [if_pos c2]; obtain ⟨rfl, rfl⟩ := c2; exact pair_kind _
  rw [if_neg c2]
  by_cases c3 : op = 6 ∧ k = 4
  · rw [if_pos c3]; right; obtain ⟨rfl, rfl⟩ := c3; rfl
  rw [if_neg c3]
  by_cases c4 : op = 16 ∧ k = 1
  · rw [if_pos c4]; right; obtain ⟨rfl, rfl⟩ := c4; rfl
  rw [if_neg c4]
  by_cases c5 : op = 17 ∧ k = 4
  · rw [if_pos c5]; right; obtain ⟨rfl, rfl⟩ := c5; rfl
  rw [if_neg c5]
  exact .inl rfl

theorem r2P_vals (op k : Int) : r2P op k = 0 ∨ r2P op k = 2 ∨ (r2P op k = 1 ∧ k = 1) ∨ (r2P op k = 4 ∧ k = 4) := by
  unfold r2P
  split
  · omega
  · split <;> omega

theorem two_kind (op k : Int) (b : Nat) (l : Int) (c : Nat) (h13 : op ≠ 13) (h14 : op ≠ 14) : (appTwo op k b l c).1 = 0 ∨ (appTwo op k b l c).1 = (if k = l then r2P op k else 0) := by
  unfold appTwo
  rw [if_neg h13, if_neg h14]
  by_cases c1 : k ≠ l ∨ r2P op k = 0
  · rw [if_pos c1]; exact .inl rfl
  rw [if_neg c1, if_pos (show k = l by omega)]
  have hv := r2P_vals op k
  by_cases c2 : r2P op k = 2
  · rw [if_pos c2]; right; exact c2.symm
  rw [if_neg c2]
  by_cases c3 : k = 1
  · rw [if_pos c3]
    have : r2P op k = 1 := by omega
    rw [this]
    exact pair_kind _
  · rw [if_neg c3]
    right
    have : r2P op k = 4 := by omega
    rw [this]

theorem app_kind (op : Int) (vs : List (Int × Nat)) (h : vs.length = 2 → op ≠ 13 ∧ op ≠ 14) : (appP op vs).1 = 0 ∨ (appP op vs).1 = resP op (vs.map fun v => clK v.1 v.2) := by
  match vs, h with
  | [], _ => exact .inl rfl
  | [a], _ => exact one_kind op _ _
  | [a, b], h => exact two_kind op _ _ _ _ (h rfl).1 (h rfl).2
  | a :: b :: c :: ds, _ => exact .inl rfl

theorem app_logic (op : Int) (vs : List (Int × Nat)) (hl : vs.length = 2) (h : op = 13 ∨ op = 14) : (appP op vs).1 = 0 ∨ (appP op vs).1 = 2 := by
  match vs, hl with
  | [a, b], _ =>
    show (appTwo _ _ _ _ _).1 = 0 ∨ (appTwo _ _ _ _ _).1 = 2
    have hb : ∀ t k b l c, (bo2 t k b l c).1 = 0 ∨ (bo2 t k b l c).1 = 2 := by
      intro t k b l c
      unfold bo2
      split
      · exact .inr rfl
      split
      · exact .inl rfl
      · right; show k = 2; omega
    unfold appTwo
    rcases h with rfl | rfl
    · rw [if_pos rfl]; exact hb _ _ _ _ _
    · rw [if_neg (by decide), if_pos rfl]; exact hb _ _ _ _ _

theorem resF_lt (op : BinOp) (a b : Nat) (w : World) : res (floatBits op .f64 a b) < 18446744073709551616 := by
  rw [← cn_fres op a b w]
  exact cn_lt (fres_lt op a b w)
theorem ansR_lt (op : Int) (a b : Nat) (w : World) : ansR op a b < 18446744073709551616 := by
  unfold ansR
  split
  · exact resF_lt .add a b w
  split
  · exact resF_lt .sub a b w
  split
  · exact resF_lt .mul a b w
  · exact resF_lt .quo a b w
theorem b2n_lt (x : Bool) : b2n x < 18446744073709551616 := by cases x <;> decide

theorem app_lt (op : Int) (vs : List (Int × Nat)) (w : World) (h : ∀ v ∈ vs, v.2 < 18446744073709551616) : (appP op vs).2 < 18446744073709551616 := by
  match vs, h with
  | [], _ => exact (by decide : (0 : Nat) < 18446744073709551616)
  | [a], h =>
    have ha := clB_lt2 a.1 (h a (by simp))
    show (appOne op _ _).2 < _
    generalize clK a.1 a.2 = k at *
    generalize clB a.1 a.2 = b at *
    unfold appOne
    split
    · show (if b = 0 then 1 else 0 : Nat) < _; split <;> omega
    split
    · exact resN_lt _
    split
    · exact cn_lt (flip_lt b ha)
    split
    · have := w64 b
      unfold I64 at this
      exact ofI_lt _ (by omega)
    split
    · exact b2n_lt _
    · exact (by decide : (0 : Nat) < 18446744073709551616)
  | [a, c], h =>
    have ha := clB_lt2 a.1 (h a (by simp))
    show (appTwo op _ _ _ _).2 < _
    generalize clK a.1 a.2 = k at *
    generalize clB a.1 a.2 = b at *
    generalize clK c.1 c.2 = l at *
    generalize clB c.1 c.2 = d at *
    have hb2 : ∀ t, t ≤ 1 → (bo2 t k b l d).2 < 18446744073709551616 := by
      intro t ht
      unfold bo2
      split
      · show t < _; omega
      split
      · exact (by decide : (0 : Nat) < 18446744073709551616)
      · exact ha
    unfold appTwo
    split
    · exact hb2 0 (by omega)
    split
    · exact hb2 1 (by omega)
    split
    · exact (by decide : (0 : Nat) < 18446744073709551616)
    split
    · exact b2n_lt _
    split
    · exact resN_lt _
    · exact ansR_lt op b d w
  | a :: b :: c :: ds, _ => exact (by decide : (0 : Nat) < 18446744073709551616)
end Go.Proofs.Ytfjnphiegoogoaa
