/- The least and the greatest of whole numbers, as plain facts. -/
import Derived.Test.YtfjnphiegoogoaaLkJ
import Derived.Test.YtfjnphiegoogoaaDist
import Derived.Test.YtfjnphiegoogoaaInvG
import Derived.Test.YtfjnphiegoogoaaWords
namespace Go.Proofs.Ytfjnphiegoogoaa
open Go.ChangeShapes Go.WideShapes Go.ChangeAt Go.RowKit Go.Fl
set_option linter.unusedVariables false
set_option linter.unusedSimpArgs false

def bst (last : Bool) (t z : Int) : Int := if (if last then t < z else z < t) then z else t
def iv (z : Int) : Int × Nat := (1, nU z)
theorem nU_back {z : Int} (h : I64 z) : wrap64 ((nU z : Nat) : Int) = z := by
  unfold I64 at h
  rw [nU_eq, IntKind.wrap_u64]
  unfold wrap64
  omega
theorem nU_inj {a b : Int} (ha : I64 a) (hb : I64 b) (h : nU a = nU b) : a = b := by rw [← nU_back ha, ← nU_back hb, h]
theorem vord_iv {a b : Int} (ha : I64 a) (hb : I64 b) : vordP 1 (nU a) 1 (nU b) = cmpP a b := by
  unfold vordP
  have k1 : ∀ x, clK 1 x = 1 := fun x => by unfold clK; rw [if_pos (by omega)]
  have b1 : ∀ x, clB 1 x = x := fun x => by unfold clB; rw [if_neg (by omega), if_pos (by omega)]
  rw [k1, k1, b1, b1, if_neg (by simp), if_pos rfl, nU_back ha, nU_back hb]
theorem cmp_bst (last : Bool) (z t : Int) : (cmpP z t = sd last) ↔ (if last then t < z else z < t) := by
  unfold cmpP sd
  cases last <;> simp <;> (repeat' split) <;> omega
theorem bst_or (last : Bool) (t z : Int) : bst last t z = t ∨ bst last t z = z := by
  unfold bst
  by_cases h : (if last then t < z else z < t)
  · exact .inr (if_pos h)
  · exact .inl (if_neg h)
theorem bst_64 {last : Bool} {t z : Int} (ht : I64 t) (hz : I64 z) : I64 (bst last t z) := by rcases bst_or last t z with e | e <;> rw [e] <;> assumption
theorem extGo_ints (last : Bool) : ∀ (zs : List Int) (t : Int), I64 t → (∀ z ∈ zs, I64 z) → extGo last (iv t) (zs.map iv) = iv (zs.foldl (bst last) t)
  | [], t, _, _ => by rfl
  | z :: zs, t, ht, hz => by
    have hz1 : I64 z := hz z List.mem_cons_self
    rw [List.map_cons, extGo, if_pos ⟨rfl, rfl⟩]
    show extGo last (if vordP 1 (nU z) 1 (nU t) = sd last then iv z else iv t) _ = _
    rw [vord_iv hz1 ht, List.foldl_cons, ← extGo_ints last zs (bst last t z) (bst_64 ht hz1) fun x hx => hz x (List.mem_cons_of_mem _ hx)]
    congr 1
    unfold bst
    by_cases c : cmpP z t = sd last
    · rw [if_pos c, if_pos ((cmp_bst last z t).1 c)]
    · rw [if_neg c, if_neg (fun h => c ((cmp_bst last z t).2 h))]
theorem fold_in (last : Bool) : ∀ (zs : List Int) (t : Int), zs.foldl (bst last) t = t ∨ zs.foldl (bst last) t ∈ zs
  | [], t => .inl rfl
  | z :: zs, t => by
    rw [List.foldl_cons]
    rcases fold_in last zs (bst last t z) with h | h
    · rw [h]
      rcases bst_or last t z with e | e
      · exact .inl e
      · rw [e]; exact .inr List.mem_cons_self
    · exact .inr (List.mem_cons_of_mem _ h)
/-- a stands not behind b on the way to the end that is sought -/
def nb4 (last : Bool) (a b : Int) : Prop := if last then b ≤ a else a ≤ b
theorem nb4_trans {last : Bool} {a b c : Int} (h : nb4 last a b) (h' : nb4 last b c) : nb4 last a c := by
  unfold nb4 at *; cases last <;> simp at * <;> omega
theorem bst_nb (last : Bool) (t z : Int) : nb4 last (bst last t z) t ∧ nb4 last (bst last t z) z := by
  unfold bst nb4; cases last <;> simp <;> (repeat' split) <;> omega
theorem fold_nb (last : Bool) : ∀ (zs : List Int) (t : Int), nb4 last (zs.foldl (bst last) t) t ∧ ∀ z ∈ zs, nb4 last (zs.foldl (bst last) t) z
  | [], t => ⟨by unfold nb4; cases last <;> simp, by simp⟩
  | z :: zs, t => by
    rw [List.foldl_cons]
    have h := fold_nb last zs (bst last t z)
    have b := bst_nb last t z
    refine ⟨nb4_trans h.1 b.1, fun x hx => ?_⟩
    rcases List.mem_cons.1 hx with rfl | hx
    · exact nb4_trans h.1 b.2
    · exact h.2 x hx
/-- the end of a list that has one -/
def endOf (last : Bool) (zs : List Int) : Int := match zs with | [] => 0 | z :: l => l.foldl (bst last) z
theorem endOf_in (last : Bool) (zs : List Int) (h : zs ≠ []) : endOf last zs ∈ zs := by
  cases zs with
  | nil => exact absurd rfl h
  | cons z l =>
    show l.foldl (bst last) z ∈ _
    rcases fold_in last l z with e | e
    · rw [e]; exact List.mem_cons_self
    · exact List.mem_cons_of_mem _ e
theorem endOf_nb (last : Bool) (zs : List Int) : ∀ z ∈ zs, nb4 last (endOf last zs) z := by
  cases zs with
  | nil => simp
  | cons y l =>
    intro z hz
    rcases List.mem_cons.1 hz with rfl | hz
    · exact (fold_nb last l z).1
    · exact (fold_nb last l y).2 z hz
theorem extP_ints (last : Bool) (zs : List Int) (h : zs ≠ []) (h64 : ∀ z ∈ zs, I64 z) : extP last (zs.map iv) = iv (endOf last zs) := by
  cases zs with
  | nil => exact absurd rfl h
  | cons z l =>
    show extGo last (iv z) ((z :: l).map iv) = _
    rw [extGo_ints last (z :: l) z (h64 z List.mem_cons_self) h64, List.foldl_cons, show bst last z z = z by rcases bst_or last z z with e | e <;> exact e]
    rfl
theorem endOf_rev (last : Bool) (zs : List Int) (h : zs ≠ []) : endOf last zs.reverse = endOf last zs := by
  have hr : zs.reverse ≠ [] := by simpa using h
  have a := endOf_nb last zs _ (List.mem_reverse.1 (endOf_in last zs.reverse hr))
  have b := endOf_nb last zs.reverse _ (List.mem_reverse.2 (endOf_in last zs h))
  unfold nb4 at a b
  cases last <;> simp at a b <;> omega

def upTo (k : Nat) : List Int := (List.range k).map fun i : Nat => (i : Int)
def downTo (n k : Nat) : List Int := (List.range k).map fun i : Nat => ((n : Int) - 1 - (i : Int))
theorem upTo_snoc (k : Nat) : upTo (k + 1) = upTo k ++ [(k : Int)] := by unfold upTo; rw [List.range_succ, List.map_append]; rfl
theorem downTo_snoc (n k : Nat) : downTo n (k + 1) = downTo n k ++ [(n : Int) - 1 - (k : Int)] := by unfold downTo; rw [List.range_succ, List.map_append]; rfl
theorem upTo_length (k : Nat) : (upTo k).length = k := by simp [upTo]
theorem downTo_length (n k : Nat) : (downTo n k).length = k := by simp [downTo]
theorem attr_int (l : List Int) (i : Nat) (z : Int) (h : l[i]? = some z) : attrP (l.map intEv) (i : Int) 0 = iv z := by
  unfold attrP
  rw [if_neg (by omega), show ((i : Int)).toNat = i by omega, List.getElem?_map, h]
  show (clK 1 (nU z), clB 1 (nU z)) = iv z
  unfold clK clB iv
  rw [if_pos (by omega), if_neg (by omega), if_pos (by omega)]
theorem attrs_up (l : List Int) (bs : List (List Int)) (h : placesP bs 0 = upTo l.length) : attrsP (l.map intEv) bs 0 0 = l.map iv := by
  unfold attrsP
  rw [h]
  apply List.ext_getElem?
  intro i
  rw [List.getElem?_map, List.getElem?_map]
  unfold upTo
  rw [List.getElem?_map]
  by_cases c : i < l.length
  · rw [List.getElem?_range c, List.getElem?_eq_getElem c]
    exact congrArg some (attr_int l i _ (List.getElem?_eq_getElem c))
  · rw [List.getElem?_eq_none (by simp; omega), List.getElem?_eq_none (by omega)]; rfl
theorem attrs_down (l : List Int) (bs : List (List Int)) (h : placesP bs 1 = downTo l.length l.length) : attrsP (l.map intEv) bs 1 0 = l.reverse.map iv := by
  unfold attrsP
  rw [h]
  apply List.ext_getElem?
  intro i
  rw [List.getElem?_map, List.getElem?_map]
  unfold downTo
  rw [List.getElem?_map]
  by_cases c : i < l.length
  · rw [List.getElem?_range c, List.getElem?_reverse c, List.getElem?_eq_getElem (show l.length - 1 - i < l.length by omega)]
    have := attr_int l (l.length - 1 - i) _ (List.getElem?_eq_getElem (by omega))
    rw [show ((l.length - 1 - i : Nat) : Int) = (l.length : Int) - 1 - (i : Int) by omega] at this
    exact congrArg some this
  · rw [List.getElem?_eq_none (by simp; omega), List.getElem?_eq_none (by simp; omega)]; rfl
theorem leaf_ends (last : Bool) (op pos : Int) (l : List Int) (bs : List (List Int)) (cur : Int) (hop : op = if last then 30 else 29) (hpl : placesP bs pos ≠ []) (m : List Int) (ha : attrsP (l.map intEv) bs pos 0 = m.map iv) (hm : m ≠ []) (h64 : ∀ z ∈ m, I64 z) :
    leafP op 0 0 pos 0 (l.map intEv) bs cur = (1, nU (endOf last m)) := by
  unfold leafP
  rw [if_neg (by subst hop; cases last <;> decide), if_neg (by subst hop; cases last <;> decide), if_neg (by subst hop; cases last <;> decide), if_neg hpl, ha]
  have := extP_ints last m hm h64
  subst hop
  cases last
  · show extP false _ = _
    exact this
  · show extP true _ = _
    exact this
def cntE (m M : Int) (l : List Int) : Nat := (l.filter fun z => decide (z = m ∨ z = M)).length
theorem cntE_snoc (m M z : Int) (l : List Int) : cntE m M (l ++ [z]) = cntE m M l + if z = m ∨ z = M then 1 else 0 := by
  unfold cntE
  rw [List.filter_append, List.length_append]
  by_cases h : z = m ∨ z = M <;> simp [List.filter_cons, h]
theorem cntE_le (m M : Int) (l : List Int) : cntE m M l ≤ l.length := List.length_filter_le _ _
theorem cntE_pos (m M : Int) (l : List Int) (h : m ∈ l) : 0 < cntE m M l := by
  unfold cntE
  exact List.length_pos_of_mem (List.mem_filter.2 ⟨h, by simp⟩)
theorem cntE_all (m : Int) (l : List Int) (h : ∀ z ∈ l, z = m) : cntE m m l = l.length := by
  unfold cntE
  rw [List.filter_eq_self.2 (fun z hz => by simp [h z hz])]
end Go.Proofs.Ytfjnphiegoogoaa
