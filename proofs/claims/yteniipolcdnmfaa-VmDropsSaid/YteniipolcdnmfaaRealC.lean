/- What Neg, Equal, Less, Order and their kin answer, in package real and in the document's, as contracts, for every input. -/
import Derived.Test.YteniipolcdnmfaaRealB
namespace Go.Proofs.Yteniipolcdnmfaa
open Go.ChangeShapes Go.WideShapes Go.ChangeAt Go.RowKit Go.Fl

theorem xor_flip (a : Nat) (ha : a < 18446744073709551616) : bits .xor .u64 (a : Int) 9223372036854775808 = ((Fl.flip a : Nat) : Int) := by
  rw [show (9223372036854775808 : Int) = ((9223372036854775808 : Nat) : Int) by rfl, u64_xor_nat a _ ha (by decide)]
  unfold Fl.flip
  by_cases h : a < 9223372036854775808
  · rw [if_pos h, xor_top a h]
  · rw [if_neg h, xor_top' a (by omega) ha]
theorem flip_lt (a : Nat) (ha : a < 18446744073709551616) : Fl.flip a < 18446744073709551616 := by unfold Fl.flip; split <;> omega

/-- the other sign, canonical -/
def ngP (a : Nat) : Nat := cn (Fl.flip a)

theorem neg_any (a : Nat) (w : World) (ha : a < 18446744073709551616) :
    Calls Try.prog 59 #[.int .u64 (a : Int)] w fun e w' => e = .returned (.int .u64 ((ngP a : Nat) : Int)) ∧ w = w' := by
  have e := xor_flip a ha
  have hl := flip_lt a ha
  go_enter Try.func59, Try.ntmps59
  go_wp2_with (go_at_call 49; refine (canon_any _ _ hl).mono ?_; rintro e w' ⟨rfl, rfl⟩)
  go_ret
  exact ⟨rfl, rfl⟩

def eqB (a b : Nat) : Bool := Ieee.double.order a b == some Ordering.eq
def ltB (a b : Nat) : Bool := Ieee.double.order a b == some Ordering.lt

theorem equal_any (a b : Nat) (w : World) :
    Calls Try.prog 58 #[.int .u64 (a : Int), .int .u64 (b : Int)] w fun e w' => e = .returned (.bool (eqB a b)) ∧ w = w' := by
  have hf := frombits
  go_enter Try.func58, Try.ntmps58
  go_wp2
  go_ret
  exact ⟨rfl, rfl⟩

theorem less_any (a b : Nat) (w : World) :
    Calls Try.prog 69 #[.int .u64 (a : Int), .int .u64 (b : Int)] w fun e w' => e = .returned (.bool (ltB a b)) ∧ w = w' := by
  have hf := frombits
  go_enter Try.func69, Try.ntmps69
  go_wp2
  go_ret
  exact ⟨rfl, rfl⟩

theorem eqB_iff (a b : Nat) (ha : a < 18446744073709551616) (hb : b < 18446744073709551616) :
    eqB a b = decide (¬ INF < a % 9223372036854775808 ∧ ¬ INF < b % 9223372036854775808 ∧ (a = b ∨ (a = 0 ∨ a = 9223372036854775808) ∧ (b = 0 ∨ b = 9223372036854775808))) := by
  unfold eqB
  by_cases na : INF < a % 9223372036854775808
  · rw [order_nan_l a b na, decide_eq_false (by omega)]; rfl
  · by_cases nb : INF < b % 9223372036854775808
    · rw [order_nan_r a b nb, decide_eq_false (by omega)]; rfl
    · rw [order_key a b ha hb (by omega) (by omega)]
      by_cases k : key a = key b
      · rw [k, decide_eq_true (by unfold key at k; split at k <;> split at k <;> omega)]
        simp [compare, compareOfLessAndEq]
      · rw [decide_eq_false (by unfold key at k; split at k <;> split at k <;> omega)]
        simp only [compare, compareOfLessAndEq, k, if_false]
        split <;> rfl

theorem ltB_iff (a b : Nat) (ha : a < 18446744073709551616) (hb : b < 18446744073709551616) :
    ltB a b = decide (¬ INF < a % 9223372036854775808 ∧ ¬ INF < b % 9223372036854775808 ∧ key a < key b) := by
  unfold ltB
  by_cases na : INF < a % 9223372036854775808
  · rw [order_nan_l a b na, decide_eq_false (by omega)]; rfl
  · by_cases nb : INF < b % 9223372036854775808
    · rw [order_nan_r a b nb, decide_eq_false (by omega)]; rfl
    · rw [order_key a b ha hb (by omega) (by omega)]
      by_cases k : key a < key b
      · rw [decide_eq_true ⟨na, nb, k⟩]
        simp [compare, compareOfLessAndEq, k]
      · rw [decide_eq_false (by omega)]
        simp only [compare, compareOfLessAndEq, k, if_false]
        split <;> rfl

/-- the place in order: of the numbers below nought the greater words stand ahead -/
def rankP (n : Nat) : Nat := if cn n < 9223372036854775808 then cn n + 9223372036854775808 else 18446744073709551615 - cn n
def ordP (a b : Nat) : Int := if rankP a < rankP b then -1 else if rankP b < rankP a then 1 else 0

theorem rankP_lt (n : Nat) (h : n < 18446744073709551616) : rankP n < 18446744073709551616 := by
  have := cn_lt h
  unfold rankP; split <;> omega
theorem rankP_eq (a b : Nat) (ha : a < 18446744073709551616) (hb : b < 18446744073709551616) : rankP a = rankP b ↔ cn a = cn b := by
  have h1 := cn_lt ha
  have h2 := cn_lt hb
  unfold rankP; split <;> split <;> omega

/-- cmp.Compare of two numbers -/
def cmpP (x y : Int) : Int := if x < y then -1 else if y < x then 1 else 0



/-- the order of two canonical words by their sign and size -/
theorem ordP_of (x y : Nat) (hx : cn x = x) (hy : cn y = y) (bx : x < 18446744073709551616) (bY : y < 18446744073709551616) :
    ordP x y = if x = y then 0 else if 9223372036854775808 ≤ x ∧ 9223372036854775808 ≤ y then (if y < x then -1 else 1) else if 9223372036854775808 ≤ x ∨ 9223372036854775808 ≤ y then (if 9223372036854775808 ≤ x then -1 else 1) else if x < y then -1 else 1 := by
  have e1 : rankP x = if x < 9223372036854775808 then x + 9223372036854775808 else 18446744073709551615 - x := by unfold rankP; rw [hx]
  have e2 : rankP y = if y < 9223372036854775808 then y + 9223372036854775808 else 18446744073709551615 - y := by unfold rankP; rw [hy]
  unfold ordP
  rw [e1, e2]
  by_cases c1 : x < 9223372036854775808 <;> by_cases c2 : y < 9223372036854775808 <;> simp only [c1, c2, if_true, if_false] <;> (repeat' split) <;> first | rfl | omega

theorem ordP_cn (a b : Nat) : ordP (cn a) (cn b) = ordP a b := by unfold ordP rankP; rw [cn_cn, cn_cn]

theorem key_lt_ord (a b : Nat) (ha : a < 18446744073709551616) (hb : b < 18446744073709551616) (na : ¬ INF < a % 9223372036854775808) (nb : ¬ INF < b % 9223372036854775808)
    (he : eqB a b = false) : ltB a b = decide (ordP a b < 0) := by
  have hk := eqB_iff a b ha hb
  rw [he] at hk
  have hk2 := of_decide_eq_false hk.symm
  rw [ltB_iff a b ha hb, ordP_of a b (cn_num na) (cn_num nb) ha hb]
  rw [Bool.eq_iff_iff, decide_eq_true_eq, decide_eq_true_eq]
  unfold key
  (repeat' split) <;> omega

end Go.Proofs.Yteniipolcdnmfaa
