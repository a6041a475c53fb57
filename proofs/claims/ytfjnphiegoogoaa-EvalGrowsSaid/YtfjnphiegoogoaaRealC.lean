/- What Neg, Equal, Less, Order and their kin answer, in package real and in the document's, as contracts, for every input. -/
import Derived.Test.YtfjnphiegoogoaaRealB
namespace Go.Proofs.Ytfjnphiegoogoaa
open Go.ChangeShapes Go.WideShapes Go.ChangeAt Go.RowKit Go.Fl

theorem xor_flip (a : Nat) (ha : a < 18446744073709551616) : bits .xor .u64 (a : Int) 9223372036854775808 = ((Fl.flip a : Nat) : Int) := by
  rw [show (9223372036854775808 : Int) = ((9223372036854775808 : Nat) : Int) by rfl, u64_xor_nat a _ ha (by decide)]
  unfold Fl.flip
  by_cases h : a < 9223372036854775808
  · rw [if_pos h, xor_top a h]
  · rw [if_neg h, xor_top' a (by omega) ha]
theorem flip_lt (a : Nat) (ha : a < 18446744073709551616) : Fl.flip a < 18446744073709551616 := by unfold Fl.flip; split <;> omega

/-- the other sign, canonical -/
def ngP (a : Nat) : Nat := cn (Fl.flip a)

theorem neg_any (a : Nat) (w : World) (ha : a < 18446744073709551616) :
    Calls Try.prog 43 #[.int .u64 (a : Int)] w fun e w' => e = .returned (.int .u64 ((ngP a : Nat) : Int)) ∧ w = w' := by
  have e := xor_flip a ha
  have hl := flip_lt a ha
  go_enter Try.func43, Try.ntmps43
  go_wp2_with (go_at_call 46; refine (canon_any _ _ hl).mono ?_; rintro e w' ⟨rfl, rfl⟩)
  go_ret
  exact ⟨rfl, rfl⟩

theorem rneg_any (a : Nat) (w : World) (ha : a < 18446744073709551616) :
    Calls Try.prog 61 #[.int .u64 (a : Int)] w fun e w' => e = .returned (.int .u64 ((ngP a : Nat) : Int)) ∧ w = w' := by
  have hm := flip_mod a ha
  by_cases h : INF < a % 9223372036854775808
  · have e : ngP a = 9221120237041090560 := cn_nan (by rw [hm]; exact h)
    rw [e]
    have H := Lib.hid (isNan_t a w ha h)
    clear e hm h
    go_enter Try.func61, Try.ntmps61
    go_wp2_with (go_at_call 56; refine H.out.mono ?_; rintro e w' ⟨rfl, rfl⟩)
    go_ret
    exact ⟨rfl, rfl⟩
  · have e : ngP a = Fl.flip a := cn_num (by rw [hm]; exact h)
    rw [e]
    have H := Lib.hid (isNan_f a w ha h)
    clear e hm h
    obtain ⟨z, hz, h0, h1⟩ : ∃ z : Int, z = (a : Int) ∧ 0 ≤ z ∧ z ≤ 18446744073709551615 := ⟨a, rfl, by omega, by omega⟩
    have e2 := Lib.hid (show ((9223372036854775808 : Int) ≤ z → z - 9223372036854775808 = ((Fl.flip a : Nat) : Int)) ∧ (z < (9223372036854775808 : Int) → z + 9223372036854775808 = ((Fl.flip a : Nat) : Int)) by unfold Fl.flip; split <;> omega)
    rw [← hz] at H ⊢
    clear hz ha
    go_enter Try.func61, Try.ntmps61
    go_wp2_with (go_at_call 56; refine H.out.mono ?_; rintro e w' ⟨rfl, rfl⟩)
    all_goals go_ret
    · exact ⟨ret_int (e2.out.1 (by assumption)), rfl⟩
    · exact ⟨ret_int (e2.out.2 (by assumption)), rfl⟩

def eqB (a b : Nat) : Bool := Ieee.double.order a b == some Ordering.eq
def ltB (a b : Nat) : Bool := Ieee.double.order a b == some Ordering.lt

theorem equal_any (a b : Nat) (w : World) :
    Calls Try.prog 42 #[.int .u64 (a : Int), .int .u64 (b : Int)] w fun e w' => e = .returned (.bool (eqB a b)) ∧ w = w' := by
  have hf := frombits
  go_enter Try.func42, Try.ntmps42
  go_wp2
  go_ret
  exact ⟨rfl, rfl⟩

theorem less_any (a b : Nat) (w : World) :
    Calls Try.prog 69 #[.int .u64 (a : Int), .int .u64 (b : Int)] w fun e w' => e = .returned (.bool (ltB a b)) ∧ w = w' := by
  have hf := frombits
  go_enter Try.func69, Try.ntmps69
  go_wp2
  go_ret
  exact ⟨rfl, rfl⟩

theorem eqB_iff (a b : Nat) (ha : a < 18446744073709551616) (hb : b < 18446744073709551616) :
    eqB a b = decide (¬ INF < a % 9223372036854775808 ∧ ¬ INF < b % 9223372036854775808 ∧ (a = b ∨ (a = 0 ∨ a = 9223372036854775808) ∧ (b = 0 ∨ b = 9223372036854775808))) := by
  unfold eqB
  by_cases na : INF < a % 9223372036854775808
  · rw [order_nan_l a b na, decide_eq_false (by omega)]; rfl
  · by_cases nb : INF < b % 9223372036854775808
    · rw [order_nan_r a b nb, decide_eq_false (by omega)]; rfl
    · rw [order_key a b ha hb (by omega) (by omega)]
      by_cases k : key a = key b
      · rw [k, decide_eq_true (by unfold key at k; split at k <;> split at k <;> omega)]
        simp [compare, compareOfLessAndEq]
      · rw [decide_eq_false (by unfold key at k; split at k <;> split at k <;> omega)]
        simp only [compare, compareOfLessAndEq, k, if_false]
        split <;> rfl

theorem ltB_iff (a b : Nat) (ha : a < 18446744073709551616) (hb : b < 18446744073709551616) :
    ltB a b = decide (¬ INF < a % 9223372036854775808 ∧ ¬ INF < b % 9223372036854775808 ∧ key a < key b) := by
  unfold ltB
  by_cases na : INF < a % 9223372036854775808
  · rw [order_nan_l a b na, decide_eq_false (by omega)]; rfl
  · by_cases nb : INF < b % 9223372036854775808
    · rw [order_nan_r a b nb, decide_eq_false (by omega)]; rfl
    · rw [order_key a b ha hb (by omega) (by omega)]
      by_cases k : key a < key b
      · rw [decide_eq_true ⟨na, nb, k⟩]
        simp [compare, compareOfLessAndEq, k]
      · rw [decide_eq_false (by omega)]
        simp only [compare, compareOfLessAndEq, k, if_false]
        split <;> rfl

theorem requal_any (a b : Nat) (w : World) (ha : a < 18446744073709551616) (hb : b < 18446744073709551616) :
    Calls Try.prog 60 #[.int .u64 (a : Int), .int .u64 (b : Int)] w fun e w' => e = .returned (.bool (eqB a b)) ∧ w = w' := by
  rw [eqB_iff a b ha hb]
  go_enter Try.func60, Try.ntmps60
  go_wp2_with (first | (go_at_call 56; refine (isNan_any _ _ (by assumption)).mono ?_; rintro e w' ⟨rfl, rfl⟩) | (go_at_call 85; go_in))
  all_goals go_ret
  all_goals refine ⟨ret_bool ?_, rfl⟩
  all_goals rw [Bool.eq_iff_iff]
  all_goals simp only [decide_eq_true_eq, Bool.and_eq_true, Bool.or_eq_true, Bool.not_eq_true', decide_eq_false_iff_not, beq_iff_eq, Bool.false_eq_true, false_iff]
  all_goals omega
/-- the place in order: of the numbers below nought the greater words stand ahead -/
def rankP (n : Nat) : Nat := if cn n < 9223372036854775808 then cn n + 9223372036854775808 else 18446744073709551615 - cn n
def ordP (a b : Nat) : Int := if rankP a < rankP b then -1 else if rankP b < rankP a then 1 else 0

theorem rankP_lt (n : Nat) (h : n < 18446744073709551616) : rankP n < 18446744073709551616 := by
  have := cn_lt h
  unfold rankP; split <;> omega
theorem rankP_eq (a b : Nat) (ha : a < 18446744073709551616) (hb : b < 18446744073709551616) : rankP a = rankP b ↔ cn a = cn b := by
  have h1 := cn_lt ha
  have h2 := cn_lt hb
  unfold rankP; split <;> split <;> omega

theorem rank_any (a : Nat) (w : World) (ha : a < 18446744073709551616) :
    Calls Try.prog 104 #[.int .u64 (a : Int)] w fun e w' => e = .returned (.int .u64 ((rankP a : Nat) : Int)) ∧ w = w' := by
  have hc := canon_any a w ha
  have hl := cn_lt ha
  by_cases c : cn a < 9223372036854775808
  · have e1 : bits .and .u64 ((cn a : Nat) : Int) 9223372036854775808 = 0 := by rw [show (9223372036854775808 : Int) = ((9223372036854775808 : Nat) : Int) by rfl, u64_and_nat _ _ hl (by decide), and_top_lo _ c]; rfl
    have e2 : bits .or .u64 ((cn a : Nat) : Int) 9223372036854775808 = ((rankP a : Nat) : Int) := by rw [show (9223372036854775808 : Int) = ((9223372036854775808 : Nat) : Int) by rfl, u64_or_nat _ _ hl (by decide), or_top _ c]; unfold rankP; rw [if_pos c]
    have H := Lib.hid hc
    clear hc hl c ha
    go_enter Try.func104, Try.ntmps104
    go_wp2_with (go_at_call 46; refine H.out.mono ?_; rintro e w' ⟨rfl, rfl⟩)
    go_ret
    exact ⟨rfl, rfl⟩
  · have e1 : (bits .and .u64 ((cn a : Nat) : Int) 9223372036854775808 != 0) = true := by rw [show (9223372036854775808 : Int) = ((9223372036854775808 : Nat) : Int) by rfl, u64_and_nat _ _ hl (by decide), and_top_hi _ (by omega) hl]; rfl
    have e2 : bits .xor .u64 IntKind.u64.max ((cn a : Nat) : Int) = ((rankP a : Nat) : Int) := by rw [show IntKind.u64.max = ((18446744073709551615 : Nat) : Int) by rfl, u64_xor_nat _ _ (by decide) hl, Nat.xor_comm, not_all _ hl]; unfold rankP; rw [if_neg c]
    have H := Lib.hid hc
    clear hc hl c ha
    go_enter Try.func104, Try.ntmps104
    go_wp2_with (go_at_call 46; refine H.out.mono ?_; rintro e w' ⟨rfl, rfl⟩)
    go_ret
    exact ⟨rfl, rfl⟩
/-- cmp.Compare of two numbers -/
def cmpP (x y : Int) : Int := if x < y then -1 else if y < x then 1 else 0

theorem compareU_any (x y : Int) (w : World) :
    Calls Try.prog 101 #[.int .u64 x, .int .u64 y] w fun e w' => e = .returned (.int .i64 (cmpP x y)) ∧ w = w' := by
  have hn : ∀ x : Int, (x != x) = false := fun x => by simp
  by_cases c : x < y
  · rw [show cmpP x y = -1 by unfold cmpP; rw [if_pos c]]
    go_enter Try.func101, Try.ntmps101
    go_wp2
    go_ret
    exact ⟨rfl, rfl⟩
  · by_cases d : y < x
    · rw [show cmpP x y = 1 by unfold cmpP; rw [if_neg c, if_pos d]]
      go_enter Try.func101, Try.ntmps101
      go_wp2
      go_ret
      exact ⟨rfl, rfl⟩
    · rw [show cmpP x y = 0 by unfold cmpP; rw [if_neg c, if_neg d]]
      go_enter Try.func101, Try.ntmps101
      go_wp2
      go_ret
      exact ⟨rfl, rfl⟩

theorem order_any (a b : Nat) (w : World) (ha : a < 18446744073709551616) (hb : b < 18446744073709551616) :
    Calls Try.prog 100 #[.int .u64 (a : Int), .int .u64 (b : Int)] w fun e w' => e = .returned (.int .i64 (ordP a b)) ∧ w = w' := by
  have e : cmpP ((rankP a : Nat) : Int) ((rankP b : Nat) : Int) = ordP a b := by unfold cmpP ordP; simp only [Int.ofNat_lt]
  rw [← e]; clear e
  go_enter Try.func100, Try.ntmps100
  go_wp2_with (first | (go_at_call 104; refine (rank_any _ _ (by assumption)).mono ?_; rintro e w' ⟨rfl, rfl⟩) | (go_at_call 101; refine (compareU_any _ _ _).mono ?_; rintro e w' ⟨rfl, rfl⟩))
  go_ret
  exact ⟨rfl, rfl⟩

/-- the order of two canonical words by their sign and size -/
theorem ordP_of (x y : Nat) (hx : cn x = x) (hy : cn y = y) (bx : x < 18446744073709551616) (bY : y < 18446744073709551616) :
    ordP x y = if x = y then 0 else if 9223372036854775808 ≤ x ∧ 9223372036854775808 ≤ y then (if y < x then -1 else 1) else if 9223372036854775808 ≤ x ∨ 9223372036854775808 ≤ y then (if 9223372036854775808 ≤ x then -1 else 1) else if x < y then -1 else 1 := by
  have e1 : rankP x = if x < 9223372036854775808 then x + 9223372036854775808 else 18446744073709551615 - x := by unfold rankP; rw [hx]
  have e2 : rankP y = if y < 9223372036854775808 then y + 9223372036854775808 else 18446744073709551615 - y := by unfold rankP; rw [hy]
  unfold ordP
  rw [e1, e2]
  by_cases c1 : x < 9223372036854775808 <;> by_cases c2 : y < 9223372036854775808 <;> simp only [c1, c2, if_true, if_false] <;> (repeat' split) <;> first | rfl | omega

theorem ordP_cn (a b : Nat) : ordP (cn a) (cn b) = ordP a b := by unfold ordP rankP; rw [cn_cn, cn_cn]

theorem rorder_any (a b : Nat) (w : World) (ha : a < 18446744073709551616) (hb : b < 18446744073709551616) :
    Calls Try.prog 84 #[.int .u64 (a : Int), .int .u64 (b : Int)] w fun e w' => e = .returned (.int .i64 (ordP a b)) ∧ w = w' := by
  have hc1 := rcanon_any a w ha
  have hc2 := rcanon_any b w hb
  have ho := ordP_of (cn a) (cn b) (cn_cn a) (cn_cn b) (cn_lt ha) (cn_lt hb)
  rw [ordP_cn] at ho
  obtain ⟨x, hx, x0, x1⟩ : ∃ z : Int, z = (cn a : Int) ∧ 0 ≤ z ∧ z ≤ 18446744073709551615 := ⟨cn a, rfl, by omega, by have := cn_lt ha; omega⟩
  obtain ⟨y, hy, y0, y1⟩ : ∃ z : Int, z = (cn b : Int) ∧ 0 ≤ z ∧ z ≤ 18446744073709551615 := ⟨cn b, rfl, by omega, by have := cn_lt hb; omega⟩
  rw [← hx] at hc1
  rw [← hy] at hc2
  have HO : ordP a b = if x = y then 0 else if 9223372036854775808 ≤ x ∧ 9223372036854775808 ≤ y then (if y < x then -1 else 1) else if 9223372036854775808 ≤ x ∨ 9223372036854775808 ≤ y then (if 9223372036854775808 ≤ x then -1 else 1) else if x < y then -1 else 1 := by
    rw [ho]; (repeat' split) <;> first | rfl | omega
  have H := Lib.hid HO
  have H1 := Lib.hid hc1
  have H2 := Lib.hid hc2
  clear hc1 hc2 ho hx hy HO ha hb
  go_enter Try.func84, Try.ntmps84
  go_wp2_with fail
  refine H1.out.mono ?_; rintro e w' ⟨rfl, rfl⟩
  go_wp2_with fail
  refine H2.out.mono ?_; rintro e w' ⟨rfl, rfl⟩
  go_wp2
  all_goals go_ret
  all_goals refine ⟨ret_int ?_, rfl⟩
  all_goals rw [H.out]
  all_goals simp only [beq_iff_eq, beq_eq_false_iff_ne] at *
  all_goals ((repeat' split) <;> first | rfl | omega)
theorem rnought_any (a : Nat) (w : World) (ha : a < 18446744073709551616) :
    Calls Try.prog 85 #[.int .u64 (a : Int)] w fun e w' => e = .returned (.bool (decide (a = 0 ∨ a = 9223372036854775808))) ∧ w = w' := by
  go_enter Try.func85, Try.ntmps85
  go_wp2
  all_goals go_ret
  all_goals refine ⟨ret_bool ?_, rfl⟩
  all_goals rw [Bool.eq_iff_iff]
  all_goals simp only [decide_eq_true_eq, true_iff, Bool.or_eq_true, beq_iff_eq]
  all_goals omega

theorem key_lt_ord (a b : Nat) (ha : a < 18446744073709551616) (hb : b < 18446744073709551616) (na : ¬ INF < a % 9223372036854775808) (nb : ¬ INF < b % 9223372036854775808)
    (he : eqB a b = false) : ltB a b = decide (ordP a b < 0) := by
  have hk := eqB_iff a b ha hb
  rw [he] at hk
  have hk2 := of_decide_eq_false hk.symm
  rw [ltB_iff a b ha hb, ordP_of a b (cn_num na) (cn_num nb) ha hb]
  rw [Bool.eq_iff_iff, decide_eq_true_eq, decide_eq_true_eq]
  unfold key
  (repeat' split) <;> omega

theorem rless_any (a b : Nat) (w : World) (ha : a < 18446744073709551616) (hb : b < 18446744073709551616) :
    Calls Try.prog 59 #[.int .u64 (a : Int), .int .u64 (b : Int)] w fun e w' => e = .returned (.bool (ltB a b)) ∧ w = w' := by
  have c1 := Lib.hid (requal_any a b w ha hb)
  have c2 := Lib.hid (rorder_any a b w ha hb)
  by_cases na : INF < a % 9223372036854775808
  · rw [show ltB a b = false by rw [ltB_iff a b ha hb, decide_eq_false (by omega)]]
    have H1 := Lib.hid (isNan_t a w ha na)
    clear na ha hb
    go_enter Try.func59, Try.ntmps59
    go_wp2_with (go_at_call 56; refine H1.out.mono ?_; rintro e w' ⟨rfl, rfl⟩)
    go_ret
    exact ⟨rfl, rfl⟩
  · by_cases nb : INF < b % 9223372036854775808
    · rw [show ltB a b = false by rw [ltB_iff a b ha hb, decide_eq_false (by omega)]]
      have H1 := Lib.hid (isNan_f a w ha na)
      have H2 := Lib.hid (isNan_t b w hb nb)
      clear na ha hb nb
      go_enter Try.func59, Try.ntmps59
      go_wp2_with fail
      refine H1.out.mono ?_; rintro e w' ⟨rfl, rfl⟩
      go_wp2_with fail
      refine H2.out.mono ?_; rintro e w' ⟨rfl, rfl⟩
      go_wp2
      go_ret
      exact ⟨rfl, rfl⟩
    · have H1 := Lib.hid (isNan_f a w ha na)
      have H2 := Lib.hid (isNan_f b w hb nb)
      cases he : eqB a b with
      | true =>
        have hl : ltB a b = false := by
          unfold eqB at he; unfold ltB
          rw [eq_of_beq he]; rfl
        rw [he] at c1
        rw [hl]
        clear na ha hb nb he hl
        go_enter Try.func59, Try.ntmps59
        go_wp2_with fail
        refine H1.out.mono ?_; rintro e w' ⟨rfl, rfl⟩
        go_wp2_with fail
        refine H2.out.mono ?_; rintro e w' ⟨rfl, rfl⟩
        go_wp2_with fail
        refine c1.out.mono ?_; rintro e w' ⟨rfl, rfl⟩
        go_wp2
        go_ret
        exact ⟨rfl, rfl⟩
      | false =>
        rw [key_lt_ord a b ha hb na nb he]
        rw [he] at c1
        clear na ha hb nb he
        go_enter Try.func59, Try.ntmps59
        go_wp2_with fail
        refine H1.out.mono ?_; rintro e w' ⟨rfl, rfl⟩
        go_wp2_with fail
        refine H2.out.mono ?_; rintro e w' ⟨rfl, rfl⟩
        go_wp2_with fail
        refine c1.out.mono ?_; rintro e w' ⟨rfl, rfl⟩
        go_wp2_with fail
        refine c2.out.mono ?_; rintro e w' ⟨rfl, rfl⟩
        go_wp2
        go_ret
        exact ⟨rfl, rfl⟩
end Go.Proofs.Ytfjnphiegoogoaa
