/- Plain facts on IEEE 754 doubles as bit patterns (reading, order, sign, whole numbers, sums of whole numbers): no Go in sight. -/
import Derived.Laws.FloatArith
namespace Go.Fl
open Ieee

theorem cmp_mul (x y c : Int) (hc : 0 < c) : compare (x * c) (y * c) = compare x y := by
  simp only [compare, compareOfLessAndEq]
  have h1 : (x * c < y * c) ↔ (x < y) := Int.mul_lt_mul_right hc
  have h2 : (x * c = y * c) ↔ (x = y) := by
    constructor
    · intro h; exact Int.eq_of_mul_eq_mul_right (by omega) h
    · intro h; rw [h]
  simp only [h1, h2]

theorem signed_mul (s : Bool) (m k : Nat) : Ieee.signed s m k = (if s then -1 else 1) * (m : Int) * (2 : Int) ^ k := by
  unfold Ieee.signed
  cases s <;> simp [Nat.shiftLeft_eq, Int.neg_mul]

def L : Int := -1074

/-- two finite data at places L + a and L + b -/
theorem order_num (s t : Bool) (m n a b : Nat) : Datum.order (.number s m (L + a)) (.number t n (L + b)) = some (compare ((if s then -1 else 1) * (m : Int) * 2 ^ a) ((if t then -1 else 1) * (n : Int) * 2 ^ b)) := by
  unfold Datum.order
  simp only [Option.some.injEq]
  have hm : min (L + (a : Int)) (L + b) = L + (min a b : Nat) := by unfold L; omega
  rw [hm]
  have e1 : (L + (a : Int) - (L + (min a b : Nat))).toNat = a - min a b := by unfold L; omega
  have e2 : (L + (b : Int) - (L + (min a b : Nat))).toNat = b - min a b := by unfold L; omega
  rw [e1, e2, signed_mul, signed_mul]
  rw [← cmp_mul _ _ ((2 : Int) ^ (min a b)) (Int.pow_pos (by decide))]
  have p : ∀ k, k ≥ min a b → (2 : Int) ^ (k - min a b) * 2 ^ (min a b) = 2 ^ k := by
    intro k hk; rw [← Int.pow_add]; congr 1; omega
  rw [Int.mul_assoc _ ((2 : Int) ^ (a - min a b)), Int.mul_assoc _ ((2 : Int) ^ (b - min a b)), p a (by omega), p b (by omega)]

def INF : Nat := 9218868437227405312

/-- the exponent part above the least place, and the significand, of a rung -/
def up (r : Nat) : Nat := r / 4503599627370496 - 1
def sig (r : Nat) : Nat := if r < 4503599627370496 then r else 4503599627370496 + r % 4503599627370496

theorem read_fin (w : Nat) (h : w % 9223372036854775808 < INF) : double.read w = .number (w / 9223372036854775808 % 2 == 1) (sig (w % 9223372036854775808)) (L + up (w % 9223372036854775808)) := by
  unfold Format.read
  have h1 : double.signWeight = 9223372036854775808 := by decide
  have h2 : double.binade = 4503599627370496 := by decide
  have h3 : double.infRung = INF := by decide
  have h4 : double.leastPlace = L := by decide
  simp only [h1, h2, h3, h4]
  unfold sig up
  by_cases c : w % 9223372036854775808 < 4503599627370496
  · rw [if_pos c, if_pos c, Nat.div_eq_of_lt c]; simp
  · rw [if_neg c, if_neg c, if_pos h]

theorem read_inf (w : Nat) (h : w % 9223372036854775808 = INF) : double.read w = .infinity (w / 9223372036854775808 % 2 == 1) := by
  unfold Format.read
  have h1 : double.signWeight = 9223372036854775808 := by decide
  have h2 : double.binade = 4503599627370496 := by decide
  have h3 : double.infRung = INF := by decide
  simp only [h1, h2, h3, h]
  rw [if_neg (by decide), if_neg (by omega)]; simp

theorem read_nan (w : Nat) (h : INF < w % 9223372036854775808) : double.read w = .nan (w / 9223372036854775808 % 2 == 1) (w % 9223372036854775808 - INF) := by
  unfold Format.read
  have h1 : double.signWeight = 9223372036854775808 := by decide
  have h2 : double.binade = 4503599627370496 := by decide
  have h3 : double.infRung = INF := by decide
  simp only [h1, h2, h3]
  unfold INF at *
  rw [if_neg (by omega), if_neg (by omega), if_neg (by omega)]

def V (r : Nat) : Nat := sig r * 2 ^ up r

theorem V_succ (r : Nat) : V r < V (r + 1) := by
  unfold V
  by_cases c : r + 1 < 4503599627370496
  · have e1 : sig r = r := by unfold sig; rw [if_pos (by omega)]
    have e2 : sig (r + 1) = r + 1 := by unfold sig; rw [if_pos c]
    have e3 : up r = 0 := by unfold up; omega
    have e4 : up (r + 1) = 0 := by unfold up; omega
    rw [e1, e2, e3, e4]; omega
  · by_cases d : r % 4503599627370496 = 4503599627370495
    · by_cases z : r < 4503599627370496
      · obtain rfl : r = 4503599627370495 := by omega
        decide
      · have e1 : sig r = 9007199254740991 := by unfold sig; rw [if_neg z, d]
        have e2 : sig (r + 1) = 4503599627370496 := by unfold sig; rw [if_neg c]; omega
        have e3 : up (r + 1) = up r + 1 := by unfold up; omega
        rw [e1, e2, e3, Nat.pow_succ]
        have := Nat.two_pow_pos (up r)
        omega
    · have e1 : up (r + 1) = up r := by unfold up; omega
      have e2 : sig (r + 1) = sig r + 1 := by unfold sig; rw [if_neg c, if_neg (by omega)]; omega
      rw [e1, e2, Nat.add_mul]
      have := Nat.two_pow_pos (up r)
      omega

theorem V_lt {r s : Nat} (h : r < s) : V r < V s := by
  induction s with
  | zero => omega
  | succ s ih =>
    by_cases e : r = s
    · subst e; exact V_succ r
    · exact Nat.lt_trans (ih (by omega)) (V_succ s)

theorem V_lt_iff (r s : Nat) : V r < V s ↔ r < s := by
  constructor
  · intro h
    by_cases c : r < s
    · exact c
    · by_cases e : r = s
      · subst e; omega
      · have := V_lt (show s < r by omega); omega
  · exact V_lt

theorem V_eq_iff (r s : Nat) : V r = V s ↔ r = s := by
  constructor
  · intro h
    by_cases c : r < s
    · have := V_lt c; omega
    · by_cases e : r = s
      · exact e
      · have := V_lt (show s < r by omega); omega
  · intro h; rw [h]

theorem V_zero : V 0 = 0 := by decide

/-- the word's place among all words, as a whole number: below nought where the sign is set -/
def key (w : Nat) : Int := if w < 9223372036854775808 then (w : Int) else -((w : Int) - 9223372036854775808)

theorem cmp_of {a b c d : Int} (h1 : a < b ↔ c < d) (h2 : a = b ↔ c = d) : compare a b = compare c d := by
  simp only [compare, compareOfLessAndEq, h1, h2]

theorem sgnV (s t : Bool) (r q : Nat) : compare ((if s then -1 else 1) * (V r : Int)) ((if t then -1 else 1) * (V q : Int)) = compare ((if s then -1 else 1) * (r : Int)) ((if t then -1 else 1) * (q : Int)) := by
  have h1 := V_lt_iff r q
  have h2 := V_lt_iff q r
  have h3 := V_eq_iff r q
  have a1 : V r = 0 ↔ r = 0 := by rw [← V_eq_iff r 0, V_zero]
  have a2 : V q = 0 ↔ q = 0 := by rw [← V_eq_iff q 0, V_zero]
  cases s <;> cases t <;> simp only [if_true, if_false, Bool.false_eq_true] <;> apply cmp_of <;> omega

theorem key_eq (w : Nat) (h : w < 18446744073709551616) : key w = (if (w / 9223372036854775808 % 2 == 1) then -1 else 1) * ((w % 9223372036854775808 : Nat) : Int) := by
  unfold key
  by_cases c : w < 9223372036854775808
  · have : (w / 9223372036854775808 % 2 == 1) = false := by simp; omega
    rw [if_pos c, this]; simp; omega
  · have : (w / 9223372036854775808 % 2 == 1) = true := by simp; omega
    rw [if_neg c, this]; simp; omega

theorem order_key (x y : Nat) (hx : x < 18446744073709551616) (hy : y < 18446744073709551616) (nx : x % 9223372036854775808 ≤ INF) (ny : y % 9223372036854775808 ≤ INF) :
    double.order x y = some (compare (key x) (key y)) := by
  unfold Format.order
  rw [key_eq x hx, key_eq y hy]
  by_cases ix : x % 9223372036854775808 = INF
  · rw [read_inf x ix]
    by_cases iy : y % 9223372036854775808 = INF
    · rw [read_inf y iy, ix, iy]
      generalize (x / 9223372036854775808 % 2 == 1) = s
      generalize (y / 9223372036854775808 % 2 == 1) = t
      revert s t; decide
    · have hlt : y % 9223372036854775808 < INF := by omega
      rw [read_fin y hlt, ix]
      generalize (x / 9223372036854775808 % 2 == 1) = s
      generalize (y / 9223372036854775808 % 2 == 1) = t
      generalize y % 9223372036854775808 = r at *
      unfold INF at *
      unfold Datum.order
      simp only [Option.some.injEq, compare, compareOfLessAndEq]
      cases s <;> cases t <;> simp only [if_true, if_false, Bool.false_eq_true] <;> (split <;> first | rfl | omega | (split <;> first | rfl | omega))
  · have hxl : x % 9223372036854775808 < INF := by omega
    rw [read_fin x hxl]
    by_cases iy : y % 9223372036854775808 = INF
    · rw [read_inf y iy, iy]
      generalize (x / 9223372036854775808 % 2 == 1) = s
      generalize (y / 9223372036854775808 % 2 == 1) = t
      generalize x % 9223372036854775808 = r at *
      unfold INF at *
      unfold Datum.order
      simp only [Option.some.injEq, compare, compareOfLessAndEq]
      cases s <;> cases t <;> simp only [if_true, if_false, Bool.false_eq_true] <;> (split <;> first | rfl | omega | (split <;> first | rfl | omega))
    · have hlt : y % 9223372036854775808 < INF := by omega
      rw [read_fin y hlt, order_num, Option.some.injEq, ← sgnV]
      unfold V
      simp only [Int.natCast_mul, Int.natCast_pow, Int.mul_assoc]
      rfl

theorem order_nan_l (x y : Nat) (h : INF < x % 9223372036854775808) : double.order x y = none := by
  unfold Format.order; rw [read_nan x h]; rfl
theorem order_nan_r (x y : Nat) (h : INF < y % 9223372036854775808) : double.order x y = none := by
  unfold Format.order; rw [read_nan y h]; cases double.read x <;> rfl

theorem add_nan_l (x y : Nat) (h : INF < x % 9223372036854775808) : double.add x y = none := by
  unfold Format.add; rw [read_nan x h]; rfl
theorem add_nan_r (x y : Nat) (h : INF < y % 9223372036854775808) : double.add x y = none := by
  unfold Format.add; rw [read_nan y h]; cases double.read x <;> rfl
theorem sub_nan_l (x y : Nat) (h : INF < x % 9223372036854775808) : double.sub x y = none := by
  unfold Format.sub; rw [read_nan x h]; rfl
theorem sub_nan_r (x y : Nat) (h : INF < y % 9223372036854775808) : double.sub x y = none := by
  unfold Format.sub; rw [read_nan y h]; cases double.read x <;> rfl
theorem mul_nan_l (x y : Nat) (h : INF < x % 9223372036854775808) : double.mul x y = none := by
  unfold Format.mul; rw [read_nan x h]; rfl
theorem mul_nan_r (x y : Nat) (h : INF < y % 9223372036854775808) : double.mul x y = none := by
  unfold Format.mul; rw [read_nan y h]; cases double.read x <;> rfl
theorem div_nan_l (x y : Nat) (h : INF < x % 9223372036854775808) : double.div x y = none := by
  unfold Format.div; rw [read_nan x h]; rfl
theorem div_nan_r (x y : Nat) (h : INF < y % 9223372036854775808) : double.div x y = none := by
  unfold Format.div; rw [read_nan y h]; cases double.read x <;> rfl

/-- the other sign -/
def flip (w : Nat) : Nat := if w < 9223372036854775808 then w + 9223372036854775808 else w - 9223372036854775808

theorem flip_mod (w : Nat) (h : w < 18446744073709551616) : flip w % 9223372036854775808 = w % 9223372036854775808 := by unfold flip; split <;> omega
theorem flip_neg (w : Nat) (h : w < 18446744073709551616) : (flip w / 9223372036854775808 % 2 == 1) = !(w / 9223372036854775808 % 2 == 1) := by
  unfold flip
  split
  · rename_i c
    have a : (w + 9223372036854775808) / 9223372036854775808 % 2 = 1 := by omega
    have b : w / 9223372036854775808 % 2 = 0 := by omega
    rw [a, b]; rfl
  · rename_i c
    have a : (w - 9223372036854775808) / 9223372036854775808 % 2 = 0 := by omega
    have b : w / 9223372036854775808 % 2 = 1 := by omega
    rw [a, b]; rfl

theorem read_flip (w : Nat) (h : w < 18446744073709551616) : double.read (flip w) = (double.read w).opposite := by
  have hm := flip_mod w h
  have hn := flip_neg w h
  by_cases c : w % 9223372036854775808 < INF
  · rw [read_fin w c, read_fin _ (by rw [hm]; exact c), hm, hn]; rfl
  · by_cases d : w % 9223372036854775808 = INF
    · rw [read_inf w d, read_inf _ (by rw [hm]; exact d), hn]; rfl
    · rw [read_nan w (by omega), read_nan _ (by rw [hm]; omega), hm, hn]; rfl

theorem sub_eq (x y : Nat) (h : y < 18446744073709551616) : double.sub x y = double.add x (flip y) := by
  unfold Format.sub Format.add; rw [read_flip y h]


/-- m / 2^d, rounded to the nearest, ties to even -/
def rne (n d : Nat) : Nat := n / 2 ^ d + (if 2 ^ d < 2 * (n % 2 ^ d) ∨ (2 ^ d = 2 * (n % 2 ^ d) ∧ n / 2 ^ d % 2 = 1) then 1 else 0)

/-- the 53 digits that are kept of a whole number -/
def K (m : Nat) : Nat := if m.log2 ≤ 52 then m * 2 ^ (52 - m.log2) else rne m (m.log2 - 52)

theorem cut_eq (s : Bool) (n d : Nat) (h : d ≤ n.log2 + 2) : Toward.even.cut s n d = rne n d := by
  unfold Toward.cut rne
  simp only [Nat.min_eq_left h, Nat.shiftLeft_eq, Nat.one_mul]
  congr 1
  by_cases a : 2 ^ d < 2 * (n % 2 ^ d)
  · simp [a]
  · by_cases b : 2 ^ d = 2 * (n % 2 ^ d) ∧ n / 2 ^ d % 2 = 1
    · have t : (2 ^ d == 2 * (n % 2 ^ d) && n / 2 ^ d % 2 == 1) = true := by simp only [Bool.and_eq_true, beq_iff_eq]; exact b
      rw [if_pos (Or.inr b), t, Bool.or_true]; rfl
    · rw [if_neg (by omega)]
      simp only [decide_eq_false a, Bool.false_or]
      rw [Bool.toNat_eq_zero]
      simp only [Bool.and_eq_false_iff, beq_eq_false_iff_ne]
      omega

theorem rne_zero (n : Nat) : rne n 0 = n := by unfold rne; simp [Nat.mod_one]

theorem log2_mul_pow (m k : Nat) (h : 0 < m) : (m * 2 ^ k).log2 = m.log2 + k := by
  have h1 := Nat.log2_self_le (n := m) (by omega)
  have h2 := Nat.lt_log2_self (n := m)
  have p := Nat.two_pow_pos k
  have hne : m * 2 ^ k ≠ 0 := Nat.ne_of_gt (Nat.mul_pos h p)
  have a : m.log2 + k ≤ (m * 2 ^ k).log2 := (Nat.le_log2 hne).2 (by rw [Nat.pow_add]; exact Nat.mul_le_mul_right _ h1)
  have b : (m * 2 ^ k).log2 < m.log2 + k + 1 := (Nat.log2_lt hne).2 (by rw [show m.log2 + k + 1 = m.log2 + 1 + k by omega, Nat.pow_add]; exact Nat.mul_lt_mul_of_pos_right h2 p)
  omega

theorem K_eq (m : Nat) (h : 0 < m) (hm : m < 18446744073709551616) :
    K m = m * 2 ^ (63 - m.log2) / 2048 + (if 1024 < m * 2 ^ (63 - m.log2) % 2048 ∨ (m * 2 ^ (63 - m.log2) % 2048 = 1024 ∧ m * 2 ^ (63 - m.log2) / 2048 % 2 = 1) then 1 else 0) := by
  have hl : m.log2 < 64 := (Nat.log2_lt (by omega)).2 (by simpa using hm)
  unfold K
  by_cases c : m.log2 ≤ 52
  · rw [if_pos c, show 63 - m.log2 = (52 - m.log2) + 11 by omega, Nat.pow_add, ← Nat.mul_assoc]
    generalize m * 2 ^ (52 - m.log2) = q
    rw [if_neg (by omega)]; omega
  · rw [if_neg c]
    unfold rne
    obtain ⟨d, hd⟩ : ∃ d, m.log2 = 52 + d := ⟨m.log2 - 52, by omega⟩
    rw [hd] at hl c ⊢
    have hd2 : 1 ≤ d ∧ d ≤ 11 := by omega
    rw [show 52 + d - 52 = d by omega, show 63 - (52 + d) = 11 - d by omega]
    have : d = 1 ∨ d = 2 ∨ d = 3 ∨ d = 4 ∨ d = 5 ∨ d = 6 ∨ d = 7 ∨ d = 8 ∨ d = 9 ∨ d = 10 ∨ d = 11 := by omega
    rcases this with rfl | rfl | rfl | rfl | rfl | rfl | rfl | rfl | rfl | rfl | rfl <;> simp only [Nat.reducePow, Nat.reduceSub] <;> split <;> split <;> omega

theorem K_bounds (m : Nat) (h : 0 < m) (hm : m < 18446744073709551616) : 4503599627370496 ≤ K m ∧ K m ≤ 9007199254740992 := by
  rw [K_eq m h hm]
  have h1 := Nat.log2_self_le (n := m) (by omega)
  have h2 := Nat.lt_log2_self (n := m)
  have hl : m.log2 < 64 := (Nat.log2_lt (by omega)).2 (by simpa using hm)
  have a : 9223372036854775808 ≤ m * 2 ^ (63 - m.log2) := by
    have := Nat.mul_le_mul_right (2 ^ (63 - m.log2)) h1
    rw [← Nat.pow_add, show m.log2 + (63 - m.log2) = 63 by omega] at this
    simpa using this
  have b : m * 2 ^ (63 - m.log2) < 18446744073709551616 := by
    have := Nat.mul_lt_mul_of_pos_right h2 (Nat.two_pow_pos (63 - m.log2))
    rw [← Nat.pow_add, show m.log2 + 1 + (63 - m.log2) = 64 by omega] at this
    simpa using this
  generalize m * 2 ^ (63 - m.log2) = M at *
  split <;> omega

/-- the word of a whole number -/
def ofMag (s : Bool) (m : Nat) : Nat := if m = 0 then (if s then 9223372036854775808 else 0) else (if s then 9223372036854775808 else 0) + ((1022 + m.log2) * 4503599627370496 + K m)

theorem word_eq (s : Bool) (r : Nat) : double.word s r = (if s then 9223372036854775808 else 0) + r := by
  unfold Format.word
  have : double.signWeight = 9223372036854775808 := by decide
  rw [this]; split <;> simp

theorem nearest_scaled (s : Bool) (m k : Nat) (h : 0 < m) (hm : m < 18446744073709551616) (hx : m.log2 ≤ 52 ∨ k = 0 ∨ m = 9007199254740992) : double.nearest s (m * 2 ^ k) (-(k : Int)) = ofMag s m := by
  have hl : m.log2 < 64 := (Nat.log2_lt (by omega)).2 (by simpa using hm)
  have kb := K_bounds m h hm
  unfold Format.nearest ofMag
  have hne : m * 2 ^ k ≠ 0 := Nat.ne_of_gt (Nat.mul_pos h (Nat.two_pow_pos k))
  rw [if_neg hne, if_neg (by omega)]
  have h2 : double.binade = 4503599627370496 := by decide
  have h3 : double.infRung = 9218868437227405312 := by decide
  have h4 : double.leastPlace = -1074 := by decide
  have h5 : double.fractionBits = 52 := by decide
  simp only [h2, h3, h4, h5, log2_mul_pow m k h]
  have e1 : max (-(k : Int) + ((m.log2 + k : Nat) : Int) - ((52 : Nat) : Int)) (-1074) = (m.log2 : Int) - 52 := by omega
  rw [e1, word_eq]
  have e2 : ((m.log2 : Int) - 52 - -1074).toNat = 1022 + m.log2 := by omega
  rw [e2]
  have e3 : Toward.even.cut s ((m * 2 ^ k) <<< (-(k : Int) - ((m.log2 : Int) - 52)).toNat) ((m.log2 : Int) - 52 - -(k : Int)).toNat = K m := by
    unfold K
    by_cases c : m.log2 ≤ 52
    · rw [if_pos c]
      by_cases d : k + m.log2 ≤ 52
      · rw [show ((m.log2 : Int) - 52 - -(k : Int)).toNat = 0 by omega, cut_eq _ _ _ (by omega), rne_zero, Nat.shiftLeft_eq, Nat.mul_assoc, ← Nat.pow_add]
        congr 2; omega
      · rw [show (-(k : Int) - ((m.log2 : Int) - 52)).toNat = 0 by omega, Nat.shiftLeft_zero]
        rw [show ((m.log2 : Int) - 52 - -(k : Int)).toNat = k + m.log2 - 52 by omega]
        rw [cut_eq _ _ _ (by rw [log2_mul_pow m k h]; omega)]
        have : m * 2 ^ k = m * 2 ^ (52 - m.log2) * 2 ^ (k + m.log2 - 52) := by rw [Nat.mul_assoc, ← Nat.pow_add]; congr 2; omega
        rw [this]
        unfold rne
        rw [Nat.mul_mod_left, Nat.mul_div_left _ (Nat.two_pow_pos _)]
        have := Nat.two_pow_pos (k + m.log2 - 52)
        rw [if_neg (by omega)]; omega
    · rw [if_neg c]
      rcases hx with hx | hx | hx
      · exact absurd hx c
      · subst hx
        rw [show (-((0 : Nat) : Int) - ((m.log2 : Int) - 52)).toNat = 0 by omega, Nat.shiftLeft_zero]
        rw [show ((m.log2 : Int) - 52 - -((0 : Nat) : Int)).toNat = m.log2 - 52 by omega, Nat.pow_zero, Nat.mul_one]
        exact cut_eq _ _ _ (by omega)
      · subst hx
        have hl2 : Nat.log2 9007199254740992 = 53 := by decide
        rw [hl2]
        rw [show (-(k : Int) - (((53 : Nat) : Int) - 52)).toNat = 0 by omega, Nat.shiftLeft_zero]
        rw [show (((53 : Nat) : Int) - 52 - -(k : Int)).toNat = k + 1 by omega]
        rw [cut_eq _ _ _ (by rw [log2_mul_pow _ k (by decide), hl2]; omega)]
        have : 9007199254740992 * 2 ^ k = 4503599627370496 * 2 ^ (k + 1) := by rw [Nat.pow_succ]; omega
        rw [this]
        unfold rne
        rw [Nat.mul_mod_left, Nat.mul_div_left _ (Nat.two_pow_pos _)]
        have := Nat.two_pow_pos (k + 1)
        rw [if_neg (by omega)]
        decide
  rw [e3]
  rw [Nat.min_eq_left (by omega)]

theorem nearest_int (s : Bool) (m : Nat) (hm : m < 18446744073709551616) : double.nearest s m 0 = ofMag s m := by
  by_cases z : m = 0
  · subst z; unfold Format.nearest ofMag; rw [if_pos rfl, if_pos rfl, word_eq, Nat.add_zero]
  · have := nearest_scaled s m 0 (by omega) hm (Or.inr (Or.inl rfl))
    simpa using this


/-- the word of an int64 -/
def ofI (n : Int) : Nat := ofMag (decide (n < 0)) n.natAbs

theorem ofI_eq (n : Int) (h : n.natAbs < 18446744073709551616) : floatOfInt .f64 n = ofI n := by
  unfold floatOfInt FloatKind.nearest FloatKind.encode FloatKind.format Format.write ofI
  exact nearest_int _ _ h

theorem read_ofMag (s : Bool) (m : Nat) (h : 0 < m) (hl : m.log2 ≤ 52) : double.read (ofMag s m) = .number s (m * 2 ^ (52 - m.log2)) (-((52 - m.log2 : Nat) : Int)) := by
  have h1 := Nat.log2_self_le (n := m) (by omega)
  have h2 := Nat.lt_log2_self (n := m)
  have hK : K m = m * 2 ^ (52 - m.log2) := by unfold K; rw [if_pos hl]
  have a : 4503599627370496 ≤ m * 2 ^ (52 - m.log2) := by
    have := Nat.mul_le_mul_right (2 ^ (52 - m.log2)) h1
    rw [← Nat.pow_add, show m.log2 + (52 - m.log2) = 52 by omega] at this
    simpa using this
  have b : m * 2 ^ (52 - m.log2) < 9007199254740992 := by
    have := Nat.mul_lt_mul_of_pos_right h2 (Nat.two_pow_pos (52 - m.log2))
    rw [← Nat.pow_add, show m.log2 + 1 + (52 - m.log2) = 53 by omega] at this
    simpa using this
  have e : ofMag s m = (if s then 9223372036854775808 else 0) + ((1022 + m.log2) * 4503599627370496 + K m) := by unfold ofMag; rw [if_neg (by omega)]
  rw [hK] at e
  generalize m * 2 ^ (52 - m.log2) = q at *
  have em : ofMag s m % 9223372036854775808 = (1022 + m.log2) * 4503599627370496 + q := by rw [e]; split <;> omega
  have en : (ofMag s m / 9223372036854775808 % 2 == 1) = s := by
    rw [e]
    cases s
    · have : (0 + ((1022 + m.log2) * 4503599627370496 + q)) / 9223372036854775808 % 2 = 0 := by omega
      simp only [Bool.false_eq_true, if_false]
      rw [this]; rfl
    · have : (9223372036854775808 + ((1022 + m.log2) * 4503599627370496 + q)) / 9223372036854775808 % 2 = 1 := by omega
      simp only [if_true]
      rw [this]; rfl
  rw [read_fin _ (by rw [em]; unfold INF; omega), em, en]
  have e1 : sig ((1022 + m.log2) * 4503599627370496 + q) = q := by unfold sig; rw [if_neg (by omega)]; omega
  have e2 : up ((1022 + m.log2) * 4503599627370496 + q) = 1022 + m.log2 := by unfold up; omega
  rw [e1, e2]
  congr 1
  unfold L; omega

theorem read_ofI (n : Int) (h : n.natAbs ≤ 4503599627370496) : ∃ k : Nat, double.read (ofI n) = .number (decide (n < 0)) (n.natAbs * 2 ^ k) (-(k : Int)) := by
  by_cases z : n.natAbs = 0
  · obtain rfl : n = 0 := by omega
    exact ⟨1074, by decide +kernel⟩
  · have hl : n.natAbs.log2 ≤ 52 := by
      have := (Nat.log2_lt (n := n.natAbs) z (k := 53)).2 (by simp only [Nat.reducePow]; omega)
      omega
    exact ⟨_, read_ofMag _ _ (by omega) hl⟩

theorem signed_abs (n : Int) (k j : Nat) : Ieee.signed (decide (n < 0)) (n.natAbs * 2 ^ k) j = n * 2 ^ (k + j) := by
  rw [signed_mul, Int.pow_add, ← Int.mul_assoc, Int.natCast_mul, ← Int.mul_assoc]
  congr 1
  have : ((2 ^ k : Nat) : Int) = 2 ^ k := by simp
  rw [this]
  congr 1
  by_cases c : n < 0
  · simp only [c, decide_true, if_true]; omega
  · simp only [c, decide_false, Bool.false_eq_true, if_false]; omega

theorem add_ints (n m : Int) (hn : n.natAbs ≤ 4503599627370496) (hm : m.natAbs ≤ 4503599627370496) : double.add (ofI n) (ofI m) = some (ofI (n + m)) := by
  obtain ⟨k, hk⟩ := read_ofI n hn
  obtain ⟨j, hj⟩ := read_ofI m hm
  unfold Format.add
  rw [hk, hj]
  unfold Datum.sum
  simp only [Option.map_some, Option.some.injEq]
  have e0 : min (-(k : Int)) (-(j : Int)) = -((max k j : Nat) : Int) := by omega
  rw [e0, signed_abs, signed_abs]
  rw [show k + (-(k : Int) - -((max k j : Nat) : Int)).toNat = max k j by omega, show j + (-(j : Int) - -((max k j : Nat) : Int)).toNat = max k j by omega]
  rw [← Int.add_mul]
  generalize max k j = q
  have hp : (0 : Int) < 2 ^ q := Int.pow_pos (by decide)
  unfold Format.write
  simp only
  by_cases z : n + m = 0
  · rw [z, Int.zero_mul, if_pos rfl]
    have : (decide (n < 0) && decide (m < 0)) = false := by
      rw [Bool.and_eq_false_iff]; simp only [decide_eq_false_iff_not]; omega
    rw [this]
    unfold Format.nearest ofI ofMag
    simp only [Int.natAbs_zero, if_pos]
    rw [word_eq]; simp
  · have hz : (n + m) * 2 ^ q ≠ 0 := Int.mul_ne_zero z (by omega)
    rw [if_neg hz]
    have hs : decide ((n + m) * 2 ^ q < 0) = decide (n + m < 0) := by
      by_cases c : n + m < 0
      · have := Int.mul_neg_of_neg_of_pos c hp
        rw [decide_eq_true c, decide_eq_true this]
      · have := Int.mul_pos (show 0 < n + m by omega) hp
        rw [decide_eq_false c, decide_eq_false (by omega)]
    have ha : ((n + m) * 2 ^ q).natAbs = (n + m).natAbs * 2 ^ q := by
      rw [Int.natAbs_mul, Int.natAbs_pow]; rfl
    rw [hs, ha]
    unfold ofI
    refine nearest_scaled _ _ _ (by omega) (by omega) ?_
    by_cases c : (n + m).natAbs = 9007199254740992
    · exact Or.inr (Or.inr c)
    · left
      have := (Nat.log2_lt (n := (n + m).natAbs) (by omega) (k := 53)).2 (by simp only [Nat.reducePow]; omega)
      omega

theorem order_ints (n m : Int) (hn : n.natAbs ≤ 4503599627370496) (hm : m.natAbs ≤ 4503599627370496) : double.order (ofI n) (ofI m) = some (compare n m) := by
  obtain ⟨k, hk⟩ := read_ofI n hn
  obtain ⟨j, hj⟩ := read_ofI m hm
  unfold Format.order
  rw [hk, hj]
  unfold Datum.order
  simp only [Option.some.injEq]
  have e0 : min (-(k : Int)) (-(j : Int)) = -((max k j : Nat) : Int) := by omega
  rw [e0, signed_abs, signed_abs]
  rw [show k + (-(k : Int) - -((max k j : Nat) : Int)).toNat = max k j by omega, show j + (-(j : Int) - -((max k j : Nat) : Int)).toNat = max k j by omega]
  exact cmp_mul _ _ _ (Int.pow_pos (by decide))

end Go.Fl
