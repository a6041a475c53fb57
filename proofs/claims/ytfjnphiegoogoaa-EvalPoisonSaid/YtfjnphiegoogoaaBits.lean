/- Plain facts on bits of 64-bit numbers: no Go in sight. -/
import Derived.Laws.BitsAllLaws
namespace Go.Fl
open Go

theorem or_top (a : Nat) (h : a < 9223372036854775808) : a ||| 9223372036854775808 = a + 9223372036854775808 := by
  have o := Nat.two_pow_add_eq_or_of_lt (i := 63) (b := a) (by simpa using h) 1
  rw [Nat.mul_one] at o
  rw [show (9223372036854775808 : Nat) = 2 ^ 63 by decide, Nat.add_comm, o, Nat.or_comm]

theorem xor_top (a : Nat) (h : a < 9223372036854775808) : a ^^^ 9223372036854775808 = a + 9223372036854775808 := by
  have o := or_top a h
  rw [← o]
  have h : a < 2 ^ 63 := by simpa using h
  rw [show (9223372036854775808 : Nat) = 2 ^ 63 by decide]
  apply Nat.eq_of_testBit_eq; intro i
  rw [Nat.testBit_xor, Nat.testBit_or, Nat.testBit_two_pow]
  by_cases c : 63 = i
  · subst c; rw [Nat.testBit_lt_two_pow h]; decide
  · simp [c]

theorem xor_top' (a : Nat) (h : 9223372036854775808 ≤ a) (h2 : a < 18446744073709551616) : a ^^^ 9223372036854775808 = a - 9223372036854775808 := by
  obtain ⟨b, rfl⟩ : ∃ b, a = b + 9223372036854775808 := ⟨a - 9223372036854775808, by omega⟩
  rw [← xor_top b (by omega), Nat.xor_assoc, Nat.xor_self, Nat.xor_zero, xor_top b (by omega)]
  omega

theorem not_all (a : Nat) (h : a < 18446744073709551616) : a ^^^ 18446744073709551615 = 18446744073709551615 - a := by
  have key : (BitVec.ofNat 64 a ^^^ BitVec.allOnes 64).toNat = 18446744073709551615 - a := by
    rw [BitVec.xor_allOnes, BitVec.toNat_not]
    simp [Nat.mod_eq_of_lt h]
  rw [BitVec.toNat_xor] at key
  simpa [Nat.mod_eq_of_lt h] using key

theorem and_top_hi (a : Nat) (h : 9223372036854775808 ≤ a) (h2 : a < 18446744073709551616) : a &&& 9223372036854775808 = 9223372036854775808 := by
  rw [show (9223372036854775808 : Nat) = 2 ^ 63 by decide, nat_bit]
  have : a / 2 ^ 63 % 2 = 1 := by omega
  rw [this, Nat.one_mul]

theorem and_top_lo (a : Nat) (h : a < 9223372036854775808) : a &&& 9223372036854775808 = 0 := by
  rw [show (9223372036854775808 : Nat) = 2 ^ 63 by decide, nat_bit]
  have : a / 2 ^ 63 % 2 = 0 := by omega
  rw [this, Nat.zero_mul]

theorem and_low (n : Nat) (h : n < 18446744073709551616) : bits .and .u64 (n : Int) 4503599627370495 = ((n % 4503599627370496 : Nat) : Int) := by
  rw [show (4503599627370495 : Int) = ((4503599627370495 : Nat) : Int) by rfl, u64_and_nat n _ h (by decide)]
  rw [show (4503599627370495 : Nat) = 2 ^ 52 - 1 by decide, Nat.and_two_pow_sub_one_eq_mod]

theorem and_exp (n : Nat) (h : n < 18446744073709551616) : bits .and .u64 ((n : Int) / 4503599627370496) 2047 = ((n / 4503599627370496 % 2048 : Nat) : Int) := by
  rw [show (2047 : Int) = ((2047 : Nat) : Int) by rfl, show ((n : Int) / 4503599627370496) = ((n / 4503599627370496 : Nat) : Int) by omega, u64_and_nat _ _ (by omega) (by decide)]
  rw [show (2047 : Nat) = 2 ^ 11 - 1 by decide, Nat.and_two_pow_sub_one_eq_mod]

end Go.Fl
