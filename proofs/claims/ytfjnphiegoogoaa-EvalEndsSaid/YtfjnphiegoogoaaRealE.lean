/- What OfInt answers, in package real and in the document's, as contracts, for every whole number. -/
import Derived.Test.YtfjnphiegoogoaaRealD
import Derived.LoopTactic
import Derived.WalkSmall
namespace Go.Proofs.Ytfjnphiegoogoaa
open Go.ChangeShapes Go.WideShapes Go.ChangeAt Go.RowKit Go.Fl

theorem ofMag_bound (s : Bool) (m : Nat) (h : m < 18446744073709551616) : ofMag s m % 9223372036854775808 < INF ∧ ofMag s m < 18446744073709551616 := by
  unfold ofMag INF
  by_cases z : m = 0
  · rw [if_pos z]; split <;> omega
  · rw [if_neg z]
    have k := K_bounds m (by omega) h
    have l : m.log2 < 64 := (Nat.log2_lt (by omega)).2 (by simpa using h)
    split <;> omega
theorem cn_ofI (n : Int) (h : n.natAbs < 18446744073709551616) : cn (ofI n) = ofI n := by
  have := (ofMag_bound (decide (n < 0)) n.natAbs h).1
  exact cn_num (by unfold ofI; omega)
theorem ofI_lt (n : Int) (h : n.natAbs < 18446744073709551616) : ofI n < 18446744073709551616 := (ofMag_bound _ _ h).2

theorem ofint_any (n : Int) (w : World) (h1 : -9223372036854775808 ≤ n) (h2 : n ≤ 9223372036854775807) :
    Calls Try.prog 41 #[.int .i64 n] w fun e w' => e = .returned (.int .u64 ((ofI n : Nat) : Int)) ∧ w = w' := by
  have hb : n.natAbs < 18446744073709551616 := by omega
  have c := bitsOf_any (floatOfInt .f64 n) w (by rw [ofI_eq n hb]; exact ofI_lt n hb)
  rw [show cn (floatOfInt .f64 n) = ofI n by rw [ofI_eq n hb, cn_ofI n hb]] at c
  have C := Lib.hid c
  clear c hb h1 h2
  go_enter Try.func41, Try.ntmps41
  go_wp2_with (go_at_call 66; refine C.out.mono ?_; rintro e w' ⟨rfl, rfl⟩)
  go_ret
  exact ⟨rfl, rfl⟩

theorem and_2047 (z : Int) (h0 : 0 ≤ z) (h1 : z ≤ 18446744073709551615) : bits .and .u64 z 2047 = z % 2048 := by
  obtain ⟨n, rfl⟩ := Int.eq_ofNat_of_zero_le h0
  rw [show (2047 : Int) = ((2047 : Nat) : Int) by rfl, u64_and_nat n _ (by omega) (by decide)]
  rw [show (2047 : Nat) = 2 ^ 11 - 1 by decide, Nat.and_two_pow_sub_one_eq_mod]; simp

/-- the loop's relation: m shifted k times, e lowered as often -/
def IntR (M : Nat) (m e : Value) : Prop := ∃ k : Nat, k ≤ 63 - M.log2 ∧ m = .int .u64 ((M * 2 ^ k : Nat) : Int) ∧ e = .int .i64 (63 - (k : Int))

theorem fin_eq (n : Int) (z : Int) (k : Nat) (hn : n ≠ 0) (hb : n.natAbs < 18446744073709551616) (HZ : z = ((n.natAbs * 2 ^ k : Nat) : Int)) (hk : k ≤ 63 - n.natAbs.log2) (hlt : ¬ k < 63 - n.natAbs.log2) :
    ((ofI n : Nat) : Int) = (if n < 0 then 9223372036854775808 else 0) + (1022 + (63 - (k : Int))) * 4503599627370496 + (z / 2048 + (if 1024 < z % 2048 ∨ (z % 2048 = 1024 ∧ z / 2048 % 2 = 1) then 1 else 0)) := by
  have hl : n.natAbs.log2 < 64 := (Nat.log2_lt (by omega)).2 (by simpa using hb)
  obtain rfl : k = 63 - n.natAbs.log2 := by omega
  unfold ofI ofMag
  rw [if_neg (by omega), K_eq n.natAbs (by omega) hb]
  generalize n.natAbs * 2 ^ (63 - n.natAbs.log2) = Z at *
  subst HZ
  by_cases c : n < 0
  · simp only [c, decide_true, if_true]
    split <;> split <;> omega
  · simp only [c, decide_false, Bool.false_eq_true, if_false]
    split <;> split <;> omega

theorem z_facts (n : Int) (k : Nat) (hn : n ≠ 0) (hb : n.natAbs < 18446744073709551616) (hk : k ≤ 63 - n.natAbs.log2) :
    n.natAbs * 2 ^ k ≤ 18446744073709551615 ∧ (k < 63 - n.natAbs.log2 → n.natAbs * 2 ^ k < 9223372036854775808) ∧ (¬ k < 63 - n.natAbs.log2 → 9223372036854775808 ≤ n.natAbs * 2 ^ k) := by
  have hl : n.natAbs.log2 < 64 := (Nat.log2_lt (by omega)).2 (by simpa using hb)
  have hz : n.natAbs * 2 ^ k ≠ 0 := Nat.ne_of_gt (Nat.mul_pos (by omega) (Nat.two_pow_pos k))
  have e := log2_mul_pow n.natAbs k (by omega)
  refine ⟨?_, fun h => ?_, fun h => ?_⟩
  · have := (Nat.log2_lt hz (k := 64)).1 (by omega)
    simp only [Nat.reducePow] at this; omega
  · have := (Nat.log2_lt hz (k := 63)).1 (by omega)
    simp only [Nat.reducePow] at this; omega
  · have := (Nat.le_log2 hz (k := 63)).1 (by omega)
    simp only [Nat.reducePow] at this; omega

theorem rofint_pos (n : Int) (w : World) (h1 : 1 ≤ n) (h2 : n ≤ 9223372036854775807) :
    Calls Try.prog 63 #[.int .i64 n] w fun e w' => e = .returned (.int .u64 ((ofI n : Nat) : Int)) ∧ w = w' := by
  have F := Lib.hid (fun k z => fin_eq n z k (by omega) (by omega))
  have Z := Lib.hid (fun k => z_facts n k (by omega) (by omega))
  have hs : Hid (n = ((n.natAbs * 2 ^ 0 : Nat) : Int)) := Lib.hid (by simp; omega)
  go_enter Try.func63, Try.ntmps63
  go_wp2
  go_loop [3, 5] (fun m e => IntR n.natAbs m e) (fun _ e => (intOf e).toNat)
  case atStart => exact ⟨0, Nat.zero_le _, by rw [← hs.out], rfl⟩
  case round =>
    obtain ⟨k, hk, rfl, rfl⟩ := hrel
    obtain ⟨z, hz, z0, z1⟩ : ∃ z : Int, z = ((n.natAbs * 2 ^ k : Nat) : Int) ∧ 0 ≤ z ∧ z ≤ 18446744073709551615 := ⟨_, rfl, Int.natCast_nonneg _, by have := (Z.out k hk).1; omega⟩
    rw [← hz]
    by_cases hlt : k < 63 - n.natAbs.log2
    · have hz2 : z < 9223372036854775808 := by have := (Z.out k hk).2.1 hlt; omega
      have HZ := Lib.hid hz
      clear hz
      go_wp2
      go_round
      case rel => exact ⟨k + 1, by omega, by rw [HZ.out, Nat.pow_succ, ← Nat.mul_assoc]; rfl, by go_num⟩
      case measure => simp [intOf]; omega
    · have hz2 : 9223372036854775808 ≤ z := by have := (Z.out k hk).2.2 hlt; omega
      have hr := and_2047 z z0 z1
      have hq := and_one_u64 (z / 2048) (by omega) (by omega)
      have E := Lib.hid (F.out k z hz hk hlt)
      clear hz
      go_wp2
      all_goals go_ret
      all_goals refine ⟨ret_int ?_, rfl⟩
      all_goals rw [E.out]
      all_goals simp only [beq_iff_eq, beq_eq_false_iff_ne] at *
      all_goals split
      all_goals split
      all_goals omega

theorem rofint_neg (n : Int) (w : World) (h1 : -9223372036854775808 ≤ n) (h2 : n ≤ -1) :
    Calls Try.prog 63 #[.int .i64 n] w fun e w' => e = .returned (.int .u64 ((ofI n : Nat) : Int)) ∧ w = w' := by
  have F := Lib.hid (fun k z => fin_eq n z k (by omega) (by omega))
  have Z := Lib.hid (fun k => z_facts n k (by omega) (by omega))
  have hs : Hid (IntKind.u64.wrap (-IntKind.u64.wrap n) = ((n.natAbs * 2 ^ 0 : Nat) : Int)) := Lib.hid (by rw [IntKind.wrap_u64, IntKind.wrap_u64, Nat.pow_zero, Nat.mul_one]; omega)
  go_enter Try.func63, Try.ntmps63
  go_wp2
  go_loop [3, 5] (fun m e => IntR n.natAbs m e) (fun _ e => (intOf e).toNat)
  case atStart => exact ⟨0, Nat.zero_le _, by rw [hs.out], rfl⟩
  case round =>
    obtain ⟨k, hk, rfl, rfl⟩ := hrel
    obtain ⟨z, hz, z0, z1⟩ : ∃ z : Int, z = ((n.natAbs * 2 ^ k : Nat) : Int) ∧ 0 ≤ z ∧ z ≤ 18446744073709551615 := ⟨_, rfl, Int.natCast_nonneg _, by have := (Z.out k hk).1; omega⟩
    rw [← hz]
    by_cases hlt : k < 63 - n.natAbs.log2
    · have hz2 : z < 9223372036854775808 := by have := (Z.out k hk).2.1 hlt; omega
      have HZ := Lib.hid hz
      clear hz
      go_wp2
      go_round
      case rel => exact ⟨k + 1, by omega, by rw [HZ.out, Nat.pow_succ, ← Nat.mul_assoc]; rfl, by go_num⟩
      case measure => simp [intOf]; omega
    · have hz2 : 9223372036854775808 ≤ z := by have := (Z.out k hk).2.2 hlt; omega
      have hr := and_2047 z z0 z1
      have hq := and_one_u64 (z / 2048) (by omega) (by omega)
      have E := Lib.hid (F.out k z hz hk hlt)
      clear hz
      go_wp2
      all_goals go_ret
      all_goals refine ⟨ret_int ?_, rfl⟩
      all_goals rw [E.out]
      all_goals simp only [beq_iff_eq, beq_eq_false_iff_ne] at *
      all_goals split
      all_goals split
      all_goals omega

theorem rofint_any (n : Int) (w : World) (h1 : -9223372036854775808 ≤ n) (h2 : n ≤ 9223372036854775807) :
    Calls Try.prog 63 #[.int .i64 n] w fun e w' => e = .returned (.int .u64 ((ofI n : Nat) : Int)) ∧ w = w' := by
  by_cases z : n = 0
  · subst z
    have E := Lib.hid (show (0 : Int) = ((ofI 0 : Nat) : Int) by decide)
    go_enter Try.func63, Try.ntmps63
    go_wp2
    go_ret
    exact ⟨ret_int E.out, rfl⟩
  · by_cases p : 0 < n
    · exact rofint_pos n w (by omega) h2
    · exact rofint_neg n w h1 (by omega)
end Go.Proofs.Ytfjnphiegoogoaa
