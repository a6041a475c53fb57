/- What the functions of package real and of the document's package auspiceref01 answer, as contracts, for every input. -/
import Derived.Test.YtfjnphiegoogoaaReal
import Derived.Test.YtfjnphiegoogoaaBits
namespace Go.Proofs.Ytfjnphiegoogoaa
open Go.ChangeShapes Go.WideShapes Go.ChangeAt Go.RowKit Go.Fl

theorem ret_int {k : IntKind} {a b : Int} (h : a = b) : Ending.returned (.int k a) = .returned (.int k b) := by rw [h]
theorem ret_bool {a b : Bool} (h : a = b) : Ending.returned (.bool a) = .returned (.bool b) := by rw [h]

theorem isNan_any (n : Nat) (w : World) (hn : n < 18446744073709551616) :
    Calls Try.prog 56 #[.int .u64 (n : Int)] w fun e w' => e = .returned (.bool (decide (INF < n % 9223372036854775808))) ∧ w = w' := by
  by_cases hE : n / 4503599627370496 % 2048 = 2047
  · have e1 : bits .and .u64 ((n : Int) / 4503599627370496) 2047 = 2047 := by rw [and_exp n hn, hE]; rfl
    by_cases hl : n % 4503599627370496 = 0
    · have e2 : bits .and .u64 (n : Int) 4503599627370495 = 0 := by rw [and_low n hn, hl]; rfl
      rw [decide_eq_false (by unfold INF; omega)]
      clear hE hl hn
      go_enter Try.func56, Try.ntmps56
      go_wp2
      go_ret
      exact ⟨rfl, rfl⟩
    · have e2 : (bits .and .u64 (n : Int) 4503599627370495 != 0) = true := by rw [and_low n hn]; simp; omega
      rw [decide_eq_true (by unfold INF; omega)]
      clear hE hl hn
      go_enter Try.func56, Try.ntmps56
      go_wp2
      go_ret
      exact ⟨rfl, rfl⟩
  · have e1 : (bits .and .u64 ((n : Int) / 4503599627370496) 2047 == 2047) = false := by rw [and_exp n hn]; simp; omega
    rw [decide_eq_false (by unfold INF; omega)]
    clear hE
    go_enter Try.func56, Try.ntmps56
    go_wp2
    go_ret
    exact ⟨rfl, rfl⟩

theorem rcanon_any (n : Nat) (w : World) (hn : n < 18446744073709551616) :
    Calls Try.prog 30 #[.int .u64 (n : Int)] w fun e w' => e = .returned (.int .u64 ((cn n : Nat) : Int)) ∧ w = w' := by
  have hc := isNan_any n w hn
  by_cases h : INF < n % 9223372036854775808
  · rw [decide_eq_true h] at hc
    rw [cn_nan h]
    have H := Lib.hid hc
    clear h hc
    go_enter Try.func30, Try.ntmps30
    go_wp2_with (go_at_call 56; refine H.out.mono ?_; rintro e w' ⟨rfl, rfl⟩)
    go_ret
    exact ⟨rfl, rfl⟩
  · rw [decide_eq_false h] at hc
    rw [cn_num h]
    have H := Lib.hid hc
    clear h hc
    go_enter Try.func30, Try.ntmps30
    go_wp2_with (go_at_call 56; refine H.out.mono ?_; rintro e w' ⟨rfl, rfl⟩)
    go_ret
    exact ⟨rfl, rfl⟩

theorem rfloat_any (n : Nat) (w : World) (hn : n < 18446744073709551616) :
    Calls Try.prog 86 #[.int .u64 (n : Int)] w fun e w' => e = .returned (.float .f64 (cn n)) ∧ w = w' := by
  have hf := frombits
  go_enter Try.func86, Try.ntmps86
  go_wp2_with (go_at_call 30; refine (rcanon_any _ _ hn).mono ?_; rintro e w' ⟨rfl, rfl⟩)
  go_ret
  exact ⟨rfl, rfl⟩

/-! ### sums, differences, products, quotients -/

theorem fres_lt (op : BinOp) (a b : Nat) (w : World) : fres op a b w < 18446744073709551616 := by
  unfold fres
  cases h : floatBits op .f64 a b with
  | some r =>
    have := floatBits_wf h
    simpa [Lit.wf] using this
  | none =>
    have : ∀ t : Nat, t % 2 * 2 ^ 63 + 9218868437227405312 + 1 + t / 2 % (2 ^ 52 - 1) < 18446744073709551616 := fun t => by
      have h : t / 2 % (2 ^ 52 - 1) < 2 ^ 52 - 1 := Nat.mod_lt _ (by decide)
      omega
    exact this _

theorem add_any (a b : Nat) (w : World) :
    Calls Try.prog 74 #[.int .u64 (a : Int), .int .u64 (b : Int)] w fun e w' => e = .returned (.int .u64 ((res (Ieee.double.add a b) : Nat) : Int)) ∧ ∃ k, w' = w.drewN k := by
  have hf := frombits
  have hop := run_fl (P := Try.prog) .add (Or.inl rfl) 99 a b
  have hlt := fres_lt .add a b w
  have hr : (cn (fres .add a b w) : Nat) = res (Ieee.double.add a b) := cn_fres .add a b w
  rw [← hr]
  clear hr
  go_enter Try.func74, Try.ntmps74
  go_wp2_with (go_at_call 66; refine (bitsOf_any _ _ hlt).mono ?_; rintro e w' ⟨rfl, rfl⟩)
  go_ret
  exact ⟨rfl, _, rfl⟩
theorem sub_any (a b : Nat) (w : World) :
    Calls Try.prog 75 #[.int .u64 (a : Int), .int .u64 (b : Int)] w fun e w' => e = .returned (.int .u64 ((res (Ieee.double.sub a b) : Nat) : Int)) ∧ ∃ k, w' = w.drewN k := by
  have hf := frombits
  have hop := run_fl (P := Try.prog) .sub (Or.inr (Or.inl rfl)) 99 a b
  have hlt := fres_lt .sub a b w
  have hr : (cn (fres .sub a b w) : Nat) = res (Ieee.double.sub a b) := cn_fres .sub a b w
  rw [← hr]
  clear hr
  go_enter Try.func75, Try.ntmps75
  go_wp2_with (go_at_call 66; refine (bitsOf_any _ _ hlt).mono ?_; rintro e w' ⟨rfl, rfl⟩)
  go_ret
  exact ⟨rfl, _, rfl⟩

theorem mul_any (a b : Nat) (w : World) :
    Calls Try.prog 76 #[.int .u64 (a : Int), .int .u64 (b : Int)] w fun e w' => e = .returned (.int .u64 ((res (Ieee.double.mul a b) : Nat) : Int)) ∧ ∃ k, w' = w.drewN k := by
  have hf := frombits
  have hop := run_fl (P := Try.prog) .mul (Or.inr (Or.inr (Or.inl rfl))) 99 a b
  have hlt := fres_lt .mul a b w
  have hr : (cn (fres .mul a b w) : Nat) = res (Ieee.double.mul a b) := cn_fres .mul a b w
  rw [← hr]
  clear hr
  go_enter Try.func76, Try.ntmps76
  go_wp2_with (go_at_call 66; refine (bitsOf_any _ _ hlt).mono ?_; rintro e w' ⟨rfl, rfl⟩)
  go_ret
  exact ⟨rfl, _, rfl⟩

theorem div_any (a b : Nat) (w : World) :
    Calls Try.prog 77 #[.int .u64 (a : Int), .int .u64 (b : Int)] w fun e w' => e = .returned (.int .u64 ((res (Ieee.double.div a b) : Nat) : Int)) ∧ ∃ k, w' = w.drewN k := by
  have hf := frombits
  have hop := run_fl (P := Try.prog) .quo (Or.inr (Or.inr (Or.inr rfl))) 99 a b
  have hlt := fres_lt .quo a b w
  have hr : (cn (fres .quo a b w) : Nat) = res (Ieee.double.div a b) := cn_fres .quo a b w
  rw [← hr]
  clear hr
  go_enter Try.func77, Try.ntmps77
  go_wp2_with (go_at_call 66; refine (bitsOf_any _ _ hlt).mono ?_; rintro e w' ⟨rfl, rfl⟩)
  go_ret
  exact ⟨rfl, _, rfl⟩

theorem do1_any (a b : Nat) (w : World) (ha : a < 18446744073709551616) (hb : b < 18446744073709551616) :
    Calls Try.prog 62 #[.int .i64 1, .int .u64 (a : Int), .int .u64 (b : Int)] w fun e w' => e = .returned (.int .u64 ((res (Ieee.double.add a b) : Nat) : Int)) ∧ ∃ k, w' = w.drewN k := by
  have ht := tobits
  have hop1 := run_fl (P := Try.prog) .add (Or.inl rfl) 99 (cn a) (cn b)
  have hop := run_fl (P := Try.prog) .add (Or.inl rfl) 99 (cn a) (cn b)
  have hr : ∀ w, (cn (fres .add (cn a) (cn b) w) : Nat) = res (Ieee.double.add a b) := fun w => by rw [cn_fres, ← add_cn]; rfl
  have HR := Lib.hid hr
  clear hr
  go_enter Try.func62, Try.ntmps62
  go_wp2_with (first | (go_at_call 86; refine (rfloat_any _ _ (by assumption)).mono ?_; rintro e w' ⟨rfl, rfl⟩) | (go_at_call 30; refine (rcanon_any _ _ (fres_lt _ _ _ _)).mono ?_; rintro e w' ⟨rfl, rfl⟩))
  go_ret
  exact ⟨ret_int (by rw [HR.out]), _, rfl⟩

theorem do2_any (a b : Nat) (w : World) (ha : a < 18446744073709551616) (hb : b < 18446744073709551616) :
    Calls Try.prog 62 #[.int .i64 2, .int .u64 (a : Int), .int .u64 (b : Int)] w fun e w' => e = .returned (.int .u64 ((res (Ieee.double.sub a b) : Nat) : Int)) ∧ ∃ k, w' = w.drewN k := by
  have ht := tobits
  have hop1 := run_fl (P := Try.prog) .add (Or.inl rfl) 99 (cn a) (cn b)
  have hop := run_fl (P := Try.prog) .sub (Or.inr (Or.inl rfl)) 99 (cn a) (cn b)
  have hr : ∀ w, (cn (fres .sub (cn a) (cn b) w) : Nat) = res (Ieee.double.sub a b) := fun w => by rw [cn_fres, ← sub_cn]; rfl
  have HR := Lib.hid hr
  clear hr
  go_enter Try.func62, Try.ntmps62
  go_wp2_with (first | (go_at_call 86; refine (rfloat_any _ _ (by assumption)).mono ?_; rintro e w' ⟨rfl, rfl⟩) | (go_at_call 30; refine (rcanon_any _ _ (fres_lt _ _ _ _)).mono ?_; rintro e w' ⟨rfl, rfl⟩))
  go_ret
  exact ⟨ret_int (by rw [HR.out]), _, rfl⟩

theorem do3_any (a b : Nat) (w : World) (ha : a < 18446744073709551616) (hb : b < 18446744073709551616) :
    Calls Try.prog 62 #[.int .i64 3, .int .u64 (a : Int), .int .u64 (b : Int)] w fun e w' => e = .returned (.int .u64 ((res (Ieee.double.mul a b) : Nat) : Int)) ∧ ∃ k, w' = w.drewN k := by
  have ht := tobits
  have hop1 := run_fl (P := Try.prog) .add (Or.inl rfl) 99 (cn a) (cn b)
  have hop := run_fl (P := Try.prog) .mul (Or.inr (Or.inr (Or.inl rfl))) 99 (cn a) (cn b)
  have hr : ∀ w, (cn (fres .mul (cn a) (cn b) w) : Nat) = res (Ieee.double.mul a b) := fun w => by rw [cn_fres, ← mul_cn]; rfl
  have HR := Lib.hid hr
  clear hr
  go_enter Try.func62, Try.ntmps62
  go_wp2_with (first | (go_at_call 86; refine (rfloat_any _ _ (by assumption)).mono ?_; rintro e w' ⟨rfl, rfl⟩) | (go_at_call 30; refine (rcanon_any _ _ (fres_lt _ _ _ _)).mono ?_; rintro e w' ⟨rfl, rfl⟩))
  go_ret
  exact ⟨ret_int (by rw [HR.out]), _, rfl⟩

theorem do4_any (a b : Nat) (w : World) (ha : a < 18446744073709551616) (hb : b < 18446744073709551616) :
    Calls Try.prog 62 #[.int .i64 4, .int .u64 (a : Int), .int .u64 (b : Int)] w fun e w' => e = .returned (.int .u64 ((res (Ieee.double.div a b) : Nat) : Int)) ∧ ∃ k, w' = w.drewN k := by
  have ht := tobits
  have hop1 := run_fl (P := Try.prog) .add (Or.inl rfl) 99 (cn a) (cn b)
  have hop := run_fl (P := Try.prog) .quo (Or.inr (Or.inr (Or.inr rfl))) 99 (cn a) (cn b)
  have hr : ∀ w, (cn (fres .quo (cn a) (cn b) w) : Nat) = res (Ieee.double.div a b) := fun w => by rw [cn_fres, ← div_cn]; rfl
  have HR := Lib.hid hr
  clear hr
  go_enter Try.func62, Try.ntmps62
  go_wp2_with (first | (go_at_call 86; refine (rfloat_any _ _ (by assumption)).mono ?_; rintro e w' ⟨rfl, rfl⟩) | (go_at_call 30; refine (rcanon_any _ _ (fres_lt _ _ _ _)).mono ?_; rintro e w' ⟨rfl, rfl⟩))
  go_ret
  exact ⟨ret_int (by rw [HR.out]), _, rfl⟩

theorem isNan_t (n : Nat) (w : World) (hn : n < 18446744073709551616) (h : INF < n % 9223372036854775808) :
    Calls Try.prog 56 #[.int .u64 (n : Int)] w fun e w' => e = .returned (.bool true) ∧ w = w' := by
  have := isNan_any n w hn
  rw [decide_eq_true h] at this; exact this
theorem isNan_f (n : Nat) (w : World) (hn : n < 18446744073709551616) (h : ¬ INF < n % 9223372036854775808) :
    Calls Try.prog 56 #[.int .u64 (n : Int)] w fun e w' => e = .returned (.bool false) ∧ w = w' := by
  have := isNan_any n w hn
  rw [decide_eq_false h] at this; exact this
end Go.Proofs.Ytfjnphiegoogoaa
