/- What the functions of package real and of the document's package auspiceref01 answer, as contracts, for every input. -/
import Derived.Test.YtkmlbifhpkfinaaGreatDoorReal
import Derived.Test.YtkmlbifhpkfinaaGreatDoorBits
namespace Go.Proofs.YtkmlbifhpkfinaaGreatDoor
open Go.ChangeShapes Go.WideShapes Go.ChangeAt Go.RowKit Go.Fl

theorem ret_int {k : IntKind} {a b : Int} (h : a = b) : Ending.returned (.int k a) = .returned (.int k b) := by rw [h]
theorem ret_bool {a b : Bool} (h : a = b) : Ending.returned (.bool a) = .returned (.bool b) := by rw [h]

theorem isNan_any (n : Nat) (w : World) (hn : n < 18446744073709551616) :
    Calls Tryz.prog 61 #[.int .u64 (n : Int)] w fun e w' => e = .returned (.bool (decide (INF < n % 9223372036854775808))) ∧ w = w' := by
  by_cases hE : n / 4503599627370496 % 2048 = 2047
  · have e1 : bits .and .u64 ((n : Int) / 4503599627370496) 2047 = 2047 := by rw [and_exp n hn, hE]; rfl
    by_cases hl : n % 4503599627370496 = 0
    · have e2 : bits .and .u64 (n : Int) 4503599627370495 = 0 := by rw [and_low n hn, hl]; rfl
      rw [decide_eq_false (by unfold INF; omega)]
      clear hE hl hn
      go_enter Tryz.func61, Tryz.ntmps61
      go_wp2
      go_ret
      exact ⟨rfl, rfl⟩
    · have e2 : (bits .and .u64 (n : Int) 4503599627370495 != 0) = true := by rw [and_low n hn]; simp; omega
      rw [decide_eq_true (by unfold INF; omega)]
      clear hE hl hn
      go_enter Tryz.func61, Tryz.ntmps61
      go_wp2
      go_ret
      exact ⟨rfl, rfl⟩
  · have e1 : (bits .and .u64 ((n : Int) / 4503599627370496) 2047 == 2047) = false := by rw [and_exp n hn]; simp; omega
    rw [decide_eq_false (by unfold INF; omega)]
    clear hE
    go_enter Tryz.func61, Tryz.ntmps61
    go_wp2
    go_ret
    exact ⟨rfl, rfl⟩

theorem rcanon_any (n : Nat) (w : World) (hn : n < 18446744073709551616) :
    Calls Tryz.prog 40 #[.int .u64 (n : Int)] w fun e w' => e = .returned (.int .u64 ((cn n : Nat) : Int)) ∧ w = w' := by
  have hc := isNan_any n w hn
  by_cases h : INF < n % 9223372036854775808
  · rw [decide_eq_true h] at hc
    rw [cn_nan h]
    have H := Lib.hid hc
    clear h hc
    go_enter Tryz.func40, Tryz.ntmps40
    go_wp2_with (go_at_call 61; refine H.out.mono ?_; rintro e w' ⟨rfl, rfl⟩)
    go_ret
    exact ⟨rfl, rfl⟩
  · rw [decide_eq_false h] at hc
    rw [cn_num h]
    have H := Lib.hid hc
    clear h hc
    go_enter Tryz.func40, Tryz.ntmps40
    go_wp2_with (go_at_call 61; refine H.out.mono ?_; rintro e w' ⟨rfl, rfl⟩)
    go_ret
    exact ⟨rfl, rfl⟩


/-! ### sums, differences, products, quotients -/

theorem fres_lt (op : BinOp) (a b : Nat) (w : World) : fres op a b w < 18446744073709551616 := by
  unfold fres
  cases h : floatBits op .f64 a b with
  | some r =>
    have := floatBits_wf h
    simpa [Lit.wf] using this
  | none =>
    have : ∀ t : Nat, t % 2 * 2 ^ 63 + 9218868437227405312 + 1 + t / 2 % (2 ^ 52 - 1) < 18446744073709551616 := fun t => by
      have h : t / 2 % (2 ^ 52 - 1) < 2 ^ 52 - 1 := Nat.mod_lt _ (by decide)
      omega
    exact this _

theorem isNan_t (n : Nat) (w : World) (hn : n < 18446744073709551616) (h : INF < n % 9223372036854775808) :
    Calls Tryz.prog 61 #[.int .u64 (n : Int)] w fun e w' => e = .returned (.bool true) ∧ w = w' := by
  have := isNan_any n w hn
  rw [decide_eq_true h] at this; exact this
theorem isNan_f (n : Nat) (w : World) (hn : n < 18446744073709551616) (h : ¬ INF < n % 9223372036854775808) :
    Calls Tryz.prog 61 #[.int .u64 (n : Int)] w fun e w' => e = .returned (.bool false) ∧ w = w' := by
  have := isNan_any n w hn
  rw [decide_eq_false h] at this; exact this
end Go.Proofs.YtkmlbifhpkfinaaGreatDoor
