/- What each function of package real and of the document's package auspiceref01 answers, as a contract, for every input. -/
import Derived.Test.YtfjnphiegoogoaaProg
import Derived.Test.YtfjnphiegoogoaaFl
import Derived.WalkKit
import Derived.ProofKit
import Derived.WalkLawsBesides
import Derived.Deep.Draws
import Derived.Lib.Hide
import Derived.Outline
namespace Go.Proofs.Ytfjnphiegoogoaa
open Go.ChangeShapes Go.WideShapes Go.ChangeAt Go.RowKit Go.Fl

theorem frombits (n : Nat) (w : World) : (callFunc 67 #[.int .u64 (n : Int)]).run Try.prog w = .ok (.value (.float .f64 n)) w := by
  rw [run_callFunc_extern (e := Extern.MathFloatBits.float64frombits) Try.func67 (by kernel_rfl) (by kernel_rfl) (by kernel_rfl) (by kernel_rfl)]; rfl

theorem tobits (n : Nat) (w : World) : (callFunc 87 #[.float .f64 n]).run Try.prog w = .ok (.value (.int .u64 (n : Int))) w := by
  rw [run_callFunc_extern (e := Extern.MathFloatBits.float64bits) Try.func87 (by kernel_rfl) (by kernel_rfl) (by kernel_rfl) (by kernel_rfl)]; rfl

/-- the canonical word -/
def cn (n : Nat) : Nat := if INF < n % 9223372036854775808 then 9221120237041090560 else n

theorem cn_nan {n : Nat} (h : INF < n % 9223372036854775808) : cn n = 9221120237041090560 := if_pos h
theorem cn_num {n : Nat} (h : ¬ INF < n % 9223372036854775808) : cn n = n := if_neg h
theorem cn_cn (n : Nat) : cn (cn n) = cn n := by unfold cn INF; split <;> simp <;> omega
theorem cn_lt {n : Nat} (h : n < 18446744073709551616) : cn n < 18446744073709551616 := by unfold cn; split <;> omega
theorem cn_isnan (n : Nat) : INF < cn n % 9223372036854775808 ↔ INF < n % 9223372036854775808 := by unfold cn INF; split <;> simp <;> omega

/-- what a float's operation answers, whatever NaN is drawn -/
def res (o : Option Nat) : Nat := match o with | some r => cn r | none => 9221120237041090560
def nanOf (x y : Nat) (w : World) : Nat := (Question.nanBits .f64 x y).cut (w.tape w.drawn (.nanBits .f64 x y))
def fres (op : BinOp) (x y : Nat) (w : World) : Nat := match floatBits op .f64 x y with | some r => r | none => nanOf x y w
def nd (op : BinOp) (x y : Nat) : Nat := match floatBits op .f64 x y with | some _ => 0 | none => 1

theorem nanOf_nan (x y : Nat) (w : World) : INF < nanOf x y w % 9223372036854775808 := by
  unfold nanOf Question.cut INF
  simp only
  generalize w.tape w.drawn (.nanBits .f64 x y) = t
  have h : t / 2 % (2 ^ 52 - 1) < 2 ^ 52 - 1 := Nat.mod_lt _ (by decide)
  generalize t / 2 % (2 ^ 52 - 1) = r at *
  rw [show t % 2 * 2 ^ 63 + 9218868437227405312 + 1 + r = r + 9218868437227405313 + 9223372036854775808 * (t % 2) by omega, Nat.add_mul_mod_self_left]
  omega

theorem cn_fres (op : BinOp) (x y : Nat) (w : World) : cn (fres op x y w) = res (floatBits op .f64 x y) := by
  unfold fres res
  cases floatBits op .f64 x y with
  | some r => rfl
  | none => exact cn_nan (nanOf_nan x y w)

theorem run_fl {P : Program} (op : BinOp) (hop : op = .add ∨ op = .sub ∨ op = .mul ∨ op = .quo) (t : TypeId) (x y : Nat) (w : World) :
    (binOp op t (.float .f64 x) (.float .f64 y)).run P w = .ok (.float .f64 (fres op x y w)) (w.drewN (nd op x y)) := by
  unfold fres nd
  cases h : floatBits op .f64 x y with
  | some r => exact run_float_arith w op t .f64 x y r h
  | none =>
    unfold floatBits at h
    rcases hop with rfl | rfl | rfl | rfl <;> simp only at h <;> simp [binOp, Op.floatArith, h, nanOf, Question.forced, World.drew_is_drewN]

theorem res_lt {o : Option Nat} (h : ∀ r, o = some r → r < 18446744073709551616) : res o < 18446744073709551616 := by
  unfold res
  cases o with
  | none => decide
  | some r => exact cn_lt (h r rfl)

theorem add_cn (a b : Nat) : Ieee.double.add (cn a) (cn b) = Ieee.double.add a b := by
  by_cases ha : INF < a % 9223372036854775808
  · rw [add_nan_l _ _ ha, add_nan_l _ _ ((cn_isnan a).2 ha)]
  · by_cases hb : INF < b % 9223372036854775808
    · rw [add_nan_r _ _ hb, add_nan_r _ _ ((cn_isnan b).2 hb)]
    · rw [cn_num ha, cn_num hb]
theorem sub_cn (a b : Nat) : Ieee.double.sub (cn a) (cn b) = Ieee.double.sub a b := by
  by_cases ha : INF < a % 9223372036854775808
  · rw [sub_nan_l _ _ ha, sub_nan_l _ _ ((cn_isnan a).2 ha)]
  · by_cases hb : INF < b % 9223372036854775808
    · rw [sub_nan_r _ _ hb, sub_nan_r _ _ ((cn_isnan b).2 hb)]
    · rw [cn_num ha, cn_num hb]
theorem mul_cn (a b : Nat) : Ieee.double.mul (cn a) (cn b) = Ieee.double.mul a b := by
  by_cases ha : INF < a % 9223372036854775808
  · rw [mul_nan_l _ _ ha, mul_nan_l _ _ ((cn_isnan a).2 ha)]
  · by_cases hb : INF < b % 9223372036854775808
    · rw [mul_nan_r _ _ hb, mul_nan_r _ _ ((cn_isnan b).2 hb)]
    · rw [cn_num ha, cn_num hb]
theorem div_cn (a b : Nat) : Ieee.double.div (cn a) (cn b) = Ieee.double.div a b := by
  by_cases ha : INF < a % 9223372036854775808
  · rw [div_nan_l _ _ ha, div_nan_l _ _ ((cn_isnan a).2 ha)]
  · by_cases hb : INF < b % 9223372036854775808
    · rw [div_nan_r _ _ hb, div_nan_r _ _ ((cn_isnan b).2 hb)]
    · rw [cn_num ha, cn_num hb]

theorem order_self (n : Nat) (h : ¬ INF < n % 9223372036854775808) (hn : n < 18446744073709551616) : Ieee.double.order n n = some Ordering.eq := by
  rw [order_key n n hn hn (by omega) (by omega)]
  simp [compare, compareOfLessAndEq]

/-! ### package real -/

theorem canon_any (n : Nat) (w : World) (hn : n < 18446744073709551616) :
    Calls Try.prog 46 #[.int .u64 (n : Int)] w fun e w' => e = .returned (.int .u64 ((cn n : Nat) : Int)) ∧ w = w' := by
  have hf := frombits
  by_cases h : INF < n % 9223372036854775808
  · rw [cn_nan h]
    have ho : FloatKind.f64.format.order n n = none := order_nan_l n n h
    have ho2 : ((none : Option Ordering) != some Ordering.eq) = true := by decide
    clear h hn
    go_enter Try.func46, Try.ntmps46
    go_wp2
    go_ret
    exact ⟨rfl, rfl⟩
  · rw [cn_num h]
    have ho : FloatKind.f64.format.order n n = some Ordering.eq := order_self n h hn
    have ho2 : (some Ordering.eq != some Ordering.eq) = false := by decide
    clear h hn
    go_enter Try.func46, Try.ntmps46
    go_wp2
    go_ret
    exact ⟨rfl, rfl⟩

theorem bitsOf_any (n : Nat) (w : World) (hn : n < 18446744073709551616) :
    Calls Try.prog 66 #[.float .f64 n] w fun e w' => e = .returned (.int .u64 ((cn n : Nat) : Int)) ∧ w = w' := by
  have ht := tobits
  go_enter Try.func66, Try.ntmps66
  go_wp2_with (go_at_call 46; refine (canon_any _ _ hn).mono ?_; rintro e w' ⟨rfl, rfl⟩)
  go_ret
  exact ⟨rfl, rfl⟩

end Go.Proofs.Ytfjnphiegoogoaa
