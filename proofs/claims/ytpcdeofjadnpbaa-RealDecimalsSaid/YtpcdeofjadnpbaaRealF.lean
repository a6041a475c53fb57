/- What Decimal answers, in package real and in the document's, as contracts, for every input. -/
import Derived.Test.YtpcdeofjadnpbaaRealE
namespace Go.Proofs.Ytpcdeofjadnpbaa
open Go.ChangeShapes Go.WideShapes Go.ChangeAt Go.RowKit Go.Fl

/-- the words of 1, 10, 100 .. -/
def pw : Nat → Nat
  | 0 => 4607182418800017408
  | k + 1 => res (Ieee.double.mul (pw k) 4621819117588971520)

theorem pw_step : ∀ k, k < 15 → Ieee.double.mul (pw k) 4621819117588971520 = some (pw (k + 1)) := by decide +kernel
theorem pw_lt : ∀ k, k < 16 → pw k < 18446744073709551616 := by decide +kernel

def decV (n s : Int) : Nat := if n < 0 ∨ 1000000000000000 ≤ n ∨ s < 0 ∨ 15 < s then 0 else res (Ieee.double.div (ofI n) (pw s.toNat))
def decB (n s : Int) : Bool := !decide (n < 0 ∨ 1000000000000000 ≤ n ∨ s < 0 ∨ 15 < s)

theorem ret_pair {a b : Int} {c d : Bool} (h : a = b) (h2 : c = d) : Ending.returned (.tuple #[.int .u64 a, .bool c]) = .returned (.tuple #[.int .u64 b, .bool d]) := by rw [h, h2]

def DecR (S : Nat) (p i : Value) : Prop := ∃ k : Nat, k ≤ S ∧ p = .float .f64 (pw k) ∧ i = .int .i64 (k : Int)

theorem decimal_no (n s : Int) (w : World) (h : n < 0 ∨ 1000000000000000 ≤ n ∨ s < 0 ∨ 15 < s) :
    Calls Try.prog 36 #[.int .i64 n, .int .i64 s] w fun e w' => e = .returned (.tuple #[.int .u64 0, .bool false]) ∧ w = w' := by
  have H := Lib.hid h
  clear h
  go_enter Try.func36, Try.ntmps36
  go_wp2
  all_goals first | (go_ret2; exact ⟨rfl, rfl⟩) | (exfalso; have h := H.out; omega)

theorem decimal_yes (n : Int) (S : Nat) (w : World) (h0 : 0 ≤ n) (h1 : n < 1000000000000000) (h2 : S ≤ 15) :
    Calls Try.prog 36 #[.int .i64 n, .int .i64 (S : Int)] w fun e w' => e = .returned (.tuple #[.int .u64 ((res (Ieee.double.div (ofI n) (pw S)) : Nat) : Int), .bool true]) ∧ ∃ k, w' = w.drewN k := by
  have hmul : ∀ k, k < 15 → ∀ w, (binOp .mul 40 (.float .f64 (pw k)) (.float .f64 4621819117588971520)).run Try.prog w = .ok (.float .f64 (pw (k + 1))) w :=
    fun k hk w => run_float_arith w .mul 40 .f64 (pw k) 4621819117588971520 _ (pw_step k hk)
  have HM := Lib.hid hmul
  have hq := Lib.hid (run_fl (P := Try.prog) .quo (Or.inr (Or.inr (Or.inr rfl))) 40 (floatOfInt .f64 n) (pw S) w)
  have hr : cn (fres .quo (floatOfInt .f64 n) (pw S) w) = res (Ieee.double.div (ofI n) (pw S)) := by rw [cn_fres, ofI_eq n (by omega)]; rfl
  have c := bitsOf_any (fres .quo (floatOfInt .f64 n) (pw S) w) (w.drewN (nd .quo (floatOfInt .f64 n) (pw S))) (fres_lt _ _ _ _)
  rw [hr] at c
  have C := Lib.hid c
  have e0 : Value.float .f64 4607182418800017408 = .float .f64 (pw 0) := rfl
  have E0 := Lib.hid e0
  clear hmul hr c e0
  go_enter Try.func36, Try.ntmps36
  go_wp2
  go_loop [6, 22] (fun p i => DecR S p i) (fun _ i => S - (intOf i).toNat)
  case atStart => exact ⟨0, Nat.zero_le _, E0.out, rfl⟩
  case round =>
    obtain ⟨k, hk, rfl, rfl⟩ := hrel
    by_cases hlt : k < S
    · have hm := HM.out k (by omega)
      go_wp2
      go_round
      case rel => exact ⟨k + 1, by omega, rfl, by go_num⟩
      case measure => simp [intOf]; omega
    · obtain rfl : k = S := by omega
      have hq2 := hq.out
      clear hq
      go_wp2_with (go_at_call 43; refine C.out.mono ?_; rintro e w' ⟨rfl, rfl⟩)
      go_ret2
      exact ⟨rfl, _, rfl⟩

theorem rdecimal_no (n s : Int) (w : World) (h : n < 0 ∨ 1000000000000000 ≤ n ∨ s < 0 ∨ 15 < s) :
    Calls Try.prog 37 #[.int .i64 n, .int .i64 s] w fun e w' => e = .returned (.tuple #[.int .u64 0, .bool false]) ∧ w = w' := by
  have H := Lib.hid h
  clear h
  go_enter Try.func37, Try.ntmps37
  go_wp2
  all_goals first | (go_ret2; exact ⟨rfl, rfl⟩) | (exfalso; have h := H.out; omega)

def DecR2 (S : Nat) (w : World) (d i : Value) (wr : World) : Prop := ∃ k : Nat, k ≤ S ∧ d = .int .u64 ((pw k : Nat) : Int) ∧ i = .int .i64 (k : Int) ∧ ∃ j, wr = w.drewN j

theorem rdecimal_yes (n : Int) (S : Nat) (w : World) (h0 : 0 ≤ n) (h1 : n < 1000000000000000) (h2 : S ≤ 15) :
    Calls Try.prog 37 #[.int .i64 n, .int .i64 (S : Int)] w fun e w' => e = .returned (.tuple #[.int .u64 ((res (Ieee.double.div (ofI n) (pw S)) : Nat) : Int), .bool true]) ∧ ∃ k, w' = w.drewN k := by
  have c1 := Lib.hid (fun w => rofint_any 10 w (by decide) (by decide))
  have c2 := Lib.hid (fun w => rofint_any n w (by omega) (by omega))
  have c3 : ∀ k w, k < 15 → Calls Try.prog 18 #[.int .i64 3, .int .u64 ((pw k : Nat) : Int), .int .u64 ((ofI 10 : Nat) : Int)] w fun e w' => e = .returned (.int .u64 ((pw (k + 1) : Nat) : Int)) ∧ ∃ j, w' = w.drewN j := by
    intro k w hk
    have := do3_any (pw k) (ofI 10) w (pw_lt k (by omega)) (by decide)
    rw [show ofI 10 = 4621819117588971520 by decide +kernel] at this ⊢
    exact this
  have c4 : ∀ w, Calls Try.prog 18 #[.int .i64 4, .int .u64 ((ofI n : Nat) : Int), .int .u64 ((pw S : Nat) : Int)] w fun e w' => e = .returned (.int .u64 ((res (Ieee.double.div (ofI n) (pw S)) : Nat) : Int)) ∧ ∃ j, w' = w.drewN j :=
    fun w => do4_any (ofI n) (pw S) w (ofI_lt n (by omega)) (pw_lt S (by omega))
  have C3 := Lib.hid c3
  have C4 := Lib.hid c4
  have E0 := Lib.hid (show Value.int .u64 4607182418800017408 = .int .u64 ((pw 0 : Nat) : Int) from rfl)
  clear c3 c4
  go_enter Try.func37, Try.ntmps37
  go_wp2
  go_loopw [6, 7] (fun d i wr => DecR2 S w d i wr) (fun _ i _ => S - (intOf i).toNat)
  case atStart => exact ⟨0, Nat.zero_le _, E0.out, rfl, 0, rfl⟩
  case round =>
    obtain ⟨k, hk, rfl, rfl, j, rfl⟩ := hrel
    by_cases hlt : k < S
    · go_wp2_with fail
      refine (c1.out _).mono ?_; rintro e w' ⟨rfl, rfl⟩
      go_wp2_with fail
      refine (C3.out k _ (by omega)).mono ?_; rintro e w' ⟨rfl, j2, rfl⟩
      go_wp2_with fail
      go_roundw
      case rel => exact ⟨k + 1, by omega, rfl, by go_num, _, rfl⟩
      case measure => simp [intOf]; omega
    · obtain rfl : k = S := by omega
      go_wp2_with fail
      refine (c2.out _).mono ?_; rintro e w' ⟨rfl, rfl⟩
      go_wp2_with fail
      refine (C4.out _).mono ?_; rintro e w' ⟨rfl, j2, rfl⟩
      go_wp2_with fail
      go_ret2
      exact ⟨rfl, _, rfl⟩

end Go.Proofs.Ytpcdeofjadnpbaa
