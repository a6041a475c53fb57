/- What AND and OR answer of two values, and what every operator answers of poison, in package value, as contracts. -/
import Derived.Test.YtfjnphiegoogoaaOne
import Derived.Deep.RegionWith
import Derived.BigRegion
namespace Go.Proofs.Ytfjnphiegoogoaa
open Go.ChangeShapes Go.WideShapes Go.ChangeAt Go.RowKit Go.Fl

def boK (k b l c t : Int) : Int := if (k = 2 ∧ b = t) ∨ (l = 2 ∧ c = t) then 2 else if k ≠ 2 ∨ l ≠ 2 then 0 else k
def boB (k b l c t : Int) : Int := if (k = 2 ∧ b = t) ∨ (l = 2 ∧ c = t) then t else if k ≠ 2 ∨ l ≠ 2 then 0 else b

theorem below4 (w : World) (o p q r : Obj) : Below w.heap.size w ((((w.alloc o).alloc p).alloc q).alloc r) := (below3 w o p q).alloc (by simp; omega) _

set_option maxHeartbeats 1000000 in
theorem both_any (k b l c t : Int) (w : World) :
    Calls Try.prog 47 #[.agg #[.int .i64 k, .int .u64 b], .agg #[.int .i64 l, .int .u64 c], .agg #[.int .i64 2, .int .u64 t]] w fun e w' => e = .returned (.agg #[.int .i64 (boK k b l c t), .int .u64 (boB k b l c t)]) ∧ Below w.heap.size w w' := by
  have he := eqV
  by_cases c1 : k = 2 ∧ b = t
  · obtain ⟨rfl, rfl⟩ := c1
    have E1 := Lib.hid (show (2 : Int) = boK 2 b l c b by unfold boK; rw [if_pos (Or.inl ⟨rfl, rfl⟩)])
    have E2 := Lib.hid (show b = boB 2 b l c b by unfold boB; rw [if_pos (Or.inl ⟨rfl, rfl⟩)])
    go_enter Try.func47, Try.ntmps47
    go_wp2
    exact bodyPost_ret (v := .agg #[.int .i64 2, .int .u64 b]) (by simp [results, Try.results47, go_sem]) rfl ⟨ret_val E1.out E2.out, below4 _ _ _ _ _⟩
  have e1 : (decide (k = 2) && decide (b = t)) = false := by simpa using c1
  by_cases c2 : l = 2 ∧ c = t
  · obtain ⟨rfl, rfl⟩ := c2
    have E1 := Lib.hid (show (2 : Int) = boK k b 2 c c by unfold boK; rw [if_pos (Or.inr ⟨rfl, rfl⟩)])
    have E2 := Lib.hid (show c = boB k b 2 c c by unfold boB; rw [if_pos (Or.inr ⟨rfl, rfl⟩)])
    clear c1
    go_enter Try.func47, Try.ntmps47
    go_wp2
    exact bodyPost_ret (v := .agg #[.int .i64 2, .int .u64 c]) (by simp [results, Try.results47, go_sem]) rfl ⟨ret_val E1.out E2.out, below4 _ _ _ _ _⟩
  have e2 : (decide (l = 2) && decide (c = t)) = false := by simpa using c2
  by_cases c3 : k ≠ 2
  · have E1 := Lib.hid (show (0 : Int) = boK k b l c t by unfold boK; rw [if_neg (by omega), if_pos (Or.inl c3)])
    have E2 := Lib.hid (show (0 : Int) = boB k b l c t by unfold boB; rw [if_neg (by omega), if_pos (Or.inl c3)])
    have f : (k != 2) = true := by simpa using c3
    clear c1 c2 c3
    go_enter Try.func47, Try.ntmps47
    go_wp2
    exact bodyPost_ret (v := .agg #[.int .i64 0, .int .u64 0]) (by simp [results, Try.results47, go_sem]) rfl ⟨ret_val E1.out E2.out, below4 _ _ _ _ _⟩
  obtain rfl : k = 2 := by omega
  by_cases c4 : l ≠ 2
  · have E1 := Lib.hid (show (0 : Int) = boK 2 b l c t by unfold boK; rw [if_neg (by omega), if_pos (Or.inr c4)])
    have E2 := Lib.hid (show (0 : Int) = boB 2 b l c t by unfold boB; rw [if_neg (by omega), if_pos (Or.inr c4)])
    have f : (l != 2) = true := by simpa using c4
    have g : decide (b = t) = false := by simpa using c1
    clear c1 c2 c3 c4
    go_enter Try.func47, Try.ntmps47
    go_wp2
    exact bodyPost_ret (v := .agg #[.int .i64 0, .int .u64 0]) (by simp [results, Try.results47, go_sem]) rfl ⟨ret_val E1.out E2.out, below4 _ _ _ _ _⟩
  · obtain rfl : l = 2 := by omega
    have E1 := Lib.hid (show (2 : Int) = boK 2 b 2 c t by unfold boK; rw [if_neg (by omega), if_neg (by omega)])
    have E2 := Lib.hid (show b = boB 2 b 2 c t by unfold boB; rw [if_neg (by omega), if_neg (by omega)])
    have g : decide (b = t) = false := by simpa using c1
    have g2 : decide (c = t) = false := by simpa using c2
    clear c1 c2 c3 c4
    go_enter Try.func47, Try.ntmps47
    go_wp2
    exact bodyPost_ret (v := .agg #[.int .i64 2, .int .u64 b]) (by simp [results, Try.results47, go_sem]) rfl ⟨ret_val E1.out E2.out, below4 _ _ _ _ _⟩

/-- two operands of unlike kinds: poison, but for AND and OR -/
theorem two_unlike (op k b l c : Int) (w : World) (h13 : op ≠ 13) (h14 : op ≠ 14) (hk : k ≠ l ∨ (k = 0 ∧ l = 0)) :
    Calls Try.prog 25 #[.int .i64 op, .agg #[.int .i64 k, .int .u64 b], .agg #[.int .i64 l, .int .u64 c]] w fun e w' => e = .returned (.agg #[.int .i64 0, .int .u64 0]) ∧ Below w.heap.size w w' := by
  have f13 : (op == 13) = false := by simpa using h13
  have f14 : (op == 14) = false := by simpa using h14
  by_cases e : k ≠ l
  · have f : (k != l) = true := by simpa using e
    clear h13 h14 hk e
    go_enter Try.func25, Try.ntmps25
    go_wp2
    exact bodyPost_ret (v := .agg #[.int .i64 0, .int .u64 0]) (by simp [results, Try.results25, go_sem]) rfl ⟨rfl, below3 _ _ _ _⟩
  · obtain ⟨rfl, rfl⟩ := hk.resolve_left e
    have z : ∀ w, Calls Try.prog 48 #[.int .i64 op, .int .i64 0] w fun e w' => e = .returned (.int .i64 0) ∧ w = w' := fun w => by
      have h := two_any op 0 w
      rw [show r2P op 0 = 0 by unfold r2P; (repeat' split) <;> omega] at h
      exact h
    have Z := Lib.hid z
    clear z h13 h14 hk e
    go_enter Try.func25, Try.ntmps25
    go_wp2_with (go_at_call 48; refine (Z.out _).mono ?_; rintro e w' ⟨rfl, rfl⟩)
    exact bodyPost_ret (v := .agg #[.int .i64 0, .int .u64 0]) (by simp [results, Try.results25, go_sem]) rfl ⟨rfl, below3 _ _ _ _⟩
end Go.Proofs.Ytfjnphiegoogoaa
