/- What the comparing operators answer of two values of one kind in package value, as contracts. -/
import Derived.Test.YtfjnphiegoogoaaStrict
import Derived.Test.YtfjnphiegoogoaaLogic
import Derived.Deep.QuietTactic
import Derived.BigQuiet
namespace Go.Proofs.Ytfjnphiegoogoaa
open Go.ChangeShapes Go.WideShapes Go.ChangeAt Go.RowKit Go.Fl

def cmpS (op : Int) (e l g : Bool) : Bool := if op = 7 then e else if op = 8 then !e else if op = 9 then l else if op = 10 then (l || e) else if op = 11 then g else (g || e)
def eqV2 (k : Int) (b c : Nat) : Bool := if k = 4 then eqB b c else ((b : Int) == (c : Int))
def ltV (k : Int) (b c : Nat) : Bool := if k = 4 then ltB b c else decide (wrap64 (b : Int) < wrap64 (c : Int))
def cmpB (op k : Int) (b c : Nat) : Bool := cmpS op (eqV2 k b c) (ltV k b c) (ltV k c b)

theorem below_drewN {B : Nat} {w w1 : World} (h : Below B w w1) (n : Nat) : Below B w (w1.drewN n) := by
  induction n with
  | zero => exact h
  | succ n ih => exact ih.drew

set_option maxHeartbeats 4000000 in
set_option maxRecDepth 100000 in
theorem compare_v (op k : Int) (b c : Nat) (w : World) :
    Calls Try.prog 49 #[.int .i64 op, .agg #[.int .i64 k, .int .u64 (b : Int)], .agg #[.int .i64 k, .int .u64 (c : Int)]] w fun e w' => e = .returned (.bool (cmpB op k b c)) ∧ Below w.heap.size w w' := by
  unfold cmpB
  by_cases k4 : k = 4
  · subst k4
    unfold eqV2 ltV
    simp only [if_true]
    have H1 := Lib.hid (fun w => (equal_any b c w).mono fun e w' h => (⟨h.1, h.2.symm⟩ : e = .returned (.bool (eqB b c)) ∧ w' = w))
    have H2 := Lib.hid (fun w => (less_any b c w).mono fun e w' h => (⟨h.1, h.2.symm⟩ : e = .returned (.bool (ltB b c)) ∧ w' = w))
    have H3 := Lib.hid (fun w => (less_any c b w).mono fun e w' h => (⟨h.1, h.2.symm⟩ : e = .returned (.bool (ltB c b)) ∧ w' = w))
    generalize eqB b c = e at *
    generalize ltB b c = l at *
    generalize ltB c b = g at *
    go_enter Try.func49, Try.ntmps49
    go_wp2_with fail
    go_quiet (fail)
    go_wp2_with fail
    go_quiet (first | (go_at_call 42; (refine (H1.out _).mono ?_; rintro e w' ⟨rfl, rfl⟩; exact ⟨rfl, _, rfl⟩)) | (go_at_call 69; first | (refine (H2.out _).mono ?_; rintro e w' ⟨rfl, rfl⟩; exact ⟨rfl, _, rfl⟩) | (refine (H3.out _).mono ?_; rintro e w' ⟨rfl, rfl⟩; exact ⟨rfl, _, rfl⟩)))
    clear H1 H2 H3
    cases e <;> cases l <;> cases g
    all_goals go_wp2
    all_goals go_ret
    all_goals refine ⟨ret_bool ?_, below_drewN (below2 _ _ _) _⟩
    all_goals (try simp only [beq_iff_eq, beq_eq_false_iff_ne] at *)
    all_goals unfold cmpS
    all_goals ((repeat' split) <;> first | rfl | (exfalso; omega) | (cases e <;> cases l <;> cases g <;> first | rfl | simp_all))
  · have f4 : (k == 4) = false := by simpa using k4
    unfold eqV2 ltV
    simp only [if_neg k4]
    obtain ⟨e, he⟩ : ∃ e, ((b : Int) == (c : Int)) = e := ⟨_, rfl⟩
    obtain ⟨l, hl⟩ : ∃ e, decide (wrap64 (b : Int) < wrap64 (c : Int)) = e := ⟨_, rfl⟩
    obtain ⟨g, hg⟩ : ∃ e, decide (wrap64 (c : Int) < wrap64 (b : Int)) = e := ⟨_, rfl⟩
    rw [he, hl, hg]
    clear k4
    go_enter Try.func49, Try.ntmps49
    go_wp2_with fail
    go_quiet (fail)
    go_wp2_with fail
    all_goals clear he hl hg
    all_goals go_ret
    all_goals refine ⟨ret_bool ?_, below_drewN (below2 _ _ _) _⟩
    all_goals (try simp only [beq_iff_eq, beq_eq_false_iff_ne] at *)
    all_goals unfold cmpS
    all_goals ((repeat' split) <;> first | rfl | (exfalso; omega) | (cases e <;> cases l <;> cases g <;> first | rfl | simp_all))
end Go.Proofs.Ytfjnphiegoogoaa
