/- What the operators that compare, and those that reckon with reals, answer of two values in package value, as contracts. -/
import Derived.Test.YtfjnphiegoogoaaCmp
namespace Go.Proofs.Ytfjnphiegoogoaa
open Go.ChangeShapes Go.WideShapes Go.ChangeAt Go.RowKit Go.Fl

/-- a truth as bits -/
def b2n (x : Bool) : Nat := if x then 1 else 0

set_option maxHeartbeats 1000000 in
set_option maxRecDepth 100000 in
/-- two operands of one kind at an operator that compares them -/
theorem two_cmp (op k : Int) (b c : Nat) (w : World) (h : r2P op k = 2) (h13 : op ≠ 13) (h14 : op ≠ 14) :
    Calls Try.prog 25 #[.int .i64 op, .agg #[.int .i64 k, .int .u64 (b : Int)], .agg #[.int .i64 k, .int .u64 (c : Int)]] w fun e w' => e = .returned (.agg #[.int .i64 2, .int .u64 ((b2n (cmpB op k b c) : Nat) : Int)]) ∧ Below w.heap.size w w' := by
  have Z := Lib.hid (fun w => two_any op k w)
  rw [h] at Z
  have f13 : (op == 13) = false := by simpa using h13
  have f14 : (op == 14) = false := by simpa using h14
  have f : (k != k) = false := by simp
  have H := Lib.hid (fun w => compare_v op k b c w)
  clear h h13 h14
  generalize cmpB op k b c = x at *
  go_enter Try.func25, Try.ntmps25
  go_wp2_with (go_at_call 48; refine (Z.out _).mono ?_; rintro e w' ⟨rfl, rfl⟩)
  refine (H.out _).mono ?_; rintro e w1 ⟨rfl, hb1⟩
  go_wp2_with fail
  refine (ofbool_v x _).mono ?_; rintro e w2 ⟨rfl, hb2⟩
  have hb3 := below_more hb1 hb2
  obtain ⟨hc, hf⟩ := bcell hb3
  have p4 : w2.cell? ⟨w.heap.size + 1 + 1, 0, none⟩ = some (.int .i64 0) := by rw [hc _ _ (by simp)]; simp [go_sem]
  have p5 : w2.cell? ⟨w.heap.size + 1 + 1, 1, none⟩ = some (.int .u64 0) := by rw [hc _ _ (by simp)]; simp [go_sem]
  have p6 : w2.frozen? ⟨w.heap.size + 1 + 1, 0, none⟩ = false := by rw [hf _ _ (by simp)]; simp [go_sem]
  have p7 : w2.frozen? ⟨w.heap.size + 1 + 1, 1, none⟩ = false := by rw [hf _ _ (by simp)]; simp [go_sem]
  have hB := below_more (below3 w _ _ _) hb3
  clear hb1 hb2 hc hf hb3 Z H
  rw [show tB x = ((b2n x : Nat) : Int) by cases x <;> rfl]
  obtain ⟨_, q1, q2⟩ := put2 (w := w2) (g := w.heap.size + 1 + 1) (.int .i64 2) (.int .u64 ((b2n x : Nat) : Int)) p4 p5
  have B2 := ((hB.setCell (p := ⟨w.heap.size + 1 + 1, 0, none⟩) (by show w.heap.size ≤ w.heap.size + 1 + 1; omega) (.int .i64 2)).setCell (p := ⟨w.heap.size + 1 + 1, 1, none⟩) (by show w.heap.size ≤ w.heap.size + 1 + 1; omega) (.int .u64 ((b2n x : Nat) : Int)))
  go_wp2
  exact bodyPost_ret (v := .agg #[.int .i64 2, .int .u64 ((b2n x : Nat) : Int)]) (by simp [results, Try.results25, go_sem, q1, q2]) rfl ⟨rfl, B2⟩

/-- what an operator of two reals makes of them -/
def ansR (op : Int) (a b : Nat) : Nat := if op = 1 then res (Ieee.double.add a b) else if op = 2 then res (Ieee.double.sub a b) else if op = 3 then res (Ieee.double.mul a b) else res (Ieee.double.div a b)

theorem reckonR_any (op : Int) (a b : Nat) (w : World) :
    Calls Try.prog 51 #[.int .i64 op, .int .u64 (a : Int), .int .u64 (b : Int)] w fun e w' => e = .returned (.int .u64 ((ansR op a b : Nat) : Int)) ∧ ∃ k, w' = w.drewN k := by
  unfold ansR
  by_cases c1 : op = 1
  · rw [if_pos c1]; subst c1
    have H := Lib.hid (fun w => add_any a b w)
    generalize res (Ieee.double.add a b) = r at *
    go_enter Try.func51, Try.ntmps51
    go_wp2_with (go_at_call 74; refine (H.out _).mono ?_; rintro e w' ⟨rfl, k, rfl⟩)
    go_ret
    exact ⟨rfl, _, rfl⟩
  rw [if_neg c1]
  have f1 : (op == 1) = false := by simpa using c1
  by_cases c2 : op = 2
  · rw [if_pos c2]; subst c2
    have H := Lib.hid (fun w => sub_any a b w)
    generalize res (Ieee.double.sub a b) = r at *
    go_enter Try.func51, Try.ntmps51
    go_wp2_with (go_at_call 75; refine (H.out _).mono ?_; rintro e w' ⟨rfl, k, rfl⟩)
    go_ret
    exact ⟨rfl, _, rfl⟩
  rw [if_neg c2]
  have f2 : (op == 2) = false := by simpa using c2
  by_cases c3 : op = 3
  · rw [if_pos c3]; subst c3
    have H := Lib.hid (fun w => mul_any a b w)
    generalize res (Ieee.double.mul a b) = r at *
    go_enter Try.func51, Try.ntmps51
    go_wp2_with (go_at_call 76; refine (H.out _).mono ?_; rintro e w' ⟨rfl, k, rfl⟩)
    go_ret
    exact ⟨rfl, _, rfl⟩
  rw [if_neg c3]
  have f3 : (op == 3) = false := by simpa using c3
  have H := Lib.hid (fun w => div_any a b w)
  generalize res (Ieee.double.div a b) = r at *
  clear c1 c2 c3
  go_enter Try.func51, Try.ntmps51
  go_wp2_with (go_at_call 77; refine (H.out _).mono ?_; rintro e w' ⟨rfl, k, rfl⟩)
  go_ret
  exact ⟨rfl, _, rfl⟩

set_option maxHeartbeats 1000000 in
set_option maxRecDepth 100000 in
/-- two reals at an operator that reckons -/
theorem two_real (op : Int) (b c : Nat) (w : World) (h1 : 1 ≤ op) (h4 : op ≤ 4) :
    Calls Try.prog 25 #[.int .i64 op, .agg #[.int .i64 4, .int .u64 (b : Int)], .agg #[.int .i64 4, .int .u64 (c : Int)]] w fun e w' => e = .returned (.agg #[.int .i64 4, .int .u64 ((ansR op b c : Nat) : Int)]) ∧ Below w.heap.size w w' := by
  have Z := Lib.hid (fun w => two_any op 4 w)
  rw [show r2P op 4 = 4 by unfold r2P; (repeat' split) <;> omega] at Z
  have f13 : (op == 13) = false := by rw [beq_eq_false_iff_ne]; omega
  have f14 : (op == 14) = false := by rw [beq_eq_false_iff_ne]; omega
  have H := Lib.hid (fun w => reckonR_any op b c w)
  clear h1 h4
  generalize ansR op b c = x at *
  go_enter Try.func25, Try.ntmps25
  go_wp2_with (first | (go_at_call 48; refine (Z.out _).mono ?_; rintro e w' ⟨rfl, rfl⟩) | (go_at_call 51; refine (H.out _).mono ?_; rintro e w' ⟨rfl, n, rfl⟩))
  refine (ofreal_v _ _).mono ?_; rintro e w2 ⟨rfl, hb2⟩
  have hb3 := hb2
  obtain ⟨hc, hf⟩ := bcell hb3
  have p4 : w2.cell? ⟨w.heap.size + 1 + 1, 0, none⟩ = some (.int .i64 0) := by rw [hc _ _ (by simp)]; simp [go_sem]
  have p5 : w2.cell? ⟨w.heap.size + 1 + 1, 1, none⟩ = some (.int .u64 0) := by rw [hc _ _ (by simp)]; simp [go_sem]
  have p6 : w2.frozen? ⟨w.heap.size + 1 + 1, 0, none⟩ = false := by rw [hf _ _ (by simp)]; simp [go_sem]
  have p7 : w2.frozen? ⟨w.heap.size + 1 + 1, 1, none⟩ = false := by rw [hf _ _ (by simp)]; simp [go_sem]
  have hB := below_more (below_drewN (below3 w _ _ _) _) hb3
  clear hb2 hc hf hb3 Z H
  obtain ⟨_, q1, q2⟩ := put2 (w := w2) (g := w.heap.size + 1 + 1) (.int .i64 4) (.int .u64 ((x : Nat) : Int)) p4 p5
  have B2 := ((hB.setCell (p := ⟨w.heap.size + 1 + 1, 0, none⟩) (by show w.heap.size ≤ w.heap.size + 1 + 1; omega) (.int .i64 4)).setCell (p := ⟨w.heap.size + 1 + 1, 1, none⟩) (by show w.heap.size ≤ w.heap.size + 1 + 1; omega) (.int .u64 ((x : Nat) : Int)))
  go_wp2
  exact bodyPost_ret (v := .agg #[.int .i64 4, .int .u64 ((x : Nat) : Int)]) (by simp [results, Try.results25, go_sem, q1, q2]) rfl ⟨rfl, B2⟩
end Go.Proofs.Ytfjnphiegoogoaa
