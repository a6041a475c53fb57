/- What Apply answers of one value, of none, and of more than two, where the operator answers, as contracts. -/
import Derived.Test.YtfjnphiegoogoaaDo
import Derived.Test.YtfjnphiegoogoaaRes
namespace Go.Proofs.Ytfjnphiegoogoaa
open Go.ChangeShapes Go.WideShapes Go.ChangeAt Go.RowKit Go.Fl

set_option maxHeartbeats 4000000 in
/-- Apply of one value where the operator answers. -/
theorem apply_one (op : Int) (A : Option Addr) (cap : Nat) (k1 : Int) (b1 : Nat) (k c : Int) (w : World) (hv : RowV w A 1 [(k1, b1)])
    (hret : ∀ w, Calls Try.prog 23 #[.int .i64 op, .agg #[.int .i64 (clK k1 b1), .int .u64 ((clB k1 b1 : Nat) : Int)]] w fun e w' => e = .returned (.agg #[.int .i64 k, .int .u64 c]) ∧ Below w.heap.size w w') :
    Calls Try.prog 15 #[.int .i64 op, .slice A 1 cap] w fun e w' => e = .returned (.agg #[.int .i64 k, .int .u64 c]) ∧ Below w.heap.size w w' := by
  have hmf : ∀ (fn : Fn) (first cap : Array Value) (w : World), (Instr.makeFunc fn first cap).run Try.prog w = .ok (.func fn first cap) w := fun _ _ _ _ => rfl
  obtain ⟨_, hb, hc0⟩ := hv
  obtain ⟨b, off, rfl, hcell⟩ := hc0 (by decide)
  obtain ⟨r0, r1⟩ := hcell 0 k1 b1 rfl
  have l1 : b1 < 18446744073709551616 := hb (k1, b1) (by simp)
  have HR := Lib.hid hret
  have s0 := cell_later (below1 w (.cells #[.int .i64 0, .int .u64 0] 25)) r0
  have s1 := cell_later (below1 w (.cells #[.int .i64 0, .int .u64 0] 25)) r1
  simp only [Nat.zero_mul, Nat.add_zero] at s0 s1
  clear hcell hc0 hb hret r0 r1
  go_enter_defers Try.func15, Try.ntmps15
  go_wp2_with fail
  refine (clean_any _ _ _ l1).mono ?_; rintro e w1 ⟨rfl, hb1⟩
  go_wp2_with fail
  refine (HR.out _).mono ?_; rintro e w2 ⟨rfl, hb2⟩
  have hb3 := below_more hb1 hb2
  obtain ⟨hc, hf⟩ := bcell hb3
  have p4 : w2.cell? ⟨w.heap.size, 0, none⟩ = some (.int .i64 0) := by rw [hc _ _ (by simp)]; simp
  have p5 : w2.cell? ⟨w.heap.size, 1, none⟩ = some (.int .u64 0) := by rw [hc _ _ (by simp)]; simp
  obtain ⟨_, q1, q2⟩ := put2 (.int .i64 k) (.int .u64 c) p4 p5
  have hB := below_more (below1 w _) hb3
  clear p4 p5 hb1 hb2
  go_wp2
  refine leaves_cons (f := 22) (args := #[.pointer (some ⟨w.heap.size, 0, none⟩)]) (by simp) (by simp [go_sem]) ?_
  refine (idle _ _).mono ?_
  rintro e u' w'' ⟨rfl, rfl, rfl⟩
  have B2 := ((hB.setCell (p := ⟨w.heap.size, 0, none⟩) (Nat.le_refl _) (.int .i64 k)).setCell (p := ⟨w.heap.size, 1, none⟩) (Nat.le_refl _) (.int .u64 c))
  simp [Leaves, settle, results, Try.results15, go_sem, q1, q2, B2]

set_option maxHeartbeats 4000000 in
/-- Apply of none, or of more than two: poison. -/
theorem apply_none (op : Int) (A : Option Addr) (n cap : Nat) (w : World) (h1 : n ≠ 1) (h2 : n ≠ 2) :
    Calls Try.prog 15 #[.int .i64 op, .slice A n cap] w fun e w' => e = .returned (.agg #[.int .i64 0, .int .u64 0]) ∧ Below w.heap.size w w' := by
  have hmf : ∀ (fn : Fn) (first cap : Array Value) (w : World), (Instr.makeFunc fn first cap).run Try.prog w = .ok (.func fn first cap) w := fun _ _ _ _ => rfl
  have f1 : ((n : Int) == 1) = false := by rw [beq_eq_false_iff_ne]; omega
  have f2 : ((n : Int) == 2) = false := by rw [beq_eq_false_iff_ne]; omega
  clear h1 h2
  go_enter_defers Try.func15, Try.ntmps15
  go_wp2
  refine leaves_cons (f := 22) (args := #[.pointer (some ⟨w.heap.size, 0, none⟩)]) (by simp) (by simp [go_sem]) ?_
  refine (idle _ _).mono ?_
  rintro e u' w'' ⟨rfl, rfl, rfl⟩
  have B2 := below1 w (.cells #[.int .i64 0, .int .u64 0] 25)
  simp [Leaves, settle, results, Try.results15, go_sem, B2]

/-- one operand, poison: poison -/
theorem one_poison (op : Int) (b : Int) (w : World) :
    Calls Try.prog 23 #[.int .i64 op, .agg #[.int .i64 0, .int .u64 b]] w fun e w' => e = .returned (.agg #[.int .i64 0, .int .u64 0]) ∧ Below w.heap.size w w' := by
  have z : ∀ w, Calls Try.prog 38 #[.int .i64 op, .int .i64 0] w fun e w' => e = .returned (.int .i64 0) ∧ w = w' := fun w => by
    have h := one_any op 0 w
    rw [show r1P op 0 = 0 by unfold r1P; (repeat' split) <;> omega] at h
    exact h
  have Z := Lib.hid z
  clear z
  go_enter Try.func23, Try.ntmps23
  go_wp2_with (go_at_call 38; refine (Z.out _).mono ?_; rintro e w' ⟨rfl, rfl⟩)
  exact bodyPost_ret (v := .agg #[.int .i64 0, .int .u64 0]) (by simp [results, Try.results23, go_sem]) rfl ⟨rfl, below2 _ _ _⟩
end Go.Proofs.Ytfjnphiegoogoaa
