/- One, Strict, Logic, Cmp, Two, Slot, Gone, Ints -/
import Derived.Test.YtfjnphiegoogoaaZ03
import Derived.Deep.RegionWith
import Derived.BigRegion
import Derived.Deep.QuietTactic
import Derived.BigQuiet
import Derived.Orders
/- One -/
namespace Go.Proofs.Ytfjnphiegoogoaa
open Go.ChangeShapes Go.WideShapes Go.ChangeAt Go.RowKit Go.Fl

set_option maxHeartbeats 4000000 in
/-- Apply of one value where the operator answers. -/
theorem apply_one (op : Int) (A : Option Addr) (cap : Nat) (k1 : Int) (b1 : Nat) (k c : Int) (w : World) (hv : RowV w A 1 [(k1, b1)])
    (hret : ∀ w, Calls Try.prog 23 #[.int .i64 op, .agg #[.int .i64 (clK k1 b1), .int .u64 ((clB k1 b1 : Nat) : Int)]] w fun e w' => e = .returned (.agg #[.int .i64 k, .int .u64 c]) ∧ Below w.heap.size w w') :
    Calls Try.prog 15 #[.int .i64 op, .slice A 1 cap] w fun e w' => e = .returned (.agg #[.int .i64 k, .int .u64 c]) ∧ Below w.heap.size w w' := by
  have hmf : ∀ (fn : Fn) (first cap : Array Value) (w : World), (Instr.makeFunc fn first cap).run Try.prog w = .ok (.func fn first cap) w := fun _ _ _ _ => rfl
  obtain ⟨_, hb, hc0⟩ := hv
  obtain ⟨b, off, rfl, hcell⟩ := hc0 (by decide)
  obtain ⟨r0, r1⟩ := hcell 0 k1 b1 rfl
  have l1 : b1 < 18446744073709551616 := hb (k1, b1) (by simp)
  have HR := Lib.hid hret
  have s0 := cell_later (below1 w (.cells #[.int .i64 0, .int .u64 0] 25)) r0
  have s1 := cell_later (below1 w (.cells #[.int .i64 0, .int .u64 0] 25)) r1
  simp only [Nat.zero_mul, Nat.add_zero] at s0 s1
  clear hcell hc0 hb hret r0 r1
  go_enter_defers Try.func15, Try.ntmps15
  go_wp2_with fail
  refine (clean_any _ _ _ l1).mono ?_; rintro e w1 ⟨rfl, hb1⟩
  go_wp2_with fail
  refine (HR.out _).mono ?_; rintro e w2 ⟨rfl, hb2⟩
  have hb3 := below_more hb1 hb2
  obtain ⟨hc, hf⟩ := bcell hb3
  have p4 : w2.cell? ⟨w.heap.size, 0, none⟩ = some (.int .i64 0) := by rw [hc _ _ (by simp)]; simp
  have p5 : w2.cell? ⟨w.heap.size, 1, none⟩ = some (.int .u64 0) := by rw [hc _ _ (by simp)]; simp
  obtain ⟨_, q1, q2⟩ := put2 (.int .i64 k) (.int .u64 c) p4 p5
  have hB := below_more (below1 w _) hb3
  clear p4 p5 hb1 hb2
  go_wp2
  refine leaves_cons (f := 22) (args := #[.pointer (some ⟨w.heap.size, 0, none⟩)]) (by simp) (by simp [go_sem]) ?_
  refine (idle _ _).mono ?_
  rintro e u' w'' ⟨rfl, rfl, rfl⟩
  have B2 := ((hB.setCell (p := ⟨w.heap.size, 0, none⟩) (Nat.le_refl _) (.int .i64 k)).setCell (p := ⟨w.heap.size, 1, none⟩) (Nat.le_refl _) (.int .u64 c))
  simp [Leaves, settle, results, Try.results15, go_sem, q1, q2, B2]

set_option maxHeartbeats 4000000 in
/-- Apply of none, or of more than two: poison. -/
theorem apply_none (op : Int) (A : Option Addr) (n cap : Nat) (w : World) (h1 : n ≠ 1) (h2 : n ≠ 2) :
    Calls Try.prog 15 #[.int .i64 op, .slice A n cap] w fun e w' => e = .returned (.agg #[.int .i64 0, .int .u64 0]) ∧ Below w.heap.size w w' := by
  have hmf : ∀ (fn : Fn) (first cap : Array Value) (w : World), (Instr.makeFunc fn first cap).run Try.prog w = .ok (.func fn first cap) w := fun _ _ _ _ => rfl
  have f1 : ((n : Int) == 1) = false := by rw [beq_eq_false_iff_ne]; omega
  have f2 : ((n : Int) == 2) = false := by rw [beq_eq_false_iff_ne]; omega
  clear h1 h2
  go_enter_defers Try.func15, Try.ntmps15
  go_wp2
  refine leaves_cons (f := 22) (args := #[.pointer (some ⟨w.heap.size, 0, none⟩)]) (by simp) (by simp [go_sem]) ?_
  refine (idle _ _).mono ?_
  rintro e u' w'' ⟨rfl, rfl, rfl⟩
  have B2 := below1 w (.cells #[.int .i64 0, .int .u64 0] 25)
  simp [Leaves, settle, results, Try.results15, go_sem, B2]

/-- one operand, poison: poison -/
theorem one_poison (op : Int) (b : Int) (w : World) :
    Calls Try.prog 23 #[.int .i64 op, .agg #[.int .i64 0, .int .u64 b]] w fun e w' => e = .returned (.agg #[.int .i64 0, .int .u64 0]) ∧ Below w.heap.size w w' := by
  have z : ∀ w, Calls Try.prog 38 #[.int .i64 op, .int .i64 0] w fun e w' => e = .returned (.int .i64 0) ∧ w = w' := fun w => by
    have h := one_any op 0 w
    rw [show r1P op 0 = 0 by unfold r1P; (repeat' split) <;> omega] at h
    exact h
  have Z := Lib.hid z
  clear z
  go_enter Try.func23, Try.ntmps23
  go_wp2_with (go_at_call 38; refine (Z.out _).mono ?_; rintro e w' ⟨rfl, rfl⟩)
  exact bodyPost_ret (v := .agg #[.int .i64 0, .int .u64 0]) (by simp [results, Try.results23, go_sem]) rfl ⟨rfl, below2 _ _ _⟩
end Go.Proofs.Ytfjnphiegoogoaa

/- Strict -/
namespace Go.Proofs.Ytfjnphiegoogoaa
open Go.ChangeShapes Go.WideShapes Go.ChangeAt Go.RowKit Go.Fl

def boK (k b l c t : Int) : Int := if (k = 2 ∧ b = t) ∨ (l = 2 ∧ c = t) then 2 else if k ≠ 2 ∨ l ≠ 2 then 0 else k
def boB (k b l c t : Int) : Int := if (k = 2 ∧ b = t) ∨ (l = 2 ∧ c = t) then t else if k ≠ 2 ∨ l ≠ 2 then 0 else b

theorem below4 (w : World) (o p q r : Obj) : Below w.heap.size w ((((w.alloc o).alloc p).alloc q).alloc r) := (below3 w o p q).alloc (by simp; omega) _

set_option maxHeartbeats 1000000 in
theorem both_any (k b l c t : Int) (w : World) :
    Calls Try.prog 47 #[.agg #[.int .i64 k, .int .u64 b], .agg #[.int .i64 l, .int .u64 c], .agg #[.int .i64 2, .int .u64 t]] w fun e w' => e = .returned (.agg #[.int .i64 (boK k b l c t), .int .u64 (boB k b l c t)]) ∧ Below w.heap.size w w' := by
  have he := eqV
  by_cases c1 : k = 2 ∧ b = t
  · obtain ⟨rfl, rfl⟩ := c1
    have E1 := Lib.hid (show (2 : Int) = boK 2 b l c b by unfold boK; rw [if_pos (Or.inl ⟨rfl, rfl⟩)])
    have E2 := Lib.hid (show b = boB 2 b l c b by unfold boB; rw [if_pos (Or.inl ⟨rfl, rfl⟩)])
    go_enter Try.func47, Try.ntmps47
    go_wp2
    exact bodyPost_ret (v := .agg #[.int .i64 2, .int .u64 b]) (by simp [results, Try.results47, go_sem]) rfl ⟨ret_val E1.out E2.out, below4 _ _ _ _ _⟩
  have e1 : (decide (k = 2) && decide (b = t)) = false := by simpa using c1
  by_cases c2 : l = 2 ∧ c = t
  · obtain ⟨rfl, rfl⟩ := c2
    have E1 := Lib.hid (show (2 : Int) = boK k b 2 c c by unfold boK; rw [if_pos (Or.inr ⟨rfl, rfl⟩)])
    have E2 := Lib.hid (show c = boB k b 2 c c by unfold boB; rw [if_pos (Or.inr ⟨rfl, rfl⟩)])
    clear c1
    go_enter Try.func47, Try.ntmps47
    go_wp2
    exact bodyPost_ret (v := .agg #[.int .i64 2, .int .u64 c]) (by simp [results, Try.results47, go_sem]) rfl ⟨ret_val E1.out E2.out, below4 _ _ _ _ _⟩
  have e2 : (decide (l = 2) && decide (c = t)) = false := by simpa using c2
  by_cases c3 : k ≠ 2
  · have E1 := Lib.hid (show (0 : Int) = boK k b l c t by unfold boK; rw [if_neg (by omega), if_pos (Or.inl c3)])
    have E2 := Lib.hid (show (0 : Int) = boB k b l c t by unfold boB; rw [if_neg (by omega), if_pos (Or.inl c3)])
    have f : (k != 2) = true := by simpa using c3
    clear c1 c2 c3
    go_enter Try.func47, Try.ntmps47
    go_wp2
    exact bodyPost_ret (v := .agg #[.int .i64 0, .int .u64 0]) (by simp [results, Try.results47, go_sem]) rfl ⟨ret_val E1.out E2.out, below4 _ _ _ _ _⟩
  obtain rfl : k = 2 := by omega
  by_cases c4 : l ≠ 2
  · have E1 := Lib.hid (show (0 : Int) = boK 2 b l c t by unfold boK; rw [if_neg (by omega), if_pos (Or.inr c4)])
    have E2 := Lib.hid (show (0 : Int) = boB 2 b l c t by unfold boB; rw [if_neg (by omega), if_pos (Or.inr c4)])
    have f : (l != 2) = true := by simpa using c4
    have g : decide (b = t) = false := by simpa using c1
    clear c1 c2 c3 c4
    go_enter Try.func47, Try.ntmps47
    go_wp2
    exact bodyPost_ret (v := .agg #[.int .i64 0, .int .u64 0]) (by simp [results, Try.results47, go_sem]) rfl ⟨ret_val E1.out E2.out, below4 _ _ _ _ _⟩
  · obtain rfl : l = 2 := by omega
    have E1 := Lib.hid (show (2 : Int) = boK 2 b 2 c t by unfold boK; rw [if_neg (by omega), if_neg (by omega)])
    have E2 := Lib.hid (show b = boB 2 b 2 c t by unfold boB; rw [if_neg (by omega), if_neg (by omega)])
    have g : decide (b = t) = false := by simpa using c1
    have g2 : decide (c = t) = false := by simpa using c2
    clear c1 c2 c3 c4
    go_enter Try.func47, Try.ntmps47
    go_wp2
    exact bodyPost_ret (v := .agg #[.int .i64 2, .int .u64 b]) (by simp [results, Try.results47, go_sem]) rfl ⟨ret_val E1.out E2.out, below4 _ _ _ _ _⟩

/-- two operands of unlike kinds: poison, but for AND and OR -/
theorem two_unlike (op k b l c : Int) (w : World) (h13 : op ≠ 13) (h14 : op ≠ 14) (hk : k ≠ l ∨ (k = 0 ∧ l = 0)) :
    Calls Try.prog 25 #[.int .i64 op, .agg #[.int .i64 k, .int .u64 b], .agg #[.int .i64 l, .int .u64 c]] w fun e w' => e = .returned (.agg #[.int .i64 0, .int .u64 0]) ∧ Below w.heap.size w w' := by
  have f13 : (op == 13) = false := by simpa using h13
  have f14 : (op == 14) = false := by simpa using h14
  by_cases e : k ≠ l
  · have f : (k != l) = true := by simpa using e
    clear h13 h14 hk e
    go_enter Try.func25, Try.ntmps25
    go_wp2
    exact bodyPost_ret (v := .agg #[.int .i64 0, .int .u64 0]) (by simp [results, Try.results25, go_sem]) rfl ⟨rfl, below3 _ _ _ _⟩
  · obtain ⟨rfl, rfl⟩ := hk.resolve_left e
    have z : ∀ w, Calls Try.prog 48 #[.int .i64 op, .int .i64 0] w fun e w' => e = .returned (.int .i64 0) ∧ w = w' := fun w => by
      have h := two_any op 0 w
      rw [show r2P op 0 = 0 by unfold r2P; (repeat' split) <;> omega] at h
      exact h
    have Z := Lib.hid z
    clear z h13 h14 hk e
    go_enter Try.func25, Try.ntmps25
    go_wp2_with (go_at_call 48; refine (Z.out _).mono ?_; rintro e w' ⟨rfl, rfl⟩)
    exact bodyPost_ret (v := .agg #[.int .i64 0, .int .u64 0]) (by simp [results, Try.results25, go_sem]) rfl ⟨rfl, below3 _ _ _ _⟩
end Go.Proofs.Ytfjnphiegoogoaa

/- Logic -/
namespace Go.Proofs.Ytfjnphiegoogoaa
open Go.ChangeShapes Go.WideShapes Go.ChangeAt Go.RowKit Go.Fl

/-- both operands and the answer's place -/
def TwoJ (w0 : World) (k b l c : Int) (w' : World) : Prop :=
  w'.cell? ⟨w0.heap.size, 0, none⟩ = some (.int .i64 k) ∧ w'.cell? ⟨w0.heap.size, 1, none⟩ = some (.int .u64 b) ∧ w'.cell? ⟨w0.heap.size + 1, 0, none⟩ = some (.int .i64 l) ∧ w'.cell? ⟨w0.heap.size + 1, 1, none⟩ = some (.int .u64 c) ∧
  w'.cell? ⟨w0.heap.size + 1 + 1, 0, none⟩ = some (.int .i64 0) ∧ w'.cell? ⟨w0.heap.size + 1 + 1, 1, none⟩ = some (.int .u64 0) ∧ w'.frozen? ⟨w0.heap.size + 1 + 1, 0, none⟩ = false ∧ w'.frozen? ⟨w0.heap.size + 1 + 1, 1, none⟩ = false ∧ Below w0.heap.size w0 w'

theorem TwoJ.later {w0 w w1 : World} {k b l c : Int} (h : TwoJ w0 k b l c w) (hb : Below w.heap.size w w1) : TwoJ w0 k b l c w1 := by
  obtain ⟨h0, h1, h2, h3, h4, h5, h6, h7, h8⟩ := h
  have hg := block_of_cell h4
  exact ⟨cell_later hb h0, cell_later hb h1, cell_later hb h2, cell_later hb h3, cell_later hb h4, cell_later hb h5, (hb.frozen (p := ⟨w0.heap.size + 1 + 1, 0, none⟩) hg).trans h6, (hb.frozen (p := ⟨w0.heap.size + 1 + 1, 1, none⟩) hg).trans h7, below_more h8 hb⟩

theorem ofbool_f (w : World) : Calls Try.prog 39 #[.bool false] w fun e w' => e = .returned (.agg #[.int .i64 2, .int .u64 0]) ∧ Below w.heap.size w w' := ofbool_v false w
theorem ofbool_t (w : World) : Calls Try.prog 39 #[.bool true] w fun e w' => e = .returned (.agg #[.int .i64 2, .int .u64 1]) ∧ Below w.heap.size w w' := ofbool_v true w

set_option maxHeartbeats 4000000 in
theorem two_and (k b l c : Int) (w : World) :
    Calls Try.prog 25 #[.int .i64 13, .agg #[.int .i64 k, .int .u64 b], .agg #[.int .i64 l, .int .u64 c]] w fun e w' => e = .returned (.agg #[.int .i64 (boK k b l c 0), .int .u64 (boB k b l c 0)]) ∧ Below w.heap.size w w' := by
  have base : TwoJ w k b l c (((w.alloc (.cells #[.int .i64 k, .int .u64 b] 25)).alloc (.cells #[.int .i64 l, .int .u64 c] 25)).alloc (.cells #[.int .i64 0, .int .u64 0] 25)).drew :=
    ⟨by simp [go_sem], by simp [go_sem], by simp [go_sem], by simp [go_sem], by simp [go_sem], by simp [go_sem], by simp [go_sem], by simp [go_sem], (below3 _ _ _ _).drew⟩
  have base' := base
  obtain ⟨s0, s1, s2, s3, s4, s5, s6, s7, s8⟩ := base'
  go_enter Try.func25, Try.ntmps25
  go_wp2_with fail
  go_region_with (first | (go_at_call 39; refine (ofbool_f _).mono ?_; rintro e w1 ⟨rfl, hb1⟩; have j1 := TwoJ.later (by assumption) hb1; have j2 := j1; obtain ⟨p0, p1, p2, p3, p4, p5, p6, p7, p8⟩ := j2) | (go_at_call 47; refine (both_any _ _ _ _ _ _).mono ?_; rintro e w1 ⟨rfl, hb1⟩; have j1 := TwoJ.later (by assumption) hb1; have j2 := j1; obtain ⟨p0, p1, p2, p3, p4, p5, p6, p7, p8⟩ := j2))
  all_goals
    obtain ⟨_, q1, q2⟩ := put2 (.int .i64 (boK k b l c 0)) (.int .u64 (boB k b l c 0)) p4 p5
    have B2 := ((p8.setCell (p := ⟨w.heap.size + 1 + 1, 0, none⟩) (by show w.heap.size ≤ w.heap.size + 1 + 1; omega) (.int .i64 (boK k b l c 0))).setCell (p := ⟨w.heap.size + 1 + 1, 1, none⟩) (by show w.heap.size ≤ w.heap.size + 1 + 1; omega) (.int .u64 (boB k b l c 0)))
    go_wp2
    exact bodyPost_ret (v := .agg #[.int .i64 (boK k b l c 0), .int .u64 (boB k b l c 0)]) (by simp [results, Try.results25, go_sem, q1, q2]) rfl ⟨rfl, B2⟩

set_option maxHeartbeats 4000000 in
theorem two_or (k b l c : Int) (w : World) :
    Calls Try.prog 25 #[.int .i64 14, .agg #[.int .i64 k, .int .u64 b], .agg #[.int .i64 l, .int .u64 c]] w fun e w' => e = .returned (.agg #[.int .i64 (boK k b l c 1), .int .u64 (boB k b l c 1)]) ∧ Below w.heap.size w w' := by
  have base : TwoJ w k b l c (((w.alloc (.cells #[.int .i64 k, .int .u64 b] 25)).alloc (.cells #[.int .i64 l, .int .u64 c] 25)).alloc (.cells #[.int .i64 0, .int .u64 0] 25)).drew :=
    ⟨by simp [go_sem], by simp [go_sem], by simp [go_sem], by simp [go_sem], by simp [go_sem], by simp [go_sem], by simp [go_sem], by simp [go_sem], (below3 _ _ _ _).drew⟩
  have base' := base
  obtain ⟨s0, s1, s2, s3, s4, s5, s6, s7, s8⟩ := base'
  go_enter Try.func25, Try.ntmps25
  go_wp2_with fail
  go_region_with (first | (go_at_call 39; refine (ofbool_t _).mono ?_; rintro e w1 ⟨rfl, hb1⟩; have j1 := TwoJ.later (by assumption) hb1; have j2 := j1; obtain ⟨p0, p1, p2, p3, p4, p5, p6, p7, p8⟩ := j2) | (go_at_call 47; refine (both_any _ _ _ _ _ _).mono ?_; rintro e w1 ⟨rfl, hb1⟩; have j1 := TwoJ.later (by assumption) hb1; have j2 := j1; obtain ⟨p0, p1, p2, p3, p4, p5, p6, p7, p8⟩ := j2))
  all_goals
    obtain ⟨_, q1, q2⟩ := put2 (.int .i64 (boK k b l c 1)) (.int .u64 (boB k b l c 1)) p4 p5
    have B2 := ((p8.setCell (p := ⟨w.heap.size + 1 + 1, 0, none⟩) (by show w.heap.size ≤ w.heap.size + 1 + 1; omega) (.int .i64 (boK k b l c 1))).setCell (p := ⟨w.heap.size + 1 + 1, 1, none⟩) (by show w.heap.size ≤ w.heap.size + 1 + 1; omega) (.int .u64 (boB k b l c 1)))
    go_wp2
    exact bodyPost_ret (v := .agg #[.int .i64 (boK k b l c 1), .int .u64 (boB k b l c 1)]) (by simp [results, Try.results25, go_sem, q1, q2]) rfl ⟨rfl, B2⟩

end Go.Proofs.Ytfjnphiegoogoaa

/- Cmp -/
namespace Go.Proofs.Ytfjnphiegoogoaa
open Go.ChangeShapes Go.WideShapes Go.ChangeAt Go.RowKit Go.Fl

def cmpS (op : Int) (e l g : Bool) : Bool := if op = 7 then e else if op = 8 then !e else if op = 9 then l else if op = 10 then (l || e) else if op = 11 then g else (g || e)
def eqV2 (k : Int) (b c : Nat) : Bool := if k = 4 then eqB b c else ((b : Int) == (c : Int))
def ltV (k : Int) (b c : Nat) : Bool := if k = 4 then ltB b c else decide (wrap64 (b : Int) < wrap64 (c : Int))
def cmpB (op k : Int) (b c : Nat) : Bool := cmpS op (eqV2 k b c) (ltV k b c) (ltV k c b)

theorem below_drewN {B : Nat} {w w1 : World} (h : Below B w w1) (n : Nat) : Below B w (w1.drewN n) := by
  induction n with
  | zero => exact h
  | succ n ih => exact ih.drew

set_option maxHeartbeats 4000000 in
set_option maxRecDepth 100000 in
theorem compare_v (op k : Int) (b c : Nat) (w : World) :
    Calls Try.prog 49 #[.int .i64 op, .agg #[.int .i64 k, .int .u64 (b : Int)], .agg #[.int .i64 k, .int .u64 (c : Int)]] w fun e w' => e = .returned (.bool (cmpB op k b c)) ∧ Below w.heap.size w w' := by
  unfold cmpB
  by_cases k4 : k = 4
  · subst k4
    unfold eqV2 ltV
    simp only [if_true]
    have H1 := Lib.hid (fun w => (equal_any b c w).mono fun e w' h => (⟨h.1, h.2.symm⟩ : e = .returned (.bool (eqB b c)) ∧ w' = w))
    have H2 := Lib.hid (fun w => (less_any b c w).mono fun e w' h => (⟨h.1, h.2.symm⟩ : e = .returned (.bool (ltB b c)) ∧ w' = w))
    have H3 := Lib.hid (fun w => (less_any c b w).mono fun e w' h => (⟨h.1, h.2.symm⟩ : e = .returned (.bool (ltB c b)) ∧ w' = w))
    generalize eqB b c = e at *
    generalize ltB b c = l at *
    generalize ltB c b = g at *
    go_enter Try.func49, Try.ntmps49
    go_wp2_with fail
    go_quiet (fail)
    go_wp2_with fail
    go_quiet (first | (go_at_call 42; (refine (H1.out _).mono ?_; rintro e w' ⟨rfl, rfl⟩; exact ⟨rfl, _, rfl⟩)) | (go_at_call 69; first | (refine (H2.out _).mono ?_; rintro e w' ⟨rfl, rfl⟩; exact ⟨rfl, _, rfl⟩) | (refine (H3.out _).mono ?_; rintro e w' ⟨rfl, rfl⟩; exact ⟨rfl, _, rfl⟩)))
    clear H1 H2 H3
    cases e <;> cases l <;> cases g
    all_goals go_wp2
    all_goals go_ret
    all_goals refine ⟨ret_bool ?_, below_drewN (below2 _ _ _) _⟩
    all_goals (try simp only [beq_iff_eq, beq_eq_false_iff_ne] at *)
    all_goals unfold cmpS
    all_goals ((repeat' split) <;> first | rfl | (exfalso; omega) | (cases e <;> cases l <;> cases g <;> first | rfl | simp_all))
  · have f4 : (k == 4) = false := by simpa using k4
    unfold eqV2 ltV
    simp only [if_neg k4]
    obtain ⟨e, he⟩ : ∃ e, ((b : Int) == (c : Int)) = e := ⟨_, rfl⟩
    obtain ⟨l, hl⟩ : ∃ e, decide (wrap64 (b : Int) < wrap64 (c : Int)) = e := ⟨_, rfl⟩
    obtain ⟨g, hg⟩ : ∃ e, decide (wrap64 (c : Int) < wrap64 (b : Int)) = e := ⟨_, rfl⟩
    rw [he, hl, hg]
    clear k4
    go_enter Try.func49, Try.ntmps49
    go_wp2_with fail
    go_quiet (fail)
    go_wp2_with fail
    all_goals clear he hl hg
    all_goals go_ret
    all_goals refine ⟨ret_bool ?_, below_drewN (below2 _ _ _) _⟩
    all_goals (try simp only [beq_iff_eq, beq_eq_false_iff_ne] at *)
    all_goals unfold cmpS
    all_goals ((repeat' split) <;> first | rfl | (exfalso; omega) | (cases e <;> cases l <;> cases g <;> first | rfl | simp_all))
end Go.Proofs.Ytfjnphiegoogoaa

/- Two -/
namespace Go.Proofs.Ytfjnphiegoogoaa
open Go.ChangeShapes Go.WideShapes Go.ChangeAt Go.RowKit Go.Fl

/-- a truth as bits -/
def b2n (x : Bool) : Nat := if x then 1 else 0

set_option maxHeartbeats 1000000 in
set_option maxRecDepth 100000 in
/-- two operands of one kind at an operator that compares them -/
theorem two_cmp (op k : Int) (b c : Nat) (w : World) (h : r2P op k = 2) (h13 : op ≠ 13) (h14 : op ≠ 14) :
    Calls Try.prog 25 #[.int .i64 op, .agg #[.int .i64 k, .int .u64 (b : Int)], .agg #[.int .i64 k, .int .u64 (c : Int)]] w fun e w' => e = .returned (.agg #[.int .i64 2, .int .u64 ((b2n (cmpB op k b c) : Nat) : Int)]) ∧ Below w.heap.size w w' := by
  have Z := Lib.hid (fun w => two_any op k w)
  rw [h] at Z
  have f13 : (op == 13) = false := by simpa using h13
  have f14 : (op == 14) = false := by simpa using h14
  have f : (k != k) = false := by simp
  have H := Lib.hid (fun w => compare_v op k b c w)
  clear h h13 h14
  generalize cmpB op k b c = x at *
  go_enter Try.func25, Try.ntmps25
  go_wp2_with (go_at_call 48; refine (Z.out _).mono ?_; rintro e w' ⟨rfl, rfl⟩)
  refine (H.out _).mono ?_; rintro e w1 ⟨rfl, hb1⟩
  go_wp2_with fail
  refine (ofbool_v x _).mono ?_; rintro e w2 ⟨rfl, hb2⟩
  have hb3 := below_more hb1 hb2
  obtain ⟨hc, hf⟩ := bcell hb3
  have p4 : w2.cell? ⟨w.heap.size + 1 + 1, 0, none⟩ = some (.int .i64 0) := by rw [hc _ _ (by simp)]; simp [go_sem]
  have p5 : w2.cell? ⟨w.heap.size + 1 + 1, 1, none⟩ = some (.int .u64 0) := by rw [hc _ _ (by simp)]; simp [go_sem]
  have p6 : w2.frozen? ⟨w.heap.size + 1 + 1, 0, none⟩ = false := by rw [hf _ _ (by simp)]; simp [go_sem]
  have p7 : w2.frozen? ⟨w.heap.size + 1 + 1, 1, none⟩ = false := by rw [hf _ _ (by simp)]; simp [go_sem]
  have hB := below_more (below3 w _ _ _) hb3
  clear hb1 hb2 hc hf hb3 Z H
  rw [show tB x = ((b2n x : Nat) : Int) by cases x <;> rfl]
  obtain ⟨_, q1, q2⟩ := put2 (w := w2) (g := w.heap.size + 1 + 1) (.int .i64 2) (.int .u64 ((b2n x : Nat) : Int)) p4 p5
  have B2 := ((hB.setCell (p := ⟨w.heap.size + 1 + 1, 0, none⟩) (by show w.heap.size ≤ w.heap.size + 1 + 1; omega) (.int .i64 2)).setCell (p := ⟨w.heap.size + 1 + 1, 1, none⟩) (by show w.heap.size ≤ w.heap.size + 1 + 1; omega) (.int .u64 ((b2n x : Nat) : Int)))
  go_wp2
  exact bodyPost_ret (v := .agg #[.int .i64 2, .int .u64 ((b2n x : Nat) : Int)]) (by simp [results, Try.results25, go_sem, q1, q2]) rfl ⟨rfl, B2⟩

/-- what an operator of two reals makes of them -/
def ansR (op : Int) (a b : Nat) : Nat := if op = 1 then res (Ieee.double.add a b) else if op = 2 then res (Ieee.double.sub a b) else if op = 3 then res (Ieee.double.mul a b) else res (Ieee.double.div a b)

theorem reckonR_any (op : Int) (a b : Nat) (w : World) :
    Calls Try.prog 51 #[.int .i64 op, .int .u64 (a : Int), .int .u64 (b : Int)] w fun e w' => e = .returned (.int .u64 ((ansR op a b : Nat) : Int)) ∧ ∃ k, w' = w.drewN k := by
  unfold ansR
  by_cases c1 : op = 1
  · rw [if_pos c1]; subst c1
    have H := Lib.hid (fun w => add_any a b w)
    generalize res (Ieee.double.add a b) = r at *
    go_enter Try.func51, Try.ntmps51
    go_wp2_with (go_at_call 74; refine (H.out _).mono ?_; rintro e w' ⟨rfl, k, rfl⟩)
    go_ret
    exact ⟨rfl, _, rfl⟩
  rw [if_neg c1]
  have f1 : (op == 1) = false := by simpa using c1
  by_cases c2 : op = 2
  · rw [if_pos c2]; subst c2
    have H := Lib.hid (fun w => sub_any a b w)
    generalize res (Ieee.double.sub a b) = r at *
    go_enter Try.func51, Try.ntmps51
    go_wp2_with (go_at_call 75; refine (H.out _).mono ?_; rintro e w' ⟨rfl, k, rfl⟩)
    go_ret
    exact ⟨rfl, _, rfl⟩
  rw [if_neg c2]
  have f2 : (op == 2) = false := by simpa using c2
  by_cases c3 : op = 3
  · rw [if_pos c3]; subst c3
    have H := Lib.hid (fun w => mul_any a b w)
    generalize res (Ieee.double.mul a b) = r at *
    go_enter Try.func51, Try.ntmps51
    go_wp2_with (go_at_call 76; refine (H.out _).mono ?_; rintro e w' ⟨rfl, k, rfl⟩)
    go_ret
    exact ⟨rfl, _, rfl⟩
  rw [if_neg c3]
  have f3 : (op == 3) = false := by simpa using c3
  have H := Lib.hid (fun w => div_any a b w)
  generalize res (Ieee.double.div a b) = r at *
  clear c1 c2 c3
  go_enter Try.func51, Try.ntmps51
  go_wp2_with (go_at_call 77; refine (H.out _).mono ?_; rintro e w' ⟨rfl, k, rfl⟩)
  go_ret
  exact ⟨rfl, _, rfl⟩

set_option maxHeartbeats 1000000 in
set_option maxRecDepth 100000 in
/-- two reals at an operator that reckons -/
theorem two_real (op : Int) (b c : Nat) (w : World) (h1 : 1 ≤ op) (h4 : op ≤ 4) :
    Calls Try.prog 25 #[.int .i64 op, .agg #[.int .i64 4, .int .u64 (b : Int)], .agg #[.int .i64 4, .int .u64 (c : Int)]] w fun e w' => e = .returned (.agg #[.int .i64 4, .int .u64 ((ansR op b c : Nat) : Int)]) ∧ Below w.heap.size w w' := by
  have Z := Lib.hid (fun w => two_any op 4 w)
  rw [show r2P op 4 = 4 by unfold r2P; (repeat' split) <;> omega] at Z
  have f13 : (op == 13) = false := by rw [beq_eq_false_iff_ne]; omega
  have f14 : (op == 14) = false := by rw [beq_eq_false_iff_ne]; omega
  have H := Lib.hid (fun w => reckonR_any op b c w)
  clear h1 h4
  generalize ansR op b c = x at *
  go_enter Try.func25, Try.ntmps25
  go_wp2_with (first | (go_at_call 48; refine (Z.out _).mono ?_; rintro e w' ⟨rfl, rfl⟩) | (go_at_call 51; refine (H.out _).mono ?_; rintro e w' ⟨rfl, n, rfl⟩))
  refine (ofreal_v _ _).mono ?_; rintro e w2 ⟨rfl, hb2⟩
  have hb3 := hb2
  obtain ⟨hc, hf⟩ := bcell hb3
  have p4 : w2.cell? ⟨w.heap.size + 1 + 1, 0, none⟩ = some (.int .i64 0) := by rw [hc _ _ (by simp)]; simp [go_sem]
  have p5 : w2.cell? ⟨w.heap.size + 1 + 1, 1, none⟩ = some (.int .u64 0) := by rw [hc _ _ (by simp)]; simp [go_sem]
  have p6 : w2.frozen? ⟨w.heap.size + 1 + 1, 0, none⟩ = false := by rw [hf _ _ (by simp)]; simp [go_sem]
  have p7 : w2.frozen? ⟨w.heap.size + 1 + 1, 1, none⟩ = false := by rw [hf _ _ (by simp)]; simp [go_sem]
  have hB := below_more (below_drewN (below3 w _ _ _) _) hb3
  clear hb2 hc hf hb3 Z H
  obtain ⟨_, q1, q2⟩ := put2 (w := w2) (g := w.heap.size + 1 + 1) (.int .i64 4) (.int .u64 ((x : Nat) : Int)) p4 p5
  have B2 := ((hB.setCell (p := ⟨w.heap.size + 1 + 1, 0, none⟩) (by show w.heap.size ≤ w.heap.size + 1 + 1; omega) (.int .i64 4)).setCell (p := ⟨w.heap.size + 1 + 1, 1, none⟩) (by show w.heap.size ≤ w.heap.size + 1 + 1; omega) (.int .u64 ((x : Nat) : Int)))
  go_wp2
  exact bodyPost_ret (v := .agg #[.int .i64 4, .int .u64 ((x : Nat) : Int)]) (by simp [results, Try.results25, go_sem, q1, q2]) rfl ⟨rfl, B2⟩
end Go.Proofs.Ytfjnphiegoogoaa

/- Slot -/
namespace Go.Proofs.Ytfjnphiegoogoaa
open Go.ChangeShapes Go.WideShapes Go.ChangeAt Go.RowKit Go.Fl

/-- Q, and slot k holds x -/
def AndSlot (k : Nat) (x : Option Value) (Q : Exit → Act → World → Prop) : Exit → Act → World → Prop
  | .outgrown, a, w => Q .outgrown a w
  | e, a, w => Q e a w ∧ a.tmps[k]? = x

theorem letsOut_slot {k : Nat} {x : Option Value} {Q : Exit → Act → World → Prop} (h : LetsOut Q) : LetsOut (AndSlot k x Q) :=
  let ⟨a, w, q⟩ := h
  ⟨a, w, q⟩

theorem put_slot {k : Nat} (a : Act) (d : Option Tmp) (v : Value) (h : d ≠ some k) : (a.put d v).tmps[k]? = a.tmps[k]? := by
  unfold Act.put
  cases d with
  | none => rfl
  | some d =>
    have hk : ¬ d = k := fun e => h (by rw [e])
    simp [hk]

section
variable {P : Program} {ops : Array Oper} {Q : Exit → Act → World → Prop} {md : Region.Mode} {k : Nat} {x : Option Value}

theorem oper_slot {o : Oper} {a : Act} {w : World} {K : Act → World → Prop} (hd : o.dst ≠ some k) (hx : a.tmps[k]? = x) (h : o.wp P a w K Q) :
    o.wp P a w (fun a' w' => K a' w' ∧ a'.tmps[k]? = x) (AndSlot k x Q) := by
  unfold Oper.wp at *
  generalize (execOp a.eval o).run P w = r at *
  cases r with
  | ok n w' =>
    cases n <;> simp only [Oper.upon] at h ⊢
    case value v => exact ⟨h, (put_slot a o.dst v hd).trans hx⟩
    case skip => exact ⟨h, (put_slot a o.dst undef hd).trans hx⟩
    case defer d => exact ⟨h, (put_slot { a with defers := d :: a.defers } o.dst undef hd).trans hx⟩
    case enter f args =>
      refine Calls.mono h fun e w'' he => ?_
      cases e with
      | returned u => exact ⟨he, (put_slot a o.dst u hd).trans hx⟩
      | panicked c => exact ⟨he, hx⟩
      | outgrown => exact letsOut_slot he
    case row row args => exact Rows.mono h fun u w'' he => ⟨he, (put_slot a o.dst u hd).trans hx⟩
  | halt y w' =>
    cases y <;> simp only [Oper.upon] at h ⊢
    case panic u => exact ⟨h, hx⟩

theorem wpOp_slot {i : Nat} {a : Act} {w : World} {K : Act → World → Prop} (hd : ∀ o, ops[i]? = some o → o.dst ≠ some k) (hx : a.tmps[k]? = x)
    (h : wpOp P ops Q i K a w) : wpOp P ops (AndSlot k x Q) i (fun a' w' => K a' w' ∧ a'.tmps[k]? = x) a w := by
  unfold wpOp at *
  split
  · rename_i ho; simp only [ho] at h; exact ⟨h, hx⟩
  · rename_i o ho
    simp only [ho] at h
    split
    · rename_i hw
      simp only [hw, if_true] at h
      rcases h with h | ⟨h1, h2⟩
      · exact .inl (oper_slot (hd o ho) hx h)
      · exact .inr ⟨h1, letsOut_slot h2⟩
    · rename_i hw
      simp only [hw] at h
      exact ⟨h, (put_slot a o.dst undef (hd o ho)).trans hx⟩

theorem wpAny_slot (hd : ∀ (i : Nat) o, ops[i]? = some o → o.dst ≠ some k) : ∀ (fuel : Nat) (listed : Array Bool) (a : Act) (w : World), a.tmps[k]? = x →
    wpAny P md ops Q fuel listed a w → wpAny P md ops (AndSlot k x Q) fuel listed a w
  | 0, _, _, _, hx, h => ⟨h.1, h.2, hx⟩
  | fuel + 1, _, _, _, hx, h => ⟨fun h0 => ⟨h.1 h0, hx⟩, fun i hi => wpOp_mono (fun a' w' h' => wpAny_slot hd fuel _ a' w' h'.2 h'.1) (wpOp_slot (hd i) hx (h.2 i hi))⟩

/-- what is said of a region that panics for sure: with which chain, the deferred calls, the world -/
def GoneQ (chain : List PanicEntry) (D : List Deferred) (J : World → Prop) : Exit → Act → World → Prop
  | .panic c, a, w => c = chain ∧ a.defers = D ∧ J w
  | _, _, _ => False

/-- the walk's trick: a goal that is paid stands as an empty region's -/
theorem pays {X : Prop} {P : Program} (a : Act) (w : World) (h : X) : wpAny P .any #[] (fun _ _ _ => True) 0 #[] a w → X := fun _ => h

theorem wp_region_gone {id : Nat} {chain : List PanicEntry} {D : List Deferred} {J : World → Prop} {a : Act} {w : World} (k : Nat) (x : Value)
    (hd : ops.all (fun o => o.dst != some k) = true) (hx : a.tmps[k]? = some x)
    (hm : P.follows .mixedOrders = true) (hQ : ∀ a' w', a'.tmps[k]? = some x → a'.defers = D → J w' → Q (.panic chain) a' w')
    (h : wpAny P .any ops (GoneQ chain D J) ops.size (Array.replicate ops.size false) a { w with drawn := w.drawn + 1 }) : (Code.region id ops true).wp P Q a w := by
  have hd' : ∀ (i : Nat) o, ops[i]? = some o → o.dst ≠ some k := fun i o ho => by
    have := Array.all_eq_true'.1 hd o (Array.mem_of_getElem? ho)
    simpa using this
  refine Code.wp_mono ?_ (wp_region_any hm (wpAny_slot (k := k) (x := some x) hd' _ _ _ _ hx h))
  intro e a' w' hq
  cases e with
  | panic c =>
    obtain ⟨⟨rfl, h2, h3⟩, h4⟩ := hq
    exact hQ a' w' h4 h2 h3
  | outgrown => exact (hq : False).elim
  | normal => exact (hq.1 : False).elim
  | ret => exact (hq.1 : False).elim
  | _ => exact (hq.1 : False).elim
end
end Go.Proofs.Ytfjnphiegoogoaa

/- Gone -/
namespace Go.Proofs.Ytfjnphiegoogoaa
open Go.ChangeShapes Go.WideShapes Go.ChangeAt Go.RowKit Go.Fl

/-- what an operator gives up with -/
def outV : Value := .iface 60 (.agg #[])
def outP : PanicEntry := { v := outV, recovered := false }

set_option maxRecDepth 100000 in
theorem gone (g : Nat) (w : World) (x y : Value) (h0 : w.cell? ⟨g, 0, none⟩ = some x) (h1 : w.cell? ⟨g, 1, none⟩ = some y) (h2 : w.frozen? ⟨g, 0, none⟩ = false) (h3 : w.frozen? ⟨g, 1, none⟩ = false) :
    CallsD Try.prog 22 #[.pointer (some ⟨g, 0, none⟩)] (.panicking [outP]) w fun e u' w' =>
      e = .returned (.tuple #[]) ∧ u' = .panicking [{ v := outV, recovered := true }] ∧ w' = (w.setCell ⟨g, 0, none⟩ (.int .i64 0)).setCell ⟨g, 1, none⟩ (.int .u64 0) := by
  refine callsD_of_wpS Try.func22 rfl fun c₀ cs hu => ?_
  apply wpS_seq
  apply wpS_region
  simp [wpOpsS, go_sem, recoverD, hu, Try.ntmps22, Exit.thenS, outP]
  refine wpS_of_wp ?_
  unfold outV
  have he : ∀ w, (binOp .eql 20 (.iface 60 (.agg #[])) (.iface 60 (.agg #[]))).run Try.prog w = .ok (.bool true) w := fun w => rfl
  go_wp2
  cases c₀
  simp_all [bodyPostS, results, Try.results22]
end Go.Proofs.Ytfjnphiegoogoaa

/- Ints -/
namespace Go.Proofs.Ytfjnphiegoogoaa
open Go.ChangeShapes Go.WideShapes Go.ChangeAt Go.RowKit Go.Fl

def I64 (z : Int) : Prop := -9223372036854775808 ≤ z ∧ z ≤ 9223372036854775807
instance (z : Int) : Decidable (I64 z) := inferInstanceAs (Decidable (_ ∧ _))

/-- how an operator of whole numbers ends -/
def endI : Option Int → Ending
  | none => .panicked [outP]
  | some z => .returned (.int .i64 z)
def chk (z : Int) : Option Int := if I64 z then some z else none

theorem plus_any (a b : Int) (w : World) (ha : I64 a) (hb : I64 b) :
    Calls Try.prog 70 #[.int .i64 a, .int .i64 b] w fun e w' => e = endI (chk (a + b)) ∧ w = w' := by
  unfold chk
  by_cases h : I64 (a + b)
  · rw [if_pos h]
    exact plus_ok a b w h.1 h.2 hb.1 hb.2
  rw [if_neg h]
  show Calls _ _ _ _ fun e w' => e = .panicked [outP] ∧ w = w'
  unfold I64 at *
  have hw : IntKind.i64.wrap (a + b) = if a + b < 0 then a + b + 18446744073709551616 else a + b - 18446744073709551616 := by rw [IntKind.wrap_i64]; split <;> omega
  go_enter Try.func70, Try.ntmps70
  go_wp2
  all_goals first | exact ⟨rfl, rfl, rfl⟩ | (exfalso; omega)

theorem minus_any (a b : Int) (w : World) (ha : I64 a) (hb : I64 b) :
    Calls Try.prog 45 #[.int .i64 a, .int .i64 b] w fun e w' => e = endI (chk (a - b)) ∧ w = w' := by
  unfold chk
  by_cases h : I64 (a - b)
  · rw [if_pos h]
    show Calls _ _ _ _ fun e w' => e = .returned (.int .i64 (a - b)) ∧ w = w'
    unfold I64 at *
    have hw : IntKind.i64.wrap (a - b) = a - b := by rw [IntKind.wrap_i64]; omega
    go_enter Try.func45, Try.ntmps45
    go_wp2
    all_goals first | (go_ret; exact ⟨rfl, rfl⟩) | (exfalso; omega)
  rw [if_neg h]
  show Calls _ _ _ _ fun e w' => e = .panicked [outP] ∧ w = w'
  unfold I64 at *
  have hw : IntKind.i64.wrap (a - b) = if a - b < 0 then a - b + 18446744073709551616 else a - b - 18446744073709551616 := by rw [IntKind.wrap_i64]; split <;> omega
  go_enter Try.func45, Try.ntmps45
  go_wp2
  all_goals first | exact ⟨rfl, rfl, rfl⟩ | (exfalso; omega)

/-- a product that was wrapped doesn't give its factor back -/
theorem wrapped_quot (a b p : Int) (hb : I64 b) (h0 : b ≠ 0) (k : Int) (hk : p = a * b + k * 18446744073709551616) (h : p.tdiv b = a) : p = a * b := by
  unfold I64 at *
  have e := Int.tmod_add_mul_tdiv p b
  rw [h] at e
  have hr : p.tmod b = k * 18446744073709551616 := by
    have : b * a = a * b := Int.mul_comm b a
    omega
  have h1 : (p.tmod b).natAbs < b.natAbs := by
    rw [Int.natAbs_tmod]
    exact Nat.mod_lt _ (by omega)
  omega

theorem i64_wrap_sub (z : Int) : ∃ k : Int, IntKind.i64.wrap z = z + k * 18446744073709551616 ∧ I64 (IntKind.i64.wrap z) := by
  rw [IntKind.wrap_i64]
  unfold I64
  exact ⟨((z + 9223372036854775808) % 18446744073709551616 - 9223372036854775808 - z) / 18446744073709551616, by omega, by omega, by omega⟩

theorem tdiv_i64 (p b : Int) (hp : I64 p) (h0 : b ≠ 0) (h : ¬ (p = -9223372036854775808 ∧ b = -1)) : I64 (p.tdiv b) := by
  unfold I64 at *
  have h1 : (p.tdiv b).natAbs = p.natAbs / b.natAbs := Int.natAbs_tdiv p b
  by_cases hb : b = 1 ∨ b = -1
  · rcases hb with rfl | rfl
    · rw [Int.tdiv_one]; omega
    · have : p.tdiv (-1) = -p := by simp
      omega
  · have h2 : p.natAbs / b.natAbs ≤ p.natAbs / 2 := Nat.div_le_div_left (by omega) (by omega)
    omega

theorem tmod_i64 (p b : Int) (hp : I64 p) : I64 (p.tmod b) := by
  unfold I64 at *
  have h1 : (p.tmod b).natAbs = p.natAbs % b.natAbs := Int.natAbs_tmod p b
  have h2 : p.natAbs % b.natAbs ≤ p.natAbs := Nat.mod_le _ _
  by_cases h : 0 ≤ p
  · omega
  · have : p.tmod b ≤ 0 := by
      have := Int.tmod_nonneg b (show 0 ≤ -p by omega)
      rw [Int.neg_tmod] at this
      omega
    omega

theorem times_any (a b : Int) (w : World) (ha : I64 a) (hb : I64 b) :
    Calls Try.prog 71 #[.int .i64 a, .int .i64 b] w fun e w' => e = endI (chk (a * b)) ∧ w = w' := by
  by_cases h0 : b = 0
  · subst h0
    rw [show chk (a * 0) = some 0 by rw [Int.mul_zero]; decide]
    show Calls _ _ _ _ fun e w' => e = .returned (.int .i64 0) ∧ w = w'
    go_enter Try.func71, Try.ntmps71
    go_wp2
    all_goals (go_ret; exact ⟨rfl, rfl⟩)
  have f0 : (b == 0) = false := by simpa using h0
  obtain ⟨k, hk, hp⟩ := i64_wrap_sub (a * b)
  by_cases hm : a = -9223372036854775808 ∧ b = -1
  · obtain ⟨rfl, rfl⟩ := hm
    rw [show chk (-9223372036854775808 * -1) = none by decide]
    show Calls _ _ _ _ fun e w' => e = .panicked [outP] ∧ w = w'
    clear hk hp
    go_enter Try.func71, Try.ntmps71
    go_wp2
    all_goals exact ⟨rfl, rfl, rfl⟩
  by_cases h : I64 (a * b)
  · have hw : IntKind.i64.wrap (a * b) = a * b := by unfold I64 at h; rw [IntKind.wrap_i64]; omega
    have hq : IntKind.i64.wrap ((a * b).tdiv b) = a := by
      rw [Int.mul_tdiv_cancel _ h0, IntKind.wrap_i64]; unfold I64 at ha; omega
    rw [show chk (a * b) = some (a * b) by unfold chk; rw [if_pos h]]
    show Calls _ _ _ _ fun e w' => e = .returned (.int .i64 (a * b)) ∧ w = w'
    have hq2 : (wrap64 a != a) = false := by
      have : wrap64 a = a := by unfold I64 at ha; unfold wrap64; omega
      simpa using this
    clear hk hp ha hb h
    by_cases c : a = -9223372036854775808
    · have f1 : (b == -1) = false := by simpa using fun e => hm ⟨c, e⟩
      have f2 : (a == -9223372036854775808) = true := by simpa using c
      clear hm c
      go_enter Try.func71, Try.ntmps71
      go_wp2
      all_goals (go_ret; exact ⟨rfl, rfl⟩)
    · have f2 : (a == -9223372036854775808) = false := by simpa using c
      clear hm c
      go_enter Try.func71, Try.ntmps71
      go_wp2
      all_goals (go_ret; exact ⟨rfl, rfl⟩)
  · rw [show chk (a * b) = none by unfold chk; rw [if_neg h]]
    show Calls _ _ _ _ fun e w' => e = .panicked [outP] ∧ w = w'
    have hne : ((IntKind.i64.wrap ((IntKind.i64.wrap (a * b)).tdiv b)) != a) = true := by
      rw [bne_iff_ne]
      intro e
      generalize hP : IntKind.i64.wrap (a * b) = p at *
      by_cases hmin : p = -9223372036854775808 ∧ b = -1
      · obtain ⟨rfl, rfl⟩ := hmin
        apply hm
        unfold I64 at *
        constructor <;> omega
      · have h1 := tdiv_i64 p b hp h0 hmin
        have h2 : IntKind.i64.wrap (p.tdiv b) = p.tdiv b := by rw [IntKind.wrap_i64]; unfold I64 at h1; omega
        rw [h2] at e
        have := wrapped_quot a b p hb h0 k hk e
        exact h (this ▸ hp)
    generalize hP : IntKind.i64.wrap (a * b) = p at *
    have hne2 : (wrap64 (p.tdiv b) != a) = true := by unfold wrap64; rw [IntKind.wrap_i64] at hne; exact hne
    clear hk hp ha hb h
    by_cases c : a = -9223372036854775808
    · have f1 : (b == -1) = false := by simpa using fun e => hm ⟨c, e⟩
      have f2 : (a == -9223372036854775808) = true := by simpa using c
      clear hm c
      go_enter Try.func71, Try.ntmps71
      go_wp2
      all_goals exact ⟨rfl, rfl, rfl⟩
    · have f2 : (a == -9223372036854775808) = false := by simpa using c
      clear hm c
      go_enter Try.func71, Try.ntmps71
      go_wp2
      all_goals exact ⟨rfl, rfl, rfl⟩

def quoP (a b : Int) : Option Int := if b = 0 then none else chk (a.tdiv b)
def remP (a b : Int) : Option Int := if b = 0 then none else some (a.tmod b)

theorem quotient_any (a b : Int) (w : World) (ha : I64 a) (hb : I64 b) :
    Calls Try.prog 72 #[.int .i64 a, .int .i64 b] w fun e w' => e = endI (quoP a b) ∧ w = w' := by
  unfold quoP
  by_cases h0 : b = 0
  · rw [if_pos h0]
    show Calls _ _ _ _ fun e w' => e = .panicked [outP] ∧ w = w'
    have f0 : (b == 0) = true := by simpa using h0
    clear h0
    go_enter Try.func72, Try.ntmps72
    go_wp2
    all_goals exact ⟨rfl, rfl, rfl⟩
  rw [if_neg h0]
  have f0 : (b == 0) = false := by simpa using h0
  by_cases hm : a = -9223372036854775808 ∧ b = -1
  · obtain ⟨rfl, rfl⟩ := hm
    rw [show chk ((-9223372036854775808 : Int).tdiv (-1)) = none by decide]
    show Calls _ _ _ _ fun e w' => e = .panicked [outP] ∧ w = w'
    go_enter Try.func72, Try.ntmps72
    go_wp2
    all_goals exact ⟨rfl, rfl, rfl⟩
  have h1 := tdiv_i64 a b ha h0 hm
  have hq : IntKind.i64.wrap (a.tdiv b) = a.tdiv b := by rw [IntKind.wrap_i64]; unfold I64 at h1; omega
  rw [show chk (a.tdiv b) = some (a.tdiv b) by unfold chk; rw [if_pos h1]]
  show Calls _ _ _ _ fun e w' => e = .returned (.int .i64 (a.tdiv b)) ∧ w = w'
  clear ha hb h1
  by_cases c : a = -9223372036854775808
  · have f1 : (b == -1) = false := by simpa using fun e => hm ⟨c, e⟩
    have f2 : (a == -9223372036854775808) = true := by simpa using c
    clear hm c
    go_enter Try.func72, Try.ntmps72
    go_wp2
    all_goals (go_ret; exact ⟨rfl, rfl⟩)
  · have f2 : (a == -9223372036854775808) = false := by simpa using c
    clear hm c
    go_enter Try.func72, Try.ntmps72
    go_wp2
    all_goals (go_ret; exact ⟨rfl, rfl⟩)

theorem rest_any (a b : Int) (w : World) (ha : I64 a) :
    Calls Try.prog 73 #[.int .i64 a, .int .i64 b] w fun e w' => e = endI (remP a b) ∧ w = w' := by
  unfold remP
  by_cases h0 : b = 0
  · rw [if_pos h0]
    show Calls _ _ _ _ fun e w' => e = .panicked [outP] ∧ w = w'
    have f0 : (b == 0) = true := by simpa using h0
    clear h0
    go_enter Try.func73, Try.ntmps73
    go_wp2
    all_goals exact ⟨rfl, rfl, rfl⟩
  rw [if_neg h0]
  show Calls _ _ _ _ fun e w' => e = .returned (.int .i64 (a.tmod b)) ∧ w = w'
  have f0 : (b == 0) = false := by simpa using h0
  have h1 := tmod_i64 a b ha
  have hq : IntKind.i64.wrap (a.tmod b) = a.tmod b := by rw [IntKind.wrap_i64]; unfold I64 at h1; omega
  clear h1 ha
  go_enter Try.func73, Try.ntmps73
  go_wp2
  all_goals (go_ret; exact ⟨rfl, rfl⟩)

/-- what an operator of two whole numbers makes of them -/
def ansI (op a b : Int) : Option Int := if op = 1 then chk (a + b) else if op = 2 then chk (a - b) else if op = 3 then chk (a * b) else if op = 4 then quoP a b else remP a b

set_option maxHeartbeats 1000000 in
theorem reckon_any (op a b : Int) (w : World) (ha : I64 a) (hb : I64 b) (z : Option Int) (hz : ansI op a b = z) :
    Calls Try.prog 50 #[.int .i64 op, .int .i64 a, .int .i64 b] w fun e w' => e = endI z ∧ w = w' := by
  subst hz
  unfold ansI
  have C : ∀ (f : FuncId) (z : Option Int), (∀ w, Calls Try.prog f #[.int .i64 a, .int .i64 b] w fun e w' => e = endI z ∧ w = w') → Hid ((∃ x, z = some x ∧ ∀ w, Calls Try.prog f #[.int .i64 a, .int .i64 b] w fun e w' => e = .returned (.int .i64 x) ∧ w = w') ∨ (z = none ∧ ∀ w, Calls Try.prog f #[.int .i64 a, .int .i64 b] w fun e w' => e = .panicked [outP] ∧ w = w')) := fun f z h => by
    cases z with
    | none => exact Lib.hid (.inr ⟨rfl, h⟩)
    | some x => exact Lib.hid (.inl ⟨x, rfl, h⟩)
  by_cases c1 : op = 1
  · rw [if_pos c1]; subst c1
    rcases (C _ _ fun w => plus_any a b w ha hb).out with ⟨x, e, H⟩ | ⟨e, H⟩
    all_goals
      rw [e]; replace H := Lib.hid H; clear C ha hb e
      go_enter Try.func50, Try.ntmps50
      go_wp2_with (go_at_call 70; refine (H.out _).mono ?_; rintro e w' ⟨rfl, rfl⟩)
    · go_ret; exact ⟨rfl, rfl⟩
    · exact ⟨rfl, rfl, rfl⟩
  rw [if_neg c1]
  have f1 : (op == 1) = false := by simpa using c1
  by_cases c2 : op = 2
  · rw [if_pos c2]; subst c2
    rcases (C _ _ fun w => minus_any a b w ha hb).out with ⟨x, e, H⟩ | ⟨e, H⟩
    all_goals
      rw [e]; replace H := Lib.hid H; clear C ha hb e
      go_enter Try.func50, Try.ntmps50
      go_wp2_with (go_at_call 45; refine (H.out _).mono ?_; rintro e w' ⟨rfl, rfl⟩)
    · go_ret; exact ⟨rfl, rfl⟩
    · exact ⟨rfl, rfl, rfl⟩
  rw [if_neg c2]
  have f2 : (op == 2) = false := by simpa using c2
  by_cases c3 : op = 3
  · rw [if_pos c3]; subst c3
    rcases (C _ _ fun w => times_any a b w ha hb).out with ⟨x, e, H⟩ | ⟨e, H⟩
    all_goals
      rw [e]; replace H := Lib.hid H; clear C ha hb e
      go_enter Try.func50, Try.ntmps50
      go_wp2_with (go_at_call 71; refine (H.out _).mono ?_; rintro e w' ⟨rfl, rfl⟩)
    · go_ret; exact ⟨rfl, rfl⟩
    · exact ⟨rfl, rfl, rfl⟩
  rw [if_neg c3]
  have f3 : (op == 3) = false := by simpa using c3
  by_cases c4 : op = 4
  · rw [if_pos c4]; subst c4
    rcases (C _ _ fun w => quotient_any a b w ha hb).out with ⟨x, e, H⟩ | ⟨e, H⟩
    all_goals
      rw [e]; replace H := Lib.hid H; clear C ha hb e
      go_enter Try.func50, Try.ntmps50
      go_wp2_with (go_at_call 72; refine (H.out _).mono ?_; rintro e w' ⟨rfl, rfl⟩)
    · go_ret; exact ⟨rfl, rfl⟩
    · exact ⟨rfl, rfl, rfl⟩
  rw [if_neg c4]
  have f4 : (op == 4) = false := by simpa using c4
  rcases (C _ _ fun w => rest_any a b w ha).out with ⟨x, e, H⟩ | ⟨e, H⟩
  all_goals
    rw [e]; replace H := Lib.hid H; clear C ha hb e c1 c2 c3 c4
    go_enter Try.func50, Try.ntmps50
    go_wp2_with (go_at_call 73; refine (H.out _).mono ?_; rintro e w' ⟨rfl, rfl⟩)
  · go_ret; exact ⟨rfl, rfl⟩
  · exact ⟨rfl, rfl, rfl⟩
end Go.Proofs.Ytfjnphiegoogoaa
