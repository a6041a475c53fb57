/- RFloat, RWhole, RWholeB, ValC -/
import Derived.Test.YtfjnphiegoogoaaZ16
import Derived.Test.YtfjnphiegoogoaaZ06
/- RFloat -/
namespace Go.Proofs.Ytfjnphiegoogoaa
open Go.ChangeShapes Go.WideShapes Go.ChangeAt Go.RowKit Go.Fl

theorem nan_eqB (b : Nat) (hb : b < 18446744073709551616) : decide (INF < b % 9223372036854775808) = !eqB b b := by
  rw [eqB_iff b b hb hb]
  by_cases h : INF < b % 9223372036854775808
  · rw [decide_eq_true h, decide_eq_false (by omega)]; rfl
  · rw [decide_eq_false h, decide_eq_true ⟨h, h, .inl rfl⟩]; rfl

theorem rfloat_neg (a b : Nat) (w : World) (ha : a < 18446744073709551616) :
    Calls Try.prog 36 #[.int .i64 6, .int .u64 (a : Int), .int .u64 (b : Int)] w fun e w' => e = .returned (.agg #[.int .i64 4, .int .u64 ((ngP a : Nat) : Int)]) ∧ Below w.heap.size w w' := by
  have H := Lib.hid (fun w => rneg_any a w ha)
  generalize ngP a = r at *
  clear ha
  go_enter Try.func36, Try.ntmps36
  go_wp2_with (go_at_call 61; refine (H.out _).mono ?_; rintro e w' ⟨rfl, rfl⟩)
  all_goals exact bodyPost_ret (v := .agg #[.int .i64 4, .int .u64 ((r : Nat) : Int)]) (by simp [results, Try.results36, go_sem]) rfl ⟨rfl, below1 _ _⟩

theorem rfloat_nan (a b : Nat) (w : World) (ha : a < 18446744073709551616) :
    Calls Try.prog 36 #[.int .i64 17, .int .u64 (a : Int), .int .u64 (b : Int)] w fun e w' => e = .returned (.agg #[.int .i64 2, .int .u64 ((b2n (!eqB a a) : Nat) : Int)]) ∧ Below w.heap.size w w' := by
  rw [← nan_eqB a ha]
  have H := Lib.hid (fun w => isNan_any a w ha)
  generalize decide (INF < a % 9223372036854775808) = x at *
  clear ha
  go_enter Try.func36, Try.ntmps36
  go_wp2_with fail
  refine (H.out _).mono ?_; rintro e w' ⟨rfl, rfl⟩
  go_wp2_with fail
  refine (truth_v x _).mono ?_; rintro e w1 ⟨rfl, hb1⟩
  obtain ⟨hc, hf⟩ := bcell hb1
  have p4 : w1.cell? ⟨w.heap.size, 0, none⟩ = some (.int .i64 0) := by rw [hc _ _ (by simp)]; simp
  have p5 : w1.cell? ⟨w.heap.size, 1, none⟩ = some (.int .u64 0) := by rw [hc _ _ (by simp)]; simp
  have p6 : w1.frozen? ⟨w.heap.size, 0, none⟩ = false := by rw [hf _ _ (by simp)]; simp
  have p7 : w1.frozen? ⟨w.heap.size, 1, none⟩ = false := by rw [hf _ _ (by simp)]; simp
  obtain ⟨_, q1, q2⟩ := put2 (.int .i64 2) (.int .u64 ((b2n x : Nat) : Int)) p4 p5
  have hB := below_more (below1 w _) hb1
  clear hc hf hb1
  go_wp2
  exact bodyPost_ret (v := .agg #[.int .i64 2, .int .u64 ((b2n x : Nat) : Int)]) (by simp [results, Try.results36, go_sem, q1, q2]) rfl ⟨rfl, (hB.setCell (p := ⟨w.heap.size, 0, none⟩) (Nat.le_refl _) _).setCell (p := ⟨w.heap.size, 1, none⟩) (Nat.le_refl _) _⟩

theorem rdo_any (op : Int) (a b : Nat) (w : World) (h1 : 1 ≤ op) (h4 : op ≤ 4) (ha : a < 18446744073709551616) (hb : b < 18446744073709551616) :
    Calls Try.prog 62 #[.int .i64 op, .int .u64 (a : Int), .int .u64 (b : Int)] w fun e w' => e = .returned (.int .u64 ((ansR op a b : Nat) : Int)) ∧ ∃ k, w' = w.drewN k := by
  rcases (show op = 1 ∨ op = 2 ∨ op = 3 ∨ op = 4 by omega) with rfl | rfl | rfl | rfl
  · exact do1_any a b w ha hb
  · exact do2_any a b w ha hb
  · exact do3_any a b w ha hb
  · exact do4_any a b w ha hb

theorem rfloat_do (op : Int) (a b : Nat) (w : World) (h1 : 1 ≤ op) (h4 : op ≤ 4) (ha : a < 18446744073709551616) (hb : b < 18446744073709551616) :
    Calls Try.prog 36 #[.int .i64 op, .int .u64 (a : Int), .int .u64 (b : Int)] w fun e w' => e = .returned (.agg #[.int .i64 4, .int .u64 ((ansR op a b : Nat) : Int)]) ∧ Below w.heap.size w w' := by
  have H := Lib.hid (fun w => rdo_any op a b w h1 h4 ha hb)
  generalize ansR op a b = r at *
  have f6 : (op == 6) = false := by rw [beq_eq_false_iff_ne]; omega
  have f17 : (op == 17) = false := by rw [beq_eq_false_iff_ne]; omega
  clear ha hb h1 h4
  go_enter Try.func36, Try.ntmps36
  go_wp2_with (go_at_call 62; refine (H.out _).mono ?_; rintro e w' ⟨rfl, n, rfl⟩)
  all_goals exact bodyPost_ret (v := .agg #[.int .i64 4, .int .u64 ((r : Nat) : Int)]) (by simp [results, Try.results36, go_sem]) rfl ⟨rfl, ((below_drewN (below1 w _) n).setCell (p := ⟨w.heap.size, 0, none⟩) (Nat.le_refl _) _).setCell (p := ⟨w.heap.size, 1, none⟩) (Nat.le_refl _) _⟩
end Go.Proofs.Ytfjnphiegoogoaa

/- RWhole -/
namespace Go.Proofs.Ytfjnphiegoogoaa
open Go.ChangeShapes Go.WideShapes Go.ChangeAt Go.RowKit Go.Fl

theorem prod_signs (a b : Int) (h : a * b < 0) : (decide (a < 0) != decide (b < 0)) = true := by
  by_cases ha : a < 0 <;> by_cases hb : b < 0
  · have := Int.mul_pos_of_neg_of_neg ha hb; omega
  · rw [decide_eq_true ha, decide_eq_false hb]; rfl
  · rw [decide_eq_false ha, decide_eq_true hb]; rfl
  · have := Int.mul_nonneg (show 0 ≤ a by omega) (show 0 ≤ b by omega); omega

theorem product_any (a b : Int) (w : World) (ha : I64 a) (hb : I64 b) :
    Calls Try.prog 64 #[.int .i64 a, .int .i64 b] w fun e w' => ∃ s, e = .returned (.tuple #[.int .i64 s, .bool (decide (I64 (a * b)))]) ∧ (I64 (a * b) → s = a * b) ∧ w = w' := by
  by_cases z : a = 0 ∨ b = 0
  · have hz : a * b = 0 := by rcases z with rfl | rfl <;> simp
    rw [hz, decide_eq_true (by decide : I64 0)]
    by_cases a0 : a = 0
    · subst a0
      go_enter Try.func64, Try.ntmps64
      go_wp2
      all_goals exact bodyPost_ret (v := .tuple #[.int .i64 (0), .bool true]) (by simp [results, Try.results64, go_sem]) rfl ⟨_, rfl, by intros; rfl, rfl⟩
    · obtain rfl : b = 0 := z.resolve_left a0
      have f0 : (a == 0) = false := by simpa using a0
      go_enter Try.func64, Try.ntmps64
      go_wp2
      all_goals exact bodyPost_ret (v := .tuple #[.int .i64 (0), .bool true]) (by simp [results, Try.results64, go_sem]) rfl ⟨_, rfl, by intros; rfl, rfl⟩
  have a0 : a ≠ 0 := fun h => z (.inl h)
  have b0 : b ≠ 0 := fun h => z (.inr h)
  have f0 : (a == 0) = false := by simpa using a0
  have g0 : (b == 0) = false := by simpa using b0
  by_cases a1 : a = -1
  · subst a1
    rw [show (-1 : Int) * b = -b by omega]
    by_cases m : b = -9223372036854775808
    · subst m
      rw [show decide (I64 (-(-9223372036854775808))) = false by decide]
      have hw : IntKind.i64.wrap 9223372036854775808 = -9223372036854775808 := by rw [IntKind.wrap_i64]; omega
      have hw2 : wrap64 9223372036854775808 = -9223372036854775808 := by unfold wrap64; omega
      go_enter Try.func64, Try.ntmps64
      go_wp2
      all_goals exact bodyPost_ret (v := .tuple #[.int .i64 (-9223372036854775808), .bool false]) (by simp [results, Try.results64, go_sem]) rfl ⟨_, rfl, fun h => absurd h (by decide), rfl⟩
    · have hi : I64 (-b) := by unfold I64 at *; omega
      have hw : IntKind.i64.wrap (-b) = -b := by rw [IntKind.wrap_i64]; unfold I64 at hi; omega
      have fm : (b != -9223372036854775808) = true := by simpa using m
      rw [decide_eq_true hi]
      clear z ha hb a0 b0 m
      go_enter Try.func64, Try.ntmps64
      go_wp2
      all_goals exact bodyPost_ret (v := .tuple #[.int .i64 (-b), .bool true]) (by simp [results, Try.results64, go_sem]) rfl ⟨_, rfl, by intros; rfl, rfl⟩
  have f1 : (a == -1) = false := by simpa using a1
  by_cases b1 : b = -1
  · subst b1
    rw [show a * (-1 : Int) = -a by omega]
    by_cases m : a = -9223372036854775808
    · subst m
      rw [show decide (I64 (-(-9223372036854775808))) = false by decide]
      have hw : IntKind.i64.wrap 9223372036854775808 = -9223372036854775808 := by rw [IntKind.wrap_i64]; omega
      have hw2 : wrap64 9223372036854775808 = -9223372036854775808 := by unfold wrap64; omega
      go_enter Try.func64, Try.ntmps64
      go_wp2
      all_goals exact bodyPost_ret (v := .tuple #[.int .i64 (-9223372036854775808), .bool false]) (by simp [results, Try.results64, go_sem]) rfl ⟨_, rfl, fun h => absurd h (by decide), rfl⟩
    · have hi : I64 (-a) := by unfold I64 at *; omega
      have hw : IntKind.i64.wrap (-a) = -a := by rw [IntKind.wrap_i64]; unfold I64 at hi; omega
      have fm : (a != -9223372036854775808) = true := by simpa using m
      rw [decide_eq_true hi]
      clear z ha hb a0 b0 m a1
      go_enter Try.func64, Try.ntmps64
      go_wp2
      all_goals exact bodyPost_ret (v := .tuple #[.int .i64 (-a), .bool true]) (by simp [results, Try.results64, go_sem]) rfl ⟨_, rfl, by intros; rfl, rfl⟩
  have g1 : (b == -1) = false := by simpa using b1
  obtain ⟨k, hk, hp⟩ := i64_wrap_sub (a * b)
  by_cases h : I64 (a * b)
  · rw [decide_eq_true h]
    have hw : IntKind.i64.wrap (a * b) = a * b := by unfold I64 at h; rw [IntKind.wrap_i64]; omega
    have hq : wrap64 a = a := by unfold I64 at ha; unfold wrap64; omega
    have hq2 : wrap64 ((a * b).tdiv b) = a := by rw [Int.mul_tdiv_cancel _ b0]; exact hq
    have ht : (a * b).tdiv b = a := Int.mul_tdiv_cancel _ b0
    by_cases m : a * b = -9223372036854775808
    · have hs : (a < 0 ∧ ¬ b < 0) ∨ (¬ a < 0 ∧ b < 0) := by
        have h9 := prod_signs a b (by omega)
        by_cases ha : a < 0 <;> by_cases hb : b < 0
        · rw [decide_eq_true ha, decide_eq_true hb] at h9; exact absurd h9 (by decide)
        · exact .inl ⟨ha, hb⟩
        · exact .inr ⟨ha, hb⟩
        · rw [decide_eq_false ha, decide_eq_false hb] at h9; exact absurd h9 (by decide)
      have fm : (a * b != -9223372036854775808) = false := by simpa using m
      clear z ha hb a0 a1 b1 hk hp h m
      rcases hs with ⟨s1, s2⟩ | ⟨s1, s2⟩
      all_goals go_enter Try.func64, Try.ntmps64
      all_goals go_wp2
      all_goals exact bodyPost_ret (v := .tuple #[.int .i64 (a * b), .bool true]) (by simp [results, Try.results64, go_sem]) rfl ⟨_, rfl, by intros; rfl, rfl⟩
    · have fm : (a * b != -9223372036854775808) = true := by simpa using m
      clear z ha hb a0 a1 b1 hk hp h m
      go_enter Try.func64, Try.ntmps64
      go_wp2
      all_goals exact bodyPost_ret (v := .tuple #[.int .i64 (a * b), .bool true]) (by simp [results, Try.results64, go_sem]) rfl ⟨_, rfl, by intros; rfl, rfl⟩
  · rw [decide_eq_false h]
    generalize hP : IntKind.i64.wrap (a * b) = p at *
    have hne : (wrap64 (p.tdiv b) == a) = false := by
      rw [beq_eq_false_iff_ne]
      intro e
      have h1 := tdiv_i64 p b hp b0 (by omega)
      have h2 : wrap64 (p.tdiv b) = p.tdiv b := by unfold I64 at h1; unfold wrap64; omega
      rw [h2] at e
      exact h (wrapped_quot a b p hb b0 k hk e ▸ hp)
    have hno : I64 (a * b) → p = a * b := fun h' => absurd h' h
    clear z ha hb a0 a1 b1 hk hp h
    go_enter Try.func64, Try.ntmps64
    go_wp2
    all_goals exact bodyPost_ret (v := .tuple #[.int .i64 p, .bool false]) (by simp [results, Try.results64, go_sem]) rfl ⟨_, rfl, hno, rfl⟩
end Go.Proofs.Ytfjnphiegoogoaa

/- RWholeB -/
namespace Go.Proofs.Ytfjnphiegoogoaa
open Go.ChangeShapes Go.WideShapes Go.ChangeAt Go.RowKit Go.Fl

theorem below1s (w : World) (o : Obj) (x y : Value) : Below w.heap.size w (((w.alloc o).setCell ⟨w.heap.size, 0, none⟩ x).setCell ⟨w.heap.size, 1, none⟩ y) :=
  ((below1 w o).setCell (p := ⟨w.heap.size, 0, none⟩) (Nat.le_refl _) _).setCell (p := ⟨w.heap.size, 1, none⟩) (Nat.le_refl _) _

theorem rwhole_add (a b : Int) (w : World) (ha : I64 a) (hb : I64 b) :
    Calls Try.prog 37 #[.int .i64 1, .int .i64 a, .int .i64 b] w fun e w' => e = .returned (.agg #[.int .i64 (resK (chk (a + b))), .int .u64 (resB (chk (a + b)))]) ∧ Below w.heap.size w w' := by
  unfold chk
  by_cases h : I64 (a + b)
  · rw [if_pos h]
    show Calls _ _ _ _ fun e w' => e = .returned (.agg #[.int .i64 1, .int .u64 (IntKind.u64.wrap (a + b))]) ∧ _
    unfold I64 at *
    have hw : IntKind.i64.wrap (a + b) = a + b := by rw [IntKind.wrap_i64]; omega
    have hw1 : 0 ≤ b → IntKind.i64.wrap (9223372036854775807 - b) = 9223372036854775807 - b := by intro h; rw [IntKind.wrap_i64]; omega
    have hw2 : b < 0 → IntKind.i64.wrap (-9223372036854775808 - b) = -9223372036854775808 - b := by intro h; rw [IntKind.wrap_i64]; omega
    by_cases s : 0 ≤ b
    · have hw3 := hw1 s
      clear hw1 hw2
      go_enter Try.func37, Try.ntmps37
      go_wp2
      all_goals first | (exfalso; omega) | (exfalso; simp only [Bool.not_eq_false', Bool.not_eq_true', decide_eq_true_eq, decide_eq_false_iff_not] at *; omega) | exact bodyPost_ret (v := .agg #[.int .i64 1, .int .u64 (IntKind.u64.wrap (a + b))]) (by simp [results, Try.results37, go_sem]) rfl ⟨rfl, by first | exact below1 _ _ | exact below1s _ _ _ _⟩
    · have hw3 := hw2 (by omega)
      have s' : b < 0 := by omega
      clear hw1 hw2 s
      go_enter Try.func37, Try.ntmps37
      go_wp2
      all_goals first | (exfalso; omega) | (exfalso; simp only [Bool.not_eq_false', Bool.not_eq_true', decide_eq_true_eq, decide_eq_false_iff_not] at *; omega) | exact bodyPost_ret (v := .agg #[.int .i64 1, .int .u64 (IntKind.u64.wrap (a + b))]) (by simp [results, Try.results37, go_sem]) rfl ⟨rfl, by first | exact below1 _ _ | exact below1s _ _ _ _⟩
  · rw [if_neg h]
    show Calls _ _ _ _ fun e w' => e = .returned (.agg #[.int .i64 0, .int .u64 0]) ∧ _
    unfold I64 at *
    have hw1 : 0 ≤ b → IntKind.i64.wrap (9223372036854775807 - b) = 9223372036854775807 - b := by intro h; rw [IntKind.wrap_i64]; omega
    have hw2 : b < 0 → IntKind.i64.wrap (-9223372036854775808 - b) = -9223372036854775808 - b := by intro h; rw [IntKind.wrap_i64]; omega
    by_cases s : 0 ≤ b
    · have hw3 := hw1 s
      clear hw1 hw2
      go_enter Try.func37, Try.ntmps37
      go_wp2
      all_goals first | (exfalso; omega) | (exfalso; simp only [Bool.not_eq_false', Bool.not_eq_true', decide_eq_true_eq, decide_eq_false_iff_not] at *; omega) | exact bodyPost_ret (v := .agg #[.int .i64 0, .int .u64 0]) (by simp [results, Try.results37, go_sem]) rfl ⟨rfl, by first | exact below1 _ _ | exact below1s _ _ _ _⟩
    · have hw3 := hw2 (by omega)
      have s' : b < 0 := by omega
      clear hw1 hw2 s
      go_enter Try.func37, Try.ntmps37
      go_wp2
      all_goals first | (exfalso; omega) | (exfalso; simp only [Bool.not_eq_false', Bool.not_eq_true', decide_eq_true_eq, decide_eq_false_iff_not] at *; omega) | exact bodyPost_ret (v := .agg #[.int .i64 0, .int .u64 0]) (by simp [results, Try.results37, go_sem]) rfl ⟨rfl, by first | exact below1 _ _ | exact below1s _ _ _ _⟩

theorem rwhole_sub (a b : Int) (w : World) (ha : I64 a) (hb : I64 b) :
    Calls Try.prog 37 #[.int .i64 2, .int .i64 a, .int .i64 b] w fun e w' => e = .returned (.agg #[.int .i64 (resK (chk (a - b))), .int .u64 (resB (chk (a - b)))]) ∧ Below w.heap.size w w' := by
  unfold chk
  by_cases h : I64 (a - b)
  · rw [if_pos h]
    show Calls _ _ _ _ fun e w' => e = .returned (.agg #[.int .i64 1, .int .u64 (IntKind.u64.wrap (a - b))]) ∧ _
    unfold I64 at *
    have hw : IntKind.i64.wrap (a - b) = a - b := by rw [IntKind.wrap_i64]; omega
    have hw1 : b < 0 → IntKind.i64.wrap (9223372036854775807 + b) = 9223372036854775807 + b := by intro h; rw [IntKind.wrap_i64]; omega
    have hw2 : 0 ≤ b → IntKind.i64.wrap (-9223372036854775808 + b) = -9223372036854775808 + b := by intro h; rw [IntKind.wrap_i64]; omega
    by_cases s : 0 ≤ b
    · have hw3 := hw2 s
      clear hw1 hw2
      go_enter Try.func37, Try.ntmps37
      go_wp2
      all_goals first | (exfalso; omega) | (exfalso; simp only [Bool.not_eq_false', Bool.not_eq_true', decide_eq_true_eq, decide_eq_false_iff_not] at *; omega) | exact bodyPost_ret (v := .agg #[.int .i64 1, .int .u64 (IntKind.u64.wrap (a - b))]) (by simp [results, Try.results37, go_sem]) rfl ⟨rfl, by first | exact below1 _ _ | exact below1s _ _ _ _⟩
    · have hw3 := hw1 (by omega)
      have s' : b < 0 := by omega
      clear hw1 hw2 s
      go_enter Try.func37, Try.ntmps37
      go_wp2
      all_goals first | (exfalso; omega) | (exfalso; simp only [Bool.not_eq_false', Bool.not_eq_true', decide_eq_true_eq, decide_eq_false_iff_not] at *; omega) | exact bodyPost_ret (v := .agg #[.int .i64 1, .int .u64 (IntKind.u64.wrap (a - b))]) (by simp [results, Try.results37, go_sem]) rfl ⟨rfl, by first | exact below1 _ _ | exact below1s _ _ _ _⟩
  · rw [if_neg h]
    show Calls _ _ _ _ fun e w' => e = .returned (.agg #[.int .i64 0, .int .u64 0]) ∧ _
    unfold I64 at *
    have hw1 : b < 0 → IntKind.i64.wrap (9223372036854775807 + b) = 9223372036854775807 + b := by intro h; rw [IntKind.wrap_i64]; omega
    have hw2 : 0 ≤ b → IntKind.i64.wrap (-9223372036854775808 + b) = -9223372036854775808 + b := by intro h; rw [IntKind.wrap_i64]; omega
    by_cases s : 0 ≤ b
    · have hw3 := hw2 s
      clear hw1 hw2
      go_enter Try.func37, Try.ntmps37
      go_wp2
      all_goals first | (exfalso; omega) | (exfalso; simp only [Bool.not_eq_false', Bool.not_eq_true', decide_eq_true_eq, decide_eq_false_iff_not] at *; omega) | exact bodyPost_ret (v := .agg #[.int .i64 0, .int .u64 0]) (by simp [results, Try.results37, go_sem]) rfl ⟨rfl, by first | exact below1 _ _ | exact below1s _ _ _ _⟩
    · have hw3 := hw1 (by omega)
      have s' : b < 0 := by omega
      clear hw1 hw2 s
      go_enter Try.func37, Try.ntmps37
      go_wp2
      all_goals first | (exfalso; omega) | (exfalso; simp only [Bool.not_eq_false', Bool.not_eq_true', decide_eq_true_eq, decide_eq_false_iff_not] at *; omega) | exact bodyPost_ret (v := .agg #[.int .i64 0, .int .u64 0]) (by simp [results, Try.results37, go_sem]) rfl ⟨rfl, by first | exact below1 _ _ | exact below1s _ _ _ _⟩

/-- the sign: as 0 - a -/
theorem rwhole_neg (a b : Int) (w : World) (ha : I64 a) :
    Calls Try.prog 37 #[.int .i64 6, .int .i64 a, .int .i64 b] w fun e w' => e = .returned (.agg #[.int .i64 (resK (chk (0 - a))), .int .u64 (resB (chk (0 - a)))]) ∧ Below w.heap.size w w' := by
  unfold chk
  have E : (-9223372036854775808 ≤ 0 - a ∧ 0 - a ≤ 9223372036854775807) ↔ I64 (0 - a) := Iff.rfl
  by_cases m : a = -9223372036854775808
  · subst m
    rw [if_neg (by decide)]
    show Calls _ _ _ _ fun e w' => e = .returned (.agg #[.int .i64 0, .int .u64 0]) ∧ _
    clear ha E
    go_enter Try.func37, Try.ntmps37
    go_wp2
    all_goals exact bodyPost_ret (v := .agg #[.int .i64 0, .int .u64 0]) (by simp [results, Try.results37, go_sem]) rfl ⟨rfl, by first | exact below1 _ _ | exact below1s _ _ _ _⟩
  · rw [if_pos (by unfold I64 at *; omega)]
    show Calls _ _ _ _ fun e w' => e = .returned (.agg #[.int .i64 1, .int .u64 (IntKind.u64.wrap (0 - a))]) ∧ _
    unfold I64 at ha
    have hw : IntKind.i64.wrap (0 - a) = -a := by rw [IntKind.wrap_i64]; omega
    have hn : IntKind.i64.wrap (-a) = -a := by rw [IntKind.wrap_i64]; omega
    rw [show (0 : Int) - a = -a by omega]
    have hw1 : 0 ≤ a → IntKind.i64.wrap (-9223372036854775808 + a) = -9223372036854775808 + a := by intro h; rw [IntKind.wrap_i64]; omega
    have hw2 : a < 0 → IntKind.i64.wrap (9223372036854775807 + a) = 9223372036854775807 + a := by intro h; rw [IntKind.wrap_i64]; omega
    by_cases s : 0 ≤ a
    · have hw3 := hw1 s
      clear hw1 hw2 E
      go_enter Try.func37, Try.ntmps37
      go_wp2
      all_goals first | (exfalso; omega) | (exfalso; simp only [Bool.not_eq_false', Bool.not_eq_true', decide_eq_true_eq, decide_eq_false_iff_not] at *; omega) | exact bodyPost_ret (v := .agg #[.int .i64 1, .int .u64 (IntKind.u64.wrap (-a))]) (by simp [results, Try.results37, go_sem]) rfl ⟨rfl, by first | exact below1 _ _ | exact below1s _ _ _ _⟩
    · have hw3 := hw2 (by omega)
      have s' : a < 0 := by omega
      have hu : IntKind.u64.wrap (-a) = -a := by rw [IntKind.wrap_u64]; omega
      rw [hu]
      clear hw1 hw2 E s
      go_enter Try.func37, Try.ntmps37
      go_wp2
      all_goals first | (exfalso; omega) | (exfalso; simp only [Bool.not_eq_false', Bool.not_eq_true', decide_eq_true_eq, decide_eq_false_iff_not] at *; omega) | exact bodyPost_ret (v := .agg #[.int .i64 1, .int .u64 (-a)]) (by simp [results, Try.results37, go_sem]) rfl ⟨rfl, by first | exact below1 _ _ | exact below1s _ _ _ _⟩

theorem rwhole_mul (a b : Int) (w : World) (ha : I64 a) (hb : I64 b) :
    Calls Try.prog 37 #[.int .i64 3, .int .i64 a, .int .i64 b] w fun e w' => e = .returned (.agg #[.int .i64 (resK (chk (a * b))), .int .u64 (resB (chk (a * b)))]) ∧ Below w.heap.size w w' := by
  have H := Lib.hid (fun w => product_any a b w ha hb)
  unfold chk
  by_cases h : I64 (a * b)
  · rw [if_pos h]
    show Calls _ _ _ _ fun e w' => e = .returned (.agg #[.int .i64 1, .int .u64 (IntKind.u64.wrap (a * b))]) ∧ _
    rw [decide_eq_true h] at H
    replace h := Lib.hid h
    clear ha hb
    go_enter Try.func37, Try.ntmps37
    go_wp2_with (go_at_call 64; refine (H.out _).mono ?_; rintro e w' ⟨s, rfl, hs, rfl⟩; obtain rfl := hs h.out; clear hs)
    all_goals exact bodyPost_ret (v := .agg #[.int .i64 1, .int .u64 (IntKind.u64.wrap (a * b))]) (by simp [results, Try.results37, go_sem]) rfl ⟨rfl, by first | exact below1 _ _ | exact below1s _ _ _ _⟩
  · rw [if_neg h]
    show Calls _ _ _ _ fun e w' => e = .returned (.agg #[.int .i64 0, .int .u64 0]) ∧ _
    rw [decide_eq_false h] at H
    clear ha hb h
    go_enter Try.func37, Try.ntmps37
    go_wp2_with (go_at_call 64; refine (H.out _).mono ?_; rintro e w' ⟨s, rfl, hs, rfl⟩; clear hs)
    all_goals exact bodyPost_ret (v := .agg #[.int .i64 0, .int .u64 0]) (by simp [results, Try.results37, go_sem]) rfl ⟨rfl, by first | exact below1 _ _ | exact below1s _ _ _ _⟩

theorem rwhole_quo (a b : Int) (w : World) (ha : I64 a) :
    Calls Try.prog 37 #[.int .i64 4, .int .i64 a, .int .i64 b] w fun e w' => e = .returned (.agg #[.int .i64 (resK (quoP a b)), .int .u64 (resB (quoP a b))]) ∧ Below w.heap.size w w' := by
  unfold quoP
  by_cases h0 : b = 0
  · rw [if_pos h0]
    subst h0
    show Calls _ _ _ _ fun e w' => e = .returned (.agg #[.int .i64 0, .int .u64 0]) ∧ _
    go_enter Try.func37, Try.ntmps37
    go_wp2
    all_goals exact bodyPost_ret (v := .agg #[.int .i64 0, .int .u64 0]) (by simp [results, Try.results37, go_sem]) rfl ⟨rfl, by first | exact below1 _ _ | exact below1s _ _ _ _⟩
  rw [if_neg h0]
  by_cases hm : a = -9223372036854775808 ∧ b = -1
  · obtain ⟨rfl, rfl⟩ := hm
    rw [show chk ((-9223372036854775808 : Int).tdiv (-1)) = none by decide]
    show Calls _ _ _ _ fun e w' => e = .returned (.agg #[.int .i64 0, .int .u64 0]) ∧ _
    go_enter Try.func37, Try.ntmps37
    go_wp2
    all_goals exact bodyPost_ret (v := .agg #[.int .i64 0, .int .u64 0]) (by simp [results, Try.results37, go_sem]) rfl ⟨rfl, by first | exact below1 _ _ | exact below1s _ _ _ _⟩
  have h1 := tdiv_i64 a b ha h0 hm
  have hq : IntKind.i64.wrap (a.tdiv b) = a.tdiv b := by rw [IntKind.wrap_i64]; unfold I64 at h1; omega
  have hq2 : wrap64 (a.tdiv b) = a.tdiv b := by unfold I64 at h1; unfold wrap64; omega
  rw [show chk (a.tdiv b) = some (a.tdiv b) by unfold chk; rw [if_pos h1]]
  show Calls _ _ _ _ fun e w' => e = .returned (.agg #[.int .i64 1, .int .u64 (IntKind.u64.wrap (a.tdiv b))]) ∧ _
  have f0 : (b != 0) = true := by simpa using h0
  clear ha h1
  by_cases c : b = -1
  · have f1 : (a != -9223372036854775808) = true := by simpa using fun e => hm ⟨e, c⟩
    have f2 : (b != -1) = false := by simpa using c
    clear hm c
    go_enter Try.func37, Try.ntmps37
    go_wp2
    all_goals exact bodyPost_ret (v := .agg #[.int .i64 1, .int .u64 (IntKind.u64.wrap (a.tdiv b))]) (by simp [results, Try.results37, go_sem]) rfl ⟨rfl, by first | exact below1 _ _ | exact below1s _ _ _ _⟩
  · have f2 : (b != -1) = true := by simpa using c
    clear hm c
    go_enter Try.func37, Try.ntmps37
    go_wp2
    all_goals exact bodyPost_ret (v := .agg #[.int .i64 1, .int .u64 (IntKind.u64.wrap (a.tdiv b))]) (by simp [results, Try.results37, go_sem]) rfl ⟨rfl, by first | exact below1 _ _ | exact below1s _ _ _ _⟩

theorem rwhole_rem (a b : Int) (w : World) (ha : I64 a) :
    Calls Try.prog 37 #[.int .i64 5, .int .i64 a, .int .i64 b] w fun e w' => e = .returned (.agg #[.int .i64 (resK (remP a b)), .int .u64 (resB (remP a b))]) ∧ Below w.heap.size w w' := by
  unfold remP
  by_cases h0 : b = 0
  · rw [if_pos h0]
    subst h0
    show Calls _ _ _ _ fun e w' => e = .returned (.agg #[.int .i64 0, .int .u64 0]) ∧ _
    go_enter Try.func37, Try.ntmps37
    go_wp2
    all_goals exact bodyPost_ret (v := .agg #[.int .i64 0, .int .u64 0]) (by simp [results, Try.results37, go_sem]) rfl ⟨rfl, by first | exact below1 _ _ | exact below1s _ _ _ _⟩
  rw [if_neg h0]
  show Calls _ _ _ _ fun e w' => e = .returned (.agg #[.int .i64 1, .int .u64 (IntKind.u64.wrap (a.tmod b))]) ∧ _
  by_cases c : b = -1
  · subst c
    rw [show a.tmod (-1) = 0 by rw [Int.tmod_neg, Int.tmod_one], show IntKind.u64.wrap 0 = 0 by rw [IntKind.wrap_u64]; rfl]
    clear ha h0
    go_enter Try.func37, Try.ntmps37
    go_wp2
    all_goals exact bodyPost_ret (v := .agg #[.int .i64 1, .int .u64 0]) (by simp [results, Try.results37, go_sem]) rfl ⟨rfl, by first | exact below1 _ _ | exact below1s _ _ _ _⟩
  · have h1 := tmod_i64 a b ha
    have hq : IntKind.i64.wrap (a.tmod b) = a.tmod b := by rw [IntKind.wrap_i64]; unfold I64 at h1; omega
    have hq2 : wrap64 (a.tmod b) = a.tmod b := by unfold I64 at h1; unfold wrap64; omega
    have f0 : (b != 0) = true := by simpa using h0
    have f2 : (b != -1) = true := by simpa using c
    clear ha h1 c
    go_enter Try.func37, Try.ntmps37
    go_wp2
    all_goals exact bodyPost_ret (v := .agg #[.int .i64 1, .int .u64 (IntKind.u64.wrap (a.tmod b))]) (by simp [results, Try.results37, go_sem]) rfl ⟨rfl, by first | exact below1 _ _ | exact below1s _ _ _ _⟩

theorem rwhole_any (op a b : Int) (w : World) (h1 : 1 ≤ op) (h5 : op ≤ 5) (ha : I64 a) (hb : I64 b) :
    Calls Try.prog 37 #[.int .i64 op, .int .i64 a, .int .i64 b] w fun e w' => e = .returned (.agg #[.int .i64 (resK (ansI op a b)), .int .u64 (resB (ansI op a b))]) ∧ Below w.heap.size w w' := by
  rcases (show op = 1 ∨ op = 2 ∨ op = 3 ∨ op = 4 ∨ op = 5 by omega) with rfl | rfl | rfl | rfl | rfl
  · exact rwhole_add a b w ha hb
  · exact rwhole_sub a b w ha hb
  · exact rwhole_mul a b w ha hb
  · exact rwhole_quo a b w ha
  · exact rwhole_rem a b w ha

theorem rwhole_real (a b : Int) (w : World) (ha : I64 a) :
    Calls Try.prog 37 #[.int .i64 16, .int .i64 a, .int .i64 b] w fun e w' => e = .returned (.agg #[.int .i64 4, .int .u64 ((ofI a : Nat) : Int)]) ∧ Below w.heap.size w w' := by
  have H := Lib.hid (fun w => rofint_any a w ha.1 ha.2)
  generalize ofI a = r at *
  clear ha
  go_enter Try.func37, Try.ntmps37
  go_wp2_with (go_at_call 63; refine (H.out _).mono ?_; rintro e w' ⟨rfl, rfl⟩)
  all_goals exact bodyPost_ret (v := .agg #[.int .i64 4, .int .u64 ((r : Nat) : Int)]) (by simp [results, Try.results37, go_sem]) rfl ⟨rfl, by first | exact below1 _ _ | exact below1s _ _ _ _⟩

theorem rwhole_not (a b : Int) (w : World) :
    Calls Try.prog 37 #[.int .i64 15, .int .i64 a, .int .i64 b] w fun e w' => e = .returned (.agg #[.int .i64 2, .int .u64 ((b2n (a == 0) : Nat) : Int)]) ∧ Below w.heap.size w w' := by
  obtain ⟨x, hx⟩ : ∃ x, (a == 0) = x := ⟨_, rfl⟩
  rw [hx]
  go_enter Try.func37, Try.ntmps37
  go_wp2_with fail
  refine (truth_v x _).mono ?_; rintro e w1 ⟨rfl, hb1⟩
  obtain ⟨hc, hf⟩ := bcell hb1
  have p4 : w1.cell? ⟨w.heap.size, 0, none⟩ = some (.int .i64 0) := by rw [hc _ _ (by simp)]; simp
  have p5 : w1.cell? ⟨w.heap.size, 1, none⟩ = some (.int .u64 0) := by rw [hc _ _ (by simp)]; simp
  have p6 : w1.frozen? ⟨w.heap.size, 0, none⟩ = false := by rw [hf _ _ (by simp)]; simp
  have p7 : w1.frozen? ⟨w.heap.size, 1, none⟩ = false := by rw [hf _ _ (by simp)]; simp
  obtain ⟨_, q1, q2⟩ := put2 (.int .i64 2) (.int .u64 ((b2n x : Nat) : Int)) p4 p5
  have hB := below_more (below1 w _) hb1
  clear hc hf hb1
  go_wp2
  exact bodyPost_ret (v := .agg #[.int .i64 2, .int .u64 ((b2n x : Nat) : Int)]) (by simp [results, Try.results37, go_sem, q1, q2]) rfl ⟨rfl, (hB.setCell (p := ⟨w.heap.size, 0, none⟩) (Nat.le_refl _) _).setCell (p := ⟨w.heap.size, 1, none⟩) (Nat.le_refl _) _⟩

end Go.Proofs.Ytfjnphiegoogoaa

/- ValC -/
namespace Go.Proofs.Ytfjnphiegoogoaa
open Go.ChangeShapes Go.WideShapes Go.ChangeAt Go.RowKit Go.Fl

theorem clB_small (k : Int) (b : Nat) (h1 : clK k b ≠ 1) (h4 : clK k b ≠ 4) : clB k b ≤ 63 := by
  unfold clB
  unfold clK at h1 h4
  (repeat' split at h1) <;> (repeat' split) <;> omega

/-- the order of two values, as the document reckons it -/
theorem vordP_doc (k l : Int) (b c : Nat) : vordP k b l c = if clK k b = 4 ∧ clK l c = 4 then ordP (clB k b) (clB l c) else if clK k b = clK l c then cmpP (wrap64 (clB k b)) (wrap64 (clB l c)) else cmpP (clK k b) (clK l c) := by
  unfold vordP
  by_cases e : clK k b = clK l c
  · rw [if_neg (by simpa using e)]
    by_cases k1 : clK k b = 1
    · rw [if_pos k1, if_neg (by omega), if_pos e]
    · by_cases k4 : clK k b = 4
      · rw [if_neg k1, if_pos k4, if_pos ⟨k4, by omega⟩]
      · rw [if_neg k1, if_neg k4, if_neg (by omega), if_pos e]
        have a := clB_small k b k1 k4
        have d := clB_small l c (by omega) (by omega)
        rw [show wrap64 (clB k b : Int) = (clB k b : Int) by unfold wrap64; omega, show wrap64 (clB l c : Int) = (clB l c : Int) by unfold wrap64; omega]
  · rw [if_pos e, if_neg (by omega), if_neg e]

set_option maxHeartbeats 1000000 in
theorem rorder_v (k l : Int) (b c : Nat) (w : World) (hb : b < 18446744073709551616) (hc : c < 18446744073709551616) :
    Calls Try.prog 58 #[.agg #[.int .i64 k, .int .u64 (b : Int)], .agg #[.int .i64 l, .int .u64 (c : Int)]] w fun e w' => e = .returned (.int .i64 (vordP k b l c)) ∧ Below w.heap.size w w' := by
  go_enter Try.func58, Try.ntmps58
  go_wp2
  go_upto_region 2 with (fail)
  go_cut [] from 7 to 10 (fun w' => w'.cell? ⟨w.heap.size, 0, none⟩ = some (.int .i64 (clK k b)) ∧ w'.cell? ⟨w.heap.size, 1, none⟩ = some (.int .u64 ((clB k b : Nat) : Int)) ∧ w'.cell? ⟨w.heap.size + 1, 0, none⟩ = some (.int .i64 (clK l c)) ∧ w'.cell? ⟨w.heap.size + 1, 1, none⟩ = some (.int .u64 ((clB l c : Nat) : Int)) ∧ Below w.heap.size w w')
  case first =>
    go_region_with (go_at_call 18; refine (rclean_any _ _ _ (by assumption)).mono ?_; rintro e w1 ⟨rfl, hb1⟩; obtain ⟨p0, p1, p2, p3⟩ := later2 (g := w.heap.size) (u := .int .i64 k) (v := .int .u64 (b : Int)) hb1 (by first | exact ⟨by assumption, by assumption, by assumption, by assumption⟩ | simp); obtain ⟨q0, q1, q2, q3⟩ := later2 (g := w.heap.size + 1) (u := .int .i64 l) (v := .int .u64 (c : Int)) hb1 (by first | exact ⟨by assumption, by assumption, by assumption, by assumption⟩ | simp); have hB := below_more (w0 := w) (by first | exact (below2 _ _ _).drew | assumption) hb1)
    all_goals (go_wp2_with fail; go_meet; obtain ⟨r0, r1, r2, r3⟩ := four_cells (.int .i64 (clK k b)) (.int .u64 ((clB k b : Nat) : Int)) (.int .i64 (clK l c)) (.int .u64 ((clB l c : Nat) : Int)) p0 p1 q0 q1; exact ⟨r0, r1, r2, r3, (((hB.setCell (by simp) _).setCell (by simp) _).setCell (by simp) _).setCell (by simp) _⟩)
  case rest =>
    obtain ⟨r0, r1, r2, r3, hB⟩ := hcut
    have V := Lib.hid (vordP_doc k l b c)
    have l1 := clB_lt k hb
    have l2 := clB_lt l hc
    generalize clK k b = x at *
    generalize clK l c = y at *
    generalize clB k b = p at *
    generalize clB l c = q at *
    by_cases k4 : x = 4 ∧ y = 4
    · obtain ⟨rfl, rfl⟩ := k4
      have E := Lib.hid (show ordP p q = vordP k b l c by rw [V.out]; simp)
      clear V
      go_wp2_with (go_at_call 84; refine (rorder_any _ _ _ l1 l2).mono ?_; rintro e w' ⟨rfl, rfl⟩)
      go_ret
      exact ⟨ret_int E.out, hB⟩
    · have E := Lib.hid (show vordP k b l c = cmpP (if x = y then wrap64 p else x) (if x = y then wrap64 q else y) by rw [V.out, if_neg k4]; split <;> rfl)
      clear V
      by_cases e : x = y
      · subst e
        have f4 : (x == 4) = false := by simp; omega
        have e1 : (x != x) = false := by simp
        go_wp2_with (fail)
        go_quiet (fail)
        go_wp2
        all_goals go_ret
        all_goals refine ⟨ret_int ?_, below_drewN hB _⟩
        all_goals rw [E.out]
        all_goals unfold cmpP
        all_goals simp only [if_true]
        all_goals ((repeat' split) <;> omega)
      · have e1 : (x != y) = true := by simpa using e
        have k4' : x = 4 → (y == 4) = false := by intro h; simp; omega
        by_cases x4 : x = 4
        · subst x4
          have y4 := k4' rfl
          clear k4'
          go_wp2_with (fail)
          go_quiet (fail)
          go_wp2_with (fail)
          go_quiet (fail)
          go_wp2
          all_goals go_ret
          all_goals refine ⟨ret_int ?_, below_drewN hB _⟩
          all_goals rw [E.out]
          all_goals unfold cmpP
          all_goals simp only [if_neg e]
          all_goals ((repeat' split) <;> omega)
        · have x4' : (x == 4) = false := by simpa using x4
          clear k4'
          go_wp2_with (fail)
          go_quiet (fail)
          go_wp2_with (fail)
          go_quiet (fail)
          go_wp2
          all_goals go_ret
          all_goals refine ⟨ret_int ?_, below_drewN hB _⟩
          all_goals rw [E.out]
          all_goals unfold cmpP
          all_goals simp only [if_neg e]
          all_goals ((repeat' split) <;> omega)
end Go.Proofs.Ytfjnphiegoogoaa
