/- What 'float' answers in the document's package, as contracts. -/
import Derived.Test.YtagjfeblkpkgaaaRLogic
namespace Go.Proofs.Ytagjfeblkpkgaaa
open Go.ChangeShapes Go.WideShapes Go.ChangeAt Go.RowKit Go.Fl

theorem nan_eqB (b : Nat) (hb : b < 18446744073709551616) : decide (INF < b % 9223372036854775808) = !eqB b b := by
  rw [eqB_iff b b hb hb]
  by_cases h : INF < b % 9223372036854775808
  · rw [decide_eq_true h, decide_eq_false (by omega)]; rfl
  · rw [decide_eq_false h, decide_eq_true ⟨h, h, .inl rfl⟩]; rfl

theorem rfloat_neg (a b : Nat) (w : World) (ha : a < 18446744073709551616) :
    Calls Try.prog 40 #[.int .i64 6, .int .u64 (a : Int), .int .u64 (b : Int)] w fun e w' => e = .returned (.agg #[.int .i64 4, .int .u64 ((ngP a : Nat) : Int)]) ∧ Below w.heap.size w w' := by
  have H := Lib.hid (fun w => rneg_any a w ha)
  generalize ngP a = r at *
  clear ha
  go_enter Try.func40, Try.ntmps40
  go_wp2_with (go_at_call 58; refine (H.out _).mono ?_; rintro e w' ⟨rfl, rfl⟩)
  all_goals exact bodyPost_ret (v := .agg #[.int .i64 4, .int .u64 ((r : Nat) : Int)]) (by simp [results, Try.results40, go_sem]) rfl ⟨rfl, below1 _ _⟩

theorem rfloat_nan (a b : Nat) (w : World) (ha : a < 18446744073709551616) :
    Calls Try.prog 40 #[.int .i64 17, .int .u64 (a : Int), .int .u64 (b : Int)] w fun e w' => e = .returned (.agg #[.int .i64 2, .int .u64 ((b2n (!eqB a a) : Nat) : Int)]) ∧ Below w.heap.size w w' := by
  rw [← nan_eqB a ha]
  have H := Lib.hid (fun w => isNan_any a w ha)
  generalize decide (INF < a % 9223372036854775808) = x at *
  clear ha
  go_enter Try.func40, Try.ntmps40
  go_wp2_with fail
  refine (H.out _).mono ?_; rintro e w' ⟨rfl, rfl⟩
  go_wp2_with fail
  refine (truth_v x _).mono ?_; rintro e w1 ⟨rfl, hb1⟩
  obtain ⟨hc, hf⟩ := bcell hb1
  have p4 : w1.cell? ⟨w.heap.size, 0, none⟩ = some (.int .i64 0) := by rw [hc _ _ (by simp)]; simp
  have p5 : w1.cell? ⟨w.heap.size, 1, none⟩ = some (.int .u64 0) := by rw [hc _ _ (by simp)]; simp
  have p6 : w1.frozen? ⟨w.heap.size, 0, none⟩ = false := by rw [hf _ _ (by simp)]; simp
  have p7 : w1.frozen? ⟨w.heap.size, 1, none⟩ = false := by rw [hf _ _ (by simp)]; simp
  obtain ⟨_, q1, q2⟩ := put2 (.int .i64 2) (.int .u64 ((b2n x : Nat) : Int)) p4 p5
  have hB := below_more (below1 w _) hb1
  clear hc hf hb1
  go_wp2
  exact bodyPost_ret (v := .agg #[.int .i64 2, .int .u64 ((b2n x : Nat) : Int)]) (by simp [results, Try.results40, go_sem, q1, q2]) rfl ⟨rfl, (hB.setCell (p := ⟨w.heap.size, 0, none⟩) (Nat.le_refl _) _).setCell (p := ⟨w.heap.size, 1, none⟩) (Nat.le_refl _) _⟩

theorem rdo_any (op : Int) (a b : Nat) (w : World) (h1 : 1 ≤ op) (h4 : op ≤ 4) (ha : a < 18446744073709551616) (hb : b < 18446744073709551616) :
    Calls Try.prog 59 #[.int .i64 op, .int .u64 (a : Int), .int .u64 (b : Int)] w fun e w' => e = .returned (.int .u64 ((ansR op a b : Nat) : Int)) ∧ ∃ k, w' = w.drewN k := by
  rcases (show op = 1 ∨ op = 2 ∨ op = 3 ∨ op = 4 by omega) with rfl | rfl | rfl | rfl
  · exact do1_any a b w ha hb
  · exact do2_any a b w ha hb
  · exact do3_any a b w ha hb
  · exact do4_any a b w ha hb

theorem rfloat_do (op : Int) (a b : Nat) (w : World) (h1 : 1 ≤ op) (h4 : op ≤ 4) (ha : a < 18446744073709551616) (hb : b < 18446744073709551616) :
    Calls Try.prog 40 #[.int .i64 op, .int .u64 (a : Int), .int .u64 (b : Int)] w fun e w' => e = .returned (.agg #[.int .i64 4, .int .u64 ((ansR op a b : Nat) : Int)]) ∧ Below w.heap.size w w' := by
  have H := Lib.hid (fun w => rdo_any op a b w h1 h4 ha hb)
  generalize ansR op a b = r at *
  have f6 : (op == 6) = false := by rw [beq_eq_false_iff_ne]; omega
  have f17 : (op == 17) = false := by rw [beq_eq_false_iff_ne]; omega
  clear ha hb h1 h4
  go_enter Try.func40, Try.ntmps40
  go_wp2_with (go_at_call 59; refine (H.out _).mono ?_; rintro e w' ⟨rfl, n, rfl⟩)
  all_goals exact bodyPost_ret (v := .agg #[.int .i64 4, .int .u64 ((r : Nat) : Int)]) (by simp [results, Try.results40, go_sem]) rfl ⟨rfl, ((below_drewN (below1 w _) n).setCell (p := ⟨w.heap.size, 0, none⟩) (Nat.le_refl _) _).setCell (p := ⟨w.heap.size, 1, none⟩) (Nat.le_refl _) _⟩
end Go.Proofs.Ytagjfeblkpkgaaa
