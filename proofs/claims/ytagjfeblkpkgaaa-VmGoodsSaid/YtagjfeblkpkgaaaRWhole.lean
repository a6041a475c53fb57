/- What 'Product' and 'whole' answer in the document's package, as contracts. -/
import Derived.Test.YtagjfeblkpkgaaaRFloat
namespace Go.Proofs.Ytagjfeblkpkgaaa
open Go.ChangeShapes Go.WideShapes Go.ChangeAt Go.RowKit Go.Fl

theorem prod_signs (a b : Int) (h : a * b < 0) : (decide (a < 0) != decide (b < 0)) = true := by
  by_cases ha : a < 0 <;> by_cases hb : b < 0
  · have := Int.mul_pos_of_neg_of_neg ha hb; omega
  · rw [decide_eq_true ha, decide_eq_false hb]; rfl
  · rw [decide_eq_false ha, decide_eq_true hb]; rfl
  · have := Int.mul_nonneg (show 0 ≤ a by omega) (show 0 ≤ b by omega); omega

theorem product_any (a b : Int) (w : World) (ha : I64 a) (hb : I64 b) :
    Calls Try.prog 61 #[.int .i64 a, .int .i64 b] w fun e w' => ∃ s, e = .returned (.tuple #[.int .i64 s, .bool (decide (I64 (a * b)))]) ∧ (I64 (a * b) → s = a * b) ∧ w = w' := by
  by_cases z : a = 0 ∨ b = 0
  · have hz : a * b = 0 := by rcases z with rfl | rfl <;> simp
    rw [hz, decide_eq_true (by decide : I64 0)]
    by_cases a0 : a = 0
    · subst a0
      go_enter Try.func61, Try.ntmps61
      go_wp2
      all_goals exact bodyPost_ret (v := .tuple #[.int .i64 (0), .bool true]) (by simp [results, Try.results61, go_sem]) rfl ⟨_, rfl, by intros; rfl, rfl⟩
    · obtain rfl : b = 0 := z.resolve_left a0
      have f0 : (a == 0) = false := by simpa using a0
      go_enter Try.func61, Try.ntmps61
      go_wp2
      all_goals exact bodyPost_ret (v := .tuple #[.int .i64 (0), .bool true]) (by simp [results, Try.results61, go_sem]) rfl ⟨_, rfl, by intros; rfl, rfl⟩
  have a0 : a ≠ 0 := fun h => z (.inl h)
  have b0 : b ≠ 0 := fun h => z (.inr h)
  have f0 : (a == 0) = false := by simpa using a0
  have g0 : (b == 0) = false := by simpa using b0
  by_cases a1 : a = -1
  · subst a1
    rw [show (-1 : Int) * b = -b by omega]
    by_cases m : b = -9223372036854775808
    · subst m
      rw [show decide (I64 (-(-9223372036854775808))) = false by decide]
      have hw : IntKind.i64.wrap 9223372036854775808 = -9223372036854775808 := by rw [IntKind.wrap_i64]; omega
      have hw2 : wrap64 9223372036854775808 = -9223372036854775808 := by unfold wrap64; omega
      go_enter Try.func61, Try.ntmps61
      go_wp2
      all_goals exact bodyPost_ret (v := .tuple #[.int .i64 (-9223372036854775808), .bool false]) (by simp [results, Try.results61, go_sem]) rfl ⟨_, rfl, fun h => absurd h (by decide), rfl⟩
    · have hi : I64 (-b) := by unfold I64 at *; omega
      have hw : IntKind.i64.wrap (-b) = -b := by rw [IntKind.wrap_i64]; unfold I64 at hi; omega
      have fm : (b != -9223372036854775808) = true := by simpa using m
      rw [decide_eq_true hi]
      clear z ha hb a0 b0 m
      go_enter Try.func61, Try.ntmps61
      go_wp2
      all_goals exact bodyPost_ret (v := .tuple #[.int .i64 (-b), .bool true]) (by simp [results, Try.results61, go_sem]) rfl ⟨_, rfl, by intros; rfl, rfl⟩
  have f1 : (a == -1) = false := by simpa using a1
  by_cases b1 : b = -1
  · subst b1
    rw [show a * (-1 : Int) = -a by omega]
    by_cases m : a = -9223372036854775808
    · subst m
      rw [show decide (I64 (-(-9223372036854775808))) = false by decide]
      have hw : IntKind.i64.wrap 9223372036854775808 = -9223372036854775808 := by rw [IntKind.wrap_i64]; omega
      have hw2 : wrap64 9223372036854775808 = -9223372036854775808 := by unfold wrap64; omega
      go_enter Try.func61, Try.ntmps61
      go_wp2
      all_goals exact bodyPost_ret (v := .tuple #[.int .i64 (-9223372036854775808), .bool false]) (by simp [results, Try.results61, go_sem]) rfl ⟨_, rfl, fun h => absurd h (by decide), rfl⟩
    · have hi : I64 (-a) := by unfold I64 at *; omega
      have hw : IntKind.i64.wrap (-a) = -a := by rw [IntKind.wrap_i64]; unfold I64 at hi; omega
      have fm : (a != -9223372036854775808) = true := by simpa using m
      rw [decide_eq_true hi]
      clear z ha hb a0 b0 m a1
      go_enter Try.func61, Try.ntmps61
      go_wp2
      all_goals exact bodyPost_ret (v := .tuple #[.int .i64 (-a), .bool true]) (by simp [results, Try.results61, go_sem]) rfl ⟨_, rfl, by intros; rfl, rfl⟩
  have g1 : (b == -1) = false := by simpa using b1
  obtain ⟨k, hk, hp⟩ := i64_wrap_sub (a * b)
  by_cases h : I64 (a * b)
  · rw [decide_eq_true h]
    have hw : IntKind.i64.wrap (a * b) = a * b := by unfold I64 at h; rw [IntKind.wrap_i64]; omega
    have hq : wrap64 a = a := by unfold I64 at ha; unfold wrap64; omega
    have hq2 : wrap64 ((a * b).tdiv b) = a := by rw [Int.mul_tdiv_cancel _ b0]; exact hq
    have ht : (a * b).tdiv b = a := Int.mul_tdiv_cancel _ b0
    by_cases m : a * b = -9223372036854775808
    · have hs : (a < 0 ∧ ¬ b < 0) ∨ (¬ a < 0 ∧ b < 0) := by
        have h9 := prod_signs a b (by omega)
        by_cases ha : a < 0 <;> by_cases hb : b < 0
        · rw [decide_eq_true ha, decide_eq_true hb] at h9; exact absurd h9 (by decide)
        · exact .inl ⟨ha, hb⟩
        · exact .inr ⟨ha, hb⟩
        · rw [decide_eq_false ha, decide_eq_false hb] at h9; exact absurd h9 (by decide)
      have fm : (a * b != -9223372036854775808) = false := by simpa using m
      clear z ha hb a0 a1 b1 hk hp h m
      rcases hs with ⟨s1, s2⟩ | ⟨s1, s2⟩
      all_goals go_enter Try.func61, Try.ntmps61
      all_goals go_wp2
      all_goals exact bodyPost_ret (v := .tuple #[.int .i64 (a * b), .bool true]) (by simp [results, Try.results61, go_sem]) rfl ⟨_, rfl, by intros; rfl, rfl⟩
    · have fm : (a * b != -9223372036854775808) = true := by simpa using m
      clear z ha hb a0 a1 b1 hk hp h m
      go_enter Try.func61, Try.ntmps61
      go_wp2
      all_goals exact bodyPost_ret (v := .tuple #[.int .i64 (a * b), .bool true]) (by simp [results, Try.results61, go_sem]) rfl ⟨_, rfl, by intros; rfl, rfl⟩
  · rw [decide_eq_false h]
    generalize hP : IntKind.i64.wrap (a * b) = p at *
    have hne : (wrap64 (p.tdiv b) == a) = false := by
      rw [beq_eq_false_iff_ne]
      intro e
      have h1 := tdiv_i64 p b hp b0 (by omega)
      have h2 : wrap64 (p.tdiv b) = p.tdiv b := by unfold I64 at h1; unfold wrap64; omega
      rw [h2] at e
      exact h (wrapped_quot a b p hb b0 k hk e ▸ hp)
    have hno : I64 (a * b) → p = a * b := fun h' => absurd h' h
    clear z ha hb a0 a1 b1 hk hp h
    go_enter Try.func61, Try.ntmps61
    go_wp2
    all_goals exact bodyPost_ret (v := .tuple #[.int .i64 p, .bool false]) (by simp [results, Try.results61, go_sem]) rfl ⟨_, rfl, hno, rfl⟩
end Go.Proofs.Ytagjfeblkpkgaaa
