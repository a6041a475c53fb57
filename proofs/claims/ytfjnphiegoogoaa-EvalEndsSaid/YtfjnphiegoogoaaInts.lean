/- What the operators of whole numbers answer, or give up with, in package value, as contracts, for all of int64. -/
import Derived.Test.YtfjnphiegoogoaaGone
namespace Go.Proofs.Ytfjnphiegoogoaa
open Go.ChangeShapes Go.WideShapes Go.ChangeAt Go.RowKit Go.Fl

def I64 (z : Int) : Prop := -9223372036854775808 ≤ z ∧ z ≤ 9223372036854775807
instance (z : Int) : Decidable (I64 z) := inferInstanceAs (Decidable (_ ∧ _))

/-- how an operator of whole numbers ends -/
def endI : Option Int → Ending
  | none => .panicked [outP]
  | some z => .returned (.int .i64 z)
def chk (z : Int) : Option Int := if I64 z then some z else none

theorem plus_any (a b : Int) (w : World) (ha : I64 a) (hb : I64 b) :
    Calls Try.prog 70 #[.int .i64 a, .int .i64 b] w fun e w' => e = endI (chk (a + b)) ∧ w = w' := by
  unfold chk
  by_cases h : I64 (a + b)
  · rw [if_pos h]
    exact plus_ok a b w h.1 h.2 hb.1 hb.2
  rw [if_neg h]
  show Calls _ _ _ _ fun e w' => e = .panicked [outP] ∧ w = w'
  unfold I64 at *
  have hw : IntKind.i64.wrap (a + b) = if a + b < 0 then a + b + 18446744073709551616 else a + b - 18446744073709551616 := by rw [IntKind.wrap_i64]; split <;> omega
  go_enter Try.func70, Try.ntmps70
  go_wp2
  all_goals first | exact ⟨rfl, rfl, rfl⟩ | (exfalso; omega)

theorem minus_any (a b : Int) (w : World) (ha : I64 a) (hb : I64 b) :
    Calls Try.prog 45 #[.int .i64 a, .int .i64 b] w fun e w' => e = endI (chk (a - b)) ∧ w = w' := by
  unfold chk
  by_cases h : I64 (a - b)
  · rw [if_pos h]
    show Calls _ _ _ _ fun e w' => e = .returned (.int .i64 (a - b)) ∧ w = w'
    unfold I64 at *
    have hw : IntKind.i64.wrap (a - b) = a - b := by rw [IntKind.wrap_i64]; omega
    go_enter Try.func45, Try.ntmps45
    go_wp2
    all_goals first | (go_ret; exact ⟨rfl, rfl⟩) | (exfalso; omega)
  rw [if_neg h]
  show Calls _ _ _ _ fun e w' => e = .panicked [outP] ∧ w = w'
  unfold I64 at *
  have hw : IntKind.i64.wrap (a - b) = if a - b < 0 then a - b + 18446744073709551616 else a - b - 18446744073709551616 := by rw [IntKind.wrap_i64]; split <;> omega
  go_enter Try.func45, Try.ntmps45
  go_wp2
  all_goals first | exact ⟨rfl, rfl, rfl⟩ | (exfalso; omega)

/-- a product that was wrapped doesn't give its factor back -/
theorem wrapped_quot (a b p : Int) (hb : I64 b) (h0 : b ≠ 0) (k : Int) (hk : p = a * b + k * 18446744073709551616) (h : p.tdiv b = a) : p = a * b := by
  unfold I64 at *
  have e := Int.tmod_add_mul_tdiv p b
  rw [h] at e
  have hr : p.tmod b = k * 18446744073709551616 := by
    have : b * a = a * b := Int.mul_comm b a
    omega
  have h1 : (p.tmod b).natAbs < b.natAbs := by
    rw [Int.natAbs_tmod]
    exact Nat.mod_lt _ (by omega)
  omega

theorem i64_wrap_sub (z : Int) : ∃ k : Int, IntKind.i64.wrap z = z + k * 18446744073709551616 ∧ I64 (IntKind.i64.wrap z) := by
  rw [IntKind.wrap_i64]
  unfold I64
  exact ⟨((z + 9223372036854775808) % 18446744073709551616 - 9223372036854775808 - z) / 18446744073709551616, by omega, by omega, by omega⟩

theorem tdiv_i64 (p b : Int) (hp : I64 p) (h0 : b ≠ 0) (h : ¬ (p = -9223372036854775808 ∧ b = -1)) : I64 (p.tdiv b) := by
  unfold I64 at *
  have h1 : (p.tdiv b).natAbs = p.natAbs / b.natAbs := Int.natAbs_tdiv p b
  by_cases hb : b = 1 ∨ b = -1
  · rcases hb with rfl | rfl
    · rw [Int.tdiv_one]; omega
    · have : p.tdiv (-1) = -p := by simp
      omega
  · have h2 : p.natAbs / b.natAbs ≤ p.natAbs / 2 := Nat.div_le_div_left (by omega) (by omega)
    omega

theorem tmod_i64 (p b : Int) (hp : I64 p) : I64 (p.tmod b) := by
  unfold I64 at *
  have h1 : (p.tmod b).natAbs = p.natAbs % b.natAbs := Int.natAbs_tmod p b
  have h2 : p.natAbs % b.natAbs ≤ p.natAbs := Nat.mod_le _ _
  by_cases h : 0 ≤ p
  · omega
  · have : p.tmod b ≤ 0 := by
      have := Int.tmod_nonneg b (show 0 ≤ -p by omega)
      rw [Int.neg_tmod] at this
      omega
    omega

theorem times_any (a b : Int) (w : World) (ha : I64 a) (hb : I64 b) :
    Calls Try.prog 71 #[.int .i64 a, .int .i64 b] w fun e w' => e = endI (chk (a * b)) ∧ w = w' := by
  by_cases h0 : b = 0
  · subst h0
    rw [show chk (a * 0) = some 0 by rw [Int.mul_zero]; decide]
    show Calls _ _ _ _ fun e w' => e = .returned (.int .i64 0) ∧ w = w'
    go_enter Try.func71, Try.ntmps71
    go_wp2
    all_goals (go_ret; exact ⟨rfl, rfl⟩)
  have f0 : (b == 0) = false := by simpa using h0
  obtain ⟨k, hk, hp⟩ := i64_wrap_sub (a * b)
  by_cases hm : a = -9223372036854775808 ∧ b = -1
  · obtain ⟨rfl, rfl⟩ := hm
    rw [show chk (-9223372036854775808 * -1) = none by decide]
    show Calls _ _ _ _ fun e w' => e = .panicked [outP] ∧ w = w'
    clear hk hp
    go_enter Try.func71, Try.ntmps71
    go_wp2
    all_goals exact ⟨rfl, rfl, rfl⟩
  by_cases h : I64 (a * b)
  · have hw : IntKind.i64.wrap (a * b) = a * b := by unfold I64 at h; rw [IntKind.wrap_i64]; omega
    have hq : IntKind.i64.wrap ((a * b).tdiv b) = a := by
      rw [Int.mul_tdiv_cancel _ h0, IntKind.wrap_i64]; unfold I64 at ha; omega
    rw [show chk (a * b) = some (a * b) by unfold chk; rw [if_pos h]]
    show Calls _ _ _ _ fun e w' => e = .returned (.int .i64 (a * b)) ∧ w = w'
    have hq2 : (wrap64 a != a) = false := by
      have : wrap64 a = a := by unfold I64 at ha; unfold wrap64; omega
      simpa using this
    clear hk hp ha hb h
    by_cases c : a = -9223372036854775808
    · have f1 : (b == -1) = false := by simpa using fun e => hm ⟨c, e⟩
      have f2 : (a == -9223372036854775808) = true := by simpa using c
      clear hm c
      go_enter Try.func71, Try.ntmps71
      go_wp2
      all_goals (go_ret; exact ⟨rfl, rfl⟩)
    · have f2 : (a == -9223372036854775808) = false := by simpa using c
      clear hm c
      go_enter Try.func71, Try.ntmps71
      go_wp2
      all_goals (go_ret; exact ⟨rfl, rfl⟩)
  · rw [show chk (a * b) = none by unfold chk; rw [if_neg h]]
    show Calls _ _ _ _ fun e w' => e = .panicked [outP] ∧ w = w'
    have hne : ((IntKind.i64.wrap ((IntKind.i64.wrap (a * b)).tdiv b)) != a) = true := by
      rw [bne_iff_ne]
      intro e
      generalize hP : IntKind.i64.wrap (a * b) = p at *
      by_cases hmin : p = -9223372036854775808 ∧ b = -1
      · obtain ⟨rfl, rfl⟩ := hmin
        apply hm
        unfold I64 at *
        constructor <;> omega
      · have h1 := tdiv_i64 p b hp h0 hmin
        have h2 : IntKind.i64.wrap (p.tdiv b) = p.tdiv b := by rw [IntKind.wrap_i64]; unfold I64 at h1; omega
        rw [h2] at e
        have := wrapped_quot a b p hb h0 k hk e
        exact h (this ▸ hp)
    generalize hP : IntKind.i64.wrap (a * b) = p at *
    have hne2 : (wrap64 (p.tdiv b) != a) = true := by unfold wrap64; rw [IntKind.wrap_i64] at hne; exact hne
    clear hk hp ha hb h
    by_cases c : a = -9223372036854775808
    · have f1 : (b == -1) = false := by simpa using fun e => hm ⟨c, e⟩
      have f2 : (a == -9223372036854775808) = true := by simpa using c
      clear hm c
      go_enter Try.func71, Try.ntmps71
      go_wp2
      all_goals exact ⟨rfl, rfl, rfl⟩
    · have f2 : (a == -9223372036854775808) = false := by simpa using c
      clear hm c
      go_enter Try.func71, Try.ntmps71
      go_wp2
      all_goals exact ⟨rfl, rfl, rfl⟩

def quoP (a b : Int) : Option Int := if b = 0 then none else chk (a.tdiv b)
def remP (a b : Int) : Option Int := if b = 0 then none else some (a.tmod b)

theorem quotient_any (a b : Int) (w : World) (ha : I64 a) (hb : I64 b) :
    Calls Try.prog 72 #[.int .i64 a, .int .i64 b] w fun e w' => e = endI (quoP a b) ∧ w = w' := by
  unfold quoP
  by_cases h0 : b = 0
  · rw [if_pos h0]
    show Calls _ _ _ _ fun e w' => e = .panicked [outP] ∧ w = w'
    have f0 : (b == 0) = true := by simpa using h0
    clear h0
    go_enter Try.func72, Try.ntmps72
    go_wp2
    all_goals exact ⟨rfl, rfl, rfl⟩
  rw [if_neg h0]
  have f0 : (b == 0) = false := by simpa using h0
  by_cases hm : a = -9223372036854775808 ∧ b = -1
  · obtain ⟨rfl, rfl⟩ := hm
    rw [show chk ((-9223372036854775808 : Int).tdiv (-1)) = none by decide]
    show Calls _ _ _ _ fun e w' => e = .panicked [outP] ∧ w = w'
    go_enter Try.func72, Try.ntmps72
    go_wp2
    all_goals exact ⟨rfl, rfl, rfl⟩
  have h1 := tdiv_i64 a b ha h0 hm
  have hq : IntKind.i64.wrap (a.tdiv b) = a.tdiv b := by rw [IntKind.wrap_i64]; unfold I64 at h1; omega
  rw [show chk (a.tdiv b) = some (a.tdiv b) by unfold chk; rw [if_pos h1]]
  show Calls _ _ _ _ fun e w' => e = .returned (.int .i64 (a.tdiv b)) ∧ w = w'
  clear ha hb h1
  by_cases c : a = -9223372036854775808
  · have f1 : (b == -1) = false := by simpa using fun e => hm ⟨c, e⟩
    have f2 : (a == -9223372036854775808) = true := by simpa using c
    clear hm c
    go_enter Try.func72, Try.ntmps72
    go_wp2
    all_goals (go_ret; exact ⟨rfl, rfl⟩)
  · have f2 : (a == -9223372036854775808) = false := by simpa using c
    clear hm c
    go_enter Try.func72, Try.ntmps72
    go_wp2
    all_goals (go_ret; exact ⟨rfl, rfl⟩)

theorem rest_any (a b : Int) (w : World) (ha : I64 a) :
    Calls Try.prog 73 #[.int .i64 a, .int .i64 b] w fun e w' => e = endI (remP a b) ∧ w = w' := by
  unfold remP
  by_cases h0 : b = 0
  · rw [if_pos h0]
    show Calls _ _ _ _ fun e w' => e = .panicked [outP] ∧ w = w'
    have f0 : (b == 0) = true := by simpa using h0
    clear h0
    go_enter Try.func73, Try.ntmps73
    go_wp2
    all_goals exact ⟨rfl, rfl, rfl⟩
  rw [if_neg h0]
  show Calls _ _ _ _ fun e w' => e = .returned (.int .i64 (a.tmod b)) ∧ w = w'
  have f0 : (b == 0) = false := by simpa using h0
  have h1 := tmod_i64 a b ha
  have hq : IntKind.i64.wrap (a.tmod b) = a.tmod b := by rw [IntKind.wrap_i64]; unfold I64 at h1; omega
  clear h1 ha
  go_enter Try.func73, Try.ntmps73
  go_wp2
  all_goals (go_ret; exact ⟨rfl, rfl⟩)

/-- what an operator of two whole numbers makes of them -/
def ansI (op a b : Int) : Option Int := if op = 1 then chk (a + b) else if op = 2 then chk (a - b) else if op = 3 then chk (a * b) else if op = 4 then quoP a b else remP a b

set_option maxHeartbeats 1000000 in
theorem reckon_any (op a b : Int) (w : World) (ha : I64 a) (hb : I64 b) (z : Option Int) (hz : ansI op a b = z) :
    Calls Try.prog 50 #[.int .i64 op, .int .i64 a, .int .i64 b] w fun e w' => e = endI z ∧ w = w' := by
  subst hz
  unfold ansI
  have C : ∀ (f : FuncId) (z : Option Int), (∀ w, Calls Try.prog f #[.int .i64 a, .int .i64 b] w fun e w' => e = endI z ∧ w = w') → Hid ((∃ x, z = some x ∧ ∀ w, Calls Try.prog f #[.int .i64 a, .int .i64 b] w fun e w' => e = .returned (.int .i64 x) ∧ w = w') ∨ (z = none ∧ ∀ w, Calls Try.prog f #[.int .i64 a, .int .i64 b] w fun e w' => e = .panicked [outP] ∧ w = w')) := fun f z h => by
    cases z with
    | none => exact Lib.hid (.inr ⟨rfl, h⟩)
    | some x => exact Lib.hid (.inl ⟨x, rfl, h⟩)
  by_cases c1 : op = 1
  · rw [if_pos c1]; subst c1
    rcases (C _ _ fun w => plus_any a b w ha hb).out with ⟨x, e, H⟩ | ⟨e, H⟩
    all_goals
      rw [e]; replace H := Lib.hid H; clear C ha hb e
      go_enter Try.func50, Try.ntmps50
      go_wp2_with (go_at_call 70; refine (H.out _).mono ?_; rintro e w' ⟨rfl, rfl⟩)
    · go_ret; exact ⟨rfl, rfl⟩
    · exact ⟨rfl, rfl, rfl⟩
  rw [if_neg c1]
  have f1 : (op == 1) = false := by simpa using c1
  by_cases c2 : op = 2
  · rw [if_pos c2]; subst c2
    rcases (C _ _ fun w => minus_any a b w ha hb).out with ⟨x, e, H⟩ | ⟨e, H⟩
    all_goals
      rw [e]; replace H := Lib.hid H; clear C ha hb e
      go_enter Try.func50, Try.ntmps50
      go_wp2_with (go_at_call 45; refine (H.out _).mono ?_; rintro e w' ⟨rfl, rfl⟩)
    · go_ret; exact ⟨rfl, rfl⟩
    · exact ⟨rfl, rfl, rfl⟩
  rw [if_neg c2]
  have f2 : (op == 2) = false := by simpa using c2
  by_cases c3 : op = 3
  · rw [if_pos c3]; subst c3
    rcases (C _ _ fun w => times_any a b w ha hb).out with ⟨x, e, H⟩ | ⟨e, H⟩
    all_goals
      rw [e]; replace H := Lib.hid H; clear C ha hb e
      go_enter Try.func50, Try.ntmps50
      go_wp2_with (go_at_call 71; refine (H.out _).mono ?_; rintro e w' ⟨rfl, rfl⟩)
    · go_ret; exact ⟨rfl, rfl⟩
    · exact ⟨rfl, rfl, rfl⟩
  rw [if_neg c3]
  have f3 : (op == 3) = false := by simpa using c3
  by_cases c4 : op = 4
  · rw [if_pos c4]; subst c4
    rcases (C _ _ fun w => quotient_any a b w ha hb).out with ⟨x, e, H⟩ | ⟨e, H⟩
    all_goals
      rw [e]; replace H := Lib.hid H; clear C ha hb e
      go_enter Try.func50, Try.ntmps50
      go_wp2_with (go_at_call 72; refine (H.out _).mono ?_; rintro e w' ⟨rfl, rfl⟩)
    · go_ret; exact ⟨rfl, rfl⟩
    · exact ⟨rfl, rfl, rfl⟩
  rw [if_neg c4]
  have f4 : (op == 4) = false := by simpa using c4
  rcases (C _ _ fun w => rest_any a b w ha).out with ⟨x, e, H⟩ | ⟨e, H⟩
  all_goals
    rw [e]; replace H := Lib.hid H; clear C ha hb e c1 c2 c3 c4
    go_enter Try.func50, Try.ntmps50
    go_wp2_with (go_at_call 73; refine (H.out _).mono ?_; rintro e w' ⟨rfl, rfl⟩)
  · go_ret; exact ⟨rfl, rfl⟩
  · exact ⟨rfl, rfl, rfl⟩
end Go.Proofs.Ytfjnphiegoogoaa
