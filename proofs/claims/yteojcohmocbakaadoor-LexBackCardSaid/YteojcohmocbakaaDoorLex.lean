/- Bytes of texts, and how many of a kind a text begins with, as contracts. -/
import Derived.Test.YteojcohmocbakaaDoorNameC
namespace Go.Proofs.YteojcohmocbakaaDoor
open Go.ChangeShapes Go.WideShapes Go.ChangeAt Go.RowKit
set_option linter.unusedVariables false
set_option linter.unusedSimpArgs false

def blkC (c : Int) : Bool := c == 32 || c == 9 || c == 10 || c == 13
/-- of so many bytes a text begins with each is of a kind, and no more -/
def RunIs (p : Int → Bool) (s : ByteArray) (r : Nat) : Prop := r ≤ s.size ∧ (∀ (i : Nat) (h : i < s.size), i < r → p (s[i].toNat : Int) = true) ∧ ∀ (h : r < s.size), p (s[r].toNat : Int) = false
theorem RunIs.one {p : Int → Bool} {s : ByteArray} {a b : Nat} (ha : RunIs p s a) (hb : RunIs p s b) : a = b := by
  obtain ⟨a1, a2, a3⟩ := ha
  obtain ⟨b1, b2, b3⟩ := hb
  rcases Nat.lt_trichotomy a b with h | h | h
  · have := b2 a (by omega) h
    rw [a3 (by omega)] at this
    cases this
  · exact h
  · have := a2 b (by omega) h
    rw [b3 (by omega)] at this
    cases this
theorem run_some (p : Int → Bool) (s : ByteArray) : ∃ r, RunIs p s r := by
  have H : ∀ n, n ≤ s.size → (∃ r, RunIs p s r) ∨ ∀ (i : Nat) (h : i < s.size), i < n → p (s[i].toNat : Int) = true := by
    intro n
    induction n with
    | zero => intro _; right; intro i _ h; omega
    | succ n ih =>
      intro hn
      rcases ih (by omega) with h | h
      · exact .inl h
      · by_cases c : p (s[n].toNat : Int) = true
        · right
          intro i hi hl
          by_cases d : i < n
          · exact h i hi d
          · obtain rfl : i = n := by omega
            exact c
        · left
          exact ⟨n, by omega, h, fun _ => by simpa using c⟩
  rcases H s.size (Nat.le_refl _) with h | h
  · exact h
  · exact ⟨s.size, Nat.le_refl _, fun i hi _ => h i hi hi, fun h => absurd h (Nat.lt_irrefl _)⟩

theorem blank_any (c : Int) (w : World) :
    Calls Tryd.prog 14 #[.int .u8 c] w fun e w' => e = .returned (.bool (blkC c)) ∧ w = w' := by
  go_enter Tryd.func14, Tryd.ntmps14
  go_wp2
  all_goals go_ret
  all_goals refine ⟨sret_bool ?_, rfl⟩
  all_goals unfold blkC
  all_goals (first | rfl | (simp_all; done) | (rw [Bool.eq_iff_iff]; simp; omega))
theorem rblank_any (c : Int) (w : World) :
    Calls Tryd.prog 15 #[.int .u8 c] w fun e w' => e = .returned (.bool (blkC c)) ∧ w = w' := by
  go_enter Tryd.func15, Tryd.ntmps15
  go_wp2
  all_goals go_ret
  all_goals refine ⟨sret_bool ?_, rfl⟩
  all_goals unfold blkC
  all_goals (first | rfl | (simp_all; done) | (rw [Bool.eq_iff_iff]; simp; omega))
theorem lletter_any (c : Int) (w : World) :
    Calls Tryd.prog 24 #[.int .u8 c] w fun e w' => e = .returned (.bool (letC c)) ∧ w = w' := by
  go_enter Tryd.func24, Tryd.ntmps24
  go_wp2
  all_goals go_ret
  all_goals refine ⟨sret_bool ?_, rfl⟩
  all_goals unfold letC
  all_goals (first | rfl | (rw [Bool.eq_iff_iff]; simp only [Bool.or_eq_true, decide_eq_true_eq, Bool.true_eq, Bool.false_eq_true, false_iff, iff_false, true_iff, iff_true, not_or, not_and]; omega))
theorem ldigit_any (c : Int) (w : World) :
    Calls Tryd.prog 26 #[.int .u8 c] w fun e w' => e = .returned (.bool (digC c)) ∧ w = w' := by
  go_enter Tryd.func26, Tryd.ntmps26
  go_wp2
  all_goals go_ret
  all_goals refine ⟨sret_bool ?_, rfl⟩
  all_goals unfold digC
  all_goals (first | rfl | (rw [Bool.eq_iff_iff]; simp only [Bool.or_eq_true, decide_eq_true_eq, Bool.true_eq, Bool.false_eq_true, false_iff, iff_false, true_iff, iff_true, not_or, not_and]; omega))
theorem further_any (c : Int) (w : World) :
    Calls Tryd.prog 39 #[.int .u8 c] w fun e w' => e = .returned (.bool (okC c)) ∧ w = w' := by
  obtain ⟨a, ha⟩ : ∃ a, letC c = a := ⟨_, rfl⟩
  obtain ⟨b, hb⟩ : ∃ b, digC c = b := ⟨_, rfl⟩
  have CA := Lib.hid (lletter_any c w)
  have CB := Lib.hid (ldigit_any c w)
  have E : okC c = (a || b || c == 95) := by unfold okC; rw [ha, hb]
  rw [E]
  rw [ha] at CA
  rw [hb] at CB
  clear ha hb E
  go_enter Tryd.func39, Tryd.ntmps39
  cases a
  · cases b
    · go_wp2_with (first | (go_at_call 24; refine CA.out.mono ?_; rintro e w' ⟨rfl, rfl⟩) | (go_at_call 26; refine CB.out.mono ?_; rintro e w' ⟨rfl, rfl⟩))
      all_goals go_ret
      all_goals exact ⟨sret_bool (by simp_all), rfl⟩
    · go_wp2_with (first | (go_at_call 24; refine CA.out.mono ?_; rintro e w' ⟨rfl, rfl⟩) | (go_at_call 26; refine CB.out.mono ?_; rintro e w' ⟨rfl, rfl⟩))
      all_goals go_ret
      all_goals exact ⟨sret_bool (by simp), rfl⟩
  · go_wp2_with (first | (go_at_call 24; refine CA.out.mono ?_; rintro e w' ⟨rfl, rfl⟩))
    all_goals go_ret
    all_goals exact ⟨sret_bool (by simp), rfl⟩

set_option maxHeartbeats 4000000 in
set_option maxRecDepth 100000 in
theorem span_blank (s : ByteArray) (r : Nat) (w : World) (hs : s.size ≤ 9223372036854775807) (hr : RunIs blkC s r) :
    Calls Tryd.prog 16 #[.string s, .func (.func 14) #[] #[]] w fun e w' => e = .returned (.int .i64 (r : Int)) ∧ w = w' := by
  have hr0 := hr.1
  replace hr := Lib.hid hr
  go_enter Tryd.func16, Tryd.ntmps16
  go_wp2_with fail
  go_loopw [8] (fun i wr => ∃ k : Nat, k ≤ r ∧ i = .int .i64 (k : Int) ∧ w = wr) (fun i _ => s.size - (intOf i).toNat)
  case atStart => exact ⟨0, Nat.zero_le _, rfl, rfl⟩
  case round =>
    obtain ⟨k, hk, rfl, rfl⟩ := hrel
    by_cases hlt : k < s.size
    · have k0 : (0 : Int) ≤ (k : Int) := by omega
      have k1 : (k : Int) < (s.size : Int) := by omega
      by_cases hkr : k < r
      · have hp : blkC ((s[k]'hlt).toNat : Int) = true := hr.out.2.1 k hlt hkr
        have CC := blank_any ((s[k]'hlt).toNat : Int) w
        rw [hp] at CC
        replace CC := Lib.hid CC
        clear hp
        go_wp2_with (go_at_call 14; refine CC.out.mono ?_; rintro e w1 ⟨rfl, rfl⟩)
        go_roundw
        case rel => exact ⟨k + 1, by omega, by go_num, by first | rfl | trivial⟩
        case measure => simp [intOf]; omega
      · obtain rfl : k = r := by omega
        have hp : blkC ((s[k]'hlt).toNat : Int) = false := hr.out.2.2 hlt
        have CC := blank_any ((s[k]'hlt).toNat : Int) w
        rw [hp] at CC
        replace CC := Lib.hid CC
        clear hp
        go_wp2_with (go_at_call 14; refine CC.out.mono ?_; rintro e w1 ⟨rfl, rfl⟩)
        go_ret
        exact ⟨rfl, rfl⟩
    · obtain rfl : k = s.size := by omega
      obtain rfl : r = s.size := by omega
      go_wp2_with fail
      go_ret
      exact ⟨rfl, rfl⟩
set_option maxHeartbeats 4000000 in
set_option maxRecDepth 100000 in
theorem span_digit (s : ByteArray) (r : Nat) (w : World) (hs : s.size ≤ 9223372036854775807) (hr : RunIs digC s r) :
    Calls Tryd.prog 16 #[.string s, .func (.func 26) #[] #[]] w fun e w' => e = .returned (.int .i64 (r : Int)) ∧ w = w' := by
  have hr0 := hr.1
  replace hr := Lib.hid hr
  go_enter Tryd.func16, Tryd.ntmps16
  go_wp2_with fail
  go_loopw [8] (fun i wr => ∃ k : Nat, k ≤ r ∧ i = .int .i64 (k : Int) ∧ w = wr) (fun i _ => s.size - (intOf i).toNat)
  case atStart => exact ⟨0, Nat.zero_le _, rfl, rfl⟩
  case round =>
    obtain ⟨k, hk, rfl, rfl⟩ := hrel
    by_cases hlt : k < s.size
    · have k0 : (0 : Int) ≤ (k : Int) := by omega
      have k1 : (k : Int) < (s.size : Int) := by omega
      by_cases hkr : k < r
      · have hp : digC ((s[k]'hlt).toNat : Int) = true := hr.out.2.1 k hlt hkr
        have CC := ldigit_any ((s[k]'hlt).toNat : Int) w
        rw [hp] at CC
        replace CC := Lib.hid CC
        clear hp
        go_wp2_with (go_at_call 26; refine CC.out.mono ?_; rintro e w1 ⟨rfl, rfl⟩)
        go_roundw
        case rel => exact ⟨k + 1, by omega, by go_num, by first | rfl | trivial⟩
        case measure => simp [intOf]; omega
      · obtain rfl : k = r := by omega
        have hp : digC ((s[k]'hlt).toNat : Int) = false := hr.out.2.2 hlt
        have CC := ldigit_any ((s[k]'hlt).toNat : Int) w
        rw [hp] at CC
        replace CC := Lib.hid CC
        clear hp
        go_wp2_with (go_at_call 26; refine CC.out.mono ?_; rintro e w1 ⟨rfl, rfl⟩)
        go_ret
        exact ⟨rfl, rfl⟩
    · obtain rfl : k = s.size := by omega
      obtain rfl : r = s.size := by omega
      go_wp2_with fail
      go_ret
      exact ⟨rfl, rfl⟩
set_option maxHeartbeats 4000000 in
set_option maxRecDepth 100000 in
theorem span_further (s : ByteArray) (r : Nat) (w : World) (hs : s.size ≤ 9223372036854775807) (hr : RunIs okC s r) :
    Calls Tryd.prog 16 #[.string s, .func (.func 39) #[] #[]] w fun e w' => e = .returned (.int .i64 (r : Int)) ∧ w = w' := by
  have hr0 := hr.1
  replace hr := Lib.hid hr
  go_enter Tryd.func16, Tryd.ntmps16
  go_wp2_with fail
  go_loopw [8] (fun i wr => ∃ k : Nat, k ≤ r ∧ i = .int .i64 (k : Int) ∧ w = wr) (fun i _ => s.size - (intOf i).toNat)
  case atStart => exact ⟨0, Nat.zero_le _, rfl, rfl⟩
  case round =>
    obtain ⟨k, hk, rfl, rfl⟩ := hrel
    by_cases hlt : k < s.size
    · have k0 : (0 : Int) ≤ (k : Int) := by omega
      have k1 : (k : Int) < (s.size : Int) := by omega
      by_cases hkr : k < r
      · have hp : okC ((s[k]'hlt).toNat : Int) = true := hr.out.2.1 k hlt hkr
        have CC := further_any ((s[k]'hlt).toNat : Int) w
        rw [hp] at CC
        replace CC := Lib.hid CC
        clear hp
        go_wp2_with (go_at_call 39; refine CC.out.mono ?_; rintro e w1 ⟨rfl, rfl⟩)
        go_roundw
        case rel => exact ⟨k + 1, by omega, by go_num, by first | rfl | trivial⟩
        case measure => simp [intOf]; omega
      · obtain rfl : k = r := by omega
        have hp : okC ((s[k]'hlt).toNat : Int) = false := hr.out.2.2 hlt
        have CC := further_any ((s[k]'hlt).toNat : Int) w
        rw [hp] at CC
        replace CC := Lib.hid CC
        clear hp
        go_wp2_with (go_at_call 39; refine CC.out.mono ?_; rintro e w1 ⟨rfl, rfl⟩)
        go_ret
        exact ⟨rfl, rfl⟩
    · obtain rfl : k = s.size := by omega
      obtain rfl : r = s.size := by omega
      go_wp2_with fail
      go_ret
      exact ⟨rfl, rfl⟩
end Go.Proofs.YteojcohmocbakaaDoor
