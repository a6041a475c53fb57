/- How many bytes of a kind stand at a place, in the document's package, as contracts. -/
import Derived.Test.YteojcohmocbakaaDoorLex
namespace Go.Proofs.YteojcohmocbakaaDoor
open Go.ChangeShapes Go.WideShapes Go.ChangeAt Go.RowKit
set_option linter.unusedVariables false
set_option linter.unusedSimpArgs false

def RunAt (p : Int → Bool) (s : ByteArray) (a r : Nat) : Prop := a + r ≤ s.size ∧ (∀ (i : Nat) (h : a + i < s.size), i < r → p (s[a + i].toNat : Int) = true) ∧ ∀ (h : a + r < s.size), p (s[a + r].toNat : Int) = false

set_option maxHeartbeats 4000000 in
set_option maxRecDepth 100000 in
theorem many_digits (s : ByteArray) (a r : Nat) (w : World) (hs : s.size ≤ 9223372036854775807) (hr : RunAt digC s a r) :
    Calls Tryd.prog 31 #[.string s, .int .i64 (a : Int), .bool false] w fun e w' => e = .returned (.int .i64 (r : Int)) ∧ w = w' := by
  have hr0 := hr.1
  replace hr := Lib.hid hr
  go_enter Tryd.func31, Tryd.ntmps31
  go_wp2_with fail
  go_loopw [7] (fun i wr => ∃ k : Nat, k ≤ r ∧ i = .int .i64 (k : Int) ∧ w = wr) (fun i _ => s.size - (intOf i).toNat)
  case atStart => exact ⟨0, Nat.zero_le _, rfl, rfl⟩
  case round =>
    obtain ⟨k, hk, rfl, rfl⟩ := hrel
    by_cases hlt : a + k < s.size
    · have k0 : (0 : Int) ≤ (a : Int) + (k : Int) := by omega
      have k1 : (a : Int) + (k : Int) < (s.size : Int) := by omega
      have CC := rdigit_any ((s[a + k]'hlt).toNat : Int) w
      by_cases hkr : k < r
      · rw [show digC ((s[a + k]'hlt).toNat : Int) = true from hr.out.2.1 k hlt hkr] at CC
        replace CC := Lib.hid CC
        go_wp2_with (go_at_call 34; refine CC.out.mono ?_; rintro e w1 ⟨rfl, rfl⟩)
        go_roundw
        case rel => exact ⟨k + 1, by omega, by go_num, by first | rfl | trivial⟩
        case measure => simp [intOf]; omega
      · obtain rfl : k = r := by omega
        rw [show digC ((s[a + k]'hlt).toNat : Int) = false from hr.out.2.2 hlt] at CC
        replace CC := Lib.hid CC
        go_wp2_with (go_at_call 34; refine CC.out.mono ?_; rintro e w1 ⟨rfl, rfl⟩)
        go_ret
        exact ⟨rfl, rfl⟩
    · have k0 : (0 : Int) ≤ (a : Int) + (k : Int) := by omega
      have k1 : ¬ (a : Int) + (k : Int) < (s.size : Int) := by omega
      obtain rfl : k = r := by omega
      go_wp2_with fail
      go_ret
      exact ⟨rfl, rfl⟩
set_option maxHeartbeats 4000000 in
set_option maxRecDepth 100000 in
theorem many_names (s : ByteArray) (a r : Nat) (w : World) (hs : s.size ≤ 9223372036854775807) (hr : RunAt okC s a r) :
    Calls Tryd.prog 31 #[.string s, .int .i64 (a : Int), .bool true] w fun e w' => e = .returned (.int .i64 (r : Int)) ∧ w = w' := by
  have hr0 := hr.1
  replace hr := Lib.hid hr
  go_enter Tryd.func31, Tryd.ntmps31
  go_wp2_with fail
  go_loopw [7] (fun i wr => ∃ k : Nat, k ≤ r ∧ i = .int .i64 (k : Int) ∧ w = wr) (fun i _ => s.size - (intOf i).toNat)
  case atStart => exact ⟨0, Nat.zero_le _, rfl, rfl⟩
  case round =>
    obtain ⟨k, hk, rfl, rfl⟩ := hrel
    by_cases hlt : a + k < s.size
    · have k0 : (0 : Int) ≤ (a : Int) + (k : Int) := by omega
      have k1 : (a : Int) + (k : Int) < (s.size : Int) := by omega
      have CC := rdigit_any ((s[a + k]'hlt).toNat : Int) w
      have CL := rletter_any ((s[a + k]'hlt).toNat : Int) w
      have H1 : k < r → okC ((s[a + k]'hlt).toNat : Int) = true := fun h => hr.out.2.1 k hlt h
      have H2 : ¬ k < r → okC ((s[a + k]'hlt).toNat : Int) = false := fun h => by
        obtain rfl : k = r := by omega
        exact hr.out.2.2 hlt
      unfold okC at H1 H2
      obtain ⟨d, hd⟩ : ∃ d, digC ((s[a + k]'hlt).toNat : Int) = d := ⟨_, rfl⟩
      obtain ⟨l, hl⟩ : ∃ l, letC ((s[a + k]'hlt).toNat : Int) = l := ⟨_, rfl⟩
      rw [hd, hl] at H1 H2
      rw [hd] at CC
      rw [hl] at CL
      replace CC := Lib.hid CC
      replace CL := Lib.hid CL
      clear hd hl
      by_cases hkr : k < r
      · replace H1 := H1 hkr
        clear H2
        cases d
        · cases l
          · have h95 : ((s[a + k]'hlt).toNat : Int) = 95 := by simpa using H1
            have h95b : (((s[a + k]'hlt).toNat : Int) == 95) = true := by simp [h95]
            clear H1 h95
            go_wp2_with (first | (go_at_call 34; refine CC.out.mono ?_; rintro e w1 ⟨rfl, rfl⟩) | (go_at_call 30; refine CL.out.mono ?_; rintro e w1 ⟨rfl, rfl⟩))
            go_roundw
            case rel => exact ⟨k + 1, by omega, by go_num, by first | rfl | trivial⟩
            case measure => simp [intOf]; omega
          · clear H1
            go_wp2_with (first | (go_at_call 34; refine CC.out.mono ?_; rintro e w1 ⟨rfl, rfl⟩) | (go_at_call 30; refine CL.out.mono ?_; rintro e w1 ⟨rfl, rfl⟩))
            go_roundw
            case rel => exact ⟨k + 1, by omega, by go_num, by first | rfl | trivial⟩
            case measure => simp [intOf]; omega
        · clear H1
          go_wp2_with (first | (go_at_call 34; refine CC.out.mono ?_; rintro e w1 ⟨rfl, rfl⟩) | (go_at_call 30; refine CL.out.mono ?_; rintro e w1 ⟨rfl, rfl⟩))
          go_roundw
          case rel => exact ⟨k + 1, by omega, by go_num, by first | rfl | trivial⟩
          case measure => simp [intOf]; omega
      · replace H2 := H2 hkr
        obtain rfl : k = r := by omega
        clear H1
        cases d <;> cases l <;> simp at H2
        have h95b : (((s[a + k]'hlt).toNat : Int) == 95) = false := by simp; exact H2
        clear H2
        go_wp2_with (first | (go_at_call 34; refine CC.out.mono ?_; rintro e w1 ⟨rfl, rfl⟩) | (go_at_call 30; refine CL.out.mono ?_; rintro e w1 ⟨rfl, rfl⟩))
        go_ret
        exact ⟨rfl, rfl⟩
    · have k0 : (0 : Int) ≤ (a : Int) + (k : Int) := by omega
      have k1 : ¬ (a : Int) + (k : Int) < (s.size : Int) := by omega
      obtain rfl : k = r := by omega
      go_wp2_with fail
      go_ret
      exact ⟨rfl, rfl⟩
end Go.Proofs.YteojcohmocbakaaDoor
