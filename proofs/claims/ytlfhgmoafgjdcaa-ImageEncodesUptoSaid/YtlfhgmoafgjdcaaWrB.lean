/- What the program's Uint and Int write, and the document's, as contracts. -/
import Derived.Test.YtlfhgmoafgjdcaaWrA
import Derived.WalkKit
import Derived.ProofKit
import Derived.WalkLawsBesides
import Derived.Deep.Draws
import Derived.Lib.Hide
import Derived.Outline
namespace Go.Proofs.Ytlfhgmoafgjdcaa
open Go.ChangeShapes Go.WideShapes Go.ChangeAt Go.RowKit
set_option linter.unusedVariables false
set_option linter.unusedSimpArgs false

theorem own_snoc {w : World} {base n : Nat} {v : Value} {l : List Nat} {c : Nat} {x : Int} (hx : x = (c : Int)) (h : w.ownsRow base 5 1 v n (bcells l ++ [.int .u8 x])) : w.ownsRow base 5 1 v n (bcells (l ++ [c])) := by
  rw [bcells_append]
  subst hx
  exact h

set_option maxHeartbeats 4000000 in
theorem uint_any (n : Nat) (hn : n < 18446744073709551616) (w : World) : Calls Try.prog 155 #[.int .u64 (n : Int)] w (OwnB w.heap.size w (uintL n)) := by
  obtain ⟨i0, hi, hz0, hz1, hz2⟩ := info_parts infoB
  have hlen := (uintL_len hn).2
  replace hlen := Lib.hid hlen
  go_enter Try.func155, Try.ntmps155
  go_wp2_with fail
  go_loopw [3, 0] (fun vb vn wr => ∃ (m : Nat) (pre : List Nat), vn = .int .u64 (m : Int) ∧ m < 18446744073709551616 ∧ uintL n = pre ++ uintL m ∧ wr.ownsRow w.heap.size 5 1 vb pre.length (bcells pre) ∧ Below w.heap.size w wr) (fun _ vn _ => (intOf vn).toNat)
  case atStart => exact ⟨n, [], rfl, hn, rfl, World.ownsRow_lit (base := w.heap.size) (e := 5) (size := 1) w #[] 0 (Nat.le_refl _) (by unfold maxLen; omega) rfl, m1 w _⟩
  case round =>
    obtain ⟨m, pre, rfl, hm, hpre, hO, hB⟩ := hrel
    have hpl : pre.length < 11 := by
      have := congrArg List.length hpre
      rw [List.length_append] at this
      have := hlen.out
      omega
    have m0 : (0 : Int) ≤ (m : Int) := by omega
    have l1 : pre.length + 1 ≤ maxLen := by unfold maxLen; omega
    have l2 : (pre.length + 1) * 1 ≤ 140737488355328 := by omega
    replace hpre := Lib.hid hpre
    replace hn := Lib.hid hn
    have hsz := hB.size
    by_cases hge : 128 ≤ m
    · have hge1 : (128 : Int) ≤ (m : Int) := by omega
      go_wp2_with (at_builtin; refine wpList_append_own _ rfl (.tmp 9) (.tmp 14) 31 rfl w.heap.size 5 i0 (.int .u8 0) 1 1 Try.underlying31 hi hz0 hz1 hz2 rfl (by decide) _ pre.length (bcells pre) rfl (hO.alloc _) ⟨wr.heap.size, 0, none⟩ 1 1 _ rfl (by first | rfl | trace_state) (cell_one_new _ _ _) (by simp [Value.oneCell']) l1 l2 (by simp; omega) ?_; intro v' w4 hO4 hgrow _; have hB4 := Lib.hid ((hB.alloc hsz _).grown hgrow (by simp; omega) (fun g hg => (hO.lt g hg).1)); replace hO4 := Lib.hid hO4; clear hgrow)
      go_roundw
      case rel =>
        refine ⟨m / 128, pre ++ [m % 128 + 128], ?_, by omega, ?_, ?_, hB4.out⟩
        · simp
        · rw [hpre.out, uintL_more hge]; simp
        · rw [List.length_append]
          exact own_snoc (by omega) hO4.out
      case measure => simp [intOf]; omega
    · have hlt1 : ¬ (128 : Int) ≤ (m : Int) := by omega
      go_wp2_with (at_builtin; refine wpList_append_own _ rfl (.tmp 16) (.tmp 19) 31 rfl w.heap.size 5 i0 (.int .u8 0) 1 1 Try.underlying31 hi hz0 hz1 hz2 rfl (by decide) _ pre.length (bcells pre) rfl (hO.alloc _) ⟨wr.heap.size, 0, none⟩ 1 1 _ rfl (by first | rfl | trace_state) (cell_one_new _ _ _) (by simp [Value.oneCell']) l1 l2 (by simp; omega) ?_; intro v' w4 hO4 hgrow _; have hB4 := Lib.hid ((hB.alloc hsz _).grown hgrow (by simp; omega) (fun g hg => (hO.lt g hg).1)); replace hO4 := Lib.hid hO4; clear hgrow)
      go_ret
      have hlst : uintL n = pre ++ [m] := by rw [hpre.out, uintL_small (by omega)]
      obtain ⟨A, c, rfl, _, _⟩ := bslice_of hO4.out
      have hO5 := own_snoc (c := m) (by omega) hO4.out
      rw [hlst]
      exact ⟨A, c, by rw [List.length_append]; rfl, by rw [List.length_append]; exact hO5, hB4.out⟩

set_option maxHeartbeats 4000000 in
theorem int_any (m : Int) (h1 : -9223372036854775808 ≤ m) (h2 : m ≤ 9223372036854775807) (w : World) : Calls Try.prog 157 #[.int .i64 m] w (OwnB w.heap.size w (uintL (zig m))) := by
  have C := Lib.hid (fun w => uint_any (zig m) (zig_lt h1 h2) w)
  by_cases hneg : m < 0
  · have hx := Lib.hid (zig_bits h1 hneg)
    go_enter Try.func157, Try.ntmps157
    go_wp2_with fail
    rw [hx.out]
    refine (C.out _).mono ?_
    rintro e w1 ⟨A, c, rfl, hO, hB⟩
    replace hO := Lib.hid hO
    go_wp2
    go_ret
    exact ⟨A, c, rfl, hO.out, hB⟩
  · have hpos : 0 ≤ m := by omega
    have hx := Lib.hid (show (2 * m : Int) = (zig m : Int) by unfold zig; rw [if_neg hneg]; omega)
    clear hneg
    go_enter Try.func157, Try.ntmps157
    go_wp2_with fail
    rw [hx.out]
    refine (C.out _).mono ?_
    rintro e w1 ⟨A, c, rfl, hO, hB⟩
    replace hO := Lib.hid hO
    go_wp2
    go_ret
    exact ⟨A, c, rfl, hO.out, hB⟩

set_option maxHeartbeats 4000000 in
theorem ruint_any (n : Nat) (hn : n < 18446744073709551616) : ∀ (w : World), Calls Try.prog 54 #[.int .u64 (n : Int)] w (OwnB w.heap.size w (uintL n)) := by
  obtain ⟨i0, hi, hz0, hz1, hz2⟩ := info_parts infoB
  induction n using Nat.strongRecOn with
  | ind n ih =>
    intro w
    have n0 : (0 : Int) ≤ (n : Int) := by omega
    by_cases h : n < 128
    · have h' : (n : Int) < 128 := by omega
      rw [uintL_small h]
      go_enter Try.func54, Try.ntmps54
      go_wp2_with fail
      go_ret
      have hO := World.ownsRow_lit (base := w.heap.size) (e := 5) (size := 1) w #[.int .u8 (n : Int)] 1 (Nat.le_refl _) (by unfold maxLen; omega) rfl
      exact ⟨some ⟨w.heap.size, 0, none⟩, 1, rfl, hO, m1 w _⟩
    · have h' : ¬ (n : Int) < 128 := by omega
      have C := Lib.hid (ih (n / 128) (by omega) (by omega))
      have hq := Lib.hid (uintL_more (n := n) (by omega))
      have hlen := Lib.hid (uintL_len (n := n / 128) (by omega)).2
      clear ih
      have hO := World.ownsRow_lit (base := w.heap.size) (e := 5) (size := 1) w #[.int .u8 ((n % 128 + 128 : Nat) : Int)] 1 (Nat.le_refl _) (by unfold maxLen; omega) rfl
      go_enter Try.func54, Try.ntmps54
      go_wp2_with fail
      rw [show ((n : Int) / 128) = ((n / 128 : Nat) : Int) by omega]
      refine (C.out _).mono ?_
      rintro e w1 ⟨A, c, rfl, hO1, hB1⟩
      have hO2 := mown_below hO hB1
      have hB2 := mmore (m1 w (.cells #[.int .u8 ((n % 128 + 128 : Nat) : Int)] 5)) hB1
      have hsz := hB2.size
      have l1 : 1 + (uintL (n / 128)).length ≤ maxLen := by have := hlen.out; unfold maxLen; omega
      have l2 : (1 + (uintL (n / 128)).length) * 1 ≤ 140737488355328 := by have := hlen.out; omega
      replace hO1 := Lib.hid (Reads.of_own hO1)
      clear hO
      go_wp2_with (at_builtin; refine wpList_append_any _ rfl (.tmp 12) (.tmp 15) 31 rfl w.heap.size 5 i0 (.int .u8 0) 1 1 Try.underlying31 hi hz0 hz1 hz2 rfl (by decide) _ 1 [.int .u8 ((n % 128 + 128 : Nat) : Int)] rfl hO2 w1.heap.size A _ c _ rfl hO1.out (bcells_one _) l1 l2 hsz ?_; intro v' w4 hO4 hgrow _; have hB4 := Lib.hid (bbelow_grown hB2 (Nat.le_refl _) hO2 hgrow); replace hO4 := Lib.hid hO4; clear hgrow)
      go_ret
      rw [hq.out]
      obtain ⟨A4, c4, rfl, _, _⟩ := bslice_of hO4.out
      have hO5 := hO4.out
      rw [show 1 + (uintL (n / 128)).length = ((n % 128 + 128) :: uintL (n / 128)).length by simp; omega] at hO5 ⊢
      exact ⟨A4, c4, rfl, hO5, hB4.out⟩

set_option maxHeartbeats 4000000 in
theorem rint_any (m : Int) (h1 : -9223372036854775808 ≤ m) (h2 : m ≤ 9223372036854775807) (w : World) : Calls Try.prog 52 #[.int .i64 m] w (OwnB w.heap.size w (uintL (zig m))) := by
  have C := Lib.hid (fun w => ruint_any (zig m) (zig_lt h1 h2) w)
  by_cases hneg : m < 0
  · have hx := Lib.hid (show (2 * (-(m + 1)) + 1 : Int) = (zig m : Int) by unfold zig; rw [if_pos hneg]; omega)
    go_enter Try.func52, Try.ntmps52
    go_wp2_with fail
    rw [hx.out]
    refine (C.out _).mono ?_
    rintro e w1 ⟨A, c, rfl, hO, hB⟩
    replace hO := Lib.hid hO
    go_wp2
    go_ret
    exact ⟨A, c, rfl, hO.out, hB⟩
  · have hpos : 0 ≤ m := by omega
    have hx := Lib.hid (show (2 * m : Int) = (zig m : Int) by unfold zig; rw [if_neg hneg]; omega)
    clear hneg
    go_enter Try.func52, Try.ntmps52
    go_wp2_with fail
    rw [hx.out]
    refine (C.out _).mono ?_
    rintro e w1 ⟨A, c, rfl, hO, hB⟩
    replace hO := Lib.hid hO
    go_wp2
    go_ret
    exact ⟨A, c, rfl, hO.out, hB⟩
end Go.Proofs.Ytlfhgmoafgjdcaa
