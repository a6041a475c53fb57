/- The program's sum and the document's, as contracts. -/
import Derived.Test.YtlfhgmoafgjdcaaWrB
namespace Go.Proofs.Ytlfhgmoafgjdcaa
open Go.ChangeShapes Go.WideShapes Go.ChangeAt Go.RowKit
set_option linter.unusedVariables false
set_option linter.unusedSimpArgs false

theorem crcN_succ : ∀ (k x : Nat), crcN (k + 1) x = crc1 (crcN k x)
  | 0, _ => rfl
  | k + 1, x => by rw [crcN, crcN_succ k, crcN]
theorem crcL_take {l : List Nat} {i c : Nat} (x : Nat) (h : l[i]? = some c) : crcL x (l.take (i + 1)) = crcB (crcL x (l.take i)) c := by
  have hl := (List.getElem?_eq_some_iff.1 h).1
  have e := (List.getElem?_eq_some_iff.1 h).2
  rw [List.take_succ_eq_append_getElem hl, e]
  unfold crcL
  rw [List.foldl_append]
  rfl
theorem xor32 {x c : Nat} (hx : x < 4294967296) (hc : c < 4294967296) : bits .xor .u32 (x : Int) (c : Int) = ((x ^^^ c : Nat) : Int) := u32_xor_nat x c hx hc

theorem crc_bits {y : Nat} (hy : y < 4294967296) : bits .xor .u32 ((y : Int) / 2) ((y : Int) % 2 * 3988292384) = (crc1 y : Int) := by
  rw [show ((y : Int) / 2) = ((y / 2 : Nat) : Int) by omega, show ((y : Int) % 2 * 3988292384) = ((y % 2 * 3988292384 : Nat) : Int) by omega, xor32 (by omega) (by omega)]
  rfl
theorem crc_odd {y : Nat} (hy : y < 4294967296) (h : y % 2 = 1) : bits .xor .u32 ((y : Int) / 2) 3988292384 = (crc1 y : Int) := by
  rw [show ((y : Int) / 2) = ((y / 2 : Nat) : Int) by omega, show (3988292384 : Int) = ((3988292384 : Nat) : Int) by omega, xor32 (by omega) (by omega)]
  unfold crc1
  rw [h, Nat.one_mul]
theorem crc_even {y : Nat} (h : y % 2 = 0) : (y : Int) / 2 = (crc1 y : Int) := by
  unfold crc1
  rw [h, Nat.zero_mul, Nat.xor_zero]
  omega

set_option maxHeartbeats 8000000 in
set_option maxRecDepth 100000 in
theorem sum_any (A : Option Addr) (l : List Nat) (c : Nat) (hl : Byt l) (w : World) (h : Bys w A l) (hlen : l.length ≤ 140737488355000) : Calls Try.prog 51 #[.slice A l.length c] w fun e w' => e = .returned (.int .u32 (sumL l : Int)) ∧ w = w' := by
  go_enter Try.func51, Try.ntmps51
  go_wp2_with fail
  go_loop [3, 8] (fun vx vi => ∃ (x i : Nat), vx = .int .u32 (x : Int) ∧ vi = .int .i64 (i : Int) ∧ i ≤ l.length ∧ x = crcL 4294967295 (l.take i)) (fun _ vi => l.length - (intOf vi).toNat)
  case atStart => exact ⟨4294967295, 0, rfl, rfl, by omega, rfl⟩
  case round =>
    obtain ⟨x, i, rfl, rfl, hi, hx⟩ := hrel
    have hx32 : x < 4294967296 := by rw [hx]; exact crcL_lt _ (hl.take i) (by decide)
    have i0 : (0 : Int) ≤ (i : Int) := by omega
    have x0 : (0 : Int) ≤ (x : Int) := by omega
    by_cases hlt : i < l.length
    · have hc := List.getElem?_eq_getElem hlt
      obtain ⟨ad, rfl, _, hcell⟩ := h.at_ hc
      have hcb : l[i] < 256 := hl.get hc
      have hnext := Lib.hid (crcL_take 4294967295 hc)
      generalize l[i] = b at *
      have b0 : (0 : Int) ≤ (b : Int) := by omega
      have b1 : (b : Int) < 256 := by omega
      have hxx := xor32 hx32 (c := b) (by omega)
      have hxb : x ^^^ b < 4294967296 := xor_lt32 hx32 (by omega)
      have hB8 : crcB x b = crcN 8 (x ^^^ b) := rfl
      rw [← hx, hB8] at hnext
      replace hx := Lib.hid hx
      replace hnext := Lib.hid hnext.out
      clear hc hB8
      go_wp2_with fail
      clear hxx hcell
      generalize x ^^^ b = y at *
      go_loop [3, 16] (fun vx vj => ∃ j : Nat, j ≤ 8 ∧ vj = .int .i64 (j : Int) ∧ vx = .int .u32 ((crcN j y : Nat) : Int)) (fun _ vj => 8 - (intOf vj).toNat)
      case atStart => exact ⟨0, by omega, rfl, rfl⟩
      case round =>
        obtain ⟨j, hj, rfl, rfl⟩ := hrel
        have j0 : (0 : Int) ≤ (j : Int) := by omega
        have hz32 := crcN_lt j hxb
        by_cases hj8 : j < 8
        · have hs := Lib.hid (crcN_succ j y)
          generalize crcN j y = z at *
          have z0 : (0 : Int) ≤ (z : Int) := by omega
          have hcb2 := Lib.hid (crc_bits hz32)
          go_wp2
          go_round
          case rel => exact ⟨j + 1, by omega, by go_num, by rw [hs.out, ← hcb2.out]⟩
          case measure => simp [intOf]; omega
        · obtain rfl : j = 8 := by omega
          generalize crcN 8 y = z at *
          go_wp2
          go_round
          case rel => exact ⟨z, i + 1, rfl, by go_num, by omega, hnext.out.symm⟩
          case measure => simp [intOf]; omega
    · obtain rfl : i = l.length := by omega
      rw [List.take_length] at hx
      have hs : sumL l = x ^^^ 4294967295 := by unfold sumL; rw [hx]
      have hxx := Lib.hid (xor32 hx32 (c := 4294967295) (by decide))
      clear hx
      replace hs := Lib.hid hs
      go_wp2
      go_ret
      rw [hs.out, ← hxx.out]
      exact ⟨rfl, rfl⟩

set_option maxHeartbeats 8000000 in
set_option maxRecDepth 100000 in
theorem rsum_any (A : Option Addr) (l : List Nat) (c : Nat) (hl : Byt l) (w : World) (h : Bys w A l) (hlen : l.length ≤ 140737488355000) : Calls Try.prog 55 #[.slice A l.length c] w fun e w' => e = .returned (.int .u32 (sumL l : Int)) ∧ w = w' := by
  go_enter Try.func55, Try.ntmps55
  go_wp2_with fail
  go_loop [3, 9] (fun vx vi => ∃ (x i : Nat), vx = .int .u32 (x : Int) ∧ vi = .int .i64 (i : Int) ∧ i ≤ l.length ∧ x = crcL 4294967295 (l.take i)) (fun _ vi => l.length - (intOf vi).toNat)
  case atStart => exact ⟨4294967295, 0, rfl, rfl, by omega, rfl⟩
  case round =>
    obtain ⟨x, i, rfl, rfl, hi, hx⟩ := hrel
    have hx32 : x < 4294967296 := by rw [hx]; exact crcL_lt _ (hl.take i) (by decide)
    have i0 : (0 : Int) ≤ (i : Int) := by omega
    have x0 : (0 : Int) ≤ (x : Int) := by omega
    by_cases hlt : i < l.length
    · have hc := List.getElem?_eq_getElem hlt
      obtain ⟨ad, rfl, _, hcell⟩ := h.at_ hc
      have hcb : l[i] < 256 := hl.get hc
      have hnext := Lib.hid (crcL_take 4294967295 hc)
      generalize l[i] = b at *
      have b0 : (0 : Int) ≤ (b : Int) := by omega
      have b1 : (b : Int) < 256 := by omega
      have hxx := xor32 hx32 (c := b) (by omega)
      have hxb : x ^^^ b < 4294967296 := xor_lt32 hx32 (by omega)
      have hB8 : crcB x b = crcN 8 (x ^^^ b) := rfl
      rw [← hx, hB8] at hnext
      replace hx := Lib.hid hx
      replace hnext := Lib.hid hnext.out
      clear hc hB8
      go_wp2_with fail
      clear hxx hcell
      generalize x ^^^ b = y at *
      go_loop [3, 6] (fun vx vj => ∃ j : Nat, j ≤ 8 ∧ vj = .int .i64 (j : Int) ∧ vx = .int .u32 ((crcN j y : Nat) : Int)) (fun _ vj => 8 - (intOf vj).toNat)
      case atStart => exact ⟨0, by omega, rfl, rfl⟩
      case round =>
        obtain ⟨j, hj, rfl, rfl⟩ := hrel
        have j0 : (0 : Int) ≤ (j : Int) := by omega
        have hz32 := crcN_lt j hxb
        by_cases hj8 : j < 8
        · have hs := Lib.hid (crcN_succ j y)
          generalize crcN j y = z at *
          have z0 : (0 : Int) ≤ (z : Int) := by omega
          rcases Nat.mod_two_eq_zero_or_one z with ho | ho
          · have ho' : ((z : Int) % 2 == 1) = false := by rw [beq_eq_false_iff_ne]; omega
            have hcb2 := Lib.hid (crc_even ho)
            clear ho
            go_wp2
            go_round
            case rel => exact ⟨j + 1, by omega, by go_num, by rw [hs.out, ← hcb2.out]⟩
            case measure => simp [intOf]; omega
          · have ho' : ((z : Int) % 2 == 1) = true := by rw [beq_iff_eq]; omega
            have hcb2 := Lib.hid (crc_odd hz32 ho)
            clear ho
            go_wp2
            go_round
            case rel => exact ⟨j + 1, by omega, by go_num, by rw [hs.out, ← hcb2.out]⟩
            case measure => simp [intOf]; omega
        · obtain rfl : j = 8 := by omega
          generalize crcN 8 y = z at *
          go_wp2
          go_round
          case rel => exact ⟨z, i + 1, rfl, by go_num, by omega, hnext.out.symm⟩
          case measure => simp [intOf]; omega
    · obtain rfl : i = l.length := by omega
      rw [List.take_length] at hx
      have hs : sumL l = x ^^^ 4294967295 := by unfold sumL; rw [hx]
      have hxx := Lib.hid (xor32 hx32 (c := 4294967295) (by decide))
      clear hx
      replace hs := Lib.hid hs
      go_wp2
      go_ret
      rw [hs.out, ← hxx.out]
      exact ⟨rfl, rfl⟩
theorem sum_n (A : Option Addr) (l : List Nat) (n c : Nat) (hl : Byt l) (w : World) (hn : n = l.length) (h : Bys w A l) (hlen : l.length ≤ 140737488355000) : Calls Try.prog 51 #[.slice A n c] w fun e w' => e = .returned (.int .u32 (sumL l : Int)) ∧ w' = w := by
  subst hn
  exact (sum_any A l c hl w h hlen).mono fun e w' ⟨h1, h2⟩ => ⟨h1, h2.symm⟩
end Go.Proofs.Ytlfhgmoafgjdcaa
