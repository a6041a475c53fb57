/- The document's number with which bytes begin, and with a sign, as contracts. -/
import Derived.Test.YtcchbbnlcilanaaWrC
namespace Go.Proofs.Ytcchbbnlcilanaa
open Go.ChangeShapes Go.WideShapes Go.ChangeAt Go.RowKit
set_option linter.unusedVariables false
set_option linter.unusedSimpArgs false

/-- the document's answer -/
def FirstIs (l : List Nat) (w : World) (e : Ending) (w' : World) : Prop := w = w' ∧ match firstW l with
  | some (n, k) => e = .returned (.tuple #[.int .u64 ((n : Nat) : Int), .int .i64 ((k : Nat) : Int)])
  | none => e = .returned (.tuple #[.int .u64 0, .int .i64 0])

theorem part_sum {i b acc : Nat} (hi : i < 10) (hb : b < 256) (h : ¬ (i = 9 ∧ 1 < b % 128)) (ha : acc < 128 ^ i) (ha2 : acc < 18446744073709551616) :
    IntKind.u64.wrap ((acc : Int) + IntKind.u64.wrap ((b : Int) % 128 * 2 ^ (7 * i))) = ((acc + b % 128 * 128 ^ i : Nat) : Int) := by
  obtain ⟨h1, h2, h3⟩ := part_or hi hb h ha ha2
  rw [(part_eq hi hb h).1, IntKind.wrap_u64]
  omega

set_option maxHeartbeats 8000000 in
set_option maxRecDepth 100000 in
theorem rfirst_any (A : Option Addr) (l : List Nat) (c : Nat) (hl : Byt l) (w : World) (h : Bys w A l) (hlen : l.length ≤ 140737488355000) : Calls Try.prog 53 #[.slice A l.length c] w (FirstIs l w) := by
  go_enter Try.func53, Try.ntmps53
  go_wp2_with fail
  go_loop [4, 5] (fun vn vi => ∃ (i acc : Nat), vn = .int .u64 (acc : Int) ∧ vi = .int .i64 (i : Int) ∧ i ≤ 10 ∧ acc < 128 ^ i ∧ acc < 18446744073709551616 ∧ scanW i acc (l.drop i) = firstW l ∧ i ≤ l.length) (fun _ vi => (10 - intOf vi).toNat)
  case atStart => exact ⟨0, 0, rfl, rfl, by omega, by omega, by omega, rfl, by omega⟩
  case round =>
    obtain ⟨i, acc, rfl, rfl, hi, ha1, ha2, hs, hil⟩ := hrel
    have i0 : (0 : Int) ≤ (i : Int) := by omega
    have hno : firstW l = none → FirstIs l w (.returned (.tuple #[.int .u64 0, .int .i64 0])) w := fun hf => ⟨rfl, by rw [hf]⟩
    replace hno := Lib.hid hno
    by_cases hlt : i < l.length
    · have hlt1 : decide (i < l.length) = true := by simp; omega
      by_cases hi10 : i < 10
      · have hi1 : decide ((i : Int) < 10) = true := by simp; omega
        have hi2 : (i : Int) < 10 := by omega
        have hli : (i : Int) < (l.length : Int) := by omega
        have hc := List.getElem?_eq_getElem hlt
        obtain ⟨ad, rfl, _, hcell⟩ := h.at_ hc
        have hb : l[i] < 256 := hl.get hc
        have hdr : l.drop i = l[i] :: l.drop (i + 1) := List.drop_eq_getElem_cons hlt
        generalize l[i] = b at *
        have hb1 : (b : Int) < 256 := by omega
        have hb0 : (0 : Int) ≤ (b : Int) := by omega
        have hd : (0 : Int) ≤ (b : Int) % 128 := by omega
        have hd1 : (b : Int) % 128 < 128 := by omega
        rw [hdr] at hs
        clear hdr hc
        by_cases hbad : (i = 9 ∧ 1 < b) ∨ (0 < i ∧ b = 0)
        · have hfin := Lib.hid (hno.out (by rw [← hs, scanW, if_pos (by omega)]))
          clear hs
          rcases hbad with ⟨h9, hb9⟩ | ⟨h9, hb9⟩
          · have f1 : ((i : Int) == 9) = true := by rw [beq_iff_eq]; omega
            have f2 : decide ((1 : Int) < (b : Int)) = true := by simp; omega
            have f3 : (1 : Int) < (b : Int) := by omega
            clear h9 hb9
            go_wp2
            go_ret2
            exact hfin.out
          · have f0 : ((i : Int) == 9) = true ∧ (1 : Int) < (b : Int) → False := fun ⟨_, h⟩ => by omega
            have f1 : decide (0 < i) = true := by simp; omega
            have f2 : (0 : Int) < (i : Int) := by omega
            have f3 : ((b : Int) == 0) = true := by rw [beq_iff_eq]; omega
            have f4 : decide ((1 : Int) < (b : Int)) = false := by simp; omega
            have f5 : ¬ (1 : Int) < (b : Int) := by omega
            by_cases h99 : i = 9
            · have f6 : ((i : Int) == 9) = true := by rw [beq_iff_eq]; omega
              clear h9 hb9 f0 h99
              go_wp2
              go_ret2
              exact hfin.out
            · have f6 : ((i : Int) == 9) = false := by rw [beq_eq_false_iff_ne]; omega
              clear h9 hb9 f0 h99
              go_wp2
              go_ret2
              exact hfin.out
        · have hbig : ¬ (i = 9 ∧ 1 < b % 128) := by omega
          have hsum := part_sum hi10 hb hbig ha1 ha2
          obtain ⟨_, ho2, ho3⟩ := part_or hi10 hb hbig ha1 ha2
          have g1 : (((i : Int) == 9) = false) ∨ (((i : Int) == 9) = true ∧ decide ((1 : Int) < (b : Int)) = false ∧ ¬ (1 : Int) < (b : Int)) := by
            by_cases h9 : i = 9
            · right
              exact ⟨by rw [beq_iff_eq]; omega, by simp; omega, by omega⟩
            · left
              rw [beq_eq_false_iff_ne]
              omega
          have g2 : (decide (0 < i) = false ∧ ¬ (0 : Int) < (i : Int)) ∨ (decide (0 < i) = true ∧ (0 : Int) < (i : Int) ∧ ((b : Int) == 0) = false) := by
            by_cases h9 : 0 < i
            · right
              exact ⟨by simp; omega, by omega, by rw [beq_eq_false_iff_ne]; omega⟩
            · left
              exact ⟨by simp; omega, by omega⟩
          replace ho3 := Lib.hid ho3
          replace ho2 := Lib.hid ho2
          replace hsum := Lib.hid hsum
          by_cases hb7 : b < 128
          · have hfin : FirstIs l w (.returned (.tuple #[.int .u64 ((acc + b % 128 * 128 ^ i : Nat) : Int), .int .i64 ((i + 1 : Nat) : Int)])) w := ⟨rfl, by rw [← hs, scanW, if_neg (by omega), if_pos hb7]⟩
            replace hfin := Lib.hid hfin
            have hb7' : (b : Int) < 128 := by omega
            clear hs hbad hbig hb7
            rcases g1 with g1 | ⟨g1, g1b, g1c⟩ <;> rcases g2 with ⟨g2, g2b⟩ | ⟨g2, g2b, g2c⟩
            all_goals
              go_wp2
              go_ret2
              rw [hsum.out]
              exact hfin.out
          · have hnx : scanW (i + 1) (acc + b % 128 * 128 ^ i) (l.drop (i + 1)) = firstW l := by rw [← hs, scanW, if_neg (by omega), if_neg hb7]
            replace hnx := Lib.hid hnx
            have hb7' : ¬ (b : Int) < 128 := by omega
            clear hs hbad hbig hb7
            rcases g1 with g1 | ⟨g1, g1b, g1c⟩ <;> rcases g2 with ⟨g2, g2b⟩ | ⟨g2, g2b, g2c⟩
            all_goals first
              | (exfalso; omega)
              | skip
            all_goals
              go_wp2
              go_round
              case rel => exact ⟨i + 1, acc + b % 128 * 128 ^ i, by rw [hsum.out], by go_num, by omega, ho3.out, ho2.out, hnx.out, by omega⟩
              case measure => simp [intOf]; omega
      · have hi1 : decide ((i : Int) < 10) = false := by simp; omega
        have hi2 : ¬ (i : Int) < 10 := by omega
        obtain rfl : i = 10 := by omega
        have hfin := Lib.hid (hno.out (by rw [← hs, scan10]))
        clear hs ha1
        go_wp2
        go_ret2
        exact hfin.out
    · have hlt1 : decide (i < l.length) = false := by simp; omega
      have hfin := Lib.hid (hno.out (by rw [← hs, List.drop_of_length_le (by omega)]; rfl))
      clear hs ha1
      obtain rfl : i = l.length := by omega
      go_wp2
      go_ret2
      exact hfin.out

theorem rfirst_n (A : Option Addr) (l : List Nat) (n c : Nat) (hl : Byt l) (w : World) (hn : n = l.length) (h : Bys w A l) (hlen : l.length ≤ 140737488355000) : Calls Try.prog 53 #[.slice A n c] w (FirstIs l w) := by
  subst hn
  exact rfirst_any A l c hl w h hlen

set_option maxHeartbeats 4000000 in
set_option maxRecDepth 100000 in
theorem rsigned_any (n : Nat) (hn : n < 18446744073709551616) (w : World) : Calls Try.prog 44 #[.int .u64 (n : Int)] w fun e w' => e = .returned (.int .i64 (zag n)) ∧ w = w' := by
  have n0 : (0 : Int) ≤ (n : Int) := by omega
  have n2 : (n : Int) / 2 ≤ 9223372036854775807 := by omega
  by_cases ho : n % 2 = 1
  · have ho' : ((n : Int) % 2 == 1) = true := by rw [beq_iff_eq]; omega
    have hz := Lib.hid (show zag n = -((n : Int) / 2) - 1 by unfold zag; rw [if_pos ho]; omega)
    clear ho hn
    go_enter Try.func44, Try.ntmps44
    go_wp2
    go_ret
    exact ⟨by rw [hz.out]; rfl, rfl⟩
  · have ho' : ((n : Int) % 2 == 1) = false := by rw [beq_eq_false_iff_ne]; omega
    have hz := Lib.hid (show zag n = (n : Int) / 2 by unfold zag; rw [if_neg ho]; omega)
    clear ho hn
    go_enter Try.func44, Try.ntmps44
    go_wp2
    go_ret
    exact ⟨by rw [hz.out]; rfl, rfl⟩
end Go.Proofs.Ytcchbbnlcilanaa
