/- Which matches are well made: the program's Good, as a contract. -/
import Derived.Test.YtmebbhlebehliaaDoorOrdB
namespace Go.Proofs.YtmebbhlebehliaaDoor
open Go.ChangeShapes Go.WideShapes Go.ChangeAt Go.RowKit
set_option linter.unusedVariables false
set_option linter.unusedSimpArgs false

/-- the last of rising numbers, all behind another one -/
def scL : Int → List Int → Option Int
  | last, [] => some last
  | last, x :: r => if x ≤ last then none else scL x r
def scR : Int → List (List Int) → Option Int
  | last, [] => some last
  | last, l :: r => if l = [] then none else (scL last l).bind fun z => scR z r
def goodP (st br : Int) (bs : List (List Int)) (n : Int) : Bool :=
  match scR (-1) bs with
  | none => false
  | some last => decide (0 ≤ br) && decide (0 < bs.length) && decide (last < n) && decide (last ≤ st) && decide (st ≤ n)
theorem good_none {st br : Int} {bs : List (List Int)} {n : Int} (h : scR (-1) bs = none) : goodP st br bs n = false := by unfold goodP; rw [h]
theorem good_some {st br : Int} {bs : List (List Int)} {n : Int} (last : Int) (h : scR (-1) bs = some last) : goodP st br bs n = (decide (0 ≤ br) && decide (0 < bs.length) && decide (last < n) && decide (last ≤ st) && decide (st ≤ n)) := by unfold goodP; rw [h]

set_option maxHeartbeats 8000000 in
set_option maxRecDepth 100000 in
theorem good_any (A : Option Addr) (cap : Nat) (st br : Int) (bs : List (List Int)) (n : Int) (w : World) (hA : RowsAt w A bs) (hx : bs.length ≤ 9223372036854775806) (hx2 : ∀ l ∈ bs, l.length ≤ 9223372036854775806) :
    Calls Tryd.prog 9 #[matV st br A bs.length cap, .int .i64 n] w fun e w' => e = .returned (.bool (goodP st br bs n)) ∧ Below w.heap.size w w' := by
  have bu := m1 w (matO st br A bs.length cap)
  have hA1 := Lib.hid (hA.later bu)
  have c0 : (w.alloc (matO st br A bs.length cap)).cell? ⟨w.heap.size, 0, none⟩ = some (.int .i64 st) := by simp [go_sem]
  have c1 : (w.alloc (matO st br A bs.length cap)).cell? ⟨w.heap.size, 1, none⟩ = some (.int .i64 br) := by simp [go_sem]
  have c2 : (w.alloc (matO st br A bs.length cap)).cell? ⟨w.heap.size, 2, none⟩ = some (.slice A bs.length cap) := by simp [go_sem]
  have g0 := @good_none st br bs n
  have g1 := @good_some st br bs n
  generalize goodP st br bs n = G at *
  replace g0 := Lib.hid g0
  replace g1 := Lib.hid g1
  replace hx2 := Lib.hid hx2
  clear hA
  go_enter Tryd.func9, Tryd.ntmps9
  go_wp2_with fail
  generalize w.alloc (matO st br A bs.length cap) = u at *
  go_loopw [5, 13] (fun v i wr => ∃ (k : Nat) (last : Int), k ≤ bs.length ∧ i = .int .i64 (k : Int) ∧ v = .int .i64 last ∧ scR (-1) bs = scR last (bs.drop k) ∧ u = wr) (fun _ i _ => bs.length - (intOf i).toNat)
  case atStart => exact ⟨0, -1, Nat.zero_le _, rfl, rfl, rfl, rfl⟩
  case round =>
    obtain ⟨k, last, hk, rfl, rfl, ho, rfl⟩ := hrel
    have k0 : (0 : Int) ≤ (k : Int) := by omega
    by_cases hlt : k < bs.length
    · have k1 : (k : Int) < (bs.length : Int) := by omega
      obtain ⟨b, off, rfl, hc⟩ := hA1.out (by omega)
      obtain ⟨uu, r0, A2, c9, rfl, hI⟩ := hc k _ (List.getElem?_eq_getElem hlt)
      have hl := hx2.out _ (List.getElem_mem hlt)
      clear hc
      rw [drop_at hlt] at ho
      simp only [scR] at ho
      generalize bs[k] = xs at *
      replace hI := Lib.hid hI
      by_cases hz : xs = []
      · rw [if_pos hz] at ho
        have hG := g0.out ho
        subst hz hG
        simp only [List.length_nil] at r0
        replace ho := Lib.hid ho
        go_wp2_with fail
        go_ret
        exact ⟨rfl, bu⟩
      · rw [if_neg hz] at ho
        have hp : 0 < xs.length := List.length_pos_iff.2 hz
        have hp1 : ((xs.length : Int) == 0) = false := by simp; omega
        replace ho := Lib.hid ho
        replace hz := Lib.hid hz
        go_wp2_with fail
        go_loopw [5, 22] (fun v i wr => ∃ (j : Nat) (l2 : Int), j ≤ xs.length ∧ i = .int .i64 (j : Int) ∧ v = .int .i64 l2 ∧ scL last xs = scL l2 (xs.drop j) ∧ u = wr) (fun _ i _ => xs.length - (intOf i).toNat)
        case atStart => exact ⟨0, last, Nat.zero_le _, rfl, rfl, rfl, rfl⟩
        case round =>
          obtain ⟨j, l2, hj, rfl, rfl, ho2, rfl⟩ := hrel
          have j0 : (0 : Int) ≤ (j : Int) := by omega
          by_cases hjl : j < xs.length
          · have j1 : (j : Int) < (xs.length : Int) := by omega
            obtain ⟨b2, off2, rfl, hc2⟩ := hI.out (by omega)
            have r1 := hc2 j _ (List.getElem?_eq_getElem hjl)
            clear hc2
            rw [drop_at hjl] at ho2
            simp only [scL] at ho2
            generalize xs[j] = x at *
            by_cases hx0 : x ≤ l2
            · rw [if_pos hx0] at ho2
              have hG := g0.out (by rw [ho.out, ho2]; rfl)
              subst hG
              replace ho2 := Lib.hid ho2
              go_wp2_with fail
              go_ret
              exact ⟨rfl, bu⟩
            · rw [if_neg hx0] at ho2
              replace ho2 := Lib.hid ho2
              go_wp2_with fail
              go_roundw
              case rel => exact ⟨j + 1, x, by omega, by go_num, rfl, ho2.out, by first | rfl | trivial⟩
              case measure => simp [intOf]; omega
          · have hje : j = xs.length := by omega
            have j1 : ¬ (j : Int) < (xs.length : Int) := by omega
            rw [drop_end hjl] at ho2
            simp only [scL] at ho2
            subst hje
            replace ho2 := Lib.hid ho2
            go_wp2_with fail
            go_roundw
            case rel => exact ⟨k + 1, l2, by omega, by go_num, rfl, by rw [ho.out, ho2.out]; rfl, by first | rfl | trivial⟩
            case measure => simp [intOf]; omega
    · have hke : k = bs.length := by omega
      have k1 : ¬ (k : Int) < (bs.length : Int) := by omega
      rw [drop_end hlt] at ho
      simp only [scR] at ho
      have hG := g1.out last ho
      subst hke
      replace ho := Lib.hid ho
      replace hG := Lib.hid hG
      clear hlt
      go_wp2
      all_goals go_ret
      all_goals refine ⟨sret_bool ?_, bu⟩
      all_goals (rw [hG.out]; first | (simp_all; done) | (simp_all; omega))
end Go.Proofs.YtmebbhlebehliaaDoor
