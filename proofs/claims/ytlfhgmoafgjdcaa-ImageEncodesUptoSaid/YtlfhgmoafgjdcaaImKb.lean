/- The statements' count of what a table has (many): it answers, whatever it is, and changes nothing. -/
import Derived.Test.YtlfhgmoafgjdcaaImK
import Derived.Deep.CutRange
import Derived.Deep.DeepCutAuto
import Derived.StillTailTactics
namespace Go.Proofs.Ytlfhgmoafgjdcaa
open Go.ChangeShapes Go.WideShapes Go.ChangeAt Go.RowKit
set_option linter.unusedVariables false
set_option linter.unusedSimpArgs false
set_option maxHeartbeats 8000000 in
set_option maxRecDepth 100000 in
theorem many_any (x : TTable) (z0 : Int) (A1 : Option Addr) (n1 c1 : Nat) (A2 : Option Addr) (n2 c2 : Nat) (z3 z4 z5 : Int) (A6 : Option Addr) (n6 c6 : Nat) (A7 : Option Addr) (n7 c7 : Nat) (w : World)
    (hx : pTable (w.heap.size + 1) (w.alloc (.cells #[.int .i64 z0, .slice A1 n1 c1, .slice A2 n2 c2, .int .i64 z3, .int .i64 z4, .int .i64 z5, .slice A6 n6 c6, .slice A7 n7 c7] 27)) w.heap.size 0 x) :
    Calls Try.prog 7 #[.agg #[.int .i64 z0, .slice A1 n1 c1, .slice A2 n2 c2, .int .i64 z3, .int .i64 z4, .int .i64 z5, .slice A6 n6 c6, .slice A7 n7 c7]] w fun e w' => (∃ q, e = .returned (.bool q)) ∧ Below w.heap.size w w' := by
  replace hx := Lib.hid hx
  go_enter Try.func7, Try.ntmps7
  go_upto_region 1 with (fail)
  generalize hw1 : w.alloc (.cells #[.int .i64 z0, .slice A1 n1 c1, .slice A2 n2 c2, .int .i64 z3, .int .i64 z4, .int .i64 z5, .slice A6 n6 c6, .slice A7 n7 c7] 27) = w1 at *
  have hbase : Below w.heap.size w w1 := by rw [← hw1]; exact m1 w _
  have hs1 : w1.heap.size = w.heap.size + 1 := by rw [← hw1]; simp
  clear hw1
  obtain ⟨_, ⟨B1, d1, t1, _, _⟩, ⟨B2, d2, t2, q2, g2⟩, _, _, _, ⟨B6, d6, t6, q6, g6⟩, ⟨B7, d7, t7, q7, g7⟩⟩ := hx.out
  clear hx
  rw [Nat.zero_add] at t1 t2 t6 t7
  have hB0 := Lib.hid (Below.refl (w.heap.size + 1) w1)
  replace hbase := Lib.hid hbase
  generalize x.1.2.1 = l1 at *
  generalize x.1.2.2.1 = l2 at *
  generalize x.2.1 = l6 at *
  generalize x.2.2 = l7 at *
  have hlt := Nat.lt_succ_self w.heap.size
  generalize hG : w.heap.size = G at *
  go_wp2_with fail
  go_loopw [3, 30] (fun n i wr => ∃ (k : Nat) (m : Int), k ≤ l2.length ∧ i = .int .i64 (k : Int) ∧ n = .int .i64 m ∧ Hid (Below (G + 1) w1 wr)) (fun n i _ => l2.length - (intOf i).toNat)
  case atStart => exact ⟨0, _, Nat.zero_le _, rfl, rfl, hB0⟩
  case round =>
    obtain ⟨k, m, hk, rfl, rfl, hB⟩ := hrel
    have k0 : (0 : Int) ≤ (k : Int) := by omega
    by_cases hlt2 : k < l2.length
    · have k1 : (k : Int) < (l2.length : Int) := by omega
      obtain ⟨b, off, rfl, hbl, hall⟩ := q2 (by omega)
      obtain ⟨E, ec, e1, _, _⟩ := hall k _ (List.getElem?_eq_getElem hlt2)
      generalize l2[k] = y at *
      rw [Nat.mul_one] at e1
      have e1 := cellB hB.out hbl e1
      clear hall
      go_wp2
      all_goals (go_roundw; (case rel => exact ⟨k + 1, _, by omega, by go_num, rfl, hB⟩); (case measure => simp [intOf]; omega))
    · obtain rfl : k = l2.length := by omega
      clear q2
      have t6 := cellB hB.out hlt t6
      have t7 := cellB hB.out hlt t7
      have hBx := hB
      clear k0 hk
      go_wp2_with fail
      clear hBx
      go_loopw [3, 43] (fun n i wr => ∃ (k : Nat) (m : Int), k ≤ l6.length ∧ i = .int .i64 (k : Int) ∧ n = .int .i64 m ∧ Hid (Below (G + 1) w1 wr)) (fun n i _ => l6.length - (intOf i).toNat)
      case atStart => exact ⟨0, _, Nat.zero_le _, rfl, rfl, hB⟩
      case round =>
        clear hB t6 t7
        obtain ⟨k, m, hk, rfl, rfl, hB⟩ := hrel
        have k0 : (0 : Int) ≤ (k : Int) := by omega
        by_cases hlt6 : k < l6.length
        · have k1 : (k : Int) < (l6.length : Int) := by omega
          obtain ⟨b, off, rfl, hbl, hall⟩ := q6 (by omega)
          obtain ⟨r0, r1, r2, r3, ⟨E4, f4, r4, _, _⟩, r5, r6, ⟨E7, f7, r7, s7, g7'⟩⟩ := hall k _ (List.getElem?_eq_getElem hlt6)
          generalize l6[k] = y at *
          have r0 := cellB hB.out hbl r0
          have r1 := cellB hB.out hbl r1
          have r2 := cellB hB.out hbl r2
          have r3 := cellB hB.out hbl r3
          have r4 := cellB hB.out hbl r4
          have r5 := cellB hB.out hbl r5
          have r6 := cellB hB.out hbl r6
          have r7 := cellB hB.out hbl r7
          generalize y.1.1 = y0 at *
          generalize y.1.2.1 = y1 at *
          generalize y.1.2.2.1 = y2 at *
          generalize y.1.2.2.2.1 = y3 at *
          generalize y.1.2.2.2.2 = y4 at *
          generalize y.2.1 = y5 at *
          generalize y.2.2.1 = y6 at *
          generalize y.2.2.2 = y7 at *
          have hwr := hB.out.size
          have hB2 : Below (G + 1) w1 (wr.alloc (.cells #[.int .i64 y0, .int .i64 y1, .bool y2, .int .i64 y3, .slice E4 y4.length f4, .int .i64 y5, .int .i64 y6, .slice E7 y7.length f7] 53)) := hB.out.alloc (by omega) _
          replace hB2 := Lib.hid hB2
          clear hall
          go_wp2
          all_goals
            clear r0 r1 r2 r3 r4 r5 r6 r7
            generalize wr.alloc (.cells #[.int .i64 y0, .int .i64 y1, .bool y2, .int .i64 y3, .slice E4 y4.length f4, .int .i64 y5, .int .i64 y6, .slice E7 y7.length f7] 53) = wb at *
            go_loopw [3, 61] (fun n i wr => ∃ (j : Nat) (m : Int), j ≤ y7.length ∧ i = .int .i64 (j : Int) ∧ n = .int .i64 m ∧ Hid (Below (G + 1) w1 wr)) (fun n i _ => y7.length - (intOf i).toNat)
            case atStart => exact ⟨0, _, Nat.zero_le _, rfl, rfl, hB2⟩
            case round =>
              clear hB hB2
              obtain ⟨j, mj, hj, rfl, rfl, hB⟩ := hrel
              have j0 : (0 : Int) ≤ (j : Int) := by omega
              by_cases hlt7 : j < y7.length
              · have j1 : (j : Int) < (y7.length : Int) := by omega
                obtain ⟨b7, off7, rfl, hbl7, hall7⟩ := s7 (by omega)
                obtain ⟨r0, r1, ⟨E2, f2, r2, _, _⟩⟩ := hall7 j _ (List.getElem?_eq_getElem hlt7)
                generalize y7[j] = v at *
                have r0 := cellB hB.out hbl7 r0
                have r1 := cellB hB.out hbl7 r1
                have r2 := cellB hB.out hbl7 r2
                generalize v.1 = v0 at *
                generalize v.2.1 = v1 at *
                generalize v.2.2 = v2 at *
                have hwi := hB.out.size
                have hB3 : Below (G + 1) w1 (wr.alloc (.cells #[.int .i64 v0, .int .i64 v1, .slice E2 v2.length f2] 55)) := hB.out.alloc (by omega) _
                replace hB3 := Lib.hid hB3
                clear hall7
                go_wp2
                all_goals (go_roundw; (case rel => exact ⟨j + 1, _, by omega, by go_num, rfl, hB3⟩); (case measure => simp [intOf]; omega))
              · obtain rfl : j = y7.length := by omega
                go_wp2
                go_roundw
                case rel => exact ⟨k + 1, _, by omega, by go_num, rfl, hB⟩
                case measure => simp [intOf]; omega
        · obtain rfl : k = l6.length := by omega
          clear q6
          have t7 := cellB hB.out hlt t7
          have hBx := hB
          clear k0 hk
          go_wp2_with fail
          clear hBx
          go_loopw [3, 76] (fun n i wr => ∃ (k : Nat) (m : Int), k ≤ l7.length ∧ i = .int .i64 (k : Int) ∧ n = .int .i64 m ∧ Hid (Below (G + 1) w1 wr)) (fun n i _ => l7.length - (intOf i).toNat)
          case atStart => exact ⟨0, _, Nat.zero_le _, rfl, rfl, hB⟩
          case round =>
            clear hB t7
            obtain ⟨k, m, hk, rfl, rfl, hB⟩ := hrel
            have k0 : (0 : Int) ≤ (k : Int) := by omega
            by_cases hlt7 : k < l7.length
            · have k1 : (k : Int) < (l7.length : Int) := by omega
              obtain ⟨b, off, rfl, hbl, hall⟩ := q7 (by omega)
              obtain ⟨r0, r1, ⟨E2, f2, r2, _, _⟩, ⟨E3, f3, r3, _, _⟩, ⟨E4, f4, r4, _, _⟩⟩ := hall k _ (List.getElem?_eq_getElem hlt7)
              generalize l7[k] = y at *
              have r0 := cellB hB.out hbl r0
              have r1 := cellB hB.out hbl r1
              have r2 := cellB hB.out hbl r2
              have r3 := cellB hB.out hbl r3
              have r4 := cellB hB.out hbl r4
              generalize y.1 = y0 at *
              generalize y.2.1 = y1 at *
              generalize y.2.2.1 = y2 at *
              generalize y.2.2.2.1 = y3 at *
              generalize y.2.2.2.2 = y4 at *
              have hwi := hB.out.size
              have hB3 : Below (G + 1) w1 (wr.alloc (.cells #[.int .i64 y0, .int .i64 y1, .slice E2 y2.length f2, .slice E3 y3.length f3, .slice E4 y4.length f4] 47)) := hB.out.alloc (by omega) _
              replace hB3 := Lib.hid hB3
              clear hall
              go_wp2
              all_goals (go_roundw; (case rel => exact ⟨k + 1, _, by omega, by go_num, rfl, hB3⟩); (case measure => simp [intOf]; omega))
            · obtain rfl : k = l7.length := by omega
              have hfin : Below G w wr := (hbase.out).trans (hB.out.mono (Nat.le_succ G))
              replace hfin := Lib.hid hfin
              clear hB hbase
              go_wp2
              all_goals (go_ret; exact ⟨⟨_, rfl⟩, by rw [hG]; exact hfin.out⟩)
end Go.Proofs.Ytlfhgmoafgjdcaa
