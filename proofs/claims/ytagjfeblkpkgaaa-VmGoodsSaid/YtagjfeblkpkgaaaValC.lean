/- What Order of values answers in the document's package, as a contract, for every input. -/
import Derived.Test.YtagjfeblkpkgaaaValB
namespace Go.Proofs.Ytagjfeblkpkgaaa
open Go.ChangeShapes Go.WideShapes Go.ChangeAt Go.RowKit Go.Fl

theorem clB_small (k : Int) (b : Nat) (h1 : clK k b ≠ 1) (h4 : clK k b ≠ 4) : clB k b ≤ 63 := by
  unfold clB
  unfold clK at h1 h4
  (repeat' split at h1) <;> (repeat' split) <;> omega

/-- the order of two values, as the document reckons it -/
theorem vordP_doc (k l : Int) (b c : Nat) : vordP k b l c = if clK k b = 4 ∧ clK l c = 4 then ordP (clB k b) (clB l c) else if clK k b = clK l c then cmpP (wrap64 (clB k b)) (wrap64 (clB l c)) else cmpP (clK k b) (clK l c) := by
  unfold vordP
  by_cases e : clK k b = clK l c
  · rw [if_neg (by simpa using e)]
    by_cases k1 : clK k b = 1
    · rw [if_pos k1, if_neg (by omega), if_pos e]
    · by_cases k4 : clK k b = 4
      · rw [if_neg k1, if_pos k4, if_pos ⟨k4, by omega⟩]
      · rw [if_neg k1, if_neg k4, if_neg (by omega), if_pos e]
        have a := clB_small k b k1 k4
        have d := clB_small l c (by omega) (by omega)
        rw [show wrap64 (clB k b : Int) = (clB k b : Int) by unfold wrap64; omega, show wrap64 (clB l c : Int) = (clB l c : Int) by unfold wrap64; omega]
  · rw [if_pos e, if_neg (by omega), if_neg e]

set_option maxHeartbeats 1000000 in
theorem rorder_v (k l : Int) (b c : Nat) (w : World) (hb : b < 18446744073709551616) (hc : c < 18446744073709551616) :
    Calls Try.prog 55 #[.agg #[.int .i64 k, .int .u64 (b : Int)], .agg #[.int .i64 l, .int .u64 (c : Int)]] w fun e w' => e = .returned (.int .i64 (vordP k b l c)) ∧ Below w.heap.size w w' := by
  go_enter Try.func55, Try.ntmps55
  go_wp2
  go_upto_region 2 with (fail)
  go_cut [] from 7 to 10 (fun w' => w'.cell? ⟨w.heap.size, 0, none⟩ = some (.int .i64 (clK k b)) ∧ w'.cell? ⟨w.heap.size, 1, none⟩ = some (.int .u64 ((clB k b : Nat) : Int)) ∧ w'.cell? ⟨w.heap.size + 1, 0, none⟩ = some (.int .i64 (clK l c)) ∧ w'.cell? ⟨w.heap.size + 1, 1, none⟩ = some (.int .u64 ((clB l c : Nat) : Int)) ∧ Below w.heap.size w w')
  case first =>
    go_region_with (go_at_call 13; refine (rclean_any _ _ _ (by assumption)).mono ?_; rintro e w1 ⟨rfl, hb1⟩; obtain ⟨p0, p1, p2, p3⟩ := later2 (g := w.heap.size) (u := .int .i64 k) (v := .int .u64 (b : Int)) hb1 (by first | exact ⟨by assumption, by assumption, by assumption, by assumption⟩ | simp); obtain ⟨q0, q1, q2, q3⟩ := later2 (g := w.heap.size + 1) (u := .int .i64 l) (v := .int .u64 (c : Int)) hb1 (by first | exact ⟨by assumption, by assumption, by assumption, by assumption⟩ | simp); have hB := below_more (w0 := w) (by first | exact (below2 _ _ _).drew | assumption) hb1)
    all_goals (go_wp2_with fail; go_meet; obtain ⟨r0, r1, r2, r3⟩ := four_cells (.int .i64 (clK k b)) (.int .u64 ((clB k b : Nat) : Int)) (.int .i64 (clK l c)) (.int .u64 ((clB l c : Nat) : Int)) p0 p1 q0 q1; exact ⟨r0, r1, r2, r3, (((hB.setCell (by simp) _).setCell (by simp) _).setCell (by simp) _).setCell (by simp) _⟩)
  case rest =>
    obtain ⟨r0, r1, r2, r3, hB⟩ := hcut
    have V := Lib.hid (vordP_doc k l b c)
    have l1 := clB_lt k hb
    have l2 := clB_lt l hc
    generalize clK k b = x at *
    generalize clK l c = y at *
    generalize clB k b = p at *
    generalize clB l c = q at *
    by_cases k4 : x = 4 ∧ y = 4
    · obtain ⟨rfl, rfl⟩ := k4
      have E := Lib.hid (show ordP p q = vordP k b l c by rw [V.out]; simp)
      clear V
      go_wp2_with (go_at_call 70; refine (rorder_any _ _ _ l1 l2).mono ?_; rintro e w' ⟨rfl, rfl⟩)
      go_ret
      exact ⟨ret_int E.out, hB⟩
    · have E := Lib.hid (show vordP k b l c = cmpP (if x = y then wrap64 p else x) (if x = y then wrap64 q else y) by rw [V.out, if_neg k4]; split <;> rfl)
      clear V
      by_cases e : x = y
      · subst e
        have f4 : (x == 4) = false := by simp; omega
        have e1 : (x != x) = false := by simp
        go_wp2_with (fail)
        go_quiet (fail)
        go_wp2
        all_goals go_ret
        all_goals refine ⟨ret_int ?_, below_drewN hB _⟩
        all_goals rw [E.out]
        all_goals unfold cmpP
        all_goals simp only [if_true]
        all_goals ((repeat' split) <;> omega)
      · have e1 : (x != y) = true := by simpa using e
        have k4' : x = 4 → (y == 4) = false := by intro h; simp; omega
        by_cases x4 : x = 4
        · subst x4
          have y4 := k4' rfl
          clear k4'
          go_wp2_with (fail)
          go_quiet (fail)
          go_wp2_with (fail)
          go_quiet (fail)
          go_wp2
          all_goals go_ret
          all_goals refine ⟨ret_int ?_, below_drewN hB _⟩
          all_goals rw [E.out]
          all_goals unfold cmpP
          all_goals simp only [if_neg e]
          all_goals ((repeat' split) <;> omega)
        · have x4' : (x == 4) = false := by simpa using x4
          clear k4'
          go_wp2_with (fail)
          go_quiet (fail)
          go_wp2_with (fail)
          go_quiet (fail)
          go_wp2
          all_goals go_ret
          all_goals refine ⟨ret_int ?_, below_drewN hB _⟩
          all_goals rw [E.out]
          all_goals unfold cmpP
          all_goals simp only [if_neg e]
          all_goals ((repeat' split) <;> omega)
end Go.Proofs.Ytagjfeblkpkgaaa
