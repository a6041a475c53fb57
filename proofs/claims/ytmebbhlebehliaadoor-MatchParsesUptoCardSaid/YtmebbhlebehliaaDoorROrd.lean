/- The document's order of matches, as a contract. -/
import Derived.Test.YtmebbhlebehliaaDoorCmpO
import Derived.Deep.QuietTactic
import Derived.BigQuiet
import Derived.Deep.CutRange
namespace Go.Proofs.YtmebbhlebehliaaDoor
open Go.ChangeShapes Go.WideShapes Go.ChangeAt Go.RowKit
set_option linter.unusedVariables false
set_option linter.unusedSimpArgs false

theorem rnumber_any (x y : Int) (w : World) :
    Calls Tryd.prog 15 #[.int .i64 x, .int .i64 y] w fun e w' => e = .returned (.int .i64 (Lib.compareInt x y)) ∧ w = w' := by
  go_enter Tryd.func15, Tryd.ntmps15
  go_wp2
  all_goals go_ret
  all_goals refine ⟨sret_int ?_, rfl⟩
  all_goals unfold Lib.compareInt
  all_goals (repeat' split) <;> first | rfl | omega
theorem cL_end {xs ys : List Int} {k : Nat} (h1 : k ≤ xs.length) (h2 : k ≤ ys.length) (h : k = xs.length ∨ k = ys.length) : cL (xs.drop k) (ys.drop k) = Lib.compareInt (xs.length : Int) (ys.length : Int) := by
  by_cases a : k < xs.length
  · have b : ¬ k < ys.length := by omega
    rw [drop_at a, drop_end b]
    simp only [cL]
    unfold Lib.compareInt
    rw [if_neg (by omega), if_pos (by omega)]
  · rw [drop_end a]
    by_cases b : k < ys.length
    · rw [drop_at b]
      simp only [cL]
      unfold Lib.compareInt
      rw [if_pos (by omega)]
    · rw [drop_end b]
      simp only [cL]
      unfold Lib.compareInt
      rw [if_neg (by omega), if_neg (by omega)]
theorem cR_end {xs ys : List (List Int)} {k : Nat} (h1 : k ≤ xs.length) (h2 : k ≤ ys.length) (h : k = xs.length ∨ k = ys.length) : cR (xs.drop k) (ys.drop k) = Lib.compareInt (xs.length : Int) (ys.length : Int) := by
  by_cases a : k < xs.length
  · have b : ¬ k < ys.length := by omega
    rw [drop_at a, drop_end b]
    simp only [cR]
    unfold Lib.compareInt
    rw [if_neg (by omega), if_pos (by omega)]
  · rw [drop_end a]
    by_cases b : k < ys.length
    · rw [drop_at b]
      simp only [cR]
      unfold Lib.compareInt
      rw [if_pos (by omega)]
    · rw [drop_end b]
      simp only [cR]
      unfold Lib.compareInt
      rw [if_neg (by omega), if_neg (by omega)]

theorem bdrewN9 {B : Nat} {a w : World} (h : Below B a w) (n : Nat) : Below B a (w.drewN n) := ⟨h.os, h.tape, h.output, h.size, h.block⟩
/-- so far: nothing differs, or the answer is there -/
def SoFar (c R : Int) (rest : Int) : Prop := (c = 0 ∧ R = rest) ∨ (c ≠ 0 ∧ R = c)
set_option maxHeartbeats 8000000 in
set_option maxRecDepth 100000 in
theorem rorder_any (A B : Option Addr) (ca cb : Nat) (s1 b1 s2 b2 : Int) (p1 p2 : List (List Int)) (w : World) (hA : RowsAt w A p1) (hB : RowsAt w B p2) (hx : p1.length ≤ 9223372036854775806) (hy : p2.length ≤ 9223372036854775806) (hx2 : ∀ l ∈ p1, l.length ≤ 9223372036854775806) (hy2 : ∀ l ∈ p2, l.length ≤ 9223372036854775806) :
    Calls Tryd.prog 6 #[matV s1 b1 A p1.length ca, matV s2 b2 B p2.length cb] w fun e w' => e = .returned (.int .i64 (ordM s1 b1 p1 s2 b2 p2)) ∧ Below w.heap.size w w' := by
  obtain ⟨u, hu⟩ : ∃ u, (w.alloc (matO s1 b1 A p1.length ca)).alloc (matO s2 b2 B p2.length cb) = u := ⟨_, rfl⟩
  have bu : Below w.heap.size w u := by rw [← hu]; exact m2 w _ _
  have c0 : u.cell? ⟨w.heap.size, 0, none⟩ = some (.int .i64 s1) := by rw [← hu]; simp [go_sem]
  have c1 : u.cell? ⟨w.heap.size, 1, none⟩ = some (.int .i64 b1) := by rw [← hu]; simp [go_sem]
  have c2 : u.cell? ⟨w.heap.size, 2, none⟩ = some (.slice A p1.length ca) := by rw [← hu]; simp [go_sem]
  have c3 : u.cell? ⟨w.heap.size + 1, 0, none⟩ = some (.int .i64 s2) := by rw [← hu]; simp [go_sem]
  have c4 : u.cell? ⟨w.heap.size + 1, 1, none⟩ = some (.int .i64 b2) := by rw [← hu]; simp [go_sem]
  have c5 : u.cell? ⟨w.heap.size + 1, 2, none⟩ = some (.slice B p2.length cb) := by rw [← hu]; simp [go_sem]
  have hA1 := Lib.hid (hA.later bu)
  have hB1 := Lib.hid (hB.later bu)
  have hR : ordM s1 b1 p1 s2 b2 p2 = if Lib.compareInt s1 s2 = 0 then (if Lib.compareInt b1 b2 = 0 then cR p1 p2 else Lib.compareInt b1 b2) else Lib.compareInt s1 s2 := ordM_two _ _ _ _ _ _
  generalize ordM s1 b1 p1 s2 b2 p2 = R at *
  have N1 := Lib.hid (rnumber_any s1 s2)
  have N2 := Lib.hid (rnumber_any b1 b2)
  generalize Lib.compareInt s1 s2 = x1 at *
  generalize Lib.compareInt b1 b2 = x2 at *
  replace hx2 := Lib.hid hx2
  replace hy2 := Lib.hid hy2
  clear hA hB
  go_enter Tryd.func6, Tryd.ntmps6
  replace hR := Lib.hid hR
  go_upto_if 16 with (go_at_call 15; refine (N1.out _).mono ?_; rintro e w1 ⟨rfl, rfl⟩)
  go_cut [5] from 17 to 22 (fun v w' => ∃ c, v = .int .i64 c ∧ SoFar c R (cR p1 p2) ∧ u = w')
  case first =>
    by_cases hx1 : x1 = 0
    · have hs : SoFar x2 R (cR p1 p2) := by
        have h := hR.out
        rw [if_pos hx1] at h
        by_cases h2 : x2 = 0
        · rw [if_pos h2] at h; exact .inl ⟨h2, h⟩
        · rw [if_neg h2] at h; exact .inr ⟨h2, h⟩
      replace hs := Lib.hid hs
      subst hx1
      go_wp2_with (go_at_call 15; refine (N2.out _).mono ?_; rintro e w1 ⟨rfl, rfl⟩)
      go_meet
      exact ⟨x2, rfl, hs.out, rfl⟩
    · have hx1b : (x1 == 0) = false := by simpa using hx1
      have hs : SoFar x1 R (cR p1 p2) := by
        have h := hR.out
        rw [if_neg hx1] at h
        exact .inr ⟨hx1, h⟩
      replace hs := Lib.hid hs
      go_wp2_with fail
      go_meet
      exact ⟨x1, rfl, hs.out, rfl⟩
  case rest =>
    obtain ⟨c, rfl, hs, rfl⟩ := hcut
    have hs0 := Lib.hid hs
    clear hs hu N1 N2 hR c0 c1 c3 c4
    go_wp2_with fail
    go_loopw [5, 6] (fun v i wr => ∃ (k : Nat) (c : Int), k ≤ p1.length ∧ k ≤ p2.length ∧ i = .int .i64 (k : Int) ∧ v = .int .i64 c ∧ SoFar c R (cR (p1.drop k) (p2.drop k)) ∧ Below u.heap.size u wr) (fun _ i _ => p1.length - (intOf i).toNat)
    case atStart => exact ⟨0, c, Nat.zero_le _, Nat.zero_le _, rfl, rfl, hs0.out, Below.refl _ _⟩
    case round =>
      clear hs0
      obtain ⟨k, c, hk, hk2, rfl, rfl, hs, hB⟩ := hrel
      have k0 : (0 : Int) ≤ (k : Int) := by omega
      have e2 := cell_later hB c2
      have e5 := cell_later hB c5
      by_cases hc : c = 0
      · subst hc
        have hRk : R = cR (p1.drop k) (p2.drop k) := by rcases hs with ⟨_, h⟩ | ⟨h, _⟩ <;> first | exact h | exact absurd rfl h
        clear hs
        by_cases hlt : k < p1.length
        · have k1 : (k : Int) < (p1.length : Int) := by omega
          by_cases hlt2 : k < p2.length
          · have k2 : (k : Int) < (p2.length : Int) := by omega
            obtain ⟨ba, oa, rfl, hca⟩ := hA1.out (by omega)
            obtain ⟨ua, r0, A2, ca2, rfl, hI1⟩ := hca k _ (List.getElem?_eq_getElem hlt)
            obtain ⟨bb, ob, rfl, hcb⟩ := hB1.out (by omega)
            obtain ⟨ub, r1, B2, cb2, rfl, hI2⟩ := hcb k _ (List.getElem?_eq_getElem hlt2)
            have r0 := cell_later hB r0
            have r1 := cell_later hB r1
            have m1 := hx2.out _ (List.getElem_mem hlt)
            have m2 := hy2.out _ (List.getElem_mem hlt2)
            clear hca hcb
            rw [drop_at hlt, drop_at hlt2] at hRk
            simp only [cR] at hRk
            generalize p1[k] = xs at *
            generalize p2[k] = ys at *
            have hnext : SoFar (cL xs ys) R (cR (p1.drop (k + 1)) (p2.drop (k + 1))) := by
              by_cases h : cL xs ys = 0
              · rw [if_pos h] at hRk; exact .inl ⟨h, hRk⟩
              · rw [if_neg h] at hRk; exact .inr ⟨h, hRk⟩
            replace hnext := Lib.hid hnext
            replace hI1 := Lib.hid hI1
            replace hI2 := Lib.hid hI2
            clear hRk
            go_wp2_with fail
            go_quiet (fail)
            have hBq := bdrewN9 hB nq
            generalize wr.drewN nq = wq at *
            go_wp2_with fail
            go_loopw [5, 9] (fun v i wr => ∃ (j : Nat) (c2 : Int), j ≤ xs.length ∧ j ≤ ys.length ∧ i = .int .i64 (j : Int) ∧ v = .int .i64 c2 ∧ SoFar c2 (cL xs ys) (cL (xs.drop j) (ys.drop j)) ∧ Below u.heap.size u wr) (fun _ i _ => xs.length - (intOf i).toNat)
            case atStart => exact ⟨0, 0, Nat.zero_le _, Nat.zero_le _, rfl, rfl, .inl ⟨rfl, rfl⟩, hBq⟩
            case round =>
              clear hBq e2 e5 r0 r1
              obtain ⟨j, c2, hj, hj2, rfl, rfl, hs2, hB2⟩ := hrel
              have j0 : (0 : Int) ≤ (j : Int) := by omega
              by_cases hc2 : c2 = 0
              · subst hc2
                by_cases hjl : j < xs.length
                · have j1 : (j : Int) < (xs.length : Int) := by omega
                  by_cases hjl2 : j < ys.length
                  · have j2 : (j : Int) < (ys.length : Int) := by omega
                    have ho : cL xs ys = cL (xs.drop j) (ys.drop j) := by rcases hs2 with ⟨_, h⟩ | ⟨h, _⟩ <;> first | exact h | exact absurd rfl h
                    obtain ⟨ba2, oa2, rfl, hca2⟩ := hI1.out (by omega)
                    obtain ⟨bb2, ob2, rfl, hcb2⟩ := hI2.out (by omega)
                    have q0 := cell_later hB2 (hca2 j _ (List.getElem?_eq_getElem hjl))
                    have q1 := cell_later hB2 (hcb2 j _ (List.getElem?_eq_getElem hjl2))
                    clear hca2 hcb2 hs2
                    rw [drop_at hjl, drop_at hjl2] at ho
                    simp only [cL] at ho
                    generalize xs[j] = x at *
                    generalize ys[j] = y at *
                    have NN := Lib.hid (rnumber_any x y)
                    have hn2 : SoFar (Lib.compareInt x y) (cL xs ys) (cL (xs.drop (j + 1)) (ys.drop (j + 1))) := by
                      by_cases h : Lib.compareInt x y = 0
                      · rw [if_pos h] at ho; exact .inl ⟨h, ho⟩
                      · rw [if_neg h] at ho; exact .inr ⟨h, ho⟩
                    generalize Lib.compareInt x y = d at *
                    replace hn2 := Lib.hid hn2
                    clear ho
                    go_wp2_with fail
                    go_quiet (first | (go_at_call 15; with_reducible exact Calls.quiet_of_same ((NN.out _).mono fun e w' h => (⟨h.1, h.2.symm⟩ : e = .returned (.int .i64 d) ∧ w' = _))))
                    have hBr := bdrewN9 hB2 nq
                    go_wp2_with fail
                    go_roundw
                    case rel => exact ⟨j + 1, d, by omega, by omega, by go_num, rfl, hn2.out, hBr⟩
                    case measure => simp [intOf]; omega
                  · have j2 : ¬ (j : Int) < (ys.length : Int) := by omega
                    have hE := cL_end hj hj2 (by omega)
                    have hv : cL xs ys = Lib.compareInt (xs.length : Int) (ys.length : Int) := by rw [← hE]; rcases hs2 with ⟨_, h⟩ | ⟨h, _⟩ <;> first | exact h | exact absurd rfl h
                    have NL := Lib.hid (rnumber_any (xs.length : Int) (ys.length : Int))
                    rw [← hv] at NL
                    clear hE hv hs2
                    go_wp2_with (go_at_call 15; refine (NL.out _).mono ?_; rintro e w1 ⟨rfl, rfl⟩)
                    go_roundw
                    case rel => exact ⟨k + 1, cL xs ys, by omega, by omega, by go_num, rfl, hnext.out, hB2⟩
                    case measure => simp [intOf]; omega
                · have j1 : ¬ (j : Int) < (xs.length : Int) := by omega
                  have hE := cL_end hj hj2 (by omega)
                  have hv : cL xs ys = Lib.compareInt (xs.length : Int) (ys.length : Int) := by rw [← hE]; rcases hs2 with ⟨_, h⟩ | ⟨h, _⟩ <;> first | exact h | exact absurd rfl h
                  have NL := Lib.hid (rnumber_any (xs.length : Int) (ys.length : Int))
                  rw [← hv] at NL
                  clear hE hv hs2
                  go_wp2_with (go_at_call 15; refine (NL.out _).mono ?_; rintro e w1 ⟨rfl, rfl⟩)
                  go_roundw
                  case rel => exact ⟨k + 1, cL xs ys, by omega, by omega, by go_num, rfl, hnext.out, hB2⟩
                  case measure => simp [intOf]; omega
              · have hv : cL xs ys = c2 := by rcases hs2 with ⟨h, _⟩ | ⟨_, h⟩ <;> first | exact h | exact absurd h hc2
                have hc2b : (c2 == 0) = false := by simpa using hc2
                clear hs2
                go_wp2_with fail
                go_roundw
                case rel => exact ⟨k + 1, c2, by omega, by omega, by go_num, rfl, by rw [← hv]; exact hnext.out, hB2⟩
                case measure => simp [intOf]; omega
          · have k2 : ¬ (k : Int) < (p2.length : Int) := by omega
            have hE := cR_end hk hk2 (by omega)
            rw [hE] at hRk
            have NL := Lib.hid (rnumber_any (p1.length : Int) (p2.length : Int))
            rw [← hRk] at NL
            clear hE hRk
            go_wp2_with (go_at_call 15; refine (NL.out _).mono ?_; rintro e w1 ⟨rfl, rfl⟩)
            go_ret
            exact ⟨rfl, mmore bu hB⟩
        · have k1 : ¬ (k : Int) < (p1.length : Int) := by omega
          have hE := cR_end hk hk2 (by omega)
          rw [hE] at hRk
          have NL := Lib.hid (rnumber_any (p1.length : Int) (p2.length : Int))
          rw [← hRk] at NL
          clear hE hRk
          go_wp2_with (go_at_call 15; refine (NL.out _).mono ?_; rintro e w1 ⟨rfl, rfl⟩)
          go_ret
          exact ⟨rfl, mmore bu hB⟩
      · have hRc : R = c := by rcases hs with ⟨h, _⟩ | ⟨_, h⟩ <;> first | exact h | exact absurd h hc
        have hcb : (c == 0) = false := by simpa using hc
        subst hRc
        clear hs
        go_wp2_with fail
        go_ret
        exact ⟨rfl, mmore bu hB⟩
end Go.Proofs.YtmebbhlebehliaaDoor
