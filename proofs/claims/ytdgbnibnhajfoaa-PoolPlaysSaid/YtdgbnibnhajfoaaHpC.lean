/- A pool's free numbers as a heap: container/heap's down. -/
import Derived.Test.YtdgbnibnhajfoaaHpB
namespace Go.Proofs.Ytdgbnibnhajfoaa
open Go.ChangeShapes Go.WideShapes Go.ChangeAt Go.RowKit
set_option linter.unusedVariables false
set_option linter.unusedSimpArgs false

set_option maxHeartbeats 8000000 in
set_option maxRecDepth 100000 in
theorem down_any {B p o : Nat} {v : Value} {l : List Int} {w : World} (h : NX B p o v l w) (n : Nat) (hn : n ≤ l.length) (hu : DnI l n 0) (hs : l.length < 1000000) :
    Calls Try.prog 34 #[.iface 75 (.pointer (some ⟨p, o, none⟩)), .int .i64 0, .int .i64 (n : Int)] w fun e w' => ∃ b, e = .returned (.bool b) ∧ ∃ l', HeapN l' n ∧ l'.Perm l ∧ (∀ k, n ≤ k → hget l' k = hget l k) ∧ NX B p o v l' w' ∧ w.grownBy w' v.ownBlock := by
  have n64 : (n : Int) < 1000000 := by omega
  go_enter Try.func34, Try.ntmps34
  go_wp2_with fail
  go_loopw [7] (fun vi wr => ∃ (i : Nat) (l' : List Int), vi = .int .i64 (i : Int) ∧ i ≤ n ∧ l'.length = l.length ∧ DnI l' n i ∧ l'.Perm l ∧ (∀ k, n ≤ k → hget l' k = hget l k) ∧ NX B p o v l' wr ∧ w.grownBy wr v.ownBlock) (fun vi _ => n - (intOf vi).toNat)
  case atStart => exact ⟨0, l, rfl, Nat.zero_le _, rfl, hu, List.Perm.refl _, fun _ _ => rfl, h, World.grownBy.refl _ _⟩
  case round =>
    clear h hu
    obtain ⟨i, l', rfl, hi, hl, hu, hp, hk, h, hg⟩ := hrel
    have i0 : (0 : Int) ≤ (i : Int) := by omega
    have i64 : (i : Int) < 1000000 := by omega
    by_cases h1 : n ≤ 2 * i + 1
    · have hend := Lib.hid (down_done hu fun k k0 kn kp => absurd kn (by omega))
      have hc1 : (n : Int) ≤ 2 * (i : Int) + 1 := by omega
      replace h := Lib.hid h
      replace hg := Lib.hid hg
      replace hl := Lib.hid hl
      replace hk := Lib.hid hk
      clear hu h1 hi
      go_wp2
      go_ret
      exact ⟨_, rfl, l', hend.out, hp, hk.out, h.out, hg.out⟩
    have hc1 : ¬ (n : Int) ≤ 2 * (i : Int) + 1 := by omega
    have hc1d : decide ((n : Int) ≤ 2 * (i : Int) + 1) = false := by simp; omega
    have hc0 : decide (2 * (i : Int) + 1 < 0) = false := by simp; omega
    obtain ⟨g, cap, hv, _⟩ := h.form (by omega)
    rw [hl] at hv
    have hM := fun (u : World) (hc : u.cell? ⟨p, o, none⟩ = some v) (m : Nat) => meth_less m p o u (some ⟨g, 0, none⟩) l.length cap (hv ▸ hc)
    have hMs := fun (u : World) (hc : u.cell? ⟨p, o, none⟩ = some v) (m : Nat) => meth_swap m p o u (some ⟨g, 0, none⟩) l.length cap (hv ▸ hc)
    have e1 : ((2 * i + 1 : Nat) : Int) = 2 * (i : Int) + 1 := by omega
    have e2 : ((2 * i + 1 + 1 : Nat) : Int) = 2 * (i : Int) + 1 + 1 := by omega
    replace hl := Lib.hid hl
    replace hk := Lib.hid hk
    replace hu := Lib.hid hu
    replace h := Lib.hid h
    replace hg := Lib.hid hg
    replace hv := Lib.hid hv
    replace hM := Lib.hid hM
    replace hMs := Lib.hid hMs
    replace e1 := Lib.hid e1
    replace e2 := Lib.hid e2
    replace hi := Lib.hid hi
    have h1' := Lib.hid h1
    clear h1
    by_cases h2 : 2 * i + 1 + 1 < n
    · have hL := less_any h.out (i := 2 * i + 1 + 1) (j := 2 * i + 1) (by rw [hl.out]; omega) (by rw [hl.out]; omega) (by rw [hl.out]; exact hs)
      rw [e1.out, e2.out, hv.out] at hL
      have hM1 := hM.out _ h.out.cell
      have hc2 : 2 * (i : Int) + 1 + 1 < (n : Int) := by omega
      have hc2d : decide (2 * (i : Int) + 1 + 1 < (n : Int)) = true := by simp only [hc2, decide_true]
      replace hL := Lib.hid hL
      have h2' := Lib.hid h2
      clear h2
      go_wp2_with fail
      refine hL.out.mono ?_
      rintro e w1 ⟨rfl, q, hw1⟩
      have hN1 := Lib.hid (show NX B p o v l' w1 by rw [hw1]; exact h.out.drew q)
      have hg1 := Lib.hid (show w.grownBy w1 v.ownBlock by rw [hw1]; exact mgrown hg.out (mgrows (below_dn wr q) v.ownBlock) fun k hk => .inl hk)
      clear hL hM1 hw1
      by_cases h3 : hget l' (2 * i + 1 + 1) < hget l' (2 * i + 1)
      · have hmin := Lib.hid (show ∀ k, 0 < k → k < n → (k - 1) / 2 = i → hget l' (2 * i + 1 + 1) ≤ hget l' k from fun k k0 kn kp => by
          rcases (show k = 2 * i + 1 ∨ k = 2 * i + 1 + 1 by omega) with e | e
          · subst e; omega
          · subst e; exact Int.le_refl _)
        have h3d : decide (hget l' (2 * i + 1 + 1) < hget l' (2 * i + 1)) = true := by simp only [h3, decide_true]
        replace h3 := Lib.hid h3
        have h1' := h2'
        have hL3 := less_any hN1.out (i := 2 * i + 1 + 1) (j := i) (by rw [hl.out]; have := h1'.out; omega) (by rw [hl.out]; have := h1'.out; omega) (by rw [hl.out]; exact hs)
        rw [e2.out, hv.out] at hL3
        have hM3 := hM.out _ hN1.out.cell
        replace hL3 := Lib.hid hL3
        go_wp2_with fail
        refine hL3.out.mono ?_
        rintro e w3 ⟨rfl, q3, hw3⟩
        have hN3 := Lib.hid (show NX B p o v l' w3 by rw [hw3]; exact hN1.out.drew q3)
        have hg3 := Lib.hid (show w.grownBy w3 v.ownBlock by rw [hw3]; exact mgrown hg1.out (mgrows (below_dn _ q3) v.ownBlock) fun k hk => .inl hk)
        clear hw3
        by_cases hlt : hget l' (2 * i + 1 + 1) < hget l' i
        · have hS := swap_any hN3.out (i := i) (j := 2 * i + 1 + 1) (by rw [hl.out]; have := h1'.out; omega) (by rw [hl.out]; have := h1'.out; omega) (by rw [hl.out]; exact hs)
          rw [e2.out, hv.out] at hS
          have hM4 := hMs.out _ hN3.out.cell
          have hu2 := Lib.hid (down_step hu.out (by rw [hl.out]; exact hn) (j := 2 * i + 1 + 1) (by have := h1'.out; omega) (by omega) (by omega) hmin.out hlt)
          have hpm := Lib.hid (swapL_perm (l := l') (i := i) (j := 2 * i + 1 + 1) (by rw [hl.out]; have := h1'.out; omega) (by rw [hl.out]; have := h1'.out; omega))
          have hk2 := Lib.hid (show ∀ k, n ≤ k → hget (swapL l' i (2 * i + 1 + 1)) k = hget l k from fun k kn => by rw [swapL_get (by rw [hl.out]; have := h1'.out; omega) (by rw [hl.out]; have := h1'.out; omega), if_neg (by have := h1'.out; omega), if_neg (by have := h1'.out; omega)]; exact hk.out k kn)
          have hlt2 : decide (hget l' (2 * i + 1 + 1) < hget l' i) = true := by simp only [hlt, decide_true]
          replace hS := Lib.hid hS
          replace hlt := Lib.hid hlt
          clear hL3 hM3
          go_wp2_with fail
          refine hS.out.mono ?_
          rintro e w4 ⟨rfl, hN4, hG4⟩
          rw [← hv.out] at hG4 hN4
          have hg4 := Lib.hid (mgrown hg3.out hG4 fun k hk => .inl hk)
          replace hN4 := Lib.hid hN4
          clear hG4
          go_wp2
          go_roundw
          case rel => exact ⟨2 * i + 1 + 1, _, by rw [e2.out], by have := h1'.out; omega, by rw [swapL_len]; exact hl.out, hu2.out, hpm.out.trans hp, hk2.out, hN4.out, hg4.out⟩
          case measure => have := h1'.out; simp [intOf]; omega
        · have hend := Lib.hid (down_done hu.out fun k k0 kn kp => by have := hmin.out k k0 kn kp; omega)
          have hlt2 : decide (hget l' (2 * i + 1 + 1) < hget l' i) = false := by simp only [hlt, decide_false]
          replace hlt := Lib.hid hlt
          clear hL3 hM3
          go_wp2
          go_ret
          exact ⟨_, rfl, l', hend.out, hp, hk.out, hN3.out, hg3.out⟩
      · have hmin := Lib.hid (show ∀ k, 0 < k → k < n → (k - 1) / 2 = i → hget l' (2 * i + 1) ≤ hget l' k from fun k k0 kn kp => by
          rcases (show k = 2 * i + 1 ∨ k = 2 * i + 1 + 1 by omega) with e | e
          · subst e; exact Int.le_refl _
          · subst e; omega)
        have h3d : decide (hget l' (2 * i + 1 + 1) < hget l' (2 * i + 1)) = false := by simp only [h3, decide_false]
        replace h3 := Lib.hid h3
        have hL3 := less_any hN1.out (i := 2 * i + 1) (j := i) (by rw [hl.out]; have := h1'.out; omega) (by rw [hl.out]; have := h1'.out; omega) (by rw [hl.out]; exact hs)
        rw [e1.out, hv.out] at hL3
        have hM3 := hM.out _ hN1.out.cell
        replace hL3 := Lib.hid hL3
        go_wp2_with fail
        refine hL3.out.mono ?_
        rintro e w3 ⟨rfl, q3, hw3⟩
        have hN3 := Lib.hid (show NX B p o v l' w3 by rw [hw3]; exact hN1.out.drew q3)
        have hg3 := Lib.hid (show w.grownBy w3 v.ownBlock by rw [hw3]; exact mgrown hg1.out (mgrows (below_dn _ q3) v.ownBlock) fun k hk => .inl hk)
        clear hw3
        by_cases hlt : hget l' (2 * i + 1) < hget l' i
        · have hS := swap_any hN3.out (i := i) (j := 2 * i + 1) (by rw [hl.out]; have := h1'.out; omega) (by rw [hl.out]; have := h1'.out; omega) (by rw [hl.out]; exact hs)
          rw [e1.out, hv.out] at hS
          have hM4 := hMs.out _ hN3.out.cell
          have hu2 := Lib.hid (down_step hu.out (by rw [hl.out]; exact hn) (j := 2 * i + 1) (by have := h1'.out; omega) (by omega) (by omega) hmin.out hlt)
          have hpm := Lib.hid (swapL_perm (l := l') (i := i) (j := 2 * i + 1) (by rw [hl.out]; have := h1'.out; omega) (by rw [hl.out]; have := h1'.out; omega))
          have hk2 := Lib.hid (show ∀ k, n ≤ k → hget (swapL l' i (2 * i + 1)) k = hget l k from fun k kn => by rw [swapL_get (by rw [hl.out]; have := h1'.out; omega) (by rw [hl.out]; have := h1'.out; omega), if_neg (by have := h1'.out; omega), if_neg (by have := h1'.out; omega)]; exact hk.out k kn)
          have hlt2 : decide (hget l' (2 * i + 1) < hget l' i) = true := by simp only [hlt, decide_true]
          replace hS := Lib.hid hS
          replace hlt := Lib.hid hlt
          clear hL3 hM3
          go_wp2_with fail
          refine hS.out.mono ?_
          rintro e w4 ⟨rfl, hN4, hG4⟩
          rw [← hv.out] at hG4 hN4
          have hg4 := Lib.hid (mgrown hg3.out hG4 fun k hk => .inl hk)
          replace hN4 := Lib.hid hN4
          clear hG4
          go_wp2
          go_roundw
          case rel => exact ⟨2 * i + 1, _, by rw [e1.out], by have := h1'.out; omega, by rw [swapL_len]; exact hl.out, hu2.out, hpm.out.trans hp, hk2.out, hN4.out, hg4.out⟩
          case measure => have := h1'.out; simp [intOf]; omega
        · have hend := Lib.hid (down_done hu.out fun k k0 kn kp => by have := hmin.out k k0 kn kp; omega)
          have hlt2 : decide (hget l' (2 * i + 1) < hget l' i) = false := by simp only [hlt, decide_false]
          replace hlt := Lib.hid hlt
          clear hL3 hM3
          go_wp2
          go_ret
          exact ⟨_, rfl, l', hend.out, hp, hk.out, hN3.out, hg3.out⟩
    · have hmin := Lib.hid (show ∀ k, 0 < k → k < n → (k - 1) / 2 = i → hget l' (2 * i + 1) ≤ hget l' k from fun k k0 kn kp => by
        obtain rfl : k = 2 * i + 1 := by omega
        exact Int.le_refl _)
      have hc2 : ¬ 2 * (i : Int) + 1 + 1 < (n : Int) := by omega
      have hc2d : decide (2 * (i : Int) + 1 + 1 < (n : Int)) = false := by simp only [hc2, decide_false]
      replace h2 := Lib.hid h2
      have hL3 := less_any h.out (i := 2 * i + 1) (j := i) (by rw [hl.out]; have := h1'.out; omega) (by rw [hl.out]; have := h1'.out; omega) (by rw [hl.out]; exact hs)
      rw [e1.out, hv.out] at hL3
      have hM3 := hM.out _ h.out.cell
      replace hL3 := Lib.hid hL3
      go_wp2_with fail
      refine hL3.out.mono ?_
      rintro e w3 ⟨rfl, q3, hw3⟩
      have hN3 := Lib.hid (show NX B p o v l' w3 by rw [hw3]; exact h.out.drew q3)
      have hg3 := Lib.hid (show w.grownBy w3 v.ownBlock by rw [hw3]; exact mgrown hg.out (mgrows (below_dn _ q3) v.ownBlock) fun k hk => .inl hk)
      clear hw3
      by_cases hlt : hget l' (2 * i + 1) < hget l' i
      · have hS := swap_any hN3.out (i := i) (j := 2 * i + 1) (by rw [hl.out]; have := h1'.out; omega) (by rw [hl.out]; have := h1'.out; omega) (by rw [hl.out]; exact hs)
        rw [e1.out, hv.out] at hS
        have hM4 := hMs.out _ hN3.out.cell
        have hu2 := Lib.hid (down_step hu.out (by rw [hl.out]; exact hn) (j := 2 * i + 1) (by have := h1'.out; omega) (by omega) (by omega) hmin.out hlt)
        have hpm := Lib.hid (swapL_perm (l := l') (i := i) (j := 2 * i + 1) (by rw [hl.out]; have := h1'.out; omega) (by rw [hl.out]; have := h1'.out; omega))
        have hk2 := Lib.hid (show ∀ k, n ≤ k → hget (swapL l' i (2 * i + 1)) k = hget l k from fun k kn => by rw [swapL_get (by rw [hl.out]; have := h1'.out; omega) (by rw [hl.out]; have := h1'.out; omega), if_neg (by have := h1'.out; omega), if_neg (by have := h1'.out; omega)]; exact hk.out k kn)
        have hlt2 : decide (hget l' (2 * i + 1) < hget l' i) = true := by simp only [hlt, decide_true]
        replace hS := Lib.hid hS
        replace hlt := Lib.hid hlt
        clear hL3 hM3
        go_wp2_with fail
        refine hS.out.mono ?_
        rintro e w4 ⟨rfl, hN4, hG4⟩
        rw [← hv.out] at hG4 hN4
        have hg4 := Lib.hid (mgrown hg3.out hG4 fun k hk => .inl hk)
        replace hN4 := Lib.hid hN4
        clear hG4
        go_wp2
        go_roundw
        case rel => exact ⟨2 * i + 1, _, by rw [e1.out], by have := h1'.out; omega, by rw [swapL_len]; exact hl.out, hu2.out, hpm.out.trans hp, hk2.out, hN4.out, hg4.out⟩
        case measure => have := h1'.out; simp [intOf]; omega
      · have hend := Lib.hid (down_done hu.out fun k k0 kn kp => by have := hmin.out k k0 kn kp; omega)
        have hlt2 : decide (hget l' (2 * i + 1) < hget l' i) = false := by simp only [hlt, decide_false]
        replace hlt := Lib.hid hlt
        clear hL3 hM3
        go_wp2
        go_ret
        exact ⟨_, rfl, l', hend.out, hp, hk.out, hN3.out, hg3.out⟩
end Go.Proofs.Ytdgbnibnhajfoaa
