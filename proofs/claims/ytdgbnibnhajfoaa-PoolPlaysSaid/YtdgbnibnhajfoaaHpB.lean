/- A pool's free numbers as a heap: container/heap's up and down. -/
import Derived.Test.YtdgbnibnhajfoaaHpA
namespace Go.Proofs.Ytdgbnibnhajfoaa
open Go.ChangeShapes Go.WideShapes Go.ChangeAt Go.RowKit
set_option linter.unusedVariables false
set_option linter.unusedSimpArgs false

set_option maxHeartbeats 4000000 in
set_option maxRecDepth 100000 in
theorem up_any {B p o : Nat} {v : Value} {l : List Int} {w : World} (h : NX B p o v l w) (j : Nat) (hj : j < l.length) (hu : UpI l j) (hs : l.length < 1000000) :
    Calls Try.prog 36 #[.iface 75 (.pointer (some ⟨p, o, none⟩)), .int .i64 (j : Int)] w fun e w' => e = .returned (.tuple #[]) ∧ ∃ l', HeapN l' l'.length ∧ l'.Perm l ∧ NX B p o v l' w' ∧ w.grownBy w' v.ownBlock := by
  go_enter Try.func36, Try.ntmps36
  go_wp2_with fail
  go_loopw [1] (fun vj wr => ∃ (j : Nat) (l' : List Int), vj = .int .i64 (j : Int) ∧ j < l'.length ∧ l'.length = l.length ∧ UpI l' j ∧ l'.Perm l ∧ NX B p o v l' wr ∧ w.grownBy wr v.ownBlock) (fun vj _ => (intOf vj).toNat)
  case atStart => exact ⟨j, l, rfl, hj, rfl, hu, List.Perm.refl _, h, World.grownBy.refl _ _⟩
  case round =>
    clear h hj hu
    obtain ⟨j, l', rfl, hj, hl, hu, hp, h, hg⟩ := hrel
    cases j with
    | zero =>
      have hend := Lib.hid (up_done hu (.inl rfl))
      replace h := Lib.hid h
      replace hg := Lib.hid hg
      clear hu
      go_wp2
      refine bodyPost_end (results_none rfl _ _ _) rfl ?_
      exact ⟨rfl, l', hend.out, hp, h.out, hg.out⟩
    | succ m =>
      have hq : ((m : Int)).tdiv 2 = (m : Int) / 2 := by rw [Int.tdiv_eq_ediv_of_nonneg (by omega)]
      have e1 : ((m + 1 : Nat) : Int) = (m : Int) + 1 := by omega
      have e2 : ((m / 2 : Nat) : Int) = (m : Int) / 2 := by omega
      have hne : ((m : Int) / 2 == (m : Int) + 1) = false := by simp; omega
      have hL := less_any h (i := m + 1) (j := m / 2) hj (by omega) (by omega)
      rw [e1, e2] at hL
      have hc := h.cell
      obtain ⟨g, cap, hv, _⟩ := h.form (by omega)
      rw [hl] at hv
      rw [hv] at hc hL
      have hM := fun n => meth_less n p o wr _ _ _ hc
      have hm64 : (m : Int) < 1000000 := by omega
      replace hL := Lib.hid hL
      replace hl := Lib.hid hl
      replace hu := Lib.hid hu
      replace h := Lib.hid h
      replace hg := Lib.hid hg
      replace hv := Lib.hid hv
      replace hj := Lib.hid hj
      replace e1 := Lib.hid e1
      replace e2 := Lib.hid e2
      go_wp2_with fail
      refine hL.out.mono ?_
      rintro e w1 ⟨rfl, q, rfl⟩
      have hp' : (m + 1 - 1) / 2 = m / 2 := by simp
      by_cases hlt : hget l' (m + 1) < hget l' (m / 2)
      · have hS := swap_any (h.out.drew q) (i := m / 2) (j := m + 1) (by have := hj.out; omega) hj.out (by rw [hl.out]; exact hs)
        rw [e1.out, e2.out, hv.out] at hS
        have hc1 := (h.out.drew q).cell
        rw [hv.out] at hc1
        have hM1 := fun n => meth_swap n p o (wr.drewN q) _ _ _ hc1
        have hu2 := up_step hu.out hj.out (by omega) (by rw [hp']; exact hlt)
        rw [hp'] at hu2
        have hg1 : w.grownBy (wr.drewN q) v.ownBlock := mgrown hg.out (mgrows (below_dn _ q) v.ownBlock) fun k hk => .inl hk
        have hlt2 : decide (hget l' (m + 1) < hget l' (m / 2)) = true := by simp [hlt]
        have hpm := swapL_perm (l := l') (i := m / 2) (j := m + 1) (by have := hj.out; omega) hj.out
        replace hS := Lib.hid hS
        replace hu2 := Lib.hid hu2
        replace hg1 := Lib.hid hg1
        replace hpm := Lib.hid hpm
        clear hM hL hc hlt
        go_wp2_with fail
        refine hS.out.mono ?_
        rintro e w2 ⟨rfl, hN, hG⟩
        rw [← hv.out] at hG
        have hg2 := Lib.hid (mgrown hg1.out hG fun k hk => .inl hk)
        rw [← hv.out] at hN
        replace hN := Lib.hid hN
        clear hG
        go_wp2
        go_roundw
        case rel => exact ⟨m / 2, _, by rw [e2.out], by rw [swapL_len]; have := hj.out; omega, by rw [swapL_len]; exact hl.out, hu2.out, hpm.out.trans hp, hN.out, hg2.out⟩
        case measure => simp [intOf]; omega
      · have hend := Lib.hid (up_done hu.out (.inr (by rw [hp']; omega)))
        have hlt2 : decide (hget l' (m + 1) < hget l' (m / 2)) = false := by simp; omega
        have hg1 := Lib.hid (show w.grownBy (wr.drewN q) v.ownBlock from mgrown hg.out (mgrows (below_dn _ q) v.ownBlock) fun k hk => .inl hk)
        have hN := Lib.hid (h.out.drew q)
        clear hM hL hc hlt
        go_wp2
        refine bodyPost_end (results_none rfl _ _ _) rfl ?_
        exact ⟨rfl, l', hend.out, hp, hN.out, hg1.out⟩
end Go.Proofs.Ytdgbnibnhajfoaa
