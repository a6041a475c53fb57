/- PoolBalances: where each hold that was told is dropped, nothing is left; nothing goes while it is held. -/
import Derived.Test.YtdgbnibnhajfoaaRows
import Derived.WalkKit
import Derived.ProofKit
import Derived.OpenShut
import Derived.ShutString
import Derived.ChangeOld
import Derived.Below
import Derived.Lib.SmallJoins
import Derived.SizedLaws
import Derived.Test.YtdgbnibnhajfoaaHpN
namespace Go.Proofs.Ytdgbnibnhajfoaa.poolBalances
open Go.ChangeShapes Go.WideShapes Go.ChangeAt Go.RowKit Go.Joins
set_option linter.unusedVariables false
set_option linter.unusedSimpArgs false

theorem own : ownKnob Try.prog.godebug = none := by kernel_rfl
theorem laidOut : laidOutB Try.prog = true := by kernel_rfl

theorem bytes3 : Try.prog.bytesOf 3 = 8 := by kernel_rfl
set_option maxHeartbeats 16000000 in
set_option maxRecDepth 100000 in
theorem walk (w : World) (A0 : Option Addr) (n0 c0 : Nat) (z0 : List Int) (w0 : IntsIn .i64 w A0 n0 c0 z0) (s0 : n0 * 8 ≤ 140737488351232) (A1 : Option Addr) (c1 : Nat) (z1 : List Bool) (w1 : BoolsAt w A1 z1) (s1 : z1.length ≤ maxLen) :
    Calls Try.prog 4 #[.slice A0 n0 c0, .slice A1 z1.length c1] w fun e w' => e = .returned (.bool true) ∧ Below w.heap.size w w' := by
  have C0 := Lib.hid (fun w => awake23 w)
  have C1 := Lib.hid (new_any 400 w)
  obtain ⟨hI, hzl, hzb⟩ := w0.at_
  obtain ⟨N, hN⟩ : ∃ n, w.heap.size = n := ⟨_, rfl⟩
  obtain ⟨j0, hj, hz0, hz1, hz2⟩ := info_parts infoI1
  replace hj := Lib.hid hj
  replace hz1 := Lib.hid hz1
  replace hz2 := Lib.hid hz2
  have n9 : (n0 : Int) ≤ 9223372036854775807 := by omega
  obtain ⟨nf, hnf⟩ : ∃ n, z1.length = n := ⟨_, rfl⟩
  rw [hnf]
  rw [hnf] at s1
  have f9 : (nf : Int) ≤ 9223372036854775807 := by unfold maxLen at s1; omega
  clear w0 s1
  generalize z0.take n0 = zs at *
  replace hI := Lib.hid hI
  replace hzl := Lib.hid hzl
  replace hnf := Lib.hid hnf
  replace w1 := Lib.hid w1
  replace hzb := Lib.hid hzb
  go_enter Try.func4, Try.ntmps4
  go_wp2_with fail
  refine C1.out.mono ?_
  rintro e u1 ⟨p, rfl, hP, hb⟩
  clear C1
  replace hP := Lib.hid hP
  replace hb := Lib.hid hb
  go_wp2_with fail
  refine (C0.out _).mono ?_
  rintro e u2 ⟨rfl, hb2⟩
  have hP2 := hP.out.later hb2
  have hb3 := mmore hb.out hb2
  clear hP hb hb2
  by_cases hn : 150 < (n0 : Int)
  · replace hb3 := Lib.hid hb3
    clear hP2
    go_wp2_with fail
    refine (C0.out _).mono ?_
    rintro e u3 ⟨rfl, hb4⟩
    have hb5 := Lib.hid (mmore hb3.out hb4)
    go_wp2
    go_ret
    exact ⟨rfl, hb5.out⟩
  have hJ : BJ1 w N p [] (.slice none 0 0) u2 := by
    rw [hN] at hP2
    exact ⟨newS 400, Inv.start 400, rfl, fun j => by simp [newS, ownL], hP2.more fun q h => ⟨h, by simp [Value.ownBlock]⟩, World.ownsRow_nil _ _ _ _, hb3⟩
  replace hJ := Lib.hid hJ
  have hnn := Lib.hid (show n0 ≤ 150 by omega)
  clear hP2 hb3
  go_wp2_with fail
  go_loopw [6, 32] (fun v6 i wr => ∃ cs : List Nat, cs.length ≤ n0 ∧ i = .int .i64 (cs.length : Int) ∧ BJ1 w N p cs v6 wr) (fun _ i _ => n0 - (intOf i).toNat)
  case atStart => exact ⟨[], Nat.zero_le _, rfl, hJ.out⟩
  case round =>
    obtain ⟨cs, hk, rfl, hJ1⟩ := hrel
    clear hJ
    by_cases hlt : cs.length < n0
    · obtain ⟨zb, zo, rfl, hcell⟩ := hI.out (by rw [hzl.out]; omega)
      have hzk := List.getElem?_eq_getElem (l := zs) (i := cs.length) (by rw [hzl.out]; exact hlt)
      have hB := hJ1
      obtain ⟨_, _, _, _, _, _, hB⟩ := hB
      have q0 := cell_later hB (hcell _ _ hzk)
      have hzr := hzb.out _ (List.mem_of_getElem? hzk)
      generalize zs[cs.length]'(by rw [hzl.out]; exact hlt) = e0 at *
      obtain ⟨i, hi⟩ : ∃ i, cs.length = i := ⟨_, rfl⟩
      rw [hi] at q0 hlt hk ⊢
      obtain ⟨ev, hevE, hev⟩ := mod_nat e0 5 (by decide) (by decide)
      have k0 : (0 : Int) ≤ (i : Int) := by omega
      have k1 : (i : Int) < (n0 : Int) := by omega
      have k3 := Lib.hid hlt
      have hi' := hi
      replace hJ1 := Lib.hid hJ1
      have hrow : ∀ m : Nat, m < i → ∃ g6 cap6, u6 = .slice (some ⟨g6, 0, none⟩) i cap6 ∧ wr.cell? ⟨g6, m, none⟩ = some (.int .i64 ((cs.getD m 0 : Nat) : Int)) := fun m hm => by
        obtain ⟨_, _, _, _, _, hO, _⟩ := hJ1.out
        obtain ⟨g6, cap6, rfl, _, _⟩ := hO.form (by omega)
        refine ⟨g6, cap6, by rw [hi'], ?_⟩
        rw [hO.cellAt m (by omega)]
        simp [csV, List.getD_eq_getElem?_getD, List.getElem?_eq_getElem (show m < cs.length by omega)]
      replace hrow := Lib.hid hrow
      replace hi := Lib.hid hi
      clear hcell hzk hi'
      have hevE2 : wrap64 ((IntKind.u64.wrap e0).tmod 5) = (ev : Int) := hevE
      clear hevE
      by_cases hp : 0 < (i : Int) ∧ e0.tmod 3 ≠ 0
      · obtain ⟨m, hmE, hm⟩ := mod_nat e0 i (by omega) (by have := hnn.out; omega)
        obtain ⟨g6, cap6, rfl, hcm⟩ := hrow.out m hm
        have hcp : ∃ c ∈ cs, ((cs.getD m 0 : Nat) : Int) = ((c : Nat) : Int) := ⟨cs.getD m 0, by rw [List.getD_eq_getElem?_getD, List.getElem?_eq_getElem (show m < cs.length by rw [hi.out]; exact hm)]; exact List.getElem_mem _, rfl⟩
        replace hcp := Lib.hid hcp
        generalize cs.getD m 0 = cm at *
        have hp1 : decide (0 < (i : Int)) = true := by simp; omega
        have hp2 : (e0.tmod 3 != 0) = true := by simp [hp.2]
        have m0 : (0 : Int) ≤ (m : Int) := by omega
        have m1' : (m : Int) < (i : Int) := by omega
        have hiw : IntKind.u64.wrap (i : Int) = (i : Int) := by rw [IntKind.wrap_u64]; omega
        have hie : ((i : Int) == 0) = false := by simp; omega
        have hine : ¬ i = 0 := by omega
        replace hp := Lib.hid hp
        by_cases hif : i < nf
        · obtain ⟨fb, fo, rfl, hfc⟩ := w1.out (by rw [hnf.out]; omega)
          have hfk := List.getElem?_eq_getElem (l := z1) (i := i) (by rw [hnf.out]; exact hif)
          have hfv := cell_later hB (hfc i _ hfk)
          generalize z1[i]'(by rw [hnf.out]; exact hif) = bz at *
          have hif1 : (i : Int) < (nf : Int) := by omega
          replace hif := Lib.hid hif
          clear hfc hfk
          have C := Lib.hid (hJ1.out.add hN (by rw [hi.out]; have := hnn.out; have := k3.out; omega) (cm : Int) (ev : Int) bz (.inr hcp.out) (by omega))
          clear hJ1
          go_wp2_with fail
          refine C.out.mono ?_
          rintro e w4 ⟨kk, rfl, hM⟩
          obtain ⟨s4, _, _, _, _, hO4, hB4⟩ := id hM
          rw [hi.out] at hO4
          have hlow : N ≤ w4.heap.size := by rw [← hN]; exact hB4.size
          have hi150 : i < 150 := by have := hnn.out; have := k3.out; omega
          replace hM := Lib.hid hM
          clear C hB4
          go_wp2_with (at_builtin; refine wpList_append_any _ rfl (.tmp 76) (.tmp 78) 44 rfl N 3 j0 (.int .i64 0) 1 8 Try.underlying44 hj.out hz0 hz1.out hz2.out rfl (by decide) _ i (csV cs) rfl (hO4.alloc _) (w4.heap.size + 1) (some ⟨w4.heap.size, 0, none⟩) 1 1 [.int .i64 (kk : Int)] rfl ⟨rfl, fun _ => ⟨_, rfl, Nat.lt_succ_self _, news_1 _ _ _⟩⟩ ?c2 ?c3 ?c4 ?c5 ?_)
          case c2 => intro u hu; simp at hu; subst hu; rfl
          case c3 => unfold maxLen; omega
          case c4 => omega
          case c5 => exact Nat.le_trans hlow (by simp)
          intro v6' w5 hO5 hG5 hown5
          have hJ2 := Lib.hid (hM.out.app hN (by rw [hi.out]; exact hO5) hG5 (by rcases hown5 with q | q; exact .inl q; exact .inr (by rw [q]; simp)))
          clear hO5 hG5 hown5 hO4 hM
          go_wp2
          go_roundw
          case rel => exact ⟨cs ++ [kk], by rw [List.length_append, hi.out]; have := k3.out; simp; omega, by rw [List.length_append, hi.out]; simp, hJ2.out⟩
          case measure => have := k3.out; simp [intOf]; omega
        · have hif1 : decide ((i : Int) < (nf : Int)) = false := by simp; omega
          have hif2 : (nf : Int) ≤ (i : Int) := by omega
          replace hif := Lib.hid hif
          have C := Lib.hid (hJ1.out.add hN (by rw [hi.out]; have := hnn.out; have := k3.out; omega) (cm : Int) (ev : Int) false (.inr hcp.out) (by omega))
          clear hJ1
          go_wp2_with fail
          refine C.out.mono ?_
          rintro e w4 ⟨kk, rfl, hM⟩
          obtain ⟨s4, _, _, _, _, hO4, hB4⟩ := id hM
          rw [hi.out] at hO4
          have hlow : N ≤ w4.heap.size := by rw [← hN]; exact hB4.size
          have hi150 : i < 150 := by have := hnn.out; have := k3.out; omega
          replace hM := Lib.hid hM
          clear C hB4
          go_wp2_with (at_builtin; refine wpList_append_any _ rfl (.tmp 76) (.tmp 78) 44 rfl N 3 j0 (.int .i64 0) 1 8 Try.underlying44 hj.out hz0 hz1.out hz2.out rfl (by decide) _ i (csV cs) rfl (hO4.alloc _) (w4.heap.size + 1) (some ⟨w4.heap.size, 0, none⟩) 1 1 [.int .i64 (kk : Int)] rfl ⟨rfl, fun _ => ⟨_, rfl, Nat.lt_succ_self _, news_1 _ _ _⟩⟩ ?c2 ?c3 ?c4 ?c5 ?_)
          case c2 => intro u hu; simp at hu; subst hu; rfl
          case c3 => unfold maxLen; omega
          case c4 => omega
          case c5 => exact Nat.le_trans hlow (by simp)
          intro v6' w5 hO5 hG5 hown5
          have hJ2 := Lib.hid (hM.out.app hN (by rw [hi.out]; exact hO5) hG5 (by rcases hown5 with q | q; exact .inl q; exact .inr (by rw [q]; simp)))
          clear hO5 hG5 hown5 hO4 hM
          go_wp2
          go_roundw
          case rel => exact ⟨cs ++ [kk], by rw [List.length_append, hi.out]; have := k3.out; simp; omega, by rw [List.length_append, hi.out]; simp, hJ2.out⟩
          case measure => have := k3.out; simp [intOf]; omega
      · replace hp := Lib.hid hp
        by_cases hi0 : 0 < (i : Int)
        · have hi1 : decide (0 < (i : Int)) = true := by simp; omega
          have he3 : e0.tmod 3 = 0 := by
            apply Classical.byContradiction
            intro h2
            exact hp.out ⟨hi0, h2⟩
          by_cases hif : i < nf
          · obtain ⟨fb, fo, rfl, hfc⟩ := w1.out (by rw [hnf.out]; omega)
            have hfk := List.getElem?_eq_getElem (l := z1) (i := i) (by rw [hnf.out]; exact hif)
            have hfv := cell_later hB (hfc i _ hfk)
            generalize z1[i]'(by rw [hnf.out]; exact hif) = bz at *
            have hif1 : (i : Int) < (nf : Int) := by omega
            replace hif := Lib.hid hif
            clear hfc hfk
            have C := Lib.hid (hJ1.out.add hN (by rw [hi.out]; have := hnn.out; have := k3.out; omega) (-1) (ev : Int) bz (.inl rfl) (by omega))
            clear hJ1
            go_wp2_with fail
            refine C.out.mono ?_
            rintro e w4 ⟨kk, rfl, hM⟩
            obtain ⟨s4, _, _, _, _, hO4, hB4⟩ := id hM
            rw [hi.out] at hO4
            have hlow : N ≤ w4.heap.size := by rw [← hN]; exact hB4.size
            have hi150 : i < 150 := by have := hnn.out; have := k3.out; omega
            replace hM := Lib.hid hM
            clear C hB4
            go_wp2_with (at_builtin; refine wpList_append_any _ rfl (.tmp 76) (.tmp 78) 44 rfl N 3 j0 (.int .i64 0) 1 8 Try.underlying44 hj.out hz0 hz1.out hz2.out rfl (by decide) _ i (csV cs) rfl (hO4.alloc _) (w4.heap.size + 1) (some ⟨w4.heap.size, 0, none⟩) 1 1 [.int .i64 (kk : Int)] rfl ⟨rfl, fun _ => ⟨_, rfl, Nat.lt_succ_self _, news_1 _ _ _⟩⟩ ?c2 ?c3 ?c4 ?c5 ?_)
            case c2 => intro u hu; simp at hu; subst hu; rfl
            case c3 => unfold maxLen; omega
            case c4 => omega
            case c5 => exact Nat.le_trans hlow (by simp)
            intro v6' w5 hO5 hG5 hown5
            have hJ2 := Lib.hid (hM.out.app hN (by rw [hi.out]; exact hO5) hG5 (by rcases hown5 with q | q; exact .inl q; exact .inr (by rw [q]; simp)))
            clear hO5 hG5 hown5 hO4 hM
            go_wp2
            go_roundw
            case rel => exact ⟨cs ++ [kk], by rw [List.length_append, hi.out]; have := k3.out; simp; omega, by rw [List.length_append, hi.out]; simp, hJ2.out⟩
            case measure => have := k3.out; simp [intOf]; omega
          · have hif1 : decide ((i : Int) < (nf : Int)) = false := by simp; omega
            have hif2 : (nf : Int) ≤ (i : Int) := by omega
            replace hif := Lib.hid hif
            have C := Lib.hid (hJ1.out.add hN (by rw [hi.out]; have := hnn.out; have := k3.out; omega) (-1) (ev : Int) false (.inl rfl) (by omega))
            clear hJ1
            go_wp2_with fail
            refine C.out.mono ?_
            rintro e w4 ⟨kk, rfl, hM⟩
            obtain ⟨s4, _, _, _, _, hO4, hB4⟩ := id hM
            rw [hi.out] at hO4
            have hlow : N ≤ w4.heap.size := by rw [← hN]; exact hB4.size
            have hi150 : i < 150 := by have := hnn.out; have := k3.out; omega
            replace hM := Lib.hid hM
            clear C hB4
            go_wp2_with (at_builtin; refine wpList_append_any _ rfl (.tmp 76) (.tmp 78) 44 rfl N 3 j0 (.int .i64 0) 1 8 Try.underlying44 hj.out hz0 hz1.out hz2.out rfl (by decide) _ i (csV cs) rfl (hO4.alloc _) (w4.heap.size + 1) (some ⟨w4.heap.size, 0, none⟩) 1 1 [.int .i64 (kk : Int)] rfl ⟨rfl, fun _ => ⟨_, rfl, Nat.lt_succ_self _, news_1 _ _ _⟩⟩ ?c2 ?c3 ?c4 ?c5 ?_)
            case c2 => intro u hu; simp at hu; subst hu; rfl
            case c3 => unfold maxLen; omega
            case c4 => omega
            case c5 => exact Nat.le_trans hlow (by simp)
            intro v6' w5 hO5 hG5 hown5
            have hJ2 := Lib.hid (hM.out.app hN (by rw [hi.out]; exact hO5) hG5 (by rcases hown5 with q | q; exact .inl q; exact .inr (by rw [q]; simp)))
            clear hO5 hG5 hown5 hO4 hM
            go_wp2
            go_roundw
            case rel => exact ⟨cs ++ [kk], by rw [List.length_append, hi.out]; have := k3.out; simp; omega, by rw [List.length_append, hi.out]; simp, hJ2.out⟩
            case measure => have := k3.out; simp [intOf]; omega
        · have hi1 : decide (0 < (i : Int)) = false := by simp; omega
          have hi2 : i = 0 := by omega
          replace hi2 := Lib.hid hi2
          by_cases hif : i < nf
          · obtain ⟨fb, fo, rfl, hfc⟩ := w1.out (by rw [hnf.out]; omega)
            have hfk := List.getElem?_eq_getElem (l := z1) (i := i) (by rw [hnf.out]; exact hif)
            have hfv := cell_later hB (hfc i _ hfk)
            generalize z1[i]'(by rw [hnf.out]; exact hif) = bz at *
            have hif1 : (i : Int) < (nf : Int) := by omega
            replace hif := Lib.hid hif
            clear hfc hfk
            have C := Lib.hid (hJ1.out.add hN (by rw [hi.out]; have := hnn.out; have := k3.out; omega) (-1) (ev : Int) bz (.inl rfl) (by omega))
            clear hJ1
            go_wp2_with fail
            refine C.out.mono ?_
            rintro e w4 ⟨kk, rfl, hM⟩
            obtain ⟨s4, _, _, _, _, hO4, hB4⟩ := id hM
            rw [hi.out] at hO4
            have hlow : N ≤ w4.heap.size := by rw [← hN]; exact hB4.size
            have hi150 : i < 150 := by have := hnn.out; have := k3.out; omega
            replace hM := Lib.hid hM
            clear C hB4
            go_wp2_with (at_builtin; refine wpList_append_any _ rfl (.tmp 76) (.tmp 78) 44 rfl N 3 j0 (.int .i64 0) 1 8 Try.underlying44 hj.out hz0 hz1.out hz2.out rfl (by decide) _ i (csV cs) rfl (hO4.alloc _) (w4.heap.size + 1) (some ⟨w4.heap.size, 0, none⟩) 1 1 [.int .i64 (kk : Int)] rfl ⟨rfl, fun _ => ⟨_, rfl, Nat.lt_succ_self _, news_1 _ _ _⟩⟩ ?c2 ?c3 ?c4 ?c5 ?_)
            case c2 => intro u hu; simp at hu; subst hu; rfl
            case c3 => unfold maxLen; omega
            case c4 => omega
            case c5 => exact Nat.le_trans hlow (by simp)
            intro v6' w5 hO5 hG5 hown5
            have hJ2 := Lib.hid (hM.out.app hN (by rw [hi.out]; exact hO5) hG5 (by rcases hown5 with q | q; exact .inl q; exact .inr (by rw [q]; simp)))
            clear hO5 hG5 hown5 hO4 hM
            go_wp2
            go_roundw
            case rel => exact ⟨cs ++ [kk], by rw [List.length_append, hi.out]; have := k3.out; simp; omega, by rw [List.length_append, hi.out]; simp, hJ2.out⟩
            case measure => have := k3.out; simp [intOf]; omega
          · have hif1 : decide ((i : Int) < (nf : Int)) = false := by simp; omega
            have hif2 : (nf : Int) ≤ (i : Int) := by omega
            replace hif := Lib.hid hif
            have C := Lib.hid (hJ1.out.add hN (by rw [hi.out]; have := hnn.out; have := k3.out; omega) (-1) (ev : Int) false (.inl rfl) (by omega))
            clear hJ1
            go_wp2_with fail
            refine C.out.mono ?_
            rintro e w4 ⟨kk, rfl, hM⟩
            obtain ⟨s4, _, _, _, _, hO4, hB4⟩ := id hM
            rw [hi.out] at hO4
            have hlow : N ≤ w4.heap.size := by rw [← hN]; exact hB4.size
            have hi150 : i < 150 := by have := hnn.out; have := k3.out; omega
            replace hM := Lib.hid hM
            clear C hB4
            go_wp2_with (at_builtin; refine wpList_append_any _ rfl (.tmp 76) (.tmp 78) 44 rfl N 3 j0 (.int .i64 0) 1 8 Try.underlying44 hj.out hz0 hz1.out hz2.out rfl (by decide) _ i (csV cs) rfl (hO4.alloc _) (w4.heap.size + 1) (some ⟨w4.heap.size, 0, none⟩) 1 1 [.int .i64 (kk : Int)] rfl ⟨rfl, fun _ => ⟨_, rfl, Nat.lt_succ_self _, news_1 _ _ _⟩⟩ ?c2 ?c3 ?c4 ?c5 ?_)
            case c2 => intro u hu; simp at hu; subst hu; rfl
            case c3 => unfold maxLen; omega
            case c4 => omega
            case c5 => exact Nat.le_trans hlow (by simp)
            intro v6' w5 hO5 hG5 hown5
            have hJ2 := Lib.hid (hM.out.app hN (by rw [hi.out]; exact hO5) hG5 (by rcases hown5 with q | q; exact .inl q; exact .inr (by rw [q]; simp)))
            clear hO5 hG5 hown5 hO4 hM
            go_wp2
            go_roundw
            case rel => exact ⟨cs ++ [kk], by rw [List.length_append, hi.out]; have := k3.out; simp; omega, by rw [List.length_append, hi.out]; simp, hJ2.out⟩
            case measure => have := k3.out; simp [intOf]; omega
    · have hlen : cs.length = n0 := by omega
      have hJ2 := Lib.hid hJ1.two
      have hO : ∀ u, BJ2 w N p cs u6 0 u → True := fun _ _ => trivial
      obtain ⟨_, _, _, _, _, hO6, hB6⟩ := id hJ1
      have hform : ∃ A cap, u6 = .slice A n0 cap ∧ n0 ≤ cap ∧ (0 < n0 → ∃ g, A = some ⟨g, 0, none⟩) ∧ cap ≤ maxLen := by
        rcases hO6.2 with ⟨e, e2⟩ | ⟨g, cap, cur, e, _, _, h1, h2, _⟩
        · exact ⟨none, 0, by rw [e, ← hlen, e2], by omega, fun h => by omega, by decide⟩
        · exact ⟨_, cap, by rw [e, hlen], by omega, fun _ => ⟨g, rfl⟩, h2⟩
      obtain ⟨A6, cap6, rfl, hcap, hA6, hcapm⟩ := hform
      have hc9 : (cap6 : Int) ≤ 9223372036854775807 := by unfold maxLen at hcapm; omega
      have hc10 : (n0 : Int) ≤ (cap6 : Int) := by omega
      have hlen' := Lib.hid hlen
      replace hA6 := Lib.hid hA6
      clear hJ1 hO hO6 hB6 hk hlt hcap hcapm
      rw [hlen]
      clear hlen
      go_wp2_with fail
      go_loopw [83] (fun i wr => ∃ k : Nat, k ≤ n0 ∧ i = .int .i64 (k : Int) ∧ BJ2 w N p cs (.slice A6 n0 cap6) k wr) (fun i _ => n0 - (intOf i).toNat)
      case atStart => exact ⟨0, Nat.zero_le _, rfl, hJ2.out⟩
      case round =>
        obtain ⟨k, hk, rfl, hJ⟩ := hrel
        clear hJ2
        have h150 : cs.length ≤ 150 := by rw [hlen'.out]; exact hnn.out
        by_cases hlt : k < n0
        · obtain ⟨g6, rfl⟩ := hA6.out (by omega)
          obtain ⟨c, hc⟩ : ∃ c, cs[k]? = some c := ⟨_, List.getElem?_eq_getElem (by rw [hlen'.out]; exact hlt)⟩
          have hdr : cs.drop k = c :: cs.drop (k + 1) := by
            obtain ⟨hlt2, rfl⟩ := List.getElem?_eq_some_iff.1 hc
            exact List.drop_eq_getElem_cons hlt2
          have hcm : c ∈ cs.drop k := by rw [hdr]; simp
          have hcell : ∀ u, BJ2 w N p cs (.slice (some ⟨g6, 0, none⟩) n0 cap6) k u → u.cell? ⟨g6, k, none⟩ = some (.int .i64 (c : Int)) := fun u h => by
            obtain ⟨_, _, _, _, hO, _⟩ := h
            rw [hlen'.out] at hO
            rw [hO.cellAt k (by omega)]
            simp [csV, hc]
          have q0 := hcell wr hJ
          have P := hJ.path h150 hcm
          have k0 : (0 : Int) ≤ (k : Int) := by omega
          have k1 : (k : Int) < (n0 : Int) := by omega
          have k3 := Lib.hid hlt
          replace hcell := Lib.hid hcell
          replace P := Lib.hid P
          replace hc := Lib.hid hc
          replace hcm := Lib.hid hcm
          replace hdr := Lib.hid hdr
          clear hJ hk hlt
          go_wp2_with fail
          refine P.out.mono ?_
          rintro e w3 ⟨A, n, cap, rfl, hn0, hJ3⟩
          obtain ⟨x, hx, HC⟩ := hJ3.held h150 hcm.out
          have hn1 : ((n : Int) == 0) = false := by simp; omega
          have hx1 : decide (x < 1) = false := by simp; omega
          have hx2 : 1 ≤ x := hx
          have DC := Lib.hid (hJ3.drop hN h150 hc.out)
          replace HC := Lib.hid HC
          have hnp : 0 < (n : Int) := by omega
          have hnz : ¬ n = 0 := by omega
          clear P hJ3 hx hn0
          go_wp2_with fail
          refine HC.out.mono ?_
          rintro e w4 ⟨rfl, rfl⟩
          go_wp2_with fail
          refine DC.out.mono ?_
          rintro e w4 ⟨rfl, hJ4⟩
          have hJ5 := Lib.hid hJ4
          clear DC HC hJ4
          have hk1n : (k : Int) + 1 ≤ (n0 : Int) := by omega
          have hwk : IntKind.i64.wrap ((k : Int) + 1) = (k : Int) + 1 := by rw [IntKind.wrap_i64]; omega
          by_cases hcp : cap6 = k + 1
          · have hcpt : (cap6 = k + 1) = True := eq_true hcp
            replace hcp := Lib.hid hcp
            go_upto_region 23 with (fail)
            replace hcpt := Lib.hid hcpt
            go_loopw [111] (fun i wr => ∃ t : Nat, t ≤ n0 - (k + 1) ∧ i = .int .i64 (t : Int) ∧ BJ2 w N p cs (.slice (some ⟨g6, 0, none⟩) n0 cap6) (k + 1) wr) (fun i _ => n0 - (k + 1) - (intOf i).toNat)
            case atStart => exact ⟨0, Nat.zero_le _, rfl, hJ5.out⟩
            case round =>
              clear hJ5
              obtain ⟨t, ht, rfl, hJ6⟩ := hrel
              by_cases hlt2 : t < n0 - (k + 1)
              · exact absurd hlt2 (by have := hcp.out; omega)
              · have t2 : ¬ (t : Int) < ((n0 - (k + 1) : Nat) : Int) := by omega
                have t3 : (n0 : Int) - ((k : Int) + 1) ≤ (t : Int) := by omega
                replace hJ6 := Lib.hid hJ6
                clear hlt2
                go_wp2
                go_roundw
                case rel => exact ⟨k + 1, k3.out, by go_num, hJ6.out⟩
                case measure => have := k3.out; simp [intOf]; omega
          · have hcp2 : ¬ (cap6 : Int) = (k : Int) + 1 := by omega
            go_upto_region 23 with (fail)
            go_loopw [111] (fun i wr => ∃ t : Nat, t ≤ n0 - (k + 1) ∧ i = .int .i64 (t : Int) ∧ BJ2 w N p cs (.slice (some ⟨g6, 0, none⟩) n0 cap6) (k + 1) wr) (fun i _ => n0 - (k + 1) - (intOf i).toNat)
            case atStart => exact ⟨0, Nat.zero_le _, rfl, hJ5.out⟩
            case round =>
              clear hJ5
              obtain ⟨t, ht, rfl, hJ6⟩ := hrel
              by_cases hlt2 : t < n0 - (k + 1)
              · obtain ⟨d, hd⟩ : ∃ d, cs[k + 1 + t]? = some d := ⟨_, List.getElem?_eq_getElem (by rw [hlen'.out]; omega)⟩
                have hdm : d ∈ cs.drop (k + 1) := List.mem_of_getElem? (i := t) (by rw [List.getElem?_drop]; exact hd)
                have q1 : wr.cell? ⟨g6, k + 1 + t, none⟩ = some (.int .i64 (d : Int)) := by
                  obtain ⟨_, _, _, _, hO, _⟩ := hJ6
                  rw [hlen'.out] at hO
                  rw [hO.cellAt (k + 1 + t) (by omega)]
                  simp [csV, hd]
                obtain ⟨y, hy, HC2⟩ := hJ6.held h150 hdm
                have hy1 : decide (y < 1) = false := by simp; omega
                have hy2 : 1 ≤ y := hy
                have t0 : (0 : Int) ≤ (t : Int) := by omega
                have t1 : (t : Int) < (n0 : Int) - ((k : Int) + 1) := by omega
                have t2 : (t : Int) < ((n0 - (k + 1) : Nat) : Int) := by omega
                have k4 := Lib.hid hlt2
                replace HC2 := Lib.hid HC2
                replace hJ6 := Lib.hid hJ6
                clear hdm hd hy hlt2
                go_wp2_with fail
                refine HC2.out.mono ?_
                rintro e w5 ⟨rfl, rfl⟩
                go_wp2
                go_roundw
                case rel => exact ⟨t + 1, k4.out, by go_num, hJ6.out⟩
                case measure => have := k4.out; simp [intOf]; omega
              · have t2 : ¬ (t : Int) < ((n0 - (k + 1) : Nat) : Int) := by omega
                have t3 : (n0 : Int) - ((k : Int) + 1) ≤ (t : Int) := by omega
                replace hJ6 := Lib.hid hJ6
                clear hlt2
                go_wp2
                go_roundw
                case rel => exact ⟨k + 1, k3.out, by go_num, hJ6.out⟩
                case measure => have := k3.out; simp [intOf]; omega
        · obtain rfl : k = n0 := by omega
          have hk' : BJ2 w N p cs (.slice A6 k cap6) cs.length wr := by rw [hlen'.out]; exact hJ
          obtain ⟨U, DR⟩ := hk'.done
          obtain ⟨s9, _, _, hP9, _, hB9⟩ := id hJ
          have hDz : ∀ n, Calls Try.prog 15 #[.pointer (some ⟨p, 0, none⟩), .int .i64 0] (wr.drewN n) fun e w' => e = .returned (.bool false) ∧ wr.drewN n = w' := fun n => ((hk'.later (below_dn wr n)).done).2
          replace U := Lib.hid U
          replace hDz := Lib.hid hDz
          replace hB9 := Lib.hid hB9
          clear DR hk' hJ hP9
          go_wp2_with fail
          refine U.out.mono ?_
          rintro e w3 ⟨rfl, n, rfl⟩
          go_wp2_with fail
          refine (hDz.out n).mono ?_
          rintro e w4 ⟨rfl, rfl⟩
          go_wp2
          go_ret
          exact ⟨rfl, mmore hB9.out (below_dn wr n)⟩

set_option maxRecDepth 100000 in
theorem lifted (os : Os) (started : os.Started) (H : Type) (enc : TypeId × Value → H) :
    ReturnsInHanded {} Try.checked os 4 .any (Rows.poolBalancesSpec.pre6 enc Try.prog Try.f4 Rows.poolBalancesRow.domain false) (Rows.poolBalancesSpec.post enc Try.prog Try.f4 false true false false) := by
  refine returnsInHanded_of_change_sized (C := Try.checked) own started (by kernel_rfl) Try.func4
    (ChangeSpec.witness6 (enc := enc) (C := Try.checked) false ⟨#[], #[.slice none 0 0, .slice none 0 0], []⟩ 8 (by kernel_rfl) (by kernel_rfl) (by kernel_rfl) (by kernel_rfl)) ?_
  intro W base args ds gs before hval0 hW hcnd hsz0 _
  have hsz : (DataW.weightsEach Try.prog (Try.f4.params.toList ++ Rows.poolBalancesSpec.plain.varTypes Try.prog) (ds ++ gs)).all (· ≤ reachBytes) = true := hsz0
  clear hsz0
  have hval : ∀ (j : Nat) t v, Try.f4.params[j]? = some t → args[j]? = some v → Value.okWide Try.prog W .any base t v := hval0
  have hW' := hW
  obtain ⟨p, q, hA0, hV, rfl, hfz, hnd⟩ := hW
  have hA : DataW.TrodAll enc Try.prog W 0 (fun _ => true) true Try.f4.params.toList args.toList ds p := hA0
  rw [Try.params4] at hA hval hsz
  obtain ⟨v0, vs0, d0, ds0, p0, q0, hargs, rfl, rfl, h0, r0⟩ := trodAll_cons hA
  obtain ⟨v1, vs1, d1, ds1, p1, q1, rfl, rfl, rfl, h1, r1⟩ := trodAll_cons r0
  obtain ⟨rfl, rfl, rfl⟩ := trodAll_nil r1
  obtain rfl : args = #[v0, v1] := by cases args; simp_all
  obtain ⟨rfl, rfl⟩ := trodVars_none hV
  have kk0 := h0
  have lt0 : ∀ x ∈ p0, x.block < W.heap.size := by obtain ⟨m, hm⟩ := kk0; exact DataW.trod_lt m _ _ _ hm
  have kk1 := h1
  have lt1 : ∀ x ∈ p1, x.block < W.heap.size := by obtain ⟨m, hm⟩ := kk1; exact DataW.trod_lt m _ _ _ hm
  obtain ⟨A0, n0, c0, rfl⟩ := okWide_slice Try.underlying44 (hval 0 44 v0 rfl rfl)
  obtain ⟨z0, w0, s0⟩ : ∃ zs, IntsIn .i64 W A0 n0 c0 zs ∧ n0 * 8 ≤ 140737488351232 := by
    obtain ⟨fuel, hf⟩ := h0
    rcases open_ints Try.underlying44 Try.underlying3 (by kernel_rfl) hf with ⟨hcs, _⟩ | ⟨x, l, c, zs, hcs, _, hl, hm, hz, hx, hcell, hwz⟩
    · simp [Value.cells] at hcs
      obtain ⟨rfl, rfl, rfl⟩ := hcs
      exact ⟨[], .inl ⟨rfl, rfl, rfl, rfl⟩, by decide⟩
    · simp [Value.cells] at hcs
      obtain ⟨rfl, rfl, rfl⟩ := hcs
      simp only [Prod.mk.injEq] at hx
      obtain ⟨rfl, rfl⟩ := hx
      have hb := sized_slice hsz (j := 0) (t := 44) (e := 3) rfl rfl Try.underlying44
      rw [bytes3] at hb
      simp only [lits, List.length_map, List.length_take, List.length_drop, reachBytes] at hb
      simp only [if_true] at hz
      exact ⟨zs, .inr ⟨_, rfl, hl, hm, hz, hcell, hwz⟩, by omega⟩
  obtain ⟨A1, c1, z1, rfl, w1, ss1⟩ := open_boolsT (hval 1 45 v1 rfl rfl) h1
  clear hA0 hval0
  refine (walk W A0 n0 c0 z0 w0 s0 A1 c1 z1 w1 ss1).mono fun e W' ⟨he, bel⟩ => ?_
  subst he
  exact ⟨_, rfl, _, _, _, [], _, [], hW', trodAll_mk1 (shut_bool Try.underlying4 _), (trodAll_cons_mk (Below.trod laidOut (by kernel_rfl) (of_decide_eq_true (by kernel_rfl)) kk0 bel lt0) (trodAll_cons_mk (Below.trod laidOut (by kernel_rfl) (of_decide_eq_true (by kernel_rfl)) kk1 bel lt1) trodAll_mk0)), rfl, bel.frame _, fun h => by cases h⟩

theorem over : Rows.poolBalancesRow.holds Try.pinned (OpenSpec.ofChange Rows.poolBalancesSpec) :=
  OpenClaim.holds_of_wide 4 Try.f4 rfl rfl rfl rfl rfl rfl rfl ⟨rfl, rfl, rfl, rfl, rfl⟩ rfl rfl rfl rfl rfl (by kernel_rfl) Try.func4 (by kernel_rfl)
    (of_decide_eq_true (by kernel_rfl)) (by unfold Func.isWrapper; first | (rw [if_pos (by decide +kernel)]; kernel_rfl) | (rw [if_neg (by decide +kernel)]; exact ⟨rfl, rfl⟩))
    (fun os started H enc _ => lifted os started H enc)

/-- the statement -/
theorem proved : Rows.PoolBalancesSaid :=
  over
#print axioms proved
end Go.Proofs.Ytdgbnibnhajfoaa.poolBalances
