/- The document's reader of images: lists of numbers, of stops. -/
import Derived.Test.YtcchbbnlcilanaaDcB
import Derived.Test.YtcchbbnlcilanaaImU
namespace Go.Proofs.Ytcchbbnlcilanaa
open Go.ChangeShapes Go.WideShapes Go.ChangeAt Go.RowKit
set_option linter.unusedVariables false
set_option linter.unusedSimpArgs false
theorem dec_n {N j : Nat} (h : j < N) : ((N - j : Nat) : Int) - 1 = ((N - (j + 1) : Nat) : Int) := by omega
set_option maxHeartbeats 8000000 in
set_option maxRecDepth 100000 in
theorem inints_any (lo g : Nat) (l : List Nat) (ok : Bool) (w : World) (h : InS w lo g l ok) : Calls Try.prog 31 #[.pointer (some ⟨g, 0, none⟩)] w (InE lo g (fun w v xs => eL eInt 3 1 w [v] xs) rdInts l ok w) := by
  obtain ⟨i0, hi, hz0, hz1, hz2⟩ := info_parts z_Int
  have C := incount_s lo g l ok w h
  have hgl := h.lt
  clear h
  go_enter Try.func31, Try.ntmps31
  go_wp2_with fail
  refine C.mono ?_; rintro e u ⟨hf1, N, l1, ok1, rfl, hN, hS1, hr1⟩
  replace hr1 := Lib.hid hr1
  go_wp2_with fail
  go_loopw [3, 4] (fun v n wr => ∃ (j : Nat) (xs : List Int) (lk : List Nat) (okk : Bool), j ≤ N ∧ n = .int .i64 ((N - j : Nat) : Int) ∧ xs.length = j ∧ LO eInt 3 1 w.heap.size wr v xs ∧ RFr w wr g g ∧ InS wr lo g lk okk ∧ Hid (StR ok1 okk rdN N l1 j xs lk)) (fun _ n _ => (intOf n).toNat)
  case atStart => exact ⟨0, [], l1, ok1, Nat.zero_le _, rfl, rfl, LO.nil _ _ _ _ _, hf1, hS1, Lib.hid (StR.start _ _ _ _)⟩
  case round =>
    clear hf1 hS1
    obtain ⟨j, xs, lk, okk, hj, rfl, hxl, hL, hfr, hSk, hst⟩ := hrel
    have c1 := hSk.okc.1
    have hexit : (okk = true → j = N) → InE lo g (fun w v xs => eL eInt 3 1 w [v] xs) rdInts l ok w (.returned u3) wr := fun hjn => ⟨hfr, u3, xs, lk, okk, rfl, hL.lv, hSk, SR.list hr1.out (hst.out.done hjn)⟩
    cases okk with
    | false =>
      replace hexit := Lib.hid (hexit (by simp))
      clear hL hfr hSk hst
      go_wp2
      all_goals (go_ret; exact hexit.out)
    | true =>
      by_cases hlt : j < N
      · have n0 : (0 : Int) < ((N - j : Nat) : Int) := by omega
        have hofr := hSk.off [] (by decide)
        have hoff0 := hSk.lt
        have CN := fun u => innum_s lo g lk true u
        clear hexit
        go_wp2_with fail
        refine (CN _ hSk).mono ?_; rintro e u2 ⟨hf2, z, l2, ok2, rfl, hz, hS2, hr2⟩
        have hL2 := hL.keep keepE_int hf2 hgl.2 hgl.2 hofr hofr
        have hfr2 := hfr.trans hf2
        replace hst := Lib.hid (hst.out.next hlt hr2)
        clear hL hfr hSk hf2 hr2 CN hofr c1
        have hbs : w.heap.size ≤ u2.heap.size := hfr2.size
        go_wp2_with (at_builtin; (refine wpList_append_LO rfl (.tmp 17) (.tmp 20) 22 rfl i0 (.int .i64 0) Try.underlying22 hi hz0 hz1 hz2 rfl (by decide) hL2 keepE_int (by decide) hbs (x := z) rfl rfl (by intro y hy; simp at hy; subst hy; rfl) rfl rfl (by simp [World.setCell]) (by omega) (by decide) ?_; intro v' w4 b hL4 hb1 hb2 _; have hS4 := Lib.hid (hS2.keep hb2 (by omega) (by omega) (by omega) (by omega)); have hfr4 := Lib.hid (hfr2.newer' hb2 (.inl hb1) (.inl hb1)); clear hb2 hL2))
        go_roundw
        case rel => exact ⟨j + 1, xs ++ [z], l2, ok2, by omega, by rw [← dec_n hlt], by simp [hxl], hL4, hfr4.out, hS4.out, hst⟩
        case measure => simp [intOf]; omega
      · obtain rfl : j = N := by omega
        replace hexit := Lib.hid (hexit fun _ => rfl)
        clear hL hfr hSk hst
        go_wp2
        all_goals (go_ret; exact hexit.out)
set_option maxHeartbeats 8000000 in
set_option maxRecDepth 100000 in
theorem instops_any (lo g : Nat) (l : List Nat) (ok : Bool) (w : World) (h : InS w lo g l ok) : Calls Try.prog 46 #[.pointer (some ⟨g, 0, none⟩)] w (InE lo g (fun w v xs => eL eStop 120 2 w [v] xs) (rdL rdStop) l ok w) := by
  obtain ⟨i0, hi, hz0, hz1, hz2⟩ := info_parts z_Stop
  have C := incount_s lo g l ok w h
  have hgl := h.lt
  clear h
  go_enter Try.func46, Try.ntmps46
  go_wp2_with fail
  refine C.mono ?_; rintro e u ⟨hf1, N, l1, ok1, rfl, hN, hS1, hr1⟩
  replace hr1 := Lib.hid hr1
  go_wp2_with fail
  go_loopw [3, 4] (fun v n wr => ∃ (j : Nat) (xs : List TStop) (lk : List Nat) (okk : Bool), j ≤ N ∧ n = .int .i64 ((N - j : Nat) : Int) ∧ xs.length = j ∧ LO eStop 120 2 w.heap.size wr v xs ∧ RFr w wr g g ∧ InS wr lo g lk okk ∧ Hid (StR ok1 okk rdStop N l1 j xs lk)) (fun _ n _ => (intOf n).toNat)
  case atStart => exact ⟨0, [], l1, ok1, Nat.zero_le _, rfl, rfl, LO.nil _ _ _ _ _, hf1, hS1, Lib.hid (StR.start _ _ _ _)⟩
  case round =>
    clear hf1 hS1
    obtain ⟨j, xs, lk, okk, hj, rfl, hxl, hL, hfr, hSk, hst⟩ := hrel
    have c1 := hSk.okc.1
    have hexit : (okk = true → j = N) → InE lo g (fun w v xs => eL eStop 120 2 w [v] xs) (rdL rdStop) l ok w (.returned u3) wr := fun hjn => ⟨hfr, u3, xs, lk, okk, rfl, hL.lv, hSk, SR.list hr1.out (hst.out.done hjn)⟩
    cases okk with
    | false =>
      replace hexit := Lib.hid (hexit (by simp))
      clear hL hfr hSk hst
      go_wp2
      all_goals (go_ret; exact hexit.out)
    | true =>
      by_cases hlt : j < N
      · have n0 : (0 : Int) < ((N - j : Nat) : Int) := by omega
        have hofr := hSk.off [] (by decide)
        have hoff0 := hSk.lt
        clear hexit
        go_wp2_with fail
        refine (innum_s lo g lk true _ hSk).mono ?_; rintro e u2 ⟨hf2, z1, l2, ok2, rfl, hz1', hS2, hr2⟩
        have T1 := St.made hf2 hS2 hoff0.2 120 #[.int .i64 z1, .int .i64 0]
        clear hf2 hS2 c1
        go_wp2_with fail
        refine (innum_s lo g l2 ok2 _ T1.rd).mono ?_; rintro e u3 ⟨hf3, z2, l3, ok3, rfl, hz2', hS3, hr3⟩
        have T2 := T1.call hf3 hS3
        have T3 := T2.set_ 1 (.int .i64 z2)
        have b0 := T2.cell 0 rfl
        have b1 := T2.cell 1 rfl
        have f1 := T2.free 1
        simp only [List.setIfInBounds_toArray, List.set_cons_zero, List.set_cons_succ] at T3
        have hL4 := hL.keep keep_Stop T3.fr hgl.2 hgl.2 hofr hofr
        have hfr4 := hfr.trans T3.fr
        have hbs : w.heap.size ≤ (u3.setCell ⟨u2.heap.size, 1, none⟩ (.int .i64 z2)).heap.size := hfr4.size
        have hx4 : eStop (u3.setCell ⟨u2.heap.size, 1, none⟩ (.int .i64 z2)) [.int .i64 z1, .int .i64 z2] (z1, z2) := ⟨[.int .i64 z1], [.int .i64 z2], rfl, rfl, rfl⟩
        replace hst := Lib.hid (hst.out.next hlt (hr2.p hr3))
        clear hL hfr hSk hr2 hr3 hofr T1 T2 hf3 hS3
        go_wp2_with (at_builtin; (refine wpList_append_LO rfl (.tmp 24) (.tmp 26) 47 rfl i0 (.agg #[.int .i64 0, .int .i64 0]) Try.underlying47 hi hz0 hz1 hz2 rfl (by decide) hL4 keep_Stop (by decide) hbs (x := (z1, z2)) hx4 rfl (by intro y hy; simp at hy; rcases hy with rfl | rfl <;> rfl) rfl rfl (by simp [World.setCell]) (by omega) (by decide) ?_; intro v' w4 b hL5 hb1 hb2 _; have hS5 := Lib.hid (T3.rd.keep hb2 (by omega) (by omega) (by omega) (by omega)); have hfr5 := Lib.hid (hfr4.newer' hb2 (.inl hb1) (.inl hb1)); clear hb2 hL4 T3))
        go_roundw
        case rel => exact ⟨j + 1, xs ++ [(z1, z2)], l3, ok3, by omega, by rw [← dec_n hlt], by simp [hxl], hL5, hfr5.out, hS5.out, hst⟩
        case measure => simp [intOf]; omega
      · obtain rfl : j = N := by omega
        replace hexit := Lib.hid (hexit fun _ => rfl)
        clear hL hfr hSk hst
        go_wp2
        all_goals (go_ret; exact hexit.out)
end Go.Proofs.Ytcchbbnlcilanaa
