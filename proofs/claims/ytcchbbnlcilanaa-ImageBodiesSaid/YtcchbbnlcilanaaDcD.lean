/- The document's reader of images: rows of states (made by genDc.py). -/
import Derived.Test.YtcchbbnlcilanaaDcC
import Derived.Test.YtcchbbnlcilanaaImY
namespace Go.Proofs.Ytcchbbnlcilanaa
open Go.ChangeShapes Go.WideShapes Go.ChangeAt Go.RowKit
set_option linter.unusedVariables false
set_option linter.unusedSimpArgs false
set_option maxHeartbeats 16000000 in
set_option maxRecDepth 100000 in
theorem inrow_any (lo g : Nat) (l : List Nat) (ok : Bool) (w : World) (h : InS w lo g l ok) : Calls Try.prog 33 #[.pointer (some ⟨g, 0, none⟩)] w (InE lo g (fun w v x => ∃ vs, v = .agg vs.toArray ∧ vs.length = 8 ∧ eRow w vs x) rdRow l ok w) := by
  obtain ⟨iTail, hiTail, hzTail, hyTail, hwTail⟩ := info_parts z_Tail
  have hgl := h.lt
  have hb1 := m1 w (.cells #[.int .i64 0, .int .i64 0, .bool false, .int .i64 0, .slice none 0 0, .int .i64 0, .int .i64 0, .slice none 0 0] 50)
  have hRb := Blk.made w 50 #[.int .i64 0, .int .i64 0, .bool false, .int .i64 0, .slice none 0 0, .int .i64 0, .int .i64 0, .slice none 0 0]
  have h1 := h.later hb1
  have hg1 : g < (w.alloc (.cells #[.int .i64 0, .int .i64 0, .bool false, .int .i64 0, .slice none 0 0, .int .i64 0, .int .i64 0, .slice none 0 0] 50)).heap.size := Nat.lt_of_lt_of_le hgl.2 hb1.size
  clear h
  go_enter Try.func33, Try.ntmps33
  go_upto_region 1 with (fail)
  generalize w.alloc (.cells #[.int .i64 0, .int .i64 0, .bool false, .int .i64 0, .slice none 0 0, .int .i64 0, .int .i64 0, .slice none 0 0] 50) = w1 at *
  go_wp2_with fail
  refine (innum_s lo g l ok _ h1).mono ?_; rintro e y1 ⟨hf1, z1, l1, ok1, rfl, hz1, hS1, hr1⟩
  have T := St.made hf1 hS1 hg1 50 #[.int .i64 z1, .int .i64 0, .bool false, .int .i64 0, .slice none 0 0, .int .i64 0, .int .i64 0, .slice none 0 0]
  clear hf1 hS1 h1
  go_wp2_with fail
  refine (innum_s lo g l1 ok1 _ T.rd).mono ?_; rintro e y2 ⟨hf2, z2, l2, ok2, rfl, hz2, hS2, hr2⟩
  replace T := T.call hf2 hS2
  clear hf2 hS2
  have b2 := T.cell 1 rfl
  have f2 := T.free 1
  replace T := T.set_ 1 (.int .i64 z2)
  simp only [List.setIfInBounds_toArray, List.set_cons_zero, List.set_cons_succ] at T
  go_wp2_with fail
  refine (innum_s lo g l2 ok2 _ T.rd).mono ?_; rintro e y3 ⟨hf3, z3, l3, ok3, rfl, hz3, hS3, hr3⟩
  replace T := T.call hf3 hS3
  clear hf3 hS3
  obtain ⟨cg, cf⟩ := T.rd.okc
  go_upto_region 4 with (fail)
  go_cut [27] from 15 to 29 (fun p w' => St lo g w1 w' l3 (ok3 && decide (0 ≤ z3) && decide (z3 ≤ 1)) (y1.heap.size) 50 #[.int .i64 z1, .int .i64 z2, .bool false, .int .i64 0, .slice none 0 0, .int .i64 0, .int .i64 0, .slice none 0 0])
  case first =>
    have hfin : ∀ q, q = (ok3 && decide (0 ≤ z3) && decide (z3 ≤ 1)) → St lo g w1 (y3.setCell ⟨g, 1, none⟩ (.bool q)) l3 (ok3 && decide (0 ≤ z3) && decide (z3 ≤ 1)) (y1.heap.size) 50 #[.int .i64 z1, .int .i64 z2, .bool false, .int .i64 0, .slice none 0 0, .int .i64 0, .int .i64 0, .slice none 0 0] := fun q hq => by
      rw [← hq]
      have hgX : y1.heap.size ≠ g := by have := T.lt0; have := T.new; omega
      obtain ⟨h1, h2, h3, A, c, h4, h5, h6⟩ := T.rd
      have hset := h4.put_ 1 (.bool q)
      simp only [List.setIfInBounds_toArray, List.set_cons_zero, List.set_cons_succ] at hset
      exact ⟨T.fr.trans (RFr.of_set y3 g g 1 _), InS.put T.rd (sg y3 g 1 _) hset h1 h5 h3 h6, T.blk.keepR (RFr.of_set y3 g g 1 _) hgX hgX, T.lt0, T.new⟩
    replace hfin := Lib.hid hfin
    clear T
    cases ok3 with
    | false =>
      go_wp2
      all_goals (go_meet; exact hfin.out _ rfl)
    | true =>
      by_cases b1 : 0 ≤ z3
      · by_cases b2 : z3 ≤ 1
        · go_wp2
          all_goals (go_meet; exact hfin.out _ (by simp [b1, b2]))
        · go_wp2
          all_goals (go_meet; exact hfin.out _ (by simp [b1, b2]))
      · go_wp2
        all_goals (go_meet; exact hfin.out _ (by simp; omega))
  case rest =>
  clear cg cf T
  have T := hcut
  clear hcut
  replace hr3 := hr3.t
  generalize (ok3 && decide (0 ≤ z3) && decide (z3 ≤ 1)) = okb3 at *
  have b3 := T.cell 2 rfl
  have f3 := T.free 2
  replace T := T.set_ 2 (.bool (z3 == 1))
  simp only [List.setIfInBounds_toArray, List.set_cons_zero, List.set_cons_succ] at T
  go_wp2_with fail
  refine (innum_s lo g l3 okb3 _ T.rd).mono ?_; rintro e y4 ⟨hf4, z4, l4, ok4, rfl, hz4, hS4, hr4⟩
  replace T := T.call hf4 hS4
  clear hf4 hS4
  have b4 := T.cell 3 rfl
  have f4 := T.free 3
  replace T := T.set_ 3 (.int .i64 z4)
  simp only [List.setIfInBounds_toArray, List.set_cons_zero, List.set_cons_succ] at T
  go_wp2_with fail
  refine (instops_any lo g l4 ok4 _ T.rd).mono ?_; rintro e y5 ⟨hf5, v5, x5, l5, ok5, rfl, hE5, hS5, hr5⟩
  obtain ⟨A5, n5, c5, rfl⟩ := eL_form hE5
  replace hE5 : eL eStop 120 2 y5 [.slice A5 n5 c5] x5 := hE5
  replace T := T.call hf5 hS5
  clear hf5 hS5
  have b5 := T.cell 4 rfl
  have f5 := T.free 4
  replace hE5 := (keepE_L 120 2 keep_Stop) _ _ _ _ _ _ hE5 (RFr.of_set _ (y1.heap.size) (y1.heap.size) 4 (.slice A5 n5 c5)) (Off.of_ty T.blk.ty (by decide)) (Off.of_ty T.blk.ty (by decide))
  replace T := T.set_ 4 (.slice A5 n5 c5)
  simp only [List.setIfInBounds_toArray, List.set_cons_zero, List.set_cons_succ] at T
  go_wp2_with fail
  refine (innum_s lo g l5 ok5 _ T.rd).mono ?_; rintro e y6 ⟨hf6, z6, l6, ok6, rfl, hz6, hS6, hr6⟩
  replace hE5 := (keepE_L 120 2 keep_Stop) _ _ _ _ _ _ hE5 hf6 (T.rd.off _ (by decide)) (T.rd.off _ (by decide))
  replace T := T.call hf6 hS6
  clear hf6 hS6
  have b6 := T.cell 5 rfl
  have f6 := T.free 5
  replace hE5 := (keepE_L 120 2 keep_Stop) _ _ _ _ _ _ hE5 (RFr.of_set _ (y1.heap.size) (y1.heap.size) 5 (.int .i64 z6)) (Off.of_ty T.blk.ty (by decide)) (Off.of_ty T.blk.ty (by decide))
  replace T := T.set_ 5 (.int .i64 z6)
  simp only [List.setIfInBounds_toArray, List.set_cons_zero, List.set_cons_succ] at T
  go_wp2_with fail
  refine (innum_s lo g l6 ok6 _ T.rd).mono ?_; rintro e y7 ⟨hf7, z7, l7, ok7, rfl, hz7, hS7, hr7⟩
  replace hE5 := (keepE_L 120 2 keep_Stop) _ _ _ _ _ _ hE5 hf7 (T.rd.off _ (by decide)) (T.rd.off _ (by decide))
  replace T := T.call hf7 hS7
  clear hf7 hS7
  have b7 := T.cell 6 rfl
  have f7 := T.free 6
  replace hE5 := (keepE_L 120 2 keep_Stop) _ _ _ _ _ _ hE5 (RFr.of_set _ (y1.heap.size) (y1.heap.size) 6 (.int .i64 z7)) (Off.of_ty T.blk.ty (by decide)) (Off.of_ty T.blk.ty (by decide))
  replace T := T.set_ 6 (.int .i64 z7)
  simp only [List.setIfInBounds_toArray, List.set_cons_zero, List.set_cons_succ] at T
  go_wp2_with fail
  refine (incount_s lo g l7 ok7 _ T.rd).mono ?_; rintro e y8 ⟨hf8, N8, l8, ok8, rfl, hN8, hS8, hr8⟩
  replace hE5 := (keepE_L 120 2 keep_Stop) _ _ _ _ _ _ hE5 hf8 (T.rd.off _ (by decide)) (T.rd.off _ (by decide))
  replace T := T.call hf8 hS8
  clear hf8 hS8
  replace hr8 := Lib.hid hr8
  go_wp2_with fail
  go_loopw [5] (fun n wr => ∃ (j : Nat) (xs : List TTail) (lk : List Nat) (okk : Bool) (v : Value), j ≤ N8 ∧ n = .int .i64 ((N8 - j : Nat) : Int) ∧ xs.length = j ∧ LO eTail 52 3 w1.heap.size wr v xs ∧ St lo g w1 wr lk okk (y1.heap.size) 50 #[.int .i64 z1, .int .i64 z2, .bool (z3 == 1), .int .i64 z4, .slice A5 n5 c5, .int .i64 z6, .int .i64 z7, v] ∧ eL eStop 120 2 wr [.slice A5 n5 c5] x5 ∧ Hid (StR ok8 okk rdTail N8 l8 j xs lk)) (fun n _ => (intOf n).toNat)
  case atStart => exact ⟨0, [], l8, ok8, _, Nat.zero_le _, rfl, rfl, LO.nil _ _ _ _ _, T, hE5, Lib.hid (StR.start _ _ _ _)⟩
  case round =>
    clear T hE5
    obtain ⟨j, xs9, lk9, okk9, v9, hj, rfl, hxl, hL, T, hE5, hst⟩ := hrel
    obtain ⟨A9, n9, c9, rfl⟩ := hL.form
    have cg := T.rd.okc.1
    go_upto_region 11 with (fail)
    go_cut [54] from 47 to 54 (fun p w' => p = .bool (okk9 && decide (j < N8)) ∧ wr = w')
    case first =>
      clear hL T hst hE5
      by_cases hlt : j < N8
      · have n0 : (0 : Int) < ((N8 - j : Nat) : Int) := by omega
        have e1 : decide (j < N8) = true := decide_eq_true hlt
        cases okk9 with
        | false => go_wp2; go_meet; exact ⟨by rw [e1]; rfl, rfl⟩
        | true => go_wp2; go_meet; exact ⟨by rw [e1]; rfl, rfl⟩
      · have n0 : ¬ (0 : Int) < ((N8 - j : Nat) : Int) := by omega
        have e1 : decide (j < N8) = false := decide_eq_false hlt
        cases okk9 with
        | false => go_wp2; go_meet; exact ⟨by rw [e1]; rfl, rfl⟩
        | true => go_wp2; go_meet; exact ⟨by rw [e1]; rfl, rfl⟩
    case rest =>
    obtain ⟨rfl, rfl⟩ := hcut
    have hq : ((okk9 && decide (j < N8)) = true → okk9 = true ∧ j < N8) ∧ ((okk9 && decide (j < N8)) = false → okk9 = true → j = N8) := ⟨fun h => by simpa using h, fun h hk => by rw [hk] at h; simp at h; omega⟩
    replace hq := Lib.hid hq
    generalize (okk9 && decide (j < N8)) = qb at *
    cases qb with
    | true =>
      obtain ⟨rfl, hlt⟩ := hq.out.1 rfl
      clear hq
      have hofr := T.rd.off [120, 52] (by decide)
      have hg0 := T.rd.lt
      have h10 := T.lt0
      have hX0 := T.new
      go_wp2_with fail
      refine (innum_s lo g lk9 true _ T.rd).mono ?_; rintro e y10 ⟨hf10, z10, l10, ok10, rfl, hz10, hS10, hr10⟩
      replace hE5 := (keepE_L 120 2 keep_Stop) _ _ _ _ _ _ hE5 hf10 (T.rd.off _ (by decide)) (T.rd.off _ (by decide))
      have Q := St.made hf10 hS10 hg0.2 52 #[.int .i64 z10, .int .i64 0, .slice none 0 0]
      replace hE5 := (keepE_L 120 2 keep_Stop) _ _ _ _ _ _ hE5 (RFr.of_below (m1 y10 (.cells #[.int .i64 z10, .int .i64 0, .slice none 0 0] 52)) g g) (hS10.off _ (by decide)) (hS10.off _ (by decide))
      clear hf10 hS10
      go_wp2_with fail
      refine (innum_s lo g l10 ok10 _ Q.rd).mono ?_; rintro e y11 ⟨hf11, z11, l11, ok11, rfl, hz11, hS11, hr11⟩
      replace hE5 := (keepE_L 120 2 keep_Stop) _ _ _ _ _ _ hE5 hf11 (Q.rd.off _ (by decide)) (Q.rd.off _ (by decide))
      replace Q := Q.call hf11 hS11
      clear hf11 hS11
      have b11 := Q.cell 1 rfl
      have f11 := Q.free 1
      replace hE5 := (keepE_L 120 2 keep_Stop) _ _ _ _ _ _ hE5 (RFr.of_set _ (y10.heap.size) (y10.heap.size) 1 (.int .i64 z11)) (Off.of_ty Q.blk.ty (by decide)) (Off.of_ty Q.blk.ty (by decide))
      replace Q := Q.set_ 1 (.int .i64 z11)
      simp only [List.setIfInBounds_toArray, List.set_cons_zero, List.set_cons_succ] at Q
      go_wp2_with fail
      refine (instops_any lo g l11 ok11 _ Q.rd).mono ?_; rintro e y12 ⟨hf12, v12, x12, l12, ok12, rfl, hE12, hS12, hr12⟩
      obtain ⟨A12, n12, c12, rfl⟩ := eL_form hE12
      replace hE12 : eL eStop 120 2 y12 [.slice A12 n12 c12] x12 := hE12
      replace hE5 := (keepE_L 120 2 keep_Stop) _ _ _ _ _ _ hE5 hf12 (Q.rd.off _ (by decide)) (Q.rd.off _ (by decide))
      replace Q := Q.call hf12 hS12
      clear hf12 hS12
      have b12 := Q.cell 2 rfl
      have f12 := Q.free 2
      replace hE5 := (keepE_L 120 2 keep_Stop) _ _ _ _ _ _ hE5 (RFr.of_set _ (y10.heap.size) (y10.heap.size) 2 (.slice A12 n12 c12)) (Off.of_ty Q.blk.ty (by decide)) (Off.of_ty Q.blk.ty (by decide))
      replace hE12 := (keepE_L 120 2 keep_Stop) _ _ _ _ _ _ hE12 (RFr.of_set _ (y10.heap.size) (y10.heap.size) 2 (.slice A12 n12 c12)) (Off.of_ty Q.blk.ty (by decide)) (Off.of_ty Q.blk.ty (by decide))
      replace Q := Q.set_ 2 (.slice A12 n12 c12)
      simp only [List.setIfInBounds_toArray, List.set_cons_zero, List.set_cons_succ] at Q
      have a0 := Q.cell 0 rfl
      have a1 := Q.cell 1 rfl
      have a2 := Q.cell 2 rfl
      have T2 := T.call Q.fr Q.rd
      have tc := T2.cell 7 rfl
      have tf := T2.free 7
      have hL4 := hL.keep keep_Tail Q.fr h10 h10 (hofr.sub (by decide)) (hofr.sub (by decide))
      have hx4 : eTail _ [.int .i64 z10, .int .i64 z11, .slice A12 n12 c12] (z10, z11, x12) := ⟨[.int .i64 z10], [.int .i64 z11, .slice A12 n12 c12], rfl, rfl, ⟨[.int .i64 z11], [.slice A12 n12 c12], rfl, rfl, hE12⟩⟩
      have hbs := T2.fr.size
      replace hst := Lib.hid (hst.out.next hlt ((hr10).p ((hr11).p hr12)))
      clear hL hofr cg T hr10 hr11 hr12
      have hbs' := Nat.le_trans hbs (Nat.le_refl _)
      go_wp2_with (at_builtin; (refine wpList_append_LO (tys := [120, 81, 50]) rfl (.tmp 67) (.tmp 69) 48 rfl iTail (.agg #[.int .i64 0, .int .i64 0, .slice none 0 0]) Try.underlying48 hiTail hzTail hyTail hwTail rfl (by decide) hL4 (keep_Tail.more (by decide)) (by decide) hbs (x := (z10, z11, x12)) hx4 rfl (by intro y hy; simp at hy; rcases hy with rfl | rfl | rfl <;> rfl) rfl rfl (by simp [World.setCell]) (by omega) (by decide) ?_; intro v' w4 b hL5 hb1 hb2 hb3; obtain ⟨A', n', c', rfl⟩ := hL5.form; have hXb : y1.heap.size ≠ b := (fun e => hb3 50 (by decide) (e ▸ T2.blk.ty)); have T4 : St lo g w1 w4 l12 ok12 (y1.heap.size) 50 #[.int .i64 z1, .int .i64 z2, .bool (z3 == 1), .int .i64 z4, .slice A5 n5 c5, .int .i64 z6, .int .i64 z7, .slice A9 n9 c9] := ⟨T2.fr.newer' hb2 (.inl hb1) (.inl hb1), T2.rd.keep hb2 (by omega) (by omega) (by omega) (by omega), T2.blk.keepR hb2 hXb hXb, T2.lt0, T2.new⟩; have hE54 := (keepE_L 120 2 keep_Stop) _ _ _ _ _ _ hE5 hb2 (hb3.sub (by decide)) (hb3.sub (by decide)); have tc4 := T4.cell 7 rfl; have tf4 := T4.free 7; clear hb2 hb3 hL4 hx4 T2 Q hE5))
      have T5 := T4.set_ 7 (.slice A' n' c')
      simp only [List.setIfInBounds_toArray, List.set_cons_zero, List.set_cons_succ] at T5
      have hL6 := hL5.keep_set (b := y1.heap.size) (i := 7) (u := .slice A' n' c') keep_Tail (Off.of_ty T4.blk.ty (by decide)) T4.blk.ty (by decide)
      have hE55 := (keepE_L 120 2 keep_Stop) _ _ _ _ _ _ hE54 (RFr.of_set _ (y1.heap.size) (y1.heap.size) 7 (.slice A' n' c')) (Off.of_ty T4.blk.ty (by decide)) (Off.of_ty T4.blk.ty (by decide))
      go_roundw
      case rel => exact ⟨j + 1, xs9 ++ [(z10, z11, x12)], l12, ok12, _, by omega, by rw [← dec_n hlt], by simp [hxl], hL6, T5, hE55, hst⟩
      case measure => simp [intOf]; omega
    | false =>
      have hjn := hq.out.2 rfl
      clear hq cg
      have hE9 := hL.lv
      have hrl9 := SR.list hr8.out (hst.out.done hjn)
      clear hL hst hxl hj hjn
      have hx9 : eRow wr [.int .i64 z1, .int .i64 z2, .bool (z3 == 1), .int .i64 z4, .slice A5 n5 c5, .int .i64 z6, .int .i64 z7, .slice A9 n9 c9] ((z1, z2, (z3 == 1), z4, x5), (z6, z7, xs9)) := ⟨[.int .i64 z1, .int .i64 z2, .bool (z3 == 1), .int .i64 z4, .slice A5 n5 c5], [.int .i64 z6, .int .i64 z7, .slice A9 n9 c9], rfl, ⟨[.int .i64 z1], [.int .i64 z2, .bool (z3 == 1), .int .i64 z4, .slice A5 n5 c5], rfl, rfl, ⟨[.int .i64 z2], [.bool (z3 == 1), .int .i64 z4, .slice A5 n5 c5], rfl, rfl, ⟨[.bool (z3 == 1)], [.int .i64 z4, .slice A5 n5 c5], rfl, rfl, ⟨[.int .i64 z4], [.slice A5 n5 c5], rfl, rfl, hE5⟩⟩⟩⟩, ⟨[.int .i64 z6], [.int .i64 z7, .slice A9 n9 c9], rfl, rfl, ⟨[.int .i64 z7], [.slice A9 n9 c9], rfl, rfl, hE9⟩⟩⟩
      have sr9 := Lib.hid ((((hr1).p ((hr2).p ((hr3).p ((hr4).p hr5))))).p ((hr6).p ((hr7).p hrl9)))
      have a0 := T.cell 0 rfl
      have a1 := T.cell 1 rfl
      have a2 := T.cell 2 rfl
      have a3 := T.cell 3 rfl
      have a4 := T.cell 4 rfl
      have a5 := T.cell 5 rfl
      have a6 := T.cell 6 rfl
      have a7 := T.cell 7 rfl
      have TR : St lo g w wr lk9 okk9 w.heap.size 50 #[.int .i64 0, .int .i64 0, .bool false, .int .i64 0, .slice none 0 0, .int .i64 0, .int .i64 0, .slice none 0 0] := ⟨(RFr.of_below hb1 g g).trans T.fr, T.rd, hRb.keepR T.fr (by omega) (by omega), hgl.2, Nat.le_refl _⟩
      have r0 := TR.cell 0 rfl
      have s0 := TR.free 0
      have r1 := TR.cell 1 rfl
      have s1 := TR.free 1
      have r2 := TR.cell 2 rfl
      have s2 := TR.free 2
      have r3 := TR.cell 3 rfl
      have s3 := TR.free 3
      have r4 := TR.cell 4 rfl
      have s4 := TR.free 4
      have r5 := TR.cell 5 rfl
      have s5 := TR.free 5
      have r6 := TR.cell 6 rfl
      have s6 := TR.free 6
      have r7 := TR.cell 7 rfl
      have s7 := TR.free 7
      clear T hRb hb1 hE5 hE9
      have x0_ := r0
      have x1_ := r1
      have x2_ := r2
      have x3_ := r3
      have x4_ := r4
      have x5_ := r5
      have x6_ := r6
      have x7_ := r7
      replace hx9 := keep_Row _ _ _ _ _ _ hx9 (RFr.of_set _ w.heap.size w.heap.size 0 (.int .i64 z1)) (Off.of_ty TR.blk.ty (by decide)) (Off.of_ty TR.blk.ty (by decide))
      replace TR := TR.set_ 0 (.int .i64 z1)
      simp only [List.setIfInBounds_toArray, List.set_cons_zero, List.set_cons_succ] at TR
      replace hx9 := keep_Row _ _ _ _ _ _ hx9 (RFr.of_set _ w.heap.size w.heap.size 1 (.int .i64 z2)) (Off.of_ty TR.blk.ty (by decide)) (Off.of_ty TR.blk.ty (by decide))
      replace TR := TR.set_ 1 (.int .i64 z2)
      simp only [List.setIfInBounds_toArray, List.set_cons_zero, List.set_cons_succ] at TR
      replace hx9 := keep_Row _ _ _ _ _ _ hx9 (RFr.of_set _ w.heap.size w.heap.size 2 (.bool (z3 == 1))) (Off.of_ty TR.blk.ty (by decide)) (Off.of_ty TR.blk.ty (by decide))
      replace TR := TR.set_ 2 (.bool (z3 == 1))
      simp only [List.setIfInBounds_toArray, List.set_cons_zero, List.set_cons_succ] at TR
      replace hx9 := keep_Row _ _ _ _ _ _ hx9 (RFr.of_set _ w.heap.size w.heap.size 3 (.int .i64 z4)) (Off.of_ty TR.blk.ty (by decide)) (Off.of_ty TR.blk.ty (by decide))
      replace TR := TR.set_ 3 (.int .i64 z4)
      simp only [List.setIfInBounds_toArray, List.set_cons_zero, List.set_cons_succ] at TR
      replace hx9 := keep_Row _ _ _ _ _ _ hx9 (RFr.of_set _ w.heap.size w.heap.size 4 (.slice A5 n5 c5)) (Off.of_ty TR.blk.ty (by decide)) (Off.of_ty TR.blk.ty (by decide))
      replace TR := TR.set_ 4 (.slice A5 n5 c5)
      simp only [List.setIfInBounds_toArray, List.set_cons_zero, List.set_cons_succ] at TR
      replace hx9 := keep_Row _ _ _ _ _ _ hx9 (RFr.of_set _ w.heap.size w.heap.size 5 (.int .i64 z6)) (Off.of_ty TR.blk.ty (by decide)) (Off.of_ty TR.blk.ty (by decide))
      replace TR := TR.set_ 5 (.int .i64 z6)
      simp only [List.setIfInBounds_toArray, List.set_cons_zero, List.set_cons_succ] at TR
      replace hx9 := keep_Row _ _ _ _ _ _ hx9 (RFr.of_set _ w.heap.size w.heap.size 6 (.int .i64 z7)) (Off.of_ty TR.blk.ty (by decide)) (Off.of_ty TR.blk.ty (by decide))
      replace TR := TR.set_ 6 (.int .i64 z7)
      simp only [List.setIfInBounds_toArray, List.set_cons_zero, List.set_cons_succ] at TR
      replace hx9 := keep_Row _ _ _ _ _ _ hx9 (RFr.of_set _ w.heap.size w.heap.size 7 (.slice A9 n9 c9)) (Off.of_ty TR.blk.ty (by decide)) (Off.of_ty TR.blk.ty (by decide))
      replace TR := TR.set_ 7 (.slice A9 n9 c9)
      simp only [List.setIfInBounds_toArray, List.set_cons_zero, List.set_cons_succ] at TR
      have q0 := TR.cell 0 rfl
      have q1 := TR.cell 1 rfl
      have q2 := TR.cell 2 rfl
      have q3 := TR.cell 3 rfl
      have q4 := TR.cell 4 rfl
      have q5 := TR.cell 5 rfl
      have q6 := TR.cell 6 rfl
      have q7 := TR.cell 7 rfl
      simp only [List.getElem_toArray, List.getElem_cons_zero, List.getElem_cons_succ] at q0 q1 q2 q3 q4 q5 q6 q7
      have hfin := Lib.hid (show InE lo g (fun w v x => ∃ vs, v = .agg vs.toArray ∧ vs.length = 8 ∧ eRow w vs x) rdRow l ok w (.returned (.agg #[.int .i64 z1, .int .i64 z2, .bool (z3 == 1), .int .i64 z4, .slice A5 n5 c5, .int .i64 z6, .int .i64 z7, .slice A9 n9 c9])) _ from ⟨TR.fr, _, _, _, _, rfl, ⟨[.int .i64 z1, .int .i64 z2, .bool (z3 == 1), .int .i64 z4, .slice A5 n5 c5, .int .i64 z6, .int .i64 z7, .slice A9 n9 c9], rfl, rfl, hx9⟩, TR.rd, sr9.out⟩)
      clear hx9 TR sr9
      go_wp2
      exact bodyPost_ret (v := .agg #[.int .i64 z1, .int .i64 z2, .bool (z3 == 1), .int .i64 z4, .slice A5 n5 c5, .int .i64 z6, .int .i64 z7, .slice A9 n9 c9]) (by simp [results, Try.results33, go_sem, q0, q1, q2, q3, q4, q5, q6, q7]) rfl hfin.out
end Go.Proofs.Ytcchbbnlcilanaa
