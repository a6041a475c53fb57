/- The document's reader of images: codes (made by genDc.py). -/
import Derived.Test.YtcchbbnlcilanaaDcC
import Derived.Test.YtcchbbnlcilanaaImZb
namespace Go.Proofs.Ytcchbbnlcilanaa
open Go.ChangeShapes Go.WideShapes Go.ChangeAt Go.RowKit
set_option linter.unusedVariables false
set_option linter.unusedSimpArgs false
set_option maxHeartbeats 16000000 in
set_option maxRecDepth 100000 in
theorem incode_any (lo g : Nat) (l : List Nat) (ok : Bool) (w : World) (h : InS w lo g l ok) : Calls Try.prog 34 #[.pointer (some ⟨g, 0, none⟩)] w (InE lo g (fun w v x => ∃ vs, v = .agg vs.toArray ∧ vs.length = 5 ∧ eCode w vs x) rdCode l ok w) := by
  obtain ⟨iInput, hiInput, hzInput, hyInput, hwInput⟩ := info_parts z_Input
  obtain ⟨iValue, hiValue, hzValue, hyValue, hwValue⟩ := info_parts z_Value
  obtain ⟨iIns, hiIns, hzIns, hyIns, hwIns⟩ := info_parts z_Ins
  have hgl := h.lt
  have hb1 := m1 w (.cells #[.int .i64 0, .int .i64 0, .slice none 0 0, .slice none 0 0, .slice none 0 0] 57)
  have hRb := Blk.made w 57 #[.int .i64 0, .int .i64 0, .slice none 0 0, .slice none 0 0, .slice none 0 0]
  have h1 := h.later hb1
  have hg1 : g < (w.alloc (.cells #[.int .i64 0, .int .i64 0, .slice none 0 0, .slice none 0 0, .slice none 0 0] 57)).heap.size := Nat.lt_of_lt_of_le hgl.2 hb1.size
  clear h
  go_enter Try.func34, Try.ntmps34
  go_upto_region 1 with (fail)
  generalize w.alloc (.cells #[.int .i64 0, .int .i64 0, .slice none 0 0, .slice none 0 0, .slice none 0 0] 57) = w1 at *
  go_wp2_with fail
  refine (innum_s lo g l ok _ h1).mono ?_; rintro e y1 ⟨hf1, z1, l1, ok1, rfl, hz1, hS1, hr1⟩
  have T := St.made hf1 hS1 hg1 57 #[.int .i64 z1, .int .i64 0, .slice none 0 0, .slice none 0 0, .slice none 0 0]
  clear hf1 hS1 h1
  go_wp2_with fail
  refine (innum_s lo g l1 ok1 _ T.rd).mono ?_; rintro e y2 ⟨hf2, z2, l2, ok2, rfl, hz2, hS2, hr2⟩
  replace T := T.call hf2 hS2
  clear hf2 hS2
  have b2 := T.cell 1 rfl
  have f2 := T.free 1
  replace T := T.set_ 1 (.int .i64 z2)
  simp only [List.setIfInBounds_toArray, List.set_cons_zero, List.set_cons_succ] at T
  go_wp2_with fail
  refine (incount_s lo g l2 ok2 _ T.rd).mono ?_; rintro e y3 ⟨hf3, N3, l3, ok3, rfl, hN3, hS3, hr3⟩
  replace T := T.call hf3 hS3
  clear hf3 hS3
  replace hr3 := Lib.hid hr3
  go_wp2_with fail
  go_loopw [4] (fun n wr => ∃ (j : Nat) (xs : List TInput) (lk : List Nat) (okk : Bool) (v : Value), j ≤ N3 ∧ n = .int .i64 ((N3 - j : Nat) : Int) ∧ xs.length = j ∧ LO eInput 95 4 w1.heap.size wr v xs ∧ St lo g w1 wr lk okk (y1.heap.size) 57 #[.int .i64 z1, .int .i64 z2, v, .slice none 0 0, .slice none 0 0] ∧ Hid (StR ok3 okk rdInput N3 l3 j xs lk)) (fun n _ => (intOf n).toNat)
  case atStart => exact ⟨0, [], l3, ok3, _, Nat.zero_le _, rfl, rfl, LO.nil _ _ _ _ _, T, Lib.hid (StR.start _ _ _ _)⟩
  case round =>
    clear T
    obtain ⟨j, xs4, lk4, okk4, v4, hj, rfl, hxl, hL, T, hst⟩ := hrel
    obtain ⟨A4, n4, c4, rfl⟩ := hL.form
    have cg := T.rd.okc.1
    go_upto_region 4 with (fail)
    go_cut [25] from 18 to 25 (fun p w' => p = .bool (okk4 && decide (j < N3)) ∧ wr = w')
    case first =>
      clear hL T hst
      by_cases hlt : j < N3
      · have n0 : (0 : Int) < ((N3 - j : Nat) : Int) := by omega
        have e1 : decide (j < N3) = true := decide_eq_true hlt
        cases okk4 with
        | false => go_wp2; go_meet; exact ⟨by rw [e1]; rfl, rfl⟩
        | true => go_wp2; go_meet; exact ⟨by rw [e1]; rfl, rfl⟩
      · have n0 : ¬ (0 : Int) < ((N3 - j : Nat) : Int) := by omega
        have e1 : decide (j < N3) = false := decide_eq_false hlt
        cases okk4 with
        | false => go_wp2; go_meet; exact ⟨by rw [e1]; rfl, rfl⟩
        | true => go_wp2; go_meet; exact ⟨by rw [e1]; rfl, rfl⟩
    case rest =>
    obtain ⟨rfl, rfl⟩ := hcut
    have hq : ((okk4 && decide (j < N3)) = true → okk4 = true ∧ j < N3) ∧ ((okk4 && decide (j < N3)) = false → okk4 = true → j = N3) := ⟨fun h => by simpa using h, fun h hk => by rw [hk] at h; simp at h; omega⟩
    replace hq := Lib.hid hq
    generalize (okk4 && decide (j < N3)) = qb at *
    cases qb with
    | true =>
      obtain ⟨rfl, hlt⟩ := hq.out.1 rfl
      clear hq
      have hofr := T.rd.off [120, 52] (by decide)
      have hg0 := T.rd.lt
      have h10 := T.lt0
      have hX0 := T.new
      go_wp2_with fail
      refine (innum_s lo g lk4 true _ T.rd).mono ?_; rintro e y5 ⟨hf5, z5, l5, ok5, rfl, hz5, hS5, hr5⟩
      have Q := St.made hf5 hS5 hg0.2 95 #[.int .i64 z5, .int .i64 0, .int .i64 0, .int .i64 0]
      clear hf5 hS5
      go_wp2_with fail
      refine (innum_s lo g l5 ok5 _ Q.rd).mono ?_; rintro e y6 ⟨hf6, z6, l6, ok6, rfl, hz6, hS6, hr6⟩
      replace Q := Q.call hf6 hS6
      clear hf6 hS6
      have b6 := Q.cell 1 rfl
      have f6 := Q.free 1
      replace Q := Q.set_ 1 (.int .i64 z6)
      simp only [List.setIfInBounds_toArray, List.set_cons_zero, List.set_cons_succ] at Q
      go_wp2_with fail
      refine (innum_s lo g l6 ok6 _ Q.rd).mono ?_; rintro e y7 ⟨hf7, z7, l7, ok7, rfl, hz7, hS7, hr7⟩
      replace Q := Q.call hf7 hS7
      clear hf7 hS7
      have b7 := Q.cell 2 rfl
      have f7 := Q.free 2
      replace Q := Q.set_ 2 (.int .i64 z7)
      simp only [List.setIfInBounds_toArray, List.set_cons_zero, List.set_cons_succ] at Q
      go_wp2_with fail
      refine (innum_s lo g l7 ok7 _ Q.rd).mono ?_; rintro e y8 ⟨hf8, z8, l8, ok8, rfl, hz8, hS8, hr8⟩
      replace Q := Q.call hf8 hS8
      clear hf8 hS8
      have b8 := Q.cell 3 rfl
      have f8 := Q.free 3
      replace Q := Q.set_ 3 (.int .i64 z8)
      simp only [List.setIfInBounds_toArray, List.set_cons_zero, List.set_cons_succ] at Q
      have a0 := Q.cell 0 rfl
      have a1 := Q.cell 1 rfl
      have a2 := Q.cell 2 rfl
      have a3 := Q.cell 3 rfl
      have T2 := T.call Q.fr Q.rd
      have tc := T2.cell 2 rfl
      have tf := T2.free 2
      have hL4 := hL.keep keep_Input Q.fr h10 h10 (hofr.sub (by decide)) (hofr.sub (by decide))
      have hx4 : ∀ W, eInput W [.int .i64 z5, .int .i64 z6, .int .i64 z7, .int .i64 z8] (z5, z6, z7, z8) := fun W => ⟨[.int .i64 z5], [.int .i64 z6, .int .i64 z7, .int .i64 z8], rfl, rfl, ⟨[.int .i64 z6], [.int .i64 z7, .int .i64 z8], rfl, rfl, ⟨[.int .i64 z7], [.int .i64 z8], rfl, rfl, rfl⟩⟩⟩
      have hbs := T2.fr.size
      replace hst := Lib.hid (hst.out.next hlt ((hr5).p ((hr6).p ((hr7).p hr8))))
      clear hL hofr cg T hr5 hr6 hr7 hr8
      have hbs' := Nat.le_trans hbs (Nat.le_refl _)
      go_wp2_with (at_builtin; (refine wpList_append_LO (tys := [81, 57]) rfl (.tmp 41) (.tmp 43) 53 rfl iInput (.agg #[.int .i64 0, .int .i64 0, .int .i64 0, .int .i64 0]) Try.underlying53 hiInput hzInput hyInput hwInput rfl (by decide) hL4 (keep_Input.more (by decide)) (by decide) hbs (x := (z5, z6, z7, z8)) (hx4 _) rfl (by intro y hy; simp at hy; rcases hy with rfl | rfl | rfl | rfl <;> rfl) rfl rfl (by simp [World.setCell]) (by omega) (by decide) ?_; intro v' w4 b hL5 hb1 hb2 hb3; obtain ⟨A', n', c', rfl⟩ := hL5.form; have hXb : y1.heap.size ≠ b := (fun e => hb3 57 (by decide) (e ▸ T2.blk.ty)); have T4 : St lo g w1 w4 l8 ok8 (y1.heap.size) 57 #[.int .i64 z1, .int .i64 z2, .slice A4 n4 c4, .slice none 0 0, .slice none 0 0] := ⟨T2.fr.newer' hb2 (.inl hb1) (.inl hb1), T2.rd.keep hb2 (by omega) (by omega) (by omega) (by omega), T2.blk.keepR hb2 hXb hXb, T2.lt0, T2.new⟩; have tc4 := T4.cell 2 rfl; have tf4 := T4.free 2; clear hb2 hb3 hL4 hx4 T2 Q))
      have T5 := T4.set_ 2 (.slice A' n' c')
      simp only [List.setIfInBounds_toArray, List.set_cons_zero, List.set_cons_succ] at T5
      have hL6 := hL5.keep_set (b := y1.heap.size) (i := 2) (u := .slice A' n' c') keep_Input (Off.of_ty T4.blk.ty (by decide)) T4.blk.ty (by decide)
      go_roundw
      case rel => exact ⟨j + 1, xs4 ++ [(z5, z6, z7, z8)], l8, ok8, _, by omega, by rw [← dec_n hlt], by simp [hxl], hL6, T5, hst⟩
      case measure => simp [intOf]; omega
    | false =>
      have hjn := hq.out.2 rfl
      clear hq cg
      have hE4 := hL.lv
      have hrl4 := SR.list hr3.out (hst.out.done hjn)
      clear hL hst hxl hj hjn
      go_wp2_with fail
      refine (incount_s lo g lk4 okk4 _ T.rd).mono ?_; rintro e y9 ⟨hf9, N9, l9, ok9, rfl, hN9, hS9, hr9⟩
      replace hE4 := (keepE_L 95 4 keep_Input) _ _ _ _ _ _ hE4 hf9 (T.rd.off _ (by decide)) (T.rd.off _ (by decide))
      replace T := T.call hf9 hS9
      clear hf9 hS9
      replace hr9 := Lib.hid hr9
      go_wp2_with fail
      go_loopw [6] (fun n wr => ∃ (j : Nat) (xs : List TValue) (lk : List Nat) (okk : Bool) (v : Value), j ≤ N9 ∧ n = .int .i64 ((N9 - j : Nat) : Int) ∧ xs.length = j ∧ LO eValue 98 2 w1.heap.size wr v xs ∧ St lo g w1 wr lk okk (y1.heap.size) 57 #[.int .i64 z1, .int .i64 z2, .slice A4 n4 c4, v, .slice none 0 0] ∧ eL eInput 95 4 wr [.slice A4 n4 c4] xs4 ∧ Hid (StR ok9 okk rdValue N9 l9 j xs lk)) (fun n _ => (intOf n).toNat)
      case atStart => exact ⟨0, [], l9, ok9, _, Nat.zero_le _, rfl, rfl, LO.nil _ _ _ _ _, T, hE4, Lib.hid (StR.start _ _ _ _)⟩
      case round =>
        clear T hE4
        obtain ⟨j, xs10, lk10, okk10, v10, hj, rfl, hxl, hL, T, hE4, hst⟩ := hrel
        obtain ⟨A10, n10, c10, rfl⟩ := hL.form
        have cg := T.rd.okc.1
        go_upto_region 12 with (fail)
        go_cut [55] from 48 to 55 (fun p w' => p = .bool (okk10 && decide (j < N9)) ∧ wr = w')
        case first =>
          clear hL T hst hE4
          by_cases hlt : j < N9
          · have n0 : (0 : Int) < ((N9 - j : Nat) : Int) := by omega
            have e1 : decide (j < N9) = true := decide_eq_true hlt
            cases okk10 with
            | false => go_wp2; go_meet; exact ⟨by rw [e1]; rfl, rfl⟩
            | true => go_wp2; go_meet; exact ⟨by rw [e1]; rfl, rfl⟩
          · have n0 : ¬ (0 : Int) < ((N9 - j : Nat) : Int) := by omega
            have e1 : decide (j < N9) = false := decide_eq_false hlt
            cases okk10 with
            | false => go_wp2; go_meet; exact ⟨by rw [e1]; rfl, rfl⟩
            | true => go_wp2; go_meet; exact ⟨by rw [e1]; rfl, rfl⟩
        case rest =>
        obtain ⟨rfl, rfl⟩ := hcut
        have hq : ((okk10 && decide (j < N9)) = true → okk10 = true ∧ j < N9) ∧ ((okk10 && decide (j < N9)) = false → okk10 = true → j = N9) := ⟨fun h => by simpa using h, fun h hk => by rw [hk] at h; simp at h; omega⟩
        replace hq := Lib.hid hq
        generalize (okk10 && decide (j < N9)) = qb at *
        cases qb with
        | true =>
          obtain ⟨rfl, hlt⟩ := hq.out.1 rfl
          clear hq
          have hofr := T.rd.off [120, 52] (by decide)
          have hg0 := T.rd.lt
          have h10 := T.lt0
          have hX0 := T.new
          go_wp2_with fail
          refine (innum_s lo g lk10 true _ T.rd).mono ?_; rintro e y11 ⟨hf11, z11, l11, ok11, rfl, hz11, hS11, hr11⟩
          replace hE4 := (keepE_L 95 4 keep_Input) _ _ _ _ _ _ hE4 hf11 (T.rd.off _ (by decide)) (T.rd.off _ (by decide))
          have Q := St.made hf11 hS11 hg0.2 98 #[.int .i64 z11, .int .u64 0]
          replace hE4 := (keepE_L 95 4 keep_Input) _ _ _ _ _ _ hE4 (RFr.of_below (m1 y11 (.cells #[.int .i64 z11, .int .u64 0] 98)) g g) (hS11.off _ (by decide)) (hS11.off _ (by decide))
          clear hf11 hS11
          go_wp2_with fail
          refine (inuint_s lo g l11 ok11 _ Q.rd).mono ?_; rintro e y12 ⟨hf12, z12, l12, ok12, rfl, hz12, hS12, hr12⟩
          replace hE4 := (keepE_L 95 4 keep_Input) _ _ _ _ _ _ hE4 hf12 (Q.rd.off _ (by decide)) (Q.rd.off _ (by decide))
          replace Q := Q.call hf12 hS12
          clear hf12 hS12
          have b12 := Q.cell 1 rfl
          have f12 := Q.free 1
          replace hE4 := (keepE_L 95 4 keep_Input) _ _ _ _ _ _ hE4 (RFr.of_set _ (y11.heap.size) (y11.heap.size) 1 (.int .u64 (z12 : Int))) (Off.of_ty Q.blk.ty (by decide)) (Off.of_ty Q.blk.ty (by decide))
          replace Q := Q.set_ 1 (.int .u64 (z12 : Int))
          simp only [List.setIfInBounds_toArray, List.set_cons_zero, List.set_cons_succ] at Q
          have a0 := Q.cell 0 rfl
          have a1 := Q.cell 1 rfl
          have T2 := T.call Q.fr Q.rd
          have tc := T2.cell 3 rfl
          have tf := T2.free 3
          have hL4 := hL.keep keep_Value Q.fr h10 h10 (hofr.sub (by decide)) (hofr.sub (by decide))
          have hx4 : ∀ W, eValue W [.int .i64 z11, .int .u64 (z12 : Int)] (z11, z12) := fun W => ⟨[.int .i64 z11], [.int .u64 (z12 : Int)], rfl, rfl, rfl⟩
          have hbs := T2.fr.size
          replace hst := Lib.hid (hst.out.next hlt ((hr11).p hr12))
          clear hL hofr cg T hr11 hr12
          have hbs' := Nat.le_trans hbs (Nat.le_refl _)
          go_wp2_with (at_builtin; (refine wpList_append_LO (tys := [81, 57, 95]) rfl (.tmp 65) (.tmp 67) 54 rfl iValue (.agg #[.int .i64 0, .int .u64 0]) Try.underlying54 hiValue hzValue hyValue hwValue rfl (by decide) hL4 (keep_Value.more (by decide)) (by decide) hbs (x := (z11, z12)) (hx4 _) rfl (by intro y hy; simp at hy; rcases hy with rfl | rfl <;> rfl) rfl rfl (by simp [World.setCell]) (by omega) (by decide) ?_; intro v' w4 b hL5 hb1 hb2 hb3; obtain ⟨A', n', c', rfl⟩ := hL5.form; have hXb : y1.heap.size ≠ b := (fun e => hb3 57 (by decide) (e ▸ T2.blk.ty)); have T4 : St lo g w1 w4 l12 ok12 (y1.heap.size) 57 #[.int .i64 z1, .int .i64 z2, .slice A4 n4 c4, .slice A10 n10 c10, .slice none 0 0] := ⟨T2.fr.newer' hb2 (.inl hb1) (.inl hb1), T2.rd.keep hb2 (by omega) (by omega) (by omega) (by omega), T2.blk.keepR hb2 hXb hXb, T2.lt0, T2.new⟩; have hE44 := (keepE_L 95 4 keep_Input) _ _ _ _ _ _ hE4 hb2 (hb3.sub (by decide)) (hb3.sub (by decide)); have tc4 := T4.cell 3 rfl; have tf4 := T4.free 3; clear hb2 hb3 hL4 hx4 T2 Q hE4))
          have T5 := T4.set_ 3 (.slice A' n' c')
          simp only [List.setIfInBounds_toArray, List.set_cons_zero, List.set_cons_succ] at T5
          have hL6 := hL5.keep_set (b := y1.heap.size) (i := 3) (u := .slice A' n' c') keep_Value (Off.of_ty T4.blk.ty (by decide)) T4.blk.ty (by decide)
          have hE45 := (keepE_L 95 4 keep_Input) _ _ _ _ _ _ hE44 (RFr.of_set _ (y1.heap.size) (y1.heap.size) 3 (.slice A' n' c')) (Off.of_ty T4.blk.ty (by decide)) (Off.of_ty T4.blk.ty (by decide))
          go_roundw
          case rel => exact ⟨j + 1, xs10 ++ [(z11, z12)], l12, ok12, _, by omega, by rw [← dec_n hlt], by simp [hxl], hL6, T5, hE45, hst⟩
          case measure => simp [intOf]; omega
        | false =>
          have hjn := hq.out.2 rfl
          clear hq cg
          have hE10 := hL.lv
          have hrl10 := SR.list hr9.out (hst.out.done hjn)
          clear hL hst hxl hj hjn
          go_wp2_with fail
          refine (incount_s lo g lk10 okk10 _ T.rd).mono ?_; rintro e y13 ⟨hf13, N13, l13, ok13, rfl, hN13, hS13, hr13⟩
          replace hE4 := (keepE_L 95 4 keep_Input) _ _ _ _ _ _ hE4 hf13 (T.rd.off _ (by decide)) (T.rd.off _ (by decide))
          replace hE10 := (keepE_L 98 2 keep_Value) _ _ _ _ _ _ hE10 hf13 (T.rd.off _ (by decide)) (T.rd.off _ (by decide))
          replace T := T.call hf13 hS13
          clear hf13 hS13
          replace hr13 := Lib.hid hr13
          go_wp2_with fail
          go_loopw [8] (fun n wr => ∃ (j : Nat) (xs : List TIns) (lk : List Nat) (okk : Bool) (v : Value), j ≤ N13 ∧ n = .int .i64 ((N13 - j : Nat) : Int) ∧ xs.length = j ∧ LO eIns 101 4 w1.heap.size wr v xs ∧ St lo g w1 wr lk okk (y1.heap.size) 57 #[.int .i64 z1, .int .i64 z2, .slice A4 n4 c4, .slice A10 n10 c10, v] ∧ eL eInput 95 4 wr [.slice A4 n4 c4] xs4 ∧ eL eValue 98 2 wr [.slice A10 n10 c10] xs10 ∧ Hid (StR ok13 okk rdIns N13 l13 j xs lk)) (fun n _ => (intOf n).toNat)
          case atStart => exact ⟨0, [], l13, ok13, _, Nat.zero_le _, rfl, rfl, LO.nil _ _ _ _ _, T, hE4, hE10, Lib.hid (StR.start _ _ _ _)⟩
          case round =>
            clear T hE4 hE10
            obtain ⟨j, xs14, lk14, okk14, v14, hj, rfl, hxl, hL, T, hE4, hE10, hst⟩ := hrel
            obtain ⟨A14, n14, c14, rfl⟩ := hL.form
            have cg := T.rd.okc.1
            go_upto_region 18 with (fail)
            go_cut [79] from 72 to 79 (fun p w' => p = .bool (okk14 && decide (j < N13)) ∧ wr = w')
            case first =>
              clear hL T hst hE4 hE10
              by_cases hlt : j < N13
              · have n0 : (0 : Int) < ((N13 - j : Nat) : Int) := by omega
                have e1 : decide (j < N13) = true := decide_eq_true hlt
                cases okk14 with
                | false => go_wp2; go_meet; exact ⟨by rw [e1]; rfl, rfl⟩
                | true => go_wp2; go_meet; exact ⟨by rw [e1]; rfl, rfl⟩
              · have n0 : ¬ (0 : Int) < ((N13 - j : Nat) : Int) := by omega
                have e1 : decide (j < N13) = false := decide_eq_false hlt
                cases okk14 with
                | false => go_wp2; go_meet; exact ⟨by rw [e1]; rfl, rfl⟩
                | true => go_wp2; go_meet; exact ⟨by rw [e1]; rfl, rfl⟩
            case rest =>
            obtain ⟨rfl, rfl⟩ := hcut
            have hq : ((okk14 && decide (j < N13)) = true → okk14 = true ∧ j < N13) ∧ ((okk14 && decide (j < N13)) = false → okk14 = true → j = N13) := ⟨fun h => by simpa using h, fun h hk => by rw [hk] at h; simp at h; omega⟩
            replace hq := Lib.hid hq
            generalize (okk14 && decide (j < N13)) = qb at *
            cases qb with
            | true =>
              obtain ⟨rfl, hlt⟩ := hq.out.1 rfl
              clear hq
              have hofr := T.rd.off [120, 52] (by decide)
              have hg0 := T.rd.lt
              have h10 := T.lt0
              have hX0 := T.new
              go_wp2_with fail
              refine (innum_s lo g lk14 true _ T.rd).mono ?_; rintro e y15 ⟨hf15, z15, l15, ok15, rfl, hz15, hS15, hr15⟩
              replace hE4 := (keepE_L 95 4 keep_Input) _ _ _ _ _ _ hE4 hf15 (T.rd.off _ (by decide)) (T.rd.off _ (by decide))
              replace hE10 := (keepE_L 98 2 keep_Value) _ _ _ _ _ _ hE10 hf15 (T.rd.off _ (by decide)) (T.rd.off _ (by decide))
              have Q := St.made hf15 hS15 hg0.2 101 #[.int .i64 z15, .int .i64 0, .int .i64 0, .int .i64 0]
              replace hE4 := (keepE_L 95 4 keep_Input) _ _ _ _ _ _ hE4 (RFr.of_below (m1 y15 (.cells #[.int .i64 z15, .int .i64 0, .int .i64 0, .int .i64 0] 101)) g g) (hS15.off _ (by decide)) (hS15.off _ (by decide))
              replace hE10 := (keepE_L 98 2 keep_Value) _ _ _ _ _ _ hE10 (RFr.of_below (m1 y15 (.cells #[.int .i64 z15, .int .i64 0, .int .i64 0, .int .i64 0] 101)) g g) (hS15.off _ (by decide)) (hS15.off _ (by decide))
              clear hf15 hS15
              go_wp2_with fail
              refine (innum_s lo g l15 ok15 _ Q.rd).mono ?_; rintro e y16 ⟨hf16, z16, l16, ok16, rfl, hz16, hS16, hr16⟩
              replace hE4 := (keepE_L 95 4 keep_Input) _ _ _ _ _ _ hE4 hf16 (Q.rd.off _ (by decide)) (Q.rd.off _ (by decide))
              replace hE10 := (keepE_L 98 2 keep_Value) _ _ _ _ _ _ hE10 hf16 (Q.rd.off _ (by decide)) (Q.rd.off _ (by decide))
              replace Q := Q.call hf16 hS16
              clear hf16 hS16
              have b16 := Q.cell 1 rfl
              have f16 := Q.free 1
              replace hE4 := (keepE_L 95 4 keep_Input) _ _ _ _ _ _ hE4 (RFr.of_set _ (y15.heap.size) (y15.heap.size) 1 (.int .i64 z16)) (Off.of_ty Q.blk.ty (by decide)) (Off.of_ty Q.blk.ty (by decide))
              replace hE10 := (keepE_L 98 2 keep_Value) _ _ _ _ _ _ hE10 (RFr.of_set _ (y15.heap.size) (y15.heap.size) 1 (.int .i64 z16)) (Off.of_ty Q.blk.ty (by decide)) (Off.of_ty Q.blk.ty (by decide))
              replace Q := Q.set_ 1 (.int .i64 z16)
              simp only [List.setIfInBounds_toArray, List.set_cons_zero, List.set_cons_succ] at Q
              go_wp2_with fail
              refine (innum_s lo g l16 ok16 _ Q.rd).mono ?_; rintro e y17 ⟨hf17, z17, l17, ok17, rfl, hz17, hS17, hr17⟩
              replace hE4 := (keepE_L 95 4 keep_Input) _ _ _ _ _ _ hE4 hf17 (Q.rd.off _ (by decide)) (Q.rd.off _ (by decide))
              replace hE10 := (keepE_L 98 2 keep_Value) _ _ _ _ _ _ hE10 hf17 (Q.rd.off _ (by decide)) (Q.rd.off _ (by decide))
              replace Q := Q.call hf17 hS17
              clear hf17 hS17
              have b17 := Q.cell 2 rfl
              have f17 := Q.free 2
              replace hE4 := (keepE_L 95 4 keep_Input) _ _ _ _ _ _ hE4 (RFr.of_set _ (y15.heap.size) (y15.heap.size) 2 (.int .i64 z17)) (Off.of_ty Q.blk.ty (by decide)) (Off.of_ty Q.blk.ty (by decide))
              replace hE10 := (keepE_L 98 2 keep_Value) _ _ _ _ _ _ hE10 (RFr.of_set _ (y15.heap.size) (y15.heap.size) 2 (.int .i64 z17)) (Off.of_ty Q.blk.ty (by decide)) (Off.of_ty Q.blk.ty (by decide))
              replace Q := Q.set_ 2 (.int .i64 z17)
              simp only [List.setIfInBounds_toArray, List.set_cons_zero, List.set_cons_succ] at Q
              go_wp2_with fail
              refine (innum_s lo g l17 ok17 _ Q.rd).mono ?_; rintro e y18 ⟨hf18, z18, l18, ok18, rfl, hz18, hS18, hr18⟩
              replace hE4 := (keepE_L 95 4 keep_Input) _ _ _ _ _ _ hE4 hf18 (Q.rd.off _ (by decide)) (Q.rd.off _ (by decide))
              replace hE10 := (keepE_L 98 2 keep_Value) _ _ _ _ _ _ hE10 hf18 (Q.rd.off _ (by decide)) (Q.rd.off _ (by decide))
              replace Q := Q.call hf18 hS18
              clear hf18 hS18
              have b18 := Q.cell 3 rfl
              have f18 := Q.free 3
              replace hE4 := (keepE_L 95 4 keep_Input) _ _ _ _ _ _ hE4 (RFr.of_set _ (y15.heap.size) (y15.heap.size) 3 (.int .i64 z18)) (Off.of_ty Q.blk.ty (by decide)) (Off.of_ty Q.blk.ty (by decide))
              replace hE10 := (keepE_L 98 2 keep_Value) _ _ _ _ _ _ hE10 (RFr.of_set _ (y15.heap.size) (y15.heap.size) 3 (.int .i64 z18)) (Off.of_ty Q.blk.ty (by decide)) (Off.of_ty Q.blk.ty (by decide))
              replace Q := Q.set_ 3 (.int .i64 z18)
              simp only [List.setIfInBounds_toArray, List.set_cons_zero, List.set_cons_succ] at Q
              have a0 := Q.cell 0 rfl
              have a1 := Q.cell 1 rfl
              have a2 := Q.cell 2 rfl
              have a3 := Q.cell 3 rfl
              have T2 := T.call Q.fr Q.rd
              have tc := T2.cell 4 rfl
              have tf := T2.free 4
              have hL4 := hL.keep keep_Ins Q.fr h10 h10 (hofr.sub (by decide)) (hofr.sub (by decide))
              have hx4 : ∀ W, eIns W [.int .i64 z15, .int .i64 z16, .int .i64 z17, .int .i64 z18] (z15, z16, z17, z18) := fun W => ⟨[.int .i64 z15], [.int .i64 z16, .int .i64 z17, .int .i64 z18], rfl, rfl, ⟨[.int .i64 z16], [.int .i64 z17, .int .i64 z18], rfl, rfl, ⟨[.int .i64 z17], [.int .i64 z18], rfl, rfl, rfl⟩⟩⟩
              have hbs := T2.fr.size
              replace hst := Lib.hid (hst.out.next hlt ((hr15).p ((hr16).p ((hr17).p hr18))))
              clear hL hofr cg T hr15 hr16 hr17 hr18
              have hbs' := Nat.le_trans hbs (Nat.le_refl _)
              go_wp2_with (at_builtin; (refine wpList_append_LO (tys := [81, 57, 95, 98]) rfl (.tmp 95) (.tmp 97) 55 rfl iIns (.agg #[.int .i64 0, .int .i64 0, .int .i64 0, .int .i64 0]) Try.underlying55 hiIns hzIns hyIns hwIns rfl (by decide) hL4 (keep_Ins.more (by decide)) (by decide) hbs (x := (z15, z16, z17, z18)) (hx4 _) rfl (by intro y hy; simp at hy; rcases hy with rfl | rfl | rfl | rfl <;> rfl) rfl rfl (by simp [World.setCell]) (by omega) (by decide) ?_; intro v' w4 b hL5 hb1 hb2 hb3; obtain ⟨A', n', c', rfl⟩ := hL5.form; have hXb : y1.heap.size ≠ b := (fun e => hb3 57 (by decide) (e ▸ T2.blk.ty)); have T4 : St lo g w1 w4 l18 ok18 (y1.heap.size) 57 #[.int .i64 z1, .int .i64 z2, .slice A4 n4 c4, .slice A10 n10 c10, .slice A14 n14 c14] := ⟨T2.fr.newer' hb2 (.inl hb1) (.inl hb1), T2.rd.keep hb2 (by omega) (by omega) (by omega) (by omega), T2.blk.keepR hb2 hXb hXb, T2.lt0, T2.new⟩; have hE44 := (keepE_L 95 4 keep_Input) _ _ _ _ _ _ hE4 hb2 (hb3.sub (by decide)) (hb3.sub (by decide)); have hE104 := (keepE_L 98 2 keep_Value) _ _ _ _ _ _ hE10 hb2 (hb3.sub (by decide)) (hb3.sub (by decide)); have tc4 := T4.cell 4 rfl; have tf4 := T4.free 4; clear hb2 hb3 hL4 hx4 T2 Q hE4 hE10))
              have T5 := T4.set_ 4 (.slice A' n' c')
              simp only [List.setIfInBounds_toArray, List.set_cons_zero, List.set_cons_succ] at T5
              have hL6 := hL5.keep_set (b := y1.heap.size) (i := 4) (u := .slice A' n' c') keep_Ins (Off.of_ty T4.blk.ty (by decide)) T4.blk.ty (by decide)
              have hE45 := (keepE_L 95 4 keep_Input) _ _ _ _ _ _ hE44 (RFr.of_set _ (y1.heap.size) (y1.heap.size) 4 (.slice A' n' c')) (Off.of_ty T4.blk.ty (by decide)) (Off.of_ty T4.blk.ty (by decide))
              have hE105 := (keepE_L 98 2 keep_Value) _ _ _ _ _ _ hE104 (RFr.of_set _ (y1.heap.size) (y1.heap.size) 4 (.slice A' n' c')) (Off.of_ty T4.blk.ty (by decide)) (Off.of_ty T4.blk.ty (by decide))
              go_roundw
              case rel => exact ⟨j + 1, xs14 ++ [(z15, z16, z17, z18)], l18, ok18, _, by omega, by rw [← dec_n hlt], by simp [hxl], hL6, T5, hE45, hE105, hst⟩
              case measure => simp [intOf]; omega
            | false =>
              have hjn := hq.out.2 rfl
              clear hq cg
              have hE14 := hL.lv
              have hrl14 := SR.list hr13.out (hst.out.done hjn)
              clear hL hst hxl hj hjn
              have hx9 : eCode wr [.int .i64 z1, .int .i64 z2, .slice A4 n4 c4, .slice A10 n10 c10, .slice A14 n14 c14] (z1, z2, xs4, xs10, xs14) := ⟨[.int .i64 z1], [.int .i64 z2, .slice A4 n4 c4, .slice A10 n10 c10, .slice A14 n14 c14], rfl, rfl, ⟨[.int .i64 z2], [.slice A4 n4 c4, .slice A10 n10 c10, .slice A14 n14 c14], rfl, rfl, ⟨[.slice A4 n4 c4], [.slice A10 n10 c10, .slice A14 n14 c14], rfl, hE4, ⟨[.slice A10 n10 c10], [.slice A14 n14 c14], rfl, hE10, hE14⟩⟩⟩⟩
              have sr9 := Lib.hid (((hr1).p ((hr2).p ((hrl4).p ((hrl10).p hrl14)))))
              have a0 := T.cell 0 rfl
              have a1 := T.cell 1 rfl
              have a2 := T.cell 2 rfl
              have a3 := T.cell 3 rfl
              have a4 := T.cell 4 rfl
              have TR : St lo g w wr lk14 okk14 w.heap.size 57 #[.int .i64 0, .int .i64 0, .slice none 0 0, .slice none 0 0, .slice none 0 0] := ⟨(RFr.of_below hb1 g g).trans T.fr, T.rd, hRb.keepR T.fr (by omega) (by omega), hgl.2, Nat.le_refl _⟩
              have r0 := TR.cell 0 rfl
              have s0 := TR.free 0
              have r1 := TR.cell 1 rfl
              have s1 := TR.free 1
              have r2 := TR.cell 2 rfl
              have s2 := TR.free 2
              have r3 := TR.cell 3 rfl
              have s3 := TR.free 3
              have r4 := TR.cell 4 rfl
              have s4 := TR.free 4
              clear T hRb hb1 hE4 hE10 hE14
              have x0_ := r0
              have x1_ := r1
              have x2_ := r2
              have x3_ := r3
              have x4_ := r4
              replace hx9 := keep_Code _ _ _ _ _ _ hx9 (RFr.of_set _ w.heap.size w.heap.size 0 (.int .i64 z1)) (Off.of_ty TR.blk.ty (by decide)) (Off.of_ty TR.blk.ty (by decide))
              replace TR := TR.set_ 0 (.int .i64 z1)
              simp only [List.setIfInBounds_toArray, List.set_cons_zero, List.set_cons_succ] at TR
              replace hx9 := keep_Code _ _ _ _ _ _ hx9 (RFr.of_set _ w.heap.size w.heap.size 1 (.int .i64 z2)) (Off.of_ty TR.blk.ty (by decide)) (Off.of_ty TR.blk.ty (by decide))
              replace TR := TR.set_ 1 (.int .i64 z2)
              simp only [List.setIfInBounds_toArray, List.set_cons_zero, List.set_cons_succ] at TR
              replace hx9 := keep_Code _ _ _ _ _ _ hx9 (RFr.of_set _ w.heap.size w.heap.size 2 (.slice A4 n4 c4)) (Off.of_ty TR.blk.ty (by decide)) (Off.of_ty TR.blk.ty (by decide))
              replace TR := TR.set_ 2 (.slice A4 n4 c4)
              simp only [List.setIfInBounds_toArray, List.set_cons_zero, List.set_cons_succ] at TR
              replace hx9 := keep_Code _ _ _ _ _ _ hx9 (RFr.of_set _ w.heap.size w.heap.size 3 (.slice A10 n10 c10)) (Off.of_ty TR.blk.ty (by decide)) (Off.of_ty TR.blk.ty (by decide))
              replace TR := TR.set_ 3 (.slice A10 n10 c10)
              simp only [List.setIfInBounds_toArray, List.set_cons_zero, List.set_cons_succ] at TR
              replace hx9 := keep_Code _ _ _ _ _ _ hx9 (RFr.of_set _ w.heap.size w.heap.size 4 (.slice A14 n14 c14)) (Off.of_ty TR.blk.ty (by decide)) (Off.of_ty TR.blk.ty (by decide))
              replace TR := TR.set_ 4 (.slice A14 n14 c14)
              simp only [List.setIfInBounds_toArray, List.set_cons_zero, List.set_cons_succ] at TR
              have q0 := TR.cell 0 rfl
              have q1 := TR.cell 1 rfl
              have q2 := TR.cell 2 rfl
              have q3 := TR.cell 3 rfl
              have q4 := TR.cell 4 rfl
              simp only [List.getElem_toArray, List.getElem_cons_zero, List.getElem_cons_succ] at q0 q1 q2 q3 q4
              have hfin := Lib.hid (show InE lo g (fun w v x => ∃ vs, v = .agg vs.toArray ∧ vs.length = 5 ∧ eCode w vs x) rdCode l ok w (.returned (.agg #[.int .i64 z1, .int .i64 z2, .slice A4 n4 c4, .slice A10 n10 c10, .slice A14 n14 c14])) _ from ⟨TR.fr, _, _, _, _, rfl, ⟨[.int .i64 z1, .int .i64 z2, .slice A4 n4 c4, .slice A10 n10 c10, .slice A14 n14 c14], rfl, rfl, hx9⟩, TR.rd, sr9.out⟩)
              clear hx9 TR sr9
              go_wp2
              exact bodyPost_ret (v := .agg #[.int .i64 z1, .int .i64 z2, .slice A4 n4 c4, .slice A10 n10 c10, .slice A14 n14 c14]) (by simp [results, Try.results34, go_sem, q0, q1, q2, q3, q4]) rfl hfin.out
end Go.Proofs.Ytcchbbnlcilanaa
