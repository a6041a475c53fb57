/- The document's reader of images: Decode, whole (made by genDcG.py). -/
import Derived.Test.YtcchbbnlcilanaaDcF
import Derived.Test.YtcchbbnlcilanaaDcD
import Derived.Test.YtcchbbnlcilanaaDcE
namespace Go.Proofs.Ytcchbbnlcilanaa
open Go.ChangeShapes Go.WideShapes Go.ChangeAt Go.RowKit
set_option linter.unusedVariables false
set_option linter.unusedSimpArgs false
theorem eRow_form {w : World} {vs : List Value} {x : TRow} (h : eRow w vs x) : ∃ z0 z1 z2 z3 A4 n4 c4 z5 z6 A7 n7 c7, vs = [.int .i64 z0, .int .i64 z1, .bool z2, .int .i64 z3, .slice A4 n4 c4, .int .i64 z5, .int .i64 z6, .slice A7 n7 c7] := by
  obtain ⟨_, _, rfl, ⟨_, _, rfl, rfl, _, _, rfl, rfl, _, _, rfl, rfl, _, _, rfl, rfl, ⟨v4, rfl, A4, c4, _, rfl, _⟩⟩, _, _, rfl, rfl, _, _, rfl, rfl, ⟨v7, rfl, A7, c7, _, rfl, _⟩⟩ := h
  exact ⟨_, _, _, _, _, _, _, _, _, _, _, _, rfl⟩
theorem eCode_form {w : World} {vs : List Value} {x : TCode} (h : eCode w vs x) : ∃ z0 z1 A2 n2 c2 A3 n3 c3 A4 n4 c4, vs = [.int .i64 z0, .int .i64 z1, .slice A2 n2 c2, .slice A3 n3 c3, .slice A4 n4 c4] := by
  obtain ⟨_, _, rfl, rfl, _, _, rfl, rfl, _, _, rfl, ⟨v2, rfl, A2, c2, _, rfl, _⟩, _, _, rfl, ⟨v3, rfl, A3, c3, _, rfl, _⟩, ⟨v4, rfl, A4, c4, _, rfl, _⟩⟩ := h
  exact ⟨_, _, _, _, _, _, _, _, _, _, _, rfl⟩
set_option maxHeartbeats 16000000 in
set_option maxRecDepth 100000 in
theorem rdecode_tail (b0 o0 : Nat) (l : List Nat) (c : Nat) (w : World) (hl : Byt l) (h : Bys w (some ⟨b0, o0, none⟩) l) (h1 : ¬ 65536 < l.length) (h2 : ¬ l.length < 8) (hc : l.length ≤ c) (h3 : l.take 4 = ausp) :
    Calls Try.prog 15 #[.slice (some ⟨b0, o0, none⟩) l.length c] w (DecIs l w) := by
  obtain ⟨iInts, hiInts, hzInts, hyInts, hwInts⟩ := info_parts z_Ints
  obtain ⟨iRow, hiRow, hzRow, hyRow, hwRow⟩ := info_parts z_Row
  obtain ⟨iCode, hiCode, hzCode, hyCode, hwCode⟩ := info_parts z_Code
  have hd0 : sumOk l = false → decP l = (31, none) := fun e => by unfold decP; rw [if_neg h1, if_neg h2, if_pos h3, if_neg (by simpa [sumOk] using e)]
  have hd1 : sumOk l = true → decP l = decB (rdTable (bodyL l)) := fun e => by unfold decP; rw [if_neg h1, if_neg h2, if_pos h3, if_pos (by simpa [sumOk] using e)]
  have i0 : ¬ (65536 : Int) < (l.length : Int) := by omega
  have i1 : ¬ (l.length : Int) < 8 := by omega
  have i2 : (4 : Int) ≤ (c : Int) := by omega
  have hm1 := m1 w (.cells zCells 27)
  have hcv := conv_pre (k := 4) (c := c) (l' := ausp) (by omega) h3 (h.later hm1)
  rw [show strOf ausp = ⟨#[65, 85, 83, 80]⟩ from rfl] at hcv
  have hlt : (l.take (l.length - 4)).length = l.length - 4 := by rw [List.length_take]; omega
  have CS := fun (u : World) (hu : Bys u (some ⟨b0, o0, none⟩) l) => summed_any (some ⟨b0, o0, none⟩) (l.take (l.length - 4)) c (hl.take _) u (hu.pre (by omega)) (by omega)
  rw [hlt] at CS
  have hcmp := sumOk_cmp hl (by omega)
  have hcvb := fun (u : World) (hu : Below w.heap.size w u) => conv_str (n := l.length) (c := c) rfl (h.later hu)
  have hbl := fun (u : World) (hu : Below w.heap.size w u) => h.later hu
  have hlen2 : (l.take (l.length - 4) ++ le4 (sumL (l.take (l.length - 4)))).length = l.length := by rw [List.length_append, hlt]; show l.length - 4 + 4 = l.length; omega
  have hq1 := hcvb _ hm1.drew
  have hbody := fun (u : World) (hu : Below w.heap.size w u) => ((h.later hu).pre (k := l.length - 4) (by omega)).suf 4 (by rw [List.length_take]; omega)
  have hbl8 : (bodyL l).length = l.length - 8 := by simp [bodyL]; omega
  have hbyl : Byt (bodyL l) := fun z hz => hl z (List.mem_of_mem_take (List.mem_of_mem_drop hz))
  have hadd4 : (⟨b0, o0, none⟩ : Addr).add 4 = ⟨b0, o0 + 4, none⟩ := by unfold Addr.add; split <;> simp_all
  rw [hadd4] at hbody
  have hbody' : ∀ u, Below w.heap.size w u → Bys u (some ⟨b0, o0 + 4, none⟩) (bodyL l) := fun u hu => hbody u hu
  clear hbody
  replace CS := Lib.hid CS
  replace hcvb := Lib.hid hcvb
  replace hbl := Lib.hid hbl
  replace hbody' := Lib.hid hbody'
  replace hd0 := Lib.hid hd0
  replace hd1 := Lib.hid hd1
  replace hcmp := Lib.hid hcmp
  generalize l.take (l.length - 4) ++ le4 (sumL (l.take (l.length - 4))) = z at *
  generalize hlb : bodyL l = lb at *
  have j1 : IntKind.i64.wrap ((l.length : Int) - 4) = ((l.length - 4 : Nat) : Int) := by rw [IntKind.wrap_i64]; omega
  have j2 : (l.length : Int) - 4 = ((l.length - 4 : Nat) : Int) := by omega
  have j6 : IntKind.i64.wrap ((l.length - 4 : Nat) : Int) = ((l.length - 4 : Nat) : Int) := by rw [IntKind.wrap_i64]; omega
  have j3 : ((l.length - 4 : Nat) : Int) ≤ (c : Int) := by omega
  have j5 : (0 : Int) ≤ ((l.length - 4 : Nat) : Int) := by omega
  have k1 : l.length - 4 - 4 = l.length - 8 := by omega
  have k2 : ¬ c = 4 := by omega
  have k3 : ((l.length - 4 : Nat) : Int) - 4 = ((l.length - 8 : Nat) : Int) := by omega
  have k4 : (4 : Int) ≤ ((l.length - 4 : Nat) : Int) := by omega
  have hblk0 := Lib.hid (Blk.made w 27 zCells)
  clear h hl h3 hlt
  go_enter Try.func15, Try.ntmps15
  go_upto_region 7 with (fail)
  go_cut [31] from 22 to 31 (fun p w' => ∃ w3, w3 = w' ∧ p = .bool (!sumOk l) ∧ Below w.heap.size w w' ∧ Blk w' w.heap.size 27 zCells)
  case first =>
    go_region_law ((try go_simp); go_at_call 16; refine (CS.out _ (hbl.out _ hm1.drew)).mono ?_; rintro e w3 ⟨A3, c3, rfl, hO, hb3⟩; have hB3 := Lib.hid (mmore hm1.drew hb3); have hq2 := hcvb.out _ hB3.out; have hq3 := conv_str (n := l.length) (c := c3) hlen2.symm (Bys.of_own hO).2; have hbf := Lib.hid ((hblk0.out.kept (Below.refl _ _).drew).kept hb3); clear hO hb3)
    all_goals
      (try go_wp2)
      go_meet
      exact ⟨_, rfl, by rw [← hcmp.out], hB3.out, hbf.out⟩
  case rest =>
    obtain ⟨w3, hw3, rfl, hB3, hblk⟩ := hcut
    subst hw3
    cases hso : sumOk l with
    | false =>
      replace hd0 := hd0.out hso
      have t0 : w3.cell? ⟨w.heap.size, 0, none⟩ = some (.int .i64 0) := hblk.cell 0
      have t1 : w3.cell? ⟨w.heap.size, 1, none⟩ = some (.slice none 0 0) := hblk.cell 1
      have t2 : w3.cell? ⟨w.heap.size, 2, none⟩ = some (.slice none 0 0) := hblk.cell 2
      have t3 : w3.cell? ⟨w.heap.size, 3, none⟩ = some (.int .i64 0) := hblk.cell 3
      have t4 : w3.cell? ⟨w.heap.size, 4, none⟩ = some (.int .i64 0) := hblk.cell 4
      have t5 : w3.cell? ⟨w.heap.size, 5, none⟩ = some (.int .i64 0) := hblk.cell 5
      have t6 : w3.cell? ⟨w.heap.size, 6, none⟩ = some (.slice none 0 0) := hblk.cell 6
      have t7 : w3.cell? ⟨w.heap.size, 7, none⟩ = some (.slice none 0 0) := hblk.cell 7
      have f0 := hblk.free 0
      have f1 := hblk.free 1
      have f2 := hblk.free 2
      have f3 := hblk.free 3
      have f4 := hblk.free 4
      have f5 := hblk.free 5
      have f6 := hblk.free 6
      have f7 := hblk.free 7
      replace hblk := Lib.hid hblk
      replace hB3 := Lib.hid hB3
      replace hd0 := Lib.hid hd0
      go_wp2
      have hP := put8_blk hblk.out (.int .i64 0) (.slice none 0 0) (.slice none 0 0) (.int .i64 0) (.int .i64 0) (.int .i64 0) (.slice none 0 0) (.slice none 0 0)
      have hQ := put8_below hB3.out (Nat.le_refl _) (Nat.le_refl _) (.int .i64 0) (.slice none 0 0) (.slice none 0 0) (.int .i64 0) (.int .i64 0) (.int .i64 0) (.slice none 0 0) (.slice none 0 0)
      unfold put8 at hP hQ
      generalize (((((((w3.setCell ⟨w.heap.size, 0, none⟩ (.int .i64 0)).setCell ⟨w.heap.size, 1, none⟩ (.slice none 0 0)).setCell ⟨w.heap.size, 2, none⟩ (.slice none 0 0)).setCell ⟨w.heap.size, 3, none⟩ (.int .i64 0)).setCell ⟨w.heap.size, 4, none⟩ (.int .i64 0)).setCell ⟨w.heap.size, 5, none⟩ (.int .i64 0)).setCell ⟨w.heap.size, 6, none⟩ (.slice none 0 0)).setCell ⟨w.heap.size, 7, none⟩ (.slice none 0 0) = u9 at *
      have r0 := hP.cell 0
      have r1 := hP.cell 1
      have r2 := hP.cell 2
      have r3 := hP.cell 3
      have r4 := hP.cell 4
      have r5 := hP.cell 5
      have r6 := hP.cell 6
      have r7 := hP.cell 7
      simp only [List.getElem?_toArray, List.getElem?_cons_zero, List.getElem?_cons_succ] at r0 r1 r2 r3 r4 r5 r6 r7
      exact bodyPost_ret (v := .tuple #[zT, .int .i64 31]) (by simp [results, Try.results15, go_sem, zT, r0, r1, r2, r3, r4, r5, r6, r7]) rfl (DecIs.no hd0.out hQ)
    | true =>
      replace hd1 := Lib.hid (hd1.out hso)
      have hRg := hblk.lt
      go_upto_region 10 with (fail)
      have hm3 := m1 w3 (.cells #[.slice (some ⟨b0, o0 + 4, none⟩) (l.length - 8) (c - 4), .bool true] 81)
      obtain ⟨lo, hlo⟩ : ∃ lo, lo = w3.heap.size := ⟨_, rfl⟩
      have h1 : InS (w3.alloc (.cells #[.slice (some ⟨b0, o0 + 4, none⟩) (l.length - 8) (c - 4), .bool true] 81)) lo w3.heap.size lb true := by
        subst hlo
        have hh := hbody'.out w3 hB3
        unfold Bys at hh
        have hk := Blk.made w3 81 #[.slice (some ⟨b0, o0 + 4, none⟩) (l.length - 8) (c - 4), .bool true]
        rw [← hbl8] at hk ⊢
        exact ⟨hbyl, Nat.le_refl _, by omega, _, _, hk, by omega, Reads.alloc hh (Nat.le_refl _) _⟩
      have hg1 : w3.heap.size < (w3.alloc (.cells #[.slice (some ⟨b0, o0 + 4, none⟩) (l.length - 8) (c - 4), .bool true] 81)).heap.size := h1.lt.2
      have hR1 := hblk.kept hm3
      have hB1 := hB3.trans (hm3.mono hB3.size)
      clear hm3 hblk hB3 CS hcvb hbl hbody' hcmp hblk0 hm1 hcv hq1 j1 j2 j3 j5 j6 k3 k4 i0 i1 i2 hlo
      generalize w3.alloc (.cells #[.slice (some ⟨b0, o0 + 4, none⟩) (l.length - 8) (c - 4), .bool true] 81) = w1 at *
      generalize w3.heap.size = g at *
      go_wp2_with fail
      refine (innum_s lo g lb true _ h1).mono ?_; rintro e y1 ⟨hf1, z1, l1, ok1, rfl, hz1, hS1, hr1⟩
      have T := St.made hf1 hS1 hg1 27 #[.int .i64 z1, .slice none 0 0, .slice none 0 0, .int .i64 0, .int .i64 0, .int .i64 0, .slice none 0 0, .slice none 0 0]
      clear hf1 hS1 h1
      go_wp2_with fail
      refine (inints_any lo g l1 ok1 _ T.rd).mono ?_; rintro e y2 ⟨hf2, v2, x2, l2, ok2, rfl, hE2, hS2, hr2⟩
      obtain ⟨A2, n2, c2, rfl⟩ := eL_form hE2
      replace hE2 : eL eInt 3 1 y2 [.slice A2 n2 c2] x2 := hE2
      replace T := T.call hf2 hS2
      clear hf2 hS2
      have b2 := T.cell 1 rfl
      have f2 := T.free 1
      replace hE2 := (keepE_L 3 1 keepE_int) _ _ _ _ _ _ hE2 (RFr.of_set _ (y1.heap.size) (y1.heap.size) 1 (.slice A2 n2 c2)) (Off.of_ty T.blk.ty (by decide)) (Off.of_ty T.blk.ty (by decide))
      replace T := T.set_ 1 (.slice A2 n2 c2)
      simp only [List.setIfInBounds_toArray, List.set_cons_zero, List.set_cons_succ] at T
      go_wp2_with fail
      refine (incount_s lo g l2 ok2 _ T.rd).mono ?_; rintro e y3 ⟨hf3, N3, l3, ok3, rfl, hN3, hS3, hr3⟩
      replace hE2 := (keepE_L 3 1 keepE_int) _ _ _ _ _ _ hE2 hf3 (T.rd.off _ (by decide)) (T.rd.off _ (by decide))
      replace T := T.call hf3 hS3
      clear hf3 hS3
      replace hr3 := Lib.hid hr3
      go_wp2_with fail
      go_loopw [6] (fun n wr => ∃ (j : Nat) (xs : List (List Int)) (lk : List Nat) (okk : Bool) (v : Value), j ≤ N3 ∧ n = .int .i64 ((N3 - j : Nat) : Int) ∧ xs.length = j ∧ LO eInts 22 1 w1.heap.size wr v xs ∧ St lo g w1 wr lk okk (y1.heap.size) 27 #[.int .i64 z1, .slice A2 n2 c2, v, .int .i64 0, .int .i64 0, .int .i64 0, .slice none 0 0, .slice none 0 0] ∧ eL eInt 3 1 wr [.slice A2 n2 c2] x2 ∧ Hid (StR ok3 okk rdInts N3 l3 j xs lk)) (fun n _ => (intOf n).toNat)
      case atStart => exact ⟨0, [], l3, ok3, _, Nat.zero_le _, rfl, rfl, LO.nil _ _ _ _ _, T, hE2, Lib.hid (StR.start _ _ _ _)⟩
      case round =>
        clear T hE2
        obtain ⟨j, xs4, lk4, okk4, v4, hj, rfl, hxl, hL, T, hE2, hst⟩ := hrel
        obtain ⟨A4, n4, c4, rfl⟩ := hL.form
        have cg := T.rd.okc.1
        go_upto_region 13 with (fail)
        go_cut [55] from 48 to 55 (fun p w' => p = .bool (okk4 && decide (j < N3)) ∧ wr = w')
        case first =>
          clear hL T hst hE2
          by_cases hlt : j < N3
          · have n0 : (0 : Int) < ((N3 - j : Nat) : Int) := by omega
            have e1 : decide (j < N3) = true := decide_eq_true hlt
            cases okk4 with
            | false => go_wp2; go_meet; exact ⟨by rw [e1]; rfl, rfl⟩
            | true => go_wp2; go_meet; exact ⟨by rw [e1]; rfl, rfl⟩
          · have n0 : ¬ (0 : Int) < ((N3 - j : Nat) : Int) := by omega
            have e1 : decide (j < N3) = false := decide_eq_false hlt
            cases okk4 with
            | false => go_wp2; go_meet; exact ⟨by rw [e1]; rfl, rfl⟩
            | true => go_wp2; go_meet; exact ⟨by rw [e1]; rfl, rfl⟩
        case rest =>
        obtain ⟨rfl, rfl⟩ := hcut
        have hq : ((okk4 && decide (j < N3)) = true → okk4 = true ∧ j < N3) ∧ ((okk4 && decide (j < N3)) = false → okk4 = true → j = N3) := ⟨fun h => by simpa using h, fun h hk => by rw [hk] at h; simp at h; omega⟩
        replace hq := Lib.hid hq
        generalize (okk4 && decide (j < N3)) = qb at *
        cases qb with
        | true =>
            obtain ⟨rfl, hlt⟩ := hq.out.1 rfl
            clear hq cg
            have h10 := T.lt0
            have hX0 := T.new
            have hg0 := T.rd.lt.1
            go_upto_region 15 with (fail)
            have Td := T.drew
            have tc0 := Td.cell 2 rfl
            have tf0 := Td.free 2
            have hLd := hL.later keep_Ints (Below.refl wr.heap.size wr).drew
            have hE2d := (keepE_L 3 1 keepE_int) _ _ _ _ _ _ hE2 (RFr.of_below (Below.refl wr.heap.size wr).drew g g) (T.rd.off _ (by decide)) (T.rd.off _ (by decide))
            clear hL T hE2
            go_region_law (first
              | ((try go_simp); go_at_call 31; refine (inints_any lo g lk4 true _ Td.rd).mono ?_; rintro e y ⟨hf, v9, x, l', ok', rfl, hE, hS, hr⟩; obtain ⟨A9, n9, c9, rfl⟩ := eL_form hE; replace hE : eInts y [.slice A9 n9 c9] x := hE; have T2 := Td.call hf hS; have tc2 := T2.cell 2 rfl; have tf2 := T2.free 2; have tc3 : (y.alloc (.cells #[.slice A9 n9 c9] 22)).cell? ⟨y1.heap.size, 2, none⟩ = some (.slice A4 n4 c4) := (T2.blk.kept (m1 y (.cells #[.slice A9 n9 c9] 22))).cell 2; have hL4 := hLd.keep keep_Ints hf h10 h10 (Td.rd.off _ (by decide)) (Td.rd.off _ (by decide)); have hst2 := Lib.hid (hst.out.next hlt hr); have hbs := T2.fr.size; have hE2y := (keepE_L 3 1 keepE_int) _ _ _ _ _ _ hE2d hf (Td.rd.off _ (by decide)) (Td.rd.off _ (by decide)); clear hf hS hr)
              | (refine step_append_LO (tys := [81, 27, 3]) rfl (.tmp 59) (.tmp 62) 23 rfl iInts (.slice none 0 0) Try.underlying23 hiInts hzInts hyInts hwInts rfl (by decide) hL4 (keep_Ints.more (by decide)) (by decide) hbs (x := x) hE rfl (by intro u hu; simp at hu; rcases hu with rfl <;> rfl) rfl rfl (by simp [World.setCell]) (by omega) (by decide) ?_; intro v' w4 b hL5 hb1 hb2 hb3; obtain ⟨A', n', c', rfl⟩ := hL5.form; have hXb : y1.heap.size ≠ b := (fun e => hb3 27 (by decide) (e ▸ T2.blk.ty)); have T4 : St lo g w1 w4 l' ok' (y1.heap.size) 27 #[.int .i64 z1, .slice A2 n2 c2, .slice A4 n4 c4, .int .i64 0, .int .i64 0, .int .i64 0, .slice none 0 0, .slice none 0 0] := ⟨T2.fr.newer' hb2 (.inl hb1) (.inl hb1), T2.rd.keep hb2 (by omega) (by omega) (by omega) (by omega), T2.blk.keepR hb2 hXb hXb, T2.lt0, T2.new⟩; have tc4 := T4.cell 2 rfl; have tf4 := T4.free 2; have T5 := T4.set_ 2 (.slice A' n' c'); simp only [List.setIfInBounds_toArray, List.set_cons_zero, List.set_cons_succ] at T5; have hL6 := hL5.keep_set (b := y1.heap.size) (i := 2) (u := .slice A' n' c') keep_Ints (Off.of_ty T4.blk.ty (by decide)) T4.blk.ty (by decide); have hE2z := (keepE_L 3 1 keepE_int) _ _ _ _ _ _ hE2y hb2 (hb3.sub (by decide)) (hb3.sub (by decide)); have hE2w := (keepE_L 3 1 keepE_int) _ _ _ _ _ _ hE2z (RFr.of_set _ (y1.heap.size) (y1.heap.size) 2 (.slice A' n' c')) (Off.of_ty T4.blk.ty (by decide)) (Off.of_ty T4.blk.ty (by decide)); have hfin := Lib.hid (show ∃ (xs : List (List Int)) (lk : List Nat) (okk : Bool) (v : Value), xs.length = j + 1 ∧ LO eInts 22 1 w1.heap.size _ v xs ∧ St lo g w1 _ lk okk (y1.heap.size) 27 #[.int .i64 z1, .slice A2 n2 c2, v, .int .i64 0, .int .i64 0, .int .i64 0, .slice none 0 0, .slice none 0 0] ∧ eL eInt 3 1 _ [.slice A2 n2 c2] x2 ∧ Hid (StR ok3 okk rdInts N3 l3 (j + 1) xs lk) from ⟨xs4 ++ [x], l', ok', _, by simp [hxl], hL6, T5, hE2w, hst2⟩); clear hb2 hb3 hL4 T2 T4 T5 hL5 hL6 hE2z hE2w hE2y))
            all_goals
              obtain ⟨xsn, lkn, okn, vn, hxn, hLn, Tn, hE2n, hstn⟩ := hfin.out
              clear hfin
              go_wp2
              go_roundw
              case rel => exact ⟨j + 1, xsn, lkn, okn, vn, by omega, by rw [← dec_n hlt], hxn, hLn, Tn, hE2n, hstn⟩
              case measure => simp [intOf]; omega
        | false =>
          have hjn := hq.out.2 rfl
          clear hq cg
          have hE4 := hL.lv
          have hrl4 := SR.list hr3.out (hst.out.done hjn)
          clear hL hst hxl hj hjn
          go_wp2_with fail
          refine (innum_s lo g lk4 okk4 _ T.rd).mono ?_; rintro e y5 ⟨hf5, z5, l5, ok5, rfl, hz5, hS5, hr5⟩
          replace hE2 := (keepE_L 3 1 keepE_int) _ _ _ _ _ _ hE2 hf5 (T.rd.off _ (by decide)) (T.rd.off _ (by decide))
          replace hE4 := (keepE_L 22 1 keep_Ints) _ _ _ _ _ _ hE4 hf5 (T.rd.off _ (by decide)) (T.rd.off _ (by decide))
          replace T := T.call hf5 hS5
          clear hf5 hS5
          have b5 := T.cell 3 rfl
          have f5 := T.free 3
          replace hE2 := (keepE_L 3 1 keepE_int) _ _ _ _ _ _ hE2 (RFr.of_set _ (y1.heap.size) (y1.heap.size) 3 (.int .i64 z5)) (Off.of_ty T.blk.ty (by decide)) (Off.of_ty T.blk.ty (by decide))
          replace hE4 := (keepE_L 22 1 keep_Ints) _ _ _ _ _ _ hE4 (RFr.of_set _ (y1.heap.size) (y1.heap.size) 3 (.int .i64 z5)) (Off.of_ty T.blk.ty (by decide)) (Off.of_ty T.blk.ty (by decide))
          replace T := T.set_ 3 (.int .i64 z5)
          simp only [List.setIfInBounds_toArray, List.set_cons_zero, List.set_cons_succ] at T
          go_wp2_with fail
          refine (innum_s lo g l5 ok5 _ T.rd).mono ?_; rintro e y6 ⟨hf6, z6, l6, ok6, rfl, hz6, hS6, hr6⟩
          replace hE2 := (keepE_L 3 1 keepE_int) _ _ _ _ _ _ hE2 hf6 (T.rd.off _ (by decide)) (T.rd.off _ (by decide))
          replace hE4 := (keepE_L 22 1 keep_Ints) _ _ _ _ _ _ hE4 hf6 (T.rd.off _ (by decide)) (T.rd.off _ (by decide))
          replace T := T.call hf6 hS6
          clear hf6 hS6
          have b6 := T.cell 4 rfl
          have f6 := T.free 4
          replace hE2 := (keepE_L 3 1 keepE_int) _ _ _ _ _ _ hE2 (RFr.of_set _ (y1.heap.size) (y1.heap.size) 4 (.int .i64 z6)) (Off.of_ty T.blk.ty (by decide)) (Off.of_ty T.blk.ty (by decide))
          replace hE4 := (keepE_L 22 1 keep_Ints) _ _ _ _ _ _ hE4 (RFr.of_set _ (y1.heap.size) (y1.heap.size) 4 (.int .i64 z6)) (Off.of_ty T.blk.ty (by decide)) (Off.of_ty T.blk.ty (by decide))
          replace T := T.set_ 4 (.int .i64 z6)
          simp only [List.setIfInBounds_toArray, List.set_cons_zero, List.set_cons_succ] at T
          go_wp2_with fail
          refine (innum_s lo g l6 ok6 _ T.rd).mono ?_; rintro e y7 ⟨hf7, z7, l7, ok7, rfl, hz7, hS7, hr7⟩
          replace hE2 := (keepE_L 3 1 keepE_int) _ _ _ _ _ _ hE2 hf7 (T.rd.off _ (by decide)) (T.rd.off _ (by decide))
          replace hE4 := (keepE_L 22 1 keep_Ints) _ _ _ _ _ _ hE4 hf7 (T.rd.off _ (by decide)) (T.rd.off _ (by decide))
          replace T := T.call hf7 hS7
          clear hf7 hS7
          have b7 := T.cell 5 rfl
          have f7 := T.free 5
          replace hE2 := (keepE_L 3 1 keepE_int) _ _ _ _ _ _ hE2 (RFr.of_set _ (y1.heap.size) (y1.heap.size) 5 (.int .i64 z7)) (Off.of_ty T.blk.ty (by decide)) (Off.of_ty T.blk.ty (by decide))
          replace hE4 := (keepE_L 22 1 keep_Ints) _ _ _ _ _ _ hE4 (RFr.of_set _ (y1.heap.size) (y1.heap.size) 5 (.int .i64 z7)) (Off.of_ty T.blk.ty (by decide)) (Off.of_ty T.blk.ty (by decide))
          replace T := T.set_ 5 (.int .i64 z7)
          simp only [List.setIfInBounds_toArray, List.set_cons_zero, List.set_cons_succ] at T
          go_wp2_with fail
          refine (incount_s lo g l7 ok7 _ T.rd).mono ?_; rintro e y8 ⟨hf8, N8, l8, ok8, rfl, hN8, hS8, hr8⟩
          replace hE2 := (keepE_L 3 1 keepE_int) _ _ _ _ _ _ hE2 hf8 (T.rd.off _ (by decide)) (T.rd.off _ (by decide))
          replace hE4 := (keepE_L 22 1 keep_Ints) _ _ _ _ _ _ hE4 hf8 (T.rd.off _ (by decide)) (T.rd.off _ (by decide))
          replace T := T.call hf8 hS8
          clear hf8 hS8
          replace hr8 := Lib.hid hr8
          go_wp2_with fail
          go_loopw [7] (fun n wr => ∃ (j : Nat) (xs : List (TRow)) (lk : List Nat) (okk : Bool) (v : Value), j ≤ N8 ∧ n = .int .i64 ((N8 - j : Nat) : Int) ∧ xs.length = j ∧ LO eRow 50 8 w1.heap.size wr v xs ∧ St lo g w1 wr lk okk (y1.heap.size) 27 #[.int .i64 z1, .slice A2 n2 c2, .slice A4 n4 c4, .int .i64 z5, .int .i64 z6, .int .i64 z7, v, .slice none 0 0] ∧ eL eInt 3 1 wr [.slice A2 n2 c2] x2 ∧ eL eInts 22 1 wr [.slice A4 n4 c4] xs4 ∧ Hid (StR ok8 okk rdRow N8 l8 j xs lk)) (fun n _ => (intOf n).toNat)
          case atStart => exact ⟨0, [], l8, ok8, _, Nat.zero_le _, rfl, rfl, LO.nil _ _ _ _ _, T, hE2, hE4, Lib.hid (StR.start _ _ _ _)⟩
          case round =>
            clear T hE2 hE4
            obtain ⟨j, xs9, lk9, okk9, v9, hj, rfl, hxl, hL, T, hE2, hE4, hst⟩ := hrel
            obtain ⟨A9, n9, c9, rfl⟩ := hL.form
            have cg := T.rd.okc.1
            go_upto_region 20 with (fail)
            go_cut [83] from 76 to 83 (fun p w' => p = .bool (okk9 && decide (j < N8)) ∧ wr = w')
            case first =>
              clear hL T hst hE2 hE4
              by_cases hlt : j < N8
              · have n0 : (0 : Int) < ((N8 - j : Nat) : Int) := by omega
                have e1 : decide (j < N8) = true := decide_eq_true hlt
                cases okk9 with
                | false => go_wp2; go_meet; exact ⟨by rw [e1]; rfl, rfl⟩
                | true => go_wp2; go_meet; exact ⟨by rw [e1]; rfl, rfl⟩
              · have n0 : ¬ (0 : Int) < ((N8 - j : Nat) : Int) := by omega
                have e1 : decide (j < N8) = false := decide_eq_false hlt
                cases okk9 with
                | false => go_wp2; go_meet; exact ⟨by rw [e1]; rfl, rfl⟩
                | true => go_wp2; go_meet; exact ⟨by rw [e1]; rfl, rfl⟩
            case rest =>
            obtain ⟨rfl, rfl⟩ := hcut
            have hq : ((okk9 && decide (j < N8)) = true → okk9 = true ∧ j < N8) ∧ ((okk9 && decide (j < N8)) = false → okk9 = true → j = N8) := ⟨fun h => by simpa using h, fun h hk => by rw [hk] at h; simp at h; omega⟩
            replace hq := Lib.hid hq
            generalize (okk9 && decide (j < N8)) = qb at *
            cases qb with
            | true =>
                obtain ⟨rfl, hlt⟩ := hq.out.1 rfl
                clear hq cg
                have h10 := T.lt0
                have hX0 := T.new
                have hg0 := T.rd.lt.1
                go_upto_region 22 with (fail)
                have Td := T.drew
                have tc0 := Td.cell 6 rfl
                have tf0 := Td.free 6
                have hLd := hL.later keep_Row (Below.refl wr.heap.size wr).drew
                have hE2d := (keepE_L 3 1 keepE_int) _ _ _ _ _ _ hE2 (RFr.of_below (Below.refl wr.heap.size wr).drew g g) (T.rd.off _ (by decide)) (T.rd.off _ (by decide))
                have hE4d := (keepE_L 22 1 keep_Ints) _ _ _ _ _ _ hE4 (RFr.of_below (Below.refl wr.heap.size wr).drew g g) (T.rd.off _ (by decide)) (T.rd.off _ (by decide))
                clear hL T hE2 hE4
                go_region_law (first
                  | ((try go_simp); go_at_call 33; refine (inrow_any lo g lk9 true _ Td.rd).mono ?_; rintro e y ⟨hf, v9, x, l', ok', rfl, hE, hS, hr⟩; obtain ⟨vs9, rfl, hvl, hE⟩ := hE; obtain ⟨zr0, zr1, zr2, zr3, Ar4, nr4, cr4, zr5, zr6, Ar7, nr7, cr7, rfl⟩ := eRow_form hE; have T2 := Td.call hf hS; have tc2 := T2.cell 6 rfl; have tf2 := T2.free 6; have tc3 : (y.alloc (.cells #[.int .i64 zr0, .int .i64 zr1, .bool zr2, .int .i64 zr3, .slice Ar4 nr4 cr4, .int .i64 zr5, .int .i64 zr6, .slice Ar7 nr7 cr7] 50)).cell? ⟨y1.heap.size, 6, none⟩ = some (.slice A9 n9 c9) := (T2.blk.kept (m1 y (.cells #[.int .i64 zr0, .int .i64 zr1, .bool zr2, .int .i64 zr3, .slice Ar4 nr4 cr4, .int .i64 zr5, .int .i64 zr6, .slice Ar7 nr7 cr7] 50))).cell 6; have hL4 := hLd.keep keep_Row hf h10 h10 (Td.rd.off _ (by decide)) (Td.rd.off _ (by decide)); have hst2 := Lib.hid (hst.out.next hlt hr); have hbs := T2.fr.size; have hE2y := (keepE_L 3 1 keepE_int) _ _ _ _ _ _ hE2d hf (Td.rd.off _ (by decide)) (Td.rd.off _ (by decide)); have hE4y := (keepE_L 22 1 keep_Ints) _ _ _ _ _ _ hE4d hf (Td.rd.off _ (by decide)) (Td.rd.off _ (by decide)); clear hf hS hr)
                  | (refine step_append_LO (tys := [81, 27, 3, 22, 120, 52]) rfl (.tmp 87) (.tmp 90) 24 rfl iRow (.agg #[.int .i64 0, .int .i64 0, .bool false, .int .i64 0, .slice none 0 0, .int .i64 0, .int .i64 0, .slice none 0 0]) Try.underlying24 hiRow hzRow hyRow hwRow rfl (by decide) hL4 (keep_Row.more (by decide)) (by decide) hbs (x := x) hE rfl (by intro u hu; simp at hu; rcases hu with rfl | rfl | rfl | rfl | rfl | rfl | rfl | rfl <;> rfl) rfl rfl (by simp [World.setCell]) (by omega) (by decide) ?_; intro v' w4 b hL5 hb1 hb2 hb3; obtain ⟨A', n', c', rfl⟩ := hL5.form; have hXb : y1.heap.size ≠ b := (fun e => hb3 27 (by decide) (e ▸ T2.blk.ty)); have T4 : St lo g w1 w4 l' ok' (y1.heap.size) 27 #[.int .i64 z1, .slice A2 n2 c2, .slice A4 n4 c4, .int .i64 z5, .int .i64 z6, .int .i64 z7, .slice A9 n9 c9, .slice none 0 0] := ⟨T2.fr.newer' hb2 (.inl hb1) (.inl hb1), T2.rd.keep hb2 (by omega) (by omega) (by omega) (by omega), T2.blk.keepR hb2 hXb hXb, T2.lt0, T2.new⟩; have tc4 := T4.cell 6 rfl; have tf4 := T4.free 6; have T5 := T4.set_ 6 (.slice A' n' c'); simp only [List.setIfInBounds_toArray, List.set_cons_zero, List.set_cons_succ] at T5; have hL6 := hL5.keep_set (b := y1.heap.size) (i := 6) (u := .slice A' n' c') keep_Row (Off.of_ty T4.blk.ty (by decide)) T4.blk.ty (by decide); have hE2z := (keepE_L 3 1 keepE_int) _ _ _ _ _ _ hE2y hb2 (hb3.sub (by decide)) (hb3.sub (by decide)); have hE2w := (keepE_L 3 1 keepE_int) _ _ _ _ _ _ hE2z (RFr.of_set _ (y1.heap.size) (y1.heap.size) 6 (.slice A' n' c')) (Off.of_ty T4.blk.ty (by decide)) (Off.of_ty T4.blk.ty (by decide)); have hE4z := (keepE_L 22 1 keep_Ints) _ _ _ _ _ _ hE4y hb2 (hb3.sub (by decide)) (hb3.sub (by decide)); have hE4w := (keepE_L 22 1 keep_Ints) _ _ _ _ _ _ hE4z (RFr.of_set _ (y1.heap.size) (y1.heap.size) 6 (.slice A' n' c')) (Off.of_ty T4.blk.ty (by decide)) (Off.of_ty T4.blk.ty (by decide)); have hfin := Lib.hid (show ∃ (xs : List (TRow)) (lk : List Nat) (okk : Bool) (v : Value), xs.length = j + 1 ∧ LO eRow 50 8 w1.heap.size _ v xs ∧ St lo g w1 _ lk okk (y1.heap.size) 27 #[.int .i64 z1, .slice A2 n2 c2, .slice A4 n4 c4, .int .i64 z5, .int .i64 z6, .int .i64 z7, v, .slice none 0 0] ∧ eL eInt 3 1 _ [.slice A2 n2 c2] x2 ∧ eL eInts 22 1 _ [.slice A4 n4 c4] xs4 ∧ Hid (StR ok8 okk rdRow N8 l8 (j + 1) xs lk) from ⟨xs9 ++ [x], l', ok', _, by simp [hxl], hL6, T5, hE2w, hE4w, hst2⟩); clear hb2 hb3 hL4 T2 T4 T5 hL5 hL6 hE2z hE2w hE2y hE4z hE4w hE4y))
                all_goals
                  obtain ⟨xsn, lkn, okn, vn, hxn, hLn, Tn, hE2n, hE4n, hstn⟩ := hfin.out
                  clear hfin
                  go_wp2
                  go_roundw
                  case rel => exact ⟨j + 1, xsn, lkn, okn, vn, by omega, by rw [← dec_n hlt], hxn, hLn, Tn, hE2n, hE4n, hstn⟩
                  case measure => simp [intOf]; omega
            | false =>
              have hjn := hq.out.2 rfl
              clear hq cg
              have hE9 := hL.lv
              have hrl9 := SR.list hr8.out (hst.out.done hjn)
              clear hL hst hxl hj hjn
              go_wp2_with fail
              refine (incount_s lo g lk9 okk9 _ T.rd).mono ?_; rintro e y10 ⟨hf10, N10, l10, ok10, rfl, hN10, hS10, hr10⟩
              replace hE2 := (keepE_L 3 1 keepE_int) _ _ _ _ _ _ hE2 hf10 (T.rd.off _ (by decide)) (T.rd.off _ (by decide))
              replace hE4 := (keepE_L 22 1 keep_Ints) _ _ _ _ _ _ hE4 hf10 (T.rd.off _ (by decide)) (T.rd.off _ (by decide))
              replace hE9 := (keepE_L 50 8 keep_Row) _ _ _ _ _ _ hE9 hf10 (T.rd.off _ (by decide)) (T.rd.off _ (by decide))
              replace T := T.call hf10 hS10
              clear hf10 hS10
              replace hr10 := Lib.hid hr10
              go_wp2_with fail
              go_loopw [8] (fun n wr => ∃ (j : Nat) (xs : List (TCode)) (lk : List Nat) (okk : Bool) (v : Value), j ≤ N10 ∧ n = .int .i64 ((N10 - j : Nat) : Int) ∧ xs.length = j ∧ LO eCode 57 5 w1.heap.size wr v xs ∧ St lo g w1 wr lk okk (y1.heap.size) 27 #[.int .i64 z1, .slice A2 n2 c2, .slice A4 n4 c4, .int .i64 z5, .int .i64 z6, .int .i64 z7, .slice A9 n9 c9, v] ∧ eL eInt 3 1 wr [.slice A2 n2 c2] x2 ∧ eL eInts 22 1 wr [.slice A4 n4 c4] xs4 ∧ eL eRow 50 8 wr [.slice A9 n9 c9] xs9 ∧ Hid (StR ok10 okk rdCode N10 l10 j xs lk)) (fun n _ => (intOf n).toNat)
              case atStart => exact ⟨0, [], l10, ok10, _, Nat.zero_le _, rfl, rfl, LO.nil _ _ _ _ _, T, hE2, hE4, hE9, Lib.hid (StR.start _ _ _ _)⟩
              case round =>
                clear T hE2 hE4 hE9
                obtain ⟨j, xs11, lk11, okk11, v11, hj, rfl, hxl, hL, T, hE2, hE4, hE9, hst⟩ := hrel
                obtain ⟨A11, n11, c11, rfl⟩ := hL.form
                have cg := T.rd.okc.1
                go_upto_region 24 with (fail)
                go_cut [102] from 95 to 102 (fun p w' => p = .bool (okk11 && decide (j < N10)) ∧ wr = w')
                case first =>
                  clear hL T hst hE2 hE4 hE9
                  by_cases hlt : j < N10
                  · have n0 : (0 : Int) < ((N10 - j : Nat) : Int) := by omega
                    have e1 : decide (j < N10) = true := decide_eq_true hlt
                    cases okk11 with
                    | false => go_wp2; go_meet; exact ⟨by rw [e1]; rfl, rfl⟩
                    | true => go_wp2; go_meet; exact ⟨by rw [e1]; rfl, rfl⟩
                  · have n0 : ¬ (0 : Int) < ((N10 - j : Nat) : Int) := by omega
                    have e1 : decide (j < N10) = false := decide_eq_false hlt
                    cases okk11 with
                    | false => go_wp2; go_meet; exact ⟨by rw [e1]; rfl, rfl⟩
                    | true => go_wp2; go_meet; exact ⟨by rw [e1]; rfl, rfl⟩
                case rest =>
                obtain ⟨rfl, rfl⟩ := hcut
                have hq : ((okk11 && decide (j < N10)) = true → okk11 = true ∧ j < N10) ∧ ((okk11 && decide (j < N10)) = false → okk11 = true → j = N10) := ⟨fun h => by simpa using h, fun h hk => by rw [hk] at h; simp at h; omega⟩
                replace hq := Lib.hid hq
                generalize (okk11 && decide (j < N10)) = qb at *
                cases qb with
                | true =>
                    obtain ⟨rfl, hlt⟩ := hq.out.1 rfl
                    clear hq cg
                    have h10 := T.lt0
                    have hX0 := T.new
                    have hg0 := T.rd.lt.1
                    go_upto_region 26 with (fail)
                    have Td := T.drew
                    have tc0 := Td.cell 7 rfl
                    have tf0 := Td.free 7
                    have hLd := hL.later keep_Code (Below.refl wr.heap.size wr).drew
                    have hE2d := (keepE_L 3 1 keepE_int) _ _ _ _ _ _ hE2 (RFr.of_below (Below.refl wr.heap.size wr).drew g g) (T.rd.off _ (by decide)) (T.rd.off _ (by decide))
                    have hE4d := (keepE_L 22 1 keep_Ints) _ _ _ _ _ _ hE4 (RFr.of_below (Below.refl wr.heap.size wr).drew g g) (T.rd.off _ (by decide)) (T.rd.off _ (by decide))
                    have hE9d := (keepE_L 50 8 keep_Row) _ _ _ _ _ _ hE9 (RFr.of_below (Below.refl wr.heap.size wr).drew g g) (T.rd.off _ (by decide)) (T.rd.off _ (by decide))
                    clear hL T hE2 hE4 hE9
                    go_region_law (first
                      | ((try go_simp); go_at_call 34; refine (incode_any lo g lk11 true _ Td.rd).mono ?_; rintro e y ⟨hf, v9, x, l', ok', rfl, hE, hS, hr⟩; obtain ⟨vs9, rfl, hvl, hE⟩ := hE; obtain ⟨zr0, zr1, Ar2, nr2, cr2, Ar3, nr3, cr3, Ar4, nr4, cr4, rfl⟩ := eCode_form hE; have T2 := Td.call hf hS; have tc2 := T2.cell 7 rfl; have tf2 := T2.free 7; have tc3 : (y.alloc (.cells #[.int .i64 zr0, .int .i64 zr1, .slice Ar2 nr2 cr2, .slice Ar3 nr3 cr3, .slice Ar4 nr4 cr4] 57)).cell? ⟨y1.heap.size, 7, none⟩ = some (.slice A11 n11 c11) := (T2.blk.kept (m1 y (.cells #[.int .i64 zr0, .int .i64 zr1, .slice Ar2 nr2 cr2, .slice Ar3 nr3 cr3, .slice Ar4 nr4 cr4] 57))).cell 7; have hL4 := hLd.keep keep_Code hf h10 h10 (Td.rd.off _ (by decide)) (Td.rd.off _ (by decide)); have hst2 := Lib.hid (hst.out.next hlt hr); have hbs := T2.fr.size; have hE2y := (keepE_L 3 1 keepE_int) _ _ _ _ _ _ hE2d hf (Td.rd.off _ (by decide)) (Td.rd.off _ (by decide)); have hE4y := (keepE_L 22 1 keep_Ints) _ _ _ _ _ _ hE4d hf (Td.rd.off _ (by decide)) (Td.rd.off _ (by decide)); have hE9y := (keepE_L 50 8 keep_Row) _ _ _ _ _ _ hE9d hf (Td.rd.off _ (by decide)) (Td.rd.off _ (by decide)); clear hf hS hr)
                      | (refine step_append_LO (tys := [81, 27, 3, 22, 120, 52, 50, 95, 98, 101]) rfl (.tmp 106) (.tmp 109) 25 rfl iCode (.agg #[.int .i64 0, .int .i64 0, .slice none 0 0, .slice none 0 0, .slice none 0 0]) Try.underlying25 hiCode hzCode hyCode hwCode rfl (by decide) hL4 (keep_Code.more (by decide)) (by decide) hbs (x := x) hE rfl (by intro u hu; simp at hu; rcases hu with rfl | rfl | rfl | rfl | rfl <;> rfl) rfl rfl (by simp [World.setCell]) (by omega) (by decide) ?_; intro v' w4 b hL5 hb1 hb2 hb3; obtain ⟨A', n', c', rfl⟩ := hL5.form; have hXb : y1.heap.size ≠ b := (fun e => hb3 27 (by decide) (e ▸ T2.blk.ty)); have T4 : St lo g w1 w4 l' ok' (y1.heap.size) 27 #[.int .i64 z1, .slice A2 n2 c2, .slice A4 n4 c4, .int .i64 z5, .int .i64 z6, .int .i64 z7, .slice A9 n9 c9, .slice A11 n11 c11] := ⟨T2.fr.newer' hb2 (.inl hb1) (.inl hb1), T2.rd.keep hb2 (by omega) (by omega) (by omega) (by omega), T2.blk.keepR hb2 hXb hXb, T2.lt0, T2.new⟩; have tc4 := T4.cell 7 rfl; have tf4 := T4.free 7; have T5 := T4.set_ 7 (.slice A' n' c'); simp only [List.setIfInBounds_toArray, List.set_cons_zero, List.set_cons_succ] at T5; have hL6 := hL5.keep_set (b := y1.heap.size) (i := 7) (u := .slice A' n' c') keep_Code (Off.of_ty T4.blk.ty (by decide)) T4.blk.ty (by decide); have hE2z := (keepE_L 3 1 keepE_int) _ _ _ _ _ _ hE2y hb2 (hb3.sub (by decide)) (hb3.sub (by decide)); have hE2w := (keepE_L 3 1 keepE_int) _ _ _ _ _ _ hE2z (RFr.of_set _ (y1.heap.size) (y1.heap.size) 7 (.slice A' n' c')) (Off.of_ty T4.blk.ty (by decide)) (Off.of_ty T4.blk.ty (by decide)); have hE4z := (keepE_L 22 1 keep_Ints) _ _ _ _ _ _ hE4y hb2 (hb3.sub (by decide)) (hb3.sub (by decide)); have hE4w := (keepE_L 22 1 keep_Ints) _ _ _ _ _ _ hE4z (RFr.of_set _ (y1.heap.size) (y1.heap.size) 7 (.slice A' n' c')) (Off.of_ty T4.blk.ty (by decide)) (Off.of_ty T4.blk.ty (by decide)); have hE9z := (keepE_L 50 8 keep_Row) _ _ _ _ _ _ hE9y hb2 (hb3.sub (by decide)) (hb3.sub (by decide)); have hE9w := (keepE_L 50 8 keep_Row) _ _ _ _ _ _ hE9z (RFr.of_set _ (y1.heap.size) (y1.heap.size) 7 (.slice A' n' c')) (Off.of_ty T4.blk.ty (by decide)) (Off.of_ty T4.blk.ty (by decide)); have hfin := Lib.hid (show ∃ (xs : List (TCode)) (lk : List Nat) (okk : Bool) (v : Value), xs.length = j + 1 ∧ LO eCode 57 5 w1.heap.size _ v xs ∧ St lo g w1 _ lk okk (y1.heap.size) 27 #[.int .i64 z1, .slice A2 n2 c2, .slice A4 n4 c4, .int .i64 z5, .int .i64 z6, .int .i64 z7, .slice A9 n9 c9, v] ∧ eL eInt 3 1 _ [.slice A2 n2 c2] x2 ∧ eL eInts 22 1 _ [.slice A4 n4 c4] xs4 ∧ eL eRow 50 8 _ [.slice A9 n9 c9] xs9 ∧ Hid (StR ok10 okk rdCode N10 l10 (j + 1) xs lk) from ⟨xs11 ++ [x], l', ok', _, by simp [hxl], hL6, T5, hE2w, hE4w, hE9w, hst2⟩); clear hb2 hb3 hL4 T2 T4 T5 hL5 hL6 hE2z hE2w hE2y hE4z hE4w hE4y hE9z hE9w hE9y))
                    all_goals
                      obtain ⟨xsn, lkn, okn, vn, hxn, hLn, Tn, hE2n, hE4n, hE9n, hstn⟩ := hfin.out
                      clear hfin
                      go_wp2
                      go_roundw
                      case rel => exact ⟨j + 1, xsn, lkn, okn, vn, by omega, by rw [← dec_n hlt], hxn, hLn, Tn, hE2n, hE4n, hE9n, hstn⟩
                      case measure => simp [intOf]; omega
                | false =>
                  have hjn := hq.out.2 rfl
                  clear hq cg
                  have hE11 := hL.lv
                  have hrl11 := SR.list hr10.out (hst.out.done hjn)
                  clear hL hst hxl hj hjn
                  have hRr := hR1.keepR T.fr (by omega) (by omega)
                  have hBr : Below w.heap.size w wr := ⟨T.fr.os.trans hB1.os, T.fr.tape.trans hB1.tape, T.fr.output.trans hB1.output, Nat.le_trans hB1.size T.fr.size, fun k hk => (T.fr.block k (Nat.lt_of_lt_of_le hk hB1.size) (by omega) (by omega)).trans (hB1.block k hk)⟩
                  have hx9 : eTable wr [.int .i64 z1, .slice A2 n2 c2, .slice A4 n4 c4, .int .i64 z5, .int .i64 z6, .int .i64 z7, .slice A9 n9 c9, .slice A11 n11 c11] ((z1, x2, xs4, z5, z6, z7), (xs9, xs11)) := ⟨[.int .i64 z1, .slice A2 n2 c2, .slice A4 n4 c4, .int .i64 z5, .int .i64 z6, .int .i64 z7], [.slice A9 n9 c9, .slice A11 n11 c11], rfl, ⟨[.int .i64 z1], [.slice A2 n2 c2, .slice A4 n4 c4, .int .i64 z5, .int .i64 z6, .int .i64 z7], rfl, rfl, ⟨[.slice A2 n2 c2], [.slice A4 n4 c4, .int .i64 z5, .int .i64 z6, .int .i64 z7], rfl, hE2, ⟨[.slice A4 n4 c4], [.int .i64 z5, .int .i64 z6, .int .i64 z7], rfl, hE4, ⟨[.int .i64 z5], [.int .i64 z6, .int .i64 z7], rfl, rfl, ⟨[.int .i64 z6], [.int .i64 z7], rfl, rfl, rfl⟩⟩⟩⟩⟩, ⟨[.slice A9 n9 c9], [.slice A11 n11 c11], rfl, hE9, hE11⟩⟩
                  have sr9 : SR rdTable true lb ((z1, x2, xs4, z5, z6, z7), (xs9, xs11)) lk11 okk11 := (((hr1).p ((hr2).p ((hrl4).p ((hr5).p ((hr6).p hr7)))))).p ((hrl9).p hrl11)
                  have a0 := T.cell 0 rfl
                  have a1 := T.cell 1 rfl
                  have a2 := T.cell 2 rfl
                  have a3 := T.cell 3 rfl
                  have a4 := T.cell 4 rfl
                  have a5 := T.cell 5 rfl
                  have a6 := T.cell 6 rfl
                  have a7 := T.cell 7 rfl
                  have t0 : wr.cell? ⟨w.heap.size, 0, none⟩ = some (.int .i64 0) := hRr.cell 0
                  have t1 : wr.cell? ⟨w.heap.size, 1, none⟩ = some (.slice none 0 0) := hRr.cell 1
                  have t2 : wr.cell? ⟨w.heap.size, 2, none⟩ = some (.slice none 0 0) := hRr.cell 2
                  have t3 : wr.cell? ⟨w.heap.size, 3, none⟩ = some (.int .i64 0) := hRr.cell 3
                  have t4 : wr.cell? ⟨w.heap.size, 4, none⟩ = some (.int .i64 0) := hRr.cell 4
                  have t5 : wr.cell? ⟨w.heap.size, 5, none⟩ = some (.int .i64 0) := hRr.cell 5
                  have t6 : wr.cell? ⟨w.heap.size, 6, none⟩ = some (.slice none 0 0) := hRr.cell 6
                  have t7 : wr.cell? ⟨w.heap.size, 7, none⟩ = some (.slice none 0 0) := hRr.cell 7
                  have f0 := hRr.free 0
                  have f1 := hRr.free 1
                  have f2 := hRr.free 2
                  have f3 := hRr.free 3
                  have f4 := hRr.free 4
                  have f5 := hRr.free 5
                  have f6 := hRr.free 6
                  have f7 := hRr.free 7
                  obtain ⟨cgo, _⟩ := T.rd.okc
                  obtain ⟨_, _, _, Ag, cgp, hgb, _, _⟩ := T.rd
                  have cg0 : wr.cell? ⟨g, 0, none⟩ = some (.slice Ag lk11.length cgp) := by rw [hgb.cell]; rfl
                  have hfinD : (if okk11 then (if lk11 = [] then decP l = (0, some ((z1, x2, xs4, z5, z6, z7), (xs9, xs11))) else decP l = (32, none)) else decP l = (32, none)) := by
                    rw [hd1.out]
                    have s2 := sr9.2 rfl
                    cases hrt : rdTable lb with
                    | none =>
                      rw [hrt] at s2
                      rw [s2]
                      rfl
                    | some a =>
                      obtain ⟨x0, r0⟩ := a
                      rw [hrt] at s2
                      obtain ⟨s3, s4, s5⟩ := s2
                      rw [s5, if_pos rfl, s3, s4]
                      cases r0 with
                      | nil => rw [if_pos rfl]; rfl
                      | cons a r => rw [if_neg (by simp)]; rfl
                  have hbad : decP l = (32, none) → ∀ u9, Blk u9 w.heap.size 27 zCells → Below w.heap.size w u9 → DecIs l w (.returned (.tuple #[zT, .int .i64 32])) u9 := fun hd u9 _ hb => DecIs.no hd hb
                  have hPz := put8_blk hRr (.int .i64 0) (.slice none 0 0) (.slice none 0 0) (.int .i64 0) (.int .i64 0) (.int .i64 0) (.slice none 0 0) (.slice none 0 0)
                  have hQz := put8_below hBr (Nat.le_refl _) (Nat.le_refl _) (.int .i64 0) (.slice none 0 0) (.slice none 0 0) (.int .i64 0) (.int .i64 0) (.int .i64 0) (.slice none 0 0) (.slice none 0 0)
                  have hPy := put8_blk hRr (.int .i64 z1) (.slice A2 n2 c2) (.slice A4 n4 c4) (.int .i64 z5) (.int .i64 z6) (.int .i64 z7) (.slice A9 n9 c9) (.slice A11 n11 c11)
                  have hQy := put8_below hBr (Nat.le_refl _) (Nat.le_refl _) (.int .i64 z1) (.slice A2 n2 c2) (.slice A4 n4 c4) (.int .i64 z5) (.int .i64 z6) (.int .i64 z7) (.slice A9 n9 c9) (.slice A11 n11 c11)
                  have hGy := put8_grown wr w.heap.size (.int .i64 z1) (.slice A2 n2 c2) (.slice A4 n4 c4) (.int .i64 z5) (.int .i64 z6) (.int .i64 z7) (.slice A9 n9 c9) (.slice A11 n11 c11)
                  have hx8 := keep_Table _ _ _ _ _ _ hx9 (RFr.of_grown hGy w.heap.size) (Off.of_ty hRr.ty (by decide)) (Off.of_ty hRr.ty (by decide))
                  clear T hx9 sr9 hGy hgb hE2 hE4 hE9 hE11 hR1 hRr hBr hB1
                  unfold put8 at hPz hQz hPy hQy hx8
                  replace hPz := Lib.hid hPz
                  replace hQz := Lib.hid hQz
                  replace hPy := Lib.hid hPy
                  replace hQy := Lib.hid hQy
                  replace hx8 := Lib.hid hx8
                  replace hbad := Lib.hid hbad
                  have hqq : ((!okk11 || decide (0 < lk11.length)) = true → decP l = (32, none)) ∧ ((!okk11 || decide (0 < lk11.length)) = false → decP l = (0, some ((z1, x2, xs4, z5, z6, z7), (xs9, xs11)))) := by
                    cases okk11 with
                    | false => exact ⟨fun _ => by simpa using hfinD, fun h => by simp at h⟩
                    | true =>
                      rw [if_pos rfl] at hfinD
                      by_cases hk : lk11 = []
                      · rw [if_pos hk] at hfinD
                        exact ⟨fun h => by rw [hk] at h; simp at h, fun _ => hfinD⟩
                      · rw [if_neg hk] at hfinD
                        exact ⟨fun _ => hfinD, fun h => absurd (List.length_eq_zero_iff.1 (by simp at h; rw [h]; rfl)) hk⟩
                  clear hfinD hbad
                  replace hqq := Lib.hid hqq
                  go_upto_region 27 with (fail)
                  go_cut [124] from 112 to 124 (fun p w' => p = .bool (!okk11 || decide (0 < lk11.length)) ∧ wr = w')
                  case first =>
                    clear hqq hPz hQz hPy hQy hx8 a0 a1 a2 a3 a4 a5 a6 a7 t0 t1 t2 t3 t4 t5 t6 t7 f0 f1 f2 f3 f4 f5 f6 f7
                    cases okk11 with
                    | false =>
                      go_wp2
                      all_goals (go_meet; exact ⟨rfl, rfl⟩)
                    | true =>
                      by_cases hk1 : (0 : Int) < (lk11.length : Int)
                      · have hk2 : decide (0 < lk11.length) = true := decide_eq_true (by omega)
                        go_wp2
                        all_goals (go_meet; exact ⟨by first | rfl | (rw [hk2]; rfl) | simp, rfl⟩)
                      · have hk2 : decide (0 < lk11.length) = false := decide_eq_false (by omega)
                        go_wp2
                        all_goals (go_meet; exact ⟨by first | rfl | (rw [hk2]; rfl) | simp, rfl⟩)
                  case rest =>
                  obtain ⟨rfl, rfl⟩ := hcut
                  generalize (!okk11 || decide (0 < lk11.length)) = qb at *
                  cases qb with
                  | true =>
                    have hbadd := hqq.out.1 rfl
                    clear hPy hQy hx8 hqq
                    go_wp2
                    have hP := hPz.out
                    have hQ := hQz.out
                    generalize (((((((wr.setCell ⟨w.heap.size, 0, none⟩ (.int .i64 0)).setCell ⟨w.heap.size, 1, none⟩ (.slice none 0 0)).setCell ⟨w.heap.size, 2, none⟩ (.slice none 0 0)).setCell ⟨w.heap.size, 3, none⟩ (.int .i64 0)).setCell ⟨w.heap.size, 4, none⟩ (.int .i64 0)).setCell ⟨w.heap.size, 5, none⟩ (.int .i64 0)).setCell ⟨w.heap.size, 6, none⟩ (.slice none 0 0)).setCell ⟨w.heap.size, 7, none⟩ (.slice none 0 0) = u9 at *
                    have r0 := hP.cell 0
                    have r1 := hP.cell 1
                    have r2 := hP.cell 2
                    have r3 := hP.cell 3
                    have r4 := hP.cell 4
                    have r5 := hP.cell 5
                    have r6 := hP.cell 6
                    have r7 := hP.cell 7
                    simp only [List.getElem?_toArray, List.getElem?_cons_zero, List.getElem?_cons_succ] at r0 r1 r2 r3 r4 r5 r6 r7
                    exact bodyPost_ret (v := .tuple #[zT, .int .i64 32]) (by simp [results, Try.results15, go_sem, zT, r0, r1, r2, r3, r4, r5, r6, r7]) rfl (DecIs.no hbadd hQ)
                  | false =>
                    have hgood := hqq.out.2 rfl
                    clear hPz hQz hqq
                    go_wp2
                    have hP := hPy.out
                    have hQ := hQy.out
                    have hE := hx8.out
                    generalize (((((((wr.setCell ⟨w.heap.size, 0, none⟩ (.int .i64 z1)).setCell ⟨w.heap.size, 1, none⟩ (.slice A2 n2 c2)).setCell ⟨w.heap.size, 2, none⟩ (.slice A4 n4 c4)).setCell ⟨w.heap.size, 3, none⟩ (.int .i64 z5)).setCell ⟨w.heap.size, 4, none⟩ (.int .i64 z6)).setCell ⟨w.heap.size, 5, none⟩ (.int .i64 z7)).setCell ⟨w.heap.size, 6, none⟩ (.slice A9 n9 c9)).setCell ⟨w.heap.size, 7, none⟩ (.slice A11 n11 c11) = u9 at *
                    have r0 := hP.cell 0
                    have r1 := hP.cell 1
                    have r2 := hP.cell 2
                    have r3 := hP.cell 3
                    have r4 := hP.cell 4
                    have r5 := hP.cell 5
                    have r6 := hP.cell 6
                    have r7 := hP.cell 7
                    simp only [List.getElem?_toArray, List.getElem?_cons_zero, List.getElem?_cons_succ] at r0 r1 r2 r3 r4 r5 r6 r7
                    have hD9 : DecIs l w (.returned (.tuple #[.agg #[.int .i64 z1, .slice A2 n2 c2, .slice A4 n4 c4, .int .i64 z5, .int .i64 z6, .int .i64 z7, .slice A9 n9 c9, .slice A11 n11 c11], .int .i64 0])) u9 := DecIs.yes hgood hQ (vs := [.int .i64 z1, .slice A2 n2 c2, .slice A4 n4 c4, .int .i64 z5, .int .i64 z6, .int .i64 z7, .slice A9 n9 c9, .slice A11 n11 c11]) rfl hE
                    clear hE hQ hP
                    exact bodyPost_ret (v := .tuple #[.agg #[.int .i64 z1, .slice A2 n2 c2, .slice A4 n4 c4, .int .i64 z5, .int .i64 z6, .int .i64 z7, .slice A9 n9 c9, .slice A11 n11 c11], .int .i64 0]) (by simp [results, Try.results15, go_sem, r0, r1, r2, r3, r4, r5, r6, r7]) rfl hD9
end Go.Proofs.Ytcchbbnlcilanaa
