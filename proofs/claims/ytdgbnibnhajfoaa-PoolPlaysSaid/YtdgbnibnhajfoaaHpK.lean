/- A pool: Add of a cell that isn't there yet. -/
import Derived.Test.YtdgbnibnhajfoaaHpJ
namespace Go.Proofs.Ytdgbnibnhajfoaa
open Go.ChangeShapes Go.WideShapes Go.ChangeAt Go.RowKit
set_option linter.unusedVariables false
set_option linter.unusedSimpArgs false

set_option maxHeartbeats 4000000 in
set_option maxRecDepth 100000 in
theorem add_gen_root_true {B p : Nat} {D : Nat → Prop} {s : PS} {w : World} (hP : PAt B p D s w) (event : Int) (he : 0 ≤ event) (hk : s.num ((-1, event, true) : Ln) = none) (hu : usedP s < s.most) (hh : HeapN s.free s.free.length) (hkf : ∀ v ∈ s.free, ∃ k : Nat, v = (k : Int) ∧ k < s.all.length) (hn : s.all.length < 900000) (hfn : s.free.length < 900000) :
    Calls Try.prog 11 #[.pointer (some ⟨p, 0, none⟩), .int .i64 (-1), .int .i64 event, .bool true] w fun e w' => e = .returned (.tuple #[.int .i64 (nextK s : Int), .bool true]) ∧ ∃ l, HeapN l l.length ∧ (s.free = [] ∧ l = [] ∨ s.free.Perm ((nextK s : Int) :: l)) ∧ POut B p D w (addG s ((-1, event, true) : Ln) l) w' := by
  obtain ⟨M, vA, vF, h, hD⟩ := hP
  have h4 : decide (event < 0) = false := by simp; omega
  have hm := m1 w (.cells #[.int .i64 (-1), .int .i64 event, .bool true] 64)
  have h1 := h.later hm
  have hxb := Blk.made w 64 #[.int .i64 (-1), .int .i64 event, .bool true]
  replace hm := Lib.hid hm
  go_enter Try.func11, Try.ntmps11
  go_upto_region 4 with (fail)
  generalize w.alloc (.cells #[.int .i64 (-1), .int .i64 event, .bool true] 64) = u at *
  obtain ⟨g, hg⟩ : ∃ g, w.heap.size = g := ⟨_, rfl⟩
  rw [hg] at hxb
  rw [hg]
  replace hg := Lib.hid hg
  have x0 : u.cell? ⟨g, 0, none⟩ = some (.int .i64 (-1)) := hxb.cell 0
  have x1 : u.cell? ⟨g, 1, none⟩ = some (.int .i64 event) := hxb.cell 1
  have x2 : u.cell? ⟨g, 2, none⟩ = some (.bool true) := hxb.cell 2
  have d3 : u.cell? ⟨p, 3, none⟩ = some (.map (some M)) := h1.blk.cell 3
  have hL := fun n => look_num (h1.later (below_dn u n)).num ((-1, event, true) : Ln)
  rw [hk] at hL
  simp only [Option.map_none, Option.getD_none, Option.isSome_none, encL] at hL
  replace h1 := Lib.hid h1
  replace hD := Lib.hid hD
  clear h hk
  go_quiet (fail)
  go_wp2_with fail
  have h3 := h1.out.later (below_dn u nq)
  have b3 := hm.out.trans ((below_dn u nq).mono hm.out.size)
  have xb3 := Lib.hid (hxb.kept (below_dn u nq))
  clear hL x0 x1 x2 d3 h1 hm hxb
  generalize u.drewN nq = u3 at *
  have d0 : u3.cell? ⟨p, 0, none⟩ = some (.int .i64 s.most) := h3.blk.cell 0
  have H := Lib.hid (fun n => usedX B p M vA vF s (u3.drewN n) (h3.later (below_dn u3 n)))
  replace b3 := Lib.hid b3
  replace h3 := Lib.hid h3
  have hu2 : decide (s.most ≤ usedP s) = false := by simp; omega
  go_quiet (first | (go_at_call 17; exact Calls.quiet_of (H.out _)))
  have h4 := Lib.hid (h3.out.later (below_dn u3 nq))
  have b4 := Lib.hid (b3.out.trans ((below_dn u3 nq).mono b3.out.size))
  have xb4 := Lib.hid (xb3.out.kept (below_dn u3 nq))
  clear H h3 b3 xb3 d0
  generalize u3.drewN nq = u4 at *
  have C4 := Lib.hid (find_none B p M vA vF s u4 h4.out (-1) (by omega) (findP_neg s))
  go_wp2_with fail
  refine C4.out.mono ?_
  rintro e w1 ⟨rfl, rfl⟩
  clear C4
  go_upto_region 12 with (fail)
  replace h4 := h4.out
  have f5 : PFr (Has p M vA vF) u4 u4 := .refl _ _
  have y0 : u4.cell? ⟨g, 0, none⟩ = some (.int .i64 (-1)) := xb4.out.cell 0
  have y1 : u4.cell? ⟨g, 1, none⟩ = some (.int .i64 event) := xb4.out.cell 1
  have y2 : u4.cell? ⟨g, 2, none⟩ = some (.bool true) := xb4.out.cell 2
  have hb5 := bump_len s (-1)
  have L := fun n => ladd_gen B p M vA vF _ (u4.drewN n) (h4.later (below_dn u4 n)) (by first | exact hh | (rw [hb5.2.1]; exact hh)) (by first | exact hkf | (rw [hb5.2.1, hb5.1]; exact hkf)) (by first | exact hn | (rw [hb5.1]; exact hn)) (by first | exact hfn | (rw [hb5.2.1]; exact hfn)) ((-1, event, true) : Ln) 1
  replace L := Lib.hid L
  have hng := Lib.hid (h4.ne_link xb4.out (by decide) (by decide) (by decide))
  replace h4 := Lib.hid h4
  replace f5 := Lib.hid f5
  go_region_with (go_at_call 25; refine (L.out 1).mono ?_; rintro e w6 ⟨rfl, h6⟩)
  all_goals
    have xb6 := h6.blk (xb4.out.kept (below_dn u4 1)) hng.out
    have z0 : w6.cell? ⟨g, 0, none⟩ = some (.int .i64 (-1)) := xb6.cell 0
    have z1 : w6.cell? ⟨g, 1, none⟩ = some (.int .i64 event) := xb6.cell 1
    have z2 : w6.cell? ⟨g, 2, none⟩ = some (.bool true) := xb6.cell 2
    have d3 : w6.cell? ⟨p, 3, none⟩ = some (.map (some M)) := h6.mapc.1
    have hMm := (h6.mapc.2).later (Below.refl _ _).drew
    have hnk : nextK _ = nextK s := nextK_bump s (-1)
    obtain ⟨w7, hup, hM7, hG7⟩ := up_num hMm ((-1, event, true) : Ln) (nextK s : Int)
    dsimp only [encL] at hup
    have hfin := Lib.hid (add_endG (x := ((-1, event, true) : Ln)) hD.out b4.out ((f5.out.trans (PFr.of_below (D := fun _ => False) (below_dn _ 1)) fun _ e => e.elim)) (by rw [show bump s ((-1, event, true) : Ln).1 = s from bump_none s]; exact h6) ⟨w6.drew, (Below.refl _ _).drew, (by first | exact hM7 | (have h7 := hM7; rw [hb5.2.2.1] at h7; exact h7)), hG7⟩)
    clear y0 y1 y2 L hM7 hG7 hMm h6
    try rw [hnk]
    replace hnk := Lib.hid hnk
    replace hb5 := Lib.hid hb5
    go_wp2_with fail
    go_region_law (fail)
    all_goals go_wp2
    all_goals
      refine bodyPost_ret (v := .tuple #[.int .i64 (nextK s : Int), .bool true]) (by simp [results, Try.results11, go_sem]) rfl ⟨rfl, ?_⟩
      exact hfin.out

set_option maxHeartbeats 4000000 in
set_option maxRecDepth 100000 in
theorem add_gen_root_false {B p : Nat} {D : Nat → Prop} {s : PS} {w : World} (hP : PAt B p D s w) (event : Int) (he : 0 ≤ event) (hk : s.num ((-1, event, true) : Ln) = none) (hu : usedP s < s.most) (hh : HeapN s.free s.free.length) (hkf : ∀ v ∈ s.free, ∃ k : Nat, v = (k : Int) ∧ k < s.all.length) (hn : s.all.length < 900000) (hfn : s.free.length < 900000) :
    Calls Try.prog 11 #[.pointer (some ⟨p, 0, none⟩), .int .i64 (-1), .int .i64 event, .bool false] w fun e w' => e = .returned (.tuple #[.int .i64 (nextK s : Int), .bool true]) ∧ ∃ l, HeapN l l.length ∧ (s.free = [] ∧ l = [] ∨ s.free.Perm ((nextK s : Int) :: l)) ∧ POut B p D w (addG s ((-1, event, true) : Ln) l) w' := by
  obtain ⟨M, vA, vF, h, hD⟩ := hP
  have h4 : decide (event < 0) = false := by simp; omega
  have hm := m1 w (.cells #[.int .i64 (-1), .int .i64 event, .bool true] 64)
  have h1 := h.later hm
  have hxb := Blk.made w 64 #[.int .i64 (-1), .int .i64 event, .bool true]
  replace hm := Lib.hid hm
  go_enter Try.func11, Try.ntmps11
  go_upto_region 4 with (fail)
  generalize w.alloc (.cells #[.int .i64 (-1), .int .i64 event, .bool true] 64) = u at *
  obtain ⟨g, hg⟩ : ∃ g, w.heap.size = g := ⟨_, rfl⟩
  rw [hg] at hxb
  rw [hg]
  replace hg := Lib.hid hg
  have x0 : u.cell? ⟨g, 0, none⟩ = some (.int .i64 (-1)) := hxb.cell 0
  have x1 : u.cell? ⟨g, 1, none⟩ = some (.int .i64 event) := hxb.cell 1
  have x2 : u.cell? ⟨g, 2, none⟩ = some (.bool true) := hxb.cell 2
  have d3 : u.cell? ⟨p, 3, none⟩ = some (.map (some M)) := h1.blk.cell 3
  have hL := fun n => look_num (h1.later (below_dn u n)).num ((-1, event, true) : Ln)
  rw [hk] at hL
  simp only [Option.map_none, Option.getD_none, Option.isSome_none, encL] at hL
  replace h1 := Lib.hid h1
  replace hD := Lib.hid hD
  clear h hk
  go_quiet (fail)
  go_wp2_with fail
  have h3 := h1.out.later (below_dn u nq)
  have b3 := hm.out.trans ((below_dn u nq).mono hm.out.size)
  have xb3 := Lib.hid (hxb.kept (below_dn u nq))
  clear hL x0 x1 x2 d3 h1 hm hxb
  generalize u.drewN nq = u3 at *
  have d0 : u3.cell? ⟨p, 0, none⟩ = some (.int .i64 s.most) := h3.blk.cell 0
  have H := Lib.hid (fun n => usedX B p M vA vF s (u3.drewN n) (h3.later (below_dn u3 n)))
  replace b3 := Lib.hid b3
  replace h3 := Lib.hid h3
  have hu2 : decide (s.most ≤ usedP s) = false := by simp; omega
  go_quiet (first | (go_at_call 17; exact Calls.quiet_of (H.out _)))
  have h4 := Lib.hid (h3.out.later (below_dn u3 nq))
  have b4 := Lib.hid (b3.out.trans ((below_dn u3 nq).mono b3.out.size))
  have xb4 := Lib.hid (xb3.out.kept (below_dn u3 nq))
  clear H h3 b3 xb3 d0
  generalize u3.drewN nq = u4 at *
  have C4 := Lib.hid (find_none B p M vA vF s u4 h4.out (-1) (by omega) (findP_neg s))
  go_wp2_with fail
  refine C4.out.mono ?_
  rintro e w1 ⟨rfl, rfl⟩
  clear C4
  go_upto_region 12 with (fail)
  replace h4 := h4.out
  have f5 : PFr (Has p M vA vF) u4 u4 := .refl _ _
  have y0 : u4.cell? ⟨g, 0, none⟩ = some (.int .i64 (-1)) := xb4.out.cell 0
  have y1 : u4.cell? ⟨g, 1, none⟩ = some (.int .i64 event) := xb4.out.cell 1
  have y2 : u4.cell? ⟨g, 2, none⟩ = some (.bool true) := xb4.out.cell 2
  have hb5 := bump_len s (-1)
  have L := fun n => ladd_gen B p M vA vF _ (u4.drewN n) (h4.later (below_dn u4 n)) (by first | exact hh | (rw [hb5.2.1]; exact hh)) (by first | exact hkf | (rw [hb5.2.1, hb5.1]; exact hkf)) (by first | exact hn | (rw [hb5.1]; exact hn)) (by first | exact hfn | (rw [hb5.2.1]; exact hfn)) ((-1, event, true) : Ln) 1
  replace L := Lib.hid L
  have hng := Lib.hid (h4.ne_link xb4.out (by decide) (by decide) (by decide))
  replace h4 := Lib.hid h4
  replace f5 := Lib.hid f5
  go_region_with (go_at_call 25; refine (L.out 1).mono ?_; rintro e w6 ⟨rfl, h6⟩)
  all_goals
    have xb6 := h6.blk (xb4.out.kept (below_dn u4 1)) hng.out
    have z0 : w6.cell? ⟨g, 0, none⟩ = some (.int .i64 (-1)) := xb6.cell 0
    have z1 : w6.cell? ⟨g, 1, none⟩ = some (.int .i64 event) := xb6.cell 1
    have z2 : w6.cell? ⟨g, 2, none⟩ = some (.bool true) := xb6.cell 2
    have d3 : w6.cell? ⟨p, 3, none⟩ = some (.map (some M)) := h6.mapc.1
    have hMm := (h6.mapc.2).later (Below.refl _ _).drew
    have hnk : nextK _ = nextK s := nextK_bump s (-1)
    obtain ⟨w7, hup, hM7, hG7⟩ := up_num hMm ((-1, event, true) : Ln) (nextK s : Int)
    dsimp only [encL] at hup
    have hfin := Lib.hid (add_endG (x := ((-1, event, true) : Ln)) hD.out b4.out ((f5.out.trans (PFr.of_below (D := fun _ => False) (below_dn _ 1)) fun _ e => e.elim)) (by rw [show bump s ((-1, event, true) : Ln).1 = s from bump_none s]; exact h6) ⟨w6.drew, (Below.refl _ _).drew, (by first | exact hM7 | (have h7 := hM7; rw [hb5.2.2.1] at h7; exact h7)), hG7⟩)
    clear y0 y1 y2 L hM7 hG7 hMm h6
    try rw [hnk]
    replace hnk := Lib.hid hnk
    replace hb5 := Lib.hid hb5
    go_wp2_with fail
    go_region_law (fail)
    all_goals go_wp2
    all_goals
      refine bodyPost_ret (v := .tuple #[.int .i64 (nextK s : Int), .bool true]) (by simp [results, Try.results11, go_sem]) rfl ⟨rfl, ?_⟩
      exact hfin.out

set_option maxHeartbeats 4000000 in
set_option maxRecDepth 100000 in
theorem add_gen_kid_true {B p : Nat} {D : Nat → Prop} {s : PS} {w : World} (hP : PAt B p D s w) (event : Int) (he : 0 ≤ event) (kp : Nat) (cp : Cl) (hcp : findP s (kp : Int) = some cp) (hb : 0 ≤ cp.holds ∧ cp.holds < 4611686018427387904) (hk : s.num (((kp : Int), event, true) : Ln) = none) (hu : usedP s < s.most) (hh : HeapN s.free s.free.length) (hkf : ∀ v ∈ s.free, ∃ k : Nat, v = (k : Int) ∧ k < s.all.length) (hn : s.all.length < 900000) (hfn : s.free.length < 900000) :
    Calls Try.prog 11 #[.pointer (some ⟨p, 0, none⟩), .int .i64 (kp : Int), .int .i64 event, .bool true] w fun e w' => e = .returned (.tuple #[.int .i64 (nextK s : Int), .bool true]) ∧ ∃ l, HeapN l l.length ∧ (s.free = [] ∧ l = [] ∨ s.free.Perm ((nextK s : Int) :: l)) ∧ POut B p D w (addG s (((kp : Int), event, true) : Ln) l) w' := by
  obtain ⟨M, vA, vF, h, hD⟩ := hP
  have h4 : decide (event < 0) = false := by simp; omega
  have hkp : 0 ≤ (kp : Int) := by omega
  have h3 : ((kp : Int) != -1) = true := by simp
  have h5 : ((kp : Int) == -1) = false := by simp
  obtain ⟨A0, cap0, hv0, C⟩ := find_some B p M vA vF s w h kp cp hcp
  replace C := Lib.hid C
  have hm := m1 w (.cells #[.int .i64 (kp : Int), .int .i64 event, .bool true] 64)
  have h1 := h.later hm
  have hxb := Blk.made w 64 #[.int .i64 (kp : Int), .int .i64 event, .bool true]
  replace hm := Lib.hid hm
  go_enter Try.func11, Try.ntmps11
  go_wp2_with fail
  refine C.out.mono ?_
  rintro e w1 ⟨rfl, rfl⟩
  go_upto_region 4 with (fail)
  generalize w.alloc (.cells #[.int .i64 (kp : Int), .int .i64 event, .bool true] 64) = u at *
  obtain ⟨g, hg⟩ : ∃ g, w.heap.size = g := ⟨_, rfl⟩
  rw [hg] at hxb
  rw [hg]
  replace hg := Lib.hid hg
  have x0 : u.cell? ⟨g, 0, none⟩ = some (.int .i64 (kp : Int)) := hxb.cell 0
  have x1 : u.cell? ⟨g, 1, none⟩ = some (.int .i64 event) := hxb.cell 1
  have x2 : u.cell? ⟨g, 2, none⟩ = some (.bool true) := hxb.cell 2
  have d3 : u.cell? ⟨p, 3, none⟩ = some (.map (some M)) := h1.blk.cell 3
  have hL := fun n => look_num (h1.later (below_dn u n)).num (((kp : Int), event, true) : Ln)
  rw [hk] at hL
  simp only [Option.map_none, Option.getD_none, Option.isSome_none, encL] at hL
  replace h1 := Lib.hid h1
  replace hD := Lib.hid hD
  clear h hk
  go_quiet (fail)
  go_wp2_with fail
  have h3 := h1.out.later (below_dn u nq)
  have b3 := hm.out.trans ((below_dn u nq).mono hm.out.size)
  have xb3 := Lib.hid (hxb.kept (below_dn u nq))
  clear hL x0 x1 x2 d3 h1 hm hxb
  generalize u.drewN nq = u3 at *
  have d0 : u3.cell? ⟨p, 0, none⟩ = some (.int .i64 s.most) := h3.blk.cell 0
  have H := Lib.hid (fun n => usedX B p M vA vF s (u3.drewN n) (h3.later (below_dn u3 n)))
  replace b3 := Lib.hid b3
  replace h3 := Lib.hid h3
  have hu2 : decide (s.most ≤ usedP s) = false := by simp; omega
  go_quiet (first | (go_at_call 17; exact Calls.quiet_of (H.out _)))
  have h4 := Lib.hid (h3.out.later (below_dn u3 nq))
  have b4 := Lib.hid (b3.out.trans ((below_dn u3 nq).mono b3.out.size))
  have xb4 := Lib.hid (xb3.out.kept (below_dn u3 nq))
  clear H h3 b3 xb3 d0
  generalize u3.drewN nq = u4 at *
  obtain ⟨A1, cap1, hv1, C4⟩ := find_some B p M vA vF s u4 h4.out kp cp hcp
  obtain ⟨A2, cap2, hv2, _, _, _, _, _, _, y4⟩ := h4.out.cl (findP_some.1 hcp).1
  rw [hv1] at hv2
  cases hv2
  rw [hv0] at hv1
  cases hv1
  subst hv0
  obtain ⟨q1, q2, q3⟩ := h4.out.put (j := 4) (v := .int .i64 (cp.holds + 1)) (c' := { cp with holds := cp.holds + 1 }) (findP_some.1 hcp).1 (by omega) rfl
  rw [← bump_some hcp] at q1
  have hwr : IntKind.i64.wrap (cp.holds + 1) = cp.holds + 1 := by rw [IntKind.wrap_i64]; omega
  have f5 : PFr (Has p M (.slice (some ⟨A0, 0, none⟩) s.all.length cap0) vF) u4 (u4.setCell ⟨A0, kp * 5 + 4, none⟩ (.int .i64 (cp.holds + 1))) := PFr.of_grown q2 fun k e => .inr (.inr (.inl e))
  have xb5 := xb4.out.else_ (p := ⟨A0, kp * 5 + 4, none⟩) (Blk.own_ne xb4.out h4.out.all (by decide) |> fun h e => h (by rw [← e]; rfl)) (.int .i64 (cp.holds + 1))
  replace q1 := Lib.hid q1
  replace f5 := Lib.hid f5
  replace xb5 := Lib.hid xb5
  replace C4 := Lib.hid C4
  clear q2 xb4 h4
  go_wp2_with fail
  refine C4.out.mono ?_
  rintro e w1 ⟨rfl, rfl⟩
  clear C4
  go_upto_region 12 with (fail)
  clear q3 y4
  generalize u4.setCell ⟨A0, kp * 5 + 4, none⟩ (.int .i64 (cp.holds + 1)) = u5 at *
  have h4 := q1.out
  replace f5 := f5.out
  have xb4 := xb5
  have y0 : u5.cell? ⟨g, 0, none⟩ = some (.int .i64 (kp : Int)) := xb4.out.cell 0
  have y1 : u5.cell? ⟨g, 1, none⟩ = some (.int .i64 event) := xb4.out.cell 1
  have y2 : u5.cell? ⟨g, 2, none⟩ = some (.bool true) := xb4.out.cell 2
  have hb5 := bump_len s (kp : Int)
  have L := fun n => ladd_gen B p M (.slice (some ⟨A0, 0, none⟩) s.all.length cap0) vF _ (u5.drewN n) (h4.later (below_dn u5 n)) (by first | exact hh | (rw [hb5.2.1]; exact hh)) (by first | exact hkf | (rw [hb5.2.1, hb5.1]; exact hkf)) (by first | exact hn | (rw [hb5.1]; exact hn)) (by first | exact hfn | (rw [hb5.2.1]; exact hfn)) (((kp : Int), event, true) : Ln) 1
  replace L := Lib.hid L
  have hng := Lib.hid (h4.ne_link xb4.out (by decide) (by decide) (by decide))
  replace h4 := Lib.hid h4
  replace f5 := Lib.hid f5
  go_region_with (go_at_call 25; refine (L.out 1).mono ?_; rintro e w6 ⟨rfl, h6⟩)
  all_goals
    have xb6 := h6.blk (xb4.out.kept (below_dn u5 1)) hng.out
    have z0 : w6.cell? ⟨g, 0, none⟩ = some (.int .i64 (kp : Int)) := xb6.cell 0
    have z1 : w6.cell? ⟨g, 1, none⟩ = some (.int .i64 event) := xb6.cell 1
    have z2 : w6.cell? ⟨g, 2, none⟩ = some (.bool true) := xb6.cell 2
    have d3 : w6.cell? ⟨p, 3, none⟩ = some (.map (some M)) := h6.mapc.1
    have hMm := (h6.mapc.2).later (Below.refl _ _).drew
    have hnk : nextK _ = nextK s := nextK_bump s (kp : Int)
    obtain ⟨w7, hup, hM7, hG7⟩ := up_num hMm (((kp : Int), event, true) : Ln) (nextK s : Int)
    dsimp only [encL] at hup
    have hfin := Lib.hid (add_endG (x := (((kp : Int), event, true) : Ln)) hD.out b4.out ((f5.out.trans (PFr.of_below (D := fun _ => False) (below_dn _ 1)) fun _ e => e.elim)) (by exact h6) ⟨w6.drew, (Below.refl _ _).drew, (by first | exact hM7 | (have h7 := hM7; rw [hb5.2.2.1] at h7; exact h7)), hG7⟩)
    clear y0 y1 y2 L hM7 hG7 hMm h6
    try rw [hnk]
    replace hnk := Lib.hid hnk
    replace hb5 := Lib.hid hb5
    go_wp2_with fail
    go_region_law (fail)
    all_goals go_wp2
    all_goals
      refine bodyPost_ret (v := .tuple #[.int .i64 (nextK s : Int), .bool true]) (by simp [results, Try.results11, go_sem]) rfl ⟨rfl, ?_⟩
      exact hfin.out

set_option maxHeartbeats 4000000 in
set_option maxRecDepth 100000 in
theorem add_gen_kid_false {B p : Nat} {D : Nat → Prop} {s : PS} {w : World} (hP : PAt B p D s w) (event : Int) (he : 0 ≤ event) (kp : Nat) (cp : Cl) (hcp : findP s (kp : Int) = some cp) (hb : 0 ≤ cp.holds ∧ cp.holds < 4611686018427387904) (hk : s.num (((kp : Int), event, false) : Ln) = none) (hu : usedP s < s.most) (hh : HeapN s.free s.free.length) (hkf : ∀ v ∈ s.free, ∃ k : Nat, v = (k : Int) ∧ k < s.all.length) (hn : s.all.length < 900000) (hfn : s.free.length < 900000) :
    Calls Try.prog 11 #[.pointer (some ⟨p, 0, none⟩), .int .i64 (kp : Int), .int .i64 event, .bool false] w fun e w' => e = .returned (.tuple #[.int .i64 (nextK s : Int), .bool true]) ∧ ∃ l, HeapN l l.length ∧ (s.free = [] ∧ l = [] ∨ s.free.Perm ((nextK s : Int) :: l)) ∧ POut B p D w (addG s (((kp : Int), event, false) : Ln) l) w' := by
  obtain ⟨M, vA, vF, h, hD⟩ := hP
  have h4 : decide (event < 0) = false := by simp; omega
  have hkp : 0 ≤ (kp : Int) := by omega
  have h3 : ((kp : Int) != -1) = true := by simp
  have h5 : ((kp : Int) == -1) = false := by simp
  obtain ⟨A0, cap0, hv0, C⟩ := find_some B p M vA vF s w h kp cp hcp
  replace C := Lib.hid C
  have hm := m1 w (.cells #[.int .i64 (kp : Int), .int .i64 event, .bool false] 64)
  have h1 := h.later hm
  have hxb := Blk.made w 64 #[.int .i64 (kp : Int), .int .i64 event, .bool false]
  replace hm := Lib.hid hm
  go_enter Try.func11, Try.ntmps11
  go_wp2_with fail
  refine C.out.mono ?_
  rintro e w1 ⟨rfl, rfl⟩
  go_upto_region 4 with (fail)
  generalize w.alloc (.cells #[.int .i64 (kp : Int), .int .i64 event, .bool false] 64) = u at *
  obtain ⟨g, hg⟩ : ∃ g, w.heap.size = g := ⟨_, rfl⟩
  rw [hg] at hxb
  rw [hg]
  replace hg := Lib.hid hg
  have x0 : u.cell? ⟨g, 0, none⟩ = some (.int .i64 (kp : Int)) := hxb.cell 0
  have x1 : u.cell? ⟨g, 1, none⟩ = some (.int .i64 event) := hxb.cell 1
  have x2 : u.cell? ⟨g, 2, none⟩ = some (.bool false) := hxb.cell 2
  have d3 : u.cell? ⟨p, 3, none⟩ = some (.map (some M)) := h1.blk.cell 3
  have hL := fun n => look_num (h1.later (below_dn u n)).num (((kp : Int), event, false) : Ln)
  rw [hk] at hL
  simp only [Option.map_none, Option.getD_none, Option.isSome_none, encL] at hL
  replace h1 := Lib.hid h1
  replace hD := Lib.hid hD
  clear h hk
  go_quiet (fail)
  go_wp2_with fail
  have h3 := h1.out.later (below_dn u nq)
  have b3 := hm.out.trans ((below_dn u nq).mono hm.out.size)
  have xb3 := Lib.hid (hxb.kept (below_dn u nq))
  clear hL x0 x1 x2 d3 h1 hm hxb
  generalize u.drewN nq = u3 at *
  have d0 : u3.cell? ⟨p, 0, none⟩ = some (.int .i64 s.most) := h3.blk.cell 0
  have H := Lib.hid (fun n => usedX B p M vA vF s (u3.drewN n) (h3.later (below_dn u3 n)))
  replace b3 := Lib.hid b3
  replace h3 := Lib.hid h3
  have hu2 : decide (s.most ≤ usedP s) = false := by simp; omega
  go_quiet (first | (go_at_call 17; exact Calls.quiet_of (H.out _)))
  have h4 := Lib.hid (h3.out.later (below_dn u3 nq))
  have b4 := Lib.hid (b3.out.trans ((below_dn u3 nq).mono b3.out.size))
  have xb4 := Lib.hid (xb3.out.kept (below_dn u3 nq))
  clear H h3 b3 xb3 d0
  generalize u3.drewN nq = u4 at *
  obtain ⟨A1, cap1, hv1, C4⟩ := find_some B p M vA vF s u4 h4.out kp cp hcp
  obtain ⟨A2, cap2, hv2, _, _, _, _, _, _, y4⟩ := h4.out.cl (findP_some.1 hcp).1
  rw [hv1] at hv2
  cases hv2
  rw [hv0] at hv1
  cases hv1
  subst hv0
  obtain ⟨q1, q2, q3⟩ := h4.out.put (j := 4) (v := .int .i64 (cp.holds + 1)) (c' := { cp with holds := cp.holds + 1 }) (findP_some.1 hcp).1 (by omega) rfl
  rw [← bump_some hcp] at q1
  have hwr : IntKind.i64.wrap (cp.holds + 1) = cp.holds + 1 := by rw [IntKind.wrap_i64]; omega
  have f5 : PFr (Has p M (.slice (some ⟨A0, 0, none⟩) s.all.length cap0) vF) u4 (u4.setCell ⟨A0, kp * 5 + 4, none⟩ (.int .i64 (cp.holds + 1))) := PFr.of_grown q2 fun k e => .inr (.inr (.inl e))
  have xb5 := xb4.out.else_ (p := ⟨A0, kp * 5 + 4, none⟩) (Blk.own_ne xb4.out h4.out.all (by decide) |> fun h e => h (by rw [← e]; rfl)) (.int .i64 (cp.holds + 1))
  replace q1 := Lib.hid q1
  replace f5 := Lib.hid f5
  replace xb5 := Lib.hid xb5
  replace C4 := Lib.hid C4
  clear q2 xb4 h4
  go_wp2_with fail
  refine C4.out.mono ?_
  rintro e w1 ⟨rfl, rfl⟩
  clear C4
  go_upto_region 12 with (fail)
  clear q3 y4
  generalize u4.setCell ⟨A0, kp * 5 + 4, none⟩ (.int .i64 (cp.holds + 1)) = u5 at *
  have h4 := q1.out
  replace f5 := f5.out
  have xb4 := xb5
  have y0 : u5.cell? ⟨g, 0, none⟩ = some (.int .i64 (kp : Int)) := xb4.out.cell 0
  have y1 : u5.cell? ⟨g, 1, none⟩ = some (.int .i64 event) := xb4.out.cell 1
  have y2 : u5.cell? ⟨g, 2, none⟩ = some (.bool false) := xb4.out.cell 2
  have hb5 := bump_len s (kp : Int)
  have L := fun n => ladd_gen B p M (.slice (some ⟨A0, 0, none⟩) s.all.length cap0) vF _ (u5.drewN n) (h4.later (below_dn u5 n)) (by first | exact hh | (rw [hb5.2.1]; exact hh)) (by first | exact hkf | (rw [hb5.2.1, hb5.1]; exact hkf)) (by first | exact hn | (rw [hb5.1]; exact hn)) (by first | exact hfn | (rw [hb5.2.1]; exact hfn)) (((kp : Int), event, false) : Ln) 1
  replace L := Lib.hid L
  have hng := Lib.hid (h4.ne_link xb4.out (by decide) (by decide) (by decide))
  replace h4 := Lib.hid h4
  replace f5 := Lib.hid f5
  go_region_with (go_at_call 25; refine (L.out 1).mono ?_; rintro e w6 ⟨rfl, h6⟩)
  all_goals
    have xb6 := h6.blk (xb4.out.kept (below_dn u5 1)) hng.out
    have z0 : w6.cell? ⟨g, 0, none⟩ = some (.int .i64 (kp : Int)) := xb6.cell 0
    have z1 : w6.cell? ⟨g, 1, none⟩ = some (.int .i64 event) := xb6.cell 1
    have z2 : w6.cell? ⟨g, 2, none⟩ = some (.bool false) := xb6.cell 2
    have d3 : w6.cell? ⟨p, 3, none⟩ = some (.map (some M)) := h6.mapc.1
    have hMm := (h6.mapc.2).later (Below.refl _ _).drew
    have hnk : nextK _ = nextK s := nextK_bump s (kp : Int)
    obtain ⟨w7, hup, hM7, hG7⟩ := up_num hMm (((kp : Int), event, false) : Ln) (nextK s : Int)
    dsimp only [encL] at hup
    have hfin := Lib.hid (add_endG (x := (((kp : Int), event, false) : Ln)) hD.out b4.out ((f5.out.trans (PFr.of_below (D := fun _ => False) (below_dn _ 1)) fun _ e => e.elim)) (by exact h6) ⟨w6.drew, (Below.refl _ _).drew, (by first | exact hM7 | (have h7 := hM7; rw [hb5.2.2.1] at h7; exact h7)), hG7⟩)
    clear y0 y1 y2 L hM7 hG7 hMm h6
    try rw [hnk]
    replace hnk := Lib.hid hnk
    replace hb5 := Lib.hid hb5
    go_wp2_with fail
    go_region_law (fail)
    all_goals go_wp2
    all_goals
      refine bodyPost_ret (v := .tuple #[.int .i64 (nextK s : Int), .bool true]) (by simp [results, Try.results11, go_sem]) rfl ⟨rfl, ?_⟩
      exact hfin.out
end Go.Proofs.Ytdgbnibnhajfoaa
