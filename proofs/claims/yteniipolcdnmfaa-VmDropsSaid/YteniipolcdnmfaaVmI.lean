/- The example of layer 18: a quotient that isn't poison, and one that is. -/
import Derived.Test.YteniipolcdnmfaaVmH
namespace Go.Proofs.Yteniipolcdnmfaa
open Go.ChangeShapes Go.WideShapes Go.ChangeAt Go.RowKit Go.Fl
set_option linter.unusedVariables false
set_option linter.unusedSimpArgs false

theorem num18_any (n : Nat) (w : World) (hn : n < 18446744073709551616 := by decide) :
    Calls Try.prog 12 #[.int .i64 (n : Int)] w fun e w' => e = .returned (.agg #[.int .i64 1, .int .u64 (n : Int)]) ∧ Below w.heap.size w w' := by
  have hw : IntKind.u64.wrap (n : Int) = (n : Int) := by rw [IntKind.wrap_u64]; omega
  go_enter Try.func12, Try.ntmps12
  go_wp2
  exact bodyPost_ret (v := .agg #[.int .i64 1, .int .u64 (n : Int)]) (by simp [results, Try.results12, go_sem]) rfl ⟨rfl, below1 _ _⟩
def cA : CodeP := ⟨3, 0, [(41, 1, 0, 0)], [(1, 6)], [(51, 0, 0, 0), (50, 1, 0, 0), (4, 2, 0, 1), (52, 0, 2, 0)]⟩
theorem cA_good : goodC cA = true := by kernel_rfl
theorem cA_two : codeRun cA [(1, 2)] = (1, 3) := by kernel_rfl
theorem cA_nought : codeRun cA [(1, 0)] = (0, 0) := by kernel_rfl
theorem cA_lies (w1 : World) (g1 : Nat) (hg : g1 < w1.heap.size) (q0 : w1.cell? ⟨g1, 0, none⟩ = some (.int .i64 41)) (q1 : w1.cell? ⟨g1, 1, none⟩ = some (.int .i64 1)) (q2 : w1.cell? ⟨g1, 2, none⟩ = some (.int .i64 0)) (q3 : w1.cell? ⟨g1, 3, none⟩ = some (.int .i64 0)) :
    CodeAt (((w1.alloc (.cells #[.int .i64 1, .int .u64 6] 34)).alloc (.cells #[.int .i64 51, .int .i64 0, .int .i64 0, .int .i64 0, .int .i64 50, .int .i64 1, .int .i64 0, .int .i64 0, .int .i64 4, .int .i64 2, .int .i64 0, .int .i64 1, .int .i64 52, .int .i64 0, .int .i64 2, .int .i64 0] 42)).alloc (.cells #[.int .i64 3, .int .i64 0, .slice (some ⟨g1, 0, none⟩) 1 1, .slice (some ⟨w1.heap.size, 0, none⟩) 1 1, .slice (some ⟨w1.heap.size + 1, 0, none⟩) 4 4] 26)) (w1.heap.size + 1 + 1) cA ⟨some ⟨g1, 0, none⟩, 1, some ⟨w1.heap.size, 0, none⟩, 1, some ⟨w1.heap.size + 1, 0, none⟩, 4⟩ ∧
    CodeIn (((w1.alloc (.cells #[.int .i64 1, .int .u64 6] 34)).alloc (.cells #[.int .i64 51, .int .i64 0, .int .i64 0, .int .i64 0, .int .i64 50, .int .i64 1, .int .i64 0, .int .i64 0, .int .i64 4, .int .i64 2, .int .i64 0, .int .i64 1, .int .i64 52, .int .i64 0, .int .i64 2, .int .i64 0] 42)).alloc (.cells #[.int .i64 3, .int .i64 0, .slice (some ⟨g1, 0, none⟩) 1 1, .slice (some ⟨w1.heap.size, 0, none⟩) 1 1, .slice (some ⟨w1.heap.size + 1, 0, none⟩) 4 4] 26)) cA ⟨some ⟨g1, 0, none⟩, 1, some ⟨w1.heap.size, 0, none⟩, 1, some ⟨w1.heap.size + 1, 0, none⟩, 4⟩ ∧ Below w1.heap.size w1 (((w1.alloc (.cells #[.int .i64 1, .int .u64 6] 34)).alloc (.cells #[.int .i64 51, .int .i64 0, .int .i64 0, .int .i64 0, .int .i64 50, .int .i64 1, .int .i64 0, .int .i64 0, .int .i64 4, .int .i64 2, .int .i64 0, .int .i64 1, .int .i64 52, .int .i64 0, .int .i64 2, .int .i64 0] 42)).alloc (.cells #[.int .i64 3, .int .i64 0, .slice (some ⟨g1, 0, none⟩) 1 1, .slice (some ⟨w1.heap.size, 0, none⟩) 1 1, .slice (some ⟨w1.heap.size + 1, 0, none⟩) 4 4] 26)) := by
  have e1 : (w1.alloc (.cells #[.int .i64 1, .int .u64 6] 34)).heap.size = w1.heap.size + 1 := by simp
  have e2 : ((w1.alloc (.cells #[.int .i64 1, .int .u64 6] 34)).alloc (.cells #[.int .i64 51, .int .i64 0, .int .i64 0, .int .i64 0, .int .i64 50, .int .i64 1, .int .i64 0, .int .i64 0, .int .i64 4, .int .i64 2, .int .i64 0, .int .i64 1, .int .i64 52, .int .i64 0, .int .i64 2, .int .i64 0] 42)).heap.size = w1.heap.size + 1 + 1 := by simp
  have h2 := m2 w1 (.cells #[.int .i64 1, .int .u64 6] 34) (.cells #[.int .i64 51, .int .i64 0, .int .i64 0, .int .i64 0, .int .i64 50, .int .i64 1, .int .i64 0, .int .i64 0, .int .i64 4, .int .i64 2, .int .i64 0, .int .i64 1, .int .i64 52, .int .i64 0, .int .i64 2, .int .i64 0] 42)
  have h3 := h2.alloc (by rw [e2]; omega) (.cells #[.int .i64 3, .int .i64 0, .slice (some ⟨g1, 0, none⟩) 1 1, .slice (some ⟨w1.heap.size, 0, none⟩) 1 1, .slice (some ⟨w1.heap.size + 1, 0, none⟩) 4 4] 26)
  have k3 := m1 ((w1.alloc (.cells #[.int .i64 1, .int .u64 6] 34)).alloc (.cells #[.int .i64 51, .int .i64 0, .int .i64 0, .int .i64 0, .int .i64 50, .int .i64 1, .int .i64 0, .int .i64 0, .int .i64 4, .int .i64 2, .int .i64 0, .int .i64 1, .int .i64 52, .int .i64 0, .int .i64 2, .int .i64 0] 42)) (.cells #[.int .i64 3, .int .i64 0, .slice (some ⟨g1, 0, none⟩) 1 1, .slice (some ⟨w1.heap.size, 0, none⟩) 1 1, .slice (some ⟨w1.heap.size + 1, 0, none⟩) 4 4] 26)
  have b1 := ((Blk.made w1 34 #[.int .i64 1, .int .u64 6]).kept (m1 _ (.cells #[.int .i64 51, .int .i64 0, .int .i64 0, .int .i64 0, .int .i64 50, .int .i64 1, .int .i64 0, .int .i64 0, .int .i64 4, .int .i64 2, .int .i64 0, .int .i64 1, .int .i64 52, .int .i64 0, .int .i64 2, .int .i64 0] 42))).kept k3
  have b2 := (Blk.made (w1.alloc (.cells #[.int .i64 1, .int .u64 6] 34)) 42 #[.int .i64 51, .int .i64 0, .int .i64 0, .int .i64 0, .int .i64 50, .int .i64 1, .int .i64 0, .int .i64 0, .int .i64 4, .int .i64 2, .int .i64 0, .int .i64 1, .int .i64 52, .int .i64 0, .int .i64 2, .int .i64 0]).kept k3
  have b3 := Blk.made ((w1.alloc (.cells #[.int .i64 1, .int .u64 6] 34)).alloc (.cells #[.int .i64 51, .int .i64 0, .int .i64 0, .int .i64 0, .int .i64 50, .int .i64 1, .int .i64 0, .int .i64 0, .int .i64 4, .int .i64 2, .int .i64 0, .int .i64 1, .int .i64 52, .int .i64 0, .int .i64 2, .int .i64 0] 42)) 26 #[.int .i64 3, .int .i64 0, .slice (some ⟨g1, 0, none⟩) 1 1, .slice (some ⟨w1.heap.size, 0, none⟩) 1 1, .slice (some ⟨w1.heap.size + 1, 0, none⟩) 4 4]
  rw [e1] at b2
  rw [e2] at b3
  refine ⟨⟨b3.cell 0, b3.cell 1, b3.cell 2, b3.cell 3, b3.cell 4⟩, ⟨fun _ => ⟨g1, 0, rfl, fun i x hi => ?_⟩, ?_, fun _ => ⟨w1.heap.size + 1, 0, rfl, fun i x hi => ?_⟩, by decide, by decide, by decide⟩, h3⟩
  · match i, hi with
    | 0, hi =>
      simp [cA] at hi
      subst hi
      exact ⟨cell_later h3 q0, cell_later h3 q1, cell_later h3 q2, cell_later h3 q3⟩
  · exact (row_one (k1 := 1) (b1 := 6) (by decide) (b1.cell 0) (b1.cell 1))
  · match i, hi with
    | 0, hi => simp [cA] at hi; subst hi; exact ⟨b2.cell 0, b2.cell 1, b2.cell 2, b2.cell 3⟩
    | 1, hi => simp [cA] at hi; subst hi; exact ⟨b2.cell 4, b2.cell 5, b2.cell 6, b2.cell 7⟩
    | 2, hi => simp [cA] at hi; subst hi; exact ⟨b2.cell 8, b2.cell 9, b2.cell 10, b2.cell 11⟩
    | 3, hi => simp [cA] at hi; subst hi; exact ⟨b2.cell 12, b2.cell 13, b2.cell 14, b2.cell 15⟩
set_option maxHeartbeats 8000000 in
set_option maxRecDepth 100000 in
theorem awake18 (w : World) : Calls Try.prog 4 #[] w fun e w' => e = .returned (.bool true) ∧ Below w.heap.size w w' := by
  go_enter Try.func4, Try.ntmps4
  go_wp2_with fail
  refine (num18_any 6 _).mono ?_; rintro e w1 ⟨rfl, hb1⟩
  have q0 : w1.cell? ⟨w.heap.size, 0, none⟩ = some (.int .i64 41) := cell_later hb1 (by simp)
  have q1 : w1.cell? ⟨w.heap.size, 1, none⟩ = some (.int .i64 1) := cell_later hb1 (by simp)
  have q2 : w1.cell? ⟨w.heap.size, 2, none⟩ = some (.int .i64 0) := cell_later hb1 (by simp)
  have q3 : w1.cell? ⟨w.heap.size, 3, none⟩ = some (.int .i64 0) := cell_later hb1 (by simp)
  have hB := below_more (below1 w _) hb1
  have hg := mblock q0
  clear hb1
  go_upto_region 2 with (fail)
  obtain ⟨hcode, hin, hb2⟩ := cA_lies w1 w.heap.size hg q0 q1 q2 q3
  replace hB := below_more hB hb2
  clear hb2 q0 q1 q2 q3 hg
  have G1 := Lib.hid (fun g1 g2 g3 u h => vgood_any cA ⟨some ⟨g1, 0, none⟩, 1, some ⟨g2, 0, none⟩, 1, some ⟨g3, 0, none⟩, 4⟩ u h)
  have R1 := Lib.hid (fun g1 g2 g3 gp u h h2 => vrun_any cA ⟨some ⟨g1, 0, none⟩, 1, some ⟨g2, 0, none⟩, 1, some ⟨g3, 0, none⟩, 4⟩ (some ⟨gp, 0, none⟩) 1 1 [(1, 2)] u h h2 (by decide))
  have R2 := Lib.hid (fun g1 g2 g3 gp u h h2 => vrun_any cA ⟨some ⟨g1, 0, none⟩, 1, some ⟨g2, 0, none⟩, 1, some ⟨g3, 0, none⟩, 4⟩ (some ⟨gp, 0, none⟩) 1 1 [(1, 0)] u h h2 (by decide))
  rw [cA_good] at G1
  rw [cA_two] at R1
  rw [cA_nought] at R2
  generalize ((w1.alloc (.cells #[.int .i64 1, .int .u64 6] 34)).alloc (.cells #[.int .i64 51, .int .i64 0, .int .i64 0, .int .i64 0, .int .i64 50, .int .i64 1, .int .i64 0, .int .i64 0, .int .i64 4, .int .i64 2, .int .i64 0, .int .i64 1, .int .i64 52, .int .i64 0, .int .i64 2, .int .i64 0] 42)).alloc (.cells #[.int .i64 3, .int .i64 0, .slice (some ⟨w.heap.size, 0, none⟩) 1 1, .slice (some ⟨w1.heap.size, 0, none⟩) 1 1, .slice (some ⟨w1.heap.size + 1, 0, none⟩) 4 4] 26) = u0 at *
  generalize w1.heap.size + 1 + 1 = g at *
  generalize w1.heap.size + 1 = g3 at *
  generalize w1.heap.size = g2 at *
  obtain ⟨g1, hg1⟩ : ∃ x, w.heap.size = x := ⟨_, rfl⟩
  rw [hg1] at hcode hin ⊢
  replace G1 := Lib.hid (G1.out g1 g2 g3)
  replace R1 := Lib.hid (R1.out g1 g2 g3)
  replace R2 := Lib.hid (R2.out g1 g2 g3)
  have KD := G.keepsD_true []
  refine G.region_words (fun w' => CodeAt w' g cA ⟨some ⟨g1, 0, none⟩, 1, some ⟨g2, 0, none⟩, 1, some ⟨g3, 0, none⟩, 4⟩ ∧ CodeIn w' cA ⟨some ⟨g1, 0, none⟩, 1, some ⟨g2, 0, none⟩, 1, some ⟨g3, 0, none⟩, 4⟩ ∧ Below w.heap.size w w') [G.isW (.agg #[.int .i64 3, .int .i64 0, .slice (some ⟨g1, 0, none⟩) 1 1, .slice (some ⟨g2, 0, none⟩) 1 1, .slice (some ⟨g3, 0, none⟩) 4 4]), G.isW (.bool true), G.isW (.bool true), G.isW (.agg #[.int .i64 3, .int .i64 0, .slice (some ⟨g1, 0, none⟩) 1 1, .slice (some ⟨g2, 0, none⟩) 1 1, .slice (some ⟨g3, 0, none⟩) 4 4]), G.isW (.agg #[.int .i64 1, .int .u64 2]), SglW (1, 2), G.isW (.agg #[.int .i64 1, .int .u64 3]), G.isW (.agg #[.int .i64 1, .int .u64 3]), G.isW (.bool true), G.isW (.bool true), G.isW (.bool true), G.isW (.agg #[.int .i64 3, .int .i64 0, .slice (some ⟨g1, 0, none⟩) 1 1, .slice (some ⟨g2, 0, none⟩) 1 1, .slice (some ⟨g3, 0, none⟩) 4 4]), G.isW (.agg #[.int .i64 1, .int .u64 0]), SglW (1, 0), G.isW (.agg #[.int .i64 0, .int .u64 0]), G.isW (.agg #[.int .i64 0, .int .u64 0]), G.isW (.bool true), G.isW (.bool true), G.isW (.bool true)] (by kernel_rfl) (by repeat' (first | exact G.monoL_nil | exact G.is_mono _ | exact G.any_mono | exact sglw_mono _ | refine G.monoL_cons ?_ ?_)) (by kernel_rfl) (by kernel_rfl) (fun _ _ h hb => ⟨h.1.later hb, h.2.1.later hb, below_more h.2.2 hb⟩) ⟨hcode.later (Below.refl _ _).drew, hin.later (Below.refl _ _).drew, hB.drew⟩ ?_ ?_
  · intro KC
    refine G.stepsL_cons (fun a u hc hdd hd hk hdep => ?_) ?_
    ·
      have d1 : (a.tmps[1]?).getD undef = (.pointer (some ⟨g, 0, none⟩)) := hk 1 (by kernel_rfl)
      refine G.step_val KC KD hc hdd rfl (.agg #[.int .i64 3, .int .i64 0, .slice (some ⟨g1, 0, none⟩) 1 1, .slice (some ⟨g2, 0, none⟩) 1 1, .slice (some ⟨g3, 0, none⟩) 4 4]) u (G.wanted_plain rfl) ?_ rfl (Below.refl _ _)
      obtain ⟨s0, s1, s2, s3, s4⟩ := hc.1
      dsimp only [cA] at s0 s1 s2 s3 s4
      first | (go_simp; done) | rfl | (simp [go_sem, *]; done)
    refine G.stepsL_cons (fun a u hc hdd hd hk hdep => ?_) ?_
    ·
      have d12 : (a.tmps[12]?).getD undef = (.agg #[.int .i64 3, .int .i64 0, .slice (some ⟨g1, 0, none⟩) 1 1, .slice (some ⟨g2, 0, none⟩) 1 1, .slice (some ⟨g3, 0, none⟩) 4 4]) := hdep ⟨0, .data⟩ (by simp) rfl
      refine G.step_call KC KD hc hdd rfl 11 #[.agg #[.int .i64 3, .int .i64 0, .slice (some ⟨g1, 0, none⟩) 1 1, .slice (some ⟨g2, 0, none⟩) 1 1, .slice (some ⟨g3, 0, none⟩) 4 4]] (G.wanted_plain rfl) (by first | (go_simp; done) | rfl) ?_
      exact (G1.out u hc.2.1).mono (by rintro e w' ⟨rfl, hb⟩; exact ⟨_, rfl, rfl, hb⟩)
    refine G.stepsL_cons (fun a u hc hdd hd hk hdep => ?_) ?_
    ·
      have d13 : (a.tmps[13]?).getD undef = (.bool true) := hdep ⟨1, .data⟩ (by simp) rfl
      refine G.step_val KC KD hc hdd rfl (.bool true) u (G.wanted_plain rfl) ?_ rfl (Below.refl _ _)
      first | (go_simp; done) | rfl | (simp [go_sem, *]; done)
    refine G.stepsL_cons (fun a u hc hdd hd hk hdep => ?_) ?_
    ·
      have d1 : (a.tmps[1]?).getD undef = (.pointer (some ⟨g, 0, none⟩)) := hk 1 (by kernel_rfl)
      refine G.step_val KC KD hc hdd rfl (.agg #[.int .i64 3, .int .i64 0, .slice (some ⟨g1, 0, none⟩) 1 1, .slice (some ⟨g2, 0, none⟩) 1 1, .slice (some ⟨g3, 0, none⟩) 4 4]) u ((G.wanted_guard (j := 2) (b := true) (c := true) rfl (hdep ⟨2, .guard⟩ (by simp) rfl)).trans rfl) ?_ rfl (Below.refl _ _)
      obtain ⟨s0, s1, s2, s3, s4⟩ := hc.1
      dsimp only [cA] at s0 s1 s2 s3 s4
      first | (go_simp; done) | rfl | (simp [go_sem, *]; done)
    refine G.stepsL_cons (fun a u hc hdd hd hk hdep => ?_) ?_
    ·
      refine G.step_call KC KD hc hdd rfl 12 #[.int .i64 2] ((G.wanted_guard (j := 2) (b := true) (c := true) rfl (hdep ⟨2, .chain⟩ (by simp) rfl)).trans rfl) (by first | (go_simp; done) | rfl) ?_
      exact (num18_any 2 u).mono (by rintro e w' ⟨rfl, hb⟩; exact ⟨_, rfl, rfl, hb⟩)
    refine G.stepsL_cons (fun a u hc hdd hd hk hdep => ?_) ?_
    ·
      have d16 : (a.tmps[16]?).getD undef = (.agg #[.int .i64 1, .int .u64 2]) := hdep ⟨4, .data⟩ (by simp) rfl
      refine G.step_val KC KD hc hdd rfl (.slice (some ⟨u.heap.size, 0, none⟩) 1 1) (u.alloc (.cells #[.int .i64 1, .int .u64 2] 34)) ((G.wanted_guard (j := 2) (b := true) (c := true) rfl (hdep ⟨2, .guard⟩ (by simp) rfl)).trans rfl) ?_ ⟨u.heap.size, rfl, row_one (k1 := 1) (b1 := 2) (by decide) (by simp) (by simp)⟩ (m1 _ _)
      first | (go_simp; done) | rfl | (simp [go_sem, *]; done)
    refine G.stepsL_cons (fun a u hc hdd hd hk hdep => ?_) ?_
    ·
      have d15 : (a.tmps[15]?).getD undef = (.agg #[.int .i64 3, .int .i64 0, .slice (some ⟨g1, 0, none⟩) 1 1, .slice (some ⟨g2, 0, none⟩) 1 1, .slice (some ⟨g3, 0, none⟩) 4 4]) := hdep ⟨3, .data⟩ (by simp) rfl
      have d17' : (SglW (1, 2)) ((a.tmps[17]?).getD undef) u := hdep ⟨5, .data⟩ (by simp) rfl
      obtain ⟨gp, d17, hp⟩ := d17'
      refine G.step_call KC KD hc hdd rfl 10 #[.agg #[.int .i64 3, .int .i64 0, .slice (some ⟨g1, 0, none⟩) 1 1, .slice (some ⟨g2, 0, none⟩) 1 1, .slice (some ⟨g3, 0, none⟩) 4 4], .slice (some ⟨gp, 0, none⟩) 1 1] ((G.wanted_guard (j := 2) (b := true) (c := true) rfl (hdep ⟨2, .guard⟩ (by simp) rfl)).trans rfl) (by first | (go_simp; done) | rfl) ?_
      exact (R1.out gp u hc.2.1 hp).mono (by rintro e w' ⟨rfl, hb⟩; exact ⟨_, rfl, rfl, hb⟩)
    refine G.stepsL_cons (fun a u hc hdd hd hk hdep => ?_) ?_
    ·
      refine G.step_call KC KD hc hdd rfl 12 #[.int .i64 3] ((G.wanted_guard (j := 2) (b := true) (c := true) rfl (hdep ⟨2, .guard⟩ (by simp) rfl)).trans rfl) (by first | (go_simp; done) | rfl) ?_
      exact (num18_any 3 u).mono (by rintro e w' ⟨rfl, hb⟩; exact ⟨_, rfl, rfl, hb⟩)
    refine G.stepsL_cons (fun a u hc hdd hd hk hdep => ?_) ?_
    ·
      have d18 : (a.tmps[18]?).getD undef = (.agg #[.int .i64 1, .int .u64 3]) := hdep ⟨6, .data⟩ (by simp) rfl
      have d19 : (a.tmps[19]?).getD undef = (.agg #[.int .i64 1, .int .u64 3]) := hdep ⟨7, .data⟩ (by simp) rfl
      refine G.step_val KC KD hc hdd rfl (.bool true) u ((G.wanted_guard (j := 2) (b := true) (c := true) rfl (hdep ⟨2, .guard⟩ (by simp) rfl)).trans rfl) ?_ rfl (Below.refl _ _)
      have he := eqV 1 1 3 3 u
      first | (go_simp; done) | rfl | (simp [go_sem, *]; done)
    refine G.stepsL_cons (fun a u hc hdd hd hk hdep => ?_) ?_
    ·
      have d14 : (a.tmps[14]?).getD undef = (.bool true) := hdep ⟨2, .data⟩ (by simp) rfl
      have d20 : (a.tmps[20]?).getD undef = (.bool true) := hdep ⟨8, .data⟩ (by simp) rfl
      refine G.step_val KC KD hc hdd rfl (.bool true) u (G.wanted_plain rfl) ?_ rfl (Below.refl _ _)
      first | (go_simp; done) | rfl | (simp [go_sem, *]; done)
    refine G.stepsL_cons (fun a u hc hdd hd hk hdep => ?_) ?_
    ·
      have d21 : (a.tmps[21]?).getD undef = (.bool true) := hdep ⟨9, .data⟩ (by simp) rfl
      refine G.step_val KC KD hc hdd rfl (.bool true) u (G.wanted_plain rfl) ?_ rfl (Below.refl _ _)
      first | (go_simp; done) | rfl | (simp [go_sem, *]; done)
    refine G.stepsL_cons (fun a u hc hdd hd hk hdep => ?_) ?_
    ·
      have d1 : (a.tmps[1]?).getD undef = (.pointer (some ⟨g, 0, none⟩)) := hk 1 (by kernel_rfl)
      refine G.step_val KC KD hc hdd rfl (.agg #[.int .i64 3, .int .i64 0, .slice (some ⟨g1, 0, none⟩) 1 1, .slice (some ⟨g2, 0, none⟩) 1 1, .slice (some ⟨g3, 0, none⟩) 4 4]) u ((G.wanted_guard (j := 10) (b := true) (c := true) rfl (hdep ⟨10, .guard⟩ (by simp) rfl)).trans rfl) ?_ rfl (Below.refl _ _)
      obtain ⟨s0, s1, s2, s3, s4⟩ := hc.1
      dsimp only [cA] at s0 s1 s2 s3 s4
      first | (go_simp; done) | rfl | (simp [go_sem, *]; done)
    refine G.stepsL_cons (fun a u hc hdd hd hk hdep => ?_) ?_
    ·
      refine G.step_call KC KD hc hdd rfl 12 #[.int .i64 0] ((G.wanted_guard (j := 10) (b := true) (c := true) rfl (hdep ⟨10, .chain⟩ (by simp) rfl)).trans rfl) (by first | (go_simp; done) | rfl) ?_
      exact (num18_any 0 u).mono (by rintro e w' ⟨rfl, hb⟩; exact ⟨_, rfl, rfl, hb⟩)
    refine G.stepsL_cons (fun a u hc hdd hd hk hdep => ?_) ?_
    ·
      have d24 : (a.tmps[24]?).getD undef = (.agg #[.int .i64 1, .int .u64 0]) := hdep ⟨12, .data⟩ (by simp) rfl
      refine G.step_val KC KD hc hdd rfl (.slice (some ⟨u.heap.size, 0, none⟩) 1 1) (u.alloc (.cells #[.int .i64 1, .int .u64 0] 34)) ((G.wanted_guard (j := 10) (b := true) (c := true) rfl (hdep ⟨10, .guard⟩ (by simp) rfl)).trans rfl) ?_ ⟨u.heap.size, rfl, row_one (k1 := 1) (b1 := 0) (by decide) (by simp) (by simp)⟩ (m1 _ _)
      first | (go_simp; done) | rfl | (simp [go_sem, *]; done)
    refine G.stepsL_cons (fun a u hc hdd hd hk hdep => ?_) ?_
    ·
      have d23 : (a.tmps[23]?).getD undef = (.agg #[.int .i64 3, .int .i64 0, .slice (some ⟨g1, 0, none⟩) 1 1, .slice (some ⟨g2, 0, none⟩) 1 1, .slice (some ⟨g3, 0, none⟩) 4 4]) := hdep ⟨11, .data⟩ (by simp) rfl
      have d25' : (SglW (1, 0)) ((a.tmps[25]?).getD undef) u := hdep ⟨13, .data⟩ (by simp) rfl
      obtain ⟨gp, d25, hp⟩ := d25'
      refine G.step_call KC KD hc hdd rfl 10 #[.agg #[.int .i64 3, .int .i64 0, .slice (some ⟨g1, 0, none⟩) 1 1, .slice (some ⟨g2, 0, none⟩) 1 1, .slice (some ⟨g3, 0, none⟩) 4 4], .slice (some ⟨gp, 0, none⟩) 1 1] ((G.wanted_guard (j := 10) (b := true) (c := true) rfl (hdep ⟨10, .guard⟩ (by simp) rfl)).trans rfl) (by first | (go_simp; done) | rfl) ?_
      exact (R2.out gp u hc.2.1 hp).mono (by rintro e w' ⟨rfl, hb⟩; exact ⟨_, rfl, rfl, hb⟩)
    refine G.stepsL_cons (fun a u hc hdd hd hk hdep => ?_) ?_
    ·
      refine G.step_val KC KD hc hdd rfl (.agg #[.int .i64 0, .int .u64 0]) u ((G.wanted_guard (j := 10) (b := true) (c := true) rfl (hdep ⟨10, .guard⟩ (by simp) rfl)).trans rfl) ?_ rfl (Below.refl _ _)
      first | (go_simp; done) | rfl | (simp [go_sem, *]; done)
    refine G.stepsL_cons (fun a u hc hdd hd hk hdep => ?_) ?_
    ·
      have d26 : (a.tmps[26]?).getD undef = (.agg #[.int .i64 0, .int .u64 0]) := hdep ⟨14, .data⟩ (by simp) rfl
      have d27 : (a.tmps[27]?).getD undef = (.agg #[.int .i64 0, .int .u64 0]) := hdep ⟨15, .data⟩ (by simp) rfl
      refine G.step_val KC KD hc hdd rfl (.bool true) u ((G.wanted_guard (j := 10) (b := true) (c := true) rfl (hdep ⟨10, .guard⟩ (by simp) rfl)).trans rfl) ?_ rfl (Below.refl _ _)
      have he := eqV 0 0 0 0 u
      first | (go_simp; done) | rfl | (simp [go_sem, *]; done)
    refine G.stepsL_cons (fun a u hc hdd hd hk hdep => ?_) ?_
    ·
      have d22 : (a.tmps[22]?).getD undef = (.bool true) := hdep ⟨10, .data⟩ (by simp) rfl
      have d28 : (a.tmps[28]?).getD undef = (.bool true) := hdep ⟨16, .data⟩ (by simp) rfl
      refine G.step_val KC KD hc hdd rfl (.bool true) u (G.wanted_plain rfl) ?_ rfl (Below.refl _ _)
      first | (go_simp; done) | rfl | (simp [go_sem, *]; done)
    refine G.stepsL_cons (fun a u hc hdd hd hk hdep => ?_) ?_
    ·
      have d29 : (a.tmps[29]?).getD undef = (.bool true) := hdep ⟨17, .data⟩ (by simp) rfl
      refine G.step_val KC KD hc hdd rfl (.bool true) u (G.wanted_plain rfl) ?_ rfl (Below.refl _ _)
      first | (go_simp; done) | rfl | (simp [go_sem, *]; done)
    exact G.stepsL_nil
  intro vs' wN hNN hh
  have eL : vs' 18 = (.bool true) := by
    obtain ⟨-, -, -, -, -, -, -, -, -, -, -, -, -, -, -, -, -, -,  eX, -⟩ := hh
    exact eX
  clear hh hcode hin hB
  obtain ⟨-, -, hB⟩ := hNN
  set_option maxRecDepth 100000 in simp only [List.take_succ_cons, List.take_zero, putAll, Act.put, List.setIfInBounds_toArray, List.set_cons_zero, List.set_cons_succ, Nat.reduceAdd, eL]
  clear eL
  go_wp2
  go_ret
  exact ⟨rfl, hB⟩
end Go.Proofs.Yteniipolcdnmfaa
