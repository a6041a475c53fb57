/- One text of several (VmI, Wb, VmL, VmN, LawVmGoods). -/
import Derived.Test.YtagjfeblkpkgaaaVmH
import Derived.Test.YtagjfeblkpkgaaaMem
import Derived.Deep.Slices
import Derived.Deep.Fields
import Derived.Deep.SlicePairs
import Derived.ChangeSame
import Derived.SizedLaws
import Derived.OpenShut
import Derived.Lib.SmallJoins
import Derived.Test.YtagjfeblkpkgaaaVmD
import Derived.Test.YtagjfeblkpkgaaaRows
import Derived.WalkKit
import Derived.ProofKit
import Derived.ShutString
import Derived.ChangeOld
import Derived.Below
import Derived.Test.YtagjfeblkpkgaaaVmQ
namespace Go.Proofs.Ytagjfeblkpkgaaa
open Go.ChangeShapes Go.WideShapes Go.ChangeAt Go.RowKit Go.Fl
set_option linter.unusedVariables false
set_option linter.unusedSimpArgs false

theorem num18_any (n : Nat) (w : World) (hn : n < 18446744073709551616 := by decide) :
    Calls Try.prog 14 #[.int .i64 (n : Int)] w fun e w' => e = .returned (.agg #[.int .i64 1, .int .u64 (n : Int)]) ∧ Below w.heap.size w w' := by
  have hw : IntKind.u64.wrap (n : Int) = (n : Int) := by rw [IntKind.wrap_u64]; omega
  go_enter Try.func14, Try.ntmps14
  go_wp2
  exact bodyPost_ret (v := .agg #[.int .i64 1, .int .u64 (n : Int)]) (by simp [results, Try.results14, go_sem]) rfl ⟨rfl, below1 _ _⟩
def cA : CodeP := ⟨3, 0, [(41, 1, 0, 0)], [(1, 6)], [(51, 0, 0, 0), (50, 1, 0, 0), (4, 2, 0, 1), (52, 0, 2, 0)]⟩
theorem cA_good : goodC cA = true := by kernel_rfl
theorem cA_two : codeRun cA [(1, 2)] = (1, 3) := by kernel_rfl
theorem cA_nought : codeRun cA [(1, 0)] = (0, 0) := by kernel_rfl
theorem cA_lies (w1 : World) (g1 : Nat) (hg : g1 < w1.heap.size) (q0 : w1.cell? ⟨g1, 0, none⟩ = some (.int .i64 41)) (q1 : w1.cell? ⟨g1, 1, none⟩ = some (.int .i64 1)) (q2 : w1.cell? ⟨g1, 2, none⟩ = some (.int .i64 0)) (q3 : w1.cell? ⟨g1, 3, none⟩ = some (.int .i64 0)) :
    CodeAt (((w1.alloc (.cells #[.int .i64 1, .int .u64 6] 31)).alloc (.cells #[.int .i64 51, .int .i64 0, .int .i64 0, .int .i64 0, .int .i64 50, .int .i64 1, .int .i64 0, .int .i64 0, .int .i64 4, .int .i64 2, .int .i64 0, .int .i64 1, .int .i64 52, .int .i64 0, .int .i64 2, .int .i64 0] 39)).alloc (.cells #[.int .i64 3, .int .i64 0, .slice (some ⟨g1, 0, none⟩) 1 1, .slice (some ⟨w1.heap.size, 0, none⟩) 1 1, .slice (some ⟨w1.heap.size + 1, 0, none⟩) 4 4] 26)) (w1.heap.size + 1 + 1) cA ⟨some ⟨g1, 0, none⟩, 1, some ⟨w1.heap.size, 0, none⟩, 1, some ⟨w1.heap.size + 1, 0, none⟩, 4⟩ ∧
    CodeIn (((w1.alloc (.cells #[.int .i64 1, .int .u64 6] 31)).alloc (.cells #[.int .i64 51, .int .i64 0, .int .i64 0, .int .i64 0, .int .i64 50, .int .i64 1, .int .i64 0, .int .i64 0, .int .i64 4, .int .i64 2, .int .i64 0, .int .i64 1, .int .i64 52, .int .i64 0, .int .i64 2, .int .i64 0] 39)).alloc (.cells #[.int .i64 3, .int .i64 0, .slice (some ⟨g1, 0, none⟩) 1 1, .slice (some ⟨w1.heap.size, 0, none⟩) 1 1, .slice (some ⟨w1.heap.size + 1, 0, none⟩) 4 4] 26)) cA ⟨some ⟨g1, 0, none⟩, 1, some ⟨w1.heap.size, 0, none⟩, 1, some ⟨w1.heap.size + 1, 0, none⟩, 4⟩ ∧ Below w1.heap.size w1 (((w1.alloc (.cells #[.int .i64 1, .int .u64 6] 31)).alloc (.cells #[.int .i64 51, .int .i64 0, .int .i64 0, .int .i64 0, .int .i64 50, .int .i64 1, .int .i64 0, .int .i64 0, .int .i64 4, .int .i64 2, .int .i64 0, .int .i64 1, .int .i64 52, .int .i64 0, .int .i64 2, .int .i64 0] 39)).alloc (.cells #[.int .i64 3, .int .i64 0, .slice (some ⟨g1, 0, none⟩) 1 1, .slice (some ⟨w1.heap.size, 0, none⟩) 1 1, .slice (some ⟨w1.heap.size + 1, 0, none⟩) 4 4] 26)) := by
  have e1 : (w1.alloc (.cells #[.int .i64 1, .int .u64 6] 31)).heap.size = w1.heap.size + 1 := by simp
  have e2 : ((w1.alloc (.cells #[.int .i64 1, .int .u64 6] 31)).alloc (.cells #[.int .i64 51, .int .i64 0, .int .i64 0, .int .i64 0, .int .i64 50, .int .i64 1, .int .i64 0, .int .i64 0, .int .i64 4, .int .i64 2, .int .i64 0, .int .i64 1, .int .i64 52, .int .i64 0, .int .i64 2, .int .i64 0] 39)).heap.size = w1.heap.size + 1 + 1 := by simp
  have h2 := m2 w1 (.cells #[.int .i64 1, .int .u64 6] 31) (.cells #[.int .i64 51, .int .i64 0, .int .i64 0, .int .i64 0, .int .i64 50, .int .i64 1, .int .i64 0, .int .i64 0, .int .i64 4, .int .i64 2, .int .i64 0, .int .i64 1, .int .i64 52, .int .i64 0, .int .i64 2, .int .i64 0] 39)
  have h3 := h2.alloc (by rw [e2]; omega) (.cells #[.int .i64 3, .int .i64 0, .slice (some ⟨g1, 0, none⟩) 1 1, .slice (some ⟨w1.heap.size, 0, none⟩) 1 1, .slice (some ⟨w1.heap.size + 1, 0, none⟩) 4 4] 26)
  have k3 := m1 ((w1.alloc (.cells #[.int .i64 1, .int .u64 6] 31)).alloc (.cells #[.int .i64 51, .int .i64 0, .int .i64 0, .int .i64 0, .int .i64 50, .int .i64 1, .int .i64 0, .int .i64 0, .int .i64 4, .int .i64 2, .int .i64 0, .int .i64 1, .int .i64 52, .int .i64 0, .int .i64 2, .int .i64 0] 39)) (.cells #[.int .i64 3, .int .i64 0, .slice (some ⟨g1, 0, none⟩) 1 1, .slice (some ⟨w1.heap.size, 0, none⟩) 1 1, .slice (some ⟨w1.heap.size + 1, 0, none⟩) 4 4] 26)
  have b1 := ((Blk.made w1 31 #[.int .i64 1, .int .u64 6]).kept (m1 _ (.cells #[.int .i64 51, .int .i64 0, .int .i64 0, .int .i64 0, .int .i64 50, .int .i64 1, .int .i64 0, .int .i64 0, .int .i64 4, .int .i64 2, .int .i64 0, .int .i64 1, .int .i64 52, .int .i64 0, .int .i64 2, .int .i64 0] 39))).kept k3
  have b2 := (Blk.made (w1.alloc (.cells #[.int .i64 1, .int .u64 6] 31)) 39 #[.int .i64 51, .int .i64 0, .int .i64 0, .int .i64 0, .int .i64 50, .int .i64 1, .int .i64 0, .int .i64 0, .int .i64 4, .int .i64 2, .int .i64 0, .int .i64 1, .int .i64 52, .int .i64 0, .int .i64 2, .int .i64 0]).kept k3
  have b3 := Blk.made ((w1.alloc (.cells #[.int .i64 1, .int .u64 6] 31)).alloc (.cells #[.int .i64 51, .int .i64 0, .int .i64 0, .int .i64 0, .int .i64 50, .int .i64 1, .int .i64 0, .int .i64 0, .int .i64 4, .int .i64 2, .int .i64 0, .int .i64 1, .int .i64 52, .int .i64 0, .int .i64 2, .int .i64 0] 39)) 26 #[.int .i64 3, .int .i64 0, .slice (some ⟨g1, 0, none⟩) 1 1, .slice (some ⟨w1.heap.size, 0, none⟩) 1 1, .slice (some ⟨w1.heap.size + 1, 0, none⟩) 4 4]
  rw [e1] at b2
  rw [e2] at b3
  refine ⟨⟨b3.cell 0, b3.cell 1, b3.cell 2, b3.cell 3, b3.cell 4⟩, ⟨fun _ => ⟨g1, 0, rfl, fun i x hi => ?_⟩, ?_, fun _ => ⟨w1.heap.size + 1, 0, rfl, fun i x hi => ?_⟩, by decide, by decide, by decide⟩, h3⟩
  · match i, hi with
    | 0, hi =>
      simp [cA] at hi
      subst hi
      exact ⟨cell_later h3 q0, cell_later h3 q1, cell_later h3 q2, cell_later h3 q3⟩
  · exact (row_one (k1 := 1) (b1 := 6) (by decide) (b1.cell 0) (b1.cell 1))
  · match i, hi with
    | 0, hi => simp [cA] at hi; subst hi; exact ⟨b2.cell 0, b2.cell 1, b2.cell 2, b2.cell 3⟩
    | 1, hi => simp [cA] at hi; subst hi; exact ⟨b2.cell 4, b2.cell 5, b2.cell 6, b2.cell 7⟩
    | 2, hi => simp [cA] at hi; subst hi; exact ⟨b2.cell 8, b2.cell 9, b2.cell 10, b2.cell 11⟩
    | 3, hi => simp [cA] at hi; subst hi; exact ⟨b2.cell 12, b2.cell 13, b2.cell 14, b2.cell 15⟩
set_option maxHeartbeats 8000000 in
set_option maxRecDepth 100000 in
theorem awake18 (w : World) : Calls Try.prog 6 #[] w fun e w' => e = .returned (.bool true) ∧ Below w.heap.size w w' := by
  go_enter Try.func6, Try.ntmps6
  go_wp2_with fail
  refine (num18_any 6 _).mono ?_; rintro e w1 ⟨rfl, hb1⟩
  have q0 : w1.cell? ⟨w.heap.size, 0, none⟩ = some (.int .i64 41) := cell_later hb1 (by simp)
  have q1 : w1.cell? ⟨w.heap.size, 1, none⟩ = some (.int .i64 1) := cell_later hb1 (by simp)
  have q2 : w1.cell? ⟨w.heap.size, 2, none⟩ = some (.int .i64 0) := cell_later hb1 (by simp)
  have q3 : w1.cell? ⟨w.heap.size, 3, none⟩ = some (.int .i64 0) := cell_later hb1 (by simp)
  have hB := below_more (below1 w _) hb1
  have hg := mblock q0
  clear hb1
  go_upto_region 2 with (fail)
  obtain ⟨hcode, hin, hb2⟩ := cA_lies w1 w.heap.size hg q0 q1 q2 q3
  replace hB := below_more hB hb2
  clear hb2 q0 q1 q2 q3 hg
  have G1 := Lib.hid (fun g1 g2 g3 u h => vgood_any cA ⟨some ⟨g1, 0, none⟩, 1, some ⟨g2, 0, none⟩, 1, some ⟨g3, 0, none⟩, 4⟩ u h)
  have R1 := Lib.hid (fun g1 g2 g3 gp u h h2 => vrun_any cA ⟨some ⟨g1, 0, none⟩, 1, some ⟨g2, 0, none⟩, 1, some ⟨g3, 0, none⟩, 4⟩ (some ⟨gp, 0, none⟩) 1 1 [(1, 2)] u h h2 (by decide))
  have R2 := Lib.hid (fun g1 g2 g3 gp u h h2 => vrun_any cA ⟨some ⟨g1, 0, none⟩, 1, some ⟨g2, 0, none⟩, 1, some ⟨g3, 0, none⟩, 4⟩ (some ⟨gp, 0, none⟩) 1 1 [(1, 0)] u h h2 (by decide))
  rw [cA_good] at G1
  rw [cA_two] at R1
  rw [cA_nought] at R2
  generalize ((w1.alloc (.cells #[.int .i64 1, .int .u64 6] 31)).alloc (.cells #[.int .i64 51, .int .i64 0, .int .i64 0, .int .i64 0, .int .i64 50, .int .i64 1, .int .i64 0, .int .i64 0, .int .i64 4, .int .i64 2, .int .i64 0, .int .i64 1, .int .i64 52, .int .i64 0, .int .i64 2, .int .i64 0] 39)).alloc (.cells #[.int .i64 3, .int .i64 0, .slice (some ⟨w.heap.size, 0, none⟩) 1 1, .slice (some ⟨w1.heap.size, 0, none⟩) 1 1, .slice (some ⟨w1.heap.size + 1, 0, none⟩) 4 4] 26) = u0 at *
  generalize w1.heap.size + 1 + 1 = g at *
  generalize w1.heap.size + 1 = g3 at *
  generalize w1.heap.size = g2 at *
  obtain ⟨g1, hg1⟩ : ∃ x, w.heap.size = x := ⟨_, rfl⟩
  rw [hg1] at hcode hin ⊢
  replace G1 := Lib.hid (G1.out g1 g2 g3)
  replace R1 := Lib.hid (R1.out g1 g2 g3)
  replace R2 := Lib.hid (R2.out g1 g2 g3)
  have KD := G.keepsD_true []
  refine G.region_words (fun w' => CodeAt w' g cA ⟨some ⟨g1, 0, none⟩, 1, some ⟨g2, 0, none⟩, 1, some ⟨g3, 0, none⟩, 4⟩ ∧ CodeIn w' cA ⟨some ⟨g1, 0, none⟩, 1, some ⟨g2, 0, none⟩, 1, some ⟨g3, 0, none⟩, 4⟩ ∧ Below w.heap.size w w') [G.isW (.agg #[.int .i64 3, .int .i64 0, .slice (some ⟨g1, 0, none⟩) 1 1, .slice (some ⟨g2, 0, none⟩) 1 1, .slice (some ⟨g3, 0, none⟩) 4 4]), G.isW (.bool true), G.isW (.bool true), G.isW (.agg #[.int .i64 3, .int .i64 0, .slice (some ⟨g1, 0, none⟩) 1 1, .slice (some ⟨g2, 0, none⟩) 1 1, .slice (some ⟨g3, 0, none⟩) 4 4]), G.isW (.agg #[.int .i64 1, .int .u64 2]), SglW (1, 2), G.isW (.agg #[.int .i64 1, .int .u64 3]), G.isW (.agg #[.int .i64 1, .int .u64 3]), G.isW (.bool true), G.isW (.bool true), G.isW (.bool true), G.isW (.agg #[.int .i64 3, .int .i64 0, .slice (some ⟨g1, 0, none⟩) 1 1, .slice (some ⟨g2, 0, none⟩) 1 1, .slice (some ⟨g3, 0, none⟩) 4 4]), G.isW (.agg #[.int .i64 1, .int .u64 0]), SglW (1, 0), G.isW (.agg #[.int .i64 0, .int .u64 0]), G.isW (.agg #[.int .i64 0, .int .u64 0]), G.isW (.bool true), G.isW (.bool true), G.isW (.bool true)] (by kernel_rfl) (by repeat' (first | exact G.monoL_nil | exact G.is_mono _ | exact G.any_mono | exact sglw_mono _ | refine G.monoL_cons ?_ ?_)) (by kernel_rfl) (by kernel_rfl) (fun _ _ h hb => ⟨h.1.later hb, h.2.1.later hb, below_more h.2.2 hb⟩) ⟨hcode.later (Below.refl _ _).drew, hin.later (Below.refl _ _).drew, hB.drew⟩ ?_ ?_
  · intro KC
    refine G.stepsL_cons (fun a u hc hdd hd hk hdep => ?_) ?_
    ·
      have d1 : (a.tmps[1]?).getD undef = (.pointer (some ⟨g, 0, none⟩)) := hk 1 (by kernel_rfl)
      refine G.step_val KC KD hc hdd rfl (.agg #[.int .i64 3, .int .i64 0, .slice (some ⟨g1, 0, none⟩) 1 1, .slice (some ⟨g2, 0, none⟩) 1 1, .slice (some ⟨g3, 0, none⟩) 4 4]) u (G.wanted_plain rfl) ?_ rfl (Below.refl _ _)
      obtain ⟨s0, s1, s2, s3, s4⟩ := hc.1
      dsimp only [cA] at s0 s1 s2 s3 s4
      first | (go_simp; done) | rfl | (simp [go_sem, *]; done)
    refine G.stepsL_cons (fun a u hc hdd hd hk hdep => ?_) ?_
    ·
      have d12 : (a.tmps[12]?).getD undef = (.agg #[.int .i64 3, .int .i64 0, .slice (some ⟨g1, 0, none⟩) 1 1, .slice (some ⟨g2, 0, none⟩) 1 1, .slice (some ⟨g3, 0, none⟩) 4 4]) := hdep ⟨0, .data⟩ (by simp) rfl
      refine G.step_call KC KD hc hdd rfl 11 #[.agg #[.int .i64 3, .int .i64 0, .slice (some ⟨g1, 0, none⟩) 1 1, .slice (some ⟨g2, 0, none⟩) 1 1, .slice (some ⟨g3, 0, none⟩) 4 4]] (G.wanted_plain rfl) (by first | (go_simp; done) | rfl) ?_
      exact (G1.out u hc.2.1).mono (by rintro e w' ⟨rfl, hb⟩; exact ⟨_, rfl, rfl, hb⟩)
    refine G.stepsL_cons (fun a u hc hdd hd hk hdep => ?_) ?_
    ·
      have d13 : (a.tmps[13]?).getD undef = (.bool true) := hdep ⟨1, .data⟩ (by simp) rfl
      refine G.step_val KC KD hc hdd rfl (.bool true) u (G.wanted_plain rfl) ?_ rfl (Below.refl _ _)
      first | (go_simp; done) | rfl | (simp [go_sem, *]; done)
    refine G.stepsL_cons (fun a u hc hdd hd hk hdep => ?_) ?_
    ·
      have d1 : (a.tmps[1]?).getD undef = (.pointer (some ⟨g, 0, none⟩)) := hk 1 (by kernel_rfl)
      refine G.step_val KC KD hc hdd rfl (.agg #[.int .i64 3, .int .i64 0, .slice (some ⟨g1, 0, none⟩) 1 1, .slice (some ⟨g2, 0, none⟩) 1 1, .slice (some ⟨g3, 0, none⟩) 4 4]) u ((G.wanted_guard (j := 2) (b := true) (c := true) rfl (hdep ⟨2, .guard⟩ (by simp) rfl)).trans rfl) ?_ rfl (Below.refl _ _)
      obtain ⟨s0, s1, s2, s3, s4⟩ := hc.1
      dsimp only [cA] at s0 s1 s2 s3 s4
      first | (go_simp; done) | rfl | (simp [go_sem, *]; done)
    refine G.stepsL_cons (fun a u hc hdd hd hk hdep => ?_) ?_
    ·
      refine G.step_call KC KD hc hdd rfl 14 #[.int .i64 2] ((G.wanted_guard (j := 2) (b := true) (c := true) rfl (hdep ⟨2, .chain⟩ (by simp) rfl)).trans rfl) (by first | (go_simp; done) | rfl) ?_
      exact (num18_any 2 u).mono (by rintro e w' ⟨rfl, hb⟩; exact ⟨_, rfl, rfl, hb⟩)
    refine G.stepsL_cons (fun a u hc hdd hd hk hdep => ?_) ?_
    ·
      have d16 : (a.tmps[16]?).getD undef = (.agg #[.int .i64 1, .int .u64 2]) := hdep ⟨4, .data⟩ (by simp) rfl
      refine G.step_val KC KD hc hdd rfl (.slice (some ⟨u.heap.size, 0, none⟩) 1 1) (u.alloc (.cells #[.int .i64 1, .int .u64 2] 31)) ((G.wanted_guard (j := 2) (b := true) (c := true) rfl (hdep ⟨2, .guard⟩ (by simp) rfl)).trans rfl) ?_ ⟨u.heap.size, rfl, row_one (k1 := 1) (b1 := 2) (by decide) (by simp) (by simp)⟩ (m1 _ _)
      first | (go_simp; done) | rfl | (simp [go_sem, *]; done)
    refine G.stepsL_cons (fun a u hc hdd hd hk hdep => ?_) ?_
    ·
      have d15 : (a.tmps[15]?).getD undef = (.agg #[.int .i64 3, .int .i64 0, .slice (some ⟨g1, 0, none⟩) 1 1, .slice (some ⟨g2, 0, none⟩) 1 1, .slice (some ⟨g3, 0, none⟩) 4 4]) := hdep ⟨3, .data⟩ (by simp) rfl
      have d17' : (SglW (1, 2)) ((a.tmps[17]?).getD undef) u := hdep ⟨5, .data⟩ (by simp) rfl
      obtain ⟨gp, d17, hp⟩ := d17'
      refine G.step_call KC KD hc hdd rfl 8 #[.agg #[.int .i64 3, .int .i64 0, .slice (some ⟨g1, 0, none⟩) 1 1, .slice (some ⟨g2, 0, none⟩) 1 1, .slice (some ⟨g3, 0, none⟩) 4 4], .slice (some ⟨gp, 0, none⟩) 1 1] ((G.wanted_guard (j := 2) (b := true) (c := true) rfl (hdep ⟨2, .guard⟩ (by simp) rfl)).trans rfl) (by first | (go_simp; done) | rfl) ?_
      exact (R1.out gp u hc.2.1 hp).mono (by rintro e w' ⟨rfl, hb⟩; exact ⟨_, rfl, rfl, hb⟩)
    refine G.stepsL_cons (fun a u hc hdd hd hk hdep => ?_) ?_
    ·
      refine G.step_call KC KD hc hdd rfl 14 #[.int .i64 3] ((G.wanted_guard (j := 2) (b := true) (c := true) rfl (hdep ⟨2, .guard⟩ (by simp) rfl)).trans rfl) (by first | (go_simp; done) | rfl) ?_
      exact (num18_any 3 u).mono (by rintro e w' ⟨rfl, hb⟩; exact ⟨_, rfl, rfl, hb⟩)
    refine G.stepsL_cons (fun a u hc hdd hd hk hdep => ?_) ?_
    ·
      have d18 : (a.tmps[18]?).getD undef = (.agg #[.int .i64 1, .int .u64 3]) := hdep ⟨6, .data⟩ (by simp) rfl
      have d19 : (a.tmps[19]?).getD undef = (.agg #[.int .i64 1, .int .u64 3]) := hdep ⟨7, .data⟩ (by simp) rfl
      refine G.step_val KC KD hc hdd rfl (.bool true) u ((G.wanted_guard (j := 2) (b := true) (c := true) rfl (hdep ⟨2, .guard⟩ (by simp) rfl)).trans rfl) ?_ rfl (Below.refl _ _)
      have he := eqV 1 1 3 3 u
      first | (go_simp; done) | rfl | (simp [go_sem, *]; done)
    refine G.stepsL_cons (fun a u hc hdd hd hk hdep => ?_) ?_
    ·
      have d14 : (a.tmps[14]?).getD undef = (.bool true) := hdep ⟨2, .data⟩ (by simp) rfl
      have d20 : (a.tmps[20]?).getD undef = (.bool true) := hdep ⟨8, .data⟩ (by simp) rfl
      refine G.step_val KC KD hc hdd rfl (.bool true) u (G.wanted_plain rfl) ?_ rfl (Below.refl _ _)
      first | (go_simp; done) | rfl | (simp [go_sem, *]; done)
    refine G.stepsL_cons (fun a u hc hdd hd hk hdep => ?_) ?_
    ·
      have d21 : (a.tmps[21]?).getD undef = (.bool true) := hdep ⟨9, .data⟩ (by simp) rfl
      refine G.step_val KC KD hc hdd rfl (.bool true) u (G.wanted_plain rfl) ?_ rfl (Below.refl _ _)
      first | (go_simp; done) | rfl | (simp [go_sem, *]; done)
    refine G.stepsL_cons (fun a u hc hdd hd hk hdep => ?_) ?_
    ·
      have d1 : (a.tmps[1]?).getD undef = (.pointer (some ⟨g, 0, none⟩)) := hk 1 (by kernel_rfl)
      refine G.step_val KC KD hc hdd rfl (.agg #[.int .i64 3, .int .i64 0, .slice (some ⟨g1, 0, none⟩) 1 1, .slice (some ⟨g2, 0, none⟩) 1 1, .slice (some ⟨g3, 0, none⟩) 4 4]) u ((G.wanted_guard (j := 10) (b := true) (c := true) rfl (hdep ⟨10, .guard⟩ (by simp) rfl)).trans rfl) ?_ rfl (Below.refl _ _)
      obtain ⟨s0, s1, s2, s3, s4⟩ := hc.1
      dsimp only [cA] at s0 s1 s2 s3 s4
      first | (go_simp; done) | rfl | (simp [go_sem, *]; done)
    refine G.stepsL_cons (fun a u hc hdd hd hk hdep => ?_) ?_
    ·
      refine G.step_call KC KD hc hdd rfl 14 #[.int .i64 0] ((G.wanted_guard (j := 10) (b := true) (c := true) rfl (hdep ⟨10, .chain⟩ (by simp) rfl)).trans rfl) (by first | (go_simp; done) | rfl) ?_
      exact (num18_any 0 u).mono (by rintro e w' ⟨rfl, hb⟩; exact ⟨_, rfl, rfl, hb⟩)
    refine G.stepsL_cons (fun a u hc hdd hd hk hdep => ?_) ?_
    ·
      have d24 : (a.tmps[24]?).getD undef = (.agg #[.int .i64 1, .int .u64 0]) := hdep ⟨12, .data⟩ (by simp) rfl
      refine G.step_val KC KD hc hdd rfl (.slice (some ⟨u.heap.size, 0, none⟩) 1 1) (u.alloc (.cells #[.int .i64 1, .int .u64 0] 31)) ((G.wanted_guard (j := 10) (b := true) (c := true) rfl (hdep ⟨10, .guard⟩ (by simp) rfl)).trans rfl) ?_ ⟨u.heap.size, rfl, row_one (k1 := 1) (b1 := 0) (by decide) (by simp) (by simp)⟩ (m1 _ _)
      first | (go_simp; done) | rfl | (simp [go_sem, *]; done)
    refine G.stepsL_cons (fun a u hc hdd hd hk hdep => ?_) ?_
    ·
      have d23 : (a.tmps[23]?).getD undef = (.agg #[.int .i64 3, .int .i64 0, .slice (some ⟨g1, 0, none⟩) 1 1, .slice (some ⟨g2, 0, none⟩) 1 1, .slice (some ⟨g3, 0, none⟩) 4 4]) := hdep ⟨11, .data⟩ (by simp) rfl
      have d25' : (SglW (1, 0)) ((a.tmps[25]?).getD undef) u := hdep ⟨13, .data⟩ (by simp) rfl
      obtain ⟨gp, d25, hp⟩ := d25'
      refine G.step_call KC KD hc hdd rfl 8 #[.agg #[.int .i64 3, .int .i64 0, .slice (some ⟨g1, 0, none⟩) 1 1, .slice (some ⟨g2, 0, none⟩) 1 1, .slice (some ⟨g3, 0, none⟩) 4 4], .slice (some ⟨gp, 0, none⟩) 1 1] ((G.wanted_guard (j := 10) (b := true) (c := true) rfl (hdep ⟨10, .guard⟩ (by simp) rfl)).trans rfl) (by first | (go_simp; done) | rfl) ?_
      exact (R2.out gp u hc.2.1 hp).mono (by rintro e w' ⟨rfl, hb⟩; exact ⟨_, rfl, rfl, hb⟩)
    refine G.stepsL_cons (fun a u hc hdd hd hk hdep => ?_) ?_
    ·
      refine G.step_val KC KD hc hdd rfl (.agg #[.int .i64 0, .int .u64 0]) u ((G.wanted_guard (j := 10) (b := true) (c := true) rfl (hdep ⟨10, .guard⟩ (by simp) rfl)).trans rfl) ?_ rfl (Below.refl _ _)
      first | (go_simp; done) | rfl | (simp [go_sem, *]; done)
    refine G.stepsL_cons (fun a u hc hdd hd hk hdep => ?_) ?_
    ·
      have d26 : (a.tmps[26]?).getD undef = (.agg #[.int .i64 0, .int .u64 0]) := hdep ⟨14, .data⟩ (by simp) rfl
      have d27 : (a.tmps[27]?).getD undef = (.agg #[.int .i64 0, .int .u64 0]) := hdep ⟨15, .data⟩ (by simp) rfl
      refine G.step_val KC KD hc hdd rfl (.bool true) u ((G.wanted_guard (j := 10) (b := true) (c := true) rfl (hdep ⟨10, .guard⟩ (by simp) rfl)).trans rfl) ?_ rfl (Below.refl _ _)
      have he := eqV 0 0 0 0 u
      first | (go_simp; done) | rfl | (simp [go_sem, *]; done)
    refine G.stepsL_cons (fun a u hc hdd hd hk hdep => ?_) ?_
    ·
      have d22 : (a.tmps[22]?).getD undef = (.bool true) := hdep ⟨10, .data⟩ (by simp) rfl
      have d28 : (a.tmps[28]?).getD undef = (.bool true) := hdep ⟨16, .data⟩ (by simp) rfl
      refine G.step_val KC KD hc hdd rfl (.bool true) u (G.wanted_plain rfl) ?_ rfl (Below.refl _ _)
      first | (go_simp; done) | rfl | (simp [go_sem, *]; done)
    refine G.stepsL_cons (fun a u hc hdd hd hk hdep => ?_) ?_
    ·
      have d29 : (a.tmps[29]?).getD undef = (.bool true) := hdep ⟨17, .data⟩ (by simp) rfl
      refine G.step_val KC KD hc hdd rfl (.bool true) u (G.wanted_plain rfl) ?_ rfl (Below.refl _ _)
      first | (go_simp; done) | rfl | (simp [go_sem, *]; done)
    exact G.stepsL_nil
  intro vs' wN hNN hh
  have eL : vs' 18 = (.bool true) := by
    obtain ⟨-, -, -, -, -, -, -, -, -, -, -, -, -, -, -, -, -, -,  eX, -⟩ := hh
    exact eX
  clear hh hcode hin hB
  obtain ⟨-, -, hB⟩ := hNN
  set_option maxRecDepth 100000 in simp only [List.take_succ_cons, List.take_zero, putAll, Act.put, List.setIfInBounds_toArray, List.set_cons_zero, List.set_cons_succ, Nat.reduceAdd, eL]
  clear eL
  go_wp2
  go_ret
  exact ⟨rfl, hB⟩
end Go.Proofs.Ytagjfeblkpkgaaa
namespace Go.Proofs.Ytagjfeblkpkgaaa
open Go.ChangeShapes Go.WideShapes Go.ChangeAt Go.RowKit Go.Deep Go.Joins
set_option linter.unusedVariables false
set_option linter.unusedSimpArgs false

section
variable {H : Type} {P : Program}
/-- what is read of d is within the reach -/
def WB (P : Program) (t : TypeId) (d : DataW H) : Prop := ∀ n ∈ d.weights P t, n ≤ reachBytes
theorem wb_each {ts : List TypeId} {ds : List (DataW H)} (h : (DataW.weightsEach P ts ds).all (· ≤ reachBytes) = true) {j : Nat} {t : TypeId} {d : DataW H} (ht : ts[j]? = some t) (hd : ds[j]? = some d) : WB P t d := fun n hn => by
  have := List.all_eq_true.1 h n (DataW.weights_mem_each ht hd n hn)
  simpa using this
theorem wb_agg {t : TypeId} {fs : Array Field} {parts : List (DataW H)} (hu : P.underlying t = some (.struct fs)) (h : WB P t (.agg parts)) {j : Nat} {ft : TypeId} {d : DataW H} (ht : (fs.toList.map (·.type))[j]? = some ft) (hd : parts[j]? = some d) : WB P ft d := fun n hn =>
  h n (by simp only [DataW.weights, hu]; exact DataW.weights_mem_each ht hd n hn)
theorem mem_weightsAll {e : TypeId} : ∀ {elems : List (DataW H)} {d : DataW H} {n : Nat}, d ∈ elems → n ∈ d.weights P e → n ∈ DataW.weightsAll P e elems
  | [], _, _, h, _ => by simp at h
  | a :: r, d, n, h, hn => by
    simp only [DataW.weightsAll, List.mem_append]
    rcases List.mem_cons.1 h with rfl | h
    · exact .inl hn
    · exact .inr (mem_weightsAll h hn)
theorem wb_slice {t e : TypeId} {elems spare : List (DataW H)} (hu : P.underlying t = some (.slice e)) (h : WB P t (.slice elems spare)) : elems.length * P.bytesOf e ≤ reachBytes ∧ ∀ d ∈ elems, WB P e d := by
  refine ⟨?_, fun d hd n hn => h n ?_⟩
  · have := h ((elems.length + spare.length) * P.bytesOf e) (by simp [DataW.weights, hu])
    exact Nat.le_trans (Nat.mul_le_mul_right _ (Nat.le_add_right _ _)) this
  · simp only [DataW.weights, hu, List.mem_cons, List.mem_append]
    exact .inr (.inl (mem_weightsAll hd hn))
end

section
variable {H : Type} {enc : TypeId × Value → H} {P : Program} {w : World} {base : Nat} {spare : Nat → Bool} {held : Bool}
/-- a slice of structs whose fields are of one cell each (from the guide's page of structs) -/
theorem open_slice_fields {t e : TypeId} {fs : Array Field} {fuel : Nat} {cs : List Value} {x : DataW H × List MemPlace} (ht : P.underlying t = some (.slice e)) (he : P.underlying e = some (.struct fs))
    (hone : oneCellFields P fs = true) (hC : P.cellsOf e = fs.size) (h : DataW.trod enc P w base spare held fuel t cs = some x) :
    (cs = [.slice none 0 0] ∧ x = (.nil, [])) ∨
    ∃ (a : Addr) (len cap m : Nat) (D : Nat → DataW H) (Pl : Nat → List MemPlace), cs = [.slice (some a) len cap] ∧ base ≤ a.block ∧ len ≤ cap ∧ cap ≤ maxLen ∧ m = (if spare a.block then cap else len) ∧
      x = (.slice ((List.range len).map D) ((List.range (m - len)).map fun j => D (len + j)), MemPlace.row a (m * fs.size) ++ (List.range m).flatMap Pl) ∧
      ∀ i, i < m → ∃ (ys : List (DataW H × List MemPlace)) (n : Nat), D i = .agg (ys.map (·.1)) ∧ Pl i = ys.flatMap (·.2) ∧ ys.length = fs.size ∧
        ∀ (j : Nat) (f : Field), fs[j]? = some f → ∃ (v : Value) (y : DataW H × List MemPlace), w.cell? (a.add (i * fs.size + j)) = some v ∧ ys[j]? = some y ∧ DataW.trod enc P w base spare held n f.type [v] = some y := by
  rcases open_slice ht h with h0 | ⟨a, len, cap, m, n, D, Pl, hcs, hb, hl, hm, hmm, hx, hi⟩
  · exact .inl h0
  · refine .inr ⟨a, len, cap, m, D, Pl, hcs, hb, hl, hm, hmm, by rw [hC] at hx; exact hx, fun i him => ?_⟩
    obtain ⟨cs', hc, ht'⟩ := hi i him
    rw [hC] at hc
    obtain ⟨ys, n', hn', hy, hlen, hyl, hf⟩ := DataW.trod_struct he ht'
    obtain ⟨_, hcl, hat⟩ := World.cells?_some hc
    simp only [Prod.mk.injEq] at hy
    refine ⟨ys, n', hy.1, hy.2, hyl, fun j f hj => ?_⟩
    obtain ⟨ho, hk⟩ := hone_of hone j f hj
    have hjl : j < fs.size := (Array.getElem?_eq_some_iff.1 hj).1
    have hcell := hat j hjl
    have hv : cs'[j]? = some (cs'[j]'(by omega)) := List.getElem?_eq_getElem (by omega)
    have h1 := hf j f hj
    rw [ho, hk] at h1
    have hone' : (cs'.drop j).take 1 = [cs'[j]'(by omega)] := by
      rw [List.drop_eq_getElem_cons (by omega)]
      rfl
    rw [hone'] at h1
    have hys : ys[j]? = some (ys[j]'(by omega)) := List.getElem?_eq_getElem (by omega)
    refine ⟨_, _, ?_, hys, h1.trans hys⟩
    rw [← Go.Deep.add_add, hcell, hv]

theorem okWide_arr {P : Program} {w : World} {r : Reach} {b0 n : Nat} {t e : TypeId} {v : Value} (ht : P.underlying t = some (.array n e)) (h : Value.okWide P w r b0 t v) : ∃ cs, v = .agg cs ∧ cs.size = P.cellsOf t := by
  simp only [Value.okWide, ht] at h
  obtain ⟨cs, h1, h2, _⟩ := h
  exact ⟨cs, h1, h2⟩
/-- two whole numbers in an array -/
theorem open_two {r : Reach} {b0 : Nat} {t e : TypeId} {v : Value} {d : DataW H} {p : List MemPlace} (ht : P.underlying t = some (.array 2 e)) (he : P.underlying e = some (.int .i64)) (hC : P.cellsOf t = 2) (hc : P.cellsOf e = 1)
    (hv : Value.okWide P w r b0 t v) (h : DataW.Trod enc P w base spare held t v d p) : ∃ a b : Int, v = .agg #[.int .i64 a, .int .i64 b] ∧ (Lit.int .i64 a).wf = true ∧ (Lit.int .i64 b).wf = true := by
  obtain ⟨cs, rfl, hs⟩ := okWide_arr ht hv
  obtain ⟨l⟩ := cs
  rw [hC] at hs
  match l, hs with
  | [c0, c1], _ =>
    obtain ⟨fuel, hf⟩ := h
    obtain ⟨xs, m, _, _, _, hl, hx⟩ := DataW.trod_array ht hf
    have h0 := hx 0 (by omega)
    have h1 := hx 1 (by omega)
    rw [hc] at h0 h1
    match xs, hl with
    | [y0, y1], _ =>
      simp [Value.cells] at h0 h1
      obtain ⟨a, e0, _, wa⟩ := DataW.trod_int he h0
      obtain ⟨b, e1, _, wb⟩ := DataW.trod_int he h1
      simp at e0 e1
      subst e0 e1
      exact ⟨a, b, rfl, wa, wb⟩

theorem spot_no {w : World} {a : Addr} {v : Value} (h : w.cell? a = some v) : a.spot = none := by
  unfold World.cell? at h
  split at h
  · split at h
    · cases h
    · rename_i hs; simpa using hs
  · cases h
theorem add_plain {b off : Nat} (n : Nat) : (⟨b, off, none⟩ : Addr).add n = ⟨b, off + n, none⟩ := by unfold Addr.add; split <;> simp_all
theorem spot_of {w : World} {a : Addr} {v : Value} (h : w.cell? (a.add 0) = some v) : ∃ b off, a = ⟨b, off, none⟩ := by
  obtain ⟨b, off, sp⟩ := a
  have h1 : (⟨b, off, sp⟩ : Addr).spot = none := spot_no h
  exact ⟨b, off, by simp only at h1; rw [h1]⟩
end
end Go.Proofs.Ytagjfeblkpkgaaa
namespace Go.Proofs.Ytagjfeblkpkgaaa
open Go.ChangeShapes Go.WideShapes Go.ChangeAt Go.RowKit Go.Deep Go.Joins Go.Fl
set_option linter.unusedVariables false
set_option linter.unusedSimpArgs false
section
variable {H : Type} {enc : TypeId × Value → H} {P : Program} {w : World} {base : Nat} {spare : Nat → Bool} {held : Bool}
theorem array5 {α : Type} {cs : Array α} (h : cs.size = 5) : ∃ c0 c1 c2 c3 c4, cs = #[c0, c1, c2, c3, c4] := by
  obtain ⟨l⟩ := cs
  match l, h with
  | [c0, c1, c2, c3, c4], _ => exact ⟨c0, c1, c2, c3, c4, rfl⟩
theorem open_agg5 {r : Reach} {b0 : Nat} {t : TypeId} {f0 f1 f2 f3 f4 : Field} {v : Value} {d : DataW H} {p : List MemPlace} (hs : P.underlying t = some (.struct #[f0, f1, f2, f3, f4])) (hone : oneCellFields P #[f0, f1, f2, f3, f4] = true) (hC : P.cellsOf t = 5)
    (hv : Value.okWide P w r b0 t v) (h : DataW.Trod enc P w base spare held t v d p) :
    ∃ (v0 v1 v2 v3 v4 : Value) (y0 y1 y2 y3 y4 : DataW H × List MemPlace) (n : Nat), v = .agg #[v0, v1, v2, v3, v4] ∧ d = .agg [y0.1, y1.1, y2.1, y3.1, y4.1] ∧
      DataW.trod enc P w base spare held n f0.type [v0] = some y0 ∧ DataW.trod enc P w base spare held n f1.type [v1] = some y1 ∧ DataW.trod enc P w base spare held n f2.type [v2] = some y2 ∧ DataW.trod enc P w base spare held n f3.type [v3] = some y3 ∧ DataW.trod enc P w base spare held n f4.type [v4] = some y4 := by
  obtain ⟨cs, rfl, hsz⟩ := okWide_struct hs hv
  obtain ⟨c0, c1, c2, c3, c4, rfl⟩ := array5 (hsz.trans hC)
  obtain ⟨fuel, hf⟩ := h
  obtain ⟨xs, n, _, hx, hl, hlen, hq⟩ := DataW.trod_struct hs hf
  match xs, hlen with
  | [y0, y1, y2, y3, y4], _ =>
    obtain ⟨o0, k0⟩ := hone_of hone 0 f0 rfl
    obtain ⟨o1, k1⟩ := hone_of hone 1 f1 rfl
    obtain ⟨o2, k2⟩ := hone_of hone 2 f2 rfl
    obtain ⟨o3, k3⟩ := hone_of hone 3 f3 rfl
    obtain ⟨o4, k4⟩ := hone_of hone 4 f4 rfl
    have h0 := hq 0 f0 rfl
    have h1 := hq 1 f1 rfl
    have h2 := hq 2 f2 rfl
    have h3 := hq 3 f3 rfl
    have h4 := hq 4 f4 rfl
    simp only [Prod.mk.injEq] at hx
    exact ⟨c0, c1, c2, c3, c4, y0, y1, y2, y3, y4, n, rfl, by simpa using hx.1, by simpa [Value.cells, o0, k0] using h0, by simpa [Value.cells, o1, k1] using h1, by simpa [Value.cells, o2, k2] using h2, by simpa [Value.cells, o3, k3] using h3, by simpa [Value.cells, o4, k4] using h4⟩
end
section
variable {H : Type} {enc : TypeId × Value → H} {w : World} {base : Nat} {spare : Nat → Bool} {held : Bool}
theorem open_valuesV {fuel : Nat} {v : Value} {y : DataW H × List MemPlace} (h : DataW.trod enc Try.prog w base spare held fuel 23 [v] = some y) (hw : WB Try.prog 23 y.1) :
    ∃ (B : Option Addr) (cap : Nat) (vs : List (Int × Nat)), v = .slice B vs.length cap ∧ RowV w B vs.length vs ∧ vs.length * 16 ≤ 140737488351232 := by
  rcases open_slice_fields Try.underlying23 Try.underlying31 (by kernel_rfl) (by kernel_rfl) h with ⟨hcs, _⟩ | ⟨a, len, cap, m, D, Pl, hcs, _, hl, hm, hmm, hx, hcell⟩
  · simp at hcs
    subst hcs
    exact ⟨none, 0, [], rfl, ⟨rfl, by simp, fun hp => absurd hp (by simp)⟩, by decide⟩
  · simp at hcs
    subst hcs hx
    have hlm : len ≤ m := by rw [hmm]; split <;> omega
    have hb := (wb_slice Try.underlying23 hw).1
    rw [show Try.prog.bytesOf 31 = 16 by kernel_rfl] at hb
    simp only [List.length_map, List.length_range, reachBytes] at hb
    have hv : ∀ i, i < len → ∃ q : Int × Nat, w.cell? (a.add (i * 2)) = some (.int .i64 q.1) ∧ w.cell? (a.add (i * 2 + 1)) = some (.int .u64 (q.2 : Int)) ∧ q.2 < 18446744073709551616 := by
      intro i hi
      obtain ⟨ys, n, _, _, _, hf⟩ := hcell i (by omega)
      obtain ⟨v0, y0, c0, _, t0⟩ := hf 0 _ rfl
      obtain ⟨v1, y1, c1, _, t1⟩ := hf 1 _ rfl
      obtain ⟨k, e0, _, _⟩ := DataW.trod_int Try.underlying3 t0
      obtain ⟨b, e1, _, wb⟩ := DataW.trod_int Try.underlying29 t1
      simp at e0 e1
      subst e0 e1
      obtain ⟨n, rfl, hn⟩ := nat_of_wf wb
      exact ⟨(k, n), c0, c1, hn⟩
    obtain ⟨q, hq⟩ := Go.Deep.choose_lt hv
    refine ⟨some a, cap, (List.range len).map q, by simp, ⟨by simp, ?_, fun hp => ?_⟩, by simpa using hb⟩
    · intro v hm
      obtain ⟨i, hi, rfl⟩ := List.mem_map.1 hm
      exact (hq i (List.mem_range.1 hi)).2.2
    · have hp' : 0 < len := by simpa using hp
      obtain ⟨b, off, rfl⟩ := spot_of (hq 0 hp').1
      refine ⟨b, off, rfl, fun i k c hi => ?_⟩
      have hil : i < len := by have := (List.getElem?_eq_some_iff.1 hi).1; simpa using this
      rw [List.getElem?_map, List.getElem?_range hil] at hi
      simp at hi
      have := hq i hil
      rw [hi, add_plain, add_plain] at this
      exact ⟨this.1, by rw [Nat.add_assoc]; exact this.2.1⟩
theorem open_inss {fuel : Nat} {v : Value} {y : DataW H × List MemPlace} (h : DataW.trod enc Try.prog w base spare held fuel 24 [v] = some y) (hw : WB Try.prog 24 y.1) :
    ∃ (B : Option Addr) (cap : Nat) (l : List I4), v = .slice B l.length cap ∧ QuadAt w B l ∧ l.length * 32 ≤ 140737488351232 := by
  rcases open_slice_fields Try.underlying24 Try.underlying39 (by kernel_rfl) (by kernel_rfl) h with ⟨hcs, _⟩ | ⟨a, len, cap, m, D, Pl, hcs, _, hl, hm, hmm, hx, hcell⟩
  · simp at hcs
    subst hcs
    exact ⟨none, 0, [], rfl, QuadAt.nil _ _, by decide⟩
  · simp at hcs
    subst hcs hx
    have hlm : len ≤ m := by rw [hmm]; split <;> omega
    have hb := (wb_slice Try.underlying24 hw).1
    rw [show Try.prog.bytesOf 39 = 32 by kernel_rfl] at hb
    simp only [List.length_map, List.length_range, reachBytes] at hb
    have hv : ∀ i, i < len → ∃ q : I4, w.cell? (a.add (i * 4)) = some (.int .i64 q.1) ∧ w.cell? (a.add (i * 4 + 1)) = some (.int .i64 q.2.1) ∧ w.cell? (a.add (i * 4 + 2)) = some (.int .i64 q.2.2.1) ∧ w.cell? (a.add (i * 4 + 3)) = some (.int .i64 q.2.2.2) := by
      intro i hi
      obtain ⟨ys, n, _, _, _, hf⟩ := hcell i (by omega)
      obtain ⟨v0, y0, c0, _, t0⟩ := hf 0 _ rfl
      obtain ⟨v1, y1, c1, _, t1⟩ := hf 1 _ rfl
      obtain ⟨v2, y2, c2, _, t2⟩ := hf 2 _ rfl
      obtain ⟨v3, y3, c3, _, t3⟩ := hf 3 _ rfl
      obtain ⟨k0, e0, _, _⟩ := DataW.trod_int Try.underlying3 t0
      obtain ⟨k1, e1, _, _⟩ := DataW.trod_int Try.underlying3 t1
      obtain ⟨k2, e2, _, _⟩ := DataW.trod_int Try.underlying3 t2
      obtain ⟨k3, e3, _, _⟩ := DataW.trod_int Try.underlying3 t3
      simp at e0 e1 e2 e3
      subst e0 e1 e2 e3
      exact ⟨(k0, k1, k2, k3), c0, c1, c2, c3⟩
    obtain ⟨q, hq⟩ := Go.Deep.choose_lt hv
    refine ⟨some a, cap, (List.range len).map q, by simp, fun hp => ?_, by simpa using hb⟩
    have hp' : 0 < len := by simpa using hp
    obtain ⟨b, off, rfl⟩ := spot_of (hq 0 hp').1
    refine ⟨b, off, rfl, fun i x hi => ?_⟩
    have hil : i < len := by have := (List.getElem?_eq_some_iff.1 hi).1; simpa using this
    rw [List.getElem?_map, List.getElem?_range hil] at hi
    simp at hi
    subst hi
    obtain ⟨h0, h1, h2, h3⟩ := hq i hil
    rw [add_plain] at h0 h1 h2 h3
    exact ⟨h0, by rw [Nat.add_assoc]; exact h1, by rw [Nat.add_assoc]; exact h2, by rw [Nat.add_assoc]; exact h3⟩
theorem open_inps {fuel : Nat} {v : Value} {y : DataW H × List MemPlace} (h : DataW.trod enc Try.prog w base spare held fuel 22 [v] = some y) (hw : WB Try.prog 22 y.1) :
    ∃ (B : Option Addr) (cap : Nat) (l : List I4), v = .slice B l.length cap ∧ QuadAt w B l ∧ l.length * 32 ≤ 140737488351232 := by
  rcases open_slice_fields Try.underlying22 Try.underlying43 (by kernel_rfl) (by kernel_rfl) h with ⟨hcs, _⟩ | ⟨a, len, cap, m, D, Pl, hcs, _, hl, hm, hmm, hx, hcell⟩
  · simp at hcs
    subst hcs
    exact ⟨none, 0, [], rfl, QuadAt.nil _ _, by decide⟩
  · simp at hcs
    subst hcs hx
    have hlm : len ≤ m := by rw [hmm]; split <;> omega
    have hb := (wb_slice Try.underlying22 hw).1
    rw [show Try.prog.bytesOf 43 = 32 by kernel_rfl] at hb
    simp only [List.length_map, List.length_range, reachBytes] at hb
    have hv : ∀ i, i < len → ∃ q : I4, w.cell? (a.add (i * 4)) = some (.int .i64 q.1) ∧ w.cell? (a.add (i * 4 + 1)) = some (.int .i64 q.2.1) ∧ w.cell? (a.add (i * 4 + 2)) = some (.int .i64 q.2.2.1) ∧ w.cell? (a.add (i * 4 + 3)) = some (.int .i64 q.2.2.2) := by
      intro i hi
      obtain ⟨ys, n, _, _, _, hf⟩ := hcell i (by omega)
      obtain ⟨v0, y0, c0, _, t0⟩ := hf 0 _ rfl
      obtain ⟨v1, y1, c1, _, t1⟩ := hf 1 _ rfl
      obtain ⟨v2, y2, c2, _, t2⟩ := hf 2 _ rfl
      obtain ⟨v3, y3, c3, _, t3⟩ := hf 3 _ rfl
      obtain ⟨k0, e0, _, _⟩ := DataW.trod_int Try.underlying3 t0
      obtain ⟨k1, e1, _, _⟩ := DataW.trod_int Try.underlying3 t1
      obtain ⟨k2, e2, _, _⟩ := DataW.trod_int Try.underlying3 t2
      obtain ⟨k3, e3, _, _⟩ := DataW.trod_int Try.underlying3 t3
      simp at e0 e1 e2 e3
      subst e0 e1 e2 e3
      exact ⟨(k0, k1, k2, k3), c0, c1, c2, c3⟩
    obtain ⟨q, hq⟩ := Go.Deep.choose_lt hv
    refine ⟨some a, cap, (List.range len).map q, by simp, fun hp => ?_, by simpa using hb⟩
    have hp' : 0 < len := by simpa using hp
    obtain ⟨b, off, rfl⟩ := spot_of (hq 0 hp').1
    refine ⟨b, off, rfl, fun i x hi => ?_⟩
    have hil : i < len := by have := (List.getElem?_eq_some_iff.1 hi).1; simpa using this
    rw [List.getElem?_map, List.getElem?_range hil] at hi
    simp at hi
    subst hi
    obtain ⟨h0, h1, h2, h3⟩ := hq i hil
    rw [add_plain] at h0 h1 h2 h3
    exact ⟨h0, by rw [Nat.add_assoc]; exact h1, by rw [Nat.add_assoc]; exact h2, by rw [Nat.add_assoc]; exact h3⟩
set_option maxRecDepth 100000 in
theorem open_code {r : Reach} {b0 : Nat} {v : Value} {d : DataW H} {p : List MemPlace} (hv : Value.okWide Try.prog w r b0 26 v) (h : DataW.Trod enc Try.prog w base spare held 26 v d p) (hw : WB Try.prog 26 d) :
    ∃ (c : CodeP) (x : CV), v = codeV c x ∧ CodeIn w c x ∧ c.ins.length * 32 ≤ 140737488351232 ∧ c.cs.length * 16 ≤ 140737488351232 ∧ c.list.length * 32 ≤ 140737488351232 := by
  obtain ⟨v0, v1, v2, v3, v4, y0, y1, y2, y3, y4, n, rfl, rfl, t0, t1, t2, t3, t4⟩ := open_agg5 Try.underlying26 (by kernel_rfl) (by kernel_rfl) hv h
  obtain ⟨rg, e0, _, _⟩ := DataW.trod_int Try.underlying3 t0
  obtain ⟨sl, e1, _, _⟩ := DataW.trod_int Try.underlying3 t1
  simp at e0 e1
  subst e0 e1
  have hW2 : WB Try.prog 22 y2.1 := wb_agg Try.underlying26 hw (j := 2) rfl rfl
  have hW3 : WB Try.prog 23 y3.1 := wb_agg Try.underlying26 hw (j := 3) rfl rfl
  have hW4 : WB Try.prog 24 y4.1 := wb_agg Try.underlying26 hw (j := 4) rfl rfl
  obtain ⟨B2, c2, l2, rfl, q2, z2⟩ := open_inps t2 hW2
  obtain ⟨B3, c3, l3, rfl, q3, z3⟩ := open_valuesV t3 hW3
  obtain ⟨B4, c4, l4, rfl, q4, z4⟩ := open_inss t4 hW4
  exact ⟨⟨rg, sl, l2, l3, l4⟩, ⟨B2, c2, B3, c3, B4, c4⟩, rfl, ⟨q2, q3, q4, by show l2.length * 32 ≤ _; omega, by show l3.length * 16 ≤ _; omega, by show l4.length * 32 ≤ _; omega⟩, z2, z3, z4⟩
end
end Go.Proofs.Ytagjfeblkpkgaaa
namespace Go.Proofs.Ytagjfeblkpkgaaa
open Go.ChangeShapes Go.WideShapes Go.ChangeAt Go.RowKit Go.Deep Go.Joins Go.Fl
set_option linter.unusedVariables false
section
variable {H : Type} {enc : TypeId × Value → H} {w : World} {base : Nat} {spare : Nat → Bool} {held : Bool}
set_option maxRecDepth 100000 in
theorem open_valuesT {r : Reach} {b0 : Nat} {v : Value} {d : DataW H} {p : List MemPlace} (hv : Value.okWide Try.prog w r b0 23 v) (h : DataW.Trod enc Try.prog w base spare held 23 v d p) (hw : WB Try.prog 23 d) :
    ∃ (B : Option Addr) (cap : Nat) (vs : List (Int × Nat)), v = .slice B vs.length cap ∧ RowV w B vs.length vs ∧ vs.length * 16 ≤ 140737488351232 := by
  obtain ⟨A0, len, cap, rfl⟩ := okWide_slice Try.underlying23 hv
  obtain ⟨fuel, h⟩ := h
  exact open_valuesV (v := .slice A0 len cap) (by simpa [Value.cells] using h) hw
set_option maxRecDepth 100000 in
theorem open_inssT {r : Reach} {b0 : Nat} {v : Value} {d : DataW H} {p : List MemPlace} (hv : Value.okWide Try.prog w r b0 24 v) (h : DataW.Trod enc Try.prog w base spare held 24 v d p) (hw : WB Try.prog 24 d) :
    ∃ (B : Option Addr) (cap : Nat) (l : List I4), v = .slice B l.length cap ∧ QuadAt w B l ∧ l.length * 32 ≤ 140737488351232 := by
  obtain ⟨A0, len, cap, rfl⟩ := okWide_slice Try.underlying24 hv
  obtain ⟨fuel, h⟩ := h
  exact open_inss (v := .slice A0 len cap) (by simpa [Value.cells] using h) hw
end
end Go.Proofs.Ytagjfeblkpkgaaa
namespace Go.Proofs.Ytagjfeblkpkgaaa.vmGoods
open Go.ChangeShapes Go.WideShapes Go.ChangeAt Go.RowKit Go.Joins
set_option linter.unusedVariables false
set_option linter.unusedSimpArgs false

theorem own : ownKnob Try.prog.godebug = none := by kernel_rfl
theorem laidOut : laidOutB Try.prog = true := by kernel_rfl

set_option maxHeartbeats 16000000 in
set_option maxRecDepth 100000 in
theorem walk (w : World) (z0 : CodeP) (x0 : CV) (w0 : CodeIn w z0 x0) (p0 : z0.ins.length * 32 ≤ 140737488351232) (q0 : z0.cs.length * 16 ≤ 140737488351232) (r0 : z0.list.length * 32 ≤ 140737488351232) :
    Calls Try.prog 4 #[codeV z0 x0] w fun e w' => e = .returned (.bool true) ∧ Below w.heap.size w w' := by
  obtain ⟨xA, xC, cA, cC, lA, lC⟩ := x0
  have hc := w0
  clear p0 q0 r0 w0
  generalize z0 = c at *
  have hw := m1 w (.cells #[.int .i64 c.regs, .int .i64 c.slots, .slice xA c.ins.length xC, .slice cA c.cs.length cC, .slice lA c.list.length lC] 26)
  have b0 : CodeAt (w.alloc (.cells #[.int .i64 c.regs, .int .i64 c.slots, .slice xA c.ins.length xC, .slice cA c.cs.length cC, .slice lA c.list.length lC] 26)) w.heap.size c ⟨xA, xC, cA, cC, lA, lC⟩ := CodeAt.new w c ⟨xA, xC, cA, cC, lA, lC⟩
  show Calls _ _ #[.agg #[.int .i64 c.regs, .int .i64 c.slots, .slice xA c.ins.length xC, .slice cA c.cs.length cC, .slice lA c.list.length lC]] _ _
  have b4 := b0.2.2.2.2
  dsimp only at b4
  by_cases hbig : (c.list.length : Int) > 3000
  · clear b0
    go_enter Try.func4, Try.ntmps4
    go_wp2_with fail
    refine (awake18 _).mono ?_; rintro e u1 ⟨rfl, hb1⟩
    have hB := below_more hw hb1
    clear hb1 hw
    go_wp2
    go_ret
    exact ⟨rfl, hB⟩
  have GD : ∀ u, CodeIn u c ⟨xA, xC, cA, cC, lA, lC⟩ → Calls Try.prog 11 #[.agg #[.int .i64 c.regs, .int .i64 c.slots, .slice xA c.ins.length xC, .slice cA c.cs.length cC, .slice lA c.list.length lC]] u (BOut (goodC c) u) := fun u h => vgood_any c ⟨xA, xC, cA, cC, lA, lC⟩ u h
  have RG : ∀ u, CodeIn u c ⟨xA, xC, cA, cC, lA, lC⟩ → Calls Try.prog 12 #[.agg #[.int .i64 c.regs, .int .i64 c.slots, .slice xA c.ins.length xC, .slice cA c.cs.length cC, .slice lA c.list.length lC]] u (BOut (goodC c) u) := fun u h => rgood_any c ⟨xA, xC, cA, cC, lA, lC⟩ u h (by omega)
  generalize goodC c = r at *
  replace GD := Lib.hid GD
  replace RG := Lib.hid RG
  go_enter Try.func4, Try.ntmps4
  go_upto_region 3 with (fail)
  generalize w.alloc (.cells #[.int .i64 c.regs, .int .i64 c.slots, .slice xA c.ins.length xC, .slice cA c.cs.length cC, .slice lA c.list.length lC] 26) = u0 at *
  have k0 := b0
  have k1 := hc.later hw
  have hW := hw
  clear b0 b4 hw hc
  have KD := G.keepsD_true []
  refine G.region_words (fun w' => CodeAt w' w.heap.size c ⟨xA, xC, cA, cC, lA, lC⟩ ∧ CodeIn w' c ⟨xA, xC, cA, cC, lA, lC⟩ ∧ Below w.heap.size w w') [G.isW (.bool true), G.isW (.bool true), G.isW (.agg #[.int .i64 c.regs, .int .i64 c.slots, .slice xA c.ins.length xC, .slice cA c.cs.length cC, .slice lA c.list.length lC]), G.isW (.bool r), G.isW (.agg #[.int .i64 c.regs, .int .i64 c.slots, .slice xA c.ins.length xC, .slice cA c.cs.length cC, .slice lA c.list.length lC]), G.isW (.bool r), G.isW (.bool true), G.isW (.bool true), G.isW (.bool true)] (by kernel_rfl) (by repeat' (first | exact G.monoL_nil | exact G.is_mono _ | exact G.any_mono | refine G.monoL_cons ?_ ?_)) (by kernel_rfl) (by kernel_rfl) (fun _ _ h hb => ⟨h.1.later hb, h.2.1.later hb, below_more h.2.2 hb⟩) ⟨k0.later (Below.refl _ _).drew, k1.later (Below.refl _ _).drew, hW.drew⟩ ?_ ?_
  · intro KC
    refine G.stepsL_cons (fun a u hc hdd hd hk hdep => ?_) ?_
    ·
      refine G.step_call KC KD hc hdd rfl 6 #[] (G.wanted_plain rfl) (by first | (go_simp; done) | rfl) ?_
      exact (awake18 u).mono (by rintro e w' ⟨rfl, hb⟩; exact ⟨_, rfl, rfl, hb⟩)
    refine G.stepsL_cons (fun a u hc hdd hd hk hdep => ?_) ?_
    ·
      have d8 : (a.tmps[8]?).getD undef = (.bool true) := hdep ⟨0, .data⟩ (by simp) rfl
      refine G.step_val KC KD hc hdd rfl (.bool true) u (G.wanted_plain rfl) ?_ rfl (Below.refl _ _)
      first | (go_simp; done) | rfl | (simp [go_sem, *]; done)
    refine G.stepsL_cons (fun a u hc hdd hd hk hdep => ?_) ?_
    ·
      have d1 : (a.tmps[1]?).getD undef = (.pointer (some ⟨w.heap.size, 0, none⟩)) := hk 1 (by kernel_rfl)
      refine G.step_val KC KD hc hdd rfl (.agg #[.int .i64 c.regs, .int .i64 c.slots, .slice xA c.ins.length xC, .slice cA c.cs.length cC, .slice lA c.list.length lC]) u ((G.wanted_guard (j := 1) (b := true) (c := true) rfl (hdep ⟨1, .guard⟩ (by simp) rfl)).trans rfl) ?_ rfl (Below.refl _ _)
      obtain ⟨s0, s1, s2, s3, s4⟩ := hc.1
      dsimp only at s2 s3 s4
      first | (go_simp; done) | rfl | (simp [go_sem, *]; done)
    refine G.stepsL_cons (fun a u hc hdd hd hk hdep => ?_) ?_
    ·
      have d10 : (a.tmps[10]?).getD undef = (.agg #[.int .i64 c.regs, .int .i64 c.slots, .slice xA c.ins.length xC, .slice cA c.cs.length cC, .slice lA c.list.length lC]) := hdep ⟨2, .data⟩ (by simp) rfl
      refine G.step_call KC KD hc hdd rfl 11 #[.agg #[.int .i64 c.regs, .int .i64 c.slots, .slice xA c.ins.length xC, .slice cA c.cs.length cC, .slice lA c.list.length lC]] ((G.wanted_guard (j := 1) (b := true) (c := true) rfl (hdep ⟨1, .chain⟩ (by simp) rfl)).trans rfl) (by first | (go_simp; done) | rfl) ?_
      exact (GD.out u hc.2.1).mono (by rintro e w' ⟨rfl, hb⟩; exact ⟨_, rfl, rfl, hb⟩)
    refine G.stepsL_cons (fun a u hc hdd hd hk hdep => ?_) ?_
    ·
      have d1 : (a.tmps[1]?).getD undef = (.pointer (some ⟨w.heap.size, 0, none⟩)) := hk 1 (by kernel_rfl)
      refine G.step_val KC KD hc hdd rfl (.agg #[.int .i64 c.regs, .int .i64 c.slots, .slice xA c.ins.length xC, .slice cA c.cs.length cC, .slice lA c.list.length lC]) u ((G.wanted_guard (j := 1) (b := true) (c := true) rfl (hdep ⟨1, .guard⟩ (by simp) rfl)).trans rfl) ?_ rfl (Below.refl _ _)
      obtain ⟨s0, s1, s2, s3, s4⟩ := hc.1
      dsimp only at s2 s3 s4
      first | (go_simp; done) | rfl | (simp [go_sem, *]; done)
    refine G.stepsL_cons (fun a u hc hdd hd hk hdep => ?_) ?_
    ·
      have d12 : (a.tmps[12]?).getD undef = (.agg #[.int .i64 c.regs, .int .i64 c.slots, .slice xA c.ins.length xC, .slice cA c.cs.length cC, .slice lA c.list.length lC]) := hdep ⟨4, .data⟩ (by simp) rfl
      refine G.step_call KC KD hc hdd rfl 12 #[.agg #[.int .i64 c.regs, .int .i64 c.slots, .slice xA c.ins.length xC, .slice cA c.cs.length cC, .slice lA c.list.length lC]] ((G.wanted_guard (j := 1) (b := true) (c := true) rfl (hdep ⟨1, .guard⟩ (by simp) rfl)).trans rfl) (by first | (go_simp; done) | rfl) ?_
      exact (RG.out u hc.2.1).mono (by rintro e w' ⟨rfl, hb⟩; exact ⟨_, rfl, rfl, hb⟩)
    refine G.stepsL_cons (fun a u hc hdd hd hk hdep => ?_) ?_
    ·
      have d11 : (a.tmps[11]?).getD undef = (.bool r) := hdep ⟨3, .data⟩ (by simp) rfl
      have d13 : (a.tmps[13]?).getD undef = (.bool r) := hdep ⟨5, .data⟩ (by simp) rfl
      refine G.step_val KC KD hc hdd rfl (.bool true) u ((G.wanted_guard (j := 1) (b := true) (c := true) rfl (hdep ⟨1, .guard⟩ (by simp) rfl)).trans rfl) ?_ rfl (Below.refl _ _)
      cases r <;> first | rfl | (go_simp; done) | (simp [go_sem, *]; done)
    refine G.stepsL_cons (fun a u hc hdd hd hk hdep => ?_) ?_
    ·
      have d9 : (a.tmps[9]?).getD undef = (.bool true) := hdep ⟨1, .data⟩ (by simp) rfl
      have d14 : (a.tmps[14]?).getD undef = (.bool true) := hdep ⟨6, .data⟩ (by simp) rfl
      refine G.step_val KC KD hc hdd rfl (.bool true) u (G.wanted_plain rfl) ?_ rfl (Below.refl _ _)
      first | (go_simp; done) | rfl | (simp [go_sem, *]; done)
    refine G.stepsL_cons (fun a u hc hdd hd hk hdep => ?_) ?_
    ·
      have d15 : (a.tmps[15]?).getD undef = (.bool true) := hdep ⟨7, .data⟩ (by simp) rfl
      refine G.step_val KC KD hc hdd rfl (.bool true) u (G.wanted_plain rfl) ?_ rfl (Below.refl _ _)
      first | (go_simp; done) | rfl | (simp [go_sem, *]; done)
    exact G.stepsL_nil
  intro vs' wN hNN hh
  have eL : vs' 8 = (.bool true) := by
    obtain ⟨-, -, -, -, -, -, -, -, eX, -⟩ := hh
    exact eX
  clear hh
  obtain ⟨-, -, hB⟩ := hNN
  clear k0 k1 hW
  set_option maxRecDepth 100000 in simp only [List.take_succ_cons, List.take_zero, putAll, Act.put, List.setIfInBounds_toArray, List.set_cons_zero, List.set_cons_succ, Nat.reduceAdd, eL]
  clear eL
  go_wp2
  go_ret
  exact ⟨rfl, hB⟩

set_option maxRecDepth 100000 in
theorem lifted (os : Os) (started : os.Started) (H : Type) (enc : TypeId × Value → H) :
    ReturnsInHanded {} Try.checked os 4 .any (Rows.vmGoodsSpec.pre6 enc Try.prog Try.f4 Rows.vmGoodsRow.domain false) (Rows.vmGoodsSpec.post enc Try.prog Try.f4 false true false false) := by
  refine returnsInHanded_of_change_sized (C := Try.checked) own started (by kernel_rfl) Try.func4
    (ChangeSpec.witness6 (enc := enc) (C := Try.checked) false ⟨#[], #[.agg #[.int .i64 0, .int .i64 0, .slice none 0 0, .slice none 0 0, .slice none 0 0]], []⟩ 8 (by kernel_rfl) (by kernel_rfl) (by kernel_rfl) (by kernel_rfl)) ?_
  intro W base args ds gs before hval0 hW hcnd hsz0 _
  have hsz : (DataW.weightsEach Try.prog (Try.f4.params.toList ++ Rows.vmGoodsSpec.plain.varTypes Try.prog) (ds ++ gs)).all (· ≤ reachBytes) = true := hsz0
  clear hsz0
  have hval : ∀ (j : Nat) t v, Try.f4.params[j]? = some t → args[j]? = some v → Value.okWide Try.prog W .any base t v := hval0
  have hW' := hW
  obtain ⟨p, q, hA0, hV, rfl, hfz, hnd⟩ := hW
  have hA : DataW.TrodAll enc Try.prog W 0 (fun _ => true) true Try.f4.params.toList args.toList ds p := hA0
  rw [Try.params4] at hA hval hsz
  obtain ⟨v0, vs0, d0, ds0, p0, q0, hargs, rfl, rfl, h0, r0⟩ := trodAll_cons hA
  obtain ⟨rfl, rfl, rfl⟩ := trodAll_nil r0
  obtain rfl : args = #[v0] := by cases args; simp_all
  obtain ⟨rfl, rfl⟩ := trodVars_none hV
  have kk0 := h0
  have lt0 : ∀ x ∈ p0, x.block < W.heap.size := by obtain ⟨m, hm⟩ := kk0; exact DataW.trod_lt m _ _ _ hm
  obtain ⟨z0, x0, rfl, w0, pp0, qq0, rr0⟩ := open_code (hval 0 26 v0 rfl rfl) h0 (wb_each hsz (j := 0) (t := 26) rfl rfl)
  clear hA0 hval0
  refine (walk W z0 x0 w0 pp0 qq0 rr0).mono fun e W' ⟨he, bel⟩ => ?_
  subst he
  exact ⟨_, rfl, _, _, _, [], _, [], hW', trodAll_mk1 (shut_bool Try.underlying4 _), (trodAll_cons_mk (Below.trod laidOut (by kernel_rfl) (of_decide_eq_true (by kernel_rfl)) kk0 bel lt0) trodAll_mk0), rfl, bel.frame _, fun h => by cases h⟩

theorem over : Rows.vmGoodsRow.holds Try.pinned (OpenSpec.ofChange Rows.vmGoodsSpec) :=
  OpenClaim.holds_of_wide 4 Try.f4 rfl rfl rfl rfl rfl rfl rfl ⟨rfl, rfl, rfl, rfl, rfl⟩ rfl rfl rfl rfl rfl (by kernel_rfl) Try.func4 (by kernel_rfl)
    (of_decide_eq_true (by kernel_rfl)) (by unfold Func.isWrapper; first | (rw [if_pos (by decide +kernel)]; kernel_rfl) | (rw [if_neg (by decide +kernel)]; exact ⟨rfl, rfl⟩))
    (fun os started H enc _ => lifted os started H enc)

/-- the statement -/
theorem proved : Rows.VmGoodsSaid :=
  over
#print axioms proved
end Go.Proofs.Ytagjfeblkpkgaaa.vmGoods
