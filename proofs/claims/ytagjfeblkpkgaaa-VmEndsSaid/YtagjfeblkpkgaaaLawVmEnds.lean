/- VmEnds: what stands behind the first instruction that tells doesn't count; without one it is poison; what is told is clean. -/
import Derived.Test.YtagjfeblkpkgaaaRows
import Derived.WalkKit
import Derived.ProofKit
import Derived.OpenShut
import Derived.ShutString
import Derived.ChangeOld
import Derived.Below
import Derived.Lib.SmallJoins
import Derived.SizedLaws
import Derived.Test.YtagjfeblkpkgaaaVmI
import Derived.Test.YtagjfeblkpkgaaaVmX
namespace Go.Proofs.Ytagjfeblkpkgaaa.vmEnds
open Go.ChangeShapes Go.WideShapes Go.ChangeAt Go.RowKit Go.Joins
set_option linter.unusedVariables false
set_option linter.unusedSimpArgs false

theorem own : ownKnob Try.prog.godebug = none := by kernel_rfl
theorem laidOut : laidOutB Try.prog = true := by kernel_rfl

theorem bdrewL {B : Nat} {a w : World} (h : Below B a w) (n : Nat) : Below B a (w.drewN n) := ⟨h.os, h.tape, h.output, h.size, h.block⟩
theorem toldP_snoc (l : List I4) (k : Nat) (x : I4) (h : l[k]? = some x) : toldP (l.take (k + 1)) = (toldP (l.take k) || decide (x.1 = 52)) := by
  unfold toldP
  rw [List.take_add_one, h, List.any_append]
  simp

set_option maxHeartbeats 16000000 in
set_option maxRecDepth 100000 in
theorem walk (w : World) (z0 : CodeP) (x0 : CV) (w0 : CodeIn w z0 x0) (p0 : z0.ins.length * 32 ≤ 140737488351232) (q0 : z0.cs.length * 16 ≤ 140737488351232) (r0 : z0.list.length * 32 ≤ 140737488351232) (A1 : Option Addr) (c1 : Nat) (z1 : List (Int × Nat)) (w1 : RowV w A1 z1.length z1) (s1 : z1.length * 16 ≤ 140737488351232) (A2 : Option Addr) (c2 : Nat) (z2 : List I4) (w2 : QuadAt w A2 z2) (s2 : z2.length * 32 ≤ 140737488351232) :
    Calls Try.prog 5 #[codeV z0 x0, .slice A1 z1.length c1, .slice A2 z2.length c2] w fun e w' => e = .returned (.bool true) ∧ Below w.heap.size w w' := by
  obtain ⟨xA, xC, cA, cC, lA, lC⟩ := x0
  have hc := w0
  clear p0 q0 r0 w0
  generalize z0 = c at *
  obtain ⟨i0, hi, hz0, hz1, hz2⟩ := info_parts infoIns
  replace hi := Lib.hid hi
  replace hz1 := Lib.hid hz1
  replace hz2 := Lib.hid hz2
  have hw := m1 w (.cells #[.int .i64 c.regs, .int .i64 c.slots, .slice xA c.ins.length xC, .slice cA c.cs.length cC, .slice lA c.list.length lC] 26)
  have b0 : CodeAt (w.alloc (.cells #[.int .i64 c.regs, .int .i64 c.slots, .slice xA c.ins.length xC, .slice cA c.cs.length cC, .slice lA c.list.length lC] 26)) w.heap.size c ⟨xA, xC, cA, cC, lA, lC⟩ := CodeAt.new w c ⟨xA, xC, cA, cC, lA, lC⟩
  have bX := Blk.made w 26 #[.int .i64 c.regs, .int .i64 c.slots, .slice xA c.ins.length xC, .slice cA c.cs.length cC, .slice lA c.list.length lC]
  have hyok := codeRun_ok c z1 w w1.2.1 hc.cs.2.1
  have RV := Lib.hid (fun u h1 h2 => vrun_any c ⟨xA, xC, cA, cC, lA, lC⟩ A1 z1.length c1 z1 u h1 h2 (by omega))
  have hfar : toldP c.list = true → codeRun ⟨c.regs, c.slots, c.ins, c.cs, c.list ++ z2⟩ z1 = codeRun c z1 := fun h => run_more z1 c.cs z2 c.list _ h
  have hnon : toldP c.list = false → codeRun c z1 = (0, 0) := fun h => run_none z1 c.cs c.list _ h
  have hgd : toldP c.list = false → goodC c = false := fun h => by
    cases hg : goodC c with
    | false => rfl
    | true => rw [good_told hg] at h; cases h
  replace hfar := Lib.hid hfar
  replace hnon := Lib.hid hnon
  replace hgd := Lib.hid hgd
  show Calls _ _ #[.agg #[.int .i64 c.regs, .int .i64 c.slots, .slice xA c.ins.length xC, .slice cA c.cs.length cC, .slice lA c.list.length lC], .slice A1 z1.length c1, .slice A2 z2.length c2] _ _
  obtain ⟨s0', s1', s2', s3', s4'⟩ := id b0
  dsimp only at s2' s3' s4'
  replace w1 := Lib.hid w1
  replace w2 := Lib.hid w2
  by_cases hbig : (c.list.length : Int) > 3000
  · go_enter Try.func5, Try.ntmps5
    go_upto_region 1 with (fail)
    generalize w.alloc (.cells #[.int .i64 c.regs, .int .i64 c.slots, .slice xA c.ins.length xC, .slice cA c.cs.length cC, .slice lA c.list.length lC] 26) = u0 at *
    go_wp2_with fail
    refine (awake18 _).mono ?_; rintro e u1 ⟨rfl, hb1⟩
    replace s4' := cell_later hb1 s4'
    replace hw := below_more hw hb1
    clear hb1
    go_wp2_with fail
    refine (awake18 _).mono ?_; rintro e u2 ⟨rfl, hb1⟩
    replace hw := below_more hw hb1
    clear hb1
    go_wp2
    go_ret
    exact ⟨rfl, hw⟩
  by_cases hbig2 : (z2.length : Int) > 3000
  · go_enter Try.func5, Try.ntmps5
    go_upto_region 1 with (fail)
    generalize w.alloc (.cells #[.int .i64 c.regs, .int .i64 c.slots, .slice xA c.ins.length xC, .slice cA c.cs.length cC, .slice lA c.list.length lC] 26) = u0 at *
    go_wp2_with fail
    refine (awake18 _).mono ?_; rintro e u1 ⟨rfl, hb1⟩
    replace s4' := cell_later hb1 s4'
    replace hw := below_more hw hb1
    clear hb1
    go_wp2_with fail
    refine (awake18 _).mono ?_; rintro e u2 ⟨rfl, hb1⟩
    replace hw := below_more hw hb1
    clear hb1
    go_wp2
    go_ret
    exact ⟨rfl, hw⟩
  go_enter Try.func5, Try.ntmps5
  go_upto_region 1 with (fail)
  generalize w.alloc (.cells #[.int .i64 c.regs, .int .i64 c.slots, .slice xA c.ins.length xC, .slice cA c.cs.length cC, .slice lA c.list.length lC] 26) = u0 at *
  go_wp2_with fail
  refine (awake18 _).mono ?_; rintro e u1 ⟨rfl, hb1⟩
  replace b0 := b0.later hb1
  replace bX := bX.kept hb1
  replace hw := below_more hw hb1
  clear hb1 s0' s1' s2' s3' s4'
  obtain ⟨s0', s1', s2', s3', s4'⟩ := id b0
  dsimp only at s2' s3' s4'
  go_upto_region 3 with (fail)
  generalize hy : codeRun c z1 = y at *
  obtain ⟨yk, yb⟩ := y
  go_wp2_with fail
  refine (RV.out _ (hc.later hw) (w1.out.later hw)).mono ?_; rintro e u5 ⟨rfl, hb3⟩
  clear RV s0' s1' s2' s3' s4'
  go_upto_region 4 with (fail)
  have hb4 := hb3.alloc hb3.size (.cells #[.int .i64 yk, .int .u64 (yb : Int)] 31)
  replace hw := below_more hw hb4
  replace b0 := b0.later hb4
  replace bX := bX.kept hb4
  have k2 := Blk.made u5 31 #[.int .i64 yk, .int .u64 (yb : Int)]
  clear hb3 hb4
  generalize u5.alloc (.cells #[.int .i64 yk, .int .u64 (yb : Int)] 31) = u6 at *
  generalize u5.heap.size = gv at *
  have s4' := b0.2.2.2.2
  dsimp only at s4'
  have hl9 : c.list.length ≤ 9223372036854775806 := by omega
  have hlist := Lib.hid (show QuadAt w lA c.list from hc.list)
  go_wp2_with fail
  go_loopw [8, 32] (fun t i wr => ∃ k : Nat, k ≤ c.list.length ∧ i = .int .i64 (k : Int) ∧ t = .bool (toldP (c.list.take k)) ∧ Below u6.heap.size u6 wr) (fun _ i _ => c.list.length - (intOf i).toNat)
  case atStart => exact ⟨0, Nat.zero_le _, rfl, rfl, Below.refl _ _⟩
  case round =>
    obtain ⟨k, hk, rfl, rfl, hb⟩ := hrel
    by_cases hlt : k < c.list.length
    · obtain ⟨bb, off, hA, hcells⟩ := hlist.out (by omega)
      have hx := List.getElem?_eq_getElem hlt
      obtain ⟨q0, q1, q2, q3⟩ := hcells k _ hx
      have hsn := toldP_snoc c.list k _ hx
      replace q0 := cell_later hb (cell_later hw q0)
      replace q1 := cell_later hb (cell_later hw q1)
      replace q2 := cell_later hb (cell_later hw q2)
      replace q3 := cell_later hb (cell_later hw q3)
      clear hcells hx hbig hbig2
      generalize c.list[k] = x at *
      obtain ⟨op, d, ia, ib⟩ := x
      dsimp only at q0 q1 q2 q3 hsn
      have h52 := beqd op 52
      replace hsn := Lib.hid hsn
      generalize toldP (c.list.take k) = tk at *
      generalize decide (op = 52) = ob at *
      have k0 : (0 : Int) ≤ (k : Int) := by omega
      have k1 : (k : Int) < (c.list.length : Int) := by omega
      have k3 := Lib.hid hlt
      have hb2 := hb.alloc hb.size (.cells #[.int .i64 op, .int .i64 d, .int .i64 ia, .int .i64 ib] 39)
      subst hA
      cases tk with
      | true =>
        go_wp2
        go_roundw
        case rel => exact ⟨k + 1, by have := k3.out; omega, by go_num, by rw [hsn.out]; rfl, hb2⟩
        case measure => have := k3.out; simp [intOf]; omega
      | false =>
        go_wp2
        go_roundw
        case rel => exact ⟨k + 1, by have := k3.out; omega, by go_num, by rw [hsn.out]; simp, hb2⟩
        case measure => have := k3.out; simp [intOf]; omega
    · obtain rfl : k = c.list.length := by omega
      rw [List.take_length]
      replace b0 := b0.later hb
      replace bX := bX.kept hb
      replace k2 := k2.kept hb
      replace hw := below_more hw hb
      clear hlt hb s4' hlist
      generalize toldP c.list = told at *
      obtain ⟨s0', s1', s2', s3', s4'⟩ := id b0
      dsimp only at s2' s3' s4'
      go_wp2_with fail
      refine (twin_any c ⟨xA, xC, cA, cC, lA, lC⟩ _ (hc.later hw)).mono ?_; rintro e u7 ⟨⟨yA, yC, dA, dC, mA, mC⟩, he, k4, ⟨oI, oC, oL⟩, hb1⟩
      replace he : e = .returned (.agg #[.int .i64 c.regs, .int .i64 c.slots, .slice yA c.ins.length yC, .slice dA c.cs.length dC, .slice mA c.list.length mC]) := he
      subst he
      replace b0 := b0.later hb1
      replace bX := bX.kept hb1
      replace k2 := k2.kept hb1
      replace oL := mown_mono oL hw.size
      replace oI := mown_mono oI hw.size
      replace oC := mown_mono oC hw.size
      dsimp only at oL oI oC
      replace hw := below_more hw hb1
      clear hb1 s0' s1' s2' s3' s4'
      go_upto_region 11 with (fail)
      have hgw := bX.lt
      have hb2 := m1 u7 (.cells #[.int .i64 c.regs, .int .i64 c.slots, .slice yA c.ins.length yC, .slice dA c.cs.length dC, .slice mA c.list.length mC] 26)
      have kd := Blk.made u7 26 #[.int .i64 c.regs, .int .i64 c.slots, .slice yA c.ins.length yC, .slice dA c.cs.length dC, .slice mA c.list.length mC]
      replace b0 := b0.later hb2
      replace bX := bX.kept hb2
      replace k2 := k2.kept hb2
      replace oL := mown_below oL hb2
      replace oI := mown_below oI hb2
      replace oC := mown_below oC hb2
      clear k4
      replace hw := below_more hw hb2
      clear hb2
      generalize u7.alloc (.cells #[.int .i64 c.regs, .int .i64 c.slots, .slice yA c.ins.length yC, .slice dA c.cs.length dC, .slice mA c.list.length mC] 26) = u8 at *
      generalize u7.heap.size = gd at *
      have d4 := kd.cell 4
      have g4 := kd.free 4
      have nE := kd.own_ne oL (by decide)
      have nX := bX.own_ne oL (by decide)
      have n2 := k2.own_ne oL (by decide)
      have nI := mown_ne oI oL (by decide)
      have nC' := mown_ne oC oL (by decide)
      have hrow := Lib.hid (fun k h => (oL.lt k h).1)
      have nvd : gd ≠ gv := fun e => by
        subst e; unfold Blk at kd k2; rw [kd] at k2; injection k2 with h1; injection h1 with _ h1; exact absurd h1 (by decide)
      have nwd : gd ≠ w.heap.size := by have := hgw; omega
      go_upto_region 12 with (at_builtin; refine wpList_append_any _ rfl (.tmp 46) (.tmp 47) 24 rfl w.heap.size 39 i0 (.agg #[.int .i64 0, .int .i64 0, .int .i64 0, .int .i64 0]) 4 32 Try.underlying24 hi.out hz0 hz1.out hz2.out rfl (by decide) (.slice mA c.list.length mC) c.list.length (cellsI c.list) rfl oL u8.heap.size A2 z2.length c2 (cellsI z2) rfl ((quad_reads w2.out).below hw |>.more hw.size) (one_cells _) (by unfold maxLen; omega) (by omega) hw.size ?_; intro v3 x3 o3 g3 _; rw [← cellsI_append, ← List.length_append] at o3; obtain ⟨nA, nC, rfl, qn⟩ := own_quad o3; have kd := kd.grown g3 nE; have d4 := kd.cell 4; have g4 := kd.free 4)
      replace hw := hw.grown g3 hw.size hrow.out
      replace bX := bX.grown g3 nX
      replace k2 := k2.grown g3 n2
      replace oI := oI.kept g3 nI
      replace oC := oC.kept g3 nC'
      have mI := mown_set oI (p := ⟨gd, 4, none⟩) (fun e => (kd.own_ne oI (by decide)) e.symm) (.slice nA (c.list.length + z2.length) nC)
      have mC' := mown_set oC (p := ⟨gd, 4, none⟩) (fun e => (kd.own_ne oC (by decide)) e.symm) (.slice nA (c.list.length + z2.length) nC)
      have mL := mown_set o3 (p := ⟨gd, 4, none⟩) (fun e => (kd.own_ne o3 (by decide)) e.symm) (.slice nA (c.list.length + z2.length) nC)
      replace bX := bX.else_ (p := ⟨gd, 4, none⟩) nwd (.slice nA (c.list.length + z2.length) nC)
      replace k2 := k2.else_ (p := ⟨gd, 4, none⟩) nvd (.slice nA (c.list.length + z2.length) nC)
      replace hw := hw.setCell (p := ⟨gd, 4, none⟩) (by show w.heap.size ≤ gd; have := hgw; omega) (.slice nA (c.list.length + z2.length) nC)
      have kd2 : Blk (x3.setCell ⟨gd, 4, none⟩ (.slice nA (c.list.length + z2.length) nC)) gd 26 #[.int .i64 c.regs, .int .i64 c.slots, .slice yA c.ins.length yC, .slice dA c.cs.length dC, .slice nA (c.list.length + z2.length) nC] := by
        have := kd.put_ 4 (.slice nA (c.list.length + z2.length) nC)
        simpa using this
      clear kd d4 g4 o3 g3 qn oI oC oL nE nX n2 nI nC' hrow nvd nwd b0
      generalize hcd0 : (⟨c.regs, c.slots, c.ins, c.cs, c.list ++ z2⟩ : CodeP) = cd at *
      have hcd : cd.regs = c.regs ∧ cd.slots = c.slots ∧ cd.ins.length = c.ins.length ∧ cd.cs.length = c.cs.length ∧ cd.list.length = c.list.length + z2.length := by
        rw [← hcd0]; exact ⟨rfl, rfl, rfl, rfl, by simp⟩
      have k4 : ∀ u, Below (x3.setCell ⟨gd, 4, none⟩ (.slice nA (c.list.length + z2.length) nC)).heap.size (x3.setCell ⟨gd, 4, none⟩ (.slice nA (c.list.length + z2.length) nC)) u → CodeIn u cd ⟨yA, yC, dA, dC, nA, nC⟩ := fun u hb => by
        rw [← hcd0]
        refine CodeIn.later ⟨own_quadS mI, own_rowS mC' hc.cs.2.1, own_quadS mL, hc.szI, hc.szC, ?_⟩ hb
        show (c.list ++ z2).length * 32 ≤ _
        rw [List.length_append]; omega
      replace k4 := k4 _ (Below.refl _ _)
      have k1 : CodeAt (x3.setCell ⟨gd, 4, none⟩ (.slice nA (c.list.length + z2.length) nC)) gd cd ⟨yA, yC, dA, dC, nA, nC⟩ := by
        rw [← hcd0]
        exact ⟨kd2.cell 0, kd2.cell 1, kd2.cell 2, kd2.cell 3, by
          show _ = some (Value.slice nA (c.list ++ z2).length nC)
          rw [List.length_append]
          exact kd2.cell 4⟩
      have k0 : CodeAt (x3.setCell ⟨gd, 4, none⟩ (.slice nA (c.list.length + z2.length) nC)) w.heap.size c ⟨xA, xC, cA, cC, lA, lC⟩ := ⟨bX.cell 0, bX.cell 1, bX.cell 2, bX.cell 3, bX.cell 4⟩
      have RD : told = true → ∀ u, CodeIn u cd ⟨yA, yC, dA, dC, nA, nC⟩ → RowV u A1 z1.length z1 → Calls Try.prog 8 #[.agg #[.int .i64 c.regs, .int .i64 c.slots, .slice yA c.ins.length yC, .slice dA c.cs.length dC, .slice nA (c.list.length + z2.length) nC], .slice A1 z1.length c1] u (VOut (yk, yb) u) := fun ht u h1 h2 => by
        have := vrun_any cd ⟨yA, yC, dA, dC, nA, nC⟩ A1 z1.length c1 z1 u h1 h2 (by omega)
        rw [hfar.out ht] at this
        simpa only [codeV, hcd.1, hcd.2.1, hcd.2.2.1, hcd.2.2.2.1, hcd.2.2.2.2] using this
      have GD : told = false → ∀ u, CodeIn u c ⟨xA, xC, cA, cC, lA, lC⟩ → Calls Try.prog 11 #[.agg #[.int .i64 c.regs, .int .i64 c.slots, .slice xA c.ins.length xC, .slice cA c.cs.length cC, .slice lA c.list.length lC]] u (BOut false u) := fun ht u h1 => by
        have := vgood_any c ⟨xA, xC, cA, cC, lA, lC⟩ u h1
        rw [hgd.out ht] at this
        exact this
      have RC := Lib.hid (fun u => (rclean_any yk yb u hyok.2))
      rw [hyok.1.1, hyok.1.2] at RC
      have k3 := hc.later hw
      have k5 := w1.out.later hw
      have hW := hw
      replace hcd := Lib.hid hcd
      clear mI mC' mL bX kd2 hcd0 hc hw hgw hyok
      generalize x3.setCell ⟨gd, 4, none⟩ (.slice nA (c.list.length + z2.length) nC) = u9 at *
      cases told with
      | true =>
        replace RD := Lib.hid (RD rfl)
        clear GD hnon
        have KD := G.keepsD_true []
        refine G.region_words (fun w' => CodeAt w' w.heap.size c ⟨xA, xC, cA, cC, lA, lC⟩ ∧ CodeAt w' gd cd ⟨yA, yC, dA, dC, nA, nC⟩ ∧ Blk w' gv 31 #[.int .i64 yk, .int .u64 (yb : Int)] ∧ CodeIn w' c ⟨xA, xC, cA, cC, lA, lC⟩ ∧ CodeIn w' cd ⟨yA, yC, dA, dC, nA, nC⟩ ∧ RowV w' A1 z1.length z1 ∧ Below w.heap.size w w') [G.isW (.bool true), G.isW (.bool true), G.isW (.agg #[.int .i64 c.regs, .int .i64 c.slots, .slice yA c.ins.length yC, .slice dA c.cs.length dC, .slice nA (c.list.length + z2.length) nC]), G.isW (.slice A1 z1.length c1), G.isW (.agg #[.int .i64 yk, .int .u64 (yb : Int)]), G.isW (.agg #[.int .i64 yk, .int .u64 (yb : Int)]), G.isW (.bool false), G.isW (.bool false), G.isW (.bool false), G.isW (.bool true), G.isW (.bool false), G.isW (.bool false), G.isW undef, G.isW undef, G.isW undef, G.isW (.bool false), G.isW (.bool false)] (by kernel_rfl) (by repeat' (first | exact G.monoL_nil | exact G.is_mono _ | exact G.any_mono | refine G.monoL_cons ?_ ?_)) (by kernel_rfl) (by kernel_rfl) (fun _ _ h hb => ⟨h.1.later hb, h.2.1.later hb, h.2.2.1.kept hb, h.2.2.2.1.later hb, h.2.2.2.2.1.later hb, h.2.2.2.2.2.1.later hb, below_more h.2.2.2.2.2.2 hb⟩) ⟨k0.later (Below.refl _ _).drew, k1.later (Below.refl _ _).drew, k2.kept (Below.refl _ _).drew, k3.later (Below.refl _ _).drew, k4.later (Below.refl _ _).drew, k5.later (Below.refl _ _).drew, hW.drew⟩ ?_ ?_
        · intro KC
          refine G.stepsL_cons (fun a u hc hdd hd hk hdep => ?_) ?_
          ·
            have d8 : (a.tmps[8]?).getD undef = (.bool true) := hk 8 (by kernel_rfl)
            refine G.step_val KC KD hc hdd rfl (.bool true) u (G.wanted_plain rfl) ?_ rfl (Below.refl _ _)
            first | (go_simp; done) | rfl | (simp [go_sem, *]; done)
          refine G.stepsL_cons (fun a u hc hdd hd hk hdep => ?_) ?_
          ·
            have d50 : (a.tmps[50]?).getD undef = (.bool true) := hdep ⟨0, .data⟩ (by simp) rfl
            refine G.step_val KC KD hc hdd rfl (.bool true) u (G.wanted_plain rfl) ?_ rfl (Below.refl _ _)
            first | (go_simp; done) | rfl | (simp [go_sem, *]; done)
          refine G.stepsL_cons (fun a u hc hdd hd hk hdep => ?_) ?_
          ·
            have d11 : (a.tmps[11]?).getD undef = (.pointer (some ⟨gd, 0, none⟩)) := hk 11 (by kernel_rfl)
            refine G.step_val KC KD hc hdd rfl (.agg #[.int .i64 c.regs, .int .i64 c.slots, .slice yA c.ins.length yC, .slice dA c.cs.length dC, .slice nA (c.list.length + z2.length) nC]) u ((G.wanted_guard (j := 1) (b := true) (c := true) rfl (hdep ⟨1, .guard⟩ (by simp) rfl)).trans rfl) ?_ rfl (Below.refl _ _)
            obtain ⟨s0, s1, s2, s3, s4⟩ := hc.1
            obtain ⟨r0, r1, r2, r3, r4⟩ := hc.2.1
            dsimp only at s2 s3 s4 r2 r3 r4
            rw [hcd.out.1] at r0
            rw [hcd.out.2.1] at r1
            rw [hcd.out.2.2.1] at r2
            rw [hcd.out.2.2.2.1] at r3
            rw [hcd.out.2.2.2.2] at r4
            have v0 : u.cell? ⟨gv, 0, none⟩ = some (.int .i64 yk) := hc.2.2.1.cell 0
            have v1 : u.cell? ⟨gv, 1, none⟩ = some (.int .u64 (yb : Int)) := hc.2.2.1.cell 1
            first | (go_simp; done) | rfl | (simp [go_sem, *]; done)
          refine G.stepsL_cons (fun a u hc hdd hd hk hdep => ?_) ?_
          ·
            have d1 : (a.tmps[1]?).getD undef = (.slice A1 z1.length c1) := hk 1 (by kernel_rfl)
            refine G.step_val KC KD hc hdd rfl (.slice A1 z1.length c1) u ((G.wanted_guard (j := 1) (b := true) (c := true) rfl (hdep ⟨1, .guard⟩ (by simp) rfl)).trans rfl) ?_ rfl (Below.refl _ _)
            first | (go_simp; done) | rfl | (simp [go_sem, *]; done)
          refine G.stepsL_cons (fun a u hc hdd hd hk hdep => ?_) ?_
          ·
            have d52 : (a.tmps[52]?).getD undef = (.agg #[.int .i64 c.regs, .int .i64 c.slots, .slice yA c.ins.length yC, .slice dA c.cs.length dC, .slice nA (c.list.length + z2.length) nC]) := hdep ⟨2, .data⟩ (by simp) rfl
            have d53 : (a.tmps[53]?).getD undef = (.slice A1 z1.length c1) := hdep ⟨3, .data⟩ (by simp) rfl
            refine G.step_call KC KD hc hdd rfl 8 #[.agg #[.int .i64 c.regs, .int .i64 c.slots, .slice yA c.ins.length yC, .slice dA c.cs.length dC, .slice nA (c.list.length + z2.length) nC], .slice A1 z1.length c1] ((G.wanted_guard (j := 1) (b := true) (c := true) rfl (hdep ⟨1, .chain⟩ (by simp) rfl)).trans rfl) (by first | (go_simp; done) | rfl) ?_
            exact (RD.out u hc.2.2.2.2.1 hc.2.2.2.2.2.1).mono (by rintro e w' ⟨rfl, hb⟩; exact ⟨_, rfl, rfl, hb⟩)
          refine G.stepsL_cons (fun a u hc hdd hd hk hdep => ?_) ?_
          ·
            have d7 : (a.tmps[7]?).getD undef = (.pointer (some ⟨gv, 0, none⟩)) := hk 7 (by kernel_rfl)
            refine G.step_val KC KD hc hdd rfl (.agg #[.int .i64 yk, .int .u64 (yb : Int)]) u ((G.wanted_guard (j := 1) (b := true) (c := true) rfl (hdep ⟨1, .guard⟩ (by simp) rfl)).trans rfl) ?_ rfl (Below.refl _ _)
            obtain ⟨s0, s1, s2, s3, s4⟩ := hc.1
            obtain ⟨r0, r1, r2, r3, r4⟩ := hc.2.1
            dsimp only at s2 s3 s4 r2 r3 r4
            rw [hcd.out.1] at r0
            rw [hcd.out.2.1] at r1
            rw [hcd.out.2.2.1] at r2
            rw [hcd.out.2.2.2.1] at r3
            rw [hcd.out.2.2.2.2] at r4
            have v0 : u.cell? ⟨gv, 0, none⟩ = some (.int .i64 yk) := hc.2.2.1.cell 0
            have v1 : u.cell? ⟨gv, 1, none⟩ = some (.int .u64 (yb : Int)) := hc.2.2.1.cell 1
            first | (go_simp; done) | rfl | (simp [go_sem, *]; done)
          refine G.stepsL_cons (fun a u hc hdd hd hk hdep => ?_) ?_
          ·
            have d54 : (a.tmps[54]?).getD undef = (.agg #[.int .i64 yk, .int .u64 (yb : Int)]) := hdep ⟨4, .data⟩ (by simp) rfl
            have d55 : (a.tmps[55]?).getD undef = (.agg #[.int .i64 yk, .int .u64 (yb : Int)]) := hdep ⟨5, .data⟩ (by simp) rfl
            refine G.step_val KC KD hc hdd rfl (.bool false) u ((G.wanted_guard (j := 1) (b := true) (c := true) rfl (hdep ⟨1, .guard⟩ (by simp) rfl)).trans rfl) ?_ rfl (Below.refl _ _)
            have he := neq2_V yk yb u
            first | (go_simp; done) | rfl | (simp [go_sem, *]; done)
          refine G.stepsL_cons (fun a u hc hdd hd hk hdep => ?_) ?_
          ·
            have d51 : (a.tmps[51]?).getD undef = (.bool true) := hdep ⟨1, .data⟩ (by simp) rfl
            have d56 : (a.tmps[56]?).getD undef = (.bool false) := hdep ⟨6, .data⟩ (by simp) rfl
            refine G.step_val KC KD hc hdd rfl (.bool false) u (G.wanted_plain rfl) ?_ rfl (Below.refl _ _)
            first | (go_simp; done) | rfl | (simp [go_sem, *]; done)
          refine G.stepsL_cons (fun a u hc hdd hd hk hdep => ?_) ?_
          ·
            have d57 : (a.tmps[57]?).getD undef = (.bool false) := hdep ⟨7, .data⟩ (by simp) rfl
            refine G.step_val KC KD hc hdd rfl (.bool false) u (G.wanted_plain rfl) ?_ rfl (Below.refl _ _)
            first | (go_simp; done) | rfl | (simp [go_sem, *]; done)
          refine G.stepsL_cons (fun a u hc hdd hd hk hdep => ?_) ?_
          ·
            have d8 : (a.tmps[8]?).getD undef = (.bool true) := hk 8 (by kernel_rfl)
            refine G.step_val KC KD hc hdd rfl (.bool true) u ((G.wanted_guard (j := 8) (b := false) (c := false) rfl (hdep ⟨8, .guard⟩ (by simp) rfl)).trans rfl) ?_ rfl (Below.refl _ _)
            first | (go_simp; done) | rfl | (simp [go_sem, *]; done)
          refine G.stepsL_cons (fun a u hc hdd hd hk hdep => ?_) ?_
          ·
            have d59 : (a.tmps[59]?).getD undef = (.bool true) := hdep ⟨9, .data⟩ (by simp) rfl
            refine G.step_val KC KD hc hdd rfl (.bool false) u ((G.wanted_guard (j := 8) (b := false) (c := false) rfl (hdep ⟨8, .guard⟩ (by simp) rfl)).trans rfl) ?_ rfl (Below.refl _ _)
            first | (go_simp; done) | rfl | (simp [go_sem, *]; done)
          refine G.stepsL_cons (fun a u hc hdd hd hk hdep => ?_) ?_
          ·
            have d60 : (a.tmps[60]?).getD undef = (.bool false) := hdep ⟨10, .data⟩ (by simp) rfl
            refine G.step_val KC KD hc hdd rfl (.bool false) u ((G.wanted_guard (j := 8) (b := false) (c := false) rfl (hdep ⟨8, .chain⟩ (by simp) rfl)).trans rfl) ?_ rfl (Below.refl _ _)
            first | (go_simp; done) | rfl | (simp [go_sem, *]; done)
          refine G.stepsL_cons (fun a u hc hdd hd hk hdep => ?_) ?_
          · exact G.step_skip KD hc hdd rfl ((G.wanted_guard (j := 11) (b := true) (c := false) rfl (hdep ⟨11, .guard⟩ (by simp) rfl)).trans rfl) rfl
          refine G.stepsL_cons (fun a u hc hdd hd hk hdep => ?_) ?_
          · exact G.step_skip KD hc hdd rfl ((G.wanted_guard (j := 11) (b := true) (c := false) rfl (hdep ⟨11, .guard⟩ (by simp) rfl)).trans rfl) rfl
          refine G.stepsL_cons (fun a u hc hdd hd hk hdep => ?_) ?_
          · exact G.step_skip KD hc hdd rfl ((G.wanted_guard (j := 11) (b := true) (c := false) rfl (hdep ⟨11, .guard⟩ (by simp) rfl)).trans rfl) rfl
          refine G.stepsL_cons (fun a u hc hdd hd hk hdep => ?_) ?_
          ·
            have d61 : (a.tmps[61]?).getD undef = (.bool false) := hdep ⟨11, .data⟩ (by simp) rfl
            have d64 : (a.tmps[64]?).getD undef = undef := hdep ⟨14, .data⟩ (by simp) rfl
            refine G.step_val KC KD hc hdd rfl (.bool false) u ((G.wanted_guard (j := 8) (b := false) (c := false) rfl (hdep ⟨8, .guard⟩ (by simp) rfl)).trans rfl) ?_ rfl (Below.refl _ _)
            first | (go_simp; done) | rfl | (simp [go_sem, *]; done)
          refine G.stepsL_cons (fun a u hc hdd hd hk hdep => ?_) ?_
          ·
            have d58 : (a.tmps[58]?).getD undef = (.bool false) := hdep ⟨8, .data⟩ (by simp) rfl
            have d65 : (a.tmps[65]?).getD undef = (.bool false) := hdep ⟨15, .data⟩ (by simp) rfl
            refine G.step_val KC KD hc hdd rfl (.bool false) u (G.wanted_plain rfl) ?_ rfl (Below.refl _ _)
            first | (go_simp; done) | rfl | (simp [go_sem, *]; done)
          exact G.stepsL_nil
        intro vs' wN hNN hh
        have eL : vs' 16 = (.bool false) := by
          obtain ⟨-, -, -, -, -, -, -, -, -, -, -, -, -, -, -, -, eX, -⟩ := hh
          exact eX
        clear hh k0 k1 k2 k3 k4 k5 hW
        obtain ⟨k0, k1, k2, k3, k4, k5, hW⟩ := hNN
        set_option maxRecDepth 100000 in simp only [List.take_succ_cons, List.take_zero, putAll, Act.put, List.setIfInBounds_toArray, List.set_cons_zero, List.set_cons_succ, Nat.reduceAdd, eL]
        clear eL
        go_upto_region 14 with (fail)
        have KD := G.keepsD_true []
        refine G.region_words (fun w' => CodeAt w' w.heap.size c ⟨xA, xC, cA, cC, lA, lC⟩ ∧ CodeAt w' gd cd ⟨yA, yC, dA, dC, nA, nC⟩ ∧ Blk w' gv 31 #[.int .i64 yk, .int .u64 (yb : Int)] ∧ CodeIn w' c ⟨xA, xC, cA, cC, lA, lC⟩ ∧ CodeIn w' cd ⟨yA, yC, dA, dC, nA, nC⟩ ∧ RowV w' A1 z1.length z1 ∧ Below w.heap.size w w') [G.isW (.agg #[.int .i64 yk, .int .u64 (yb : Int)]), G.isW (.agg #[.int .i64 yk, .int .u64 (yb : Int)]), G.isW (.agg #[.int .i64 yk, .int .u64 (yb : Int)]), G.isW (.bool true), G.isW (.bool true), G.isW (.bool true), G.isW (.bool true), G.isW undef, G.isW undef, G.isW undef, G.isW (.bool true), G.isW (.bool true), G.isW (.bool true)] (by kernel_rfl) (by repeat' (first | exact G.monoL_nil | exact G.is_mono _ | exact G.any_mono | refine G.monoL_cons ?_ ?_)) (by kernel_rfl) (by kernel_rfl) (fun _ _ h hb => ⟨h.1.later hb, h.2.1.later hb, h.2.2.1.kept hb, h.2.2.2.1.later hb, h.2.2.2.2.1.later hb, h.2.2.2.2.2.1.later hb, below_more h.2.2.2.2.2.2 hb⟩) ⟨k0.later (Below.refl _ _).drew, k1.later (Below.refl _ _).drew, k2.kept (Below.refl _ _).drew, k3.later (Below.refl _ _).drew, k4.later (Below.refl _ _).drew, k5.later (Below.refl _ _).drew, hW.drew⟩ ?_ ?_
        · intro KC
          refine G.stepsL_cons (fun a u hc hdd hd hk hdep => ?_) ?_
          ·
            have d7 : (a.tmps[7]?).getD undef = (.pointer (some ⟨gv, 0, none⟩)) := hk 7 (by kernel_rfl)
            refine G.step_val KC KD hc hdd rfl (.agg #[.int .i64 yk, .int .u64 (yb : Int)]) u (G.wanted_plain rfl) ?_ rfl (Below.refl _ _)
            obtain ⟨s0, s1, s2, s3, s4⟩ := hc.1
            obtain ⟨r0, r1, r2, r3, r4⟩ := hc.2.1
            dsimp only at s2 s3 s4 r2 r3 r4
            rw [hcd.out.1] at r0
            rw [hcd.out.2.1] at r1
            rw [hcd.out.2.2.1] at r2
            rw [hcd.out.2.2.2.1] at r3
            rw [hcd.out.2.2.2.2] at r4
            have v0 : u.cell? ⟨gv, 0, none⟩ = some (.int .i64 yk) := hc.2.2.1.cell 0
            have v1 : u.cell? ⟨gv, 1, none⟩ = some (.int .u64 (yb : Int)) := hc.2.2.1.cell 1
            first | (go_simp; done) | rfl | (simp [go_sem, *]; done)
          refine G.stepsL_cons (fun a u hc hdd hd hk hdep => ?_) ?_
          ·
            have d67 : (a.tmps[67]?).getD undef = (.agg #[.int .i64 yk, .int .u64 (yb : Int)]) := hdep ⟨0, .data⟩ (by simp) rfl
            refine G.step_call KC KD hc hdd rfl 13 #[.agg #[.int .i64 yk, .int .u64 (yb : Int)]] (G.wanted_plain rfl) (by first | (go_simp; done) | rfl) ?_
            exact (RC.out u).mono (by rintro e w' ⟨rfl, hb⟩; exact ⟨_, rfl, rfl, hb⟩)
          refine G.stepsL_cons (fun a u hc hdd hd hk hdep => ?_) ?_
          ·
            have d7 : (a.tmps[7]?).getD undef = (.pointer (some ⟨gv, 0, none⟩)) := hk 7 (by kernel_rfl)
            refine G.step_val KC KD hc hdd rfl (.agg #[.int .i64 yk, .int .u64 (yb : Int)]) u (G.wanted_plain rfl) ?_ rfl (Below.refl _ _)
            obtain ⟨s0, s1, s2, s3, s4⟩ := hc.1
            obtain ⟨r0, r1, r2, r3, r4⟩ := hc.2.1
            dsimp only at s2 s3 s4 r2 r3 r4
            rw [hcd.out.1] at r0
            rw [hcd.out.2.1] at r1
            rw [hcd.out.2.2.1] at r2
            rw [hcd.out.2.2.2.1] at r3
            rw [hcd.out.2.2.2.2] at r4
            have v0 : u.cell? ⟨gv, 0, none⟩ = some (.int .i64 yk) := hc.2.2.1.cell 0
            have v1 : u.cell? ⟨gv, 1, none⟩ = some (.int .u64 (yb : Int)) := hc.2.2.1.cell 1
            first | (go_simp; done) | rfl | (simp [go_sem, *]; done)
          refine G.stepsL_cons (fun a u hc hdd hd hk hdep => ?_) ?_
          ·
            have d68 : (a.tmps[68]?).getD undef = (.agg #[.int .i64 yk, .int .u64 (yb : Int)]) := hdep ⟨1, .data⟩ (by simp) rfl
            have d69 : (a.tmps[69]?).getD undef = (.agg #[.int .i64 yk, .int .u64 (yb : Int)]) := hdep ⟨2, .data⟩ (by simp) rfl
            refine G.step_val KC KD hc hdd rfl (.bool true) u (G.wanted_plain rfl) ?_ rfl (Below.refl _ _)
            have he := eqR yk yk yb yb u
            first | (go_simp; done) | rfl | (simp [go_sem, *]; done)
          refine G.stepsL_cons (fun a u hc hdd hd hk hdep => ?_) ?_
          ·
            have d70 : (a.tmps[70]?).getD undef = (.bool true) := hdep ⟨3, .data⟩ (by simp) rfl
            refine G.step_val KC KD hc hdd rfl (.bool true) u (G.wanted_plain rfl) ?_ rfl (Below.refl _ _)
            first | (go_simp; done) | rfl | (simp [go_sem, *]; done)
          refine G.stepsL_cons (fun a u hc hdd hd hk hdep => ?_) ?_
          ·
            have d8 : (a.tmps[8]?).getD undef = (.bool true) := hk 8 (by kernel_rfl)
            refine G.step_val KC KD hc hdd rfl (.bool true) u ((G.wanted_guard (j := 4) (b := true) (c := true) rfl (hdep ⟨4, .guard⟩ (by simp) rfl)).trans rfl) ?_ rfl (Below.refl _ _)
            first | (go_simp; done) | rfl | (simp [go_sem, *]; done)
          refine G.stepsL_cons (fun a u hc hdd hd hk hdep => ?_) ?_
          ·
            have d72 : (a.tmps[72]?).getD undef = (.bool true) := hdep ⟨5, .data⟩ (by simp) rfl
            refine G.step_val KC KD hc hdd rfl (.bool true) u ((G.wanted_guard (j := 4) (b := true) (c := true) rfl (hdep ⟨4, .chain⟩ (by simp) rfl)).trans rfl) ?_ rfl (Below.refl _ _)
            first | (go_simp; done) | rfl | (simp [go_sem, *]; done)
          refine G.stepsL_cons (fun a u hc hdd hd hk hdep => ?_) ?_
          · exact G.step_skip KD hc hdd rfl ((G.wanted_guard (j := 6) (b := false) (c := true) rfl (hdep ⟨6, .guard⟩ (by simp) rfl)).trans rfl) rfl
          refine G.stepsL_cons (fun a u hc hdd hd hk hdep => ?_) ?_
          · exact G.step_skip KD hc hdd rfl ((G.wanted_guard (j := 6) (b := false) (c := true) rfl (hdep ⟨6, .chain⟩ (by simp) rfl)).trans rfl) rfl
          refine G.stepsL_cons (fun a u hc hdd hd hk hdep => ?_) ?_
          · exact G.step_skip KD hc hdd rfl ((G.wanted_guard (j := 6) (b := false) (c := true) rfl (hdep ⟨6, .guard⟩ (by simp) rfl)).trans rfl) rfl
          refine G.stepsL_cons (fun a u hc hdd hd hk hdep => ?_) ?_
          ·
            have d73 : (a.tmps[73]?).getD undef = (.bool true) := hdep ⟨6, .data⟩ (by simp) rfl
            have d76 : (a.tmps[76]?).getD undef = undef := hdep ⟨9, .data⟩ (by simp) rfl
            refine G.step_val KC KD hc hdd rfl (.bool true) u ((G.wanted_guard (j := 4) (b := true) (c := true) rfl (hdep ⟨4, .guard⟩ (by simp) rfl)).trans rfl) ?_ rfl (Below.refl _ _)
            first | (go_simp; done) | rfl | (simp [go_sem, *]; done)
          refine G.stepsL_cons (fun a u hc hdd hd hk hdep => ?_) ?_
          ·
            have d71 : (a.tmps[71]?).getD undef = (.bool true) := hdep ⟨4, .data⟩ (by simp) rfl
            have d77 : (a.tmps[77]?).getD undef = (.bool true) := hdep ⟨10, .data⟩ (by simp) rfl
            refine G.step_val KC KD hc hdd rfl (.bool true) u (G.wanted_plain rfl) ?_ rfl (Below.refl _ _)
            first | (go_simp; done) | rfl | (simp [go_sem, *]; done)
          refine G.stepsL_cons (fun a u hc hdd hd hk hdep => ?_) ?_
          ·
            have d78 : (a.tmps[78]?).getD undef = (.bool true) := hdep ⟨11, .data⟩ (by simp) rfl
            refine G.step_val KC KD hc hdd rfl (.bool true) u (G.wanted_plain rfl) ?_ rfl (Below.refl _ _)
            first | (go_simp; done) | rfl | (simp [go_sem, *]; done)
          exact G.stepsL_nil
        intro vs' wN hNN hh
        have eL : vs' 12 = (.bool true) := by
          obtain ⟨-, -, -, -, -, -, -, -, -, -, -, -, eX, -⟩ := hh
          exact eX
        clear hh k0 k1 k2 k3 k4 k5 hW
        obtain ⟨-, -, -, -, -, -, hB⟩ := hNN
        set_option maxRecDepth 100000 in simp only [List.take_succ_cons, List.take_zero, putAll, Act.put, List.setIfInBounds_toArray, List.set_cons_zero, List.set_cons_succ, Nat.reduceAdd, eL]
        clear eL
        go_wp2
        go_ret
        exact ⟨rfl, hB⟩
      | false =>
        replace GD := Lib.hid (GD rfl)
        have h00 := hnon.out rfl
        have ey := Lib.hid (show yk = 0 ∧ yb = 0 by injection h00 with e1 e2; exact ⟨e1, e2⟩)
        clear RD hnon h00
        have KD := G.keepsD_true []
        refine G.region_words (fun w' => CodeAt w' w.heap.size c ⟨xA, xC, cA, cC, lA, lC⟩ ∧ CodeAt w' gd cd ⟨yA, yC, dA, dC, nA, nC⟩ ∧ Blk w' gv 31 #[.int .i64 yk, .int .u64 (yb : Int)] ∧ CodeIn w' c ⟨xA, xC, cA, cC, lA, lC⟩ ∧ CodeIn w' cd ⟨yA, yC, dA, dC, nA, nC⟩ ∧ RowV w' A1 z1.length z1 ∧ Below w.heap.size w w') [G.isW (.bool false), G.isW (.bool false), G.isW undef, G.isW undef, G.isW undef, G.isW undef, G.isW undef, G.isW (.bool false), G.isW (.bool false), G.isW (.bool false), G.isW (.bool true), G.isW (.bool true), G.isW (.agg #[.int .i64 yk, .int .u64 (yb : Int)]), G.isW (.agg #[.int .i64 0, .int .u64 0]), G.isW (.bool false), G.isW (.bool false), G.isW (.bool false)] (by kernel_rfl) (by repeat' (first | exact G.monoL_nil | exact G.is_mono _ | exact G.any_mono | refine G.monoL_cons ?_ ?_)) (by kernel_rfl) (by kernel_rfl) (fun _ _ h hb => ⟨h.1.later hb, h.2.1.later hb, h.2.2.1.kept hb, h.2.2.2.1.later hb, h.2.2.2.2.1.later hb, h.2.2.2.2.2.1.later hb, below_more h.2.2.2.2.2.2 hb⟩) ⟨k0.later (Below.refl _ _).drew, k1.later (Below.refl _ _).drew, k2.kept (Below.refl _ _).drew, k3.later (Below.refl _ _).drew, k4.later (Below.refl _ _).drew, k5.later (Below.refl _ _).drew, hW.drew⟩ ?_ ?_
        · intro KC
          refine G.stepsL_cons (fun a u hc hdd hd hk hdep => ?_) ?_
          ·
            have d8 : (a.tmps[8]?).getD undef = (.bool false) := hk 8 (by kernel_rfl)
            refine G.step_val KC KD hc hdd rfl (.bool false) u (G.wanted_plain rfl) ?_ rfl (Below.refl _ _)
            first | (go_simp; done) | rfl | (simp [go_sem, *]; done)
          refine G.stepsL_cons (fun a u hc hdd hd hk hdep => ?_) ?_
          ·
            have d50 : (a.tmps[50]?).getD undef = (.bool false) := hdep ⟨0, .data⟩ (by simp) rfl
            refine G.step_val KC KD hc hdd rfl (.bool false) u (G.wanted_plain rfl) ?_ rfl (Below.refl _ _)
            first | (go_simp; done) | rfl | (simp [go_sem, *]; done)
          refine G.stepsL_cons (fun a u hc hdd hd hk hdep => ?_) ?_
          · exact G.step_skip KD hc hdd rfl ((G.wanted_guard (j := 1) (b := true) (c := false) rfl (hdep ⟨1, .guard⟩ (by simp) rfl)).trans rfl) rfl
          refine G.stepsL_cons (fun a u hc hdd hd hk hdep => ?_) ?_
          · exact G.step_skip KD hc hdd rfl ((G.wanted_guard (j := 1) (b := true) (c := false) rfl (hdep ⟨1, .guard⟩ (by simp) rfl)).trans rfl) rfl
          refine G.stepsL_cons (fun a u hc hdd hd hk hdep => ?_) ?_
          · exact G.step_skip KD hc hdd rfl ((G.wanted_guard (j := 1) (b := true) (c := false) rfl (hdep ⟨1, .chain⟩ (by simp) rfl)).trans rfl) rfl
          refine G.stepsL_cons (fun a u hc hdd hd hk hdep => ?_) ?_
          · exact G.step_skip KD hc hdd rfl ((G.wanted_guard (j := 1) (b := true) (c := false) rfl (hdep ⟨1, .guard⟩ (by simp) rfl)).trans rfl) rfl
          refine G.stepsL_cons (fun a u hc hdd hd hk hdep => ?_) ?_
          · exact G.step_skip KD hc hdd rfl ((G.wanted_guard (j := 1) (b := true) (c := false) rfl (hdep ⟨1, .guard⟩ (by simp) rfl)).trans rfl) rfl
          refine G.stepsL_cons (fun a u hc hdd hd hk hdep => ?_) ?_
          ·
            have d51 : (a.tmps[51]?).getD undef = (.bool false) := hdep ⟨1, .data⟩ (by simp) rfl
            have d56 : (a.tmps[56]?).getD undef = undef := hdep ⟨6, .data⟩ (by simp) rfl
            refine G.step_val KC KD hc hdd rfl (.bool false) u (G.wanted_plain rfl) ?_ rfl (Below.refl _ _)
            first | (go_simp; done) | rfl | (simp [go_sem, *]; done)
          refine G.stepsL_cons (fun a u hc hdd hd hk hdep => ?_) ?_
          ·
            have d57 : (a.tmps[57]?).getD undef = (.bool false) := hdep ⟨7, .data⟩ (by simp) rfl
            refine G.step_val KC KD hc hdd rfl (.bool false) u (G.wanted_plain rfl) ?_ rfl (Below.refl _ _)
            first | (go_simp; done) | rfl | (simp [go_sem, *]; done)
          refine G.stepsL_cons (fun a u hc hdd hd hk hdep => ?_) ?_
          ·
            have d8 : (a.tmps[8]?).getD undef = (.bool false) := hk 8 (by kernel_rfl)
            refine G.step_val KC KD hc hdd rfl (.bool false) u ((G.wanted_guard (j := 8) (b := false) (c := false) rfl (hdep ⟨8, .guard⟩ (by simp) rfl)).trans rfl) ?_ rfl (Below.refl _ _)
            first | (go_simp; done) | rfl | (simp [go_sem, *]; done)
          refine G.stepsL_cons (fun a u hc hdd hd hk hdep => ?_) ?_
          ·
            have d59 : (a.tmps[59]?).getD undef = (.bool false) := hdep ⟨9, .data⟩ (by simp) rfl
            refine G.step_val KC KD hc hdd rfl (.bool true) u ((G.wanted_guard (j := 8) (b := false) (c := false) rfl (hdep ⟨8, .guard⟩ (by simp) rfl)).trans rfl) ?_ rfl (Below.refl _ _)
            first | (go_simp; done) | rfl | (simp [go_sem, *]; done)
          refine G.stepsL_cons (fun a u hc hdd hd hk hdep => ?_) ?_
          ·
            have d60 : (a.tmps[60]?).getD undef = (.bool true) := hdep ⟨10, .data⟩ (by simp) rfl
            refine G.step_val KC KD hc hdd rfl (.bool true) u ((G.wanted_guard (j := 8) (b := false) (c := false) rfl (hdep ⟨8, .chain⟩ (by simp) rfl)).trans rfl) ?_ rfl (Below.refl _ _)
            first | (go_simp; done) | rfl | (simp [go_sem, *]; done)
          refine G.stepsL_cons (fun a u hc hdd hd hk hdep => ?_) ?_
          ·
            have d7 : (a.tmps[7]?).getD undef = (.pointer (some ⟨gv, 0, none⟩)) := hk 7 (by kernel_rfl)
            refine G.step_val KC KD hc hdd rfl (.agg #[.int .i64 yk, .int .u64 (yb : Int)]) u ((G.wanted_guard (j := 11) (b := true) (c := true) rfl (hdep ⟨11, .guard⟩ (by simp) rfl)).trans rfl) ?_ rfl (Below.refl _ _)
            obtain ⟨s0, s1, s2, s3, s4⟩ := hc.1
            obtain ⟨r0, r1, r2, r3, r4⟩ := hc.2.1
            dsimp only at s2 s3 s4 r2 r3 r4
            rw [hcd.out.1] at r0
            rw [hcd.out.2.1] at r1
            rw [hcd.out.2.2.1] at r2
            rw [hcd.out.2.2.2.1] at r3
            rw [hcd.out.2.2.2.2] at r4
            have v0 : u.cell? ⟨gv, 0, none⟩ = some (.int .i64 yk) := hc.2.2.1.cell 0
            have v1 : u.cell? ⟨gv, 1, none⟩ = some (.int .u64 (yb : Int)) := hc.2.2.1.cell 1
            first | (go_simp; done) | rfl | (simp [go_sem, *]; done)
          refine G.stepsL_cons (fun a u hc hdd hd hk hdep => ?_) ?_
          ·
            refine G.step_val KC KD hc hdd rfl (.agg #[.int .i64 0, .int .u64 0]) u ((G.wanted_guard (j := 11) (b := true) (c := true) rfl (hdep ⟨11, .guard⟩ (by simp) rfl)).trans rfl) ?_ rfl (Below.refl _ _)
            first | (go_simp; done) | rfl | (simp [go_sem, *]; done)
          refine G.stepsL_cons (fun a u hc hdd hd hk hdep => ?_) ?_
          ·
            have d62 : (a.tmps[62]?).getD undef = (.agg #[.int .i64 yk, .int .u64 (yb : Int)]) := hdep ⟨12, .data⟩ (by simp) rfl
            have d63 : (a.tmps[63]?).getD undef = (.agg #[.int .i64 0, .int .u64 0]) := hdep ⟨13, .data⟩ (by simp) rfl
            refine G.step_val KC KD hc hdd rfl (.bool false) u ((G.wanted_guard (j := 11) (b := true) (c := true) rfl (hdep ⟨11, .guard⟩ (by simp) rfl)).trans rfl) ?_ rfl (Below.refl _ _)
            rw [ey.out.1, ey.out.2] at d62
            have he : (binOp .neq 31 (.agg #[.int .i64 0, .int .u64 0]) (.agg #[.int .i64 0, .int .u64 0])).run Try.prog u = .ok (.bool false) u := neq2_V 0 0 u
            first | (go_simp; done) | rfl | (simp [go_sem, *]; done)
          refine G.stepsL_cons (fun a u hc hdd hd hk hdep => ?_) ?_
          ·
            have d61 : (a.tmps[61]?).getD undef = (.bool true) := hdep ⟨11, .data⟩ (by simp) rfl
            have d64 : (a.tmps[64]?).getD undef = (.bool false) := hdep ⟨14, .data⟩ (by simp) rfl
            refine G.step_val KC KD hc hdd rfl (.bool false) u ((G.wanted_guard (j := 8) (b := false) (c := false) rfl (hdep ⟨8, .guard⟩ (by simp) rfl)).trans rfl) ?_ rfl (Below.refl _ _)
            first | (go_simp; done) | rfl | (simp [go_sem, *]; done)
          refine G.stepsL_cons (fun a u hc hdd hd hk hdep => ?_) ?_
          ·
            have d58 : (a.tmps[58]?).getD undef = (.bool false) := hdep ⟨8, .data⟩ (by simp) rfl
            have d65 : (a.tmps[65]?).getD undef = (.bool false) := hdep ⟨15, .data⟩ (by simp) rfl
            refine G.step_val KC KD hc hdd rfl (.bool false) u (G.wanted_plain rfl) ?_ rfl (Below.refl _ _)
            first | (go_simp; done) | rfl | (simp [go_sem, *]; done)
          exact G.stepsL_nil
        intro vs' wN hNN hh
        have eL : vs' 16 = (.bool false) := by
          obtain ⟨-, -, -, -, -, -, -, -, -, -, -, -, -, -, -, -, eX, -⟩ := hh
          exact eX
        clear hh k0 k1 k2 k3 k4 k5 hW
        obtain ⟨k0, k1, k2, k3, k4, k5, hW⟩ := hNN
        set_option maxRecDepth 100000 in simp only [List.take_succ_cons, List.take_zero, putAll, Act.put, List.setIfInBounds_toArray, List.set_cons_zero, List.set_cons_succ, Nat.reduceAdd, eL]
        clear eL
        go_upto_region 14 with (fail)
        have KD := G.keepsD_true []
        refine G.region_words (fun w' => CodeAt w' w.heap.size c ⟨xA, xC, cA, cC, lA, lC⟩ ∧ CodeAt w' gd cd ⟨yA, yC, dA, dC, nA, nC⟩ ∧ Blk w' gv 31 #[.int .i64 yk, .int .u64 (yb : Int)] ∧ CodeIn w' c ⟨xA, xC, cA, cC, lA, lC⟩ ∧ CodeIn w' cd ⟨yA, yC, dA, dC, nA, nC⟩ ∧ RowV w' A1 z1.length z1 ∧ Below w.heap.size w w') [G.isW (.agg #[.int .i64 yk, .int .u64 (yb : Int)]), G.isW (.agg #[.int .i64 yk, .int .u64 (yb : Int)]), G.isW (.agg #[.int .i64 yk, .int .u64 (yb : Int)]), G.isW (.bool true), G.isW (.bool true), G.isW (.bool false), G.isW (.bool false), G.isW (.agg #[.int .i64 c.regs, .int .i64 c.slots, .slice xA c.ins.length xC, .slice cA c.cs.length cC, .slice lA c.list.length lC]), G.isW (.bool false), G.isW (.bool true), G.isW (.bool true), G.isW (.bool true), G.isW (.bool true)] (by kernel_rfl) (by repeat' (first | exact G.monoL_nil | exact G.is_mono _ | exact G.any_mono | refine G.monoL_cons ?_ ?_)) (by kernel_rfl) (by kernel_rfl) (fun _ _ h hb => ⟨h.1.later hb, h.2.1.later hb, h.2.2.1.kept hb, h.2.2.2.1.later hb, h.2.2.2.2.1.later hb, h.2.2.2.2.2.1.later hb, below_more h.2.2.2.2.2.2 hb⟩) ⟨k0.later (Below.refl _ _).drew, k1.later (Below.refl _ _).drew, k2.kept (Below.refl _ _).drew, k3.later (Below.refl _ _).drew, k4.later (Below.refl _ _).drew, k5.later (Below.refl _ _).drew, hW.drew⟩ ?_ ?_
        · intro KC
          refine G.stepsL_cons (fun a u hc hdd hd hk hdep => ?_) ?_
          ·
            have d7 : (a.tmps[7]?).getD undef = (.pointer (some ⟨gv, 0, none⟩)) := hk 7 (by kernel_rfl)
            refine G.step_val KC KD hc hdd rfl (.agg #[.int .i64 yk, .int .u64 (yb : Int)]) u (G.wanted_plain rfl) ?_ rfl (Below.refl _ _)
            obtain ⟨s0, s1, s2, s3, s4⟩ := hc.1
            obtain ⟨r0, r1, r2, r3, r4⟩ := hc.2.1
            dsimp only at s2 s3 s4 r2 r3 r4
            rw [hcd.out.1] at r0
            rw [hcd.out.2.1] at r1
            rw [hcd.out.2.2.1] at r2
            rw [hcd.out.2.2.2.1] at r3
            rw [hcd.out.2.2.2.2] at r4
            have v0 : u.cell? ⟨gv, 0, none⟩ = some (.int .i64 yk) := hc.2.2.1.cell 0
            have v1 : u.cell? ⟨gv, 1, none⟩ = some (.int .u64 (yb : Int)) := hc.2.2.1.cell 1
            first | (go_simp; done) | rfl | (simp [go_sem, *]; done)
          refine G.stepsL_cons (fun a u hc hdd hd hk hdep => ?_) ?_
          ·
            have d67 : (a.tmps[67]?).getD undef = (.agg #[.int .i64 yk, .int .u64 (yb : Int)]) := hdep ⟨0, .data⟩ (by simp) rfl
            refine G.step_call KC KD hc hdd rfl 13 #[.agg #[.int .i64 yk, .int .u64 (yb : Int)]] (G.wanted_plain rfl) (by first | (go_simp; done) | rfl) ?_
            exact (RC.out u).mono (by rintro e w' ⟨rfl, hb⟩; exact ⟨_, rfl, rfl, hb⟩)
          refine G.stepsL_cons (fun a u hc hdd hd hk hdep => ?_) ?_
          ·
            have d7 : (a.tmps[7]?).getD undef = (.pointer (some ⟨gv, 0, none⟩)) := hk 7 (by kernel_rfl)
            refine G.step_val KC KD hc hdd rfl (.agg #[.int .i64 yk, .int .u64 (yb : Int)]) u (G.wanted_plain rfl) ?_ rfl (Below.refl _ _)
            obtain ⟨s0, s1, s2, s3, s4⟩ := hc.1
            obtain ⟨r0, r1, r2, r3, r4⟩ := hc.2.1
            dsimp only at s2 s3 s4 r2 r3 r4
            rw [hcd.out.1] at r0
            rw [hcd.out.2.1] at r1
            rw [hcd.out.2.2.1] at r2
            rw [hcd.out.2.2.2.1] at r3
            rw [hcd.out.2.2.2.2] at r4
            have v0 : u.cell? ⟨gv, 0, none⟩ = some (.int .i64 yk) := hc.2.2.1.cell 0
            have v1 : u.cell? ⟨gv, 1, none⟩ = some (.int .u64 (yb : Int)) := hc.2.2.1.cell 1
            first | (go_simp; done) | rfl | (simp [go_sem, *]; done)
          refine G.stepsL_cons (fun a u hc hdd hd hk hdep => ?_) ?_
          ·
            have d68 : (a.tmps[68]?).getD undef = (.agg #[.int .i64 yk, .int .u64 (yb : Int)]) := hdep ⟨1, .data⟩ (by simp) rfl
            have d69 : (a.tmps[69]?).getD undef = (.agg #[.int .i64 yk, .int .u64 (yb : Int)]) := hdep ⟨2, .data⟩ (by simp) rfl
            refine G.step_val KC KD hc hdd rfl (.bool true) u (G.wanted_plain rfl) ?_ rfl (Below.refl _ _)
            have he := eqR yk yk yb yb u
            first | (go_simp; done) | rfl | (simp [go_sem, *]; done)
          refine G.stepsL_cons (fun a u hc hdd hd hk hdep => ?_) ?_
          ·
            have d70 : (a.tmps[70]?).getD undef = (.bool true) := hdep ⟨3, .data⟩ (by simp) rfl
            refine G.step_val KC KD hc hdd rfl (.bool true) u (G.wanted_plain rfl) ?_ rfl (Below.refl _ _)
            first | (go_simp; done) | rfl | (simp [go_sem, *]; done)
          refine G.stepsL_cons (fun a u hc hdd hd hk hdep => ?_) ?_
          ·
            have d8 : (a.tmps[8]?).getD undef = (.bool false) := hk 8 (by kernel_rfl)
            refine G.step_val KC KD hc hdd rfl (.bool false) u ((G.wanted_guard (j := 4) (b := true) (c := true) rfl (hdep ⟨4, .guard⟩ (by simp) rfl)).trans rfl) ?_ rfl (Below.refl _ _)
            first | (go_simp; done) | rfl | (simp [go_sem, *]; done)
          refine G.stepsL_cons (fun a u hc hdd hd hk hdep => ?_) ?_
          ·
            have d72 : (a.tmps[72]?).getD undef = (.bool false) := hdep ⟨5, .data⟩ (by simp) rfl
            refine G.step_val KC KD hc hdd rfl (.bool false) u ((G.wanted_guard (j := 4) (b := true) (c := true) rfl (hdep ⟨4, .chain⟩ (by simp) rfl)).trans rfl) ?_ rfl (Below.refl _ _)
            first | (go_simp; done) | rfl | (simp [go_sem, *]; done)
          refine G.stepsL_cons (fun a u hc hdd hd hk hdep => ?_) ?_
          ·
            have d3 : (a.tmps[3]?).getD undef = (.pointer (some ⟨w.heap.size, 0, none⟩)) := hk 3 (by kernel_rfl)
            refine G.step_val KC KD hc hdd rfl (.agg #[.int .i64 c.regs, .int .i64 c.slots, .slice xA c.ins.length xC, .slice cA c.cs.length cC, .slice lA c.list.length lC]) u ((G.wanted_guard (j := 6) (b := false) (c := false) rfl (hdep ⟨6, .guard⟩ (by simp) rfl)).trans rfl) ?_ rfl (Below.refl _ _)
            obtain ⟨s0, s1, s2, s3, s4⟩ := hc.1
            obtain ⟨r0, r1, r2, r3, r4⟩ := hc.2.1
            dsimp only at s2 s3 s4 r2 r3 r4
            rw [hcd.out.1] at r0
            rw [hcd.out.2.1] at r1
            rw [hcd.out.2.2.1] at r2
            rw [hcd.out.2.2.2.1] at r3
            rw [hcd.out.2.2.2.2] at r4
            have v0 : u.cell? ⟨gv, 0, none⟩ = some (.int .i64 yk) := hc.2.2.1.cell 0
            have v1 : u.cell? ⟨gv, 1, none⟩ = some (.int .u64 (yb : Int)) := hc.2.2.1.cell 1
            first | (go_simp; done) | rfl | (simp [go_sem, *]; done)
          refine G.stepsL_cons (fun a u hc hdd hd hk hdep => ?_) ?_
          ·
            have d74 : (a.tmps[74]?).getD undef = (.agg #[.int .i64 c.regs, .int .i64 c.slots, .slice xA c.ins.length xC, .slice cA c.cs.length cC, .slice lA c.list.length lC]) := hdep ⟨7, .data⟩ (by simp) rfl
            refine G.step_call KC KD hc hdd rfl 11 #[.agg #[.int .i64 c.regs, .int .i64 c.slots, .slice xA c.ins.length xC, .slice cA c.cs.length cC, .slice lA c.list.length lC]] ((G.wanted_guard (j := 6) (b := false) (c := false) rfl (hdep ⟨6, .chain⟩ (by simp) rfl)).trans rfl) (by first | (go_simp; done) | rfl) ?_
            exact (GD.out u hc.2.2.2.1).mono (by rintro e w' ⟨rfl, hb⟩; exact ⟨_, rfl, rfl, hb⟩)
          refine G.stepsL_cons (fun a u hc hdd hd hk hdep => ?_) ?_
          ·
            have d75 : (a.tmps[75]?).getD undef = (.bool false) := hdep ⟨8, .data⟩ (by simp) rfl
            refine G.step_val KC KD hc hdd rfl (.bool true) u ((G.wanted_guard (j := 6) (b := false) (c := false) rfl (hdep ⟨6, .guard⟩ (by simp) rfl)).trans rfl) ?_ rfl (Below.refl _ _)
            first | (go_simp; done) | rfl | (simp [go_sem, *]; done)
          refine G.stepsL_cons (fun a u hc hdd hd hk hdep => ?_) ?_
          ·
            have d73 : (a.tmps[73]?).getD undef = (.bool false) := hdep ⟨6, .data⟩ (by simp) rfl
            have d76 : (a.tmps[76]?).getD undef = (.bool true) := hdep ⟨9, .data⟩ (by simp) rfl
            refine G.step_val KC KD hc hdd rfl (.bool true) u ((G.wanted_guard (j := 4) (b := true) (c := true) rfl (hdep ⟨4, .guard⟩ (by simp) rfl)).trans rfl) ?_ rfl (Below.refl _ _)
            first | (go_simp; done) | rfl | (simp [go_sem, *]; done)
          refine G.stepsL_cons (fun a u hc hdd hd hk hdep => ?_) ?_
          ·
            have d71 : (a.tmps[71]?).getD undef = (.bool true) := hdep ⟨4, .data⟩ (by simp) rfl
            have d77 : (a.tmps[77]?).getD undef = (.bool true) := hdep ⟨10, .data⟩ (by simp) rfl
            refine G.step_val KC KD hc hdd rfl (.bool true) u (G.wanted_plain rfl) ?_ rfl (Below.refl _ _)
            first | (go_simp; done) | rfl | (simp [go_sem, *]; done)
          refine G.stepsL_cons (fun a u hc hdd hd hk hdep => ?_) ?_
          ·
            have d78 : (a.tmps[78]?).getD undef = (.bool true) := hdep ⟨11, .data⟩ (by simp) rfl
            refine G.step_val KC KD hc hdd rfl (.bool true) u (G.wanted_plain rfl) ?_ rfl (Below.refl _ _)
            first | (go_simp; done) | rfl | (simp [go_sem, *]; done)
          exact G.stepsL_nil
        intro vs' wN hNN hh
        have eL : vs' 12 = (.bool true) := by
          obtain ⟨-, -, -, -, -, -, -, -, -, -, -, -, eX, -⟩ := hh
          exact eX
        clear hh k0 k1 k2 k3 k4 k5 hW
        obtain ⟨-, -, -, -, -, -, hB⟩ := hNN
        set_option maxRecDepth 100000 in simp only [List.take_succ_cons, List.take_zero, putAll, Act.put, List.setIfInBounds_toArray, List.set_cons_zero, List.set_cons_succ, Nat.reduceAdd, eL]
        clear eL
        go_wp2
        go_ret
        exact ⟨rfl, hB⟩

set_option maxRecDepth 100000 in
theorem lifted (os : Os) (started : os.Started) (H : Type) (enc : TypeId × Value → H) :
    ReturnsInHanded {} Try.checked os 5 .any (Rows.vmEndsSpec.pre6 enc Try.prog Try.f5 Rows.vmEndsRow.domain false) (Rows.vmEndsSpec.post enc Try.prog Try.f5 false true false false) := by
  refine returnsInHanded_of_change_sized (C := Try.checked) own started (by kernel_rfl) Try.func5
    (ChangeSpec.witness6 (enc := enc) (C := Try.checked) false ⟨#[], #[.agg #[.int .i64 0, .int .i64 0, .slice none 0 0, .slice none 0 0, .slice none 0 0], .slice none 0 0, .slice none 0 0], []⟩ 8 (by kernel_rfl) (by kernel_rfl) (by kernel_rfl) (by kernel_rfl)) ?_
  intro W base args ds gs before hval0 hW hcnd hsz0 _
  have hsz : (DataW.weightsEach Try.prog (Try.f5.params.toList ++ Rows.vmEndsSpec.plain.varTypes Try.prog) (ds ++ gs)).all (· ≤ reachBytes) = true := hsz0
  clear hsz0
  have hval : ∀ (j : Nat) t v, Try.f5.params[j]? = some t → args[j]? = some v → Value.okWide Try.prog W .any base t v := hval0
  have hW' := hW
  obtain ⟨p, q, hA0, hV, rfl, hfz, hnd⟩ := hW
  have hA : DataW.TrodAll enc Try.prog W 0 (fun _ => true) true Try.f5.params.toList args.toList ds p := hA0
  rw [Try.params5] at hA hval hsz
  obtain ⟨v0, vs0, d0, ds0, p0, q0, hargs, rfl, rfl, h0, r0⟩ := trodAll_cons hA
  obtain ⟨v1, vs1, d1, ds1, p1, q1, rfl, rfl, rfl, h1, r1⟩ := trodAll_cons r0
  obtain ⟨v2, vs2, d2, ds2, p2, q2, rfl, rfl, rfl, h2, r2⟩ := trodAll_cons r1
  obtain ⟨rfl, rfl, rfl⟩ := trodAll_nil r2
  obtain rfl : args = #[v0, v1, v2] := by cases args; simp_all
  obtain ⟨rfl, rfl⟩ := trodVars_none hV
  have kk0 := h0
  have lt0 : ∀ x ∈ p0, x.block < W.heap.size := by obtain ⟨m, hm⟩ := kk0; exact DataW.trod_lt m _ _ _ hm
  have kk1 := h1
  have lt1 : ∀ x ∈ p1, x.block < W.heap.size := by obtain ⟨m, hm⟩ := kk1; exact DataW.trod_lt m _ _ _ hm
  have kk2 := h2
  have lt2 : ∀ x ∈ p2, x.block < W.heap.size := by obtain ⟨m, hm⟩ := kk2; exact DataW.trod_lt m _ _ _ hm
  obtain ⟨z0, x0, rfl, w0, pp0, qq0, rr0⟩ := open_code (hval 0 26 v0 rfl rfl) h0 (wb_each hsz (j := 0) (t := 26) rfl rfl)
  obtain ⟨A1, c1, z1, rfl, w1, ss1⟩ := open_valuesT (hval 1 23 v1 rfl rfl) h1 (wb_each hsz (j := 1) (t := 23) rfl rfl)
  obtain ⟨A2, c2, z2, rfl, w2, ss2⟩ := open_inssT (hval 2 24 v2 rfl rfl) h2 (wb_each hsz (j := 2) (t := 24) rfl rfl)
  clear hA0 hval0
  refine (walk W z0 x0 w0 pp0 qq0 rr0 A1 c1 z1 w1 ss1 A2 c2 z2 w2 ss2).mono fun e W' ⟨he, bel⟩ => ?_
  subst he
  exact ⟨_, rfl, _, _, _, [], _, [], hW', trodAll_mk1 (shut_bool Try.underlying4 _), (trodAll_cons_mk (Below.trod laidOut (by kernel_rfl) (of_decide_eq_true (by kernel_rfl)) kk0 bel lt0) (trodAll_cons_mk (Below.trod laidOut (by kernel_rfl) (of_decide_eq_true (by kernel_rfl)) kk1 bel lt1) (trodAll_cons_mk (Below.trod laidOut (by kernel_rfl) (of_decide_eq_true (by kernel_rfl)) kk2 bel lt2) trodAll_mk0))), rfl, bel.frame _, fun h => by cases h⟩

theorem over : Rows.vmEndsRow.holds Try.pinned (OpenSpec.ofChange Rows.vmEndsSpec) :=
  OpenClaim.holds_of_wide 5 Try.f5 rfl rfl rfl rfl rfl rfl rfl ⟨rfl, rfl, rfl, rfl, rfl⟩ rfl rfl rfl rfl rfl (by kernel_rfl) Try.func5 (by kernel_rfl)
    (of_decide_eq_true (by kernel_rfl)) (by unfold Func.isWrapper; first | (rw [if_pos (by decide +kernel)]; kernel_rfl) | (rw [if_neg (by decide +kernel)]; exact ⟨rfl, rfl⟩))
    (fun os started H enc _ => lifted os started H enc)

/-- the statement -/
theorem proved : Rows.VmEndsSaid :=
  over
#print axioms proved
end Go.Proofs.Ytagjfeblkpkgaaa.vmEnds
