/- VmRuns: what any code tells of any inputs is what the document says; nothing that is handed in is changed. -/
import Derived.Test.YtagjfeblkpkgaaaRows
import Derived.WalkKit
import Derived.ProofKit
import Derived.OpenShut
import Derived.ShutString
import Derived.ChangeOld
import Derived.Below
import Derived.Lib.SmallJoins
import Derived.SizedLaws
import Derived.Test.YtagjfeblkpkgaaaVmI
import Derived.Test.YtagjfeblkpkgaaaVmJ
import Derived.Test.YtagjfeblkpkgaaaVmX
namespace Go.Proofs.Ytagjfeblkpkgaaa.vmRuns
open Go.ChangeShapes Go.WideShapes Go.ChangeAt Go.RowKit Go.Joins
set_option linter.unusedVariables false
set_option linter.unusedSimpArgs false

theorem own : ownKnob Try.prog.godebug = none := by kernel_rfl
theorem laidOut : laidOutB Try.prog = true := by kernel_rfl

theorem bdrewL {B : Nat} {a w : World} (h : Below B a w) (n : Nat) : Below B a (w.drewN n) := ⟨h.os, h.tape, h.output, h.size, h.block⟩
theorem below_grown {w w1 : World} {row : Option Nat} (h : w.grownBy w1 row) (hr : row = none) : Below w.heap.size w w1 := ⟨h.os, h.tape, h.output, h.size, fun k hk => h.block k hk (by rw [hr]; simp)⟩
theorem nbits {A : Option Addr} {w : World} {vs : List VN} (h : RowV w A vs.length vs) : ∀ v ∈ vs, v.2 < 18446744073709551616 := h.2.1

set_option maxHeartbeats 16000000 in
set_option maxRecDepth 100000 in
theorem walk (w : World) (z0 : CodeP) (x0 : CV) (w0 : CodeIn w z0 x0) (p0 : z0.ins.length * 32 ≤ 140737488351232) (q0 : z0.cs.length * 16 ≤ 140737488351232) (r0 : z0.list.length * 32 ≤ 140737488351232) (A1 : Option Addr) (c1 : Nat) (z1 : List (Int × Nat)) (w1 : RowV w A1 z1.length z1) (s1 : z1.length * 16 ≤ 140737488351232) :
    Calls Try.prog 3 #[codeV z0 x0, .slice A1 z1.length c1] w fun e w' => e = .returned (.bool true) ∧ Below w.heap.size w w' := by
  obtain ⟨xA, xC, cA, cC, lA, lC⟩ := x0
  have hc := w0
  clear p0 q0 r0 w0
  generalize z0 = c at *
  obtain ⟨i0, hi, hz0, hz1, hz2⟩ := info_parts infoV
  replace hi := Lib.hid hi
  replace hz1 := Lib.hid hz1
  replace hz2 := Lib.hid hz2
  replace s1 := Lib.hid s1
  have hw := m1 w (.cells #[.int .i64 c.regs, .int .i64 c.slots, .slice xA c.ins.length xC, .slice cA c.cs.length cC, .slice lA c.list.length lC] 26)
  have b0 : CodeAt (w.alloc (.cells #[.int .i64 c.regs, .int .i64 c.slots, .slice xA c.ins.length xC, .slice cA c.cs.length cC, .slice lA c.list.length lC] 26)) w.heap.size c ⟨xA, xC, cA, cC, lA, lC⟩ := CodeAt.new w c ⟨xA, xC, cA, cC, lA, lC⟩
  show Calls _ _ #[.agg #[.int .i64 c.regs, .int .i64 c.slots, .slice xA c.ins.length xC, .slice cA c.cs.length cC, .slice lA c.list.length lC], .slice A1 z1.length c1] _ _
  by_cases hbig : (c.list.length : Int) > 3000
  · clear b0
    go_enter Try.func3, Try.ntmps3
    go_wp2_with fail
    refine (awake18 _).mono ?_; rintro e u1 ⟨rfl, hb1⟩
    have hB := below_more hw hb1
    clear hb1 hw
    go_wp2
    go_ret
    exact ⟨rfl, hB⟩
  go_enter Try.func3, Try.ntmps3
  have b4 := b0.2.2.2.2
  dsimp only at b4
  go_upto_region 3 with (fail)
  generalize w.alloc (.cells #[.int .i64 c.regs, .int .i64 c.slots, .slice xA c.ins.length xC, .slice cA c.cs.length cC, .slice lA c.list.length lC] 26) = u0 at *
  obtain ⟨s0', s1', s2', s3', s4'⟩ := id b0
  dsimp only at s2' s3' s4'
  replace w1 := Lib.hid w1
  go_wp2_with fail
  refine (twin_any c ⟨xA, xC, cA, cC, lA, lC⟩ _ (hc.later hw)).mono ?_; rintro e wt ⟨⟨yA, yC, dA, dC, mA, mC⟩, he, k4, -, hb1⟩
  replace he : e = .returned (.agg #[.int .i64 c.regs, .int .i64 c.slots, .slice yA c.ins.length yC, .slice dA c.cs.length dC, .slice mA c.list.length mC]) := he
  subst he
  have hw1 := below_more hw hb1
  replace b0 := b0.later hb1
  have hbits := Lib.hid (nbits w1.out)
  clear hb1 hw s0' s1' s2' s3' s4' b4
  go_upto_region 4 with (at_builtin; refine wpList_append_any _ rfl (.const (.slice none 0 0)) (.tmp 16) 23 rfl w.heap.size 31 i0 (.agg #[.int .i64 0, .int .u64 0]) 2 16 Try.underlying23 hi.out hz0 hz1.out hz2.out rfl (by decide) (.slice none 0 0) 0 [] rfl (World.ownsRow_nil _ _ _ _) wt.heap.size A1 z1.length c1 (cellsV z1) rfl ((row_reads w1.out).below hw1 |>.more hw1.size) (one_cellsV _) (by have := s1.out; unfold maxLen; omega) (by have := s1.out; omega) hw1.size ?_; intro v2 x2 o2 g2 _; rw [Nat.zero_add, List.nil_append] at o2; obtain ⟨L, dl, rfl, ql⟩ := own_row o2 hbits.out; have hg2 := below_grown g2 rfl; clear o2 g2)
  have hb2 := hg2.alloc hg2.size (.cells #[.int .i64 c.regs, .int .i64 c.slots, .slice yA c.ins.length yC, .slice dA c.cs.length dC, .slice mA c.list.length mC] 26)
  replace hw1 := below_more hw1 hb2
  replace b0 := b0.later hb2
  replace k4 := k4.later hb2
  have k1 : CodeAt (x2.alloc (.cells #[.int .i64 c.regs, .int .i64 c.slots, .slice yA c.ins.length yC, .slice dA c.cs.length dC, .slice mA c.list.length mC] 26)) x2.heap.size c ⟨yA, yC, dA, dC, mA, mC⟩ := CodeAt.new x2 c ⟨yA, yC, dA, dC, mA, mC⟩
  replace ql := ql.later (m1 x2 (.cells #[.int .i64 c.regs, .int .i64 c.slots, .slice yA c.ins.length yC, .slice dA c.cs.length dC, .slice mA c.list.length mC] 26))
  clear hb2 hg2
  generalize x2.alloc (.cells #[.int .i64 c.regs, .int .i64 c.slots, .slice yA c.ins.length yC, .slice dA c.cs.length dC, .slice mA c.list.length mC] 26) = u4 at *
  generalize x2.heap.size = gi at *
  obtain ⟨r0', r1', r2', r3', r4'⟩ := id k1
  dsimp only at r2' r3' r4'
  have RR := Lib.hid (fun u h1 h2 => rrun_any c ⟨xA, xC, cA, cC, lA, lC⟩ A1 z1.length c1 z1 u h1 h2 (by have := s1.out; omega))
  have RV := Lib.hid (fun u h1 h2 => vrun_any c ⟨yA, yC, dA, dC, mA, mC⟩ L z1.length dl z1 u h1 h2 (by have := s1.out; omega))
  generalize codeRun c z1 = y at *
  obtain ⟨yk, yb⟩ := y
  go_wp2_with fail
  refine (RV.out _ k4 ql).mono ?_; rintro e u5 ⟨rfl, hb3⟩
  clear RV r0' r1' r2' r3' r4'
  go_upto_region 5 with (fail)
  have hb4 := hb3.alloc hb3.size (.cells #[.int .i64 yk, .int .u64 (yb : Int)] 31)
  replace hw1 := below_more hw1 hb4
  replace b0 := b0.later hb4
  replace k4 := k4.later hb4
  replace k1 := k1.later hb4
  replace ql := ql.later hb4
  have k2 := Blk.made u5 31 #[.int .i64 yk, .int .u64 (yb : Int)]
  clear hb3 hb4
  generalize u5.alloc (.cells #[.int .i64 yk, .int .u64 (yb : Int)] 31) = u6 at *
  generalize u5.heap.size = gv at *
  have kA := Lib.hid (And.intro b0 (And.intro k1 (And.intro k2 (And.intro k4 (And.intro ql hw1)))))
  replace hc := Lib.hid hc
  clear b0 k1 k2 k4 ql hw1
  have hn9 : z1.length ≤ 9223372036854775806 := by have := s1.out; omega
  go_wp2_with fail
  go_loopw [23] (fun i wr => ∃ k : Nat, k ≤ z1.length ∧ i = .int .i64 (k : Int) ∧ Below u6.heap.size u6 wr) (fun i _ => z1.length - (intOf i).toNat)
  case atStart => exact ⟨0, Nat.zero_le _, rfl, Below.refl _ _⟩
  case round =>
    obtain ⟨k, hk, rfl, hb⟩ := hrel
    by_cases hlt : k < z1.length
    · obtain ⟨-, -, -, -, ql, hW⟩ := kA.out
      obtain ⟨b1, o1, hA, hc1⟩ := w1.out.2.2 (by omega)
      obtain ⟨b2, o2, hB, hc2⟩ := ql.2.2 (by omega)
      have hx := List.getElem?_eq_getElem hlt
      obtain ⟨p0, p1⟩ := hc1 k z1[k].1 z1[k].2 hx
      obtain ⟨r0, r1⟩ := hc2 k z1[k].1 z1[k].2 hx
      replace p0 := cell_later hb (cell_later hW p0)
      replace p1 := cell_later hb (cell_later hW p1)
      replace r0 := cell_later hb r0
      replace r1 := cell_later hb r1
      clear hc1 hc2 hx hW ql
      generalize z1[k] = x at *
      obtain ⟨xa, xb⟩ := x
      dsimp only at p0 p1 r0 r1
      have hne := neq2_V xa xb
      have k0 : (0 : Int) ≤ (k : Int) := by omega
      have k1 : (k : Int) < (z1.length : Int) := by omega
      have k3 := Lib.hid hlt
      subst hA hB
      go_wp2_with fail
      go_quiet (fail)
      have hb2 := bdrewL hb nq
      clear hb hne p0 p1 r0 r1
      go_wp2
      go_roundw
      case rel => exact ⟨k + 1, by have := k3.out; omega, by go_num, hb2⟩
      case measure => have := k3.out; simp [intOf]; omega
    · obtain rfl : k = z1.length := by omega
      obtain ⟨b0, k1, k2, k4, ql, hW⟩ := kA.out
      have k0 := b0.later hb
      replace k1 := k1.later hb
      replace k2 := k2.kept hb
      replace k4 := k4.later hb
      have k5 := w1.out.later (below_more hW hb)
      have k3 := hc.out.later (below_more hW hb)
      replace hW := below_more hW hb
      have k3' := k3
      clear b0 kA hlt ql
      have k44 := k4
      clear k4
      have k4 := k44
      clear k44 k3'
      go_upto_region 11 with (fail)
      have KD := G.keepsD_true []
      refine G.region_words (fun w' => CodeAt w' w.heap.size c ⟨xA, xC, cA, cC, lA, lC⟩ ∧ CodeAt w' gi c ⟨yA, yC, dA, dC, mA, mC⟩ ∧ Blk w' gv 31 #[.int .i64 yk, .int .u64 (yb : Int)] ∧ CodeIn w' c ⟨xA, xC, cA, cC, lA, lC⟩ ∧ CodeIn w' c ⟨yA, yC, dA, dC, mA, mC⟩ ∧ RowV w' A1 z1.length z1 ∧ Below w.heap.size w w') [G.isW (.bool true), G.isW (.bool true), G.isW (.agg #[.int .i64 yk, .int .u64 (yb : Int)]), G.isW (.agg #[.int .i64 c.regs, .int .i64 c.slots, .slice xA c.ins.length xC, .slice cA c.cs.length cC, .slice lA c.list.length lC]), G.isW (.slice A1 z1.length c1), G.isW (.agg #[.int .i64 yk, .int .u64 (yb : Int)]), G.isW (.bool true), G.isW (.bool true), G.isW (.bool true), G.isW (.agg #[.int .i64 c.regs, .int .i64 c.slots, .slice yA c.ins.length yC, .slice dA c.cs.length dC, .slice mA c.list.length mC]), G.isW (.agg #[.int .i64 c.regs, .int .i64 c.slots, .slice xA c.ins.length xC, .slice cA c.cs.length cC, .slice lA c.list.length lC]), G.isW (.bool true), G.isW (.bool true), G.isW (.bool true)] (by kernel_rfl) (by repeat' (first | exact G.monoL_nil | exact G.is_mono _ | exact G.any_mono | refine G.monoL_cons ?_ ?_)) (by kernel_rfl) (by kernel_rfl) (fun _ _ h hb => ⟨h.1.later hb, h.2.1.later hb, h.2.2.1.kept hb, h.2.2.2.1.later hb, h.2.2.2.2.1.later hb, h.2.2.2.2.2.1.later hb, below_more h.2.2.2.2.2.2 hb⟩) ⟨k0.later (Below.refl _ _).drew, k1.later (Below.refl _ _).drew, k2.kept (Below.refl _ _).drew, k3.later (Below.refl _ _).drew, k4.later (Below.refl _ _).drew, k5.later (Below.refl _ _).drew, hW.drew⟩ ?_ ?_
      · intro KC
        refine G.stepsL_cons (fun a u hc hdd hd hk hdep => ?_) ?_
        ·
          refine G.step_call KC KD hc hdd rfl 6 #[] (G.wanted_plain rfl) (by first | (go_simp; done) | rfl) ?_
          exact (awake18 u).mono (by rintro e w' ⟨rfl, hb⟩; exact ⟨_, rfl, rfl, hb⟩)
        refine G.stepsL_cons (fun a u hc hdd hd hk hdep => ?_) ?_
        ·
          have d36 : (a.tmps[36]?).getD undef = (.bool true) := hdep ⟨0, .data⟩ (by simp) rfl
          refine G.step_val KC KD hc hdd rfl (.bool true) u (G.wanted_plain rfl) ?_ rfl (Below.refl _ _)
          first | (go_simp; done) | rfl | (simp [go_sem, *]; done)
        refine G.stepsL_cons (fun a u hc hdd hd hk hdep => ?_) ?_
        ·
          have d7 : (a.tmps[7]?).getD undef = (.pointer (some ⟨gv, 0, none⟩)) := hk 7 (by kernel_rfl)
          refine G.step_val KC KD hc hdd rfl (.agg #[.int .i64 yk, .int .u64 (yb : Int)]) u ((G.wanted_guard (j := 1) (b := true) (c := true) rfl (hdep ⟨1, .guard⟩ (by simp) rfl)).trans rfl) ?_ rfl (Below.refl _ _)
          obtain ⟨s0, s1, s2, s3, s4⟩ := hc.1
          obtain ⟨r0, r1, r2, r3, r4⟩ := hc.2.1
          dsimp only at s2 s3 s4 r2 r3 r4
          have v0 : u.cell? ⟨gv, 0, none⟩ = some (.int .i64 yk) := hc.2.2.1.cell 0
          have v1 : u.cell? ⟨gv, 1, none⟩ = some (.int .u64 (yb : Int)) := hc.2.2.1.cell 1
          first | (go_simp; done) | rfl | (simp [go_sem, *]; done)
        refine G.stepsL_cons (fun a u hc hdd hd hk hdep => ?_) ?_
        ·
          have d2 : (a.tmps[2]?).getD undef = (.pointer (some ⟨w.heap.size, 0, none⟩)) := hk 2 (by kernel_rfl)
          refine G.step_val KC KD hc hdd rfl (.agg #[.int .i64 c.regs, .int .i64 c.slots, .slice xA c.ins.length xC, .slice cA c.cs.length cC, .slice lA c.list.length lC]) u ((G.wanted_guard (j := 1) (b := true) (c := true) rfl (hdep ⟨1, .guard⟩ (by simp) rfl)).trans rfl) ?_ rfl (Below.refl _ _)
          obtain ⟨s0, s1, s2, s3, s4⟩ := hc.1
          obtain ⟨r0, r1, r2, r3, r4⟩ := hc.2.1
          dsimp only at s2 s3 s4 r2 r3 r4
          have v0 : u.cell? ⟨gv, 0, none⟩ = some (.int .i64 yk) := hc.2.2.1.cell 0
          have v1 : u.cell? ⟨gv, 1, none⟩ = some (.int .u64 (yb : Int)) := hc.2.2.1.cell 1
          first | (go_simp; done) | rfl | (simp [go_sem, *]; done)
        refine G.stepsL_cons (fun a u hc hdd hd hk hdep => ?_) ?_
        ·
          have d1 : (a.tmps[1]?).getD undef = (.slice A1 z1.length c1) := hk 1 (by kernel_rfl)
          refine G.step_val KC KD hc hdd rfl (.slice A1 z1.length c1) u ((G.wanted_guard (j := 1) (b := true) (c := true) rfl (hdep ⟨1, .guard⟩ (by simp) rfl)).trans rfl) ?_ rfl (Below.refl _ _)
          first | (go_simp; done) | rfl | (simp [go_sem, *]; done)
        refine G.stepsL_cons (fun a u hc hdd hd hk hdep => ?_) ?_
        ·
          have d39 : (a.tmps[39]?).getD undef = (.agg #[.int .i64 c.regs, .int .i64 c.slots, .slice xA c.ins.length xC, .slice cA c.cs.length cC, .slice lA c.list.length lC]) := hdep ⟨3, .data⟩ (by simp) rfl
          have d40 : (a.tmps[40]?).getD undef = (.slice A1 z1.length c1) := hdep ⟨4, .data⟩ (by simp) rfl
          refine G.step_call KC KD hc hdd rfl 9 #[.agg #[.int .i64 c.regs, .int .i64 c.slots, .slice xA c.ins.length xC, .slice cA c.cs.length cC, .slice lA c.list.length lC], .slice A1 z1.length c1] ((G.wanted_guard (j := 1) (b := true) (c := true) rfl (hdep ⟨1, .chain⟩ (by simp) rfl)).trans rfl) (by first | (go_simp; done) | rfl) ?_
          exact (RR.out u hc.2.2.2.1 hc.2.2.2.2.2.1).mono (by rintro e w' ⟨rfl, hb⟩; exact ⟨_, rfl, rfl, hb⟩)
        refine G.stepsL_cons (fun a u hc hdd hd hk hdep => ?_) ?_
        ·
          have d38 : (a.tmps[38]?).getD undef = (.agg #[.int .i64 yk, .int .u64 (yb : Int)]) := hdep ⟨2, .data⟩ (by simp) rfl
          have d41 : (a.tmps[41]?).getD undef = (.agg #[.int .i64 yk, .int .u64 (yb : Int)]) := hdep ⟨5, .data⟩ (by simp) rfl
          refine G.step_val KC KD hc hdd rfl (.bool true) u ((G.wanted_guard (j := 1) (b := true) (c := true) rfl (hdep ⟨1, .guard⟩ (by simp) rfl)).trans rfl) ?_ rfl (Below.refl _ _)
          have he := eqR yk yk yb yb u
          first | (go_simp; done) | rfl | (simp [go_sem, *]; done)
        refine G.stepsL_cons (fun a u hc hdd hd hk hdep => ?_) ?_
        ·
          have d37 : (a.tmps[37]?).getD undef = (.bool true) := hdep ⟨1, .data⟩ (by simp) rfl
          have d42 : (a.tmps[42]?).getD undef = (.bool true) := hdep ⟨6, .data⟩ (by simp) rfl
          refine G.step_val KC KD hc hdd rfl (.bool true) u (G.wanted_plain rfl) ?_ rfl (Below.refl _ _)
          first | (go_simp; done) | rfl | (simp [go_sem, *]; done)
        refine G.stepsL_cons (fun a u hc hdd hd hk hdep => ?_) ?_
        ·
          have d43 : (a.tmps[43]?).getD undef = (.bool true) := hdep ⟨7, .data⟩ (by simp) rfl
          refine G.step_val KC KD hc hdd rfl (.bool true) u (G.wanted_plain rfl) ?_ rfl (Below.refl _ _)
          first | (go_simp; done) | rfl | (simp [go_sem, *]; done)
        refine G.stepsL_cons (fun a u hc hdd hd hk hdep => ?_) ?_
        ·
          have d5 : (a.tmps[5]?).getD undef = (.pointer (some ⟨gi, 0, none⟩)) := hk 5 (by kernel_rfl)
          refine G.step_val KC KD hc hdd rfl (.agg #[.int .i64 c.regs, .int .i64 c.slots, .slice yA c.ins.length yC, .slice dA c.cs.length dC, .slice mA c.list.length mC]) u ((G.wanted_guard (j := 8) (b := true) (c := true) rfl (hdep ⟨8, .guard⟩ (by simp) rfl)).trans rfl) ?_ rfl (Below.refl _ _)
          obtain ⟨s0, s1, s2, s3, s4⟩ := hc.1
          obtain ⟨r0, r1, r2, r3, r4⟩ := hc.2.1
          dsimp only at s2 s3 s4 r2 r3 r4
          have v0 : u.cell? ⟨gv, 0, none⟩ = some (.int .i64 yk) := hc.2.2.1.cell 0
          have v1 : u.cell? ⟨gv, 1, none⟩ = some (.int .u64 (yb : Int)) := hc.2.2.1.cell 1
          first | (go_simp; done) | rfl | (simp [go_sem, *]; done)
        refine G.stepsL_cons (fun a u hc hdd hd hk hdep => ?_) ?_
        ·
          have d2 : (a.tmps[2]?).getD undef = (.pointer (some ⟨w.heap.size, 0, none⟩)) := hk 2 (by kernel_rfl)
          refine G.step_val KC KD hc hdd rfl (.agg #[.int .i64 c.regs, .int .i64 c.slots, .slice xA c.ins.length xC, .slice cA c.cs.length cC, .slice lA c.list.length lC]) u ((G.wanted_guard (j := 8) (b := true) (c := true) rfl (hdep ⟨8, .guard⟩ (by simp) rfl)).trans rfl) ?_ rfl (Below.refl _ _)
          obtain ⟨s0, s1, s2, s3, s4⟩ := hc.1
          obtain ⟨r0, r1, r2, r3, r4⟩ := hc.2.1
          dsimp only at s2 s3 s4 r2 r3 r4
          have v0 : u.cell? ⟨gv, 0, none⟩ = some (.int .i64 yk) := hc.2.2.1.cell 0
          have v1 : u.cell? ⟨gv, 1, none⟩ = some (.int .u64 (yb : Int)) := hc.2.2.1.cell 1
          first | (go_simp; done) | rfl | (simp [go_sem, *]; done)
        refine G.stepsL_cons (fun a u hc hdd hd hk hdep => ?_) ?_
        ·
          have d45 : (a.tmps[45]?).getD undef = (.agg #[.int .i64 c.regs, .int .i64 c.slots, .slice yA c.ins.length yC, .slice dA c.cs.length dC, .slice mA c.list.length mC]) := hdep ⟨9, .data⟩ (by simp) rfl
          have d46 : (a.tmps[46]?).getD undef = (.agg #[.int .i64 c.regs, .int .i64 c.slots, .slice xA c.ins.length xC, .slice cA c.cs.length cC, .slice lA c.list.length lC]) := hdep ⟨10, .data⟩ (by simp) rfl
          refine G.step_call KC KD hc hdd rfl 10 #[.agg #[.int .i64 c.regs, .int .i64 c.slots, .slice yA c.ins.length yC, .slice dA c.cs.length dC, .slice mA c.list.length mC], .agg #[.int .i64 c.regs, .int .i64 c.slots, .slice xA c.ins.length xC, .slice cA c.cs.length cC, .slice lA c.list.length lC]] ((G.wanted_guard (j := 8) (b := true) (c := true) rfl (hdep ⟨8, .chain⟩ (by simp) rfl)).trans rfl) (by first | (go_simp; done) | rfl) ?_
          exact (csame_any c ⟨yA, yC, dA, dC, mA, mC⟩ ⟨xA, xC, cA, cC, lA, lC⟩ u hc.2.2.2.2.1 hc.2.2.2.1).mono (by rintro e w' ⟨rfl, hb⟩; exact ⟨_, rfl, rfl, hb⟩)
        refine G.stepsL_cons (fun a u hc hdd hd hk hdep => ?_) ?_
        ·
          have d44 : (a.tmps[44]?).getD undef = (.bool true) := hdep ⟨8, .data⟩ (by simp) rfl
          have d47 : (a.tmps[47]?).getD undef = (.bool true) := hdep ⟨11, .data⟩ (by simp) rfl
          refine G.step_val KC KD hc hdd rfl (.bool true) u (G.wanted_plain rfl) ?_ rfl (Below.refl _ _)
          first | (go_simp; done) | rfl | (simp [go_sem, *]; done)
        refine G.stepsL_cons (fun a u hc hdd hd hk hdep => ?_) ?_
        ·
          have d48 : (a.tmps[48]?).getD undef = (.bool true) := hdep ⟨12, .data⟩ (by simp) rfl
          refine G.step_val KC KD hc hdd rfl (.bool true) u (G.wanted_plain rfl) ?_ rfl (Below.refl _ _)
          first | (go_simp; done) | rfl | (simp [go_sem, *]; done)
        exact G.stepsL_nil
      intro vs' wN hNN hh
      have eL : vs' 13 = (.bool true) := by
        obtain ⟨-, -, -, -, -, -, -, -, -, -, -, -, -, eX, -⟩ := hh
        exact eX
      clear hh
      obtain ⟨-, -, -, -, -, -, hB⟩ := hNN
      clear k0 k1 k2 k3 k4 k5 hW hb
      set_option maxRecDepth 100000 in simp only [List.take_succ_cons, List.take_zero, putAll, Act.put, List.setIfInBounds_toArray, List.set_cons_zero, List.set_cons_succ, Nat.reduceAdd, eL]
      clear eL
      go_wp2
      go_ret
      exact ⟨rfl, hB⟩

set_option maxRecDepth 100000 in
theorem lifted (os : Os) (started : os.Started) (H : Type) (enc : TypeId × Value → H) :
    ReturnsInHanded {} Try.checked os 3 .any (Rows.vmRunsSpec.pre6 enc Try.prog Try.f3 Rows.vmRunsRow.domain false) (Rows.vmRunsSpec.post enc Try.prog Try.f3 false true false false) := by
  refine returnsInHanded_of_change_sized (C := Try.checked) own started (by kernel_rfl) Try.func3
    (ChangeSpec.witness6 (enc := enc) (C := Try.checked) false ⟨#[], #[.agg #[.int .i64 0, .int .i64 0, .slice none 0 0, .slice none 0 0, .slice none 0 0], .slice none 0 0], []⟩ 8 (by kernel_rfl) (by kernel_rfl) (by kernel_rfl) (by kernel_rfl)) ?_
  intro W base args ds gs before hval0 hW hcnd hsz0 _
  have hsz : (DataW.weightsEach Try.prog (Try.f3.params.toList ++ Rows.vmRunsSpec.plain.varTypes Try.prog) (ds ++ gs)).all (· ≤ reachBytes) = true := hsz0
  clear hsz0
  have hval : ∀ (j : Nat) t v, Try.f3.params[j]? = some t → args[j]? = some v → Value.okWide Try.prog W .any base t v := hval0
  have hW' := hW
  obtain ⟨p, q, hA0, hV, rfl, hfz, hnd⟩ := hW
  have hA : DataW.TrodAll enc Try.prog W 0 (fun _ => true) true Try.f3.params.toList args.toList ds p := hA0
  rw [Try.params3] at hA hval hsz
  obtain ⟨v0, vs0, d0, ds0, p0, q0, hargs, rfl, rfl, h0, r0⟩ := trodAll_cons hA
  obtain ⟨v1, vs1, d1, ds1, p1, q1, rfl, rfl, rfl, h1, r1⟩ := trodAll_cons r0
  obtain ⟨rfl, rfl, rfl⟩ := trodAll_nil r1
  obtain rfl : args = #[v0, v1] := by cases args; simp_all
  obtain ⟨rfl, rfl⟩ := trodVars_none hV
  have kk0 := h0
  have lt0 : ∀ x ∈ p0, x.block < W.heap.size := by obtain ⟨m, hm⟩ := kk0; exact DataW.trod_lt m _ _ _ hm
  have kk1 := h1
  have lt1 : ∀ x ∈ p1, x.block < W.heap.size := by obtain ⟨m, hm⟩ := kk1; exact DataW.trod_lt m _ _ _ hm
  obtain ⟨z0, x0, rfl, w0, pp0, qq0, rr0⟩ := open_code (hval 0 26 v0 rfl rfl) h0 (wb_each hsz (j := 0) (t := 26) rfl rfl)
  obtain ⟨A1, c1, z1, rfl, w1, ss1⟩ := open_valuesT (hval 1 23 v1 rfl rfl) h1 (wb_each hsz (j := 1) (t := 23) rfl rfl)
  clear hA0 hval0
  refine (walk W z0 x0 w0 pp0 qq0 rr0 A1 c1 z1 w1 ss1).mono fun e W' ⟨he, bel⟩ => ?_
  subst he
  exact ⟨_, rfl, _, _, _, [], _, [], hW', trodAll_mk1 (shut_bool Try.underlying4 _), (trodAll_cons_mk (Below.trod laidOut (by kernel_rfl) (of_decide_eq_true (by kernel_rfl)) kk0 bel lt0) (trodAll_cons_mk (Below.trod laidOut (by kernel_rfl) (of_decide_eq_true (by kernel_rfl)) kk1 bel lt1) trodAll_mk0)), rfl, bel.frame _, fun h => by cases h⟩

theorem over : Rows.vmRunsRow.holds Try.pinned (OpenSpec.ofChange Rows.vmRunsSpec) :=
  OpenClaim.holds_of_wide 3 Try.f3 rfl rfl rfl rfl rfl rfl rfl ⟨rfl, rfl, rfl, rfl, rfl⟩ rfl rfl rfl rfl rfl (by kernel_rfl) Try.func3 (by kernel_rfl)
    (of_decide_eq_true (by kernel_rfl)) (by unfold Func.isWrapper; first | (rw [if_pos (by decide +kernel)]; kernel_rfl) | (rw [if_neg (by decide +kernel)]; exact ⟨rfl, rfl⟩))
    (fun os started H enc _ => lifted os started H enc)

/-- the statement -/
theorem proved : Rows.VmRunsSaid :=
  over
#print axioms proved
end Go.Proofs.Ytagjfeblkpkgaaa.vmRuns
