/- VmDrops: plain code tells the same without what nothing hangs on; it is good just where its inputs and constants may be. -/
import Derived.Test.YteniipolcdnmfaaRows
import Derived.WalkKit
import Derived.ProofKit
import Derived.OpenShut
import Derived.ShutString
import Derived.ChangeOld
import Derived.Below
import Derived.Lib.SmallJoins
import Derived.SizedLaws
import Derived.Test.YteniipolcdnmfaaVmI
import Derived.Test.YteniipolcdnmfaaDrX
namespace Go.Proofs.Yteniipolcdnmfaa.vmDrops
open Go.ChangeShapes Go.WideShapes Go.ChangeAt Go.RowKit Go.Joins
set_option linter.unusedVariables false
set_option linter.unusedSimpArgs false

theorem own : ownKnob Try.prog.godebug = none := by kernel_rfl
theorem laidOut : laidOutB Try.prog = true := by kernel_rfl

theorem bdrewL {B : Nat} {a w : World} (h : Below B a w) (n : Nat) : Below B a (w.drewN n) := ⟨h.os, h.tape, h.output, h.size, h.block⟩
theorem below_grow7 {w u u1 : World} {row : Option Nat} (hw : Below w.heap.size w u) (hG : u.grownBy u1 row) (hr : ∀ g, row = some g → w.heap.size ≤ g) : Below w.heap.size w u1 :=
  ⟨hG.os.trans hw.os, hG.tape.trans hw.tape, hG.output.trans hw.output, Nat.le_trans hw.size hG.size, fun k hk => (hG.block k (Nat.lt_of_lt_of_le hk hw.size) (fun e => by have := hr k e.symm; omega)).trans (hw.block k hk)⟩
theorem lookTo_lt {ci : List I4} {inputs : List VN} {x : I4} (hb : ∀ v ∈ inputs, v.2 < 18446744073709551616) : ∀ (n : Nat) (v : VN), v.2 < 18446744073709551616 → (lookTo ci inputs x n v).2 < 18446744073709551616
  | 0, _, h => h
  | n + 1, v, h => by
    unfold lookTo
    refine lookTo_lt hb n _ ?_
    split
    · exact rd_lt hb _
    · exact h
theorem lookTo_hit {ci : List I4} {inputs : List VN} {x : I4} {n : Nat} {v : VN} (h : ci[n]? = some x) (hn : n < inputs.length) : lookTo ci inputs x (n + 1) v = lookTo ci inputs x n (rdV inputs (n : Int)) := by
  show lookTo ci inputs x n (if ci[n]? = some x ∧ n < inputs.length then _ else v) = _
  rw [if_pos ⟨h, hn⟩]
theorem lookTo_miss {ci : List I4} {inputs : List VN} {x : I4} {n : Nat} {v : VN} (h : ¬ (ci[n]? = some x ∧ n < inputs.length)) : lookTo ci inputs x (n + 1) v = lookTo ci inputs x n v := by
  show lookTo ci inputs x n (if ci[n]? = some x ∧ n < inputs.length then _ else v) = _
  rw [if_neg h]
theorem slotk_keeps (k : Nat) (x : Value) : G.KeepsD (fun (a : Act) (_ : World) => (a.tmps[k]?).getD undef = x) [k] := fun a d v w w' h _ hL => by
  have hd : d ≠ some k := fun e => by subst e; simp at hL
  cases d with
  | none => exact h
  | some d =>
    have : ¬ d = k := fun e => hd (by rw [e])
    unfold Act.put
    simp [this]
    simpa using h

set_option maxHeartbeats 16000000 in
set_option maxRecDepth 100000 in
theorem walk (w : World) (z0 : CodeP) (x0 : CV) (w0 : CodeIn w z0 x0) (p0 : z0.ins.length * 32 ≤ 140737488351232) (q0 : z0.cs.length * 16 ≤ 140737488351232) (r0 : z0.list.length * 32 ≤ 140737488351232) (A1 : Option Addr) (c1 : Nat) (z1 : List (Int × Nat)) (w1 : RowV w A1 z1.length z1) (s1 : z1.length * 16 ≤ 140737488351232) :
    Calls Try.prog 3 #[codeV z0 x0, .slice A1 z1.length c1] w fun e w' => e = .returned (.bool true) ∧ Below w.heap.size w w' := by
  obtain ⟨xA, xC, cA, cC, lA, lC⟩ := x0
  have hc := w0
  clear p0 q0 r0 w0
  generalize z0 = c at *
  obtain ⟨i0, hi, hz0, hz1, hz2⟩ := info_parts infoV
  replace hi := Lib.hid hi
  replace hz1 := Lib.hid hz1
  replace hz2 := Lib.hid hz2
  have hw := m1 w (.cells #[.int .i64 c.regs, .int .i64 c.slots, .slice xA c.ins.length xC, .slice cA c.cs.length cC, .slice lA c.list.length lC] 26)
  have bX := Blk.made w 26 #[.int .i64 c.regs, .int .i64 c.slots, .slice xA c.ins.length xC, .slice cA c.cs.length cC, .slice lA c.list.length lC]
  obtain ⟨r, hr⟩ : ∃ r, plainB c = r := ⟨_, rfl⟩
  have PL := Lib.hid (fun u h => rplain_any c ⟨xA, xC, cA, cC, lA, lC⟩ u h)
  rw [hr] at PL
  replace hr := Lib.hid hr
  show Calls _ _ #[.agg #[.int .i64 c.regs, .int .i64 c.slots, .slice xA c.ins.length xC, .slice cA c.cs.length cC, .slice lA c.list.length lC], .slice A1 z1.length c1] _ _
  have hi1 := Lib.hid w1
  have hs1 := Lib.hid s1
  clear w1 s1
  go_enter Try.func3, Try.ntmps3
  go_upto_region 1 with (fail)
  generalize w.alloc (.cells #[.int .i64 c.regs, .int .i64 c.slots, .slice xA c.ins.length xC, .slice cA c.cs.length cC, .slice lA c.list.length lC] 26) = u0 at *
  replace hc := Lib.hid hc
  go_wp2_with fail
  refine (awake18 _).mono ?_; rintro e u1 ⟨rfl, hb1⟩
  replace bX := bX.kept hb1
  replace hw := below_more hw hb1
  clear hb1
  have a0 : u1.cell? ⟨w.heap.size, 0, none⟩ = some (.int .i64 c.regs) := bX.cell 0
  have a1 : u1.cell? ⟨w.heap.size, 1, none⟩ = some (.int .i64 c.slots) := bX.cell 1
  have a2 : u1.cell? ⟨w.heap.size, 2, none⟩ = some (.slice xA c.ins.length xC) := bX.cell 2
  have a3 : u1.cell? ⟨w.heap.size, 3, none⟩ = some (.slice cA c.cs.length cC) := bX.cell 3
  have a4 : u1.cell? ⟨w.heap.size, 4, none⟩ = some (.slice lA c.list.length lC) := bX.cell 4
  go_wp2_with fail
  refine (PL.out _ (hc.out.later hw)).mono ?_; rintro e u2 ⟨rfl, hb1⟩
  replace bX := bX.kept hb1
  replace hw := below_more hw hb1
  clear hb1 a0 a1 a2 a3 a4 PL
  cases r with
  | false =>
    go_wp2_with fail
    refine (awake18 _).mono ?_; rintro e u3 ⟨rfl, hb1⟩
    replace hw := below_more hw hb1
    go_wp2
    go_ret
    exact ⟨rfl, hw⟩
  | true =>
    have hp := plainB_is hr.out
    clear hr
    have a4 : u2.cell? ⟨w.heap.size, 4, none⟩ = some (.slice lA c.list.length lC) := bX.cell 4
    by_cases hbig : (c.list.length : Int) > 1024
    · go_wp2_with fail
      refine (awake18 _).mono ?_; rintro e u3 ⟨rfl, hb1⟩
      replace hw := below_more hw hb1
      go_wp2
      go_ret
      exact ⟨rfl, hw⟩
    have a0 : u2.cell? ⟨w.heap.size, 0, none⟩ = some (.int .i64 c.regs) := bX.cell 0
    have a1 : u2.cell? ⟨w.heap.size, 1, none⟩ = some (.int .i64 c.slots) := bX.cell 1
    have a2 : u2.cell? ⟨w.heap.size, 2, none⟩ = some (.slice xA c.ins.length xC) := bX.cell 2
    have a3 : u2.cell? ⟨w.heap.size, 3, none⟩ = some (.slice cA c.cs.length cC) := bX.cell 3
    have h1024 : c.list.length ≤ 1024 := by omega
    have DR := Lib.hid (fun u h => rdrop_any c ⟨xA, xC, cA, cC, lA, lC⟩ u h hp h1024)
    have hsame := Lib.hid (fun ht : twiceB c = false => dr_same hp h1024 (twiceB_not ht) z1)
    have hgood := Lib.hid (plain_good hp h1024)
    have hdl := drTo_len c c.list.length
    have hDn : (drOf c).ins.length ≤ 1024 := by show (drTo c c.list.length).ins.length ≤ 1024; omega
    have hLF : leftOf c z1 = (drOf c).ins.map (lookI c z1) := rfl
    replace hLF := Lib.hid hLF
    obtain ⟨D, hD⟩ : ∃ D, drOf c = D := ⟨_, rfl⟩
    rw [hD] at DR hDn
    rw [hD] at hLF hsame
    replace hD := Lib.hid hD
    replace hp := Lib.hid hp
    clear hdl
    go_wp2_with fail
    refine (DR.out _ (hc.out.later hw)).mono ?_; rintro e u3 ⟨⟨yA, yC, dA, dC, mA, mC⟩, he, k4, hb1⟩
    replace he : e = .returned (.agg #[.int .i64 D.regs, .int .i64 D.slots, .slice yA D.ins.length yC, .slice dA D.cs.length dC, .slice mA D.list.length mC]) := he
    subst he
    replace bX := bX.kept hb1
    replace hw := below_more hw hb1
    clear hb1 a0 a1 a2 a3 a4 DR
    go_upto_region 4 with (fail)
    have bD := Blk.made u3 26 #[.int .i64 D.regs, .int .i64 D.slots, .slice yA D.ins.length yC, .slice dA D.cs.length dC, .slice mA D.list.length mC]
    replace bX := bX.kept (m1 u3 (.cells #[.int .i64 D.regs, .int .i64 D.slots, .slice yA D.ins.length yC, .slice dA D.cs.length dC, .slice mA D.list.length mC] 26))
    replace hw := below_more hw (m1 u3 (.cells #[.int .i64 D.regs, .int .i64 D.slots, .slice yA D.ins.length yC, .slice dA D.cs.length dC, .slice mA D.list.length mC] 26))
    replace k4 := k4.later (m1 u3 (.cells #[.int .i64 D.regs, .int .i64 D.slots, .slice yA D.ins.length yC, .slice dA D.cs.length dC, .slice mA D.list.length mC] 26))
    generalize u3.alloc (.cells #[.int .i64 D.regs, .int .i64 D.slots, .slice yA D.ins.length yC, .slice dA D.cs.length dC, .slice mA D.list.length mC] 26) = u4 at *
    generalize u3.heap.size = gd at *
    have d2 : u4.cell? ⟨gd, 2, none⟩ = some (.slice yA D.ins.length yC) := bD.cell 2
    have hDI := Lib.hid (show QuadAt u4 yA D.ins from k4.ins)
    have hCI := Lib.hid (show QuadAt w xA c.ins from hc.out.ins)
    have szI : c.ins.length ≤ 9223372036854775806 := by have := hc.out.szI; omega
    have szC : c.cs.length ≤ 9223372036854775806 := by have := hc.out.szC; omega
    have szl : z1.length ≤ 9223372036854775806 := by have := hs1.out; omega
    have hbt := Lib.hid hi1.out.2.1
    have hw4 := Lib.hid hw
    have kA := Lib.hid (And.intro bX (And.intro bD k4))
    have hbase : w.heap.size ≤ u4.heap.size := hw.size
    replace hbase := Lib.hid hbase
    clear bX bD k4 hw
    go_wp2_with fail
    clear d2
    go_loopw [6, 35] (fun l i wr => ∃ k : Nat, k ≤ D.ins.length ∧ i = .int .i64 (k : Int) ∧ wr.ownsRow u4.heap.size 34 2 l k (cellsV ((D.ins.take k).map (lookI c z1))) ∧ Below u4.heap.size u4 wr) (fun _ i _ => D.ins.length - (intOf i).toNat)
    case atStart => exact ⟨0, Nat.zero_le _, rfl, World.ownsRow_nil _ _ _ _, Below.refl _ _⟩
    case round =>
      obtain ⟨k, hk, rfl, hO, hB⟩ := hrel
      by_cases hlt : k < D.ins.length
      · obtain ⟨bb, off, rfl, hcells⟩ := hDI.out (by omega)
        have hx := List.getElem?_eq_getElem hlt
        obtain ⟨q0, q1, q2, q3⟩ := hcells k _ hx
        replace q0 := cell_later hB q0
        replace q1 := cell_later hB q1
        replace q2 := cell_later hB q2
        replace q3 := cell_later hB q3
        clear hcells
        have hsn : cellsV ((D.ins.take (k + 1)).map (lookI c z1)) = cellsV ((D.ins.take k).map (lookI c z1)) ++ [.int .i64 (lookI c z1 D.ins[k]).1, .int .u64 ((lookI c z1 D.ins[k]).2 : Int)] := by
          rw [List.take_add_one, hx, List.map_append, cellsV_append]; rfl
        replace hsn := Lib.hid hsn
        clear hx
        generalize D.ins[k] = x at *
        obtain ⟨x0, x1, x2, x3⟩ := x
        dsimp only at q0 q1 q2 q3
        have k0 : (0 : Int) ≤ (k : Int) := by omega
        have k1 : (k : Int) < (D.ins.length : Int) := by omega
        have k3 := Lib.hid hlt
        have hO2 := mown_below (mown_below hO (m1 wr (.cells #[.int .i64 x0, .int .i64 x1, .int .i64 x2, .int .i64 x3] 31))) (m1 (wr.alloc (.cells #[.int .i64 x0, .int .i64 x1, .int .i64 x2, .int .i64 x3] 31)) (.cells #[.int .i64 0, .int .u64 0] 34))
        have hO3 := (mown_below hO (m1 wr (.cells #[.int .i64 x0, .int .i64 x1, .int .i64 x2, .int .i64 x3] 31))).lt
        have bx := (Blk.made wr 31 #[.int .i64 x0, .int .i64 x1, .int .i64 x2, .int .i64 x3]).kept (m1 (wr.alloc (.cells #[.int .i64 x0, .int .i64 x1, .int .i64 x2, .int .i64 x3] 31)) (.cells #[.int .i64 0, .int .u64 0] 34))
        have bv := Blk.made (wr.alloc (.cells #[.int .i64 x0, .int .i64 x1, .int .i64 x2, .int .i64 x3] 31)) 34 #[.int .i64 0, .int .u64 0]
        have hsz : (wr.alloc (.cells #[.int .i64 x0, .int .i64 x1, .int .i64 x2, .int .i64 x3] 31)).heap.size = wr.heap.size + 1 := by simp
        rw [hsz] at bv hO3
        have hB2 := mmore hB (m2 wr (.cells #[.int .i64 x0, .int .i64 x1, .int .i64 x2, .int .i64 x3] 31) (.cells #[.int .i64 0, .int .u64 0] 34))
        have hsz4 : u4.heap.size ≤ wr.heap.size := hB.size
        have bX2 := kA.out.1.kept hB2
        have a2 : ((wr.alloc (.cells #[.int .i64 x0, .int .i64 x1, .int .i64 x2, .int .i64 x3] 31)).alloc (.cells #[.int .i64 0, .int .u64 0] 34)).cell? ⟨w.heap.size, 2, none⟩ = some (.slice xA c.ins.length xC) := bX2.cell 2
        have hwx : w.heap.size < u4.heap.size := kA.out.1.lt
        have hE := Lib.hid (rfl : lookTo c.ins z1 (x0, x1, x2, x3) c.ins.length (0, 0) = lookTo c.ins z1 (x0, x1, x2, x3) c.ins.length (0, 0))
        have hwc : IntKind.i64.wrap ((c.ins.length : Int) - 1) = (c.ins.length : Int) - 1 := by rw [IntKind.wrap_i64]; omega
        go_upto_region 9 with (fail)
        clear q0 q1 q2 q3 hO hsz
        replace hO3 := Lib.hid hO3
        replace hO2 := Lib.hid hO2
        replace hB2 := Lib.hid hB2
        generalize (wr.alloc (.cells #[.int .i64 x0, .int .i64 x1, .int .i64 x2, .int .i64 x3] 31)).alloc (.cells #[.int .i64 0, .int .u64 0] 34) = ww6 at *
        obtain ⟨gx, hgx⟩ : ∃ g, wr.heap.size = g := ⟨_, rfl⟩
        rw [hgx] at bx bv hO3 hsz4
        rw [hgx]
        obtain ⟨gv, hgv⟩ : ∃ g, gx + 1 = g := ⟨_, rfl⟩
        rw [hgv] at bv hO3
        rw [hgv]
        have hgvx := Lib.hid (show w.heap.size < gv ∧ gx ≠ gv ∧ u4.heap.size ≤ gv by omega)
        clear hgx hgv hsz4 hwx hB
        go_wp2_with fail
        clear a2
        go_loopw [10] (fun i w2 => ∃ (j : Nat) (cur : VN), j ≤ c.ins.length ∧ i = .int .i64 ((j : Int) - 1) ∧ lookTo c.ins z1 (x0, x1, x2, x3) j cur = lookI c z1 (x0, x1, x2, x3) ∧ Blk w2 gv 34 #[.int .i64 cur.1, .int .u64 (cur.2 : Int)] ∧ Blk w2 gx 31 #[.int .i64 x0, .int .i64 x1, .int .i64 x2, .int .i64 x3] ∧ ww6.grownBy w2 (some gv)) (fun i _ => (intOf i + 1).toNat)
        case atStart => exact ⟨c.ins.length, (0, 0), Nat.le_refl _, rfl, rfl, bv, bx, ⟨rfl, rfl, rfl, Nat.le_refl _, fun _ _ _ => rfl⟩⟩
        case round =>
          clear bx bv
          obtain ⟨j1, ⟨ck, cb⟩, hj, rfl, hT, bv, bx, hG⟩ := hrel
          by_cases hlj : 0 < j1
          · obtain ⟨j, rfl⟩ : ∃ j, j1 = j + 1 := ⟨j1 - 1, by omega⟩
            have hjl : j < c.ins.length := by omega
            obtain ⟨b4, o4, rfl, hc4⟩ := hCI.out (by omega)
            have hy := List.getElem?_eq_getElem hjl
            obtain ⟨p0, p1, p2, p3⟩ := hc4 j _ hy
            have hwy := grown_below (below_more hw4.out hB2.out) hG (by have := hgvx.out; omega)
            replace p0 := cell_later hwy p0
            replace p1 := cell_later hwy p1
            replace p2 := cell_later hwy p2
            replace p3 := cell_later hwy p3
            clear hc4
            generalize c.ins[j] = y at *
            obtain ⟨y0, y1, y2, y3⟩ := y
            dsimp only at p0 p1 p2 p3
            have bX3 := bX2.grown hG (by have := hgvx.out; simp; omega)
            have a2 : wr.cell? ⟨w.heap.size, 2, none⟩ = some (.slice (some ⟨b4, o4, none⟩) c.ins.length xC) := bX3.cell 2
            have e0 : wr.cell? ⟨gx, 0, none⟩ = some (.int .i64 x0) := bx.cell 0
            have e1 : wr.cell? ⟨gx, 1, none⟩ = some (.int .i64 x1) := bx.cell 1
            have e2 : wr.cell? ⟨gx, 2, none⟩ = some (.int .i64 x2) := bx.cell 2
            have e3 : wr.cell? ⟨gx, 3, none⟩ = some (.int .i64 x3) := bx.cell 3
            rw [cast_pred]
            have j0 : (j : Int) ≥ 0 := by omega
            have j0' : (0 : Int) ≤ (j : Int) := by omega
            have j2 : (j : Int) < (c.ins.length : Int) := by omega
            have jj := Lib.hid hjl
            have hwj : IntKind.i64.wrap ((j : Int) - 1) = (j : Int) - 1 := by rw [IntKind.wrap_i64]; omega
            clear bX3
            replace hy := Lib.hid hy
            have g0 : wr.cell? ⟨gv, 0, none⟩ = some (.int .i64 ck) := bv.cell 0
            have g1 : wr.cell? ⟨gv, 1, none⟩ = some (.int .u64 (cb : Int)) := bv.cell 1
            have f0 := bv.free 0
            have f1 := bv.free 1
            by_cases he : (y0, y1, y2, y3) = (x0, x1, x2, x3)
            · have he4 : ∀ w, (binOp .eql 31 (.agg #[.int .i64 y0, .int .i64 y1, .int .i64 y2, .int .i64 y3]) (.agg #[.int .i64 x0, .int .i64 x1, .int .i64 x2, .int .i64 x3])).run Try.prog w = .ok (.bool true) w := fun w => by rw [eql4]; simp only [he, decide_true]
              by_cases hq : j < z1.length
              · have dq : decide ((j : Int) < (z1.length : Int)) = true := by simp; omega
                have jq : (j : Int) < (z1.length : Int) := by omega
                have hT2 := (lookTo_hit (ci := c.ins) (inputs := z1) (v := (ck, cb)) (by rw [← he]; exact hy.out) hq).symm.trans hT
                have hbv := rd_lt hbt.out (j : Int)
                obtain ⟨b5, o5, hA1, hc5⟩ := hi1.out.2.2 (by omega)
                obtain ⟨r0, r1⟩ := hc5 j _ _ (rdV_in hq)
                replace r0 := cell_later hwy r0
                replace r1 := cell_later hwy r1
                clear hc5 hT hwy
                generalize rdV z1 (j : Int) = nv at *
                obtain ⟨nk, nb⟩ := nv
                dsimp only at r0 r1
                replace hT2 := Lib.hid hT2
                replace he := Lib.hid he
                have jq3 := Lib.hid hq
                have bv2 : Blk wr gv 34 #[.int .i64 ck, .int .u64 (cb : Int)] := bv
                subst hA1
                replace bv := Lib.hid bv
                replace bx := Lib.hid bx
                replace hG := Lib.hid hG
                clear bv2 hlj
                go_upto_region 12 with (fail)
                go_quiet (fail)
                have bv3 : Blk (((wr.drewN nq).setCell ⟨gv, 0, none⟩ (.int .i64 nk)).setCell ⟨gv, 1, none⟩ (.int .u64 (nb : Int))) gv 34 #[.int .i64 nk, .int .u64 (nb : Int)] := by
                  have b9 : Blk (wr.drewN nq) gv 34 #[.int .i64 ck, .int .u64 (cb : Int)] := bv.out
                  simpa using (b9.put_ 0 (.int .i64 nk)).put_ 1 (.int .u64 (nb : Int))
                have bx3 : Blk (((wr.drewN nq).setCell ⟨gv, 0, none⟩ (.int .i64 nk)).setCell ⟨gv, 1, none⟩ (.int .u64 (nb : Int))) gx 31 #[.int .i64 x0, .int .i64 x1, .int .i64 x2, .int .i64 x3] := by
                  have b9 : Blk (wr.drewN nq) gx 31 #[.int .i64 x0, .int .i64 x1, .int .i64 x2, .int .i64 x3] := bx.out
                  exact (b9.else_ (p := ⟨gv, 0, none⟩) hgvx.out.2.1.symm _).else_ (p := ⟨gv, 1, none⟩) hgvx.out.2.1.symm _
                have hG3 : ww6.grownBy (((wr.drewN nq).setCell ⟨gv, 0, none⟩ (.int .i64 nk)).setCell ⟨gv, 1, none⟩ (.int .u64 (nb : Int))) (some gv) := by
                  have h9 : ww6.grownBy (wr.drewN nq) (some gv) := ⟨hG.out.os, hG.out.tape, hG.out.output, hG.out.size, hG.out.block⟩
                  exact mgrown (mgrown h9 (mset _ ⟨gv, 0, none⟩ _) (fun k hk => .inl hk)) (mset _ ⟨gv, 1, none⟩ _) (fun k hk => .inl hk)
                clear bv bx hG
                replace bv3 := Lib.hid bv3
                replace bx3 := Lib.hid bx3
                replace hG3 := Lib.hid hG3
                go_wp2
                go_roundw
                case rel => exact ⟨j, (nk, nb), by have := jj.out; omega, by go_num, hT2.out, bv3.out, bx3.out, hG3.out⟩
                case measure => simp [intOf]
              · have dq : decide ((j : Int) < (z1.length : Int)) = false := by simp; omega
                have jq : ¬ (j : Int) < (z1.length : Int) := by omega
                have hT2 := (lookTo_miss (ci := c.ins) (inputs := z1) (x := (x0, x1, x2, x3)) (v := (ck, cb)) (fun h => hq h.2)).symm.trans hT
                replace hT2 := Lib.hid hT2
                replace he := Lib.hid he
                replace bv := Lib.hid bv
                replace bx := Lib.hid bx
                replace hG := Lib.hid hG
                clear hlj hT hwy
                go_upto_region 12 with (fail)
                go_quiet (fail)
                have hG3 := Lib.hid (show ww6.grownBy (wr.drewN nq) (some gv) from ⟨hG.out.os, hG.out.tape, hG.out.output, hG.out.size, hG.out.block⟩)
                have bv3 := Lib.hid (show Blk (wr.drewN nq) gv 34 #[.int .i64 ck, .int .u64 (cb : Int)] from bv.out)
                have bx3 := Lib.hid (show Blk (wr.drewN nq) gx 31 #[.int .i64 x0, .int .i64 x1, .int .i64 x2, .int .i64 x3] from bx.out)
                clear hG bv bx
                go_wp2
                go_roundw
                case rel => exact ⟨j, (ck, cb), by have := jj.out; omega, by go_num, hT2.out, bv3.out, bx3.out, hG3.out⟩
                case measure => simp [intOf]
            · have he4 : ∀ w, (binOp .eql 31 (.agg #[.int .i64 y0, .int .i64 y1, .int .i64 y2, .int .i64 y3]) (.agg #[.int .i64 x0, .int .i64 x1, .int .i64 x2, .int .i64 x3])).run Try.prog w = .ok (.bool false) w := fun w => by rw [eql4]; simp only [he, decide_false]
              have hT2 := (lookTo_miss (ci := c.ins) (inputs := z1) (x := (x0, x1, x2, x3)) (v := (ck, cb)) (fun h => by
                have h2 := h.1
                rw [hy.out] at h2
                injection h2 with h2
                exact he h2)).symm.trans hT
              replace hT2 := Lib.hid hT2
              replace he := Lib.hid he
              replace bv := Lib.hid bv
              replace bx := Lib.hid bx
              replace hG := Lib.hid hG
              clear hlj hT hwy
              go_upto_region 12 with (fail)
              go_quiet (fail)
              have hG3 := Lib.hid (show ww6.grownBy (wr.drewN nq) (some gv) from ⟨hG.out.os, hG.out.tape, hG.out.output, hG.out.size, hG.out.block⟩)
              have bv3 := Lib.hid (show Blk (wr.drewN nq) gv 34 #[.int .i64 ck, .int .u64 (cb : Int)] from bv.out)
              have bx3 := Lib.hid (show Blk (wr.drewN nq) gx 31 #[.int .i64 x0, .int .i64 x1, .int .i64 x2, .int .i64 x3] from bx.out)
              clear hG bv bx
              go_wp2
              go_roundw
              case rel => exact ⟨j, (ck, cb), by have := jj.out; omega, by go_num, hT2.out, bv3.out, bx3.out, hG3.out⟩
              case measure => simp [intOf]
          · obtain rfl : j1 = 0 := by omega
            have hneg : ¬ ((0 : Nat) : Int) - 1 ≥ 0 := by omega
            replace hT : (ck, cb) = lookI c z1 (x0, x1, x2, x3) := hT
            have hsn2 := hsn.out
            rw [← hT] at hsn2
            replace hsn2 := Lib.hid hsn2
            have hOw := hO2.out.kept hG (.inr (fun e => by have := (hO3.out gv e).2; omega))
            have g0 : wr.cell? ⟨gv, 0, none⟩ = some (.int .i64 ck) := bv.cell 0
            have g1 : wr.cell? ⟨gv, 1, none⟩ = some (.int .u64 (cb : Int)) := bv.cell 1
            have hB4 := grown_below hB2.out hG hgvx.out.2.2
            have n3 : k + 1 ≤ maxLen := by unfold maxLen; omega
            have n4 : (k + 1) * 16 ≤ 140737488355328 := by omega
            have n5 : u4.heap.size ≤ wr.heap.size := hB4.size
            replace hB4 := Lib.hid hB4
            clear hT hsn hO2 hB2 hG bv bx bX2
            go_wp2_with (at_builtin; refine wpList_append_own _ rfl (.tmp 65) (.tmp 67) 23 rfl u4.heap.size 34 i0 (.agg #[.int .i64 0, .int .u64 0]) 2 16 Try.underlying23 hi.out hz0 hz1.out hz2.out rfl (by decide) u6 k (cellsV ((D.ins.take k).map (lookI c z1))) rfl (hOw.alloc _) ⟨wr.heap.size, 0, none⟩ 1 1 [.int .i64 ck, .int .u64 (cb : Int)] rfl rfl (news_2 _ _ _ _) (one_2 _ _) n3 n4 (Nat.le_trans n5 (by simp)) ?_; intro v' w7 hO7 hgrow _; have hB7 := Lib.hid (below_grow7 (hB4.out.alloc n5 (.cells #[.int .i64 ck, .int .u64 (cb : Int)] 34)) hgrow (fun g hg => (hOw.lt g hg).1)); replace hO7 := Lib.hid hO7; clear hgrow)
            go_roundw
            case rel => exact ⟨k + 1, by have := k3.out; omega, by go_num, by rw [hsn2.out]; exact hO7.out, hB7.out⟩
            case measure => have := k3.out; simp [intOf]; omega
      · obtain rfl : k = D.ins.length := by omega
        rw [List.take_length] at hO
        have hLl : (D.ins.map (lookI c z1)).length = D.ins.length := List.length_map ..
        have hlb : ∀ v ∈ D.ins.map (lookI c z1), v.2 < 18446744073709551616 := fun v hv => by
          obtain ⟨x, _, rfl⟩ := List.mem_map.1 hv
          exact lookTo_lt hbt.out _ _ (by decide)
        rw [← hLF.out] at hO hLl hlb
        obtain ⟨L, hL⟩ : ∃ L, leftOf c z1 = L := ⟨_, rfl⟩
        rw [hL] at hO hLl hlb
        have hsame2 := hsame.out
        rw [hL] at hsame2
        replace hsame2 := Lib.hid hsame2
        rw [← hLl] at hO
        obtain ⟨LA, lc, hLe, qL⟩ := own_row hO hlb
        have hLn : L.length ≤ 1024 := by omega
        subst hLe
        replace hL := Lib.hid hL
        replace hLl := Lib.hid hLl
        replace hlb := Lib.hid hlb
        obtain ⟨bX, bD, k4⟩ := kA.out
        replace bX := bX.kept hB
        replace bD := bD.kept hB
        replace k4 := k4.later hB
        have hw := below_more hw4.out hB
        have hc9 := hc.out.later hw
        have hi9 := hi1.out.later hw
        clear hO hlt hk hB hDI hsame hw4 hLF
        have a2 : wr.cell? ⟨w.heap.size, 2, none⟩ = some (.slice xA c.ins.length xC) := bX.cell 2
        have hI := Lib.hid (show QuadAt wr xA c.ins from hc9.ins)
        have hCs := Lib.hid (show RowV wr cA c.cs.length c.cs from hc9.cs)
        replace kA := Lib.hid (And.intro bX (And.intro bD (And.intro hc9 (And.intro k4 (And.intro hi9 (And.intro qL hw))))))
        clear bX bD k4 hc9 hi9 qL hw hCI
        generalize wr = uu at *
        go_wp2_with fail
        clear a2
        go_loopw [11, 73] (fun t i wr => ∃ k : Nat, k ≤ c.ins.length ∧ i = .int .i64 (k : Int) ∧ t = .bool ((c.ins.take k).all inputB) ∧ Below uu.heap.size uu wr) (fun _ i _ => c.ins.length - (intOf i).toNat)
        case atStart => exact ⟨0, Nat.zero_le _, rfl, by simp, Below.refl _ _⟩
        case round =>
          obtain ⟨k, hk, rfl, rfl, hb⟩ := hrel
          by_cases hlt : k < c.ins.length
          · obtain ⟨bb, off, hA, hcells⟩ := hI.out (by omega)
            have hx := List.getElem?_eq_getElem hlt
            obtain ⟨q0, q1, q2, q3⟩ := hcells k _ hx
            have hsn := any_snoc c.ins k _ inputB hx
            replace q0 := cell_later hb q0
            replace q1 := cell_later hb q1
            replace q2 := cell_later hb q2
            replace q3 := cell_later hb q3
            clear hcells hx
            generalize c.ins[k] = x at *
            obtain ⟨op, kd, ps, at_⟩ := x
            dsimp only at q0 q1 q2 q3
            have LL := Lib.hid (rinput_any op kd ps at_)
            replace hsn := Lib.hid hsn
            generalize (c.ins.take k).all inputB = tk at *
            generalize inputB (op, kd, ps, at_) = y at *
            have k0 : (0 : Int) ≤ (k : Int) := by omega
            have k1 : (k : Int) < (c.ins.length : Int) := by omega
            have k3 := Lib.hid hlt
            have hb2 := hb.alloc hb.size (.cells #[.int .i64 op, .int .i64 kd, .int .i64 ps, .int .i64 at_] 31)
            subst hA
            cases tk with
            | false =>
              have hn : (c.ins.take (k + 1)).all inputB = false := by rw [hsn.out]; rfl
              go_wp2
              go_roundw
              case rel => exact ⟨k + 1, by have := k3.out; omega, by go_num, by rw [hn], hb2⟩
              case measure => have := k3.out; simp [intOf]; omega
            | true =>
              have hn : (c.ins.take (k + 1)).all inputB = y := by rw [hsn.out]; rfl
              replace hn := Lib.hid hn
              go_wp2_with fail
              refine (LL.out _).mono ?_; rintro e w2 ⟨rfl, hb1⟩
              have hb3 := below_more hb2 hb1
              clear hb1 LL
              go_wp2
              go_roundw
              case rel => exact ⟨k + 1, by have := k3.out; omega, by go_num, by rw [hn.out], hb3⟩
              case measure => have := k3.out; simp [intOf]; omega
          · obtain rfl : k = c.ins.length := by omega
            rw [List.take_length]
            have a3 : wr.cell? ⟨w.heap.size, 3, none⟩ = some (.slice cA c.cs.length cC) := (kA.out.1.kept hb).cell 3
            clear hlt
            generalize hb1e : c.ins.all inputB = b1 at *
            replace hb1e := Lib.hid hb1e
            go_wp2_with fail
            go_loopw [11, 86] (fun t i wr => ∃ k : Nat, k ≤ c.cs.length ∧ i = .int .i64 (k : Int) ∧ t = .bool (b1 && (c.cs.take k).all cleanB) ∧ Below uu.heap.size uu wr) (fun _ i _ => c.cs.length - (intOf i).toNat)
            case atStart => exact ⟨0, Nat.zero_le _, rfl, by simp, hb⟩
            case round =>
              clear hb a3
              obtain ⟨k, hk, rfl, rfl, hb⟩ := hrel
              by_cases hlt : k < c.cs.length
              · obtain ⟨b2, off, hA, hcells⟩ := hCs.out.2.2 (by omega)
                have hx := List.getElem?_eq_getElem hlt
                obtain ⟨q0, q1⟩ := hcells k c.cs[k].1 c.cs[k].2 hx
                have hbit := hCs.out.2.1 _ (List.getElem_mem hlt)
                have hsn := any_snoc c.cs k _ cleanB hx
                replace q0 := cell_later hb q0
                replace q1 := cell_later hb q1
                clear hcells hx
                generalize c.cs[k] = x at *
                obtain ⟨kd, b⟩ := x
                dsimp only at q0 q1 hbit
                have hCl := fun u => rclean_any kd b u hbit
                have hE : decide (clK kd b = kd ∧ ((clB kd b : Nat) : Int) = (b : Int)) = cleanB (kd, b) := by
                  unfold cleanB clV
                  simp only [Prod.mk.injEq]
                  congr 1
                  exact propext ⟨fun h => ⟨h.1, by omega⟩, fun h => ⟨h.1, by omega⟩⟩
                replace hsn := Lib.hid hsn
                generalize (c.cs.take k).all cleanB = tk at *
                generalize cleanB (kd, b) = y at *
                generalize clK kd b = kk at *
                generalize clB kd b = bb at *
                replace hCl := Lib.hid hCl
                replace hE := Lib.hid hE
                have k0 : (0 : Int) ≤ (k : Int) := by omega
                have k1 : (k : Int) < (c.cs.length : Int) := by omega
                have k3 := Lib.hid hlt
                have hb2 := hb.alloc hb.size (.cells #[.int .i64 kd, .int .u64 (b : Int)] 34)
                have kB := Blk.made wr 34 #[.int .i64 kd, .int .u64 (b : Int)]
                subst hA
                cases hbt9 : (b1 && tk) with
                | false =>
                  have hn : (b1 && (c.cs.take (k + 1)).all cleanB) = false := by rw [hsn.out]; cases b1 <;> cases tk <;> simp_all
                  clear hbt9 kB
                  go_wp2_with fail
                  go_quiet (fail)
                  have hb4 := bdrewL hb2 nq
                  go_wp2
                  go_roundw
                  case rel => exact ⟨k + 1, by have := k3.out; omega, by go_num, by rw [hn], hb4⟩
                  case measure => have := k3.out; simp [intOf]; omega
                | true =>
                  have hn : (b1 && (c.cs.take (k + 1)).all cleanB) = y := by rw [hsn.out]; cases b1 <;> cases tk <;> simp_all
                  replace hn := Lib.hid (hn.trans hE.out.symm)
                  clear hbt9 hb hE
                  go_upto_region 25 with (fail)
                  clear q0 q1
                  have hb3 := hb2
                  clear hb2
                  generalize wr.alloc (.cells #[.int .i64 kd, .int .u64 (b : Int)] 34) = u5 at *
                  generalize wr.heap.size = g8 at *
                  have KD := slotk_keeps 11 (.bool true)
                  have KC : G.KeepsC (fun w' => Blk w' g8 34 #[.int .i64 kd, .int .u64 (b : Int)] ∧ Below uu.heap.size uu w') := fun _ _ h hb => ⟨h.1.kept hb, below_more h.2 hb⟩
                  refine G.region_wordsG 7 (fun w' => Blk w' g8 34 #[.int .i64 kd, .int .u64 (b : Int)] ∧ Below uu.heap.size uu w') (fun (a : Act) (_ : World) => (a.tmps[11]?).getD undef = .bool true) [G.isW (.bool true), G.isW (.bool true), G.isW (.agg #[.int .i64 kd, .int .u64 (b : Int)]), G.isW (.agg #[.int .i64 kk, .int .u64 (bb : Int)]), G.isW (.agg #[.int .i64 kd, .int .u64 (b : Int)]), G.isW (.bool (decide (kk = kd ∧ (bb : Int) = (b : Int)))), G.isW (.bool (decide (kk = kd ∧ (bb : Int) = (b : Int))))] (by kernel_rfl) (by repeat' (first | exact G.monoL_nil | exact G.is_mono _ | exact G.any_mono | refine G.monoL_cons ?_ ?_)) (by kernel_rfl) (by kernel_rfl) ⟨kB.kept (Below.refl _ _).drew, hb3.drew⟩ rfl ?_ ?_
                  ·
                    refine G.stepsL_cons (fun a u hc hdd hd hk hdep => ?_) ?_
                    ·
                      have d11 := hdd
                      refine G.step_val KC KD hc hdd rfl (.bool true) u (G.wanted_plain rfl) ?_ rfl (Below.refl _ _)
                      first | (go_simp; done) | rfl | (simp [go_sem, *]; done)
                    refine G.stepsL_cons (fun a u hc hdd hd hk hdep => ?_) ?_
                    ·
                      have d90 : (a.tmps[90]?).getD undef = (.bool true) := hdep ⟨0, .data⟩ (by simp) rfl
                      refine G.step_val KC KD hc hdd rfl (.bool true) u (G.wanted_plain rfl) ?_ rfl (Below.refl _ _)
                      first | (go_simp; done) | rfl | (simp [go_sem, *]; done)
                    refine G.stepsL_cons (fun a u hc hdd hd hk hdep => ?_) ?_
                    ·
                      have d15 : (a.tmps[15]?).getD undef = (.pointer (some ⟨g8, 0, none⟩)) := hk 15 (by kernel_rfl)
                      refine G.step_val KC KD hc hdd rfl (.agg #[.int .i64 kd, .int .u64 (b : Int)]) u ((G.wanted_guard (j := 1) (b := true) (c := true) rfl (hdep ⟨1, .guard⟩ (by simp) rfl)).trans rfl) ?_ rfl (Below.refl _ _)
                      have s0 : u.cell? ⟨g8, 0, none⟩ = some (.int .i64 kd) := hc.1.cell 0
                      have s1 : u.cell? ⟨g8, 1, none⟩ = some (.int .u64 (b : Int)) := hc.1.cell 1
                      first | (go_simp; done) | rfl | (simp [go_sem, *]; done)
                    refine G.stepsL_cons (fun a u hc hdd hd hk hdep => ?_) ?_
                    ·
                      have d92 : (a.tmps[92]?).getD undef = (.agg #[.int .i64 kd, .int .u64 (b : Int)]) := hdep ⟨2, .data⟩ (by simp) rfl
                      refine G.step_call KC KD hc hdd rfl 8 #[.agg #[.int .i64 kd, .int .u64 (b : Int)]] ((G.wanted_guard (j := 1) (b := true) (c := true) rfl (hdep ⟨1, .chain⟩ (by simp) rfl)).trans rfl) (by first | (go_simp; done) | rfl) ?_
                      exact (hCl.out u).mono (by rintro e w' ⟨rfl, hb⟩; exact ⟨_, rfl, rfl, hb⟩)
                    refine G.stepsL_cons (fun a u hc hdd hd hk hdep => ?_) ?_
                    ·
                      have d15 : (a.tmps[15]?).getD undef = (.pointer (some ⟨g8, 0, none⟩)) := hk 15 (by kernel_rfl)
                      refine G.step_val KC KD hc hdd rfl (.agg #[.int .i64 kd, .int .u64 (b : Int)]) u ((G.wanted_guard (j := 1) (b := true) (c := true) rfl (hdep ⟨1, .guard⟩ (by simp) rfl)).trans rfl) ?_ rfl (Below.refl _ _)
                      have s0 : u.cell? ⟨g8, 0, none⟩ = some (.int .i64 kd) := hc.1.cell 0
                      have s1 : u.cell? ⟨g8, 1, none⟩ = some (.int .u64 (b : Int)) := hc.1.cell 1
                      first | (go_simp; done) | rfl | (simp [go_sem, *]; done)
                    refine G.stepsL_cons (fun a u hc hdd hd hk hdep => ?_) ?_
                    ·
                      have d93 : (a.tmps[93]?).getD undef = (.agg #[.int .i64 kk, .int .u64 (bb : Int)]) := hdep ⟨3, .data⟩ (by simp) rfl
                      have d94 : (a.tmps[94]?).getD undef = (.agg #[.int .i64 kd, .int .u64 (b : Int)]) := hdep ⟨4, .data⟩ (by simp) rfl
                      refine G.step_val KC KD hc hdd rfl (.bool (decide (kk = kd ∧ (bb : Int) = (b : Int)))) u ((G.wanted_guard (j := 1) (b := true) (c := true) rfl (hdep ⟨1, .guard⟩ (by simp) rfl)).trans rfl) ?_ rfl (Below.refl _ _)
                      go_simp
                      by_cases e1 : kk = kd <;> by_cases e2 : (bb : Int) = (b : Int) <;> simp [e1, e2]
                    refine G.stepsL_cons (fun a u hc hdd hd hk hdep => ?_) ?_
                    ·
                      have d91 : (a.tmps[91]?).getD undef = (.bool true) := hdep ⟨1, .data⟩ (by simp) rfl
                      have d95 : (a.tmps[95]?).getD undef = (.bool (decide (kk = kd ∧ (bb : Int) = (b : Int)))) := hdep ⟨5, .data⟩ (by simp) rfl
                      refine G.step_val KC KD hc hdd rfl (.bool (decide (kk = kd ∧ (bb : Int) = (b : Int)))) u (G.wanted_plain rfl) ?_ rfl (Below.refl _ _)
                      first | (go_simp; done) | rfl | (simp [go_sem, *]; done)
                    exact G.stepsL_nil
                  intro vs' wN hNN _ hh
                  have eL : vs' 6 = (.bool (decide (kk = kd ∧ (bb : Int) = (b : Int)))) := by
                    obtain ⟨-, -, -, -, -, -, eX, -⟩ := hh
                    exact eX
                  clear hh kB hb3
                  obtain ⟨-, hb4⟩ := hNN
                  set_option maxRecDepth 100000 in simp only [List.take_succ_cons, List.take_zero, putAll, Act.put, List.setIfInBounds_toArray, List.set_cons_zero, List.set_cons_succ, Nat.reduceAdd, eL]
                  clear eL
                  refine wpAny_ready (rs := [7]) (by kernel_rfl) (by simp) ?_
                  refine AllReady.cons rfl (fun K hK => ?_) AllReady.nil
                  go_simp
                  refine hK _ _ ?_
                  clear hK K
                  refine wpAny_done (by kernel_rfl) ?_ _
                  go_wp2
                  go_roundw
                  case rel => exact ⟨k + 1, by have := k3.out; omega, by go_num, by rw [hn.out]; simp, hb4⟩
                  case measure => have := k3.out; simp [intOf]; omega
              · obtain rfl : k = c.cs.length := by omega
                rw [List.take_length]
                clear hlt
                have hgd := hgood.out
                obtain ⟨gb, hgb⟩ : ∃ g, goodC c = g := ⟨_, rfl⟩
                rw [hgb] at hgd
                rw [← hgd]
                have GD := Lib.hid (fun u h => vgood_any c ⟨xA, xC, cA, cC, lA, lC⟩ u h)
                rw [hgb] at GD
                have TW := Lib.hid (fun u h => twice_any c ⟨xA, xC, cA, cC, lA, lC⟩ u h)
                have RV := Lib.hid (fun u h1 h2 => vrun_any c ⟨xA, xC, cA, cC, lA, lC⟩ A1 z1.length c1 z1 u h1 h2 (by omega))
                have RD := Lib.hid (fun u h1 h2 => vrun_any D ⟨yA, yC, dA, dC, mA, mC⟩ LA L.length lc L u h1 h2 (by omega))
                obtain ⟨tb, htb⟩ : ∃ t, twiceB c = t := ⟨_, rfl⟩
                rw [htb] at TW
                have hs9 := hsame2.out
                rw [htb] at hs9
                obtain ⟨bX, bD, kc, k4, ki, qL, hw⟩ := kA.out
                replace bX := bX.kept hb
                replace bD := bD.kept hb
                replace kc := kc.later hb
                replace k4 := k4.later hb
                replace ki := ki.later hb
                replace qL := qL.later hb
                replace hw := below_more hw hb
                clear kA hb htb hgb hgd hk
                cases tb with
                | true =>
                  clear hs9
                  go_upto_region 27 with (fail)
                  have KD := G.keepsD_true []
                  refine G.region_words (fun w' => Blk w' w.heap.size 26 #[.int .i64 c.regs, .int .i64 c.slots, .slice xA c.ins.length xC, .slice cA c.cs.length cC, .slice lA c.list.length lC] ∧ Blk w' gd 26 #[.int .i64 D.regs, .int .i64 D.slots, .slice yA D.ins.length yC, .slice dA D.cs.length dC, .slice mA D.list.length mC] ∧ CodeIn w' c ⟨xA, xC, cA, cC, lA, lC⟩ ∧ CodeIn w' D ⟨yA, yC, dA, dC, mA, mC⟩ ∧ RowV w' A1 z1.length z1 ∧ RowV w' LA L.length L ∧ Below w.heap.size w w') [G.isW (.agg #[.int .i64 c.regs, .int .i64 c.slots, .slice xA c.ins.length xC, .slice cA c.cs.length cC, .slice lA c.list.length lC]), G.isW (.bool true), G.isW (.bool true), G.isW undef, G.isW undef, G.isW undef, G.isW undef, G.isW undef, G.isW undef, G.isW undef, G.isW (.bool true), G.isW (.bool true), G.isW (.agg #[.int .i64 c.regs, .int .i64 c.slots, .slice xA c.ins.length xC, .slice cA c.cs.length cC, .slice lA c.list.length lC]), G.isW (.bool gb), G.isW (.bool gb), G.isW (.bool true), G.isW (.bool true), G.isW (.bool true)] (by kernel_rfl) (by repeat' (first | exact G.monoL_nil | exact G.is_mono _ | exact G.any_mono | refine G.monoL_cons ?_ ?_)) (by kernel_rfl) (by kernel_rfl) (fun _ _ h hb => ⟨h.1.kept hb, h.2.1.kept hb, h.2.2.1.later hb, h.2.2.2.1.later hb, h.2.2.2.2.1.later hb, h.2.2.2.2.2.1.later hb, below_more h.2.2.2.2.2.2 hb⟩) ⟨bX.kept (Below.refl _ _).drew, bD.kept (Below.refl _ _).drew, kc.later (Below.refl _ _).drew, k4.later (Below.refl _ _).drew, ki.later (Below.refl _ _).drew, qL.later (Below.refl _ _).drew, hw.drew⟩ ?_ ?_
                  · intro KC
                    refine G.stepsL_cons (fun a u hc hdd hd hk hdep => ?_) ?_
                    ·
                      have d2 : (a.tmps[2]?).getD undef = (.pointer (some ⟨w.heap.size, 0, none⟩)) := hk 2 (by kernel_rfl)
                      refine G.step_val KC KD hc hdd rfl (.agg #[.int .i64 c.regs, .int .i64 c.slots, .slice xA c.ins.length xC, .slice cA c.cs.length cC, .slice lA c.list.length lC]) u (G.wanted_plain rfl) ?_ rfl (Below.refl _ _)
                      have s0 : u.cell? ⟨w.heap.size, 0, none⟩ = some (.int .i64 c.regs) := hc.1.cell 0
                      have s1 : u.cell? ⟨w.heap.size, 1, none⟩ = some (.int .i64 c.slots) := hc.1.cell 1
                      have s2 : u.cell? ⟨w.heap.size, 2, none⟩ = some (.slice xA c.ins.length xC) := hc.1.cell 2
                      have s3 : u.cell? ⟨w.heap.size, 3, none⟩ = some (.slice cA c.cs.length cC) := hc.1.cell 3
                      have s4 : u.cell? ⟨w.heap.size, 4, none⟩ = some (.slice lA c.list.length lC) := hc.1.cell 4
                      have t0 : u.cell? ⟨gd, 0, none⟩ = some (.int .i64 D.regs) := hc.2.1.cell 0
                      have t1 : u.cell? ⟨gd, 1, none⟩ = some (.int .i64 D.slots) := hc.2.1.cell 1
                      have t2 : u.cell? ⟨gd, 2, none⟩ = some (.slice yA D.ins.length yC) := hc.2.1.cell 2
                      have t3 : u.cell? ⟨gd, 3, none⟩ = some (.slice dA D.cs.length dC) := hc.2.1.cell 3
                      have t4 : u.cell? ⟨gd, 4, none⟩ = some (.slice mA D.list.length mC) := hc.2.1.cell 4
                      first | (go_simp; done) | rfl | (simp [go_sem, *]; done)
                    refine G.stepsL_cons (fun a u hc hdd hd hk hdep => ?_) ?_
                    ·
                      have d98 : (a.tmps[98]?).getD undef = (.agg #[.int .i64 c.regs, .int .i64 c.slots, .slice xA c.ins.length xC, .slice cA c.cs.length cC, .slice lA c.list.length lC]) := hdep ⟨0, .data⟩ (by simp) rfl
                      refine G.step_call KC KD hc hdd rfl 9 #[.agg #[.int .i64 c.regs, .int .i64 c.slots, .slice xA c.ins.length xC, .slice cA c.cs.length cC, .slice lA c.list.length lC]] (G.wanted_plain rfl) (by first | (go_simp; done) | rfl) ?_
                      exact (TW.out u hc.2.2.1).mono (by rintro e w' ⟨rfl, hb⟩; exact ⟨_, rfl, rfl, hb⟩)
                    refine G.stepsL_cons (fun a u hc hdd hd hk hdep => ?_) ?_
                    ·
                      have d99 : (a.tmps[99]?).getD undef = (.bool true) := hdep ⟨1, .data⟩ (by simp) rfl
                      refine G.step_val KC KD hc hdd rfl (.bool true) u (G.wanted_plain rfl) ?_ rfl (Below.refl _ _)
                      first | (go_simp; done) | rfl | (simp [go_sem, *]; done)
                    refine G.stepsL_cons (fun a u hc hdd hd hk hdep => ?_) ?_
                    · exact G.step_skip KD hc hdd rfl ((G.wanted_guard (j := 2) (b := false) (c := true) rfl (hdep ⟨2, .guard⟩ (by simp) rfl)).trans rfl) rfl
                    refine G.stepsL_cons (fun a u hc hdd hd hk hdep => ?_) ?_
                    · exact G.step_skip KD hc hdd rfl ((G.wanted_guard (j := 2) (b := false) (c := true) rfl (hdep ⟨2, .guard⟩ (by simp) rfl)).trans rfl) rfl
                    refine G.stepsL_cons (fun a u hc hdd hd hk hdep => ?_) ?_
                    · exact G.step_skip KD hc hdd rfl ((G.wanted_guard (j := 2) (b := false) (c := true) rfl (hdep ⟨2, .chain⟩ (by simp) rfl)).trans rfl) rfl
                    refine G.stepsL_cons (fun a u hc hdd hd hk hdep => ?_) ?_
                    · exact G.step_skip KD hc hdd rfl ((G.wanted_guard (j := 2) (b := false) (c := true) rfl (hdep ⟨2, .guard⟩ (by simp) rfl)).trans rfl) rfl
                    refine G.stepsL_cons (fun a u hc hdd hd hk hdep => ?_) ?_
                    · exact G.step_skip KD hc hdd rfl ((G.wanted_guard (j := 2) (b := false) (c := true) rfl (hdep ⟨2, .guard⟩ (by simp) rfl)).trans rfl) rfl
                    refine G.stepsL_cons (fun a u hc hdd hd hk hdep => ?_) ?_
                    · exact G.step_skip KD hc hdd rfl ((G.wanted_guard (j := 2) (b := false) (c := true) rfl (hdep ⟨2, .guard⟩ (by simp) rfl)).trans rfl) rfl
                    refine G.stepsL_cons (fun a u hc hdd hd hk hdep => ?_) ?_
                    · exact G.step_skip KD hc hdd rfl ((G.wanted_guard (j := 2) (b := false) (c := true) rfl (hdep ⟨2, .guard⟩ (by simp) rfl)).trans rfl) rfl
                    refine G.stepsL_cons (fun a u hc hdd hd hk hdep => ?_) ?_
                    ·
                      have d100 : (a.tmps[100]?).getD undef = (.bool true) := hdep ⟨2, .data⟩ (by simp) rfl
                      have d107 : (a.tmps[107]?).getD undef = undef := hdep ⟨9, .data⟩ (by simp) rfl
                      refine G.step_val KC KD hc hdd rfl (.bool true) u (G.wanted_plain rfl) ?_ rfl (Below.refl _ _)
                      first | (go_simp; done) | rfl | (simp [go_sem, *]; done)
                    refine G.stepsL_cons (fun a u hc hdd hd hk hdep => ?_) ?_
                    ·
                      have d108 : (a.tmps[108]?).getD undef = (.bool true) := hdep ⟨10, .data⟩ (by simp) rfl
                      refine G.step_val KC KD hc hdd rfl (.bool true) u (G.wanted_plain rfl) ?_ rfl (Below.refl _ _)
                      first | (go_simp; done) | rfl | (simp [go_sem, *]; done)
                    refine G.stepsL_cons (fun a u hc hdd hd hk hdep => ?_) ?_
                    ·
                      have d2 : (a.tmps[2]?).getD undef = (.pointer (some ⟨w.heap.size, 0, none⟩)) := hk 2 (by kernel_rfl)
                      refine G.step_val KC KD hc hdd rfl (.agg #[.int .i64 c.regs, .int .i64 c.slots, .slice xA c.ins.length xC, .slice cA c.cs.length cC, .slice lA c.list.length lC]) u ((G.wanted_guard (j := 11) (b := true) (c := true) rfl (hdep ⟨11, .guard⟩ (by simp) rfl)).trans rfl) ?_ rfl (Below.refl _ _)
                      have s0 : u.cell? ⟨w.heap.size, 0, none⟩ = some (.int .i64 c.regs) := hc.1.cell 0
                      have s1 : u.cell? ⟨w.heap.size, 1, none⟩ = some (.int .i64 c.slots) := hc.1.cell 1
                      have s2 : u.cell? ⟨w.heap.size, 2, none⟩ = some (.slice xA c.ins.length xC) := hc.1.cell 2
                      have s3 : u.cell? ⟨w.heap.size, 3, none⟩ = some (.slice cA c.cs.length cC) := hc.1.cell 3
                      have s4 : u.cell? ⟨w.heap.size, 4, none⟩ = some (.slice lA c.list.length lC) := hc.1.cell 4
                      have t0 : u.cell? ⟨gd, 0, none⟩ = some (.int .i64 D.regs) := hc.2.1.cell 0
                      have t1 : u.cell? ⟨gd, 1, none⟩ = some (.int .i64 D.slots) := hc.2.1.cell 1
                      have t2 : u.cell? ⟨gd, 2, none⟩ = some (.slice yA D.ins.length yC) := hc.2.1.cell 2
                      have t3 : u.cell? ⟨gd, 3, none⟩ = some (.slice dA D.cs.length dC) := hc.2.1.cell 3
                      have t4 : u.cell? ⟨gd, 4, none⟩ = some (.slice mA D.list.length mC) := hc.2.1.cell 4
                      first | (go_simp; done) | rfl | (simp [go_sem, *]; done)
                    refine G.stepsL_cons (fun a u hc hdd hd hk hdep => ?_) ?_
                    ·
                      have d110 : (a.tmps[110]?).getD undef = (.agg #[.int .i64 c.regs, .int .i64 c.slots, .slice xA c.ins.length xC, .slice cA c.cs.length cC, .slice lA c.list.length lC]) := hdep ⟨12, .data⟩ (by simp) rfl
                      refine G.step_call KC KD hc hdd rfl 11 #[.agg #[.int .i64 c.regs, .int .i64 c.slots, .slice xA c.ins.length xC, .slice cA c.cs.length cC, .slice lA c.list.length lC]] ((G.wanted_guard (j := 11) (b := true) (c := true) rfl (hdep ⟨11, .chain⟩ (by simp) rfl)).trans rfl) (by first | (go_simp; done) | rfl) ?_
                      exact (GD.out u hc.2.2.1).mono (by rintro e w' ⟨rfl, hb⟩; exact ⟨_, rfl, rfl, hb⟩)
                    refine G.stepsL_cons (fun a u hc hdd hd hk hdep => ?_) ?_
                    ·
                      have d11 : (a.tmps[11]?).getD undef = (.bool gb) := hk 11 (by kernel_rfl)
                      refine G.step_val KC KD hc hdd rfl (.bool gb) u ((G.wanted_guard (j := 11) (b := true) (c := true) rfl (hdep ⟨11, .guard⟩ (by simp) rfl)).trans rfl) ?_ rfl (Below.refl _ _)
                      first | (go_simp; done) | rfl | (simp [go_sem, *]; done)
                    refine G.stepsL_cons (fun a u hc hdd hd hk hdep => ?_) ?_
                    ·
                      have d111 : (a.tmps[111]?).getD undef = (.bool gb) := hdep ⟨13, .data⟩ (by simp) rfl
                      have d112 : (a.tmps[112]?).getD undef = (.bool gb) := hdep ⟨14, .data⟩ (by simp) rfl
                      refine G.step_val KC KD hc hdd rfl (.bool true) u ((G.wanted_guard (j := 11) (b := true) (c := true) rfl (hdep ⟨11, .guard⟩ (by simp) rfl)).trans rfl) ?_ rfl (Below.refl _ _)
                      first | (go_simp; done) | rfl | (simp [go_sem, *]; done)
                    refine G.stepsL_cons (fun a u hc hdd hd hk hdep => ?_) ?_
                    ·
                      have d109 : (a.tmps[109]?).getD undef = (.bool true) := hdep ⟨11, .data⟩ (by simp) rfl
                      have d113 : (a.tmps[113]?).getD undef = (.bool true) := hdep ⟨15, .data⟩ (by simp) rfl
                      refine G.step_val KC KD hc hdd rfl (.bool true) u (G.wanted_plain rfl) ?_ rfl (Below.refl _ _)
                      first | (go_simp; done) | rfl | (simp [go_sem, *]; done)
                    refine G.stepsL_cons (fun a u hc hdd hd hk hdep => ?_) ?_
                    ·
                      have d114 : (a.tmps[114]?).getD undef = (.bool true) := hdep ⟨16, .data⟩ (by simp) rfl
                      refine G.step_val KC KD hc hdd rfl (.bool true) u (G.wanted_plain rfl) ?_ rfl (Below.refl _ _)
                      first | (go_simp; done) | rfl | (simp [go_sem, *]; done)
                    exact G.stepsL_nil
                  intro vs' wN hNN hh
                  have eL : vs' 17 = (.bool true) := by
                    obtain ⟨-, -, -, -, -, -, -, -, -, -, -, -, -, -, -, -, -, eX, -⟩ := hh
                    exact eX
                  clear hh
                  obtain ⟨-, -, -, -, -, -, hBB⟩ := hNN
                  clear bX bD kc k4 ki qL hw
                  set_option maxRecDepth 100000 in simp only [List.take_succ_cons, List.take_zero, putAll, Act.put, List.setIfInBounds_toArray, List.set_cons_zero, List.set_cons_succ, Nat.reduceAdd, eL]
                  clear eL
                  go_wp2
                  go_ret
                  exact ⟨rfl, hBB⟩
                | false =>
                  have hs8 := hs9 rfl
                  clear hs9
                  rw [hs8] at RD
                  generalize codeRun c z1 = y9 at *
                  obtain ⟨yk, yb⟩ := y9
                  clear hs8
                  go_upto_region 27 with (fail)
                  have KD := G.keepsD_true []
                  refine G.region_words (fun w' => Blk w' w.heap.size 26 #[.int .i64 c.regs, .int .i64 c.slots, .slice xA c.ins.length xC, .slice cA c.cs.length cC, .slice lA c.list.length lC] ∧ Blk w' gd 26 #[.int .i64 D.regs, .int .i64 D.slots, .slice yA D.ins.length yC, .slice dA D.cs.length dC, .slice mA D.list.length mC] ∧ CodeIn w' c ⟨xA, xC, cA, cC, lA, lC⟩ ∧ CodeIn w' D ⟨yA, yC, dA, dC, mA, mC⟩ ∧ RowV w' A1 z1.length z1 ∧ RowV w' LA L.length L ∧ Below w.heap.size w w') [G.isW (.agg #[.int .i64 c.regs, .int .i64 c.slots, .slice xA c.ins.length xC, .slice cA c.cs.length cC, .slice lA c.list.length lC]), G.isW (.bool false), G.isW (.bool false), G.isW (.agg #[.int .i64 c.regs, .int .i64 c.slots, .slice xA c.ins.length xC, .slice cA c.cs.length cC, .slice lA c.list.length lC]), G.isW (.slice A1 z1.length c1), G.isW (.agg #[.int .i64 yk, .int .u64 (yb : Int)]), G.isW (.agg #[.int .i64 D.regs, .int .i64 D.slots, .slice yA D.ins.length yC, .slice dA D.cs.length dC, .slice mA D.list.length mC]), G.isW (.slice LA L.length lc), G.isW (.agg #[.int .i64 yk, .int .u64 (yb : Int)]), G.isW (.bool true), G.isW (.bool true), G.isW (.bool true), G.isW (.agg #[.int .i64 c.regs, .int .i64 c.slots, .slice xA c.ins.length xC, .slice cA c.cs.length cC, .slice lA c.list.length lC]), G.isW (.bool gb), G.isW (.bool gb), G.isW (.bool true), G.isW (.bool true), G.isW (.bool true)] (by kernel_rfl) (by repeat' (first | exact G.monoL_nil | exact G.is_mono _ | exact G.any_mono | refine G.monoL_cons ?_ ?_)) (by kernel_rfl) (by kernel_rfl) (fun _ _ h hb => ⟨h.1.kept hb, h.2.1.kept hb, h.2.2.1.later hb, h.2.2.2.1.later hb, h.2.2.2.2.1.later hb, h.2.2.2.2.2.1.later hb, below_more h.2.2.2.2.2.2 hb⟩) ⟨bX.kept (Below.refl _ _).drew, bD.kept (Below.refl _ _).drew, kc.later (Below.refl _ _).drew, k4.later (Below.refl _ _).drew, ki.later (Below.refl _ _).drew, qL.later (Below.refl _ _).drew, hw.drew⟩ ?_ ?_
                  · intro KC
                    refine G.stepsL_cons (fun a u hc hdd hd hk hdep => ?_) ?_
                    ·
                      have d2 : (a.tmps[2]?).getD undef = (.pointer (some ⟨w.heap.size, 0, none⟩)) := hk 2 (by kernel_rfl)
                      refine G.step_val KC KD hc hdd rfl (.agg #[.int .i64 c.regs, .int .i64 c.slots, .slice xA c.ins.length xC, .slice cA c.cs.length cC, .slice lA c.list.length lC]) u (G.wanted_plain rfl) ?_ rfl (Below.refl _ _)
                      have s0 : u.cell? ⟨w.heap.size, 0, none⟩ = some (.int .i64 c.regs) := hc.1.cell 0
                      have s1 : u.cell? ⟨w.heap.size, 1, none⟩ = some (.int .i64 c.slots) := hc.1.cell 1
                      have s2 : u.cell? ⟨w.heap.size, 2, none⟩ = some (.slice xA c.ins.length xC) := hc.1.cell 2
                      have s3 : u.cell? ⟨w.heap.size, 3, none⟩ = some (.slice cA c.cs.length cC) := hc.1.cell 3
                      have s4 : u.cell? ⟨w.heap.size, 4, none⟩ = some (.slice lA c.list.length lC) := hc.1.cell 4
                      have t0 : u.cell? ⟨gd, 0, none⟩ = some (.int .i64 D.regs) := hc.2.1.cell 0
                      have t1 : u.cell? ⟨gd, 1, none⟩ = some (.int .i64 D.slots) := hc.2.1.cell 1
                      have t2 : u.cell? ⟨gd, 2, none⟩ = some (.slice yA D.ins.length yC) := hc.2.1.cell 2
                      have t3 : u.cell? ⟨gd, 3, none⟩ = some (.slice dA D.cs.length dC) := hc.2.1.cell 3
                      have t4 : u.cell? ⟨gd, 4, none⟩ = some (.slice mA D.list.length mC) := hc.2.1.cell 4
                      first | (go_simp; done) | rfl | (simp [go_sem, *]; done)
                    refine G.stepsL_cons (fun a u hc hdd hd hk hdep => ?_) ?_
                    ·
                      have d98 : (a.tmps[98]?).getD undef = (.agg #[.int .i64 c.regs, .int .i64 c.slots, .slice xA c.ins.length xC, .slice cA c.cs.length cC, .slice lA c.list.length lC]) := hdep ⟨0, .data⟩ (by simp) rfl
                      refine G.step_call KC KD hc hdd rfl 9 #[.agg #[.int .i64 c.regs, .int .i64 c.slots, .slice xA c.ins.length xC, .slice cA c.cs.length cC, .slice lA c.list.length lC]] (G.wanted_plain rfl) (by first | (go_simp; done) | rfl) ?_
                      exact (TW.out u hc.2.2.1).mono (by rintro e w' ⟨rfl, hb⟩; exact ⟨_, rfl, rfl, hb⟩)
                    refine G.stepsL_cons (fun a u hc hdd hd hk hdep => ?_) ?_
                    ·
                      have d99 : (a.tmps[99]?).getD undef = (.bool false) := hdep ⟨1, .data⟩ (by simp) rfl
                      refine G.step_val KC KD hc hdd rfl (.bool false) u (G.wanted_plain rfl) ?_ rfl (Below.refl _ _)
                      first | (go_simp; done) | rfl | (simp [go_sem, *]; done)
                    refine G.stepsL_cons (fun a u hc hdd hd hk hdep => ?_) ?_
                    ·
                      have d2 : (a.tmps[2]?).getD undef = (.pointer (some ⟨w.heap.size, 0, none⟩)) := hk 2 (by kernel_rfl)
                      refine G.step_val KC KD hc hdd rfl (.agg #[.int .i64 c.regs, .int .i64 c.slots, .slice xA c.ins.length xC, .slice cA c.cs.length cC, .slice lA c.list.length lC]) u ((G.wanted_guard (j := 2) (b := false) (c := false) rfl (hdep ⟨2, .guard⟩ (by simp) rfl)).trans rfl) ?_ rfl (Below.refl _ _)
                      have s0 : u.cell? ⟨w.heap.size, 0, none⟩ = some (.int .i64 c.regs) := hc.1.cell 0
                      have s1 : u.cell? ⟨w.heap.size, 1, none⟩ = some (.int .i64 c.slots) := hc.1.cell 1
                      have s2 : u.cell? ⟨w.heap.size, 2, none⟩ = some (.slice xA c.ins.length xC) := hc.1.cell 2
                      have s3 : u.cell? ⟨w.heap.size, 3, none⟩ = some (.slice cA c.cs.length cC) := hc.1.cell 3
                      have s4 : u.cell? ⟨w.heap.size, 4, none⟩ = some (.slice lA c.list.length lC) := hc.1.cell 4
                      have t0 : u.cell? ⟨gd, 0, none⟩ = some (.int .i64 D.regs) := hc.2.1.cell 0
                      have t1 : u.cell? ⟨gd, 1, none⟩ = some (.int .i64 D.slots) := hc.2.1.cell 1
                      have t2 : u.cell? ⟨gd, 2, none⟩ = some (.slice yA D.ins.length yC) := hc.2.1.cell 2
                      have t3 : u.cell? ⟨gd, 3, none⟩ = some (.slice dA D.cs.length dC) := hc.2.1.cell 3
                      have t4 : u.cell? ⟨gd, 4, none⟩ = some (.slice mA D.list.length mC) := hc.2.1.cell 4
                      first | (go_simp; done) | rfl | (simp [go_sem, *]; done)
                    refine G.stepsL_cons (fun a u hc hdd hd hk hdep => ?_) ?_
                    ·
                      have d1 : (a.tmps[1]?).getD undef = (.slice A1 z1.length c1) := hk 1 (by kernel_rfl)
                      refine G.step_val KC KD hc hdd rfl (.slice A1 z1.length c1) u ((G.wanted_guard (j := 2) (b := false) (c := false) rfl (hdep ⟨2, .guard⟩ (by simp) rfl)).trans rfl) ?_ rfl (Below.refl _ _)
                      first | (go_simp; done) | rfl | (simp [go_sem, *]; done)
                    refine G.stepsL_cons (fun a u hc hdd hd hk hdep => ?_) ?_
                    ·
                      have d101 : (a.tmps[101]?).getD undef = (.agg #[.int .i64 c.regs, .int .i64 c.slots, .slice xA c.ins.length xC, .slice cA c.cs.length cC, .slice lA c.list.length lC]) := hdep ⟨3, .data⟩ (by simp) rfl
                      have d102 : (a.tmps[102]?).getD undef = (.slice A1 z1.length c1) := hdep ⟨4, .data⟩ (by simp) rfl
                      refine G.step_call KC KD hc hdd rfl 10 #[.agg #[.int .i64 c.regs, .int .i64 c.slots, .slice xA c.ins.length xC, .slice cA c.cs.length cC, .slice lA c.list.length lC], .slice A1 z1.length c1] ((G.wanted_guard (j := 2) (b := false) (c := false) rfl (hdep ⟨2, .chain⟩ (by simp) rfl)).trans rfl) (by first | (go_simp; done) | rfl) ?_
                      exact (RV.out u hc.2.2.1 hc.2.2.2.2.1).mono (by rintro e w' ⟨rfl, hb⟩; exact ⟨_, rfl, rfl, hb⟩)
                    refine G.stepsL_cons (fun a u hc hdd hd hk hdep => ?_) ?_
                    ·
                      have d5 : (a.tmps[5]?).getD undef = (.pointer (some ⟨gd, 0, none⟩)) := hk 5 (by kernel_rfl)
                      refine G.step_val KC KD hc hdd rfl (.agg #[.int .i64 D.regs, .int .i64 D.slots, .slice yA D.ins.length yC, .slice dA D.cs.length dC, .slice mA D.list.length mC]) u ((G.wanted_guard (j := 2) (b := false) (c := false) rfl (hdep ⟨2, .guard⟩ (by simp) rfl)).trans rfl) ?_ rfl (Below.refl _ _)
                      have s0 : u.cell? ⟨w.heap.size, 0, none⟩ = some (.int .i64 c.regs) := hc.1.cell 0
                      have s1 : u.cell? ⟨w.heap.size, 1, none⟩ = some (.int .i64 c.slots) := hc.1.cell 1
                      have s2 : u.cell? ⟨w.heap.size, 2, none⟩ = some (.slice xA c.ins.length xC) := hc.1.cell 2
                      have s3 : u.cell? ⟨w.heap.size, 3, none⟩ = some (.slice cA c.cs.length cC) := hc.1.cell 3
                      have s4 : u.cell? ⟨w.heap.size, 4, none⟩ = some (.slice lA c.list.length lC) := hc.1.cell 4
                      have t0 : u.cell? ⟨gd, 0, none⟩ = some (.int .i64 D.regs) := hc.2.1.cell 0
                      have t1 : u.cell? ⟨gd, 1, none⟩ = some (.int .i64 D.slots) := hc.2.1.cell 1
                      have t2 : u.cell? ⟨gd, 2, none⟩ = some (.slice yA D.ins.length yC) := hc.2.1.cell 2
                      have t3 : u.cell? ⟨gd, 3, none⟩ = some (.slice dA D.cs.length dC) := hc.2.1.cell 3
                      have t4 : u.cell? ⟨gd, 4, none⟩ = some (.slice mA D.list.length mC) := hc.2.1.cell 4
                      first | (go_simp; done) | rfl | (simp [go_sem, *]; done)
                    refine G.stepsL_cons (fun a u hc hdd hd hk hdep => ?_) ?_
                    ·
                      have d6 : (a.tmps[6]?).getD undef = (.slice LA L.length lc) := hk 6 (by kernel_rfl)
                      refine G.step_val KC KD hc hdd rfl (.slice LA L.length lc) u ((G.wanted_guard (j := 2) (b := false) (c := false) rfl (hdep ⟨2, .guard⟩ (by simp) rfl)).trans rfl) ?_ rfl (Below.refl _ _)
                      first | (go_simp; done) | rfl | (simp [go_sem, *]; done)
                    refine G.stepsL_cons (fun a u hc hdd hd hk hdep => ?_) ?_
                    ·
                      have d104 : (a.tmps[104]?).getD undef = (.agg #[.int .i64 D.regs, .int .i64 D.slots, .slice yA D.ins.length yC, .slice dA D.cs.length dC, .slice mA D.list.length mC]) := hdep ⟨6, .data⟩ (by simp) rfl
                      have d105 : (a.tmps[105]?).getD undef = (.slice LA L.length lc) := hdep ⟨7, .data⟩ (by simp) rfl
                      refine G.step_call KC KD hc hdd rfl 10 #[.agg #[.int .i64 D.regs, .int .i64 D.slots, .slice yA D.ins.length yC, .slice dA D.cs.length dC, .slice mA D.list.length mC], .slice LA L.length lc] ((G.wanted_guard (j := 2) (b := false) (c := false) rfl (hdep ⟨2, .guard⟩ (by simp) rfl)).trans rfl) (by first | (go_simp; done) | rfl) ?_
                      exact (RD.out u hc.2.2.2.1 hc.2.2.2.2.2.1).mono (by rintro e w' ⟨rfl, hb⟩; exact ⟨_, rfl, rfl, hb⟩)
                    refine G.stepsL_cons (fun a u hc hdd hd hk hdep => ?_) ?_
                    ·
                      have d103 : (a.tmps[103]?).getD undef = (.agg #[.int .i64 yk, .int .u64 (yb : Int)]) := hdep ⟨5, .data⟩ (by simp) rfl
                      have d106 : (a.tmps[106]?).getD undef = (.agg #[.int .i64 yk, .int .u64 (yb : Int)]) := hdep ⟨8, .data⟩ (by simp) rfl
                      refine G.step_val KC KD hc hdd rfl (.bool true) u ((G.wanted_guard (j := 2) (b := false) (c := false) rfl (hdep ⟨2, .guard⟩ (by simp) rfl)).trans rfl) ?_ rfl (Below.refl _ _)
                      first | (go_simp; done) | rfl | (simp [go_sem, *]; done)
                    refine G.stepsL_cons (fun a u hc hdd hd hk hdep => ?_) ?_
                    ·
                      have d100 : (a.tmps[100]?).getD undef = (.bool false) := hdep ⟨2, .data⟩ (by simp) rfl
                      have d107 : (a.tmps[107]?).getD undef = (.bool true) := hdep ⟨9, .data⟩ (by simp) rfl
                      refine G.step_val KC KD hc hdd rfl (.bool true) u (G.wanted_plain rfl) ?_ rfl (Below.refl _ _)
                      first | (go_simp; done) | rfl | (simp [go_sem, *]; done)
                    refine G.stepsL_cons (fun a u hc hdd hd hk hdep => ?_) ?_
                    ·
                      have d108 : (a.tmps[108]?).getD undef = (.bool true) := hdep ⟨10, .data⟩ (by simp) rfl
                      refine G.step_val KC KD hc hdd rfl (.bool true) u (G.wanted_plain rfl) ?_ rfl (Below.refl _ _)
                      first | (go_simp; done) | rfl | (simp [go_sem, *]; done)
                    refine G.stepsL_cons (fun a u hc hdd hd hk hdep => ?_) ?_
                    ·
                      have d2 : (a.tmps[2]?).getD undef = (.pointer (some ⟨w.heap.size, 0, none⟩)) := hk 2 (by kernel_rfl)
                      refine G.step_val KC KD hc hdd rfl (.agg #[.int .i64 c.regs, .int .i64 c.slots, .slice xA c.ins.length xC, .slice cA c.cs.length cC, .slice lA c.list.length lC]) u ((G.wanted_guard (j := 11) (b := true) (c := true) rfl (hdep ⟨11, .guard⟩ (by simp) rfl)).trans rfl) ?_ rfl (Below.refl _ _)
                      have s0 : u.cell? ⟨w.heap.size, 0, none⟩ = some (.int .i64 c.regs) := hc.1.cell 0
                      have s1 : u.cell? ⟨w.heap.size, 1, none⟩ = some (.int .i64 c.slots) := hc.1.cell 1
                      have s2 : u.cell? ⟨w.heap.size, 2, none⟩ = some (.slice xA c.ins.length xC) := hc.1.cell 2
                      have s3 : u.cell? ⟨w.heap.size, 3, none⟩ = some (.slice cA c.cs.length cC) := hc.1.cell 3
                      have s4 : u.cell? ⟨w.heap.size, 4, none⟩ = some (.slice lA c.list.length lC) := hc.1.cell 4
                      have t0 : u.cell? ⟨gd, 0, none⟩ = some (.int .i64 D.regs) := hc.2.1.cell 0
                      have t1 : u.cell? ⟨gd, 1, none⟩ = some (.int .i64 D.slots) := hc.2.1.cell 1
                      have t2 : u.cell? ⟨gd, 2, none⟩ = some (.slice yA D.ins.length yC) := hc.2.1.cell 2
                      have t3 : u.cell? ⟨gd, 3, none⟩ = some (.slice dA D.cs.length dC) := hc.2.1.cell 3
                      have t4 : u.cell? ⟨gd, 4, none⟩ = some (.slice mA D.list.length mC) := hc.2.1.cell 4
                      first | (go_simp; done) | rfl | (simp [go_sem, *]; done)
                    refine G.stepsL_cons (fun a u hc hdd hd hk hdep => ?_) ?_
                    ·
                      have d110 : (a.tmps[110]?).getD undef = (.agg #[.int .i64 c.regs, .int .i64 c.slots, .slice xA c.ins.length xC, .slice cA c.cs.length cC, .slice lA c.list.length lC]) := hdep ⟨12, .data⟩ (by simp) rfl
                      refine G.step_call KC KD hc hdd rfl 11 #[.agg #[.int .i64 c.regs, .int .i64 c.slots, .slice xA c.ins.length xC, .slice cA c.cs.length cC, .slice lA c.list.length lC]] ((G.wanted_guard (j := 11) (b := true) (c := true) rfl (hdep ⟨11, .chain⟩ (by simp) rfl)).trans rfl) (by first | (go_simp; done) | rfl) ?_
                      exact (GD.out u hc.2.2.1).mono (by rintro e w' ⟨rfl, hb⟩; exact ⟨_, rfl, rfl, hb⟩)
                    refine G.stepsL_cons (fun a u hc hdd hd hk hdep => ?_) ?_
                    ·
                      have d11 : (a.tmps[11]?).getD undef = (.bool gb) := hk 11 (by kernel_rfl)
                      refine G.step_val KC KD hc hdd rfl (.bool gb) u ((G.wanted_guard (j := 11) (b := true) (c := true) rfl (hdep ⟨11, .guard⟩ (by simp) rfl)).trans rfl) ?_ rfl (Below.refl _ _)
                      first | (go_simp; done) | rfl | (simp [go_sem, *]; done)
                    refine G.stepsL_cons (fun a u hc hdd hd hk hdep => ?_) ?_
                    ·
                      have d111 : (a.tmps[111]?).getD undef = (.bool gb) := hdep ⟨13, .data⟩ (by simp) rfl
                      have d112 : (a.tmps[112]?).getD undef = (.bool gb) := hdep ⟨14, .data⟩ (by simp) rfl
                      refine G.step_val KC KD hc hdd rfl (.bool true) u ((G.wanted_guard (j := 11) (b := true) (c := true) rfl (hdep ⟨11, .guard⟩ (by simp) rfl)).trans rfl) ?_ rfl (Below.refl _ _)
                      first | (go_simp; done) | rfl | (simp [go_sem, *]; done)
                    refine G.stepsL_cons (fun a u hc hdd hd hk hdep => ?_) ?_
                    ·
                      have d109 : (a.tmps[109]?).getD undef = (.bool true) := hdep ⟨11, .data⟩ (by simp) rfl
                      have d113 : (a.tmps[113]?).getD undef = (.bool true) := hdep ⟨15, .data⟩ (by simp) rfl
                      refine G.step_val KC KD hc hdd rfl (.bool true) u (G.wanted_plain rfl) ?_ rfl (Below.refl _ _)
                      first | (go_simp; done) | rfl | (simp [go_sem, *]; done)
                    refine G.stepsL_cons (fun a u hc hdd hd hk hdep => ?_) ?_
                    ·
                      have d114 : (a.tmps[114]?).getD undef = (.bool true) := hdep ⟨16, .data⟩ (by simp) rfl
                      refine G.step_val KC KD hc hdd rfl (.bool true) u (G.wanted_plain rfl) ?_ rfl (Below.refl _ _)
                      first | (go_simp; done) | rfl | (simp [go_sem, *]; done)
                    exact G.stepsL_nil
                  intro vs' wN hNN hh
                  have eL : vs' 17 = (.bool true) := by
                    obtain ⟨-, -, -, -, -, -, -, -, -, -, -, -, -, -, -, -, -, eX, -⟩ := hh
                    exact eX
                  clear hh
                  obtain ⟨-, -, -, -, -, -, hBB⟩ := hNN
                  clear bX bD kc k4 ki qL hw
                  set_option maxRecDepth 100000 in simp only [List.take_succ_cons, List.take_zero, putAll, Act.put, List.setIfInBounds_toArray, List.set_cons_zero, List.set_cons_succ, Nat.reduceAdd, eL]
                  clear eL
                  go_wp2
                  go_ret
                  exact ⟨rfl, hBB⟩

set_option maxRecDepth 100000 in
theorem lifted (os : Os) (started : os.Started) (H : Type) (enc : TypeId × Value → H) :
    ReturnsInHanded {} Try.checked os 3 .any (Rows.vmDropsSpec.pre6 enc Try.prog Try.f3 Rows.vmDropsRow.domain false) (Rows.vmDropsSpec.post enc Try.prog Try.f3 false true false false) := by
  refine returnsInHanded_of_change_sized (C := Try.checked) own started (by kernel_rfl) Try.func3
    (ChangeSpec.witness6 (enc := enc) (C := Try.checked) false ⟨#[], #[.agg #[.int .i64 0, .int .i64 0, .slice none 0 0, .slice none 0 0, .slice none 0 0], .slice none 0 0], []⟩ 8 (by kernel_rfl) (by kernel_rfl) (by kernel_rfl) (by kernel_rfl)) ?_
  intro W base args ds gs before hval0 hW hcnd hsz0 _
  have hsz : (DataW.weightsEach Try.prog (Try.f3.params.toList ++ Rows.vmDropsSpec.plain.varTypes Try.prog) (ds ++ gs)).all (· ≤ reachBytes) = true := hsz0
  clear hsz0
  have hval : ∀ (j : Nat) t v, Try.f3.params[j]? = some t → args[j]? = some v → Value.okWide Try.prog W .any base t v := hval0
  have hW' := hW
  obtain ⟨p, q, hA0, hV, rfl, hfz, hnd⟩ := hW
  have hA : DataW.TrodAll enc Try.prog W 0 (fun _ => true) true Try.f3.params.toList args.toList ds p := hA0
  rw [Try.params3] at hA hval hsz
  obtain ⟨v0, vs0, d0, ds0, p0, q0, hargs, rfl, rfl, h0, r0⟩ := trodAll_cons hA
  obtain ⟨v1, vs1, d1, ds1, p1, q1, rfl, rfl, rfl, h1, r1⟩ := trodAll_cons r0
  obtain ⟨rfl, rfl, rfl⟩ := trodAll_nil r1
  obtain rfl : args = #[v0, v1] := by cases args; simp_all
  obtain ⟨rfl, rfl⟩ := trodVars_none hV
  have kk0 := h0
  have lt0 : ∀ x ∈ p0, x.block < W.heap.size := by obtain ⟨m, hm⟩ := kk0; exact DataW.trod_lt m _ _ _ hm
  have kk1 := h1
  have lt1 : ∀ x ∈ p1, x.block < W.heap.size := by obtain ⟨m, hm⟩ := kk1; exact DataW.trod_lt m _ _ _ hm
  obtain ⟨z0, x0, rfl, w0, pp0, qq0, rr0⟩ := open_code (hval 0 26 v0 rfl rfl) h0 (wb_each hsz (j := 0) (t := 26) rfl rfl)
  obtain ⟨A1, c1, z1, rfl, w1, ss1⟩ := open_valuesT (hval 1 23 v1 rfl rfl) h1 (wb_each hsz (j := 1) (t := 23) rfl rfl)
  clear hA0 hval0
  refine (walk W z0 x0 w0 pp0 qq0 rr0 A1 c1 z1 w1 ss1).mono fun e W' ⟨he, bel⟩ => ?_
  subst he
  exact ⟨_, rfl, _, _, _, [], _, [], hW', trodAll_mk1 (shut_bool Try.underlying4 _), (trodAll_cons_mk (Below.trod laidOut (by kernel_rfl) (of_decide_eq_true (by kernel_rfl)) kk0 bel lt0) (trodAll_cons_mk (Below.trod laidOut (by kernel_rfl) (of_decide_eq_true (by kernel_rfl)) kk1 bel lt1) trodAll_mk0)), rfl, bel.frame _, fun h => by cases h⟩

theorem over : Rows.vmDropsRow.holds Try.pinned (OpenSpec.ofChange Rows.vmDropsSpec) :=
  OpenClaim.holds_of_wide 3 Try.f3 rfl rfl rfl rfl rfl rfl rfl ⟨rfl, rfl, rfl, rfl, rfl⟩ rfl rfl rfl rfl rfl (by kernel_rfl) Try.func3 (by kernel_rfl)
    (of_decide_eq_true (by kernel_rfl)) (by unfold Func.isWrapper; first | (rw [if_pos (by decide +kernel)]; kernel_rfl) | (rw [if_neg (by decide +kernel)]; exact ⟨rfl, rfl⟩))
    (fun os started H enc _ => lifted os started H enc)

/-- the statement -/
theorem proved : Rows.VmDropsSaid :=
  over
#print axioms proved
end Go.Proofs.Yteniipolcdnmfaa.vmDrops
