/- Of two codes that are alike, wherever they lie, the document's Same says yes. -/
import Derived.Test.YtlfhgmoafgjdcaaScA
namespace Go.Proofs.Ytlfhgmoafgjdcaa
open Go.ChangeShapes Go.WideShapes Go.ChangeAt Go.RowKit
set_option linter.unusedVariables false
set_option linter.unusedSimpArgs false

theorem bdrewN9' {B : Nat} {a w : World} (h : Below B a w) (n : Nat) : Below B a (w.drewN n) := ⟨h.os, h.tape, h.output, h.size, h.block⟩
theorem neq4_ins (a b c d : Int) (w : World) : (binOp .neq 89 (.agg #[.int .i64 a, .int .i64 b, .int .i64 c, .int .i64 d]) (.agg #[.int .i64 a, .int .i64 b, .int .i64 c, .int .i64 d])).run Try.prog w = .ok (.bool false) w := by simp [go_sem]
theorem neq4_list (a b c d : Int) (w : World) : (binOp .neq 94 (.agg #[.int .i64 a, .int .i64 b, .int .i64 c, .int .i64 d]) (.agg #[.int .i64 a, .int .i64 b, .int .i64 c, .int .i64 d])).run Try.prog w = .ok (.bool false) w := by simp [go_sem]
theorem neq2_V (a : Int) (b : Nat) (w : World) : (binOp .neq 106 (.agg #[.int .i64 a, .int .u64 (b : Int)]) (.agg #[.int .i64 a, .int .u64 (b : Int)])).run Try.prog w = .ok (.bool false) w := by simp [go_sem]
/-- the lists of a code in memory -/
structure Lists (u : World) (g : Nat) (c : CodeP) (xA : Option Addr) (xC : Nat) (cA : Option Addr) (cC : Nat) (lA : Option Addr) (lC : Nat) : Prop where
  c0 : u.cell? ⟨g, 0, none⟩ = some (.int .i64 c.regs)
  c1 : u.cell? ⟨g, 1, none⟩ = some (.int .i64 c.slots)
  c2 : u.cell? ⟨g, 2, none⟩ = some (.slice xA c.ins.length xC)
  c3 : u.cell? ⟨g, 3, none⟩ = some (.slice cA c.cs.length cC)
  c4 : u.cell? ⟨g, 4, none⟩ = some (.slice lA c.list.length lC)
set_option maxHeartbeats 8000000 in
set_option maxRecDepth 100000 in
theorem csame_any (c : CodeP) (a b : CV) (w : World) (ha : CodeIn w c a) (hb : CodeIn w c b) : Calls Try.prog 29 #[codeV c a, codeV c b] w fun e w' => e = .returned (.bool true) ∧ Below w.heap.size w w' := by
  obtain ⟨axA, axC, acA, acC, alA, alC⟩ := a
  obtain ⟨bxA, bxC, bcA, bcC, blA, blC⟩ := b
  have h1ins := Lib.hid (show QuadAt w axA c.ins from ha.ins)
  have h2ins := Lib.hid (show QuadAt w bxA c.ins from hb.ins)
  have h1cs := Lib.hid (show RowV w acA c.cs.length c.cs from ha.cs)
  have h2cs := Lib.hid (show RowV w bcA c.cs.length c.cs from hb.cs)
  have h1list := Lib.hid (show QuadAt w alA c.list from ha.list)
  have h2list := Lib.hid (show QuadAt w blA c.list from hb.list)
  have szins : c.ins.length ≤ 9223372036854775806 := by have := ha.szI; omega
  have szcs : c.cs.length ≤ 9223372036854775806 := by have := ha.szC; omega
  have szlist : c.list.length ≤ 9223372036854775806 := by have := ha.szL; omega
  have hu := Lib.hid (m2 w (.cells #[.int .i64 c.regs, .int .i64 c.slots, .slice axA c.ins.length axC, .slice acA c.cs.length acC, .slice alA c.list.length alC] 47) (.cells #[.int .i64 c.regs, .int .i64 c.slots, .slice bxA c.ins.length bxC, .slice bcA c.cs.length bcC, .slice blA c.list.length blC] 47))
  have q1 : Lists ((w.alloc (.cells #[.int .i64 c.regs, .int .i64 c.slots, .slice axA c.ins.length axC, .slice acA c.cs.length acC, .slice alA c.list.length alC] 47)).alloc (.cells #[.int .i64 c.regs, .int .i64 c.slots, .slice bxA c.ins.length bxC, .slice bcA c.cs.length bcC, .slice blA c.list.length blC] 47)) w.heap.size c axA axC acA acC alA alC := by
    have := (Blk.made w 47 #[.int .i64 c.regs, .int .i64 c.slots, .slice axA c.ins.length axC, .slice acA c.cs.length acC, .slice alA c.list.length alC]).kept (m1 _ (.cells #[.int .i64 c.regs, .int .i64 c.slots, .slice bxA c.ins.length bxC, .slice bcA c.cs.length bcC, .slice blA c.list.length blC] 47))
    exact ⟨this.cell 0, this.cell 1, this.cell 2, this.cell 3, this.cell 4⟩
  have q2 : Lists ((w.alloc (.cells #[.int .i64 c.regs, .int .i64 c.slots, .slice axA c.ins.length axC, .slice acA c.cs.length acC, .slice alA c.list.length alC] 47)).alloc (.cells #[.int .i64 c.regs, .int .i64 c.slots, .slice bxA c.ins.length bxC, .slice bcA c.cs.length bcC, .slice blA c.list.length blC] 47)) (w.heap.size + 1) c bxA bxC bcA bcC blA blC := by
    have := Blk.made (w.alloc (.cells #[.int .i64 c.regs, .int .i64 c.slots, .slice axA c.ins.length axC, .slice acA c.cs.length acC, .slice alA c.list.length alC] 47)) 47 #[.int .i64 c.regs, .int .i64 c.slots, .slice bxA c.ins.length bxC, .slice bcA c.cs.length bcC, .slice blA c.list.length blC]
    rw [show (w.alloc (.cells #[.int .i64 c.regs, .int .i64 c.slots, .slice axA c.ins.length axC, .slice acA c.cs.length acC, .slice alA c.list.length alC] 47)).heap.size = w.heap.size + 1 by simp] at this
    exact ⟨this.cell 0, this.cell 1, this.cell 2, this.cell 3, this.cell 4⟩
  clear ha hb
  show Calls _ _ #[.agg #[.int .i64 c.regs, .int .i64 c.slots, .slice axA c.ins.length axC, .slice acA c.cs.length acC, .slice alA c.list.length alC], .agg #[.int .i64 c.regs, .int .i64 c.slots, .slice bxA c.ins.length bxC, .slice bcA c.cs.length bcC, .slice blA c.list.length blC]] _ _
  go_enter Try.func29, Try.ntmps29
  go_upto_region 1 with (fail)
  generalize (w.alloc (.cells #[.int .i64 c.regs, .int .i64 c.slots, .slice axA c.ins.length axC, .slice acA c.cs.length acC, .slice alA c.list.length alC] 47)).alloc (.cells #[.int .i64 c.regs, .int .i64 c.slots, .slice bxA c.ins.length bxC, .slice bcA c.cs.length bcC, .slice blA c.list.length blC] 47) = u at *
  obtain ⟨a0, a1, a2, a3, a4⟩ := id q1
  obtain ⟨d0, d1, d2, d3, d4⟩ := id q2
  replace q1 := Lib.hid q1
  replace q2 := Lib.hid q2
  go_upto_region 3 with (fail)
  clear a0 a1 a3 a4 d0 d1 d3 d4
  go_wp2_with fail
  go_loopw [50] (fun i wr => ∃ k : Nat, k ≤ c.ins.length ∧ i = .int .i64 (k : Int) ∧ Below u.heap.size u wr) (fun i _ => c.ins.length - (intOf i).toNat)
  case atStart => exact ⟨0, Nat.zero_le _, rfl, Below.refl _ _⟩
  case round =>
    obtain ⟨k, hk, rfl, hb⟩ := hrel
    by_cases hlt : k < c.ins.length
    · obtain ⟨b1, o1, hA, hc1⟩ := h1ins.out (by omega)
      obtain ⟨b2, o2, hB, hc2⟩ := h2ins.out (by omega)
      have hx := List.getElem?_eq_getElem hlt
      obtain ⟨p0, p1, p2, p3⟩ := hc1 k _ hx
      obtain ⟨r0, r1, r2, r3⟩ := hc2 k _ hx
      replace p0 := cell_later hb (cell_later hu.out p0)
      replace p1 := cell_later hb (cell_later hu.out p1)
      replace p2 := cell_later hb (cell_later hu.out p2)
      replace p3 := cell_later hb (cell_later hu.out p3)
      replace r0 := cell_later hb (cell_later hu.out r0)
      replace r1 := cell_later hb (cell_later hu.out r1)
      replace r2 := cell_later hb (cell_later hu.out r2)
      replace r3 := cell_later hb (cell_later hu.out r3)
      have z1 := cell_later hb q1.out.c2
      have z2 := cell_later hb q2.out.c2
      rw [hA] at z1
      rw [hB] at z2
      clear hc1 hc2 hx
      generalize c.ins[k] = x at *
      obtain ⟨xa, xb, xc, xd⟩ := x
      dsimp only at p0 p1 p2 p3 r0 r1 r2 r3
      have hne := neq4_ins xa xb xc xd
      have k0 : (0 : Int) ≤ (k : Int) := by omega
      have k1 : (k : Int) < (c.ins.length : Int) := by omega
      have k3 := Lib.hid hlt
      have kb := szins
      go_wp2_with fail
      go_quiet (fail)
      have hb2 := bdrewN9' hb nq
      clear hb z1 z2 hne hA hB p0 p1 p2 p3 r0 r1 r2 r3
      go_wp2
      go_roundw
      case rel => exact ⟨k + 1, by have := k3.out; omega, by go_num, hb2⟩
      case measure => have := k3.out; simp [intOf]; omega
    · obtain rfl : k = c.ins.length := by omega
      have z1 := cell_later hb q1.out.c3
      have z2 := cell_later hb q2.out.c3
      clear hlt
      go_wp2_with fail
      go_loopw [68] (fun i wr => ∃ k : Nat, k ≤ c.cs.length ∧ i = .int .i64 (k : Int) ∧ Below u.heap.size u wr) (fun i _ => c.cs.length - (intOf i).toNat)
      case atStart => exact ⟨0, Nat.zero_le _, rfl, hb⟩
      case round =>
        obtain ⟨k, hk, rfl, hb⟩ := hrel
        by_cases hlt : k < c.cs.length
        · obtain ⟨b1, o1, hA, hc1⟩ := h1cs.out.2.2 (by omega)
          obtain ⟨b2, o2, hB, hc2⟩ := h2cs.out.2.2 (by omega)
          have hx := List.getElem?_eq_getElem hlt
          obtain ⟨p0, p1⟩ := hc1 k c.cs[k].1 c.cs[k].2 hx
          obtain ⟨r0, r1⟩ := hc2 k c.cs[k].1 c.cs[k].2 hx
          replace p0 := cell_later hb (cell_later hu.out p0)
          replace p1 := cell_later hb (cell_later hu.out p1)
          replace r0 := cell_later hb (cell_later hu.out r0)
          replace r1 := cell_later hb (cell_later hu.out r1)
          have z1 := cell_later hb q1.out.c3
          have z2 := cell_later hb q2.out.c3
          rw [hA] at z1
          rw [hB] at z2
          clear hc1 hc2 hx
          generalize c.cs[k] = x at *
          obtain ⟨xa, xb⟩ := x
          dsimp only at p0 p1 r0 r1
          have hne := neq2_V xa xb
          have k0 : (0 : Int) ≤ (k : Int) := by omega
          have k1 : (k : Int) < (c.cs.length : Int) := by omega
          have k3 := Lib.hid hlt
          have kb := szcs
          go_wp2_with fail
          go_quiet (fail)
          have hb2 := bdrewN9' hb nq
          clear hb z1 z2 hne hA hB p0 p1 r0 r1
          go_wp2
          go_roundw
          case rel => exact ⟨k + 1, by have := k3.out; omega, by go_num, hb2⟩
          case measure => have := k3.out; simp [intOf]; omega
        · obtain rfl : k = c.cs.length := by omega
          have z1 := cell_later hb q1.out.c4
          have z2 := cell_later hb q2.out.c4
          clear hlt
          go_wp2_with fail
          go_loopw [86] (fun i wr => ∃ k : Nat, k ≤ c.list.length ∧ i = .int .i64 (k : Int) ∧ Below u.heap.size u wr) (fun i _ => c.list.length - (intOf i).toNat)
          case atStart => exact ⟨0, Nat.zero_le _, rfl, hb⟩
          case round =>
            obtain ⟨k, hk, rfl, hb⟩ := hrel
            by_cases hlt : k < c.list.length
            · obtain ⟨b1, o1, hA, hc1⟩ := h1list.out (by omega)
              obtain ⟨b2, o2, hB, hc2⟩ := h2list.out (by omega)
              have hx := List.getElem?_eq_getElem hlt
              obtain ⟨p0, p1, p2, p3⟩ := hc1 k _ hx
              obtain ⟨r0, r1, r2, r3⟩ := hc2 k _ hx
              replace p0 := cell_later hb (cell_later hu.out p0)
              replace p1 := cell_later hb (cell_later hu.out p1)
              replace p2 := cell_later hb (cell_later hu.out p2)
              replace p3 := cell_later hb (cell_later hu.out p3)
              replace r0 := cell_later hb (cell_later hu.out r0)
              replace r1 := cell_later hb (cell_later hu.out r1)
              replace r2 := cell_later hb (cell_later hu.out r2)
              replace r3 := cell_later hb (cell_later hu.out r3)
              have z1 := cell_later hb q1.out.c4
              have z2 := cell_later hb q2.out.c4
              rw [hA] at z1
              rw [hB] at z2
              clear hc1 hc2 hx
              generalize c.list[k] = x at *
              obtain ⟨xa, xb, xc, xd⟩ := x
              dsimp only at p0 p1 p2 p3 r0 r1 r2 r3
              have hne := neq4_list xa xb xc xd
              have k0 : (0 : Int) ≤ (k : Int) := by omega
              have k1 : (k : Int) < (c.list.length : Int) := by omega
              have k3 := Lib.hid hlt
              have kb := szlist
              go_wp2_with fail
              go_quiet (fail)
              have hb2 := bdrewN9' hb nq
              clear hb z1 z2 hne hA hB p0 p1 p2 p3 r0 r1 r2 r3
              go_wp2
              go_roundw
              case rel => exact ⟨k + 1, by have := k3.out; omega, by go_num, hb2⟩
              case measure => have := k3.out; simp [intOf]; omega
            · obtain rfl : k = c.list.length := by omega
              clear hlt
              go_wp2
              go_ret
              exact ⟨rfl, below_more hu.out hb⟩
end Go.Proofs.Ytlfhgmoafgjdcaa
