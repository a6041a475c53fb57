/- Asking NOT of a leaf, and lists of one condition, as contracts. -/
import Derived.Test.YtfjnphiegoogoaaLkJ
namespace Go.Proofs.Ytfjnphiegoogoaa
open Go.ChangeShapes Go.WideShapes Go.ChangeAt Go.RowKit Go.Fl
set_option linter.unusedVariables false
set_option linter.unusedSimpArgs false

theorem isleaf_15 (w : World) : Calls Try.prog 53 #[.int .i64 15] w fun e w' => e = .returned (.bool false) ∧ w = w' := by
  go_enter Try.func53, Try.ntmps53
  go_wp2
  go_ret
  exact ⟨rfl, rfl⟩
theorem operands_15 (b o b2 o2 : Nat) (w : World) (hn : w.cell? ⟨b, o, none⟩ = some (.int .i64 15)) (ha : w.cell? ⟨b, o + 2, none⟩ = some (.slice (some ⟨b2, o2, none⟩) 1 1)) :
    Calls Try.prog 27 #[.pointer (some ⟨b, o, none⟩)] w fun e w' => e = .returned (.slice (some ⟨b2, o2, none⟩) 1 1) ∧ w = w' := by
  have L := Lib.hid (fun w => isleaf_15 w)
  go_enter Try.func27, Try.ntmps27
  go_wp2_with (go_at_call 53; refine (L.out _).mono ?_; rintro e w' ⟨rfl, rfl⟩)
  go_ret
  exact ⟨rfl, rfl⟩
theorem rest_leaf199 (b o : Nat) (op : Int) (w : World) (h : LeafOp op) (hn : w.cell? ⟨b, o, none⟩ = some (.int .i64 op)) :
    Calls Try.prog 52 #[.pointer (some ⟨b, o, none⟩), .func (.func 27) #[] #[], .int .i64 199] w fun e w' => e = .returned (.int .i64 198) ∧ w = w' := by
  have L := Lib.hid (operands_leaf b o op w h hn)
  go_enter Try.func52, Try.ntmps52
  go_wp2_with (go_at_call 27; refine L.out.mono ?_; rintro e w' ⟨rfl, rfl⟩)
  go_loop [2, 16] (fun m i => m = .int .i64 198 ∧ i = .int .i64 0) (fun _ _ => 0)
  case atStart => exact ⟨rfl, rfl⟩
  case round =>
    obtain ⟨rfl, rfl⟩ := hrel
    go_wp2
    go_ret
    exact ⟨rfl, rfl⟩
theorem rest_15 (b o b2 o2 : Nat) (op : Int) (w : World) (h : LeafOp op) (hn : w.cell? ⟨b, o, none⟩ = some (.int .i64 15)) (ha : w.cell? ⟨b, o + 2, none⟩ = some (.slice (some ⟨b2, o2, none⟩) 1 1)) (hc : w.cell? ⟨b2, o2, none⟩ = some (.int .i64 op)) :
    Calls Try.prog 52 #[.pointer (some ⟨b, o, none⟩), .func (.func 27) #[] #[], .int .i64 200] w fun e w' => e = .returned (.int .i64 198) ∧ w = w' := by
  have L := Lib.hid (operands_15 b o b2 o2 w hn ha)
  have K := Lib.hid (rest_leaf199 b2 o2 op w h hc)
  clear hn ha hc
  go_enter Try.func52, Try.ntmps52
  go_wp2_with (go_at_call 27; refine L.out.mono ?_; rintro e w' ⟨rfl, rfl⟩)
  go_loop [2, 16] (fun m i => (m = .int .i64 199 ∧ i = .int .i64 0) ∨ (m = .int .i64 198 ∧ i = .int .i64 1)) (fun _ i => 1 - (intOf i).toNat)
  case atStart => exact .inl ⟨rfl, rfl⟩
  case round =>
    rcases hrel with ⟨rfl, rfl⟩ | ⟨rfl, rfl⟩
    · go_wp2_with (go_at_call 52; refine K.out.mono ?_; rintro e w' ⟨rfl, rfl⟩)
      go_round
      case rel => exact .inr ⟨rfl, rfl⟩
      case measure => simp [intOf]
    · go_wp2
      go_ret
      exact ⟨rfl, rfl⟩
theorem few_15 (b o b2 o2 : Nat) (op : Int) (w : World) (h : LeafOp op) (hn : w.cell? ⟨b, o, none⟩ = some (.int .i64 15)) (ha : w.cell? ⟨b, o + 2, none⟩ = some (.slice (some ⟨b2, o2, none⟩) 1 1)) (hc : w.cell? ⟨b2, o2, none⟩ = some (.int .i64 op)) :
    Calls Try.prog 26 #[.pointer (some ⟨b, o, none⟩), .func (.func 27) #[] #[], .int .i64 200] w fun e w' => e = .returned (.bool true) ∧ w = w' := by
  have L := Lib.hid (rest_15 b o b2 o2 op w h hn ha hc)
  go_enter Try.func26, Try.ntmps26
  go_wp2_with (go_at_call 52; refine L.out.mono ?_; rintro e w' ⟨rfl, rfl⟩)
  go_ret
  exact ⟨rfl, rfl⟩

set_option maxHeartbeats 8000000 in
set_option maxRecDepth 100000 in
theorem down_15 (E B : Option Addr) (ne ce nb cb : Nat) (cur : Int) (b o b2 o2 : Nat) (x : Int × Nat) (w : World) (hx : x.2 < 18446744073709551616) (hn : w.cell? ⟨b, o, none⟩ = some (.int .i64 15)) (ha : w.cell? ⟨b, o + 2, none⟩ = some (.slice (some ⟨b2, o2, none⟩) 1 1)) (hA : Asks 28 E B ne ce nb cb cur b2 o2 x w) :
    Calls Try.prog 28 #[lookV E B ne ce nb cb cur, .pointer (some ⟨b, o, none⟩)] w (VIs (appP 15 [x]) w) := by
  have L := Lib.hid (fun w => isleaf_15 w)
  obtain ⟨xk, xb⟩ := x
  have AP := Lib.hid (fun w A (h : RowV w A 1 [(xk, xb)]) => apply_any 15 A 1 1 [(xk, xb)] w h)
  generalize appP 15 [(xk, xb)] = y at *
  obtain ⟨yk, yb⟩ := y
  simp only at AP hx
  obtain ⟨i0, hi, hz0, hz1, hz2⟩ := info_parts infoV
  have hmk : ∀ w, (Instr.makeSlice 47 (.int .i64 1) (.int .i64 1)).run Try.prog w = .ok (.slice (some ⟨w.heap.size, 0, none⟩) 1 1) (w.alloc (.cells (madeCells #[.int .i64 0, .int .u64 0] 2) 25)) := fun w => by
    have := run_make (P := Try.prog) w 47 25 i0 _ Try.underlying47 hi hz0 .i64 .i64 1 1 (by omega) (by omega) (by rw [hz2]; omega) (by omega)
    rw [hz1] at this
    exact this
  have hu := m2 w (lookO E B ne ce nb cb cur) (.cells #[.int .i64 0, .int .u64 0] 25)
  have k0 := (Blk.made w 34 #[.slice E ne ce, .slice B nb cb, .int .i64 cur]).kept (m1 _ (.cells #[.int .i64 0, .int .u64 0] 25))
  have k1 : Blk ((w.alloc (lookO E B ne ce nb cb cur)).alloc (.cells #[.int .i64 0, .int .u64 0] 25)) (w.heap.size + 1) 25 #[.int .i64 0, .int .u64 0] := by
    have := Blk.made (w.alloc (lookO E B ne ce nb cb cur)) 25 #[.int .i64 0, .int .u64 0]
    simpa using this
  have hn1 := cell_later hu hn
  have ha1 := cell_later hu ha
  have hs2 : ((w.alloc (lookO E B ne ce nb cb cur)).alloc (.cells #[.int .i64 0, .int .u64 0] 25)).heap.size = w.heap.size + 2 := by simp
  replace hA := Lib.hid hA
  replace hu := Lib.hid hu
  replace hz0 := Lib.hid hz0
  replace hz1 := Lib.hid hz1
  replace hz2 := Lib.hid hz2
  replace hi := Lib.hid hi
  replace k0 := Lib.hid k0
  replace k1 := Lib.hid k1
  replace hs2 := Lib.hid hs2
  go_enter Try.func28, Try.ntmps28
  go_upto_region 4 with (first | (go_at_call 53; refine (L.out _).mono ?_; rintro e w' ⟨rfl, rfl⟩) | fail)
  have M0 := MadeTo.zero ((w.alloc (lookO E B ne ce nb cb cur)).alloc (.cells #[.int .i64 0, .int .u64 0] 25)) #[.int .i64 0, .int .u64 0] [(xk, xb)]
  have hb2 := m1 ((w.alloc (lookO E B ne ce nb cb cur)).alloc (.cells #[.int .i64 0, .int .u64 0] 25)) (.cells (madeCells #[.int .i64 0, .int .u64 0] 2) 25)
  rw [hs2.out] at M0
  have k0 := Lib.hid (k0.out.kept hb2)
  have k1 := Lib.hid (k1.out.kept hb2)
  replace hn1 := cell_later hb2 hn1
  replace ha1 := cell_later hb2 ha1
  have hU := mmore hu.out hb2
  clear hb2 hu hs2 hmk
  have M0' : MadeTo (((w.alloc (lookO E B ne ce nb cb cur)).alloc (.cells #[.int .i64 0, .int .u64 0] 25)).alloc (.cells (madeCells #[.int .i64 0, .int .u64 0] 2) 25)) (w.heap.size + 2) [(xk, xb)] 0 := M0
  clear M0
  generalize ((w.alloc (lookO E B ne ce nb cb cur)).alloc (.cells #[.int .i64 0, .int .u64 0] 25)).alloc (.cells (madeCells #[.int .i64 0, .int .u64 0] 2) 25) = u at *
  have R0 := Lib.hid (And.intro M0' (And.intro (World.grownBy.refl u (some (w.heap.size + 2))) hU))
  clear M0' hU
  go_wp2_with fail
  go_loopw [26] (fun i wr => ∃ k : Nat, k ≤ 1 ∧ i = .int .i64 (k : Int) ∧ AtsR u w (w.heap.size + 2) [(xk, xb)] k wr) (fun i _ => 1 - (intOf i).toNat)
  case atStart => exact ⟨0, Nat.zero_le _, rfl, R0.out⟩
  case round =>
    obtain ⟨k, hk, rfl, hM, hG, hW⟩ := hrel
    clear R0
    have q0 := k0.out.grown hG (show some w.heap.size ≠ some (w.heap.size + 2) by intro e; injection e; omega)
    have q1 := k1.out.grown hG (show some (w.heap.size + 1) ≠ some (w.heap.size + 2) by intro e; injection e; omega)
    have hn2 := cell_later hW hn
    have ha2 := cell_later hW ha
    clear hn1 ha1 hn ha
    by_cases hkl : k < 1
    · obtain rfl : k = 0 := by omega
      have c0 : wr.cell? ⟨w.heap.size, 0, none⟩ = some (.slice E ne ce) := q0.cell 0
      have c1 : wr.cell? ⟨w.heap.size, 1, none⟩ = some (.slice B nb cb) := q0.cell 1
      have c2 : wr.cell? ⟨w.heap.size, 2, none⟩ = some (.int .i64 cur) := q0.cell 2
      have hR := Lib.hid (hA.out wr.drew hW.drew)
      replace hM := Lib.hid (show MadeTo wr.drew (w.heap.size + 2) [(xk, xb)] 0 from hM)
      replace hG := Lib.hid hG
      replace hW := Lib.hid hW
      clear q0 q1
      go_wp2_with fail
      go_region_law (go_simp; go_at_call 28; refine hR.out.mono ?_; rintro e w2 ⟨rfl, hb1⟩; have hM2 := hM.out.kept hb1; obtain ⟨x0, y0, z0, z1, z2, z3⟩ := hM2.two (by simp); simp only [Nat.zero_mul, Nat.zero_add] at z0 z1 z2 z3)
      all_goals have hM4 := hM2.step (v := (xk, xb)) rfl
      all_goals have hG4 := mgrown (mgrown (mgrown hG.out (grown_drew hb1) (fun k h => by cases h)) (mset w2 ⟨w.heap.size + 2, 0 * 2, none⟩ (.int .i64 xk)) (fun k h => .inl (by simpa using h))) (mset _ ⟨w.heap.size + 2, 0 * 2 + 1, none⟩ (.int .u64 (xb : Int))) (fun k h => .inl (by simpa using h))
      all_goals have hW4 := ((mmore hW.out.drew hb1).setCell (p := ⟨w.heap.size + 2, 0 * 2, none⟩) (by show w.heap.size ≤ w.heap.size + 2; omega) (.int .i64 xk)).setCell (p := ⟨w.heap.size + 2, 0 * 2 + 1, none⟩) (by show w.heap.size ≤ w.heap.size + 2; omega) (.int .u64 (xb : Int))
      all_goals simp only [Nat.zero_mul, Nat.zero_add] at hM4 hG4 hW4
      all_goals replace hM4 := Lib.hid hM4
      all_goals replace hG4 := Lib.hid hG4
      all_goals replace hW4 := Lib.hid hW4
      all_goals clear hM2 hM hG hW hR c0 c1 c2 z0 z1 z2 z3 hb1
      all_goals go_wp2
      all_goals go_roundw
      all_goals first | exact ⟨1, by omega, by go_num, hM4.out, hG4.out, hW4.out⟩ | (simp [intOf]; done) | (simp [intOf]; omega)
    · obtain rfl : k = 1 := by omega
      have hR := hM.row (by intro v hv; simp at hv; subst hv; exact hx)
      replace hM := Lib.hid hM
      have O := Lib.hid (AP.out wr _ hR)
      have hn3 : wr.cell? ⟨b, o, none⟩ = some (.int .i64 15) := hn2
      replace hG := Lib.hid hG
      replace hW := Lib.hid hW
      replace q1 := Lib.hid q1
      clear hR q0 AP
      go_wp2_with fail
      refine O.out.mono ?_; rintro e w5 ⟨rfl, hb5⟩
      have k5 := q1.out.kept hb5
      have x0 : w5.cell? ⟨w.heap.size + 1, 0, none⟩ = some (.int .i64 0) := k5.cell 0
      have x1 : w5.cell? ⟨w.heap.size + 1, 1, none⟩ = some (.int .u64 0) := k5.cell 1
      have f0 : w5.frozen? ⟨w.heap.size + 1, 0, none⟩ = false := k5.free 0
      have f1 : w5.frozen? ⟨w.heap.size + 1, 1, none⟩ = false := k5.free 1
      have hW5 := mmore hW.out hb5
      obtain ⟨_, r1, r2⟩ := put2 (w := w5) (g := w.heap.size + 1) (.int .i64 yk) (.int .u64 (yb : Int)) x0 x1
      replace r1 := Lib.hid r1
      replace r2 := Lib.hid r2
      replace hW5 := Lib.hid hW5
      clear hb5 k5 hn2 ha2 hn3
      go_wp2
      exact bodyPost_ret (v := .agg #[.int .i64 yk, .int .u64 (yb : Int)]) (by simp [results, Try.results28, go_sem, r1.out, r2.out]) rfl (.mk rfl ((hW5.out.setCell (by show w.heap.size ≤ w.heap.size + 1; omega) _).setCell (by show w.heap.size ≤ w.heap.size + 1; omega) _))

theorem ask_15 (E B : Option Addr) (ne ce nb cb : Nat) (cur : Int) (b o b2 o2 : Nat) (op : Int) (x : Int × Nat) (w : World) (hop : LeafOp op) (hx : x.2 < 18446744073709551616) (hn : w.cell? ⟨b, o, none⟩ = some (.int .i64 15)) (ha : w.cell? ⟨b, o + 2, none⟩ = some (.slice (some ⟨b2, o2, none⟩) 1 1)) (hc : w.cell? ⟨b2, o2, none⟩ = some (.int .i64 op)) (hA : Asks 54 E B ne ce nb cb cur b2 o2 x w) :
    Calls Try.prog 17 #[lookV E B ne ce nb cb cur, .pointer (some ⟨b, o, none⟩)] w (VIs (appP 15 [x]) w) :=
  ask_few E B ne ce nb cb cur b o _ w (fun wz hz => few_15 b o b2 o2 op wz hop (cell_later hz hn) (cell_later hz ha) (cell_later hz hc)) fun wz hz =>
    down_15 E B ne ce nb cb cur b o b2 o2 x wz hx (cell_later hz hn) (cell_later hz ha) fun wy hy => down_leaf E B ne ce nb cb cur b2 o2 op x wy hop (cell_later (mmore hz hy) hc) ((hA.later hz).later hy)

set_option maxHeartbeats 4000000 in
set_option maxRecDepth 100000 in
/-- a list of one condition that isn't the Bool 1 -/
theorem all_one (E B : Option Addr) (ne ce nb cb : Nat) (cur : Int) (g : Nat) (x : Int × Nat) (w : World) (hx : x.1 ≠ 2) (hA : Asks 17 E B ne ce nb cb cur g 0 x w) :
    Calls Try.prog 11 #[.slice (some ⟨g, 0, none⟩) 1 1, lookV E B ne ce nb cb cur] w fun e w' => e = .returned (.bool false) ∧ Below w.heap.size w w' := by
  obtain ⟨xk, xb⟩ := x
  have hne : ∀ w, (binOp .neq 25 (.agg #[.int .i64 xk, .int .u64 (xb : Int)]) (.agg #[.int .i64 2, .int .u64 1])).run Try.prog w = .ok (.bool true) w := fun w => by
    have : ¬ xk = 2 := hx
    simp [go_sem, this]
  have hu := m1 w (lookO E B ne ce nb cb cur)
  have c0 : (w.alloc (lookO E B ne ce nb cb cur)).cell? ⟨w.heap.size, 0, none⟩ = some (.slice E ne ce) := by simp [go_sem]
  have c1 : (w.alloc (lookO E B ne ce nb cb cur)).cell? ⟨w.heap.size, 1, none⟩ = some (.slice B nb cb) := by simp [go_sem]
  have c2 : (w.alloc (lookO E B ne ce nb cb cur)).cell? ⟨w.heap.size, 2, none⟩ = some (.int .i64 cur) := by simp [go_sem]
  have O := Lib.hid (hA _ hu.drew)
  replace hu := Lib.hid hu
  clear hA
  go_enter Try.func11, Try.ntmps11
  go_wp2_with fail
  go_loopw [8] (fun i wr => i = .int .i64 0 ∧ wr = w.alloc (lookO E B ne ce nb cb cur)) (fun i _ => 0)
  case atStart => exact ⟨rfl, rfl⟩
  case round =>
    obtain ⟨rfl, rfl⟩ := hrel
    go_wp2_with fail
    go_region_with (go_at_call 17; refine O.out.mono ?_; rintro e w2 ⟨rfl, hb1⟩; have hB := Lib.hid (mmore hu.out.drew hb1))
    all_goals go_wp2
    all_goals go_ret
    all_goals exact ⟨rfl, hB.out⟩
end Go.Proofs.Ytfjnphiegoogoaa
