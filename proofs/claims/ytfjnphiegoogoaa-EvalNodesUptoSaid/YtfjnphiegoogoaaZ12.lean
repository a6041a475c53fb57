/- LkK, Pm, UpA, UpO, Nd -/
import Derived.Test.YtfjnphiegoogoaaZ11
import Derived.Test.YtfjnphiegoogoaaZ00
import Derived.MapKept
import Derived.WideMake
import Derived.LaidEql
import Derived.RangeFuncNested
import Derived.RangeFuncBound
import Derived.OwnWalkIn
import Derived.TacticsInMore
import Derived.Test.YtfjnphiegoogoaaZ03
/- LkK -/
namespace Go.Proofs.Ytfjnphiegoogoaa
open Go.ChangeShapes Go.WideShapes Go.ChangeAt Go.RowKit Go.Fl
set_option linter.unusedVariables false
set_option linter.unusedSimpArgs false

theorem isleaf_15 (w : World) : Calls Try.prog 53 #[.int .i64 15] w fun e w' => e = .returned (.bool false) ∧ w = w' := by
  go_enter Try.func53, Try.ntmps53
  go_wp2
  go_ret
  exact ⟨rfl, rfl⟩
theorem operands_15 (b o b2 o2 : Nat) (w : World) (hn : w.cell? ⟨b, o, none⟩ = some (.int .i64 15)) (ha : w.cell? ⟨b, o + 2, none⟩ = some (.slice (some ⟨b2, o2, none⟩) 1 1)) :
    Calls Try.prog 27 #[.pointer (some ⟨b, o, none⟩)] w fun e w' => e = .returned (.slice (some ⟨b2, o2, none⟩) 1 1) ∧ w = w' := by
  have L := Lib.hid (fun w => isleaf_15 w)
  go_enter Try.func27, Try.ntmps27
  go_wp2_with (go_at_call 53; refine (L.out _).mono ?_; rintro e w' ⟨rfl, rfl⟩)
  go_ret
  exact ⟨rfl, rfl⟩
theorem rest_leaf199 (b o : Nat) (op : Int) (w : World) (h : LeafOp op) (hn : w.cell? ⟨b, o, none⟩ = some (.int .i64 op)) :
    Calls Try.prog 52 #[.pointer (some ⟨b, o, none⟩), .func (.func 27) #[] #[], .int .i64 199] w fun e w' => e = .returned (.int .i64 198) ∧ w = w' := by
  have L := Lib.hid (operands_leaf b o op w h hn)
  go_enter Try.func52, Try.ntmps52
  go_wp2_with (go_at_call 27; refine L.out.mono ?_; rintro e w' ⟨rfl, rfl⟩)
  go_loop [2, 16] (fun m i => m = .int .i64 198 ∧ i = .int .i64 0) (fun _ _ => 0)
  case atStart => exact ⟨rfl, rfl⟩
  case round =>
    obtain ⟨rfl, rfl⟩ := hrel
    go_wp2
    go_ret
    exact ⟨rfl, rfl⟩
theorem rest_15 (b o b2 o2 : Nat) (op : Int) (w : World) (h : LeafOp op) (hn : w.cell? ⟨b, o, none⟩ = some (.int .i64 15)) (ha : w.cell? ⟨b, o + 2, none⟩ = some (.slice (some ⟨b2, o2, none⟩) 1 1)) (hc : w.cell? ⟨b2, o2, none⟩ = some (.int .i64 op)) :
    Calls Try.prog 52 #[.pointer (some ⟨b, o, none⟩), .func (.func 27) #[] #[], .int .i64 200] w fun e w' => e = .returned (.int .i64 198) ∧ w = w' := by
  have L := Lib.hid (operands_15 b o b2 o2 w hn ha)
  have K := Lib.hid (rest_leaf199 b2 o2 op w h hc)
  clear hn ha hc
  go_enter Try.func52, Try.ntmps52
  go_wp2_with (go_at_call 27; refine L.out.mono ?_; rintro e w' ⟨rfl, rfl⟩)
  go_loop [2, 16] (fun m i => (m = .int .i64 199 ∧ i = .int .i64 0) ∨ (m = .int .i64 198 ∧ i = .int .i64 1)) (fun _ i => 1 - (intOf i).toNat)
  case atStart => exact .inl ⟨rfl, rfl⟩
  case round =>
    rcases hrel with ⟨rfl, rfl⟩ | ⟨rfl, rfl⟩
    · go_wp2_with (go_at_call 52; refine K.out.mono ?_; rintro e w' ⟨rfl, rfl⟩)
      go_round
      case rel => exact .inr ⟨rfl, rfl⟩
      case measure => simp [intOf]
    · go_wp2
      go_ret
      exact ⟨rfl, rfl⟩
theorem few_15 (b o b2 o2 : Nat) (op : Int) (w : World) (h : LeafOp op) (hn : w.cell? ⟨b, o, none⟩ = some (.int .i64 15)) (ha : w.cell? ⟨b, o + 2, none⟩ = some (.slice (some ⟨b2, o2, none⟩) 1 1)) (hc : w.cell? ⟨b2, o2, none⟩ = some (.int .i64 op)) :
    Calls Try.prog 26 #[.pointer (some ⟨b, o, none⟩), .func (.func 27) #[] #[], .int .i64 200] w fun e w' => e = .returned (.bool true) ∧ w = w' := by
  have L := Lib.hid (rest_15 b o b2 o2 op w h hn ha hc)
  go_enter Try.func26, Try.ntmps26
  go_wp2_with (go_at_call 52; refine L.out.mono ?_; rintro e w' ⟨rfl, rfl⟩)
  go_ret
  exact ⟨rfl, rfl⟩

set_option maxHeartbeats 8000000 in
set_option maxRecDepth 100000 in
theorem down_15 (E B : Option Addr) (ne ce nb cb : Nat) (cur : Int) (b o b2 o2 : Nat) (x : Int × Nat) (w : World) (hx : x.2 < 18446744073709551616) (hn : w.cell? ⟨b, o, none⟩ = some (.int .i64 15)) (ha : w.cell? ⟨b, o + 2, none⟩ = some (.slice (some ⟨b2, o2, none⟩) 1 1)) (hA : Asks 28 E B ne ce nb cb cur b2 o2 x w) :
    Calls Try.prog 28 #[lookV E B ne ce nb cb cur, .pointer (some ⟨b, o, none⟩)] w (VIs (appP 15 [x]) w) := by
  have L := Lib.hid (fun w => isleaf_15 w)
  obtain ⟨xk, xb⟩ := x
  have AP := Lib.hid (fun w A (h : RowV w A 1 [(xk, xb)]) => apply_any 15 A 1 1 [(xk, xb)] w h)
  generalize appP 15 [(xk, xb)] = y at *
  obtain ⟨yk, yb⟩ := y
  simp only at AP hx
  obtain ⟨i0, hi, hz0, hz1, hz2⟩ := info_parts infoV
  have hmk : ∀ w, (Instr.makeSlice 47 (.int .i64 1) (.int .i64 1)).run Try.prog w = .ok (.slice (some ⟨w.heap.size, 0, none⟩) 1 1) (w.alloc (.cells (madeCells #[.int .i64 0, .int .u64 0] 2) 25)) := fun w => by
    have := run_make (P := Try.prog) w 47 25 i0 _ Try.underlying47 hi hz0 .i64 .i64 1 1 (by omega) (by omega) (by rw [hz2]; omega) (by omega)
    rw [hz1] at this
    exact this
  have hu := m2 w (lookO E B ne ce nb cb cur) (.cells #[.int .i64 0, .int .u64 0] 25)
  have k0 := (Blk.made w 34 #[.slice E ne ce, .slice B nb cb, .int .i64 cur]).kept (m1 _ (.cells #[.int .i64 0, .int .u64 0] 25))
  have k1 : Blk ((w.alloc (lookO E B ne ce nb cb cur)).alloc (.cells #[.int .i64 0, .int .u64 0] 25)) (w.heap.size + 1) 25 #[.int .i64 0, .int .u64 0] := by
    have := Blk.made (w.alloc (lookO E B ne ce nb cb cur)) 25 #[.int .i64 0, .int .u64 0]
    simpa using this
  have hn1 := cell_later hu hn
  have ha1 := cell_later hu ha
  have hs2 : ((w.alloc (lookO E B ne ce nb cb cur)).alloc (.cells #[.int .i64 0, .int .u64 0] 25)).heap.size = w.heap.size + 2 := by simp
  replace hA := Lib.hid hA
  replace hu := Lib.hid hu
  replace hz0 := Lib.hid hz0
  replace hz1 := Lib.hid hz1
  replace hz2 := Lib.hid hz2
  replace hi := Lib.hid hi
  replace k0 := Lib.hid k0
  replace k1 := Lib.hid k1
  replace hs2 := Lib.hid hs2
  go_enter Try.func28, Try.ntmps28
  go_upto_region 4 with (first | (go_at_call 53; refine (L.out _).mono ?_; rintro e w' ⟨rfl, rfl⟩) | fail)
  have M0 := MadeTo.zero ((w.alloc (lookO E B ne ce nb cb cur)).alloc (.cells #[.int .i64 0, .int .u64 0] 25)) #[.int .i64 0, .int .u64 0] [(xk, xb)]
  have hb2 := m1 ((w.alloc (lookO E B ne ce nb cb cur)).alloc (.cells #[.int .i64 0, .int .u64 0] 25)) (.cells (madeCells #[.int .i64 0, .int .u64 0] 2) 25)
  rw [hs2.out] at M0
  have k0 := Lib.hid (k0.out.kept hb2)
  have k1 := Lib.hid (k1.out.kept hb2)
  replace hn1 := cell_later hb2 hn1
  replace ha1 := cell_later hb2 ha1
  have hU := mmore hu.out hb2
  clear hb2 hu hs2 hmk
  have M0' : MadeTo (((w.alloc (lookO E B ne ce nb cb cur)).alloc (.cells #[.int .i64 0, .int .u64 0] 25)).alloc (.cells (madeCells #[.int .i64 0, .int .u64 0] 2) 25)) (w.heap.size + 2) [(xk, xb)] 0 := M0
  clear M0
  generalize ((w.alloc (lookO E B ne ce nb cb cur)).alloc (.cells #[.int .i64 0, .int .u64 0] 25)).alloc (.cells (madeCells #[.int .i64 0, .int .u64 0] 2) 25) = u at *
  have R0 := Lib.hid (And.intro M0' (And.intro (World.grownBy.refl u (some (w.heap.size + 2))) hU))
  clear M0' hU
  go_wp2_with fail
  go_loopw [26] (fun i wr => ∃ k : Nat, k ≤ 1 ∧ i = .int .i64 (k : Int) ∧ AtsR u w (w.heap.size + 2) [(xk, xb)] k wr) (fun i _ => 1 - (intOf i).toNat)
  case atStart => exact ⟨0, Nat.zero_le _, rfl, R0.out⟩
  case round =>
    obtain ⟨k, hk, rfl, hM, hG, hW⟩ := hrel
    clear R0
    have q0 := k0.out.grown hG (show some w.heap.size ≠ some (w.heap.size + 2) by intro e; injection e; omega)
    have q1 := k1.out.grown hG (show some (w.heap.size + 1) ≠ some (w.heap.size + 2) by intro e; injection e; omega)
    have hn2 := cell_later hW hn
    have ha2 := cell_later hW ha
    clear hn1 ha1 hn ha
    by_cases hkl : k < 1
    · obtain rfl : k = 0 := by omega
      have c0 : wr.cell? ⟨w.heap.size, 0, none⟩ = some (.slice E ne ce) := q0.cell 0
      have c1 : wr.cell? ⟨w.heap.size, 1, none⟩ = some (.slice B nb cb) := q0.cell 1
      have c2 : wr.cell? ⟨w.heap.size, 2, none⟩ = some (.int .i64 cur) := q0.cell 2
      have hR := Lib.hid (hA.out wr.drew hW.drew)
      replace hM := Lib.hid (show MadeTo wr.drew (w.heap.size + 2) [(xk, xb)] 0 from hM)
      replace hG := Lib.hid hG
      replace hW := Lib.hid hW
      clear q0 q1
      go_wp2_with fail
      go_region_law (go_simp; go_at_call 28; refine hR.out.mono ?_; rintro e w2 ⟨rfl, hb1⟩; have hM2 := hM.out.kept hb1; obtain ⟨x0, y0, z0, z1, z2, z3⟩ := hM2.two (by simp); simp only [Nat.zero_mul, Nat.zero_add] at z0 z1 z2 z3)
      all_goals have hM4 := hM2.step (v := (xk, xb)) rfl
      all_goals have hG4 := mgrown (mgrown (mgrown hG.out (grown_drew hb1) (fun k h => by cases h)) (mset w2 ⟨w.heap.size + 2, 0 * 2, none⟩ (.int .i64 xk)) (fun k h => .inl (by simpa using h))) (mset _ ⟨w.heap.size + 2, 0 * 2 + 1, none⟩ (.int .u64 (xb : Int))) (fun k h => .inl (by simpa using h))
      all_goals have hW4 := ((mmore hW.out.drew hb1).setCell (p := ⟨w.heap.size + 2, 0 * 2, none⟩) (by show w.heap.size ≤ w.heap.size + 2; omega) (.int .i64 xk)).setCell (p := ⟨w.heap.size + 2, 0 * 2 + 1, none⟩) (by show w.heap.size ≤ w.heap.size + 2; omega) (.int .u64 (xb : Int))
      all_goals simp only [Nat.zero_mul, Nat.zero_add] at hM4 hG4 hW4
      all_goals replace hM4 := Lib.hid hM4
      all_goals replace hG4 := Lib.hid hG4
      all_goals replace hW4 := Lib.hid hW4
      all_goals clear hM2 hM hG hW hR c0 c1 c2 z0 z1 z2 z3 hb1
      all_goals go_wp2
      all_goals go_roundw
      all_goals first | exact ⟨1, by omega, by go_num, hM4.out, hG4.out, hW4.out⟩ | (simp [intOf]; done) | (simp [intOf]; omega)
    · obtain rfl : k = 1 := by omega
      have hR := hM.row (by intro v hv; simp at hv; subst hv; exact hx)
      replace hM := Lib.hid hM
      have O := Lib.hid (AP.out wr _ hR)
      have hn3 : wr.cell? ⟨b, o, none⟩ = some (.int .i64 15) := hn2
      replace hG := Lib.hid hG
      replace hW := Lib.hid hW
      replace q1 := Lib.hid q1
      clear hR q0 AP
      go_wp2_with fail
      refine O.out.mono ?_; rintro e w5 ⟨rfl, hb5⟩
      have k5 := q1.out.kept hb5
      have x0 : w5.cell? ⟨w.heap.size + 1, 0, none⟩ = some (.int .i64 0) := k5.cell 0
      have x1 : w5.cell? ⟨w.heap.size + 1, 1, none⟩ = some (.int .u64 0) := k5.cell 1
      have f0 : w5.frozen? ⟨w.heap.size + 1, 0, none⟩ = false := k5.free 0
      have f1 : w5.frozen? ⟨w.heap.size + 1, 1, none⟩ = false := k5.free 1
      have hW5 := mmore hW.out hb5
      obtain ⟨_, r1, r2⟩ := put2 (w := w5) (g := w.heap.size + 1) (.int .i64 yk) (.int .u64 (yb : Int)) x0 x1
      replace r1 := Lib.hid r1
      replace r2 := Lib.hid r2
      replace hW5 := Lib.hid hW5
      clear hb5 k5 hn2 ha2 hn3
      go_wp2
      exact bodyPost_ret (v := .agg #[.int .i64 yk, .int .u64 (yb : Int)]) (by simp [results, Try.results28, go_sem, r1.out, r2.out]) rfl (.mk rfl ((hW5.out.setCell (by show w.heap.size ≤ w.heap.size + 1; omega) _).setCell (by show w.heap.size ≤ w.heap.size + 1; omega) _))

theorem ask_15 (E B : Option Addr) (ne ce nb cb : Nat) (cur : Int) (b o b2 o2 : Nat) (op : Int) (x : Int × Nat) (w : World) (hop : LeafOp op) (hx : x.2 < 18446744073709551616) (hn : w.cell? ⟨b, o, none⟩ = some (.int .i64 15)) (ha : w.cell? ⟨b, o + 2, none⟩ = some (.slice (some ⟨b2, o2, none⟩) 1 1)) (hc : w.cell? ⟨b2, o2, none⟩ = some (.int .i64 op)) (hA : Asks 54 E B ne ce nb cb cur b2 o2 x w) :
    Calls Try.prog 17 #[lookV E B ne ce nb cb cur, .pointer (some ⟨b, o, none⟩)] w (VIs (appP 15 [x]) w) :=
  ask_few E B ne ce nb cb cur b o _ w (fun wz hz => few_15 b o b2 o2 op wz hop (cell_later hz hn) (cell_later hz ha) (cell_later hz hc)) fun wz hz =>
    down_15 E B ne ce nb cb cur b o b2 o2 x wz hx (cell_later hz hn) (cell_later hz ha) fun wy hy => down_leaf E B ne ce nb cb cur b2 o2 op x wy hop (cell_later (mmore hz hy) hc) ((hA.later hz).later hy)

set_option maxHeartbeats 4000000 in
set_option maxRecDepth 100000 in
/-- a list of one condition that isn't the Bool 1 -/
theorem all_one (E B : Option Addr) (ne ce nb cb : Nat) (cur : Int) (g : Nat) (x : Int × Nat) (w : World) (hx : x.1 ≠ 2) (hA : Asks 17 E B ne ce nb cb cur g 0 x w) :
    Calls Try.prog 11 #[.slice (some ⟨g, 0, none⟩) 1 1, lookV E B ne ce nb cb cur] w fun e w' => e = .returned (.bool false) ∧ Below w.heap.size w w' := by
  obtain ⟨xk, xb⟩ := x
  have hne : ∀ w, (binOp .neq 25 (.agg #[.int .i64 xk, .int .u64 (xb : Int)]) (.agg #[.int .i64 2, .int .u64 1])).run Try.prog w = .ok (.bool true) w := fun w => by
    have : ¬ xk = 2 := hx
    simp [go_sem, this]
  have hu := m1 w (lookO E B ne ce nb cb cur)
  have c0 : (w.alloc (lookO E B ne ce nb cb cur)).cell? ⟨w.heap.size, 0, none⟩ = some (.slice E ne ce) := by simp [go_sem]
  have c1 : (w.alloc (lookO E B ne ce nb cb cur)).cell? ⟨w.heap.size, 1, none⟩ = some (.slice B nb cb) := by simp [go_sem]
  have c2 : (w.alloc (lookO E B ne ce nb cb cur)).cell? ⟨w.heap.size, 2, none⟩ = some (.int .i64 cur) := by simp [go_sem]
  have O := Lib.hid (hA _ hu.drew)
  replace hu := Lib.hid hu
  clear hA
  go_enter Try.func11, Try.ntmps11
  go_wp2_with fail
  go_loopw [8] (fun i wr => i = .int .i64 0 ∧ wr = w.alloc (lookO E B ne ce nb cb cur)) (fun i _ => 0)
  case atStart => exact ⟨rfl, rfl⟩
  case round =>
    obtain ⟨rfl, rfl⟩ := hrel
    go_wp2_with fail
    go_region_with (go_at_call 17; refine O.out.mono ?_; rintro e w2 ⟨rfl, hb1⟩; have hB := Lib.hid (mmore hu.out.drew hb1))
    all_goals go_wp2
    all_goals go_ret
    all_goals exact ⟨rfl, hB.out⟩
end Go.Proofs.Ytfjnphiegoogoaa

/- Pm -/
namespace Go.Proofs.Ytfjnphiegoogoaa
open Go.ChangeShapes Go.WideShapes Go.ChangeAt Go.RowKit
set_option linter.unusedVariables false
set_option linter.unusedSimpArgs false

/-- a cell of a plain block: nothing of it is frozen -/
def Plain (w : World) (a : Addr) : Prop := ∃ cs t, w.heap[a.block]? = some (.cells cs t (0, 0))
theorem Plain.later {w w1 : World} {a : Addr} (h : Plain w a) (hb : Below w.heap.size w w1) : Plain w1 a := by
  obtain ⟨cs, t, h⟩ := h
  exact ⟨cs, t, (hb.block _ (Array.getElem?_eq_some_iff.1 h).1).trans h⟩
def keysV (m : List (Addr × Value)) : List (Value × Value) := m.map fun x => (.pointer (some x.1), x.2)
/-- a map lies there, its entries in the order in which they came -/
def PtrMap (w : World) (r : Nat) (m : List (Addr × Value)) : Prop := ∃ es clock, w.heap[r]? = some (.map es clock) ∧ es.toList.map (fun e => (e.key, e.val)) = keysV m
def pget (m : List (Addr × Value)) (p : Addr) : Option Value := (m.find? fun x => decide (x.1 = p)).map (·.2)
theorem pget_nil (p : Addr) : pget [] p = none := rfl
theorem pget_cons (x : Addr × Value) (m : List (Addr × Value)) (p : Addr) : pget (x :: m) p = if x.1 = p then some x.2 else pget m p := by
  unfold pget
  rw [List.find?_cons]
  by_cases h : x.1 = p
  · simp [h]
  · simp [h]
theorem PtrMap.lt {w : World} {r : Nat} {m : List (Addr × Value)} (h : PtrMap w r m) : r < w.heap.size := by
  obtain ⟨es, c, h, _⟩ := h
  exact (Array.getElem?_eq_some_iff.1 h).1
theorem PtrMap.same {w w1 : World} {r : Nat} {m : List (Addr × Value)} (h : PtrMap w r m) (he : w1.heap[r]? = w.heap[r]?) : PtrMap w1 r m := by
  obtain ⟨es, c, h1, h2⟩ := h
  exact ⟨es, c, he.trans h1, h2⟩
theorem PtrMap.later {w w1 : World} {r : Nat} {m : List (Addr × Value)} (h : PtrMap w r m) (hb : Below w.heap.size w w1) : PtrMap w1 r m := h.same (hb.block _ h.lt)
theorem PtrMap.new (w : World) : PtrMap (w.alloc (.map #[] 0)) w.heap.size [] := ⟨#[], 0, World.alloc_heap_new w _, rfl⟩

section
variable {P : Program} {w : World} {t te mt et : TypeId} {j : TypeInfo}
theorem run_equalIn_ptr (d : Nat) (hp : P.underlying t = some (.pointer te)) (hte : P.info? te = some j) (hsz : j.size ≠ 0) {a b : Addr} (ha : Plain w a) (hb : Plain w b) :
    (Op.equalIn (d + 1) t (.pointer (some a)) (.pointer (some b))).run P w = .ok (decide (b = a)) w := by
  obtain ⟨ca, ta, ha⟩ := ha
  obtain ⟨cb, tb, hb⟩ := hb
  by_cases h : a = b
  · subst h
    simp [Op.equalIn, run_underlying hp, sizeOf, typeInfo, hte, hsz, run_sameAddr_same]
  · have h2 : ¬ b = a := fun e => h e.symm
    simp [Op.equalIn, run_underlying hp, sizeOf, typeInfo, hte, hsz, run_sameAddr_other w h ha hb, h2]
theorem run_equal_ptr (hp : P.underlying t = some (.pointer te)) (hte : P.info? te = some j) (hsz : j.size ≠ 0) {a b : Addr} (ha : Plain w a) (hb : Plain w b) :
    (Op.equal t (.pointer (some a)) (.pointer (some b))).run P w = .ok (decide (b = a)) w := run_equalIn_ptr 9999 hp hte hsz ha hb
theorem run_findAsking_ptr (hp : P.underlying t = some (.pointer te)) (hte : P.info? te = some j) (hsz : j.size ≠ 0) {p : Addr} (hpl : Plain w p) :
    ∀ (es : List MapEntry) (m : List (Addr × Value)) (i : Nat), es.map (fun e => (e.key, e.val)) = keysV m → (∀ x ∈ m, Plain w x.1) →
      (pget m p = none ∧ (Instr.findAsking t (.pointer (some p)) es i).run P w = .ok none w) ∨ ∃ v k, pget m p = some v ∧ (Instr.findAsking t (.pointer (some p)) es i).run P w = .ok (some (k, v)) w
  | [], [], i, _, _ => .inl ⟨rfl, by simp [Instr.findAsking]⟩
  | [], x :: m, i, h, _ => by simp [keysV] at h
  | e :: es, [], i, h, _ => by simp [keysV] at h
  | e :: es, x :: m, i, h, hm => by
    simp only [keysV, List.map_cons, List.cons.injEq, Prod.mk.injEq] at h
    obtain ⟨⟨h1, h2⟩, h3⟩ := h
    have he := run_equal_ptr (P := P) (w := w) hp hte hsz hpl (hm x (by simp))
    rw [pget_cons]
    by_cases hx : x.1 = p
    · right
      refine ⟨x.2, i, by rw [if_pos hx], ?_⟩
      rw [hx] at he h1
      simp [Instr.findAsking, h1, h2, he, Result.andThen]
    · rw [if_neg hx]
      have ih := run_findAsking_ptr hp hte hsz hpl es m (i + 1) h3 (fun y hy => hm y (by simp [hy]))
      have st : (Instr.findAsking t (.pointer (some p)) (e :: es) i).run P w = (Instr.findAsking t (.pointer (some p)) es (i + 1)).run P w := by
        simp [Instr.findAsking, h1, he, hx, Result.andThen]
      rw [st]
      exact ih
theorem run_findKey_ptr (hp : P.underlying t = some (.pointer te)) (hte : P.info? te = some j) (hsz : j.size ≠ 0) {p : Addr} (hpl : Plain w p)
    (es : List MapEntry) (m : List (Addr × Value)) (h : es.map (fun e => (e.key, e.val)) = keysV m) (hm : ∀ x ∈ m, Plain w x.1) :
    (pget m p = none ∧ (Instr.findKey t (.pointer (some p)) es).run P w = .ok none w) ∨ ∃ v k, pget m p = some v ∧ (Instr.findKey t (.pointer (some p)) es).run P w = .ok (some (k, v)) w := by
  cases es with
  | nil =>
    cases m with
    | nil => exact .inl ⟨rfl, by simp [Instr.findKey, run_underlying hp, Instr.findNow, Result.andThen]⟩
    | cons x m => simp [keysV] at h
  | cons e es =>
    have hn : Instr.findNow (.pointer te) (.pointer (some p)) (e :: es) 0 = none := by simp [Instr.findNow, Instr.sameNow]
    have hk : (Instr.findKey t (.pointer (some p)) (e :: es)).run P w = (Instr.findAsking t (.pointer (some p)) (e :: es) 0).run P w := by
      simp [Instr.findKey, run_underlying hp, hn, Result.andThen]
    rw [hk]
    exact run_findAsking_ptr hp hte hsz hpl (e :: es) m 0 h hm
theorem run_checkKey_ptr (hp : P.underlying t = some (.pointer te)) (b : Bool) (p : Option Addr) : (Instr.checkKey b 10000 t (.pointer p)).run P w = .ok () w := by
  unfold Instr.checkKey
  simp [run_underlying hp, Result.andThen]
/-- 'v, ok := m[p]' -/
theorem run_lookup_ptr (hmt : P.underlying mt = some (.map t et)) (hp : P.underlying t = some (.pointer te)) (hte : P.info? te = some j) (hsz : j.size ≠ 0) {z : Value} {i : TypeInfo} (hz : P.info? et = some i) (hz2 : i.zero = some z) {r : Nat} {m : List (Addr × Value)} {p : Addr} (h : PtrMap w r m) (hpl : Plain w p) (hm : ∀ x ∈ m, Plain w x.1) (c : Bool) :
    (Instr.lookup mt (.map (some r)) (.pointer (some p)) c).run P w = .ok (if c then .tuple #[(pget m p).getD z, .bool (pget m p).isSome] else (pget m p).getD z) w := by
  obtain ⟨es, clock, h1, h2⟩ := h
  rcases run_findKey_ptr hp hte hsz hpl es.toList m h2 hm with ⟨h3, h4⟩ | ⟨v, k, h3, h4⟩
  · simp [Instr.lookup, run_underlying hmt, MapKept.run_getObj_map h1, run_checkKey_ptr hp, h4, h3, zeroValue, typeInfo, hz, hz2, Result.andThen]
  · simp [Instr.lookup, run_underlying hmt, MapKept.run_getObj_map h1, run_checkKey_ptr hp, h4, h3, Result.andThen]
/-- 'm[p] = v' of a key that isn't there -/
theorem run_update_ptr (hmt : P.underlying mt = some (.map t et)) (hp : P.underlying t = some (.pointer te)) (hte : P.info? te = some j) (hsz : j.size ≠ 0) {r : Nat} {m : List (Addr × Value)} {p : Addr} (v : Value) (h : PtrMap w r m) (hpl : Plain w p) (hm : ∀ x ∈ m, Plain w x.1) (hn : pget m p = none) :
    ∃ o : Obj, o.isCells = false ∧ (Instr.mapUpdate mt (.map (some r)) (.pointer (some p)) v).run P w = .ok () (w.putObj r o) ∧ PtrMap (w.putObj r o) r (m ++ [(p, v)]) := by
  have hlt := h.lt
  obtain ⟨es, clock, h1, h2⟩ := h
  rcases run_findKey_ptr hp hte hsz hpl es.toList m h2 hm with ⟨h3, h4⟩ | ⟨v', k, h3, h4⟩
  · refine ⟨.map (es.push { key := .pointer (some p), val := v, born := clock }) (clock + 1), rfl, ?_, ?_⟩
    · simp [Instr.mapUpdate, run_underlying hmt, MapKept.run_getObj_map h1, run_checkKey_ptr hp, h4, MapKept.run_setObj_map _ h1, Result.andThen, World.putObj]
    · exact ⟨_, _, World.putObj_heap_same hlt, by simp [keysV, ← h2] ; simpa [keysV] using h2⟩
  · rw [hn] at h3; cases h3
end
end Go.Proofs.Ytfjnphiegoogoaa

/- UpA -/
namespace Go.Proofs.Ytfjnphiegoogoaa
open Go.ChangeShapes Go.WideShapes Go.ChangeAt Go.RowKit
set_option linter.unusedVariables false
set_option linter.unusedSimpArgs false

/-- ch: the nodes below one; met: those that were met; the stack, its top first; xs: what is still yielded; n: how many rounds -/
inductive DfsN (ch : Addr → List Addr) : List Addr → List (Addr × Nat) → List Addr → Nat → Prop
  | done (met : List Addr) : DfsN ch met [] [] 0
  | push (met : List Addr) (p q : Addr) (i : Nat) (st : List (Addr × Nat)) (xs : List Addr) (n : Nat) (h : (ch p)[i]? = some q) (hm : q ∉ met) (k : DfsN ch (met ++ [q]) ((q, 0) :: (p, i + 1) :: st) xs n) : DfsN ch met ((p, i) :: st) xs (n + 1)
  | skip (met : List Addr) (p q : Addr) (i : Nat) (st : List (Addr × Nat)) (xs : List Addr) (n : Nat) (h : (ch p)[i]? = some q) (hm : q ∈ met) (k : DfsN ch met ((p, i + 1) :: st) xs n) : DfsN ch met ((p, i) :: st) xs (n + 1)
  | pop (met : List Addr) (p : Addr) (i : Nat) (st : List (Addr × Nat)) (xs : List Addr) (n : Nat) (h : (ch p)[i]? = none) (k : DfsN ch met st xs n) : DfsN ch met ((p, i) :: st) (p :: xs) (n + 1)
theorem DfsN.one {ch : Addr → List Addr} {met : List Addr} {st : List (Addr × Nat)} {xs ys : List Addr} {n m : Nat} (h : DfsN ch met st xs n) (h' : DfsN ch met st ys m) : xs = ys ∧ n = m := by
  induction h generalizing ys m with
  | done met => cases h'; exact ⟨rfl, rfl⟩
  | push met p q i st xs n h hm k ih =>
    cases h' with
    | push _ _ q' _ _ _ _ h2 hm2 k2 =>
      rw [h] at h2
      injection h2 with h2
      subst h2
      obtain ⟨h1, h2⟩ := ih k2
      exact ⟨h1, by rw [h2]⟩
    | skip _ _ q' _ _ _ _ h2 hm2 k2 =>
      rw [h] at h2
      injection h2 with h2
      subst h2
      exact absurd hm2 hm
    | pop _ _ _ _ _ _ h2 => rw [h] at h2; cases h2
  | skip met p q i st xs n h hm k ih =>
    cases h' with
    | push _ _ q' _ _ _ _ h2 hm2 k2 =>
      rw [h] at h2
      injection h2 with h2
      subst h2
      exact absurd hm hm2
    | skip _ _ q' _ _ _ _ h2 hm2 k2 =>
      obtain ⟨h1, h2⟩ := ih k2
      exact ⟨h1, by rw [h2]⟩
    | pop _ _ _ _ _ _ h2 => rw [h] at h2; cases h2
  | pop met p i st xs n h k ih =>
    cases h' with
    | push _ _ q' _ _ _ _ h2 => rw [h] at h2; cases h2
    | skip _ _ q' _ _ _ _ h2 => rw [h] at h2; cases h2
    | pop _ _ _ _ _ _ h2 k2 =>
      obtain ⟨h1, h2⟩ := ih k2
      exact ⟨by rw [h1], by rw [h2]⟩
/-- each yielded node stands behind those below it, and comes once -/
def Ordered (ch : Addr → List Addr) : List Addr → Prop := fun xs => xs.Nodup ∧ ∀ (pre : List Addr) (p : Addr) (post : List Addr), xs = pre ++ p :: post → ∀ q ∈ ch p, q ∈ pre
/-- a graph within a set, downwards -/
def Within (ch : Addr → List Addr) (D : Addr → Prop) : Prop := ∀ p, D p → ∀ q ∈ ch p, D q
/-- the stack is a way down: each pushed node is below the one beneath it -/
theorem dfs_exists (ch : Addr → List Addr) (rk : Addr → Nat) (D : Addr → Prop) (hw : Within ch D) (hr : ∀ p, D p → ∀ q ∈ ch p, rk q < rk p) :
    ∀ (r : Nat) (p : Addr), D p → rk p ≤ r → ∀ (j i : Nat), (ch p).length - i = j → ∀ (met : List Addr), ∃ (met' ys : List Addr) (c : Nat), met <+: met' ∧
      (∀ q ∈ (ch p).drop i, q ∈ met') ∧
      ∀ (st : List (Addr × Nat)) (xs : List Addr) (n : Nat), DfsN ch met' st xs n → DfsN ch met ((p, i) :: st) (ys ++ p :: xs) (n + c) := by
  intro r
  induction r with
  | zero =>
    intro p hp hrp j i hj met
    have h0 : ch p = [] := by
      cases h : ch p with
      | nil => rfl
      | cons q l => have := hr p hp q (by rw [h]; simp); omega
    refine ⟨met, [], 1, List.prefix_refl _, by rw [h0]; simp, fun st xs n k => ?_⟩
    exact .pop met p i st xs n (by rw [h0]; simp) k
  | succ r ihr =>
    intro p hp hrp j
    induction j with
    | zero =>
      intro i hj met
      refine ⟨met, [], 1, List.prefix_refl _, ?_, fun st xs n k => ?_⟩
      · rw [List.drop_eq_nil_of_le (by omega)]; simp
      · exact .pop met p i st xs n (by rw [List.getElem?_eq_none (by omega)]) k
    | succ j ihj =>
      intro i hj met
      have hlt : i < (ch p).length := by omega
      obtain ⟨q, hq⟩ : ∃ q, (ch p)[i]? = some q := ⟨_, List.getElem?_eq_getElem hlt⟩
      have hqm : q ∈ ch p := List.mem_of_getElem? hq
      have hdrop : (ch p).drop i = q :: (ch p).drop (i + 1) := by
        rw [List.drop_eq_getElem_cons hlt]
        rw [List.getElem?_eq_getElem hlt] at hq
        injection hq with hq
        rw [hq]
      by_cases hm : q ∈ met
      · obtain ⟨met', ys, c, h1, h2, h3⟩ := ihj (i + 1) (by omega) met
        refine ⟨met', ys, c + 1, h1, ?_, fun st xs n k => .skip met p q i st _ _ hq hm (h3 st xs n k)⟩
        intro x hx
        rw [hdrop] at hx
        rcases List.mem_cons.1 hx with rfl | hx
        · exact h1.subset hm
        · exact h2 x hx
      · obtain ⟨m1, ys1, c1, a1, a2, a3⟩ := ihr q (hw p hp q hqm) (by have := hr p hp q hqm; omega) ((ch q).length - 0) 0 rfl (met ++ [q])
        obtain ⟨m2, ys2, c2, b1, b2, b3⟩ := ihj (i + 1) (by omega) m1
        have hpre : met <+: m2 := ((List.prefix_append met [q]).trans a1).trans b1
        refine ⟨m2, ys1 ++ q :: ys2, c2 + c1 + 1, hpre, ?_, fun st xs n k => ?_⟩
        · intro x hx
          rw [hdrop] at hx
          rcases List.mem_cons.1 hx with rfl | hx
          · exact b1.subset (a1.subset (by simp))
          · exact b2 x hx
        · have k2 := b3 st xs n k
          have k1 := a3 ((p, i + 1) :: st) (ys2 ++ p :: xs) (n + c2) k2
          rw [List.append_assoc, List.cons_append]
          rw [show n + (c2 + c1 + 1) = n + c2 + c1 + 1 by omega]
          exact .push met p q i st _ _ hq hm k1
/-- from a root there is just one sequence -/
theorem dfs_root (ch : Addr → List Addr) (rk : Addr → Nat) (D : Addr → Prop) (hw : Within ch D) (hr : ∀ p, D p → ∀ q ∈ ch p, rk q < rk p) (root : Addr) (h0 : D root) :
    ∃ ys n, DfsN ch [root] [(root, 0)] (ys ++ [root]) n := by
  obtain ⟨met', ys, c, _, _, h⟩ := dfs_exists ch rk D hw hr (rk root) root h0 (Nat.le_refl _) _ 0 rfl [root]
  exact ⟨ys, _, h [] [] 0 (.done met')⟩
/-- all that is yielded lies within -/
theorem DfsN.within {ch : Addr → List Addr} {D : Addr → Prop} (hw : Within ch D) {met : List Addr} {st : List (Addr × Nat)} {xs : List Addr} {n : Nat} (h : DfsN ch met st xs n) : (∀ x ∈ st, D x.1) → ∀ x ∈ xs, D x := by
  induction h with
  | done met => intro _ x hx; cases hx
  | push met p q i st xs n h hm k ih =>
    intro hs
    have hp : D p := hs (p, i) (by simp)
    refine ih fun x hx => ?_
    simp only [List.mem_cons] at hx
    rcases hx with rfl | rfl | hx
    · exact hw p hp q (List.mem_of_getElem? h)
    · exact hp
    · exact hs x (by simp [hx])
  | skip met p q i st xs n h hm k ih =>
    intro hs
    refine ih fun x hx => ?_
    rcases List.mem_cons.1 hx with rfl | hx
    · exact hs (p, i) (by simp)
    · exact hs x (by simp [hx])
  | pop met p i st xs n h k ih =>
    intro hs x hx
    rcases List.mem_cons.1 hx with rfl | hx
    · exact hs (x, i) (by simp)
    · exact ih (fun y hy => hs y (by simp [hy])) x hx
end Go.Proofs.Ytfjnphiegoogoaa

/- UpO -/
namespace Go.Proofs.Ytfjnphiegoogoaa
set_option linter.unusedVariables false
set_option linter.unusedSimpArgs false

/-- each behind those below it, F having been before -/
def OrdF (ch : Addr → List Addr) : List Addr → List Addr → Prop
  | F, [] => True
  | F, x :: ys => (∀ q ∈ ch x, q ∈ F) ∧ OrdF ch (F ++ [x]) ys
theorem OrdF.append {ch : Addr → List Addr} : ∀ {F a b : List Addr}, OrdF ch F a → OrdF ch (F ++ a) b → OrdF ch F (a ++ b)
  | F, [], b, _, h => by simpa using h
  | F, x :: a, b, h, k => ⟨h.1, OrdF.append h.2 (by simpa using k)⟩
theorem OrdF.at {ch : Addr → List Addr} : ∀ {F a b : List Addr} {x : Addr}, OrdF ch F (a ++ x :: b) → ∀ q ∈ ch x, q ∈ F ∨ q ∈ a
  | F, [], b, x, h, q, hq => .inl (h.1 q hq)
  | F, y :: a, b, x, h, q, hq => by
    rcases OrdF.at (a := a) h.2 q hq with h2 | h2
    · rcases List.mem_append.1 h2 with h3 | h3
      · exact .inl h3
      · exact .inr (by rw [List.mem_singleton.1 h3]; simp)
    · exact .inr (List.mem_cons_of_mem _ h2)
theorem dfs_order (ch : Addr → List Addr) (rk : Addr → Nat) (D : Addr → Prop) (hw : Within ch D) (hr : ∀ p, D p → ∀ q ∈ ch p, rk q < rk p) :
    ∀ (r : Nat) (p : Addr), D p → rk p ≤ r → ∀ (j i : Nat), (ch p).length - i = j → ∀ (met F : List Addr), (∀ q ∈ met, q ∈ F ∨ rk p ≤ rk q) → ∃ (met' ys : List Addr) (c : Nat), met <+: met' ∧
      (∀ x ∈ met', x ∈ met ∨ x ∈ ys) ∧ (∀ x ∈ ys, x ∉ met ∧ x ∈ met') ∧ ys.Nodup ∧ OrdF ch F ys ∧
      (∀ q ∈ (ch p).drop i, q ∈ met') ∧
      ∀ (st : List (Addr × Nat)) (xs : List Addr) (n : Nat), DfsN ch met' st xs n → DfsN ch met ((p, i) :: st) (ys ++ p :: xs) (n + c) := by
  intro r
  induction r with
  | zero =>
    intro p hp hrp j i hj met F hF
    have h0 : ch p = [] := by
      cases h : ch p with
      | nil => rfl
      | cons q l => have := hr p hp q (by rw [h]; simp); omega
    refine ⟨met, [], 1, List.prefix_refl _, fun x hx => .inl hx, by simp, by simp, trivial, by rw [h0]; simp, fun st xs n k => ?_⟩
    exact .pop met p i st xs n (by rw [h0]; simp) k
  | succ r ihr =>
    intro p hp hrp j
    induction j with
    | zero =>
      intro i hj met F hF
      refine ⟨met, [], 1, List.prefix_refl _, fun x hx => .inl hx, by simp, by simp, trivial, ?_, fun st xs n k => ?_⟩
      · rw [List.drop_eq_nil_of_le (by omega)]; simp
      · exact .pop met p i st xs n (by rw [List.getElem?_eq_none (by omega)]) k
    | succ j ihj =>
      intro i hj met F hF
      have hlt : i < (ch p).length := by omega
      obtain ⟨q, hq⟩ : ∃ q, (ch p)[i]? = some q := ⟨_, List.getElem?_eq_getElem hlt⟩
      have hqm : q ∈ ch p := List.mem_of_getElem? hq
      have hrq := hr p hp q hqm
      have hdrop : (ch p).drop i = q :: (ch p).drop (i + 1) := by
        rw [List.drop_eq_getElem_cons hlt]
        rw [List.getElem?_eq_getElem hlt] at hq
        injection hq with hq
        rw [hq]
      by_cases hm : q ∈ met
      · obtain ⟨met', ys, c, h1, h2, h3, h4, h5, h6, h7⟩ := ihj (i + 1) (by omega) met F hF
        refine ⟨met', ys, c + 1, h1, h2, h3, h4, h5, ?_, fun st xs n k => .skip met p q i st _ _ hq hm (h7 st xs n k)⟩
        intro x hx
        rw [hdrop] at hx
        rcases List.mem_cons.1 hx with rfl | hx
        · exact h1.subset hm
        · exact h6 x hx
      · have hqD := hw p hp q hqm
        have hF1 : ∀ y ∈ met ++ [q], y ∈ F ∨ rk q ≤ rk y := by
          intro y hy
          rcases List.mem_append.1 hy with hy | hy
          · rcases hF y hy with h | h
            · exact .inl h
            · exact .inr (by omega)
          · rw [List.mem_singleton.1 hy]; exact .inr (Nat.le_refl _)
        obtain ⟨m1, ys1, c1, a1, a2, a3, a4, a5, a6, a7⟩ := ihr q hqD (by omega) ((ch q).length - 0) 0 rfl (met ++ [q]) F hF1
        have hF2 : ∀ y ∈ m1, y ∈ F ++ (ys1 ++ [q]) ∨ rk p ≤ rk y := by
          intro y hy
          rcases a2 y hy with h | h
          · rcases List.mem_append.1 h with h | h
            · rcases hF y h with h | h
              · exact .inl (by simp [h])
              · exact .inr h
            · rw [List.mem_singleton.1 h]; exact .inl (by simp)
          · exact .inl (by simp [h])
        obtain ⟨m2, ys2, c2, b1, b2, b3, b4, b5, b6, b7⟩ := ihj (i + 1) (by omega) m1 (F ++ (ys1 ++ [q])) hF2
        have hpre : met <+: m2 := ((List.prefix_append met [q]).trans a1).trans b1
        have hq1 : q ∈ m1 := a1.subset (by simp)
        refine ⟨m2, ys1 ++ q :: ys2, c2 + c1 + 1, hpre, ?_, ?_, ?_, ?_, ?_, fun st xs n k => ?_⟩
        · intro x hx
          rcases b2 x hx with h | h
          · rcases a2 x h with h | h
            · rcases List.mem_append.1 h with h | h
              · exact .inl h
              · rw [List.mem_singleton.1 h]; exact .inr (by simp)
            · exact .inr (by simp [h])
          · exact .inr (by simp [h])
        · intro x hx
          rcases List.mem_append.1 hx with h | h
          · obtain ⟨k1, k2⟩ := a3 x h
            exact ⟨fun e => k1 (by simp [e]), b1.subset k2⟩
          · rcases List.mem_cons.1 h with rfl | h
            · exact ⟨hm, b1.subset hq1⟩
            · obtain ⟨k1, k2⟩ := b3 x h
              exact ⟨fun e => k1 (a1.subset (by simp [e])), k2⟩
        · refine List.nodup_append.2 ⟨a4, List.nodup_cons.2 ⟨fun h => (b3 q h).1 hq1, b4⟩, ?_⟩
          intro x hx y hy e
          subst e
          rcases List.mem_cons.1 hy with rfl | hy
          · exact (a3 x hx).1 (by simp)
          · exact (b3 x hy).1 (a3 x hx).2
        · refine OrdF.append a5 ⟨?_, ?_⟩
          · intro y hy
            have hry := hr q hqD y hy
            rcases a2 y (a6 y (by simpa using hy)) with h | h
            · rcases hF1 y h with h | h
              · simp [h]
              · omega
            · simp [h]
          · rw [List.append_assoc]; exact b5
        · intro x hx
          rw [hdrop] at hx
          rcases List.mem_cons.1 hx with rfl | hx
          · exact b1.subset hq1
          · exact b6 x hx
        · have k2 := b7 st xs n k
          have k1 := a7 ((p, i + 1) :: st) (ys2 ++ p :: xs) (n + c2) k2
          rw [List.append_assoc, List.cons_append]
          rw [show n + (c2 + c1 + 1) = n + c2 + c1 + 1 by omega]
          exact .push met p q i st _ _ hq hm k1
/-- from a root: one sequence, no node twice, each behind those below it -/
theorem dfs_all (ch : Addr → List Addr) (rk : Addr → Nat) (D : Addr → Prop) (hw : Within ch D) (hr : ∀ p, D p → ∀ q ∈ ch p, rk q < rk p) (root : Addr) (h0 : D root) :
    ∃ ys n, DfsN ch [root] [(root, 0)] (ys ++ [root]) n ∧ (ys ++ [root]).Nodup ∧ OrdF ch [] (ys ++ [root]) := by
  obtain ⟨met', ys, c, _, h2, h3, h4, h5, h6, h⟩ := dfs_order ch rk D hw hr (rk root) root h0 (Nat.le_refl _) _ 0 rfl [root] [] (fun q hq => .inr (by rw [List.mem_singleton.1 hq]; exact Nat.le_refl _))
  refine ⟨ys, _, h [] [] 0 (.done met'), List.nodup_append.2 ⟨h4, by simp, ?_⟩, OrdF.append h5 ⟨?_, trivial⟩⟩
  · intro x hx y hy e
    subst e
    exact (h3 x hx).1 hy
  · intro q hq
    have hrq := hr root h0 q hq
    rcases h2 q (h6 q (by simpa using hq)) with h | h
    · rw [List.mem_singleton.1 h] at hrq; omega
    · simpa using h
end Go.Proofs.Ytfjnphiegoogoaa

/- Nd -/
namespace Go.Proofs.Ytfjnphiegoogoaa
open Go.ChangeShapes Go.WideShapes Go.ChangeAt Go.RowKit Go.Fl
set_option linter.unusedVariables false
set_option linter.unusedSimpArgs false

/-- a condition as a tree -/
inductive NT where
  | mk (op kd vk : Int) (vb : Nat) (pos attr : Int) (args : List NT) : NT
def NT.op : NT → Int | .mk a _ _ _ _ _ _ => a
def NT.args : NT → List NT | .mk _ _ _ _ _ _ l => l
mutual
/-- how many nodes -/
def NT.size : NT → Nat
  | .mk _ _ _ _ _ _ l => NT.sizes l + 1
def NT.sizes : List NT → Nat
  | [] => 0
  | t :: l => t.size + NT.sizes l
end
theorem NT.size_pos (t : NT) : 0 < t.size := by
  cases t; unfold NT.size; omega
theorem NT.size_mem : ∀ {l : List NT} {t : NT}, t ∈ l → t.size ≤ NT.sizes l
  | x :: l, t, h => by
    unfold NT.sizes
    rcases List.mem_cons.1 h with rfl | h
    · omega
    · have := NT.size_mem h; omega
theorem NT.size_len : ∀ l : List NT, l.length ≤ NT.sizes l
  | [] => Nat.le_refl _
  | x :: l => by
    have := NT.size_len l
    have := x.size_pos
    unfold NT.sizes
    simp only [List.length_cons]
    omega

/-- a tree lies at an address -/
inductive NodeIs (w : World) : Addr → NT → Prop
  | mk (b o : Nat) (op kd vk : Int) (vb : Nat) (pos attr : Int) (args : List NT) (A : Option Addr) (c : Nat)
      (h0 : w.cell? ⟨b, o, none⟩ = some (.int .i64 op)) (h1 : w.cell? ⟨b, o + 1, none⟩ = some (.int .i64 kd)) (h2 : w.cell? ⟨b, o + 2, none⟩ = some (.slice A args.length c))
      (h3 : w.cell? ⟨b, o + 3, none⟩ = some (.int .i64 vk)) (h4 : w.cell? ⟨b, o + 4, none⟩ = some (.int .u64 (vb : Int))) (h5 : w.cell? ⟨b, o + 5, none⟩ = some (.int .i64 pos)) (h6 : w.cell? ⟨b, o + 6, none⟩ = some (.int .i64 attr))
      (hvb : vb < 18446744073709551616) (hA : 0 < args.length → ∃ ab ao, A = some ⟨ab, ao, none⟩)
      (hk : ∀ (i : Nat) (t : NT), args[i]? = some t → ∀ ab ao, A = some ⟨ab, ao, none⟩ → NodeIs w ⟨ab, ao + i * 7, none⟩ t) :
      NodeIs w ⟨b, o, none⟩ (.mk op kd vk vb pos attr args)
theorem NodeIs.later {w w1 : World} (hb : Below w.heap.size w w1) {p : Addr} {t : NT} (h : NodeIs w p t) : NodeIs w1 p t := by
  induction h with
  | mk b o op kd vk vb pos attr args A c h0 h1 h2 h3 h4 h5 h6 hvb hA hk ih =>
    exact .mk b o op kd vk vb pos attr args A c (cell_later hb h0) (cell_later hb h1) (cell_later hb h2) (cell_later hb h3) (cell_later hb h4) (cell_later hb h5) (cell_later hb h6) hvb hA ih
theorem NodeIs.one {w : World} {p : Addr} {t u : NT} (h : NodeIs w p t) (h' : NodeIs w p u) : t = u := by
  induction h generalizing u with
  | mk b o op kd vk vb pos attr args A c h0 h1 h2 h3 h4 h5 h6 hvb hA hk ih =>
    cases h' with
    | mk _ _ op' kd' vk' vb' pos' attr' args' A' c' g0 g1 g2 g3 g4 g5 g6 gvb gA gk =>
      rw [h0] at g0; rw [h1] at g1; rw [h2] at g2; rw [h3] at g3; rw [h4] at g4; rw [h5] at g5; rw [h6] at g6
      simp only [Option.some.injEq, Value.int.injEq, Value.slice.injEq, true_and] at g0 g1 g2 g3 g4 g5 g6
      obtain ⟨rfl, hl, _⟩ := g2
      obtain rfl : vb = vb' := by omega
      subst g0 g1 g3 g5 g6
      congr 1
      refine List.ext_getElem hl fun i hi hi' => ?_
      obtain ⟨ab, ao, rfl⟩ := hA (by omega)
      exact ih i _ (List.getElem?_eq_getElem hi) ab ao rfl (gk i _ (List.getElem?_eq_getElem hi') ab ao rfl)
/-- the nodes below one -/
def chA (w : World) (p : Addr) : List Addr :=
  match w.cell? ⟨p.block, p.off + 2, none⟩ with
  | some (.slice (some a) n _) => (List.range n).map fun i => ⟨a.block, a.off + i * 7, none⟩
  | _ => []
/-- the addresses of a tree's nodes -/
theorem NodeIs.list {w : World} {p : Addr} {t : NT} (h : NodeIs w p t) : ∃ L : List Addr, p ∈ L ∧ L.length ≤ t.size ∧ ∀ q ∈ L, (∃ u, NodeIs w q u) ∧ ∀ r ∈ chA w q, r ∈ L := by
  induction h with
  | mk b o op kd vk vb pos attr args A c h0 h1 h2 h3 h4 h5 h6 hvb hA hk ih =>
    have hN : NodeIs w ⟨b, o, none⟩ (.mk op kd vk vb pos attr args) := .mk b o op kd vk vb pos attr args A c h0 h1 h2 h3 h4 h5 h6 hvb hA hk
    -- the lists of the first k operands
    have key : ∀ k, k ≤ args.length → ∃ M : List Addr, M.length ≤ NT.sizes (args.take k) ∧ (∀ i, i < k → ∀ ab ao, A = some ⟨ab, ao, none⟩ → (⟨ab, ao + i * 7, none⟩ : Addr) ∈ M) ∧ ∀ q ∈ M, (∃ u, NodeIs w q u) ∧ ∀ r ∈ chA w q, r ∈ M := by
      intro k
      induction k with
      | zero => intro _; exact ⟨[], by simp [NT.sizes], fun i hi => absurd hi (by omega), fun q hq => by cases hq⟩
      | succ k ihk =>
        intro hk1
        obtain ⟨M, m1, m2, m3⟩ := ihk (by omega)
        obtain ⟨ab, ao, hAe⟩ := hA (by omega)
        obtain ⟨L, l1, l2, l3⟩ := ih k _ (List.getElem?_eq_getElem (by omega)) ab ao hAe
        refine ⟨M ++ L, ?_, fun i hi ab' ao' he => ?_, fun q hq => ?_⟩
        · rw [List.length_append, List.take_add_one, List.getElem?_eq_getElem (by omega)]
          have : ∀ (a b : List NT), NT.sizes (a ++ b) = NT.sizes a + NT.sizes b := by
            intro a b
            induction a with
            | nil => simp [NT.sizes]
            | cons x a iha => simp only [List.cons_append, NT.sizes, iha]; omega
          rw [this]
          simp only [Option.toList_some, NT.sizes]
          omega
        · by_cases e : i = k
          · subst e
            rw [hAe] at he
            simp only [Option.some.injEq, Addr.mk.injEq, and_true] at he
            obtain ⟨rfl, rfl⟩ := he
            exact List.mem_append_right _ l1
          · exact List.mem_append_left _ (m2 i (by omega) ab' ao' he)
        · rcases List.mem_append.1 hq with hq | hq
          · exact ⟨(m3 q hq).1, fun r hr => List.mem_append_left _ ((m3 q hq).2 r hr)⟩
          · exact ⟨(l3 q hq).1, fun r hr => List.mem_append_right _ ((l3 q hq).2 r hr)⟩
    obtain ⟨M, m1, m2, m3⟩ := key args.length (Nat.le_refl _)
    rw [List.take_length] at m1
    refine ⟨⟨b, o, none⟩ :: M, List.mem_cons_self .., ?_, fun q hq => ?_⟩
    · unfold NT.size; simp only [List.length_cons]; omega
    · rcases List.mem_cons.1 hq with rfl | hq
      · refine ⟨⟨_, hN⟩, fun r hr => ?_⟩
        unfold chA at hr
        simp only [h2] at hr
        cases A with
        | none => simp at hr
        | some a =>
          simp only [List.mem_map, List.mem_range] at hr
          obtain ⟨i, hi, rfl⟩ := hr
          obtain ⟨ab, ao, e⟩ := hA (by omega)
          cases e
          exact List.mem_cons_of_mem _ (m2 i hi ab ao rfl)
      · exact ⟨(m3 q hq).1, fun r hr => List.mem_cons_of_mem _ ((m3 q hq).2 r hr)⟩
theorem nodup_len {α : Type} : ∀ {ys L : List α}, ys.Nodup → (∀ x ∈ ys, x ∈ L) → ys.length ≤ L.length
  | [], L, _, _ => Nat.zero_le _
  | x :: ys, L, hn, h => by
    obtain ⟨a, b, rfl⟩ := List.append_of_mem (h x (List.mem_cons_self ..))
    have hn' := List.nodup_cons.1 hn
    have := nodup_len (L := a ++ b) hn'.2 fun y hy => by
      have := h y (List.mem_cons_of_mem _ hy)
      simp only [List.mem_append, List.mem_cons] at this ⊢
      rcases this with h1 | rfl | h1
      · exact .inl h1
      · exact absurd hy hn'.1
      · exact .inr h1
    simp only [List.length_append, List.length_cons] at this ⊢
    omega
/-- the tree at an address -/
noncomputable def treeAt (w : World) (p : Addr) : NT := Classical.epsilon (h := ⟨NT.mk 0 0 0 0 0 0 []⟩) fun t => NodeIs w p t
theorem treeAt_of {w : World} {p : Addr} {t : NT} (h : NodeIs w p t) : treeAt w p = t :=
  NodeIs.one (@Classical.epsilon_spec_aux _ ⟨NT.mk 0 0 0 0 0 0 []⟩ (fun t => NodeIs w p t) ⟨t, h⟩) h
end Go.Proofs.Ytfjnphiegoogoaa
