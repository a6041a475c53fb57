/- NdB, NdC, UpB -/
import Derived.Test.YtfjnphiegoogoaaZ11
import Derived.Test.YtfjnphiegoogoaaZ12
import Derived.LoopNIn
import Derived.LoopIn
import Derived.Shelf.Abstract
import Derived.Shelf.RegionOpen
import Derived.RangeFuncNested
import Derived.RangeFuncBound
import Derived.RangeFuncCalls
import Derived.RangeFuncLeaves
import Derived.WalkKit
import Derived.OwnWalkIn
import Derived.TacticsInMore
import Derived.Maps.AppendAt
/- NdB -/
namespace Go.Proofs.Ytfjnphiegoogoaa
open Go.ChangeShapes Go.WideShapes Go.ChangeAt Go.RowKit Go.Fl
set_option linter.unusedVariables false
set_option linter.unusedSimpArgs false

instance leafDec (op : Int) : Decidable (LeafOp op) := by unfold LeafOp; infer_instance
theorem isleaf_no (op : Int) (h : ¬ LeafOp op) (w : World) : Calls Try.prog 53 #[.int .i64 op] w fun e w' => e = .returned (.bool false) ∧ w = w' := by
  have h0 : ¬ op = 25 ∧ ¬ op = 26 ∧ ¬ op = 27 ∧ ¬ op = 28 ∧ ¬ op = 29 ∧ ¬ op = 30 ∧ ¬ op = 31 ∧ ¬ op = 40 ∧ ¬ op = 41 ∧ ¬ op = 42 := by unfold LeafOp at h; omega
  obtain ⟨a0, a1, a2, a3, a4, a5, a6, a7, a8, a9⟩ := h0
  clear h
  go_enter Try.func53, Try.ntmps53
  go_wp2
  go_ret
  exact ⟨rfl, rfl⟩
theorem operands_no (b o : Nat) (op : Int) (v : Value) (w : World) (h : ¬ LeafOp op) (hn : w.cell? ⟨b, o, none⟩ = some (.int .i64 op)) (ha : w.cell? ⟨b, o + 2, none⟩ = some v) :
    Calls Try.prog 27 #[.pointer (some ⟨b, o, none⟩)] w fun e w' => e = .returned v ∧ w = w' := by
  have L := Lib.hid (fun w => isleaf_no op h w)
  clear h
  go_enter Try.func27, Try.ntmps27
  go_wp2_with (go_at_call 53; refine (L.out _).mono ?_; rintro e w' ⟨rfl, rfl⟩)
  go_ret
  exact ⟨rfl, rfl⟩
/-- what operands answers -/
theorem operands_any {w : World} {p : Addr} {op kd vk : Int} {vb : Nat} {pos attr : Int} {args : List NT} (h : NodeIs w p (.mk op kd vk vb pos attr args)) :
    ∃ (A : Option Addr) (m c : Nat), (∀ w', Below w.heap.size w w' → Calls Try.prog 27 #[.pointer (some p)] w' fun e w'' => e = .returned (.slice A m c) ∧ w' = w'') ∧ m ≤ args.length ∧
      (LeafOp op → m = 0) ∧ (¬ LeafOp op → m = args.length ∧ w.cell? ⟨p.block, p.off + 2, none⟩ = some (.slice A m c)) ∧ p.spot = none ∧ (0 < m → ∃ ab ao, A = some ⟨ab, ao, none⟩) ∧
      ∀ (i : Nat), i < m → ∀ ab ao, A = some ⟨ab, ao, none⟩ → ∃ t, args[i]? = some t ∧ NodeIs w ⟨ab, ao + i * 7, none⟩ t := by
  cases h with
  | mk b o _ _ _ _ _ _ _ A c h0 h1 h2 h3 h4 h5 h6 hvb hA hk =>
    by_cases hl : LeafOp op
    · exact ⟨none, 0, 0, fun w' hw => operands_leaf b o op w' hl (cell_later hw h0), Nat.zero_le _, fun _ => rfl, fun h => absurd hl h, rfl, fun h => absurd h (by omega), fun i hi => absurd hi (by omega)⟩
    · exact ⟨A, args.length, c, fun w' hw => operands_no b o op _ w' hl (cell_later hw h0) (cell_later hw h2), Nat.le_refl _, fun h => absurd h hl, fun _ => ⟨rfl, h2⟩, rfl, hA, fun i hi ab ao e => ⟨args[i], List.getElem?_eq_getElem hi, hk i _ (List.getElem?_eq_getElem hi) ab ao e⟩⟩
set_option maxHeartbeats 1000000 in
theorem restN_any : ∀ (n : Nat) (t : NT), t.size ≤ n → t.size ≤ 1099511627776 → ∀ (p : Addr) (most : Int) (w : World), NodeIs w p t → 0 ≤ most → most ≤ 4611686018427387904 →
    Calls Try.prog 52 #[.pointer (some p), .func (.func 27) #[] #[], .int .i64 most] w fun e w' => (∃ r, e = .returned (.int .i64 r) ∧ -1 ≤ r ∧ r ≤ most) ∧ w = w' := by
  intro n
  induction n with
  | zero => intro t h; have := t.size_pos; omega
  | succ n ih =>
    intro t hn hs p most w hN h0 h1
    obtain ⟨op, kd, vk, vb, pos, attr, args⟩ := t
    obtain ⟨A, m, c, hO, hm, _, _, _, hA, hK⟩ := operands_any hN
    have hO := Lib.hid (hO w (Below.refl _ w))
    have hsz : ∀ x ∈ args, x.size ≤ n ∧ x.size ≤ 1099511627776 := fun x hx => by
      have := NT.size_mem hx
      unfold NT.size at hn hs
      omega
    have hlen : m ≤ 1099511627776 := by
      have := NT.size_len args
      unfold NT.size at hs
      omega
    have hq : IntKind.i64.wrap (most - 1) = most - 1 := by rw [IntKind.wrap_i64]; omega
    replace hsz := Lib.hid hsz
    replace hK := Lib.hid hK
    clear hn hs hm hN
    go_enter Try.func52, Try.ntmps52
    go_wp2_with (go_at_call 27; refine hO.out.mono ?_; rintro e w' ⟨rfl, rfl⟩)
    go_loop [2, 16] (fun v i => ∃ (r : Int) (k : Nat), v = .int .i64 r ∧ i = .int .i64 (k : Int) ∧ k ≤ m ∧ -1 ≤ r ∧ r ≤ most) (fun _ i => m - (intOf i).toNat)
    case atStart => exact ⟨most - 1, 0, rfl, rfl, Nat.zero_le _, by omega, by omega⟩
    case round =>
      obtain ⟨r, k, rfl, rfl, hk, hr1, hr2⟩ := hrel
      by_cases hkm : k < m
      · by_cases hr : r < 0
        · have li : (k : Int) < (m : Int) := by omega
          go_wp2_with fail
          go_ret
          exact ⟨⟨_, rfl, hr1, hr2⟩, rfl⟩
        · have li : (k : Int) < (m : Int) := by omega
          obtain ⟨ab, ao, rfl⟩ := hA (by omega)
          obtain ⟨u, hu, hNu⟩ := hK.out k hkm ab ao rfl
          obtain ⟨hz1, hz2⟩ := hsz.out u (List.mem_of_getElem? hu)
          have hR := Lib.hid (ih u hz1 hz2 _ r w hNu (by omega) (by omega))
          clear hNu hu
          go_wp2_with (go_at_call 52; refine hR.out.mono ?_; rintro e w' ⟨⟨r', rfl, hr3, hr4⟩, rfl⟩)
          go_round
          all_goals first | exact ⟨r', k + 1, rfl, by go_num, by omega, hr3, by omega⟩ | (simp [intOf]; omega)
      · have li : ¬ (k : Int) < (m : Int) := by omega
        go_wp2_with fail
        go_ret
        exact ⟨⟨_, rfl, hr1, hr2⟩, rfl⟩
theorem few_any (t : NT) (hs : t.size ≤ 1099511627776) (p : Addr) (w : World) (hN : NodeIs w p t) :
    Calls Try.prog 26 #[.pointer (some p), .func (.func 27) #[] #[], .int .i64 200] w fun e w' => (∃ b, e = .returned (.bool b)) ∧ w = w' := by
  have R := Lib.hid (restN_any t.size t (Nat.le_refl _) hs p 200 w hN (by omega) (by omega))
  clear hN
  go_enter Try.func26, Try.ntmps26
  go_wp2_with (go_at_call 52; refine R.out.mono ?_; rintro e w' ⟨⟨r, rfl, h1, h2⟩, rfl⟩)
  go_ret
  exact ⟨⟨_, rfl⟩, rfl⟩
end Go.Proofs.Ytfjnphiegoogoaa

/- NdC -/
namespace Go.Proofs.Ytfjnphiegoogoaa
open Go.ChangeShapes Go.WideShapes Go.ChangeAt Go.RowKit Go.Fl
set_option linter.unusedVariables false
set_option linter.unusedSimpArgs false

mutual
/-- what a condition is, lf telling it of leaves -/
def evT (lf : NT → Int × Nat) : NT → Int × Nat
  | .mk op kd vk vb pos attr l => if LeafOp op then lf (.mk op kd vk vb pos attr l) else appP op (evTs lf l)
def evTs (lf : NT → Int × Nat) : List NT → List (Int × Nat)
  | [] => []
  | t :: l => evT lf t :: evTs lf l
end
theorem evTs_map (lf : NT → Int × Nat) : ∀ l, evTs lf l = l.map (evT lf)
  | [] => rfl
  | t :: l => by rw [evTs, evTs_map lf l]; rfl
theorem evTs_at (lf : NT → Int × Nat) {l : List NT} {k : Nat} {t : NT} (h : l[k]? = some t) : (evTs lf l)[k]? = some (evT lf t) := by rw [evTs_map, List.getElem?_map, h]; rfl
theorem evTs_len (lf : NT → Int × Nat) (l : List NT) : (evTs lf l).length = l.length := by rw [evTs_map, List.length_map]
/-- the leaves of a look -/
def lfP (es : List Ev) (bs : List (List Int)) (cur : Int) : NT → Int × Nat | .mk op _ vk vb pos attr _ => leafP op vk vb pos attr es bs cur
theorem headP_lt {vs : List (Int × Nat)} (h : ∀ v ∈ vs, v.2 < 18446744073709551616) : (headP vs).2 < 18446744073709551616 := by
  cases vs with
  | nil => decide
  | cons v l => exact h v (List.mem_cons_self ..)
theorem lastP_lt {vs : List (Int × Nat)} (h : ∀ v ∈ vs, v.2 < 18446744073709551616) : (lastP vs).2 < 18446744073709551616 := by
  unfold lastP
  rw [List.getLastD_eq_getLast?]
  cases e : vs.getLast? with
  | none => decide
  | some v => exact h v (List.mem_of_getLast? e)
theorem extGo_lt (last : Bool) : ∀ (l : List (Int × Nat)) (t : Int × Nat), t.2 < 18446744073709551616 → (∀ v ∈ l, v.2 < 18446744073709551616) → (extGo last t l).2 < 18446744073709551616
  | [], t, h, _ => h
  | y :: l, t, h, hl => by
    have hy := hl y (List.mem_cons_self ..)
    have hl' : ∀ v ∈ l, v.2 < 18446744073709551616 := fun v hv => hl v (List.mem_cons_of_mem _ hv)
    unfold extGo
    split
    · exact extGo_lt last l _ (by split <;> assumption) hl'
    · split
      · exact extGo_lt last l _ (pickP_lt h hy) hl'
      · decide
theorem extP_lt (last : Bool) {vs : List (Int × Nat)} (h : ∀ v ∈ vs, v.2 < 18446744073709551616) : (extP last vs).2 < 18446744073709551616 := by
  cases vs with
  | nil => exact (by decide : (0 : Nat) < 18446744073709551616)
  | cons v l => exact extGo_lt last _ _ (h v (List.mem_cons_self ..)) h
theorem leafP_lt {w : World} {E : Option Addr} {es : List Ev} (he : EvsAt w E es) (op vk : Int) {vb : Nat} (hvb : vb < 18446744073709551616) (pos attr : Int) (bs : List (List Int)) (cur : Int) : (leafP op vk vb pos attr es bs cur).2 < 18446744073709551616 := by
  have hA : ∀ v ∈ attrsP es bs pos attr, v.2 < 18446744073709551616 := fun v hv => by
    unfold attrsP at hv
    obtain ⟨z, _, rfl⟩ := List.mem_map.1 hv
    exact attrP_lt he z attr
  unfold leafP
  split
  · exact clB_lt2 _ hvb
  split
  · exact attrP_lt he _ _
  split
  · exact nU_lt ((placesP bs pos).length : Int)
  split
  · decide
  unfold aggP
  split
  · exact lastP_lt hA
  split
  · exact sumP_lt w hA
  split
  · exact extP_lt _ hA
  split
  · exact extP_lt _ hA
  split
  · unfold meanP
    refine app_lt 4 _ w fun v hv => ?_
    simp only [List.mem_cons, List.not_mem_nil, or_false] at hv
    rcases hv with rfl | rfl
    · exact sumP_lt w hA
    · exact app_lt 16 _ w fun v hv => by simp at hv; subst hv; exact nU_lt ((attrsP es bs pos attr).length : Int)
  · exact headP_lt hA
theorem evT_lt {w : World} {E : Option Addr} {es : List Ev} (he : EvsAt w E es) (bs : List (List Int)) (cur : Int) {p : Addr} {t : NT} (h : NodeIs w p t) : (evT (lfP es bs cur) t).2 < 18446744073709551616 := by
  induction h with
  | mk b o op kd vk vb pos attr args A c h0 h1 h2 h3 h4 h5 h6 hvb hA hk ih =>
    rw [evT]
    split
    · exact leafP_lt he op vk hvb pos attr bs cur
    · refine app_lt op _ w fun v hv => ?_
      rw [evTs_map] at hv
      obtain ⟨t, ht, rfl⟩ := List.mem_map.1 hv
      obtain ⟨i, hi, rfl⟩ := List.getElem_of_mem ht
      obtain ⟨ab, ao, e⟩ := hA (by omega)
      exact ih i _ (List.getElem?_eq_getElem hi) ab ao e

set_option maxHeartbeats 8000000 in
set_option maxRecDepth 100000 in
theorem down_no (E B : Option Addr) (ne ce nb cb : Nat) (cur : Int) (b o : Nat) (op : Int) (A : Option Addr) (m c : Nat) (vs : List (Int × Nat)) (w : World) (hop : ¬ LeafOp op) (hm : vs.length = m) (hm2 : m ≤ 1099511627776) (hbits : ∀ v ∈ vs, v.2 < 18446744073709551616)
    (hn : w.cell? ⟨b, o, none⟩ = some (.int .i64 op)) (ha : w.cell? ⟨b, o + 2, none⟩ = some (.slice A m c))
    (hA : ∀ (k : Nat) (v : Int × Nat), vs[k]? = some v → ∃ ab ao, A = some ⟨ab, ao, none⟩ ∧ Asks 28 E B ne ce nb cb cur ab (ao + k * 7) v w) :
    Calls Try.prog 28 #[lookV E B ne ce nb cb cur, .pointer (some ⟨b, o, none⟩)] w (VIs (appP op vs) w) := by
  have L := Lib.hid (fun w => isleaf_no op hop w)
  have AP := Lib.hid (fun w A (h : RowV w A m vs) => apply_any op A m m vs w h)
  generalize appP op vs = y at *
  obtain ⟨yk, yb⟩ := y
  simp only at AP
  obtain ⟨i0, hi, hz0, hz1, hz2⟩ := info_parts infoV
  have hmk : ∀ w, (Instr.makeSlice 47 (.int .i64 (m : Int)) (.int .i64 (m : Int))).run Try.prog w = .ok (.slice (some ⟨w.heap.size, 0, none⟩) m m) (w.alloc (.cells (madeCells #[.int .i64 0, .int .u64 0] (vs.length * 2)) 25)) := fun w => by
    have := run_make (P := Try.prog) w 47 25 i0 _ Try.underlying47 hi hz0 .i64 .i64 (m : Int) (m : Int) (by omega) (by omega) (by rw [hz2]; omega) (by omega)
    rw [hz1, Int.toNat_natCast] at this
    rw [this, hm]
    rfl
  have hu := m2 w (lookO E B ne ce nb cb cur) (.cells #[.int .i64 0, .int .u64 0] 25)
  have k0 := (Blk.made w 34 #[.slice E ne ce, .slice B nb cb, .int .i64 cur]).kept (m1 _ (.cells #[.int .i64 0, .int .u64 0] 25))
  have k1 : Blk ((w.alloc (lookO E B ne ce nb cb cur)).alloc (.cells #[.int .i64 0, .int .u64 0] 25)) (w.heap.size + 1) 25 #[.int .i64 0, .int .u64 0] := by
    have := Blk.made (w.alloc (lookO E B ne ce nb cb cur)) 25 #[.int .i64 0, .int .u64 0]
    simpa using this
  have hn1 := cell_later hu hn
  have ha1 := cell_later hu ha
  have hs2 : ((w.alloc (lookO E B ne ce nb cb cur)).alloc (.cells #[.int .i64 0, .int .u64 0] 25)).heap.size = w.heap.size + 2 := by simp
  replace hA := Lib.hid hA
  replace hu := Lib.hid hu
  replace hz0 := Lib.hid hz0
  replace hz1 := Lib.hid hz1
  replace hz2 := Lib.hid hz2
  replace hi := Lib.hid hi
  replace k0 := Lib.hid k0
  replace k1 := Lib.hid k1
  replace hs2 := Lib.hid hs2
  replace hm := Lib.hid hm
  replace hbits := Lib.hid hbits
  clear hop
  go_enter Try.func28, Try.ntmps28
  go_upto_region 4 with (first | (go_at_call 53; refine (L.out _).mono ?_; rintro e w' ⟨rfl, rfl⟩) | fail)
  have M0 := MadeTo.zero ((w.alloc (lookO E B ne ce nb cb cur)).alloc (.cells #[.int .i64 0, .int .u64 0] 25)) #[.int .i64 0, .int .u64 0] vs
  have hb2 := m1 ((w.alloc (lookO E B ne ce nb cb cur)).alloc (.cells #[.int .i64 0, .int .u64 0] 25)) (.cells (madeCells #[.int .i64 0, .int .u64 0] (vs.length * 2)) 25)
  rw [hs2.out] at M0
  have k0 := Lib.hid (k0.out.kept hb2)
  have k1 := Lib.hid (k1.out.kept hb2)
  replace hn1 := cell_later hb2 hn1
  replace ha1 := cell_later hb2 ha1
  have hU := mmore hu.out hb2
  clear hb2 hu hs2 hmk
  have M0' : MadeTo (((w.alloc (lookO E B ne ce nb cb cur)).alloc (.cells #[.int .i64 0, .int .u64 0] 25)).alloc (.cells (madeCells #[.int .i64 0, .int .u64 0] (vs.length * 2)) 25)) (w.heap.size + 2) vs 0 := M0
  clear M0
  generalize ((w.alloc (lookO E B ne ce nb cb cur)).alloc (.cells #[.int .i64 0, .int .u64 0] 25)).alloc (.cells (madeCells #[.int .i64 0, .int .u64 0] (vs.length * 2)) 25) = u at *
  have R0 := Lib.hid (And.intro M0' (And.intro (World.grownBy.refl u (some (w.heap.size + 2))) hU))
  clear M0' hU
  go_wp2_with fail
  go_loopw [26] (fun i wr => ∃ k : Nat, k ≤ m ∧ i = .int .i64 (k : Int) ∧ AtsR u w (w.heap.size + 2) vs k wr) (fun i _ => m - (intOf i).toNat)
  case atStart => exact ⟨0, Nat.zero_le _, rfl, R0.out⟩
  case round =>
    obtain ⟨k, hk, rfl, hM, hG, hW⟩ := hrel
    clear R0
    have q0 := k0.out.grown hG (show some w.heap.size ≠ some (w.heap.size + 2) by intro e; injection e; omega)
    have q1 := k1.out.grown hG (show some (w.heap.size + 1) ≠ some (w.heap.size + 2) by intro e; injection e; omega)
    have hn2 := cell_later hW hn
    have ha2 := cell_later hW ha
    clear hn1 ha1 hn ha
    by_cases hkl : k < m
    · have hkv : k < vs.length := by rw [hm.out]; exact hkl
      obtain ⟨ab, ao, rfl, hR⟩ := hA.out k _ (List.getElem?_eq_getElem hkv)
      have hvk := Lib.hid (List.getElem?_eq_getElem hkv)
      generalize vs[k] = v at *
      obtain ⟨xk, xb⟩ := v
      have c0 : wr.cell? ⟨w.heap.size, 0, none⟩ = some (.slice E ne ce) := q0.cell 0
      have c1 : wr.cell? ⟨w.heap.size, 1, none⟩ = some (.slice B nb cb) := q0.cell 1
      have c2 : wr.cell? ⟨w.heap.size, 2, none⟩ = some (.int .i64 cur) := q0.cell 2
      replace hR := Lib.hid (hR wr.drew hW.drew)
      replace hM := Lib.hid (show MadeTo wr.drew (w.heap.size + 2) vs k from hM)
      replace hG := Lib.hid hG
      replace hW := Lib.hid hW
      replace hkv := Lib.hid hkv
      have i1 : (0 : Int) ≤ (k : Int) := by omega
      have i2 : (k : Int) < (m : Int) := by omega
      clear q0 q1
      go_wp2_with fail
      go_region_law (go_simp; go_at_call 28; refine hR.out.mono ?_; rintro e w2 ⟨rfl, hb1⟩; have hM2 := hM.out.kept hb1; obtain ⟨x0, y0, z0, z1, z2, z3⟩ := hM2.two hkv.out)
      all_goals have hM4 := hM2.step hvk.out
      all_goals have hG4 := mgrown (mgrown (mgrown hG.out (grown_drew hb1) (fun k h => by cases h)) (mset w2 ⟨w.heap.size + 2, k * 2, none⟩ (.int .i64 xk)) (fun k h => .inl (by simpa using h))) (mset _ ⟨w.heap.size + 2, k * 2 + 1, none⟩ (.int .u64 (xb : Int))) (fun k h => .inl (by simpa using h))
      all_goals have hW4 := ((mmore hW.out.drew hb1).setCell (p := ⟨w.heap.size + 2, k * 2, none⟩) (by show w.heap.size ≤ w.heap.size + 2; omega) (.int .i64 xk)).setCell (p := ⟨w.heap.size + 2, k * 2 + 1, none⟩) (by show w.heap.size ≤ w.heap.size + 2; omega) (.int .u64 (xb : Int))
      all_goals replace hM4 := Lib.hid hM4
      all_goals replace hG4 := Lib.hid hG4
      all_goals replace hW4 := Lib.hid hW4
      all_goals clear hM2 hM hG hW hR c0 c1 c2 z0 z1 z2 z3 hb1 hvk
      all_goals simp only at hM4
      all_goals generalize (w2.setCell ⟨w.heap.size + 2, k * 2, none⟩ (.int .i64 xk)).setCell ⟨w.heap.size + 2, k * 2 + 1, none⟩ (.int .u64 (xb : Int)) = w4 at *
      all_goals go_wp2
      all_goals go_roundw
      all_goals first | exact ⟨k + 1, by omega, by go_num, hM4.out, hG4.out, hW4.out⟩ | (simp [intOf]; done) | (simp [intOf]; omega)
    · obtain rfl : k = m := by omega
      rw [← hm.out] at hM
      have hR := hM.row hbits.out
      rw [hm.out] at hR
      replace hM := Lib.hid hM
      have O := Lib.hid (AP.out wr _ hR)
      have hn3 : wr.cell? ⟨b, o, none⟩ = some (.int .i64 op) := hn2
      replace hG := Lib.hid hG
      replace hW := Lib.hid hW
      replace q1 := Lib.hid q1
      clear hR q0 AP
      go_wp2_with fail
      refine O.out.mono ?_; rintro e w5 ⟨rfl, hb5⟩
      have k5 := q1.out.kept hb5
      have x0 : w5.cell? ⟨w.heap.size + 1, 0, none⟩ = some (.int .i64 0) := k5.cell 0
      have x1 : w5.cell? ⟨w.heap.size + 1, 1, none⟩ = some (.int .u64 0) := k5.cell 1
      have f0 : w5.frozen? ⟨w.heap.size + 1, 0, none⟩ = false := k5.free 0
      have f1 : w5.frozen? ⟨w.heap.size + 1, 1, none⟩ = false := k5.free 1
      have hW5 := mmore hW.out hb5
      obtain ⟨_, r1, r2⟩ := put2 (w := w5) (g := w.heap.size + 1) (.int .i64 yk) (.int .u64 (yb : Int)) x0 x1
      replace r1 := Lib.hid r1
      replace r2 := Lib.hid r2
      replace hW5 := Lib.hid hW5
      clear hb5 k5 hn2 ha2 hn3
      go_wp2
      exact bodyPost_ret (v := .agg #[.int .i64 yk, .int .u64 (yb : Int)]) (by simp [results, Try.results28, go_sem, r1.out, r2.out]) rfl (.mk rfl ((hW5.out.setCell (by show w.heap.size ≤ w.heap.size + 1; omega) _).setCell (by show w.heap.size ≤ w.heap.size + 1; omega) _))

theorem down_any (E B : Option Addr) (ce cb : Nat) (cur : Int) (es : List Ev) (bs : List (List Int)) : ∀ (n : Nat) (t : NT), t.size ≤ n → t.size ≤ 1099511627776 → ∀ (b o : Nat) (w : World), NodeIs w ⟨b, o, none⟩ t → LookIn w E B es bs →
    Asks 28 E B es.length ce bs.length cb cur b o (evT (lfP es bs cur) t) w := by
  intro n
  induction n with
  | zero => intro t h; have := t.size_pos; omega
  | succ n ih =>
    intro t hn hs b o w hN hL wz hz
    replace hN := hN.later hz
    replace hL := hL.later hz
    clear hz w
    cases hN with
    | mk _ _ op kd vk vb pos attr args A c h0 h1 h2 h3 h4 h5 h6 hvb hA hk =>
      rw [evT]
      by_cases hop : LeafOp op
      · rw [if_pos hop]
        exact down_leaf E B _ ce _ cb cur b o op _ wz hop h0 (leaf_any E B ce cb cur es bs b o op vk vb pos attr wz hop hvb ⟨h0, h3, h4, h5, h6⟩ hL)
      · rw [if_neg hop]
        have hsz : ∀ x ∈ args, x.size ≤ n ∧ x.size ≤ 1099511627776 := fun x hx => by
          have := NT.size_mem hx
          unfold NT.size at hn hs
          omega
        refine down_no E B _ ce _ cb cur b o op A args.length c (evTs (lfP es bs cur) args) wz hop (evTs_len _ _) ?_ ?_ h0 h2 ?_
        · have := NT.size_len args
          unfold NT.size at hs
          omega
        · intro v hv
          rw [evTs_map] at hv
          obtain ⟨t, ht, rfl⟩ := List.mem_map.1 hv
          obtain ⟨i, hi, rfl⟩ := List.getElem_of_mem ht
          obtain ⟨ab, ao, e⟩ := hA (by omega)
          exact evT_lt hL.1 bs cur (hk i _ (List.getElem?_eq_getElem hi) ab ao e)
        · intro k v hv
          have hkl : k < args.length := by have := (List.getElem?_eq_some_iff.1 hv).1; rw [evTs_len] at this; exact this
          rw [evTs_at _ (List.getElem?_eq_getElem hkl)] at hv
          obtain rfl := Option.some.inj hv
          obtain ⟨ab, ao, e⟩ := hA (by omega)
          obtain ⟨z1, z2⟩ := hsz _ (List.getElem_mem hkl)
          exact ⟨ab, ao, e, ih _ z1 z2 ab (ao + k * 7) wz (hk k _ (List.getElem?_eq_getElem hkl) ab ao e) hL⟩
end Go.Proofs.Ytfjnphiegoogoaa

/- UpB -/
namespace Go.Proofs.Ytfjnphiegoogoaa
open Go.RowKit
set_option linter.unusedVariables false
set_option linter.unusedSimpArgs false
attribute [local go_sem] Oper.semAt_some

theorem addr_adds (g j : Nat) : (⟨g, 0, none⟩ : Addr).add j = (⟨g, j, none⟩ : Addr) := by unfold Addr.add; split <;> simp_all
def stepC (st : List (Addr × Nat)) : List Value := st.reverse.flatMap fun x => [.pointer (some x.1), .int .i64 (x.2 : Int)]
theorem stepC_cons (p : Addr) (i : Nat) (st : List (Addr × Nat)) : stepC ((p, i) :: st) = stepC st ++ [.pointer (some p), .int .i64 (i : Int)] := by simp [stepC]
theorem stepC_len (st : List (Addr × Nat)) : (stepC st).length = st.length * 2 := by
  induction st with
  | nil => rfl
  | cons x st ih =>
    obtain ⟨p, i⟩ := x
    rw [stepC_cons, List.length_append, ih, List.length_cons]
    simp
    omega
def metM (met : List Addr) : List (Addr × Value) := met.map fun q => (q, .agg #[])
theorem infoStep : (Try.prog.info? 111).map (fun i => (i.zero, i.size, i.bytes)) = some (some (.agg #[.pointer none, .int .i64 0]), 2, 16) := by kernel_rfl
theorem sizeNode : (Try.prog.info? 27).map (·.size) = some 7 := by kernel_rfl
theorem zeroMet : (Try.prog.info? 59).map (·.zero) = some (some (.agg #[])) := by kernel_rfl
theorem node_info : ∃ j, Try.prog.info? 27 = some j ∧ j.size ≠ 0 := by
  have h := sizeNode
  cases hj : Try.prog.info? 27 with
  | none => rw [hj] at h; cases h
  | some j => rw [hj] at h; injection h with h; exact ⟨j, rfl, fun e => by have h2 : j.size = 7 := h; omega⟩
theorem met_info : ∃ j, Try.prog.info? 59 = some j ∧ j.zero = some (.agg #[]) := by
  have h := zeroMet
  cases hj : Try.prog.info? 59 with
  | none => rw [hj] at h; cases h
  | some j => rw [hj] at h; injection h with h; exact ⟨j, rfl, h⟩
theorem pget_met (met : List Addr) (q : Addr) : pget (metM met) q = if q ∈ met then some (.agg #[]) else none := by
  induction met with
  | nil => rfl
  | cons x met ih =>
    show pget ((x, _) :: metM met) q = _
    rw [pget_cons, ih]
    by_cases h : x = q
    · subst h; simp
    · have h2 : ¬ q = x := fun e => h e.symm
      simp [h, h2]
theorem metM_snoc (met : List Addr) (q : Addr) : metM (met ++ [q]) = metM met ++ [(q, .agg #[])] := by simp [metM]
/-- a look at the met ones, and one more -/
theorem met_look {w : World} {r : Nat} {met : List Addr} {q : Addr} (h : PtrMap w r (metM met)) (hq : Plain w q) (hm : ∀ x ∈ met, Plain w x) :
    (Instr.lookup 109 (.map (some r)) (.pointer (some q)) true).run Try.prog w = .ok (.tuple #[.agg #[], .bool (decide (q ∈ met))]) w := by
  obtain ⟨j, h1, h2⟩ := node_info
  obtain ⟨i, h3, h4⟩ := met_info
  have := run_lookup_ptr (P := Try.prog) Try.underlying109 Try.underlying54 h1 h2 h3 h4 h hq (fun x hx => by
    obtain ⟨y, hy, rfl⟩ := List.mem_map.1 hx
    exact hm y hy) true
  rw [this, pget_met]
  by_cases hqm : q ∈ met
  · simp [hqm]
  · simp [hqm]
theorem met_put {w : World} {r : Nat} {met : List Addr} {q : Addr} (h : PtrMap w r (metM met)) (hq : Plain w q) (hm : ∀ x ∈ met, Plain w x) (hn : q ∉ met) :
    ∃ o : Obj, o.isCells = false ∧ (Instr.mapUpdate 109 (.map (some r)) (.pointer (some q)) (.agg #[])).run Try.prog w = .ok () (w.putObj r o) ∧ PtrMap (w.putObj r o) r (metM (met ++ [q])) := by
  obtain ⟨j, h1, h2⟩ := node_info
  have := run_update_ptr (P := Try.prog) Try.underlying109 Try.underlying54 h1 h2 (.agg #[]) h hq (fun x hx => by
    obtain ⟨y, hy, rfl⟩ := List.mem_map.1 hx
    exact hm y hy) (by rw [pget_met, if_neg hn])
  rw [metM_snoc]
  exact this
/-- the nodes below one, whose Args are this slice -/
def kids (A : Option Addr) (n : Nat) : List Addr := (List.range n).filterMap fun i => A.map fun a => ⟨a.block, a.off + i * 7, none⟩
/-- what the iterator writes: blocks of steps, maps of its own -/
def StpU (B : Nat) (A W : World) : Prop := ∃ row, A.grownBy W row ∧ ∀ r, row = some r → B ≤ r ∧ ∃ o, A.heap[r]? = some o ∧ ((∃ es c, o = .map es c) ∨ ∃ cs f, o = .cells cs 111 f)
/-- what a body must keep of it -/
def KpU (B B2 : Nat) (A W : World) : Prop := W.heap[B2]? = A.heap[B2]? ∧ A.heap.size ≤ W.heap.size ∧ ∀ r o, B ≤ r → A.heap[r]? = some o → ((∃ es c, o = .map es c) ∨ ∃ cs f, o = .cells cs 111 f) → W.heap[r]? = some o
theorem step_inj : ∀ (a b : List (Addr × Nat)), (a.flatMap fun x => [Value.pointer (some x.1), .int .i64 (x.2 : Int)]) = (b.flatMap fun x => [Value.pointer (some x.1), .int .i64 (x.2 : Int)]) → a = b
  | [], [], _ => rfl
  | [], y :: b, h => by simp at h
  | x :: a, [], h => by simp at h
  | x :: a, y :: b, h => by
    simp only [List.flatMap_cons, List.cons_append, List.nil_append, List.cons.injEq, Value.pointer.injEq, Option.some.injEq, Value.int.injEq, true_and] at h
    obtain ⟨h1, h2, h3⟩ := h
    obtain ⟨p, i⟩ := x
    obtain ⟨q, j⟩ := y
    simp only at h1 h2
    rw [step_inj a b h3, h1, show i = j by omega]
theorem stepC_inj {a b : List (Addr × Nat)} (h : stepC a = stepC b) : a = b := by
  have := step_inj _ _ h
  have h2 := congrArg List.reverse this
  simpa using h2
theorem metM_inj : ∀ {a b : List Addr}, keysV (metM a) = keysV (metM b) → a = b
  | [], [], _ => rfl
  | [], y :: b, h => by simp [keysV, metM] at h
  | x :: a, [], h => by simp [keysV, metM] at h
  | x :: a, y :: b, h => by
    simp only [keysV, metM, List.map_cons, List.cons.injEq, Prod.mk.injEq, Value.pointer.injEq, Option.some.injEq, and_true] at h
    rw [h.1, metM_inj h.2]
theorem own_oneU {w : World} {b b' : Nat} {t : TypeId} {sz n n' : Nat} {v : Value} {xs ys : List Value} (h : w.ownsRow b t sz v n xs) (h' : w.ownsRow b' t sz v n' ys) : n = n' ∧ xs = ys := by
  rcases h.2 with ⟨hv, hn⟩ | ⟨g, cap, cur, hv, _, hg, _, _, _, hx⟩ <;> rcases h'.2 with ⟨hv', hn'⟩ | ⟨g', cap', cur', hv', _, hg', _, _, _, hx'⟩
  · have h1 := h.1
    have h2 := h'.1
    subst hn hn'
    simp at h1 h2
    exact ⟨rfl, by rw [h1, h2]⟩
  · rw [hv] at hv'; cases hv'
  · rw [hv] at hv'; cases hv'
  · rw [hv] at hv'
    cases hv'
    rw [hg] at hg'
    cases hg'
    exact ⟨rfl, by rw [← hx, ← hx']⟩
/-- between two rounds, N of them to come -/
def UpN (M : Nat) (ch : Addr → List Addr) (N : Nat) (v : Value) (wr : World) : Prop :=
  ∃ met st xs, DfsN ch met st xs N ∧ wr.ownsRow M 111 2 v st.length (stepC st) ∧ PtrMap wr M (metM met)
theorem UpN.one {M : Nat} {ch : Addr → List Addr} {N N' : Nat} {v : Value} {wr : World} (h : UpN M ch N v wr) (h' : UpN M ch N' v wr) : N = N' := by
  obtain ⟨met, st, xs, k1, k2, es, c, k3, k4⟩ := h
  obtain ⟨met', st', xs', l1, l2, es', c', l3, l4⟩ := h'
  have e1 := stepC_inj (own_oneU k2 l2).2
  rw [k3] at l3
  cases l3
  have e2 := metM_inj (k4.symm.trans l4)
  subst e1 e2
  exact (k1.one l1).2
noncomputable def upMeas (M : Nat) (ch : Addr → List Addr) (v : Value) (wr : World) : Nat := Classical.epsilon fun N => UpN M ch N v wr
theorem upMeas_of {M : Nat} {ch : Addr → List Addr} {N : Nat} {v : Value} {wr : World} (h : UpN M ch N v wr) : upMeas M ch v wr = N :=
  (UpN.one h (Classical.epsilon_spec (p := fun N => UpN M ch N v wr) ⟨N, h⟩)).symm
theorem DfsN.stack_mem {ch : Addr → List Addr} {met : List Addr} {st : List (Addr × Nat)} {xs : List Addr} {n : Nat} (h : DfsN ch met st xs n) : ∀ x ∈ st, x.1 ∈ xs := by
  induction h with
  | done met => intro x hx; cases hx
  | push met p q i st xs n h hm k ih =>
    intro x hx
    rcases List.mem_cons.1 hx with rfl | hx
    · exact ih (p, i + 1) (by simp)
    · exact ih x (by simp [hx])
  | skip met p q i st xs n h hm k ih =>
    intro x hx
    rcases List.mem_cons.1 hx with rfl | hx
    · exact ih (p, i + 1) (by simp)
    · exact ih x (by simp [hx])
  | pop met p i st xs n h k ih =>
    intro x hx
    rcases List.mem_cons.1 hx with rfl | hx
    · simp
    · exact List.mem_cons_of_mem _ (ih x hx)
theorem own_pop {w : World} {base g k cap : Nat} {e : TypeId} {xs : List Value} {a b : Value} (h : w.ownsRow base e 2 (.slice (some ⟨g, 0, none⟩) (k + 1) cap) (k + 1) (xs ++ [a, b])) : w.ownsRow base e 2 (.slice (some ⟨g, 0, none⟩) k cap) k xs := by
  have h1 := h.1
  rw [List.length_append] at h1
  simp only [List.length_cons, List.length_nil] at h1
  have hxl : xs.length = k * 2 := by omega
  rcases h.2 with ⟨h', _⟩ | ⟨g', cap', cur, h', hb, hg, hnc, hcm, hcs, htake⟩
  · simp at h'
  · simp only [Value.slice.injEq, Option.some.injEq, Addr.mk.injEq, and_true, true_and] at h'
    obtain ⟨rfl, rfl⟩ := h'
    refine ⟨hxl, .inr ⟨g, cap, cur, rfl, hb, hg, by omega, hcm, hcs, ?_⟩⟩
    have := congrArg (List.take (k * 2)) htake
    rw [List.take_take, List.take_append_of_le_length (by omega), List.take_of_length_le (by omega : xs.length ≤ k * 2), show min (k * 2) ((k + 1) * 2) = k * 2 by omega] at this
    exact this
theorem own_same {w w' : World} {base g k cap n : Nat} {e : TypeId} {xs : List Value} (h : w.ownsRow base e 2 (.slice (some ⟨g, 0, none⟩) k cap) n xs) (he : w'.heap[g]? = w.heap[g]?) : w'.ownsRow base e 2 (.slice (some ⟨g, 0, none⟩) k cap) n xs := by
  refine ⟨h.1, ?_⟩
  rcases h.2 with ⟨h', _⟩ | ⟨g', cap', cur, h', hb, hg, hr⟩
  · simp at h'
  · have h2 := h'
    simp only [Value.slice.injEq, Option.some.injEq, Addr.mk.injEq, and_true, true_and] at h2
    obtain ⟨rfl, _⟩ := h2
    exact .inr ⟨g, cap', cur, h', hb, he.trans hg, hr⟩
theorem own_block {w : World} {base g k cap n : Nat} {e : TypeId} {xs : List Value} (h : w.ownsRow base e 2 (.slice (some ⟨g, 0, none⟩) k cap) n xs) : base ≤ g ∧ ∃ cur, w.heap[g]? = some (.cells cur e (0, 0)) := by
  rcases h.2 with ⟨h', _⟩ | ⟨g', cap', cur, h', hb, hg, hr⟩
  · simp at h'
  · simp only [Value.slice.injEq, Option.some.injEq, Addr.mk.injEq, and_true, true_and] at h'
    obtain ⟨rfl, _⟩ := h'
    exact ⟨hb, cur, hg⟩
theorem stepC_set (p : Addr) (i j : Nat) (st : List (Addr × Nat)) : (stepC ((p, i) :: st)).set (st.length * 2 + 1) (.int .i64 (j : Int)) = stepC ((p, j) :: st) := by
  rw [stepC_cons, stepC_cons, List.set_append_right _ _ (by rw [stepC_len]; omega), stepC_len, Nat.add_sub_cancel_left]
  rfl
theorem DfsN.stack_len {ch : Addr → List Addr} {met : List Addr} {st : List (Addr × Nat)} {xs : List Addr} {n : Nat} (h : DfsN ch met st xs n) : st.length ≤ xs.length := by
  induction h with
  | done met => exact Nat.le_refl _
  | push met p q i st xs n h hm k ih => simp only [List.length_cons] at ih ⊢; omega
  | skip met p q i st xs n h hm k ih => simp only [List.length_cons] at ih ⊢; omega
  | pop met p i st xs n h k ih => simp only [List.length_cons] at ih ⊢; omega
theorem news_cells (w : World) (a b : Value) (t : TypeId) (k : Nat) (hk : w.heap.size = k) : ∀ j u, [a, b][j]? = some u → (w.alloc (.cells #[a, b] t)).cell? ((⟨k, 0, none⟩ : Addr).add j) = some u := by
  subst hk
  intro j u h
  rw [addr_adds, cell_of_row _ _ j #[a, b] t (0, 0) (World.alloc_heap_new w _)]
  simpa using h
theorem grow_put (W : World) (r : Nat) (o : Obj) : W.grownBy (W.putObj r o) (some r) :=
  ⟨rfl, rfl, rfl, by simp [World.putObj], fun k _ hk => World.putObj_heap_other (fun e => hk (by rw [e]))⟩
theorem step_info : ∃ j, Try.prog.info? 111 = some j ∧ j.zero = some (.agg #[.pointer none, .int .i64 0]) ∧ j.size = 2 ∧ j.bytes = 16 := by
  have h := infoStep
  cases hj : Try.prog.info? 111 with
  | none => rw [hj] at h; cases h
  | some j =>
    rw [hj] at h
    injection h with h
    exact ⟨j, rfl, congrArg (·.1) h, congrArg (·.2.1) h, congrArg (·.2.2) h⟩
end Go.Proofs.Ytfjnphiegoogoaa
