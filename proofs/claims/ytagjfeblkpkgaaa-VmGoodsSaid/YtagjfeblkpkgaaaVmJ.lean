/- The document's Run, as a contract, for every code and all inputs. -/
import Derived.Test.YtagjfeblkpkgaaaVmD
import Derived.Test.YtagjfeblkpkgaaaIMp
namespace Go.Proofs.Ytagjfeblkpkgaaa
open Go.ChangeShapes Go.WideShapes Go.ChangeAt Go.RowKit Go.Fl
set_option linter.unusedVariables false
set_option linter.unusedSimpArgs false

theorem bdrewN9 {B : Nat} {a w : World} (h : Below B a w) (n : Nat) : Below B a (w.drewN n) := ⟨h.os, h.tape, h.output, h.size, h.block⟩
def valV (v : VN) : Value := .agg #[.int .i64 v.1, .int .u64 (v.2 : Int)]
def zeroVV : Value := .agg #[.int .i64 0, .int .u64 0]
/-- what a map holds is what a list of registers holds -/
def RelM (f : Int → Option Value) (l : List VN) : Prop := ∀ i, (f i).getD zeroVV = valV (rdV l i)
theorem RelM.blanks (n : Nat) : RelM (fun _ => none) (blank n) := fun i => by
  unfold rdV blank
  split
  · rw [List.getElem?_replicate]; split <;> rfl
  · rfl
theorem rd_wr (l : List VN) (i j : Int) (v : VN) (h0 : 0 ≤ i) (h1 : i < (l.length : Int)) : rdV (wrV l i v) j = if j = i then v else rdV l j := by
  obtain ⟨k, rfl⟩ : ∃ k : Nat, i = (k : Int) := ⟨i.toNat, by omega⟩
  have hk : k < l.length := by omega
  rw [wrV_in]
  unfold rdV
  by_cases hj : 0 ≤ j
  · rw [if_pos hj, if_pos hj]
    by_cases e : j = (k : Int)
    · subst e
      rw [if_pos rfl, Int.toNat_natCast, List.getElem?_set_self hk]; rfl
    · rw [if_neg e, List.getElem?_set_ne (by omega)]
  · rw [if_neg hj, if_neg hj, if_neg (by omega)]
theorem RelM.put {f : Int → Option Value} {l : List VN} (h : RelM f l) (i n : Int) (v : VN) (hn : l.length = n.toNat) :
    RelM (if 0 ≤ i ∧ i < n then iput f i (valV v) else f) (wrV l i v) := by
  by_cases hi : 0 ≤ i ∧ i < n
  · rw [if_pos hi]
    intro j
    rw [rd_wr l i j v hi.1 (by omega)]
    unfold iput
    by_cases e : j = i
    · rw [if_pos e, if_pos e]; rfl
    · rw [if_neg e, if_neg e]; exact h j
  · rw [if_neg hi, wrV_out v (by omega)]
    exact h
theorem zeroRI : ∃ j, Try.prog.info? 33 = some j ∧ j.zero = some zeroVV := by
  obtain ⟨i0, hi, hz0, _⟩ := info_parts infoR
  exact ⟨i0, hi, hz0⟩
theorem look_rel {f : Int → Option Value} {l : List VN} {u : World} {r : Nat} (h : IMap u r f) (hr : RelM f l) (x : Int) :
    (Instr.lookup 51 (.map (some r)) (.int .i64 x) false).run Try.prog u = .ok (.agg #[.int .i64 (rdV l x).1, .int .u64 ((rdV l x).2 : Int)]) u := by
  obtain ⟨j, h1, h2⟩ := zeroRI
  rw [run_lookup_I (P := Try.prog) Try.underlying51 Try.underlying3 h1 h2 h x, hr x]
  rfl

set_option maxHeartbeats 1000000 in
theorem roperands_any (op : Int) (w : World) : Calls Try.prog 17 #[.int .i64 op] w fun e w' => e = .returned (.int .i64 (opsP op : Int)) ∧ Below w.heap.size w w' := by
  have c : op = 6 ∨ op = 15 ∨ op = 16 ∨ op = 17 ∨ (op ≠ 6 ∧ op ≠ 15 ∧ op ≠ 16 ∧ op ≠ 17) := by omega
  rcases c with rfl | rfl | rfl | rfl | ⟨n6, n15, n16, n17⟩
  · go_enter Try.func17, Try.ntmps17
    go_wp2
    go_ret
    exact ⟨rfl, Below.refl _ _⟩
  · go_enter Try.func17, Try.ntmps17
    go_wp2
    go_ret
    exact ⟨rfl, Below.refl _ _⟩
  · go_enter Try.func17, Try.ntmps17
    go_wp2
    go_ret
    exact ⟨rfl, Below.refl _ _⟩
  · go_enter Try.func17, Try.ntmps17
    go_wp2
    go_ret
    exact ⟨rfl, Below.refl _ _⟩
  · have f6 : (op == 6) = false := by simpa using n6
    have f15 : (op == 15) = false := by simpa using n15
    have f16 : (op == 16) = false := by simpa using n16
    have f17 : (op == 17) = false := by simpa using n17
    by_cases ha : op ≥ 1
    · by_cases hb : op ≤ 14
      · have hE := Lib.hid (show opsP op = 2 by unfold opsP; rw [if_neg (by omega), if_pos (by omega)])
        clear n6 n15 n16 n17
        go_enter Try.func17, Try.ntmps17
        go_wp2
        go_ret
        exact ⟨by rw [hE.out]; rfl, Below.refl _ _⟩
      · have hE := Lib.hid (show opsP op = 0 by unfold opsP; rw [if_neg (by omega), if_neg (by omega)])
        clear n6 n15 n16 n17
        go_enter Try.func17, Try.ntmps17
        go_wp2
        go_ret
        exact ⟨by rw [hE.out]; rfl, Below.refl _ _⟩
    · have hE := Lib.hid (show opsP op = 0 by unfold opsP; rw [if_neg (by omega), if_neg (by omega)])
      clear n6 n15 n16 n17
      go_enter Try.func17, Try.ntmps17
      go_wp2
      go_ret
      exact ⟨by rw [hE.out]; rfl, Below.refl _ _⟩
/-- the map holds this now -/
def POut (r : Nat) (f : Int → Option Value) (w : World) (e : Ending) (w' : World) : Prop := e = .returned (.tuple #[]) ∧ IMap w' r f ∧ w.grownBy w' (some r)
set_option maxHeartbeats 1000000 in
theorem put_any (r : Nat) (f : Int → Option Value) (i n : Int) (v : VN) (w : World) (h : IMap w r f) :
    Calls Try.prog 18 #[.map (some r), .int .i64 i, .int .i64 n, .agg #[.int .i64 v.1, .int .u64 (v.2 : Int)]] w (POut r (if 0 ≤ i ∧ i < n then iput f i (valV v) else f) w) := by
  obtain ⟨vk, vb⟩ := v
  have hb := below1 w (.cells #[.int .i64 vk, .int .u64 (vb : Int)] 33)
  have h1 := h.later hb
  have hG := mgrows hb (some r)
  by_cases h0 : i ≥ 0
  · by_cases hn : i < n
    · rw [if_pos ⟨h0, hn⟩]
      obtain ⟨w', hrun, hM, hG2⟩ := run_update_I (P := Try.prog) Try.underlying51 Try.underlying3 h1 i (valV (vk, vb))
      have hG3 := hG.trans hG2
      unfold valV at hrun
      clear hG hG2 h h1 hb
      replace hM := Lib.hid hM
      replace hG3 := Lib.hid hG3
      go_enter Try.func18, Try.ntmps18
      go_wp2
      refine bodyPost_end (results_none rfl _ _ _) rfl ?_
      exact ⟨rfl, hM.out, hG3.out⟩
    · rw [if_neg (fun c => hn c.2)]
      replace h1 := Lib.hid h1
      replace hG := Lib.hid hG
      clear h hb
      go_enter Try.func18, Try.ntmps18
      go_wp2
      refine bodyPost_end (results_none rfl _ _ _) rfl ?_
      exact ⟨rfl, h1.out, hG.out⟩
  · rw [if_neg (fun c => h0 c.1)]
    replace h1 := Lib.hid h1
    replace hG := Lib.hid hG
    clear h hb
    go_enter Try.func18, Try.ntmps18
    go_wp2
    refine bodyPost_end (results_none rfl _ _ _) rfl ?_
    exact ⟨rfl, h1.out, hG.out⟩
theorem cl_zero : clV (0, 0) = (0, 0) := clV_self clean_zero
set_option maxHeartbeats 1000000 in
theorem take_any (A : Option Addr) (n c : Nat) (vs : List VN) (i : Int) (w : World) (hv : RowV w A n vs) (hn : n ≤ 9223372036854775807) :
    Calls Try.prog 19 #[.slice A n c, .int .i64 i] w (VOut (clV (rdV vs i)) w) := by
  have hl := hv.1
  have hw := below1 w (.cells #[.int .i64 0, .int .u64 0] 33)
  by_cases h0 : i < 0
  · have hE := Lib.hid (show clV (rdV vs i) = (0, 0) by rw [rdV_out (.inl h0), cl_zero])
    go_enter Try.func19, Try.ntmps19
    go_wp2
    exact bodyPost_ret (v := .agg #[.int .i64 0, .int .u64 0]) (by simp [results, Try.results19, go_sem]) rfl ⟨by rw [hE.out]; rfl, hw⟩
  by_cases h1 : i < (n : Int)
  · obtain ⟨k, rfl⟩ : ∃ k : Nat, i = (k : Int) := ⟨i.toNat, by omega⟩
    have hk : k < vs.length := by omega
    obtain ⟨b, off, rfl, hc⟩ := hv.2.2 (by omega)
    obtain ⟨r0, r1⟩ := hc k _ _ (rdV_in hk)
    have r0 := cell_later hw r0
    have r1 := cell_later hw r1
    have zB := Blk.made w 33 #[.int .i64 0, .int .u64 0]
    have hx : (rdV vs (k : Int)).2 < 18446744073709551616 := rd_lt hv.2.1 _
    have k1 : k < n := by omega
    have C := Lib.hid (fun u => rclean_any (rdV vs (k : Int)).1 (rdV vs (k : Int)).2 u hx)
    have hE : clV (rdV vs (k : Int)) = (clK (rdV vs (k : Int)).1 (rdV vs (k : Int)).2, clB (rdV vs (k : Int)).1 (rdV vs (k : Int)).2) := rfl
    rw [hE]
    clear hv hc hk hl hx hE
    generalize rdV vs (k : Int) = v at *
    obtain ⟨vk, vb⟩ := v
    dsimp only at *
    generalize clK vk vb = x at *
    generalize clB vk vb = y at *
    go_enter Try.func19, Try.ntmps19
    go_upto_region 3 with (fail)
    generalize w.alloc (.cells #[.int .i64 0, .int .u64 0] 33) = u at *
    go_wp2_with fail
    refine (C.out _).mono ?_; rintro e w1 ⟨rfl, hb1⟩
    replace hw := below_more hw hb1
    replace zB := zB.kept hb1
    have z0 : w1.cell? ⟨w.heap.size, 0, none⟩ = some (.int .i64 0) := zB.cell 0
    have z1 : w1.cell? ⟨w.heap.size, 1, none⟩ = some (.int .u64 0) := zB.cell 1
    have f0 := zB.free 0
    have f1 := zB.free 1
    obtain ⟨_, p1, p2⟩ := put2 (.int .i64 x) (.int .u64 (y : Int)) z0 z1
    clear zB
    have hB := (hw.setCell (p := ⟨w.heap.size, 0, none⟩) (Nat.le_refl _) (.int .i64 x)).setCell (p := ⟨w.heap.size, 1, none⟩) (Nat.le_refl _) (.int .u64 (y : Int))
    clear r0 r1 hb1
    go_wp2
    exact bodyPost_ret (v := .agg #[.int .i64 x, .int .u64 (y : Int)]) (by simp [results, Try.results19, go_sem, p1, p2]) rfl ⟨rfl, hB⟩
  · have hE := Lib.hid (show clV (rdV vs i) = (0, 0) by rw [rdV_out (.inr (by omega)), cl_zero])
    go_enter Try.func19, Try.ntmps19
    go_wp2
    exact bodyPost_ret (v := .agg #[.int .i64 0, .int .u64 0]) (by simp [results, Try.results19, go_sem]) rfl ⟨by rw [hE.out]; rfl, hw⟩
/-- between two rounds, and within one -/
structure RJ (w : World) (c : CodeP) (v : CV) (rR rS : Nat) (s : List VN × List VN) (u : World) : Prop where
  code : CodeAt u w.heap.size c v
  res : Blk u (w.heap.size + 1) 33 #[.int .i64 0, .int .u64 0]
  mR : ∃ f, IMap u rR f ∧ RelM f s.1
  mS : ∃ f, IMap u rS f ∧ RelM f s.2
  bel : Below w.heap.size w u
theorem RJ.later {w u u1 : World} {c : CodeP} {v : CV} {rR rS : Nat} {s : List VN × List VN} (h : RJ w c v rR rS s u) (hb : Below u.heap.size u u1) : RJ w c v rR rS s u1 := by
  obtain ⟨f, hf, hr⟩ := h.mR
  obtain ⟨g, hg, hs⟩ := h.mS
  exact ⟨h.code.later hb, h.res.kept hb, ⟨f, hf.later hb, hr⟩, ⟨g, hg.later hb, hs⟩, below_more h.bel hb⟩
theorem RJ.stepR {w u u1 : World} {c : CodeP} {v : CV} {rR rS : Nat} {s : List VN × List VN} {f' : Int → Option Value} {l : List VN} (h : RJ w c v rR rS s u) (hM : IMap u1 rR f') (hr : RelM f' l) (hG : u.grownBy u1 (some rR)) (hR : w.heap.size + 2 ≤ rR) (hne : rR ≠ rS) : RJ w c v rR rS (l, s.2) u1 := by
  obtain ⟨g, hg, hs⟩ := h.mS
  have cel : ∀ i x, u.cell? ⟨w.heap.size, i, none⟩ = some x → u1.cell? ⟨w.heap.size, i, none⟩ = some x := fun i x hv => hG.cell hv (by simp; omega)
  obtain ⟨a0, a1, a2, a3, a4⟩ := h.code
  exact ⟨⟨cel _ _ a0, cel _ _ a1, cel _ _ a2, cel _ _ a3, cel _ _ a4⟩, h.res.grown hG (by simp; omega), ⟨f', hM, hr⟩, ⟨g, hg.grown hG (by simp; exact fun e => hne e.symm), hs⟩,
    ⟨hG.os.trans h.bel.os, hG.tape.trans h.bel.tape, hG.output.trans h.bel.output, Nat.le_trans h.bel.size hG.size, fun k hk => (hG.block k (Nat.lt_of_lt_of_le hk h.bel.size) (by simp; omega)).trans (h.bel.block k hk)⟩⟩
theorem RJ.stepS {w u u1 : World} {c : CodeP} {v : CV} {rR rS : Nat} {s : List VN × List VN} {f' : Int → Option Value} {l : List VN} (h : RJ w c v rR rS s u) (hM : IMap u1 rS f') (hr : RelM f' l) (hG : u.grownBy u1 (some rS)) (hR : w.heap.size + 2 ≤ rS) (hne : rR ≠ rS) : RJ w c v rR rS (s.1, l) u1 := by
  obtain ⟨g, hg, hs⟩ := h.mR
  have cel : ∀ i x, u.cell? ⟨w.heap.size, i, none⟩ = some x → u1.cell? ⟨w.heap.size, i, none⟩ = some x := fun i x hv => hG.cell hv (by simp; omega)
  obtain ⟨a0, a1, a2, a3, a4⟩ := h.code
  exact ⟨⟨cel _ _ a0, cel _ _ a1, cel _ _ a2, cel _ _ a3, cel _ _ a4⟩, h.res.grown hG (by simp; omega), ⟨g, hg.grown hG (by simp; exact hne), hs⟩, ⟨f', hM, hr⟩,
    ⟨hG.os.trans h.bel.os, hG.tape.trans h.bel.tape, hG.output.trans h.bel.output, Nat.le_trans h.bel.size hG.size, fun k hk => (hG.block k (Nat.lt_of_lt_of_le hk h.bel.size) (by simp; omega)).trans (h.bel.block k hk)⟩⟩
theorem RJ.lookR {w u : World} {c : CodeP} {v : CV} {rR rS : Nat} {s : List VN × List VN} (h : RJ w c v rR rS s u) (x : Int) : (Instr.lookup 51 (.map (some rR)) (.int .i64 x) false).run Try.prog u = .ok (.agg #[.int .i64 (rdV s.1 x).1, .int .u64 ((rdV s.1 x).2 : Int)]) u := by
  obtain ⟨f, hf, hr⟩ := h.mR
  exact look_rel hf hr x
theorem RJ.lookS {w u : World} {c : CodeP} {v : CV} {rR rS : Nat} {s : List VN × List VN} (h : RJ w c v rR rS s u) (x : Int) : (Instr.lookup 51 (.map (some rS)) (.int .i64 x) false).run Try.prog u = .ok (.agg #[.int .i64 (rdV s.2 x).1, .int .u64 ((rdV s.2 x).2 : Int)]) u := by
  obtain ⟨f, hf, hr⟩ := h.mS
  exact look_rel hf hr x
/-- a list of n of two values in a block of its own -/
def PfW (n : Nat) (p q : VN) : Value → World → Prop := fun v w => ∃ g, v = .slice (some ⟨g, 0, none⟩) n 2 ∧ RowV w (some ⟨g, 0, none⟩) n ([p, q].take n)
theorem pfw_mono (n : Nat) (p q : VN) : G.MonoW (PfW n p q) := fun _ _ _ ⟨g, e, h⟩ hb => ⟨g, e, h.later hb⟩
theorem row_take {w : World} {g : Nat} {p q : VN} (h : RowV w (some ⟨g, 0, none⟩) 2 [p, q]) (n : Nat) (hn : n ≤ 2) : RowV w (some ⟨g, 0, none⟩) n ([p, q].take n) := by
  refine ⟨by simp; omega, fun v hv => h.2.1 v (List.mem_of_mem_take hv), fun hp => ?_⟩
  obtain ⟨b, off, hA, hc⟩ := h.2.2 (by omega)
  exact ⟨b, off, hA, fun i k c hi => hc i k c (by rw [List.getElem?_take] at hi; split at hi; exact hi; cases hi)⟩

set_option maxHeartbeats 16000000 in
set_option maxRecDepth 100000 in
theorem rrun_any (c : CodeP) (v : CV) (A : Option Addr) (n cap : Nat) (inputs : List VN) (w : World) (hc : CodeIn w c v) (hv : RowV w A n inputs) (hn : n ≤ 9223372036854775807) :
    Calls Try.prog 9 #[codeV c v, .slice A n cap] w (VOut (codeRun c inputs) w) := by
  obtain ⟨xA, xC, cA, cC, lA, lC⟩ := v
  have hE : codeRun c inputs = runP inputs c.cs (blank (nregs c.regs), blank (nslots c.slots)) c.list := rfl
  generalize codeRun c inputs = zz at *
  replace hE := Lib.hid hE
  have hcs := Lib.hid (show RowV w cA c.cs.length c.cs from hc.cs)
  have hcn := Lib.hid (show c.cs.length ≤ 9223372036854775807 by have := hc.szC; omega)
  have hlist := Lib.hid (show QuadAt w lA c.list from hc.list)
  have hlen := Lib.hid (show c.list.length ≤ 9223372036854775806 by have := hc.szL; omega)
  have hcode : CodeAt ((w.alloc (codeO c ⟨xA, xC, cA, cC, lA, lC⟩)).alloc (.cells #[.int .i64 0, .int .u64 0] 33)) w.heap.size c ⟨xA, xC, cA, cC, lA, lC⟩ := (CodeAt.new w c ⟨xA, xC, cA, cC, lA, lC⟩).later (m1 _ _)
  have hres : Blk ((w.alloc (codeO c ⟨xA, xC, cA, cC, lA, lC⟩)).alloc (.cells #[.int .i64 0, .int .u64 0] 33)) (w.heap.size + 1) 33 #[.int .i64 0, .int .u64 0] := by simpa using Blk.made (w.alloc (codeO c ⟨xA, xC, cA, cC, lA, lC⟩)) 33 #[.int .i64 0, .int .u64 0]
  have hu := m2 w (codeO c ⟨xA, xC, cA, cC, lA, lC⟩) (.cells #[.int .i64 0, .int .u64 0] 33)
  unfold codeO at hcode hres hu
  dsimp only at hcode hres hu
  have hsz : ((w.alloc (.cells #[.int .i64 c.regs, .int .i64 c.slots, .slice xA c.ins.length xC, .slice cA c.cs.length cC, .slice lA c.list.length lC] 26)).alloc (.cells #[.int .i64 0, .int .u64 0] 33)).heap.size = w.heap.size + 2 := by simp
  show Calls _ _ #[.agg #[.int .i64 c.regs, .int .i64 c.slots, .slice xA c.ins.length xC, .slice cA c.cs.length cC, .slice lA c.list.length lC], .slice A n cap] _ _
  replace hv := Lib.hid hv
  replace hn := Lib.hid hn
  clear hc
  go_enter Try.func9, Try.ntmps9
  go_upto_region 1 with (fail)
  generalize (w.alloc (.cells #[.int .i64 c.regs, .int .i64 c.slots, .slice xA c.ins.length xC, .slice cA c.cs.length cC, .slice lA c.list.length lC] 26)).alloc (.cells #[.int .i64 0, .int .u64 0] 33) = u at *
  have mR := (IMap.new u).later (m1 _ (.map #[] 0))
  have mS : IMap ((u.alloc (.map #[] 0)).alloc (.map #[] 0)) (u.heap.size + 1) (fun _ => none) := by simpa using IMap.new (u.alloc (.map #[] 0))
  have hb2 := m2 u (.map #[] 0) (.map #[] 0)
  replace hcode := hcode.later hb2
  replace hres := hres.kept hb2
  replace hu := below_more hu hb2
  have c0 := hcode.1
  have c1 := hcode.2.1
  have hmk : ∀ w, (Instr.makeMap 51 none).run Try.prog w = .ok (.map (some w.heap.size)) (w.alloc (.map #[] 0)) := fun w => run_makeMap_plain w _
  go_upto_region 2 with (fail)
  generalize (u.alloc (.map #[] 0)).alloc (.map #[] 0) = u2 at *
  clear hb2
  go_wp2_with fail
  go_quiet (fail)
  have hb3 := bdrewN9 (Below.refl u2.heap.size u2) nq
  rw [hsz] at mR mS
  have hJ0 : RJ w c ⟨xA, xC, cA, cC, lA, lC⟩ (w.heap.size + 2) (w.heap.size + 2 + 1) (blank (nregs c.regs), blank (nslots c.slots)) (u2.drewN nq) := RJ.later ⟨hcode, hres, ⟨_, mR, RelM.blanks _⟩, ⟨_, mS, RelM.blanks _⟩, hu⟩ hb3
  clear hb3 mR mS hcode hres hu c0 c1 hmk hsz
  generalize u2.drewN nq = u3 at *
  obtain ⟨rR, hrR⟩ : ∃ x, w.heap.size + 2 = x := ⟨_, rfl⟩
  obtain ⟨rS, hrS⟩ : ∃ x, w.heap.size + 2 + 1 = x := ⟨_, rfl⟩
  rw [hrS, hrR] at hJ0
  rw [hrS, hrR]
  have hrb := Lib.hid (show w.heap.size + 2 ≤ rR by omega)
  have hsb := Lib.hid (show w.heap.size + 2 ≤ rS by omega)
  have hne := Lib.hid (show rR ≠ rS by omega)
  clear hrR hrS
  obtain ⟨nrI, hnI⟩ : ∃ x : Int, (if 1024 < c.regs then (1024 : Int) else c.regs) = x := ⟨_, rfl⟩
  obtain ⟨nsI, hsI⟩ : ∃ x : Int, (if 256 < c.slots then (256 : Int) else c.slots) = x := ⟨_, rfl⟩
  rw [hnI, hsI]
  have hnr := Lib.hid (show nrI.toNat = nregs c.regs by rw [← hnI]; unfold nregs; split <;> omega)
  have hns := Lib.hid (show nsI.toNat = nslots c.slots by rw [← hsI]; unfold nslots; split <;> omega)
  clear hnI hsI
  have hl4 := hJ0.code.2.2.2.2
  dsimp only at hl4
  have hb1 : (blank (nregs c.regs)).length = nregs c.regs ∧ (blank (nslots c.slots)).length = nslots c.slots := by simp [blank]
  have hb2 : OkL (blank (nregs c.regs)) ∧ OkL (blank (nslots c.slots)) := ⟨okL_blank _, okL_blank _⟩
  replace hb1 := Lib.hid hb1
  replace hb2 := Lib.hid hb2
  replace hJ0 := Lib.hid hJ0
  generalize blank (nregs c.regs) = s1 at *
  generalize blank (nslots c.slots) = s2 at *
  generalize nregs c.regs = nr at *
  generalize nslots c.slots = ns at *
  go_wp2_with fail
  go_loopw [23] (fun i wr => ∃ (k : Nat) (s : List VN × List VN), k ≤ c.list.length ∧ i = .int .i64 (k : Int) ∧ runP inputs c.cs (s1, s2) c.list = runP inputs c.cs s (c.list.drop k) ∧ s.1.length = nr ∧ s.2.length = ns ∧ (OkL s.1 ∧ OkL s.2) ∧ RJ w c ⟨xA, xC, cA, cC, lA, lC⟩ rR rS s wr) (fun i _ => c.list.length - (intOf i).toNat)
  case atStart => exact ⟨0, (s1, s2), Nat.zero_le _, rfl, by simp, hb1.out.1, hb1.out.2, hb2.out, hJ0.out⟩
  case round =>
    obtain ⟨k, s, hk, rfl, hrun, hl1, hl2, hokS, hJr⟩ := hrel
    clear hJ0 hl4 hb1 hb2
    replace hl1 := Lib.hid hl1
    replace hl2 := Lib.hid hl2
    have hrd := Lib.hid (fun i => hokS.1.rd i)
    replace hokS := Lib.hid hokS
    have hlen2 := hlen.out
    by_cases hlt : k < c.list.length
    · obtain ⟨bb, off, rfl, hcells⟩ := hlist.out (by omega)
      have hx := List.getElem?_eq_getElem hlt
      obtain ⟨q0, q1, q2, q3⟩ := hcells k _ hx
      rw [runP_here inputs c.cs s c.list k _ hx] at hrun
      replace q0 := cell_later hJr.bel q0
      replace q1 := cell_later hJr.bel q1
      replace q2 := cell_later hJr.bel q2
      replace q3 := cell_later hJr.bel q3
      have hl4 := hJr.code.2.2.2.2
      dsimp only at hl4
      clear hcells hx
      generalize c.list[k] = x at *
      obtain ⟨op, d, ia, ib⟩ := x
      dsimp only at hrun q0 q1 q2 q3
      have O := Lib.hid (roperands_any op)
      have k0 : (0 : Int) ≤ (k : Int) := by omega
      have k1 : (k : Int) < (c.list.length : Int) := by omega
      have k3 := Lib.hid (show k < c.list.length ∧ c.list.length ≤ 9223372036854775806 from ⟨hlt, hlen2⟩)
      have hb := m1 wr (.cells #[.int .i64 op, .int .i64 d, .int .i64 ia, .int .i64 ib] 39)
      have hi : InsAt (wr.alloc (.cells #[.int .i64 op, .int .i64 d, .int .i64 ia, .int .i64 ib] 39)) wr.heap.size (op, d, ia, ib) := insAt_new wr (op, d, ia, ib)
      have hJ := hJr.later hb
      clear hJr hb hlist hk
      generalize hz : runP inputs c.cs (s1, s2) c.list = z at *
      clear hz
      by_cases h52 : op = 52
      · rw [if_pos h52] at hrun
        have e52 : (op == 52) = true := by simpa using h52
        replace hrun := Lib.hid (hE.out.trans hrun)
        clear h52
        go_upto_region 6 with (fail)
        generalize wr.alloc (.cells #[.int .i64 op, .int .i64 d, .int .i64 ia, .int .i64 ib] 39) = u1 at *
        clear q0 q1 q2 q3
        obtain ⟨i0, i1, i2, i3⟩ := id hi
        dsimp only at i0 i1 i2 i3
        go_wp2_with fail
        refine (O.out _).mono ?_; rintro e w2 ⟨rfl, hb1⟩
        replace hJ := hJ.later hb1
        replace hi := hi.later hb1
        replace i0 := cell_later hb1 i0
        replace i1 := cell_later hb1 i1
        replace i2 := cell_later hb1 i2
        replace i3 := cell_later hb1 i3
        clear hb1 O
        have hlk := hJ.lookR ia
        generalize rdV s.1 ia = y at *
        obtain ⟨yk, yb⟩ := y
        dsimp only at hlk
        have r0 : w2.cell? ⟨w.heap.size + 1, 0, none⟩ = some (.int .i64 0) := hJ.res.cell 0
        have r1 : w2.cell? ⟨w.heap.size + 1, 1, none⟩ = some (.int .u64 0) := hJ.res.cell 1
        have f0 := hJ.res.free 0
        have f1 := hJ.res.free 1
        obtain ⟨_, p1, p2⟩ := put2 (.int .i64 yk) (.int .u64 (yb : Int)) r0 r1
        have hB := (hJ.bel.setCell (p := ⟨w.heap.size + 1, 0, none⟩) (by simp) (.int .i64 yk)).setCell (p := ⟨w.heap.size + 1, 1, none⟩) (by simp) (.int .u64 (yb : Int))
        clear hJ hi
        go_wp2
        exact bodyPost_ret (v := .agg #[.int .i64 yk, .int .u64 (yb : Int)]) (by simp [results, Try.results9, go_sem, p1, p2]) rfl ⟨by rw [hrun.out], hB⟩
      rw [if_neg h52] at hrun
      have hst := step_len inputs c.cs s (op, d, ia, ib)
      rw [hl1.out, hl2.out] at hst
      have hok := step_ok w hv.out.2.1 hcs.out.2.1 hokS.out (op, d, ia, ib)
      by_cases h50 : op = 50
      · have hn9 : opsP op = 0 := by rw [h50]; decide
        have hstep := Lib.hid (show stepP inputs c.cs s (op, d, ia, ib) = (wrV s.1 d (clV (rdV inputs ia)), s.2) by unfold stepP; dsimp only; rw [if_neg (by rw [hn9]; decide), if_neg (by rw [hn9]; decide), if_pos h50])
        rw [show stepP inputs c.cs s (op, d, ia, ib) = (wrV s.1 d (clV (rdV inputs ia)), s.2) from hstep.out] at hrun hst hok
        replace hrun := Lib.hid hrun
        replace hst := Lib.hid hst
        replace hok := Lib.hid hok
        clear hstep
        have f52 : (op == 52) = false := by simpa using (by omega : op ≠ 52)
        have t50 : (op == 50) = true := by simpa using (by omega : op = 50)
        clear h50 h52 hn9
        go_upto_region 6 with (fail)
        generalize wr.alloc (.cells #[.int .i64 op, .int .i64 d, .int .i64 ia, .int .i64 ib] 39) = u1 at *
        clear q0 q1 q2 q3
        obtain ⟨i0, i1, i2, i3⟩ := id hi
        dsimp only at i0 i1 i2 i3
        go_wp2_with fail
        refine (O.out _).mono ?_; rintro e w2 ⟨rfl, hb1⟩
        replace hJ := hJ.later hb1
        replace hi := hi.later hb1
        replace i0 := cell_later hb1 i0
        replace i1 := cell_later hb1 i1
        replace i2 := cell_later hb1 i2
        replace i3 := cell_later hb1 i3
        clear hb1 O
        go_upto_region 10 with (fail)
        clear i0 i1 i2 i3
        have KD := G.keepsD_true []
        have KC : G.KeepsC (fun w' => RJ w c ⟨xA, xC, cA, cC, some ⟨bb, off, none⟩, lC⟩ rR rS s w' ∧ InsAt w' wr.heap.size (op, d, ia, ib)) := fun _ _ h hb => ⟨h.1.later hb, h.2.later hb⟩
        refine G.region_wordsG 8 (fun w' => RJ w c ⟨xA, xC, cA, cC, some ⟨bb, off, none⟩, lC⟩ rR rS s w' ∧ InsAt w' wr.heap.size (op, d, ia, ib)) (fun _ _ => True) [G.isW (.map (some rR)), G.isW (.pointer (some ⟨wr.heap.size, 1, none⟩)), G.isW (.int .i64 d), G.isW (.int .i64 nrI), G.isW (.slice A n cap), G.isW (.pointer (some ⟨wr.heap.size, 2, none⟩)), G.isW (.int .i64 ia), G.isW (.agg #[.int .i64 (clV (rdV inputs ia)).1, .int .u64 ((clV (rdV inputs ia)).2 : Int)])] (by kernel_rfl) (by repeat' (first | exact G.monoL_nil | exact G.is_mono _ | exact G.any_mono | refine G.monoL_cons ?_ ?_)) (by kernel_rfl) (by kernel_rfl) ⟨hJ.later (Below.refl _ _).drew, hi.later (Below.refl _ _).drew⟩ trivial ?_ ?_
        ·
          refine G.stepsL_cons (fun a u hc hdd hd hk hdep => ?_) ?_
          ·
            have d5 : (a.tmps[5]?).getD undef = (.map (some rR)) := hk 5 (by kernel_rfl)
            refine G.step_val KC KD hc hdd rfl (.map (some rR)) u (G.wanted_plain rfl) ?_ rfl (Below.refl _ _)
            first | (go_simp; done) | rfl | (simp [go_sem, *]; done)
          refine G.stepsL_cons (fun a u hc hdd hd hk hdep => ?_) ?_
          ·
            have d10 : (a.tmps[10]?).getD undef = (.pointer (some ⟨wr.heap.size, 0, none⟩)) := hk 10 (by kernel_rfl)
            refine G.step_val KC KD hc hdd rfl (.pointer (some ⟨wr.heap.size, 1, none⟩)) u (G.wanted_plain rfl) ?_ rfl (Below.refl _ _)
            first | (go_simp; done) | rfl | (simp [go_sem, *]; done)
          refine G.stepsL_cons (fun a u hc hdd hd hk hdep => ?_) ?_
          ·
            have d43 : (a.tmps[43]?).getD undef = (.pointer (some ⟨wr.heap.size, 1, none⟩)) := hdep ⟨1, .data⟩ (by simp) rfl
            refine G.step_val KC KD hc hdd rfl (.int .i64 d) u (G.wanted_plain rfl) ?_ rfl (Below.refl _ _)
            obtain ⟨s0, s1, s2, s3, s4⟩ := hc.1.code
            dsimp only at s2 s3 s4
            obtain ⟨i0, i1, i2, i3⟩ := hc.2
            dsimp only at i0 i1 i2 i3
            first | (go_simp; done) | rfl | (simp [go_sem, *]; done)
          refine G.stepsL_cons (fun a u hc hdd hd hk hdep => ?_) ?_
          ·
            have d7 : (a.tmps[7]?).getD undef = (.int .i64 nrI) := hk 7 (by kernel_rfl)
            refine G.step_val KC KD hc hdd rfl (.int .i64 nrI) u (G.wanted_plain rfl) ?_ rfl (Below.refl _ _)
            first | (go_simp; done) | rfl | (simp [go_sem, *]; done)
          refine G.stepsL_cons (fun a u hc hdd hd hk hdep => ?_) ?_
          ·
            have d1 : (a.tmps[1]?).getD undef = (.slice A n cap) := hk 1 (by kernel_rfl)
            refine G.step_val KC KD hc hdd rfl (.slice A n cap) u (G.wanted_plain rfl) ?_ rfl (Below.refl _ _)
            first | (go_simp; done) | rfl | (simp [go_sem, *]; done)
          refine G.stepsL_cons (fun a u hc hdd hd hk hdep => ?_) ?_
          ·
            have d10 : (a.tmps[10]?).getD undef = (.pointer (some ⟨wr.heap.size, 0, none⟩)) := hk 10 (by kernel_rfl)
            refine G.step_val KC KD hc hdd rfl (.pointer (some ⟨wr.heap.size, 2, none⟩)) u (G.wanted_plain rfl) ?_ rfl (Below.refl _ _)
            first | (go_simp; done) | rfl | (simp [go_sem, *]; done)
          refine G.stepsL_cons (fun a u hc hdd hd hk hdep => ?_) ?_
          ·
            have d47 : (a.tmps[47]?).getD undef = (.pointer (some ⟨wr.heap.size, 2, none⟩)) := hdep ⟨5, .data⟩ (by simp) rfl
            refine G.step_val KC KD hc hdd rfl (.int .i64 ia) u (G.wanted_plain rfl) ?_ rfl (Below.refl _ _)
            obtain ⟨s0, s1, s2, s3, s4⟩ := hc.1.code
            dsimp only at s2 s3 s4
            obtain ⟨i0, i1, i2, i3⟩ := hc.2
            dsimp only at i0 i1 i2 i3
            first | (go_simp; done) | rfl | (simp [go_sem, *]; done)
          refine G.stepsL_cons (fun a u hc hdd hd hk hdep => ?_) ?_
          ·
            have d46 : (a.tmps[46]?).getD undef = (.slice A n cap) := hdep ⟨4, .data⟩ (by simp) rfl
            have d48 : (a.tmps[48]?).getD undef = (.int .i64 ia) := hdep ⟨6, .data⟩ (by simp) rfl
            refine G.step_call KC KD hc hdd rfl 19 #[.slice A n cap, .int .i64 ia] (G.wanted_plain rfl) (by first | (go_simp; done) | rfl) ?_
            exact (take_any A n cap inputs ia u (hv.out.later hc.1.bel) hn.out).mono (by rintro e w' ⟨rfl, hb⟩; exact ⟨_, rfl, rfl, hb⟩)
          exact G.stepsL_nil
        intro vs' wN hNN _ hh
        have eL : vs' 7 = (.agg #[.int .i64 (clV (rdV inputs ia)).1, .int .u64 ((clV (rdV inputs ia)).2 : Int)]) := by
          obtain ⟨-, -, -, -, -, -, -, eX, -⟩ := hh
          exact eX
        have eM : vs' 0 = (.map (some rR)) := by
          obtain ⟨eX, -⟩ := hh
          exact eX
        have eI : vs' 2 = (.int .i64 d) := by
          obtain ⟨-, -, eX, -⟩ := hh
          exact eX
        have eN : vs' 3 = (.int .i64 nrI) := by
          obtain ⟨-, -, -, eX, -⟩ := hh
          exact eX
        clear hh hJ hi
        obtain ⟨hJ, -⟩ := hNN
        set_option maxRecDepth 100000 in simp only [List.take_succ_cons, List.take_zero, putAll, Act.put, List.setIfInBounds_toArray, List.set_cons_zero, List.set_cons_succ, Nat.reduceAdd, eL, eM, eI, eN]
        clear eL eM eI eN
        obtain ⟨f, hf, hr⟩ := hJ.mR
        have PP := Lib.hid (put_any rR f d nrI (clV (rdV inputs ia)) wN hf)
        have hr2 := Lib.hid (hr.put d nrI (clV (rdV inputs ia)) (by rw [hl1.out, hnr.out]))
        generalize (clV (rdV inputs ia)) = y at *
        refine wpAny_ready (rs := [8]) (by kernel_rfl) (by simp) ?_
        refine AllReady.cons rfl (fun K hK => ?_) AllReady.nil
        go_simp
        refine PP.out.mono ?_; rintro e w3 ⟨rfl, hM, hG⟩
        have hJ2 := hJ.stepR hM hr2.out hG hrb.out hne.out
        refine hK _ _ ?_
        clear hK K PP hf hr hM hG hJ
        refine wpAny_done (by kernel_rfl) ?_ _
        go_wp2
        go_roundw
        case rel => exact ⟨k + 1, _, by have := k3.out; omega, by go_num, hrun.out, by first | exact hst.out.1 | simpa using hst.out.1, by first | exact hst.out.2 | simpa using hst.out.2, by first | exact hok.out | simpa using hok.out, hJ2⟩
        case measure => have := k3.out; simp [intOf]; omega
      by_cases h51 : op = 51
      · have hn9 : opsP op = 0 := by rw [h51]; decide
        have hstep := Lib.hid (show stepP inputs c.cs s (op, d, ia, ib) = (wrV s.1 d (clV (rdV c.cs ia)), s.2) by unfold stepP; dsimp only; rw [if_neg (by rw [hn9]; decide), if_neg (by rw [hn9]; decide), if_neg h50, if_pos h51])
        rw [show stepP inputs c.cs s (op, d, ia, ib) = (wrV s.1 d (clV (rdV c.cs ia)), s.2) from hstep.out] at hrun hst hok
        replace hrun := Lib.hid hrun
        replace hst := Lib.hid hst
        replace hok := Lib.hid hok
        clear hstep
        have f52 : (op == 52) = false := by simpa using (by omega : op ≠ 52)
        have f50 : (op == 50) = false := by simpa using (by omega : op ≠ 50)
        have t51 : (op == 51) = true := by simpa using (by omega : op = 51)
        clear h50 h51 h52 hn9
        go_upto_region 6 with (fail)
        generalize wr.alloc (.cells #[.int .i64 op, .int .i64 d, .int .i64 ia, .int .i64 ib] 39) = u1 at *
        clear q0 q1 q2 q3
        obtain ⟨i0, i1, i2, i3⟩ := id hi
        dsimp only at i0 i1 i2 i3
        go_wp2_with fail
        refine (O.out _).mono ?_; rintro e w2 ⟨rfl, hb1⟩
        replace hJ := hJ.later hb1
        replace hi := hi.later hb1
        replace i0 := cell_later hb1 i0
        replace i1 := cell_later hb1 i1
        replace i2 := cell_later hb1 i2
        replace i3 := cell_later hb1 i3
        clear hb1 O
        go_upto_region 12 with (fail)
        clear i0 i1 i2 i3
        have KD := G.keepsD_true []
        have KC : G.KeepsC (fun w' => RJ w c ⟨xA, xC, cA, cC, some ⟨bb, off, none⟩, lC⟩ rR rS s w' ∧ InsAt w' wr.heap.size (op, d, ia, ib)) := fun _ _ h hb => ⟨h.1.later hb, h.2.later hb⟩
        refine G.region_wordsG 9 (fun w' => RJ w c ⟨xA, xC, cA, cC, some ⟨bb, off, none⟩, lC⟩ rR rS s w' ∧ InsAt w' wr.heap.size (op, d, ia, ib)) (fun _ _ => True) [G.isW (.map (some rR)), G.isW (.pointer (some ⟨wr.heap.size, 1, none⟩)), G.isW (.int .i64 d), G.isW (.int .i64 nrI), G.isW (.pointer (some ⟨w.heap.size, 3, none⟩)), G.isW (.slice cA c.cs.length cC), G.isW (.pointer (some ⟨wr.heap.size, 2, none⟩)), G.isW (.int .i64 ia), G.isW (.agg #[.int .i64 (clV (rdV c.cs ia)).1, .int .u64 ((clV (rdV c.cs ia)).2 : Int)])] (by kernel_rfl) (by repeat' (first | exact G.monoL_nil | exact G.is_mono _ | exact G.any_mono | refine G.monoL_cons ?_ ?_)) (by kernel_rfl) (by kernel_rfl) ⟨hJ.later (Below.refl _ _).drew, hi.later (Below.refl _ _).drew⟩ trivial ?_ ?_
        ·
          refine G.stepsL_cons (fun a u hc hdd hd hk hdep => ?_) ?_
          ·
            have d5 : (a.tmps[5]?).getD undef = (.map (some rR)) := hk 5 (by kernel_rfl)
            refine G.step_val KC KD hc hdd rfl (.map (some rR)) u (G.wanted_plain rfl) ?_ rfl (Below.refl _ _)
            first | (go_simp; done) | rfl | (simp [go_sem, *]; done)
          refine G.stepsL_cons (fun a u hc hdd hd hk hdep => ?_) ?_
          ·
            have d10 : (a.tmps[10]?).getD undef = (.pointer (some ⟨wr.heap.size, 0, none⟩)) := hk 10 (by kernel_rfl)
            refine G.step_val KC KD hc hdd rfl (.pointer (some ⟨wr.heap.size, 1, none⟩)) u (G.wanted_plain rfl) ?_ rfl (Below.refl _ _)
            first | (go_simp; done) | rfl | (simp [go_sem, *]; done)
          refine G.stepsL_cons (fun a u hc hdd hd hk hdep => ?_) ?_
          ·
            have d56 : (a.tmps[56]?).getD undef = (.pointer (some ⟨wr.heap.size, 1, none⟩)) := hdep ⟨1, .data⟩ (by simp) rfl
            refine G.step_val KC KD hc hdd rfl (.int .i64 d) u (G.wanted_plain rfl) ?_ rfl (Below.refl _ _)
            obtain ⟨s0, s1, s2, s3, s4⟩ := hc.1.code
            dsimp only at s2 s3 s4
            obtain ⟨i0, i1, i2, i3⟩ := hc.2
            dsimp only at i0 i1 i2 i3
            first | (go_simp; done) | rfl | (simp [go_sem, *]; done)
          refine G.stepsL_cons (fun a u hc hdd hd hk hdep => ?_) ?_
          ·
            have d7 : (a.tmps[7]?).getD undef = (.int .i64 nrI) := hk 7 (by kernel_rfl)
            refine G.step_val KC KD hc hdd rfl (.int .i64 nrI) u (G.wanted_plain rfl) ?_ rfl (Below.refl _ _)
            first | (go_simp; done) | rfl | (simp [go_sem, *]; done)
          refine G.stepsL_cons (fun a u hc hdd hd hk hdep => ?_) ?_
          ·
            have d2 : (a.tmps[2]?).getD undef = (.pointer (some ⟨w.heap.size, 0, none⟩)) := hk 2 (by kernel_rfl)
            refine G.step_val KC KD hc hdd rfl (.pointer (some ⟨w.heap.size, 3, none⟩)) u (G.wanted_plain rfl) ?_ rfl (Below.refl _ _)
            first | (go_simp; done) | rfl | (simp [go_sem, *]; done)
          refine G.stepsL_cons (fun a u hc hdd hd hk hdep => ?_) ?_
          ·
            have d59 : (a.tmps[59]?).getD undef = (.pointer (some ⟨w.heap.size, 3, none⟩)) := hdep ⟨4, .data⟩ (by simp) rfl
            refine G.step_val KC KD hc hdd rfl (.slice cA c.cs.length cC) u (G.wanted_plain rfl) ?_ rfl (Below.refl _ _)
            obtain ⟨s0, s1, s2, s3, s4⟩ := hc.1.code
            dsimp only at s2 s3 s4
            obtain ⟨i0, i1, i2, i3⟩ := hc.2
            dsimp only at i0 i1 i2 i3
            first | (go_simp; done) | rfl | (simp [go_sem, *]; done)
          refine G.stepsL_cons (fun a u hc hdd hd hk hdep => ?_) ?_
          ·
            have d10 : (a.tmps[10]?).getD undef = (.pointer (some ⟨wr.heap.size, 0, none⟩)) := hk 10 (by kernel_rfl)
            refine G.step_val KC KD hc hdd rfl (.pointer (some ⟨wr.heap.size, 2, none⟩)) u (G.wanted_plain rfl) ?_ rfl (Below.refl _ _)
            first | (go_simp; done) | rfl | (simp [go_sem, *]; done)
          refine G.stepsL_cons (fun a u hc hdd hd hk hdep => ?_) ?_
          ·
            have d61 : (a.tmps[61]?).getD undef = (.pointer (some ⟨wr.heap.size, 2, none⟩)) := hdep ⟨6, .data⟩ (by simp) rfl
            refine G.step_val KC KD hc hdd rfl (.int .i64 ia) u (G.wanted_plain rfl) ?_ rfl (Below.refl _ _)
            obtain ⟨s0, s1, s2, s3, s4⟩ := hc.1.code
            dsimp only at s2 s3 s4
            obtain ⟨i0, i1, i2, i3⟩ := hc.2
            dsimp only at i0 i1 i2 i3
            first | (go_simp; done) | rfl | (simp [go_sem, *]; done)
          refine G.stepsL_cons (fun a u hc hdd hd hk hdep => ?_) ?_
          ·
            have d60 : (a.tmps[60]?).getD undef = (.slice cA c.cs.length cC) := hdep ⟨5, .data⟩ (by simp) rfl
            have d62 : (a.tmps[62]?).getD undef = (.int .i64 ia) := hdep ⟨7, .data⟩ (by simp) rfl
            refine G.step_call KC KD hc hdd rfl 19 #[.slice cA c.cs.length cC, .int .i64 ia] (G.wanted_plain rfl) (by first | (go_simp; done) | rfl) ?_
            exact (take_any cA c.cs.length cC c.cs ia u (hcs.out.later hc.1.bel) hcn.out).mono (by rintro e w' ⟨rfl, hb⟩; exact ⟨_, rfl, rfl, hb⟩)
          exact G.stepsL_nil
        intro vs' wN hNN _ hh
        have eL : vs' 8 = (.agg #[.int .i64 (clV (rdV c.cs ia)).1, .int .u64 ((clV (rdV c.cs ia)).2 : Int)]) := by
          obtain ⟨-, -, -, -, -, -, -, -, eX, -⟩ := hh
          exact eX
        have eM : vs' 0 = (.map (some rR)) := by
          obtain ⟨eX, -⟩ := hh
          exact eX
        have eI : vs' 2 = (.int .i64 d) := by
          obtain ⟨-, -, eX, -⟩ := hh
          exact eX
        have eN : vs' 3 = (.int .i64 nrI) := by
          obtain ⟨-, -, -, eX, -⟩ := hh
          exact eX
        clear hh hJ hi
        obtain ⟨hJ, -⟩ := hNN
        set_option maxRecDepth 100000 in simp only [List.take_succ_cons, List.take_zero, putAll, Act.put, List.setIfInBounds_toArray, List.set_cons_zero, List.set_cons_succ, Nat.reduceAdd, eL, eM, eI, eN]
        clear eL eM eI eN
        obtain ⟨f, hf, hr⟩ := hJ.mR
        have PP := Lib.hid (put_any rR f d nrI (clV (rdV c.cs ia)) wN hf)
        have hr2 := Lib.hid (hr.put d nrI (clV (rdV c.cs ia)) (by rw [hl1.out, hnr.out]))
        generalize (clV (rdV c.cs ia)) = y at *
        refine wpAny_ready (rs := [9]) (by kernel_rfl) (by simp) ?_
        refine AllReady.cons rfl (fun K hK => ?_) AllReady.nil
        go_simp
        refine PP.out.mono ?_; rintro e w3 ⟨rfl, hM, hG⟩
        have hJ2 := hJ.stepR hM hr2.out hG hrb.out hne.out
        refine hK _ _ ?_
        clear hK K PP hf hr hM hG hJ
        refine wpAny_done (by kernel_rfl) ?_ _
        go_wp2
        go_roundw
        case rel => exact ⟨k + 1, _, by have := k3.out; omega, by go_num, hrun.out, by first | exact hst.out.1 | simpa using hst.out.1, by first | exact hst.out.2 | simpa using hst.out.2, by first | exact hok.out | simpa using hok.out, hJ2⟩
        case measure => have := k3.out; simp [intOf]; omega
      by_cases h53 : op = 53
      · have hn9 : opsP op = 0 := by rw [h53]; decide
        have hstep := Lib.hid (show stepP inputs c.cs s (op, d, ia, ib) = (s.1, wrV s.2 ia (rdV s.1 ib)) by unfold stepP; dsimp only; rw [if_neg (by rw [hn9]; decide), if_neg (by rw [hn9]; decide), if_neg h50, if_neg h51, if_pos h53])
        rw [show stepP inputs c.cs s (op, d, ia, ib) = (s.1, wrV s.2 ia (rdV s.1 ib)) from hstep.out] at hrun hst hok
        replace hrun := Lib.hid hrun
        replace hst := Lib.hid hst
        replace hok := Lib.hid hok
        clear hstep
        have f52 : (op == 52) = false := by simpa using (by omega : op ≠ 52)
        have f50 : (op == 50) = false := by simpa using (by omega : op ≠ 50)
        have f51 : (op == 51) = false := by simpa using (by omega : op ≠ 51)
        have t53 : (op == 53) = true := by simpa using (by omega : op = 53)
        clear h50 h51 h52 h53 hn9
        go_upto_region 6 with (fail)
        generalize wr.alloc (.cells #[.int .i64 op, .int .i64 d, .int .i64 ia, .int .i64 ib] 39) = u1 at *
        clear q0 q1 q2 q3
        obtain ⟨i0, i1, i2, i3⟩ := id hi
        dsimp only at i0 i1 i2 i3
        go_wp2_with fail
        refine (O.out _).mono ?_; rintro e w2 ⟨rfl, hb1⟩
        replace hJ := hJ.later hb1
        replace hi := hi.later hb1
        replace i0 := cell_later hb1 i0
        replace i1 := cell_later hb1 i1
        replace i2 := cell_later hb1 i2
        replace i3 := cell_later hb1 i3
        clear hb1 O
        have hlk := hJ.lookR ib
        go_wp2_with fail
        obtain ⟨f, hf, hr⟩ := hJ.mS
        have PP := Lib.hid (put_any rS f ia nsI (rdV s.1 ib) w2 hf)
        have hr2 := Lib.hid (hr.put ia nsI (rdV s.1 ib) (by rw [hl2.out, hns.out]))
        clear hlk
        generalize (rdV s.1 ib) = y at *
        refine PP.out.mono ?_; rintro e w3 ⟨rfl, hM, hG⟩
        have hJ2 := hJ.stepS hM hr2.out hG hsb.out hne.out
        clear PP hf hr hM hG hJ i0 i1 i2 i3
        go_wp2
        go_roundw
        case rel => exact ⟨k + 1, _, by have := k3.out; omega, by go_num, hrun.out, by first | exact hst.out.1 | simpa using hst.out.1, by first | exact hst.out.2 | simpa using hst.out.2, by first | exact hok.out | simpa using hok.out, hJ2⟩
        case measure => have := k3.out; simp [intOf]; omega
      by_cases h54 : op = 54
      · have hn9 : opsP op = 0 := by rw [h54]; decide
        have hstep := Lib.hid (show stepP inputs c.cs s (op, d, ia, ib) = (wrV s.1 d (rdV s.2 ia), s.2) by unfold stepP; dsimp only; rw [if_neg (by rw [hn9]; decide), if_neg (by rw [hn9]; decide), if_neg h50, if_neg h51, if_neg h53, if_pos h54])
        rw [show stepP inputs c.cs s (op, d, ia, ib) = (wrV s.1 d (rdV s.2 ia), s.2) from hstep.out] at hrun hst hok
        replace hrun := Lib.hid hrun
        replace hst := Lib.hid hst
        replace hok := Lib.hid hok
        clear hstep
        have f52 : (op == 52) = false := by simpa using (by omega : op ≠ 52)
        have f50 : (op == 50) = false := by simpa using (by omega : op ≠ 50)
        have f51 : (op == 51) = false := by simpa using (by omega : op ≠ 51)
        have f53 : (op == 53) = false := by simpa using (by omega : op ≠ 53)
        have t54 : (op == 54) = true := by simpa using (by omega : op = 54)
        clear h50 h51 h52 h53 h54 hn9
        go_upto_region 6 with (fail)
        generalize wr.alloc (.cells #[.int .i64 op, .int .i64 d, .int .i64 ia, .int .i64 ib] 39) = u1 at *
        clear q0 q1 q2 q3
        obtain ⟨i0, i1, i2, i3⟩ := id hi
        dsimp only at i0 i1 i2 i3
        go_wp2_with fail
        refine (O.out _).mono ?_; rintro e w2 ⟨rfl, hb1⟩
        replace hJ := hJ.later hb1
        replace hi := hi.later hb1
        replace i0 := cell_later hb1 i0
        replace i1 := cell_later hb1 i1
        replace i2 := cell_later hb1 i2
        replace i3 := cell_later hb1 i3
        clear hb1 O
        have hlk := hJ.lookS ia
        go_wp2_with fail
        obtain ⟨f, hf, hr⟩ := hJ.mR
        have PP := Lib.hid (put_any rR f d nrI (rdV s.2 ia) w2 hf)
        have hr2 := Lib.hid (hr.put d nrI (rdV s.2 ia) (by rw [hl1.out, hnr.out]))
        clear hlk
        generalize (rdV s.2 ia) = y at *
        refine PP.out.mono ?_; rintro e w3 ⟨rfl, hM, hG⟩
        have hJ2 := hJ.stepR hM hr2.out hG hrb.out hne.out
        clear PP hf hr hM hG hJ i0 i1 i2 i3
        go_wp2
        go_roundw
        case rel => exact ⟨k + 1, _, by have := k3.out; omega, by go_num, hrun.out, by first | exact hst.out.1 | simpa using hst.out.1, by first | exact hst.out.2 | simpa using hst.out.2, by first | exact hok.out | simpa using hok.out, hJ2⟩
        case measure => have := k3.out; simp [intOf]; omega
      have f52 : (op == 52) = false := by simpa using (by omega : op ≠ 52)
      have f50 : (op == 50) = false := by simpa using (by omega : op ≠ 50)
      have f51 : (op == 51) = false := by simpa using (by omega : op ≠ 51)
      have f53 : (op == 53) = false := by simpa using (by omega : op ≠ 53)
      have f54 : (op == 54) = false := by simpa using (by omega : op ≠ 54)
      have hn9 := ops_le op
      have hc9 : opsP op = 1 ∨ opsP op = 2 ∨ opsP op = 0 := by omega
      rcases hc9 with h9 | h9 | h9
      · have hstep := Lib.hid (show stepP inputs c.cs s (op, d, ia, ib) = (wrV s.1 d (appP op [rdV s.1 ia]), s.2) by unfold stepP; dsimp only; rw [if_pos h9])
        rw [show stepP inputs c.cs s (op, d, ia, ib) = (wrV s.1 d (appP op [rdV s.1 ia]), s.2) from hstep.out] at hrun hst hok
        replace hrun := Lib.hid hrun
        replace hst := Lib.hid hst
        replace hok := Lib.hid hok
        clear hstep
        rw [h9] at O
        clear h50 h51 h52 h53 h54 h9 hn9
        go_upto_region 6 with (fail)
        generalize wr.alloc (.cells #[.int .i64 op, .int .i64 d, .int .i64 ia, .int .i64 ib] 39) = u1 at *
        clear q0 q1 q2 q3
        obtain ⟨i0, i1, i2, i3⟩ := id hi
        dsimp only at i0 i1 i2 i3
        go_wp2_with fail
        refine (O.out _).mono ?_; rintro e w2 ⟨rfl, hb1⟩
        replace hJ := hJ.later hb1
        replace hi := hi.later hb1
        replace i0 := cell_later hb1 i0
        replace i1 := cell_later hb1 i1
        replace i2 := cell_later hb1 i2
        replace i3 := cell_later hb1 i3
        clear hb1 O
        go_upto_region 18 with (fail)
        clear i0 i1 i2 i3
        have KD := G.keepsD_true []
        have KC : G.KeepsC (fun w' => RJ w c ⟨xA, xC, cA, cC, some ⟨bb, off, none⟩, lC⟩ rR rS s w' ∧ InsAt w' wr.heap.size (op, d, ia, ib)) := fun _ _ h hb => ⟨h.1.later hb, h.2.later hb⟩
        refine G.region_wordsG 18 (fun w' => RJ w c ⟨xA, xC, cA, cC, some ⟨bb, off, none⟩, lC⟩ rR rS s w' ∧ InsAt w' wr.heap.size (op, d, ia, ib)) (fun _ _ => True) [G.isW (.map (some rR)), G.isW (.pointer (some ⟨wr.heap.size, 1, none⟩)), G.isW (.int .i64 d), G.isW (.int .i64 nrI), G.isW (.pointer (some ⟨wr.heap.size, 0, none⟩)), G.isW (.int .i64 op), G.isW (.map (some rR)), G.isW (.pointer (some ⟨wr.heap.size, 2, none⟩)), G.isW (.int .i64 ia), G.isW (.agg #[.int .i64 (rdV s.1 ia).1, .int .u64 ((rdV s.1 ia).2 : Int)]), G.isW (.map (some rR)), G.isW (.pointer (some ⟨wr.heap.size, 3, none⟩)), G.isW (.int .i64 ib), G.isW (.agg #[.int .i64 (rdV s.1 ib).1, .int .u64 ((rdV s.1 ib).2 : Int)]), PfW 2 (rdV s.1 ia) (rdV s.1 ib), G.isW (.int .i64 1), PfW 1 (rdV s.1 ia) (rdV s.1 ib), G.isW (.agg #[.int .i64 (appP op [rdV s.1 ia]).1, .int .u64 ((appP op [rdV s.1 ia]).2 : Int)])] (by kernel_rfl) (by repeat' (first | exact G.monoL_nil | exact G.is_mono _ | exact G.any_mono | exact pfw_mono _ _ _ | refine G.monoL_cons ?_ ?_)) (by kernel_rfl) (by kernel_rfl) ⟨hJ.later (Below.refl _ _).drew, hi.later (Below.refl _ _).drew⟩ trivial ?_ ?_
        ·
          refine G.stepsL_cons (fun a u hc hdd hd hk hdep => ?_) ?_
          ·
            have d5 : (a.tmps[5]?).getD undef = (.map (some rR)) := hk 5 (by kernel_rfl)
            refine G.step_val KC KD hc hdd rfl (.map (some rR)) u (G.wanted_plain rfl) ?_ rfl (Below.refl _ _)
            first | (go_simp; done) | rfl | (simp [go_sem, *]; done)
          refine G.stepsL_cons (fun a u hc hdd hd hk hdep => ?_) ?_
          ·
            have d10 : (a.tmps[10]?).getD undef = (.pointer (some ⟨wr.heap.size, 0, none⟩)) := hk 10 (by kernel_rfl)
            refine G.step_val KC KD hc hdd rfl (.pointer (some ⟨wr.heap.size, 1, none⟩)) u (G.wanted_plain rfl) ?_ rfl (Below.refl _ _)
            first | (go_simp; done) | rfl | (simp [go_sem, *]; done)
          refine G.stepsL_cons (fun a u hc hdd hd hk hdep => ?_) ?_
          ·
            have d95 : (a.tmps[95]?).getD undef = (.pointer (some ⟨wr.heap.size, 1, none⟩)) := hdep ⟨1, .data⟩ (by simp) rfl
            refine G.step_val KC KD hc hdd rfl (.int .i64 d) u (G.wanted_plain rfl) ?_ rfl (Below.refl _ _)
            obtain ⟨s0, s1, s2, s3, s4⟩ := hc.1.code
            dsimp only at s2 s3 s4
            obtain ⟨i0, i1, i2, i3⟩ := hc.2
            dsimp only at i0 i1 i2 i3
            first | (go_simp; done) | rfl | (simp [go_sem, *]; done)
          refine G.stepsL_cons (fun a u hc hdd hd hk hdep => ?_) ?_
          ·
            have d7 : (a.tmps[7]?).getD undef = (.int .i64 nrI) := hk 7 (by kernel_rfl)
            refine G.step_val KC KD hc hdd rfl (.int .i64 nrI) u (G.wanted_plain rfl) ?_ rfl (Below.refl _ _)
            first | (go_simp; done) | rfl | (simp [go_sem, *]; done)
          refine G.stepsL_cons (fun a u hc hdd hd hk hdep => ?_) ?_
          ·
            have d10 : (a.tmps[10]?).getD undef = (.pointer (some ⟨wr.heap.size, 0, none⟩)) := hk 10 (by kernel_rfl)
            refine G.step_val KC KD hc hdd rfl (.pointer (some ⟨wr.heap.size, 0, none⟩)) u (G.wanted_plain rfl) ?_ rfl (Below.refl _ _)
            first | (go_simp; done) | rfl | (simp [go_sem, *]; done)
          refine G.stepsL_cons (fun a u hc hdd hd hk hdep => ?_) ?_
          ·
            have d98 : (a.tmps[98]?).getD undef = (.pointer (some ⟨wr.heap.size, 0, none⟩)) := hdep ⟨4, .data⟩ (by simp) rfl
            refine G.step_val KC KD hc hdd rfl (.int .i64 op) u (G.wanted_plain rfl) ?_ rfl (Below.refl _ _)
            obtain ⟨s0, s1, s2, s3, s4⟩ := hc.1.code
            dsimp only at s2 s3 s4
            obtain ⟨i0, i1, i2, i3⟩ := hc.2
            dsimp only at i0 i1 i2 i3
            first | (go_simp; done) | rfl | (simp [go_sem, *]; done)
          refine G.stepsL_cons (fun a u hc hdd hd hk hdep => ?_) ?_
          ·
            have d5 : (a.tmps[5]?).getD undef = (.map (some rR)) := hk 5 (by kernel_rfl)
            refine G.step_val KC KD hc hdd rfl (.map (some rR)) u (G.wanted_plain rfl) ?_ rfl (Below.refl _ _)
            first | (go_simp; done) | rfl | (simp [go_sem, *]; done)
          refine G.stepsL_cons (fun a u hc hdd hd hk hdep => ?_) ?_
          ·
            have d10 : (a.tmps[10]?).getD undef = (.pointer (some ⟨wr.heap.size, 0, none⟩)) := hk 10 (by kernel_rfl)
            refine G.step_val KC KD hc hdd rfl (.pointer (some ⟨wr.heap.size, 2, none⟩)) u (G.wanted_plain rfl) ?_ rfl (Below.refl _ _)
            first | (go_simp; done) | rfl | (simp [go_sem, *]; done)
          refine G.stepsL_cons (fun a u hc hdd hd hk hdep => ?_) ?_
          ·
            have d101 : (a.tmps[101]?).getD undef = (.pointer (some ⟨wr.heap.size, 2, none⟩)) := hdep ⟨7, .data⟩ (by simp) rfl
            refine G.step_val KC KD hc hdd rfl (.int .i64 ia) u (G.wanted_plain rfl) ?_ rfl (Below.refl _ _)
            obtain ⟨s0, s1, s2, s3, s4⟩ := hc.1.code
            dsimp only at s2 s3 s4
            obtain ⟨i0, i1, i2, i3⟩ := hc.2
            dsimp only at i0 i1 i2 i3
            first | (go_simp; done) | rfl | (simp [go_sem, *]; done)
          refine G.stepsL_cons (fun a u hc hdd hd hk hdep => ?_) ?_
          ·
            have d100 : (a.tmps[100]?).getD undef = (.map (some rR)) := hdep ⟨6, .data⟩ (by simp) rfl
            have d102 : (a.tmps[102]?).getD undef = (.int .i64 ia) := hdep ⟨8, .data⟩ (by simp) rfl
            have hlk := hc.1.lookR ia
            refine G.step_val KC KD hc hdd rfl (.agg #[.int .i64 (rdV s.1 ia).1, .int .u64 ((rdV s.1 ia).2 : Int)]) u (G.wanted_plain rfl) ?_ rfl (Below.refl _ _)
            first | (go_simp; done) | rfl | (simp [go_sem, *]; done)
          refine G.stepsL_cons (fun a u hc hdd hd hk hdep => ?_) ?_
          ·
            have d5 : (a.tmps[5]?).getD undef = (.map (some rR)) := hk 5 (by kernel_rfl)
            refine G.step_val KC KD hc hdd rfl (.map (some rR)) u (G.wanted_plain rfl) ?_ rfl (Below.refl _ _)
            first | (go_simp; done) | rfl | (simp [go_sem, *]; done)
          refine G.stepsL_cons (fun a u hc hdd hd hk hdep => ?_) ?_
          ·
            have d10 : (a.tmps[10]?).getD undef = (.pointer (some ⟨wr.heap.size, 0, none⟩)) := hk 10 (by kernel_rfl)
            refine G.step_val KC KD hc hdd rfl (.pointer (some ⟨wr.heap.size, 3, none⟩)) u (G.wanted_plain rfl) ?_ rfl (Below.refl _ _)
            first | (go_simp; done) | rfl | (simp [go_sem, *]; done)
          refine G.stepsL_cons (fun a u hc hdd hd hk hdep => ?_) ?_
          ·
            have d105 : (a.tmps[105]?).getD undef = (.pointer (some ⟨wr.heap.size, 3, none⟩)) := hdep ⟨11, .data⟩ (by simp) rfl
            refine G.step_val KC KD hc hdd rfl (.int .i64 ib) u (G.wanted_plain rfl) ?_ rfl (Below.refl _ _)
            obtain ⟨s0, s1, s2, s3, s4⟩ := hc.1.code
            dsimp only at s2 s3 s4
            obtain ⟨i0, i1, i2, i3⟩ := hc.2
            dsimp only at i0 i1 i2 i3
            first | (go_simp; done) | rfl | (simp [go_sem, *]; done)
          refine G.stepsL_cons (fun a u hc hdd hd hk hdep => ?_) ?_
          ·
            have d104 : (a.tmps[104]?).getD undef = (.map (some rR)) := hdep ⟨10, .data⟩ (by simp) rfl
            have d106 : (a.tmps[106]?).getD undef = (.int .i64 ib) := hdep ⟨12, .data⟩ (by simp) rfl
            have hlk := hc.1.lookR ib
            refine G.step_val KC KD hc hdd rfl (.agg #[.int .i64 (rdV s.1 ib).1, .int .u64 ((rdV s.1 ib).2 : Int)]) u (G.wanted_plain rfl) ?_ rfl (Below.refl _ _)
            first | (go_simp; done) | rfl | (simp [go_sem, *]; done)
          refine G.stepsL_cons (fun a u hc hdd hd hk hdep => ?_) ?_
          ·
            have d103 : (a.tmps[103]?).getD undef = (.agg #[.int .i64 (rdV s.1 ia).1, .int .u64 ((rdV s.1 ia).2 : Int)]) := hdep ⟨9, .data⟩ (by simp) rfl
            have d107 : (a.tmps[107]?).getD undef = (.agg #[.int .i64 (rdV s.1 ib).1, .int .u64 ((rdV s.1 ib).2 : Int)]) := hdep ⟨13, .data⟩ (by simp) rfl
            refine G.step_val KC KD hc hdd rfl (.slice (some ⟨u.heap.size, 0, none⟩) 2 2) (u.alloc (.cells #[.int .i64 (rdV s.1 ia).1, .int .u64 ((rdV s.1 ia).2 : Int), .int .i64 (rdV s.1 ib).1, .int .u64 ((rdV s.1 ib).2 : Int)] 33)) (G.wanted_plain rfl) ?_ ⟨u.heap.size, rfl, row_take (row_two (k1 := (rdV s.1 ia).1) (k2 := (rdV s.1 ib).1) (b1 := (rdV s.1 ia).2) (b2 := (rdV s.1 ib).2) (hrd.out ia).2 (hrd.out ib).2 (by simp [go_sem]) (by simp [go_sem]) (by simp [go_sem]) (by simp [go_sem])) 2 (Nat.le_refl _)⟩ (m1 _ _)
            first | (go_simp; done) | rfl | (simp [go_sem, *]; done)
          refine G.stepsL_cons (fun a u hc hdd hd hk hdep => ?_) ?_
          ·
            have d11 : (a.tmps[11]?).getD undef = (.int .i64 1) := hk 11 (by kernel_rfl)
            refine G.step_val KC KD hc hdd rfl (.int .i64 1) u (G.wanted_plain rfl) ?_ rfl (Below.refl _ _)
            first | (go_simp; done) | rfl | (simp [go_sem, *]; done)
          refine G.stepsL_cons (fun a u hc hdd hd hk hdep => ?_) ?_
          ·
            have d108' : (PfW 2 (rdV s.1 ia) (rdV s.1 ib)) ((a.tmps[108]?).getD undef) u := hdep ⟨14, .data⟩ (by simp) rfl
            obtain ⟨g4, d108, h4⟩ := d108'
            have d109 : (a.tmps[109]?).getD undef = (.int .i64 1) := hdep ⟨15, .data⟩ (by simp) rfl
            refine G.step_val KC KD hc hdd rfl (.slice (some ⟨g4, 0, none⟩) 1 2) u (G.wanted_plain rfl) ?_ ⟨g4, rfl, row_take (show RowV u (some ⟨g4, 0, none⟩) 2 [rdV s.1 ia, rdV s.1 ib] from h4) 1 (by decide)⟩ (Below.refl _ _)
            first | (go_simp; done) | rfl | (simp [go_sem, *]; done)
          refine G.stepsL_cons (fun a u hc hdd hd hk hdep => ?_) ?_
          ·
            have d99 : (a.tmps[99]?).getD undef = (.int .i64 op) := hdep ⟨5, .data⟩ (by simp) rfl
            have d110' : (PfW 1 (rdV s.1 ia) (rdV s.1 ib)) ((a.tmps[110]?).getD undef) u := hdep ⟨16, .data⟩ (by simp) rfl
            obtain ⟨g6, d110, h6⟩ := d110'
            refine G.step_call KC KD hc hdd rfl 20 #[.int .i64 op, .slice (some ⟨g6, 0, none⟩) 1 2] (G.wanted_plain rfl) (by first | (go_simp; done) | rfl) ?_
            exact (rapply_any op (some ⟨g6, 0, none⟩) 1 2 [rdV s.1 ia] u (show RowV u (some ⟨g6, 0, none⟩) 1 [rdV s.1 ia] from h6) (by decide)).mono (by rintro e w' ⟨rfl, hb⟩; exact ⟨_, rfl, rfl, hb⟩)
          exact G.stepsL_nil
        intro vs' wN hNN _ hh
        have eL : vs' 17 = (.agg #[.int .i64 (appP op [rdV s.1 ia]).1, .int .u64 ((appP op [rdV s.1 ia]).2 : Int)]) := by
          obtain ⟨-, -, -, -, -, -, -, -, -, -, -, -, -, -, -, -, -, eX, -⟩ := hh
          exact eX
        have eM : vs' 0 = (.map (some rR)) := by
          obtain ⟨eX, -⟩ := hh
          exact eX
        have eI : vs' 2 = (.int .i64 d) := by
          obtain ⟨-, -, eX, -⟩ := hh
          exact eX
        have eN : vs' 3 = (.int .i64 nrI) := by
          obtain ⟨-, -, -, eX, -⟩ := hh
          exact eX
        clear hh hJ hi
        obtain ⟨hJ, -⟩ := hNN
        set_option maxRecDepth 100000 in simp only [List.take_succ_cons, List.take_zero, putAll, Act.put, List.setIfInBounds_toArray, List.set_cons_zero, List.set_cons_succ, Nat.reduceAdd, eL, eM, eI, eN]
        clear eL eM eI eN
        obtain ⟨f, hf, hr⟩ := hJ.mR
        have PP := Lib.hid (put_any rR f d nrI (appP op [rdV s.1 ia]) wN hf)
        have hr2 := Lib.hid (hr.put d nrI (appP op [rdV s.1 ia]) (by rw [hl1.out, hnr.out]))
        generalize (appP op [rdV s.1 ia]) = y at *
        refine wpAny_ready (rs := [18]) (by kernel_rfl) (by simp) ?_
        refine AllReady.cons rfl (fun K hK => ?_) AllReady.nil
        go_simp
        refine PP.out.mono ?_; rintro e w3 ⟨rfl, hM, hG⟩
        have hJ2 := hJ.stepR hM hr2.out hG hrb.out hne.out
        refine hK _ _ ?_
        clear hK K PP hf hr hM hG hJ
        refine wpAny_done (by kernel_rfl) ?_ _
        go_wp2
        go_roundw
        case rel => exact ⟨k + 1, _, by have := k3.out; omega, by go_num, hrun.out, by first | exact hst.out.1 | simpa using hst.out.1, by first | exact hst.out.2 | simpa using hst.out.2, by first | exact hok.out | simpa using hok.out, hJ2⟩
        case measure => have := k3.out; simp [intOf]; omega
      · have hstep := Lib.hid (show stepP inputs c.cs s (op, d, ia, ib) = (wrV s.1 d (appP op [rdV s.1 ia, rdV s.1 ib]), s.2) by unfold stepP; dsimp only; rw [if_neg (by omega), if_pos h9])
        rw [show stepP inputs c.cs s (op, d, ia, ib) = (wrV s.1 d (appP op [rdV s.1 ia, rdV s.1 ib]), s.2) from hstep.out] at hrun hst hok
        replace hrun := Lib.hid hrun
        replace hst := Lib.hid hst
        replace hok := Lib.hid hok
        clear hstep
        rw [h9] at O
        clear h50 h51 h52 h53 h54 h9 hn9
        go_upto_region 6 with (fail)
        generalize wr.alloc (.cells #[.int .i64 op, .int .i64 d, .int .i64 ia, .int .i64 ib] 39) = u1 at *
        clear q0 q1 q2 q3
        obtain ⟨i0, i1, i2, i3⟩ := id hi
        dsimp only at i0 i1 i2 i3
        go_wp2_with fail
        refine (O.out _).mono ?_; rintro e w2 ⟨rfl, hb1⟩
        replace hJ := hJ.later hb1
        replace hi := hi.later hb1
        replace i0 := cell_later hb1 i0
        replace i1 := cell_later hb1 i1
        replace i2 := cell_later hb1 i2
        replace i3 := cell_later hb1 i3
        clear hb1 O
        go_upto_region 18 with (fail)
        clear i0 i1 i2 i3
        have KD := G.keepsD_true []
        have KC : G.KeepsC (fun w' => RJ w c ⟨xA, xC, cA, cC, some ⟨bb, off, none⟩, lC⟩ rR rS s w' ∧ InsAt w' wr.heap.size (op, d, ia, ib)) := fun _ _ h hb => ⟨h.1.later hb, h.2.later hb⟩
        refine G.region_wordsG 18 (fun w' => RJ w c ⟨xA, xC, cA, cC, some ⟨bb, off, none⟩, lC⟩ rR rS s w' ∧ InsAt w' wr.heap.size (op, d, ia, ib)) (fun _ _ => True) [G.isW (.map (some rR)), G.isW (.pointer (some ⟨wr.heap.size, 1, none⟩)), G.isW (.int .i64 d), G.isW (.int .i64 nrI), G.isW (.pointer (some ⟨wr.heap.size, 0, none⟩)), G.isW (.int .i64 op), G.isW (.map (some rR)), G.isW (.pointer (some ⟨wr.heap.size, 2, none⟩)), G.isW (.int .i64 ia), G.isW (.agg #[.int .i64 (rdV s.1 ia).1, .int .u64 ((rdV s.1 ia).2 : Int)]), G.isW (.map (some rR)), G.isW (.pointer (some ⟨wr.heap.size, 3, none⟩)), G.isW (.int .i64 ib), G.isW (.agg #[.int .i64 (rdV s.1 ib).1, .int .u64 ((rdV s.1 ib).2 : Int)]), PfW 2 (rdV s.1 ia) (rdV s.1 ib), G.isW (.int .i64 2), PfW 2 (rdV s.1 ia) (rdV s.1 ib), G.isW (.agg #[.int .i64 (appP op [rdV s.1 ia, rdV s.1 ib]).1, .int .u64 ((appP op [rdV s.1 ia, rdV s.1 ib]).2 : Int)])] (by kernel_rfl) (by repeat' (first | exact G.monoL_nil | exact G.is_mono _ | exact G.any_mono | exact pfw_mono _ _ _ | refine G.monoL_cons ?_ ?_)) (by kernel_rfl) (by kernel_rfl) ⟨hJ.later (Below.refl _ _).drew, hi.later (Below.refl _ _).drew⟩ trivial ?_ ?_
        ·
          refine G.stepsL_cons (fun a u hc hdd hd hk hdep => ?_) ?_
          ·
            have d5 : (a.tmps[5]?).getD undef = (.map (some rR)) := hk 5 (by kernel_rfl)
            refine G.step_val KC KD hc hdd rfl (.map (some rR)) u (G.wanted_plain rfl) ?_ rfl (Below.refl _ _)
            first | (go_simp; done) | rfl | (simp [go_sem, *]; done)
          refine G.stepsL_cons (fun a u hc hdd hd hk hdep => ?_) ?_
          ·
            have d10 : (a.tmps[10]?).getD undef = (.pointer (some ⟨wr.heap.size, 0, none⟩)) := hk 10 (by kernel_rfl)
            refine G.step_val KC KD hc hdd rfl (.pointer (some ⟨wr.heap.size, 1, none⟩)) u (G.wanted_plain rfl) ?_ rfl (Below.refl _ _)
            first | (go_simp; done) | rfl | (simp [go_sem, *]; done)
          refine G.stepsL_cons (fun a u hc hdd hd hk hdep => ?_) ?_
          ·
            have d95 : (a.tmps[95]?).getD undef = (.pointer (some ⟨wr.heap.size, 1, none⟩)) := hdep ⟨1, .data⟩ (by simp) rfl
            refine G.step_val KC KD hc hdd rfl (.int .i64 d) u (G.wanted_plain rfl) ?_ rfl (Below.refl _ _)
            obtain ⟨s0, s1, s2, s3, s4⟩ := hc.1.code
            dsimp only at s2 s3 s4
            obtain ⟨i0, i1, i2, i3⟩ := hc.2
            dsimp only at i0 i1 i2 i3
            first | (go_simp; done) | rfl | (simp [go_sem, *]; done)
          refine G.stepsL_cons (fun a u hc hdd hd hk hdep => ?_) ?_
          ·
            have d7 : (a.tmps[7]?).getD undef = (.int .i64 nrI) := hk 7 (by kernel_rfl)
            refine G.step_val KC KD hc hdd rfl (.int .i64 nrI) u (G.wanted_plain rfl) ?_ rfl (Below.refl _ _)
            first | (go_simp; done) | rfl | (simp [go_sem, *]; done)
          refine G.stepsL_cons (fun a u hc hdd hd hk hdep => ?_) ?_
          ·
            have d10 : (a.tmps[10]?).getD undef = (.pointer (some ⟨wr.heap.size, 0, none⟩)) := hk 10 (by kernel_rfl)
            refine G.step_val KC KD hc hdd rfl (.pointer (some ⟨wr.heap.size, 0, none⟩)) u (G.wanted_plain rfl) ?_ rfl (Below.refl _ _)
            first | (go_simp; done) | rfl | (simp [go_sem, *]; done)
          refine G.stepsL_cons (fun a u hc hdd hd hk hdep => ?_) ?_
          ·
            have d98 : (a.tmps[98]?).getD undef = (.pointer (some ⟨wr.heap.size, 0, none⟩)) := hdep ⟨4, .data⟩ (by simp) rfl
            refine G.step_val KC KD hc hdd rfl (.int .i64 op) u (G.wanted_plain rfl) ?_ rfl (Below.refl _ _)
            obtain ⟨s0, s1, s2, s3, s4⟩ := hc.1.code
            dsimp only at s2 s3 s4
            obtain ⟨i0, i1, i2, i3⟩ := hc.2
            dsimp only at i0 i1 i2 i3
            first | (go_simp; done) | rfl | (simp [go_sem, *]; done)
          refine G.stepsL_cons (fun a u hc hdd hd hk hdep => ?_) ?_
          ·
            have d5 : (a.tmps[5]?).getD undef = (.map (some rR)) := hk 5 (by kernel_rfl)
            refine G.step_val KC KD hc hdd rfl (.map (some rR)) u (G.wanted_plain rfl) ?_ rfl (Below.refl _ _)
            first | (go_simp; done) | rfl | (simp [go_sem, *]; done)
          refine G.stepsL_cons (fun a u hc hdd hd hk hdep => ?_) ?_
          ·
            have d10 : (a.tmps[10]?).getD undef = (.pointer (some ⟨wr.heap.size, 0, none⟩)) := hk 10 (by kernel_rfl)
            refine G.step_val KC KD hc hdd rfl (.pointer (some ⟨wr.heap.size, 2, none⟩)) u (G.wanted_plain rfl) ?_ rfl (Below.refl _ _)
            first | (go_simp; done) | rfl | (simp [go_sem, *]; done)
          refine G.stepsL_cons (fun a u hc hdd hd hk hdep => ?_) ?_
          ·
            have d101 : (a.tmps[101]?).getD undef = (.pointer (some ⟨wr.heap.size, 2, none⟩)) := hdep ⟨7, .data⟩ (by simp) rfl
            refine G.step_val KC KD hc hdd rfl (.int .i64 ia) u (G.wanted_plain rfl) ?_ rfl (Below.refl _ _)
            obtain ⟨s0, s1, s2, s3, s4⟩ := hc.1.code
            dsimp only at s2 s3 s4
            obtain ⟨i0, i1, i2, i3⟩ := hc.2
            dsimp only at i0 i1 i2 i3
            first | (go_simp; done) | rfl | (simp [go_sem, *]; done)
          refine G.stepsL_cons (fun a u hc hdd hd hk hdep => ?_) ?_
          ·
            have d100 : (a.tmps[100]?).getD undef = (.map (some rR)) := hdep ⟨6, .data⟩ (by simp) rfl
            have d102 : (a.tmps[102]?).getD undef = (.int .i64 ia) := hdep ⟨8, .data⟩ (by simp) rfl
            have hlk := hc.1.lookR ia
            refine G.step_val KC KD hc hdd rfl (.agg #[.int .i64 (rdV s.1 ia).1, .int .u64 ((rdV s.1 ia).2 : Int)]) u (G.wanted_plain rfl) ?_ rfl (Below.refl _ _)
            first | (go_simp; done) | rfl | (simp [go_sem, *]; done)
          refine G.stepsL_cons (fun a u hc hdd hd hk hdep => ?_) ?_
          ·
            have d5 : (a.tmps[5]?).getD undef = (.map (some rR)) := hk 5 (by kernel_rfl)
            refine G.step_val KC KD hc hdd rfl (.map (some rR)) u (G.wanted_plain rfl) ?_ rfl (Below.refl _ _)
            first | (go_simp; done) | rfl | (simp [go_sem, *]; done)
          refine G.stepsL_cons (fun a u hc hdd hd hk hdep => ?_) ?_
          ·
            have d10 : (a.tmps[10]?).getD undef = (.pointer (some ⟨wr.heap.size, 0, none⟩)) := hk 10 (by kernel_rfl)
            refine G.step_val KC KD hc hdd rfl (.pointer (some ⟨wr.heap.size, 3, none⟩)) u (G.wanted_plain rfl) ?_ rfl (Below.refl _ _)
            first | (go_simp; done) | rfl | (simp [go_sem, *]; done)
          refine G.stepsL_cons (fun a u hc hdd hd hk hdep => ?_) ?_
          ·
            have d105 : (a.tmps[105]?).getD undef = (.pointer (some ⟨wr.heap.size, 3, none⟩)) := hdep ⟨11, .data⟩ (by simp) rfl
            refine G.step_val KC KD hc hdd rfl (.int .i64 ib) u (G.wanted_plain rfl) ?_ rfl (Below.refl _ _)
            obtain ⟨s0, s1, s2, s3, s4⟩ := hc.1.code
            dsimp only at s2 s3 s4
            obtain ⟨i0, i1, i2, i3⟩ := hc.2
            dsimp only at i0 i1 i2 i3
            first | (go_simp; done) | rfl | (simp [go_sem, *]; done)
          refine G.stepsL_cons (fun a u hc hdd hd hk hdep => ?_) ?_
          ·
            have d104 : (a.tmps[104]?).getD undef = (.map (some rR)) := hdep ⟨10, .data⟩ (by simp) rfl
            have d106 : (a.tmps[106]?).getD undef = (.int .i64 ib) := hdep ⟨12, .data⟩ (by simp) rfl
            have hlk := hc.1.lookR ib
            refine G.step_val KC KD hc hdd rfl (.agg #[.int .i64 (rdV s.1 ib).1, .int .u64 ((rdV s.1 ib).2 : Int)]) u (G.wanted_plain rfl) ?_ rfl (Below.refl _ _)
            first | (go_simp; done) | rfl | (simp [go_sem, *]; done)
          refine G.stepsL_cons (fun a u hc hdd hd hk hdep => ?_) ?_
          ·
            have d103 : (a.tmps[103]?).getD undef = (.agg #[.int .i64 (rdV s.1 ia).1, .int .u64 ((rdV s.1 ia).2 : Int)]) := hdep ⟨9, .data⟩ (by simp) rfl
            have d107 : (a.tmps[107]?).getD undef = (.agg #[.int .i64 (rdV s.1 ib).1, .int .u64 ((rdV s.1 ib).2 : Int)]) := hdep ⟨13, .data⟩ (by simp) rfl
            refine G.step_val KC KD hc hdd rfl (.slice (some ⟨u.heap.size, 0, none⟩) 2 2) (u.alloc (.cells #[.int .i64 (rdV s.1 ia).1, .int .u64 ((rdV s.1 ia).2 : Int), .int .i64 (rdV s.1 ib).1, .int .u64 ((rdV s.1 ib).2 : Int)] 33)) (G.wanted_plain rfl) ?_ ⟨u.heap.size, rfl, row_take (row_two (k1 := (rdV s.1 ia).1) (k2 := (rdV s.1 ib).1) (b1 := (rdV s.1 ia).2) (b2 := (rdV s.1 ib).2) (hrd.out ia).2 (hrd.out ib).2 (by simp [go_sem]) (by simp [go_sem]) (by simp [go_sem]) (by simp [go_sem])) 2 (Nat.le_refl _)⟩ (m1 _ _)
            first | (go_simp; done) | rfl | (simp [go_sem, *]; done)
          refine G.stepsL_cons (fun a u hc hdd hd hk hdep => ?_) ?_
          ·
            have d11 : (a.tmps[11]?).getD undef = (.int .i64 2) := hk 11 (by kernel_rfl)
            refine G.step_val KC KD hc hdd rfl (.int .i64 2) u (G.wanted_plain rfl) ?_ rfl (Below.refl _ _)
            first | (go_simp; done) | rfl | (simp [go_sem, *]; done)
          refine G.stepsL_cons (fun a u hc hdd hd hk hdep => ?_) ?_
          ·
            have d108' : (PfW 2 (rdV s.1 ia) (rdV s.1 ib)) ((a.tmps[108]?).getD undef) u := hdep ⟨14, .data⟩ (by simp) rfl
            obtain ⟨g4, d108, h4⟩ := d108'
            have d109 : (a.tmps[109]?).getD undef = (.int .i64 2) := hdep ⟨15, .data⟩ (by simp) rfl
            refine G.step_val KC KD hc hdd rfl (.slice (some ⟨g4, 0, none⟩) 2 2) u (G.wanted_plain rfl) ?_ ⟨g4, rfl, row_take (show RowV u (some ⟨g4, 0, none⟩) 2 [rdV s.1 ia, rdV s.1 ib] from h4) 2 (by decide)⟩ (Below.refl _ _)
            first | (go_simp; done) | rfl | (simp [go_sem, *]; done)
          refine G.stepsL_cons (fun a u hc hdd hd hk hdep => ?_) ?_
          ·
            have d99 : (a.tmps[99]?).getD undef = (.int .i64 op) := hdep ⟨5, .data⟩ (by simp) rfl
            have d110' : (PfW 2 (rdV s.1 ia) (rdV s.1 ib)) ((a.tmps[110]?).getD undef) u := hdep ⟨16, .data⟩ (by simp) rfl
            obtain ⟨g6, d110, h6⟩ := d110'
            refine G.step_call KC KD hc hdd rfl 20 #[.int .i64 op, .slice (some ⟨g6, 0, none⟩) 2 2] (G.wanted_plain rfl) (by first | (go_simp; done) | rfl) ?_
            exact (rapply_any op (some ⟨g6, 0, none⟩) 2 2 [rdV s.1 ia, rdV s.1 ib] u (show RowV u (some ⟨g6, 0, none⟩) 2 [rdV s.1 ia, rdV s.1 ib] from h6) (by decide)).mono (by rintro e w' ⟨rfl, hb⟩; exact ⟨_, rfl, rfl, hb⟩)
          exact G.stepsL_nil
        intro vs' wN hNN _ hh
        have eL : vs' 17 = (.agg #[.int .i64 (appP op [rdV s.1 ia, rdV s.1 ib]).1, .int .u64 ((appP op [rdV s.1 ia, rdV s.1 ib]).2 : Int)]) := by
          obtain ⟨-, -, -, -, -, -, -, -, -, -, -, -, -, -, -, -, -, eX, -⟩ := hh
          exact eX
        have eM : vs' 0 = (.map (some rR)) := by
          obtain ⟨eX, -⟩ := hh
          exact eX
        have eI : vs' 2 = (.int .i64 d) := by
          obtain ⟨-, -, eX, -⟩ := hh
          exact eX
        have eN : vs' 3 = (.int .i64 nrI) := by
          obtain ⟨-, -, -, eX, -⟩ := hh
          exact eX
        clear hh hJ hi
        obtain ⟨hJ, -⟩ := hNN
        set_option maxRecDepth 100000 in simp only [List.take_succ_cons, List.take_zero, putAll, Act.put, List.setIfInBounds_toArray, List.set_cons_zero, List.set_cons_succ, Nat.reduceAdd, eL, eM, eI, eN]
        clear eL eM eI eN
        obtain ⟨f, hf, hr⟩ := hJ.mR
        have PP := Lib.hid (put_any rR f d nrI (appP op [rdV s.1 ia, rdV s.1 ib]) wN hf)
        have hr2 := Lib.hid (hr.put d nrI (appP op [rdV s.1 ia, rdV s.1 ib]) (by rw [hl1.out, hnr.out]))
        generalize (appP op [rdV s.1 ia, rdV s.1 ib]) = y at *
        refine wpAny_ready (rs := [18]) (by kernel_rfl) (by simp) ?_
        refine AllReady.cons rfl (fun K hK => ?_) AllReady.nil
        go_simp
        refine PP.out.mono ?_; rintro e w3 ⟨rfl, hM, hG⟩
        have hJ2 := hJ.stepR hM hr2.out hG hrb.out hne.out
        refine hK _ _ ?_
        clear hK K PP hf hr hM hG hJ
        refine wpAny_done (by kernel_rfl) ?_ _
        go_wp2
        go_roundw
        case rel => exact ⟨k + 1, _, by have := k3.out; omega, by go_num, hrun.out, by first | exact hst.out.1 | simpa using hst.out.1, by first | exact hst.out.2 | simpa using hst.out.2, by first | exact hok.out | simpa using hok.out, hJ2⟩
        case measure => have := k3.out; simp [intOf]; omega
      · have hstep := Lib.hid (show stepP inputs c.cs s (op, d, ia, ib) = s by unfold stepP; dsimp only; rw [if_neg (by omega), if_neg (by omega), if_neg h50, if_neg h51, if_neg h53, if_neg h54])
        rw [show stepP inputs c.cs s (op, d, ia, ib) = s from hstep.out] at hrun hst hok
        replace hrun := Lib.hid hrun
        replace hst := Lib.hid hst
        replace hok := Lib.hid hok
        clear hstep
        rw [h9] at O
        replace O := Lib.hid (show ∀ w, Calls Try.prog 17 #[.int .i64 op] w (fun e w' => e = .returned (.int .i64 0) ∧ Below w.heap.size w w') from O.out)
        clear h50 h51 h52 h53 h54 h9 hn9
        go_upto_region 6 with (fail)
        generalize wr.alloc (.cells #[.int .i64 op, .int .i64 d, .int .i64 ia, .int .i64 ib] 39) = u1 at *
        clear q0 q1 q2 q3
        obtain ⟨i0, i1, i2, i3⟩ := id hi
        dsimp only at i0 i1 i2 i3
        go_wp2_with fail
        refine (O.out _).mono ?_; rintro e w2 ⟨rfl, hb1⟩
        replace hJ := hJ.later hb1
        replace hi := hi.later hb1
        replace i0 := cell_later hb1 i0
        replace i1 := cell_later hb1 i1
        replace i2 := cell_later hb1 i2
        replace i3 := cell_later hb1 i3
        clear hb1 O
        have hJ2 := hJ
        clear hJ
        go_wp2
        go_roundw
        case rel => exact ⟨k + 1, _, by have := k3.out; omega, by go_num, hrun.out, by first | exact hst.out.1 | simpa using hst.out.1, by first | exact hst.out.2 | simpa using hst.out.2, by first | exact hok.out | simpa using hok.out, hJ2⟩
        case measure => have := k3.out; simp [intOf]; omega
    · obtain rfl : k = c.list.length := by omega
      rw [List.drop_length] at hrun
      replace hrun := Lib.hid (hE.out.trans hrun)
      have r0 : wr.cell? ⟨w.heap.size + 1, 0, none⟩ = some (.int .i64 0) := hJr.res.cell 0
      have r1 : wr.cell? ⟨w.heap.size + 1, 1, none⟩ = some (.int .u64 0) := hJr.res.cell 1
      have f0 := hJr.res.free 0
      have f1 := hJr.res.free 1
      obtain ⟨_, p1, p2⟩ := put2 (.int .i64 0) (.int .u64 0) r0 r1
      have hB := (hJr.bel.setCell (p := ⟨w.heap.size + 1, 0, none⟩) (by simp) (.int .i64 0)).setCell (p := ⟨w.heap.size + 1, 1, none⟩) (by simp) (.int .u64 0)
      clear hJr
      go_wp2
      exact bodyPost_ret (v := .agg #[.int .i64 0, .int .u64 0]) (by simp [results, Try.results9, go_sem, p1, p2]) rfl ⟨by rw [hrun.out]; rfl, hB⟩
end Go.Proofs.Ytagjfeblkpkgaaa
