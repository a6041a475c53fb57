/- One text of several (VmK, VmM, Wb, VmL, VmN). -/
import Derived.Test.YtagjfeblkpkgaaaVmD
import Derived.Test.YtagjfeblkpkgaaaMem
import Derived.Deep.Slices
import Derived.Deep.Fields
import Derived.Deep.SlicePairs
import Derived.ChangeSame
import Derived.SizedLaws
import Derived.OpenShut
import Derived.Lib.SmallJoins
namespace Go.Proofs.Ytagjfeblkpkgaaa
open Go.ChangeShapes Go.WideShapes Go.ChangeAt Go.RowKit Go.Fl
set_option linter.unusedVariables false
set_option linter.unusedSimpArgs false

def cellsI (l : List I4) : List Value := l.flatMap fun x => [.int .i64 x.1, .int .i64 x.2.1, .int .i64 x.2.2.1, .int .i64 x.2.2.2]
theorem cellsI_length (l : List I4) : (cellsI l).length = l.length * 4 := by
  induction l with
  | nil => rfl
  | cons x xs ih => simp [cellsI] at ih ⊢; omega
theorem cellsI_append (l m : List I4) : cellsI (l ++ m) = cellsI l ++ cellsI m := by simp [cellsI]
theorem cellsI_at (l : List I4) : ∀ (i : Nat) (x : I4), l[i]? = some x → (cellsI l)[i * 4]? = some (.int .i64 x.1) ∧ (cellsI l)[i * 4 + 1]? = some (.int .i64 x.2.1) ∧ (cellsI l)[i * 4 + 2]? = some (.int .i64 x.2.2.1) ∧ (cellsI l)[i * 4 + 3]? = some (.int .i64 x.2.2.2) := by
  induction l with
  | nil => intro i x h; simp at h
  | cons v vs ih =>
    intro i x h
    cases i with
    | zero => simp at h; subst h; exact ⟨rfl, rfl, rfl, rfl⟩
    | succ i =>
      have := ih i x (by simpa using h)
      rw [show (i + 1) * 4 = i * 4 + 4 by omega]
      exact this
theorem cellsI_get (l : List I4) : ∀ (j : Nat) (u : Value), (cellsI l)[j]? = some u → ∃ (i : Nat) (x : I4), l[i]? = some x ∧ ((j = i * 4 ∧ u = .int .i64 x.1) ∨ (j = i * 4 + 1 ∧ u = .int .i64 x.2.1) ∨ (j = i * 4 + 2 ∧ u = .int .i64 x.2.2.1) ∨ (j = i * 4 + 3 ∧ u = .int .i64 x.2.2.2)) := by
  induction l with
  | nil => intro j u h; simp [cellsI] at h
  | cons v vs ih =>
    intro j u h
    match j, h with
    | 0, h => simp [cellsI] at h; exact ⟨0, v, rfl, .inl ⟨rfl, h.symm⟩⟩
    | 1, h => simp [cellsI] at h; exact ⟨0, v, rfl, .inr (.inl ⟨rfl, h.symm⟩)⟩
    | 2, h => simp [cellsI] at h; exact ⟨0, v, rfl, .inr (.inr (.inl ⟨rfl, h.symm⟩))⟩
    | 3, h => simp [cellsI] at h; exact ⟨0, v, rfl, .inr (.inr (.inr ⟨rfl, h.symm⟩))⟩
    | j + 4, h =>
      obtain ⟨i, x, hx, hj⟩ := ih j u (by simpa [cellsI] using h)
      refine ⟨i + 1, x, by simpa using hx, ?_⟩
      rcases hj with ⟨rfl, hu⟩ | ⟨rfl, hu⟩ | ⟨rfl, hu⟩ | ⟨rfl, hu⟩
      · exact .inl ⟨by omega, hu⟩
      · exact .inr (.inl ⟨by omega, hu⟩)
      · exact .inr (.inr (.inl ⟨by omega, hu⟩))
      · exact .inr (.inr (.inr ⟨by omega, hu⟩))
theorem cellsV_get (l : List VN) : ∀ (j : Nat) (u : Value), (cellsV l)[j]? = some u → ∃ (i : Nat) (x : VN), l[i]? = some x ∧ ((j = i * 2 ∧ u = .int .i64 x.1) ∨ (j = i * 2 + 1 ∧ u = .int .u64 (x.2 : Int))) := by
  induction l with
  | nil => intro j u h; simp [cellsV] at h
  | cons v vs ih =>
    intro j u h
    match j, h with
    | 0, h => simp [cellsV] at h; exact ⟨0, v, rfl, .inl ⟨rfl, h.symm⟩⟩
    | 1, h => simp [cellsV] at h; exact ⟨0, v, rfl, .inr ⟨rfl, h.symm⟩⟩
    | j + 2, h =>
      obtain ⟨i, x, hx, hj⟩ := ih j u (by simpa [cellsV] using h)
      refine ⟨i + 1, x, by simpa using hx, ?_⟩
      rcases hj with ⟨rfl, hu⟩ | ⟨rfl, hu⟩
      · exact .inl ⟨by omega, hu⟩
      · exact .inr ⟨by omega, hu⟩
theorem addP (b off i : Nat) : (⟨b, off, none⟩ : Addr).add i = ⟨b, off + i, none⟩ := by unfold Addr.add; split <;> simp_all
theorem one_cells (l : List I4) : ∀ u ∈ cellsI l, u.oneCell' = true := by
  intro u hu
  simp only [cellsI, List.mem_flatMap] at hu
  obtain ⟨x, _, hu⟩ := hu
  simp at hu
  rcases hu with rfl | rfl | rfl | rfl <;> rfl
theorem one_cellsV (l : List VN) : ∀ u ∈ cellsV l, u.oneCell' = true := by
  intro u hu
  simp only [cellsV, List.mem_flatMap] at hu
  obtain ⟨x, _, hu⟩ := hu
  simp at hu
  rcases hu with rfl | rfl <;> rfl
theorem quad_reads {w : World} {A : Option Addr} {l : List I4} (h : QuadAt w A l) : Reads w w.heap.size 4 A l.length (cellsI l) := by
  refine ⟨cellsI_length l, fun hn => ?_⟩
  obtain ⟨b, off, rfl, hc⟩ := h hn
  have h0 := (hc 0 l[0] (List.getElem?_eq_getElem hn)).1
  refine ⟨_, rfl, mblock h0, fun j u hu => ?_⟩
  obtain ⟨i, x, hx, hj⟩ := cellsI_get l j u hu
  rw [addP]
  rcases hj with ⟨rfl, rfl⟩ | ⟨rfl, rfl⟩ | ⟨rfl, rfl⟩ | ⟨rfl, rfl⟩
  · exact (hc i x hx).1
  · rw [← Nat.add_assoc]; exact (hc i x hx).2.1
  · rw [← Nat.add_assoc]; exact (hc i x hx).2.2.1
  · rw [← Nat.add_assoc]; exact (hc i x hx).2.2.2
theorem row_reads {w : World} {A : Option Addr} {l : List VN} (h : RowV w A l.length l) : Reads w w.heap.size 2 A l.length (cellsV l) := by
  refine ⟨cellsV_length l, fun hn => ?_⟩
  obtain ⟨b, off, rfl, hc⟩ := h.2.2 hn
  have h0 := (hc 0 l[0].1 l[0].2 (List.getElem?_eq_getElem hn)).1
  refine ⟨_, rfl, mblock h0, fun j u hu => ?_⟩
  obtain ⟨i, x, hx, hj⟩ := cellsV_get l j u hu
  rw [addP]
  rcases hj with ⟨rfl, rfl⟩ | ⟨rfl, rfl⟩
  · exact (hc i x.1 x.2 hx).1
  · rw [← Nat.add_assoc]; exact (hc i x.1 x.2 hx).2
theorem own_quad {w : World} {base : Nat} {e : TypeId} {v : Value} {l : List I4} (h : w.ownsRow base e 4 v l.length (cellsI l)) : ∃ A cap, v = .slice A l.length cap ∧ QuadAt w A l := by
  by_cases z : l.length = 0
  · have hnil : l = [] := List.eq_nil_of_length_eq_zero z
    subst hnil
    rcases h.2 with ⟨rfl, _⟩ | ⟨g, cap, cur, rfl, _⟩
    · exact ⟨none, 0, rfl, QuadAt.nil _ _⟩
    · exact ⟨some ⟨g, 0, none⟩, cap, rfl, QuadAt.nil _ _⟩
  · obtain ⟨g, cap, rfl, _, _⟩ := h.form (by omega)
    have hc := h.cells (g := g) rfl
    refine ⟨_, cap, rfl, fun _ => ⟨g, 0, rfl, fun i x hi => ?_⟩⟩
    obtain ⟨h0, h1, h2, h3⟩ := cellsI_at l i x hi
    have e0 := hc _ _ h0
    have e1 := hc _ _ h1
    have e2 := hc _ _ h2
    have e3 := hc _ _ h3
    rw [addP] at e0 e1 e2 e3
    exact ⟨e0, by rw [Nat.add_assoc]; exact e1, by rw [Nat.add_assoc]; exact e2, by rw [Nat.add_assoc]; exact e3⟩
theorem infoIns : (Try.prog.info? 39).map (fun i => (i.zero, i.size, i.bytes)) = some (some (.agg #[.int .i64 0, .int .i64 0, .int .i64 0, .int .i64 0]), 4, 32) := by kernel_rfl
theorem infoInp : (Try.prog.info? 43).map (fun i => (i.zero, i.size, i.bytes)) = some (some (.agg #[.int .i64 0, .int .i64 0, .int .i64 0, .int .i64 0]), 4, 32) := by kernel_rfl
/-- the same code, in memory of its own -/
def TOut (c : CodeP) (w : World) (e : Ending) (w' : World) : Prop := ∃ v : CV, e = .returned (codeV c v) ∧ CodeIn w' c v ∧ (w'.ownsRow w.heap.size 43 4 (.slice v.xA c.ins.length v.xC) c.ins.length (cellsI c.ins) ∧ w'.ownsRow w.heap.size 31 2 (.slice v.cA c.cs.length v.cC) c.cs.length (cellsV c.cs) ∧ w'.ownsRow w.heap.size 39 4 (.slice v.lA c.list.length v.lC) c.list.length (cellsI c.list)) ∧ Below w.heap.size w w'
theorem own_off {w : World} {base : Nat} {e : TypeId} {size n : Nat} {v : Value} {xs : List Value} (h : w.ownsRow base e size v n xs) {g : Nat} (hg : g < base) : v.ownBlock ≠ some g := fun e => by
  have := (h.lt g e).1
  omega
theorem mown_grow {w w1 : World} {row : Option Nat} {base : Nat} {e : TypeId} {size n : Nat} {v : Value} {xs : List Value} (h : w.ownsRow base e size v n xs) (hg : w.grownBy w1 row) (hr : row = none) : w1.ownsRow base e size v n xs := by
  subst hr
  exact h.kept hg (Classical.em _)
theorem own_quadS {w : World} {base n cap : Nat} {e : TypeId} {A : Option Addr} {l : List I4} (h : w.ownsRow base e 4 (.slice A n cap) l.length (cellsI l)) : QuadAt w A l := by
  obtain ⟨A', c', he, hq⟩ := own_quad h
  injection he with h1
  rw [h1]; exact hq
theorem own_rowS {w : World} {base n cap : Nat} {e : TypeId} {A : Option Addr} {l : List VN} (h : w.ownsRow base e 2 (.slice A n cap) l.length (cellsV l)) (hb : ∀ v ∈ l, v.2 < 18446744073709551616) : RowV w A l.length l := by
  obtain ⟨A', c', he, hq⟩ := own_row h hb
  injection he with h1
  rw [h1]; exact hq
set_option maxHeartbeats 4000000 in
set_option maxRecDepth 100000 in
theorem twin_any (c : CodeP) (v : CV) (w : World) (hc : CodeIn w c v) : Calls Try.prog 7 #[codeV c v] w (TOut c w) := by
  obtain ⟨xA, xC, cA, cC, lA, lC⟩ := v
  obtain ⟨i0, hi, hz0, hz1, hz2⟩ := info_parts infoIns
  obtain ⟨j0, hj, hy0, hy1, hy2⟩ := info_parts infoInp
  obtain ⟨k0, hk, hx0, hx1, hx2⟩ := info_parts infoV
  have szI := hc.szI
  have szC := hc.szC
  have szL := hc.szL
  have rI := quad_reads (show QuadAt w xA c.ins from hc.ins)
  have rC := row_reads (show RowV w cA c.cs.length c.cs from hc.cs)
  have rL := quad_reads (show QuadAt w lA c.list from hc.list)
  have hbits := hc.cs.2.1
  have hu := m2 w (.cells #[.int .i64 c.regs, .int .i64 c.slots, .slice xA c.ins.length xC, .slice cA c.cs.length cC, .slice lA c.list.length lC] 26) (.cells #[.int .i64 0, .int .i64 0, .slice none 0 0, .slice none 0 0, .slice none 0 0] 26)
  have hsz : ((w.alloc (.cells #[.int .i64 c.regs, .int .i64 c.slots, .slice xA c.ins.length xC, .slice cA c.cs.length cC, .slice lA c.list.length lC] 26)).alloc (.cells #[.int .i64 0, .int .i64 0, .slice none 0 0, .slice none 0 0, .slice none 0 0] 26)).heap.size = w.heap.size + 2 := by simp
  have b0 := (Blk.made w 26 #[.int .i64 c.regs, .int .i64 c.slots, .slice xA c.ins.length xC, .slice cA c.cs.length cC, .slice lA c.list.length lC]).kept (m1 _ (.cells #[.int .i64 0, .int .i64 0, .slice none 0 0, .slice none 0 0, .slice none 0 0] 26))
  have b1 : Blk ((w.alloc (.cells #[.int .i64 c.regs, .int .i64 c.slots, .slice xA c.ins.length xC, .slice cA c.cs.length cC, .slice lA c.list.length lC] 26)).alloc (.cells #[.int .i64 0, .int .i64 0, .slice none 0 0, .slice none 0 0, .slice none 0 0] 26)) (w.heap.size + 1) 26 #[.int .i64 0, .int .i64 0, .slice none 0 0, .slice none 0 0, .slice none 0 0] := by simpa using Blk.made (w.alloc (.cells #[.int .i64 c.regs, .int .i64 c.slots, .slice xA c.ins.length xC, .slice cA c.cs.length cC, .slice lA c.list.length lC] 26)) 26 #[.int .i64 0, .int .i64 0, .slice none 0 0, .slice none 0 0, .slice none 0 0]
  show Calls _ _ #[.agg #[.int .i64 c.regs, .int .i64 c.slots, .slice xA c.ins.length xC, .slice cA c.cs.length cC, .slice lA c.list.length lC]] _ _
  clear hc
  replace hi := Lib.hid hi
  replace hz1 := Lib.hid hz1
  replace hz2 := Lib.hid hz2
  replace hj := Lib.hid hj
  replace hy1 := Lib.hid hy1
  replace hy2 := Lib.hid hy2
  replace hk := Lib.hid hk
  replace hx1 := Lib.hid hx1
  replace hx2 := Lib.hid hx2
  replace szI := Lib.hid szI
  replace szC := Lib.hid szC
  replace szL := Lib.hid szL
  replace hbits := Lib.hid hbits
  have c0 := b0.cell 0
  have c1 := b0.cell 1
  have c2 := b0.cell 2
  have c3 := b0.cell 3
  have c4 := b0.cell 4
  have f2 := b0.free 2
  have f3 := b0.free 3
  have f4 := b0.free 4
  go_enter Try.func7, Try.ntmps7
  go_upto_region 1 with (fail)
  generalize (w.alloc (.cells #[.int .i64 c.regs, .int .i64 c.slots, .slice xA c.ins.length xC, .slice cA c.cs.length cC, .slice lA c.list.length lC] 26)).alloc (.cells #[.int .i64 0, .int .i64 0, .slice none 0 0, .slice none 0 0, .slice none 0 0] 26) = u at *
  have hsu := Lib.hid (show w.heap.size + 2 ≤ u.heap.size by omega)
  replace rI := Lib.hid rI
  replace rC := Lib.hid rC
  replace rL := Lib.hid rL
  clear hsz
  go_upto_region 2 with (at_builtin; refine wpList_append_any _ rfl (.const (.slice none 0 0)) (.tmp 4) 22 rfl (w.heap.size + 2) 43 j0 (.agg #[.int .i64 0, .int .i64 0, .int .i64 0, .int .i64 0]) 4 32 Try.underlying22 hj.out hy0 hy1.out hy2.out rfl (by decide) (.slice none 0 0) 0 [] rfl (World.ownsRow_nil _ _ _ _) u.heap.size xA c.ins.length xC (cellsI c.ins) rfl ((rI.out.below hu).more hu.size) (one_cells _) (by have := szI.out; unfold maxLen; omega) (by have := szI.out; omega) (by have := hsu.out; omega) ?_; intro v1 x1 o1 g1 _; rw [Nat.zero_add, List.nil_append] at o1; obtain ⟨A1, d1, rfl, q1⟩ := own_quad o1; have b0 := b0.grown g1 (by simp [Value.ownBlock]); have b1 := b1.grown g1 (by simp [Value.ownBlock]); have hu := hu.grown g1 (by have := hsu.out; omega) (by intro k h; simp [Value.ownBlock] at h); have hs1 := g1.size; have c2 := b0.cell 2; have f2 := b0.free 2)
  clear c0 c1 c2 c3 c4 f2 f3 f4
  have b0 : Blk (x1.setCell ⟨w.heap.size, 2, none⟩ (.slice A1 c.ins.length d1)) w.heap.size 26 #[.int .i64 c.regs, .int .i64 c.slots, .slice A1 c.ins.length d1, .slice cA c.cs.length cC, .slice lA c.list.length lC] := by
    have := b0.put_ 2 (.slice A1 c.ins.length d1)
    simpa using this
  have b1 := b1.else_ (p := ⟨w.heap.size, 2, none⟩) (by simp) (.slice A1 c.ins.length d1)
  have o1 := mown_set o1 (p := ⟨w.heap.size, 2, none⟩) (own_off o1 (by simp)) (.slice A1 c.ins.length d1)
  have hu := hu.setCell (p := ⟨w.heap.size, 2, none⟩) (Nat.le_refl _) (.slice A1 c.ins.length d1)
  have hsu := Lib.hid (show w.heap.size + 2 ≤ (x1.setCell ⟨w.heap.size, 2, none⟩ (.slice A1 c.ins.length d1)).heap.size by have := hsu.out; simp; omega)
  generalize x1.setCell ⟨w.heap.size, 2, none⟩ (.slice A1 c.ins.length d1) = u1 at *
  have c3 := b0.cell 3
  have f3 := b0.free 3
  go_upto_region 3 with (at_builtin; refine wpList_append_any _ rfl (.const (.slice none 0 0)) (.tmp 8) 23 rfl (w.heap.size + 2) 31 k0 (.agg #[.int .i64 0, .int .u64 0]) 2 16 Try.underlying23 hk.out hx0 hx1.out hx2.out rfl (by decide) (.slice none 0 0) 0 [] rfl (World.ownsRow_nil _ _ _ _) u1.heap.size cA c.cs.length cC (cellsV c.cs) rfl ((rC.out.below hu).more hu.size) (one_cellsV _) (by have := szC.out; unfold maxLen; omega) (by have := szC.out; omega) (by have := hsu.out; omega) ?_; intro v2 x2 o2 g2 _; rw [Nat.zero_add, List.nil_append] at o2; obtain ⟨A2, d2, rfl, q2⟩ := own_row o2 hbits.out; have b0 := b0.grown g2 (by simp [Value.ownBlock]); have b1 := b1.grown g2 (by simp [Value.ownBlock]); have hu := hu.grown g2 (by have := hsu.out; omega) (by intro k h; simp [Value.ownBlock] at h); have hs2 := g2.size; have o1 := mown_grow o1 g2 (by simp [Value.ownBlock]); have c3 := b0.cell 3; have f3 := b0.free 3)
  clear c3 f3
  have b0 : Blk (x2.setCell ⟨w.heap.size, 3, none⟩ (.slice A2 c.cs.length d2)) w.heap.size 26 #[.int .i64 c.regs, .int .i64 c.slots, .slice A1 c.ins.length d1, .slice A2 c.cs.length d2, .slice lA c.list.length lC] := by
    have := b0.put_ 3 (.slice A2 c.cs.length d2)
    simpa using this
  have b1 := b1.else_ (p := ⟨w.heap.size, 3, none⟩) (by simp) (.slice A2 c.cs.length d2)
  have o1 := mown_set o1 (p := ⟨w.heap.size, 3, none⟩) (own_off o1 (by simp)) (.slice A2 c.cs.length d2)
  have o2 := mown_set o2 (p := ⟨w.heap.size, 3, none⟩) (own_off o2 (by simp)) (.slice A2 c.cs.length d2)
  have hu := hu.setCell (p := ⟨w.heap.size, 3, none⟩) (Nat.le_refl _) (.slice A2 c.cs.length d2)
  have hsu := Lib.hid (show w.heap.size + 2 ≤ (x2.setCell ⟨w.heap.size, 3, none⟩ (.slice A2 c.cs.length d2)).heap.size by have := hsu.out; simp; omega)
  generalize x2.setCell ⟨w.heap.size, 3, none⟩ (.slice A2 c.cs.length d2) = u2 at *
  have c4 := b0.cell 4
  have f4 := b0.free 4
  go_upto_region 4 with (at_builtin; refine wpList_append_any _ rfl (.const (.slice none 0 0)) (.tmp 12) 24 rfl (w.heap.size + 2) 39 i0 (.agg #[.int .i64 0, .int .i64 0, .int .i64 0, .int .i64 0]) 4 32 Try.underlying24 hi.out hz0 hz1.out hz2.out rfl (by decide) (.slice none 0 0) 0 [] rfl (World.ownsRow_nil _ _ _ _) u2.heap.size lA c.list.length lC (cellsI c.list) rfl ((rL.out.below hu).more hu.size) (one_cells _) (by have := szL.out; unfold maxLen; omega) (by have := szL.out; omega) (by have := hsu.out; omega) ?_; intro v3 x3 o3 g3 _; rw [Nat.zero_add, List.nil_append] at o3; obtain ⟨A3, d3, rfl, q3⟩ := own_quad o3; have b0 := b0.grown g3 (by simp [Value.ownBlock]); have b1 := b1.grown g3 (by simp [Value.ownBlock]); have hu := hu.grown g3 (by have := hsu.out; omega) (by intro k h; simp [Value.ownBlock] at h); have hs3 := g3.size; have o1 := mown_grow o1 g3 (by simp [Value.ownBlock]); have o2 := mown_grow o2 g3 (by simp [Value.ownBlock]); have c4 := b0.cell 4; have f4 := b0.free 4)
  clear c4 f4
  have b0 : Blk (x3.setCell ⟨w.heap.size, 4, none⟩ (.slice A3 c.list.length d3)) w.heap.size 26 #[.int .i64 c.regs, .int .i64 c.slots, .slice A1 c.ins.length d1, .slice A2 c.cs.length d2, .slice A3 c.list.length d3] := by
    have := b0.put_ 4 (.slice A3 c.list.length d3)
    simpa using this
  have b1 := b1.else_ (p := ⟨w.heap.size, 4, none⟩) (by simp) (.slice A3 c.list.length d3)
  have o1 := mown_set o1 (p := ⟨w.heap.size, 4, none⟩) (own_off o1 (by simp)) (.slice A3 c.list.length d3)
  have o2 := mown_set o2 (p := ⟨w.heap.size, 4, none⟩) (own_off o2 (by simp)) (.slice A3 c.list.length d3)
  have o3 := mown_set o3 (p := ⟨w.heap.size, 4, none⟩) (own_off o3 (by simp)) (.slice A3 c.list.length d3)
  have hu := hu.setCell (p := ⟨w.heap.size, 4, none⟩) (Nat.le_refl _) (.slice A3 c.list.length d3)
  have hsu := Lib.hid (show w.heap.size + 2 ≤ (x3.setCell ⟨w.heap.size, 4, none⟩ (.slice A3 c.list.length d3)).heap.size by have := hsu.out; simp; omega)
  generalize x3.setCell ⟨w.heap.size, 4, none⟩ (.slice A3 c.list.length d3) = u3 at *
  have c0 := b0.cell 0
  have c1 := b0.cell 1
  have c2 := b0.cell 2
  have c3 := b0.cell 3
  have c4 := b0.cell 4
  have z0 := b1.cell 0
  have z1 := b1.cell 1
  have z2 := b1.cell 2
  have z3 := b1.cell 3
  have z4 := b1.cell 4
  have e0 := b1.free 0
  have e1 := b1.free 1
  have e2 := b1.free 2
  have e3 := b1.free 3
  have e4 := b1.free 4
  have tB : Blk (((((u3.setCell ⟨w.heap.size + 1, 0, none⟩ (.int .i64 c.regs)).setCell ⟨w.heap.size + 1, 1, none⟩ (.int .i64 c.slots)).setCell ⟨w.heap.size + 1, 2, none⟩ (.slice A1 c.ins.length d1)).setCell ⟨w.heap.size + 1, 3, none⟩ (.slice A2 c.cs.length d2)).setCell ⟨w.heap.size + 1, 4, none⟩ (.slice A3 c.list.length d3)) (w.heap.size + 1) 26 #[.int .i64 c.regs, .int .i64 c.slots, .slice A1 c.ins.length d1, .slice A2 c.cs.length d2, .slice A3 c.list.length d3] := by
    have := (((((b1.put_ 0 (.int .i64 c.regs)).put_ 1 (.int .i64 c.slots)).put_ 2 (.slice A1 c.ins.length d1)).put_ 3 (.slice A2 c.cs.length d2)).put_ 4 (.slice A3 c.list.length d3))
    simpa using this
  have o1 := (mown_set (mown_set (mown_set (mown_set (mown_set o1 (p := ⟨w.heap.size + 1, 0, none⟩) (own_off o1 (by simp)) (.int .i64 c.regs)) (p := ⟨w.heap.size + 1, 1, none⟩) (own_off o1 (by simp)) (.int .i64 c.slots)) (p := ⟨w.heap.size + 1, 2, none⟩) (own_off o1 (by simp)) (.slice A1 c.ins.length d1)) (p := ⟨w.heap.size + 1, 3, none⟩) (own_off o1 (by simp)) (.slice A2 c.cs.length d2)) (p := ⟨w.heap.size + 1, 4, none⟩) (own_off o1 (by simp)) (.slice A3 c.list.length d3))
  have o2 := (mown_set (mown_set (mown_set (mown_set (mown_set o2 (p := ⟨w.heap.size + 1, 0, none⟩) (own_off o2 (by simp)) (.int .i64 c.regs)) (p := ⟨w.heap.size + 1, 1, none⟩) (own_off o2 (by simp)) (.int .i64 c.slots)) (p := ⟨w.heap.size + 1, 2, none⟩) (own_off o2 (by simp)) (.slice A1 c.ins.length d1)) (p := ⟨w.heap.size + 1, 3, none⟩) (own_off o2 (by simp)) (.slice A2 c.cs.length d2)) (p := ⟨w.heap.size + 1, 4, none⟩) (own_off o2 (by simp)) (.slice A3 c.list.length d3))
  have o3 := (mown_set (mown_set (mown_set (mown_set (mown_set o3 (p := ⟨w.heap.size + 1, 0, none⟩) (own_off o3 (by simp)) (.int .i64 c.regs)) (p := ⟨w.heap.size + 1, 1, none⟩) (own_off o3 (by simp)) (.int .i64 c.slots)) (p := ⟨w.heap.size + 1, 2, none⟩) (own_off o3 (by simp)) (.slice A1 c.ins.length d1)) (p := ⟨w.heap.size + 1, 3, none⟩) (own_off o3 (by simp)) (.slice A2 c.cs.length d2)) (p := ⟨w.heap.size + 1, 4, none⟩) (own_off o3 (by simp)) (.slice A3 c.list.length d3))
  have hu := (((((hu.setCell (p := ⟨w.heap.size + 1, 0, none⟩) (by simp) (.int .i64 c.regs)).setCell (p := ⟨w.heap.size + 1, 1, none⟩) (by simp) (.int .i64 c.slots)).setCell (p := ⟨w.heap.size + 1, 2, none⟩) (by simp) (.slice A1 c.ins.length d1)).setCell (p := ⟨w.heap.size + 1, 3, none⟩) (by simp) (.slice A2 c.cs.length d2)).setCell (p := ⟨w.heap.size + 1, 4, none⟩) (by simp) (.slice A3 c.list.length d3))
  clear b0 b1
  go_wp2
  generalize (((((u3.setCell ⟨w.heap.size + 1, 0, none⟩ (.int .i64 c.regs)).setCell ⟨w.heap.size + 1, 1, none⟩ (.int .i64 c.slots)).setCell ⟨w.heap.size + 1, 2, none⟩ (.slice A1 c.ins.length d1)).setCell ⟨w.heap.size + 1, 3, none⟩ (.slice A2 c.cs.length d2)).setCell ⟨w.heap.size + 1, 4, none⟩ (.slice A3 c.list.length d3)) = u4 at *
  have t0 : u4.cell? ⟨w.heap.size + 1, 0, none⟩ = some (.int .i64 c.regs) := tB.cell 0
  have t1 : u4.cell? ⟨w.heap.size + 1, 1, none⟩ = some (.int .i64 c.slots) := tB.cell 1
  have t2 : u4.cell? ⟨w.heap.size + 1, 2, none⟩ = some (.slice A1 c.ins.length d1) := tB.cell 2
  have t3 : u4.cell? ⟨w.heap.size + 1, 3, none⟩ = some (.slice A2 c.cs.length d2) := tB.cell 3
  have t4 : u4.cell? ⟨w.heap.size + 1, 4, none⟩ = some (.slice A3 c.list.length d3) := tB.cell 4
  refine bodyPost_ret (v := codeV c ⟨A1, d1, A2, d2, A3, d3⟩) (by simp [results, Try.results7, go_sem, t0, t1, t2, t3, t4, codeV]) rfl ?_
  exact ⟨⟨A1, d1, A2, d2, A3, d3⟩, rfl, ⟨own_quadS o1, own_rowS o2 hbits.out, own_quadS o3, szI.out, szC.out, szL.out⟩, ⟨mown_mono o1 (by omega), mown_mono o2 (by omega), mown_mono o3 (by omega)⟩, hu⟩
end Go.Proofs.Ytagjfeblkpkgaaa
namespace Go.Proofs.Ytagjfeblkpkgaaa
open Go.ChangeShapes Go.WideShapes Go.ChangeAt Go.RowKit Go.Fl
set_option linter.unusedVariables false
set_option linter.unusedSimpArgs false

theorem bdrewN9' {B : Nat} {a w : World} (h : Below B a w) (n : Nat) : Below B a (w.drewN n) := ⟨h.os, h.tape, h.output, h.size, h.block⟩
theorem neq4_ins (a b c d : Int) (w : World) : (binOp .neq 43 (.agg #[.int .i64 a, .int .i64 b, .int .i64 c, .int .i64 d]) (.agg #[.int .i64 a, .int .i64 b, .int .i64 c, .int .i64 d])).run Try.prog w = .ok (.bool false) w := by simp [go_sem]
theorem neq4_list (a b c d : Int) (w : World) : (binOp .neq 39 (.agg #[.int .i64 a, .int .i64 b, .int .i64 c, .int .i64 d]) (.agg #[.int .i64 a, .int .i64 b, .int .i64 c, .int .i64 d])).run Try.prog w = .ok (.bool false) w := by simp [go_sem]
theorem neq2_V (a : Int) (b : Nat) (w : World) : (binOp .neq 31 (.agg #[.int .i64 a, .int .u64 (b : Int)]) (.agg #[.int .i64 a, .int .u64 (b : Int)])).run Try.prog w = .ok (.bool false) w := by simp [go_sem]
/-- the lists of a code in memory -/
structure Lists (u : World) (g : Nat) (c : CodeP) (xA : Option Addr) (xC : Nat) (cA : Option Addr) (cC : Nat) (lA : Option Addr) (lC : Nat) : Prop where
  c0 : u.cell? ⟨g, 0, none⟩ = some (.int .i64 c.regs)
  c1 : u.cell? ⟨g, 1, none⟩ = some (.int .i64 c.slots)
  c2 : u.cell? ⟨g, 2, none⟩ = some (.slice xA c.ins.length xC)
  c3 : u.cell? ⟨g, 3, none⟩ = some (.slice cA c.cs.length cC)
  c4 : u.cell? ⟨g, 4, none⟩ = some (.slice lA c.list.length lC)
set_option maxHeartbeats 8000000 in
set_option maxRecDepth 100000 in
theorem csame_any (c : CodeP) (a b : CV) (w : World) (ha : CodeIn w c a) (hb : CodeIn w c b) : Calls Try.prog 10 #[codeV c a, codeV c b] w fun e w' => e = .returned (.bool true) ∧ Below w.heap.size w w' := by
  obtain ⟨axA, axC, acA, acC, alA, alC⟩ := a
  obtain ⟨bxA, bxC, bcA, bcC, blA, blC⟩ := b
  have h1ins := Lib.hid (show QuadAt w axA c.ins from ha.ins)
  have h2ins := Lib.hid (show QuadAt w bxA c.ins from hb.ins)
  have h1cs := Lib.hid (show RowV w acA c.cs.length c.cs from ha.cs)
  have h2cs := Lib.hid (show RowV w bcA c.cs.length c.cs from hb.cs)
  have h1list := Lib.hid (show QuadAt w alA c.list from ha.list)
  have h2list := Lib.hid (show QuadAt w blA c.list from hb.list)
  have szins : c.ins.length ≤ 9223372036854775806 := by have := ha.szI; omega
  have szcs : c.cs.length ≤ 9223372036854775806 := by have := ha.szC; omega
  have szlist : c.list.length ≤ 9223372036854775806 := by have := ha.szL; omega
  have hu := Lib.hid (m2 w (.cells #[.int .i64 c.regs, .int .i64 c.slots, .slice axA c.ins.length axC, .slice acA c.cs.length acC, .slice alA c.list.length alC] 26) (.cells #[.int .i64 c.regs, .int .i64 c.slots, .slice bxA c.ins.length bxC, .slice bcA c.cs.length bcC, .slice blA c.list.length blC] 26))
  have q1 : Lists ((w.alloc (.cells #[.int .i64 c.regs, .int .i64 c.slots, .slice axA c.ins.length axC, .slice acA c.cs.length acC, .slice alA c.list.length alC] 26)).alloc (.cells #[.int .i64 c.regs, .int .i64 c.slots, .slice bxA c.ins.length bxC, .slice bcA c.cs.length bcC, .slice blA c.list.length blC] 26)) w.heap.size c axA axC acA acC alA alC := by
    have := (Blk.made w 26 #[.int .i64 c.regs, .int .i64 c.slots, .slice axA c.ins.length axC, .slice acA c.cs.length acC, .slice alA c.list.length alC]).kept (m1 _ (.cells #[.int .i64 c.regs, .int .i64 c.slots, .slice bxA c.ins.length bxC, .slice bcA c.cs.length bcC, .slice blA c.list.length blC] 26))
    exact ⟨this.cell 0, this.cell 1, this.cell 2, this.cell 3, this.cell 4⟩
  have q2 : Lists ((w.alloc (.cells #[.int .i64 c.regs, .int .i64 c.slots, .slice axA c.ins.length axC, .slice acA c.cs.length acC, .slice alA c.list.length alC] 26)).alloc (.cells #[.int .i64 c.regs, .int .i64 c.slots, .slice bxA c.ins.length bxC, .slice bcA c.cs.length bcC, .slice blA c.list.length blC] 26)) (w.heap.size + 1) c bxA bxC bcA bcC blA blC := by
    have := Blk.made (w.alloc (.cells #[.int .i64 c.regs, .int .i64 c.slots, .slice axA c.ins.length axC, .slice acA c.cs.length acC, .slice alA c.list.length alC] 26)) 26 #[.int .i64 c.regs, .int .i64 c.slots, .slice bxA c.ins.length bxC, .slice bcA c.cs.length bcC, .slice blA c.list.length blC]
    rw [show (w.alloc (.cells #[.int .i64 c.regs, .int .i64 c.slots, .slice axA c.ins.length axC, .slice acA c.cs.length acC, .slice alA c.list.length alC] 26)).heap.size = w.heap.size + 1 by simp] at this
    exact ⟨this.cell 0, this.cell 1, this.cell 2, this.cell 3, this.cell 4⟩
  clear ha hb
  show Calls _ _ #[.agg #[.int .i64 c.regs, .int .i64 c.slots, .slice axA c.ins.length axC, .slice acA c.cs.length acC, .slice alA c.list.length alC], .agg #[.int .i64 c.regs, .int .i64 c.slots, .slice bxA c.ins.length bxC, .slice bcA c.cs.length bcC, .slice blA c.list.length blC]] _ _
  go_enter Try.func10, Try.ntmps10
  go_upto_region 1 with (fail)
  generalize (w.alloc (.cells #[.int .i64 c.regs, .int .i64 c.slots, .slice axA c.ins.length axC, .slice acA c.cs.length acC, .slice alA c.list.length alC] 26)).alloc (.cells #[.int .i64 c.regs, .int .i64 c.slots, .slice bxA c.ins.length bxC, .slice bcA c.cs.length bcC, .slice blA c.list.length blC] 26) = u at *
  obtain ⟨a0, a1, a2, a3, a4⟩ := id q1
  obtain ⟨d0, d1, d2, d3, d4⟩ := id q2
  replace q1 := Lib.hid q1
  replace q2 := Lib.hid q2
  go_upto_region 3 with (fail)
  clear a0 a1 a3 a4 d0 d1 d3 d4
  go_wp2_with fail
  go_loopw [50] (fun i wr => ∃ k : Nat, k ≤ c.ins.length ∧ i = .int .i64 (k : Int) ∧ Below u.heap.size u wr) (fun i _ => c.ins.length - (intOf i).toNat)
  case atStart => exact ⟨0, Nat.zero_le _, rfl, Below.refl _ _⟩
  case round =>
    obtain ⟨k, hk, rfl, hb⟩ := hrel
    by_cases hlt : k < c.ins.length
    · obtain ⟨b1, o1, hA, hc1⟩ := h1ins.out (by omega)
      obtain ⟨b2, o2, hB, hc2⟩ := h2ins.out (by omega)
      have hx := List.getElem?_eq_getElem hlt
      obtain ⟨p0, p1, p2, p3⟩ := hc1 k _ hx
      obtain ⟨r0, r1, r2, r3⟩ := hc2 k _ hx
      replace p0 := cell_later hb (cell_later hu.out p0)
      replace p1 := cell_later hb (cell_later hu.out p1)
      replace p2 := cell_later hb (cell_later hu.out p2)
      replace p3 := cell_later hb (cell_later hu.out p3)
      replace r0 := cell_later hb (cell_later hu.out r0)
      replace r1 := cell_later hb (cell_later hu.out r1)
      replace r2 := cell_later hb (cell_later hu.out r2)
      replace r3 := cell_later hb (cell_later hu.out r3)
      have z1 := cell_later hb q1.out.c2
      have z2 := cell_later hb q2.out.c2
      rw [hA] at z1
      rw [hB] at z2
      clear hc1 hc2 hx
      generalize c.ins[k] = x at *
      obtain ⟨xa, xb, xc, xd⟩ := x
      dsimp only at p0 p1 p2 p3 r0 r1 r2 r3
      have hne := neq4_ins xa xb xc xd
      have k0 : (0 : Int) ≤ (k : Int) := by omega
      have k1 : (k : Int) < (c.ins.length : Int) := by omega
      have k3 := Lib.hid hlt
      have kb := szins
      go_wp2_with fail
      go_quiet (fail)
      have hb2 := bdrewN9' hb nq
      clear hb z1 z2 hne hA hB p0 p1 p2 p3 r0 r1 r2 r3
      go_wp2
      go_roundw
      case rel => exact ⟨k + 1, by have := k3.out; omega, by go_num, hb2⟩
      case measure => have := k3.out; simp [intOf]; omega
    · obtain rfl : k = c.ins.length := by omega
      have z1 := cell_later hb q1.out.c3
      have z2 := cell_later hb q2.out.c3
      clear hlt
      go_wp2_with fail
      go_loopw [68] (fun i wr => ∃ k : Nat, k ≤ c.cs.length ∧ i = .int .i64 (k : Int) ∧ Below u.heap.size u wr) (fun i _ => c.cs.length - (intOf i).toNat)
      case atStart => exact ⟨0, Nat.zero_le _, rfl, hb⟩
      case round =>
        obtain ⟨k, hk, rfl, hb⟩ := hrel
        by_cases hlt : k < c.cs.length
        · obtain ⟨b1, o1, hA, hc1⟩ := h1cs.out.2.2 (by omega)
          obtain ⟨b2, o2, hB, hc2⟩ := h2cs.out.2.2 (by omega)
          have hx := List.getElem?_eq_getElem hlt
          obtain ⟨p0, p1⟩ := hc1 k c.cs[k].1 c.cs[k].2 hx
          obtain ⟨r0, r1⟩ := hc2 k c.cs[k].1 c.cs[k].2 hx
          replace p0 := cell_later hb (cell_later hu.out p0)
          replace p1 := cell_later hb (cell_later hu.out p1)
          replace r0 := cell_later hb (cell_later hu.out r0)
          replace r1 := cell_later hb (cell_later hu.out r1)
          have z1 := cell_later hb q1.out.c3
          have z2 := cell_later hb q2.out.c3
          rw [hA] at z1
          rw [hB] at z2
          clear hc1 hc2 hx
          generalize c.cs[k] = x at *
          obtain ⟨xa, xb⟩ := x
          dsimp only at p0 p1 r0 r1
          have hne := neq2_V xa xb
          have k0 : (0 : Int) ≤ (k : Int) := by omega
          have k1 : (k : Int) < (c.cs.length : Int) := by omega
          have k3 := Lib.hid hlt
          have kb := szcs
          go_wp2_with fail
          go_quiet (fail)
          have hb2 := bdrewN9' hb nq
          clear hb z1 z2 hne hA hB p0 p1 r0 r1
          go_wp2
          go_roundw
          case rel => exact ⟨k + 1, by have := k3.out; omega, by go_num, hb2⟩
          case measure => have := k3.out; simp [intOf]; omega
        · obtain rfl : k = c.cs.length := by omega
          have z1 := cell_later hb q1.out.c4
          have z2 := cell_later hb q2.out.c4
          clear hlt
          go_wp2_with fail
          go_loopw [86] (fun i wr => ∃ k : Nat, k ≤ c.list.length ∧ i = .int .i64 (k : Int) ∧ Below u.heap.size u wr) (fun i _ => c.list.length - (intOf i).toNat)
          case atStart => exact ⟨0, Nat.zero_le _, rfl, hb⟩
          case round =>
            obtain ⟨k, hk, rfl, hb⟩ := hrel
            by_cases hlt : k < c.list.length
            · obtain ⟨b1, o1, hA, hc1⟩ := h1list.out (by omega)
              obtain ⟨b2, o2, hB, hc2⟩ := h2list.out (by omega)
              have hx := List.getElem?_eq_getElem hlt
              obtain ⟨p0, p1, p2, p3⟩ := hc1 k _ hx
              obtain ⟨r0, r1, r2, r3⟩ := hc2 k _ hx
              replace p0 := cell_later hb (cell_later hu.out p0)
              replace p1 := cell_later hb (cell_later hu.out p1)
              replace p2 := cell_later hb (cell_later hu.out p2)
              replace p3 := cell_later hb (cell_later hu.out p3)
              replace r0 := cell_later hb (cell_later hu.out r0)
              replace r1 := cell_later hb (cell_later hu.out r1)
              replace r2 := cell_later hb (cell_later hu.out r2)
              replace r3 := cell_later hb (cell_later hu.out r3)
              have z1 := cell_later hb q1.out.c4
              have z2 := cell_later hb q2.out.c4
              rw [hA] at z1
              rw [hB] at z2
              clear hc1 hc2 hx
              generalize c.list[k] = x at *
              obtain ⟨xa, xb, xc, xd⟩ := x
              dsimp only at p0 p1 p2 p3 r0 r1 r2 r3
              have hne := neq4_list xa xb xc xd
              have k0 : (0 : Int) ≤ (k : Int) := by omega
              have k1 : (k : Int) < (c.list.length : Int) := by omega
              have k3 := Lib.hid hlt
              have kb := szlist
              go_wp2_with fail
              go_quiet (fail)
              have hb2 := bdrewN9' hb nq
              clear hb z1 z2 hne hA hB p0 p1 p2 p3 r0 r1 r2 r3
              go_wp2
              go_roundw
              case rel => exact ⟨k + 1, by have := k3.out; omega, by go_num, hb2⟩
              case measure => have := k3.out; simp [intOf]; omega
            · obtain rfl : k = c.list.length := by omega
              clear hlt
              go_wp2
              go_ret
              exact ⟨rfl, below_more hu.out hb⟩
end Go.Proofs.Ytagjfeblkpkgaaa
namespace Go.Proofs.Ytagjfeblkpkgaaa
open Go.ChangeShapes Go.WideShapes Go.ChangeAt Go.RowKit Go.Deep Go.Joins
set_option linter.unusedVariables false
set_option linter.unusedSimpArgs false

section
variable {H : Type} {P : Program}
/-- what is read of d is within the reach -/
def WB (P : Program) (t : TypeId) (d : DataW H) : Prop := ∀ n ∈ d.weights P t, n ≤ reachBytes
theorem wb_each {ts : List TypeId} {ds : List (DataW H)} (h : (DataW.weightsEach P ts ds).all (· ≤ reachBytes) = true) {j : Nat} {t : TypeId} {d : DataW H} (ht : ts[j]? = some t) (hd : ds[j]? = some d) : WB P t d := fun n hn => by
  have := List.all_eq_true.1 h n (DataW.weights_mem_each ht hd n hn)
  simpa using this
theorem wb_agg {t : TypeId} {fs : Array Field} {parts : List (DataW H)} (hu : P.underlying t = some (.struct fs)) (h : WB P t (.agg parts)) {j : Nat} {ft : TypeId} {d : DataW H} (ht : (fs.toList.map (·.type))[j]? = some ft) (hd : parts[j]? = some d) : WB P ft d := fun n hn =>
  h n (by simp only [DataW.weights, hu]; exact DataW.weights_mem_each ht hd n hn)
theorem mem_weightsAll {e : TypeId} : ∀ {elems : List (DataW H)} {d : DataW H} {n : Nat}, d ∈ elems → n ∈ d.weights P e → n ∈ DataW.weightsAll P e elems
  | [], _, _, h, _ => by simp at h
  | a :: r, d, n, h, hn => by
    simp only [DataW.weightsAll, List.mem_append]
    rcases List.mem_cons.1 h with rfl | h
    · exact .inl hn
    · exact .inr (mem_weightsAll h hn)
theorem wb_slice {t e : TypeId} {elems spare : List (DataW H)} (hu : P.underlying t = some (.slice e)) (h : WB P t (.slice elems spare)) : elems.length * P.bytesOf e ≤ reachBytes ∧ ∀ d ∈ elems, WB P e d := by
  refine ⟨?_, fun d hd n hn => h n ?_⟩
  · have := h ((elems.length + spare.length) * P.bytesOf e) (by simp [DataW.weights, hu])
    exact Nat.le_trans (Nat.mul_le_mul_right _ (Nat.le_add_right _ _)) this
  · simp only [DataW.weights, hu, List.mem_cons, List.mem_append]
    exact .inr (.inl (mem_weightsAll hd hn))
end

section
variable {H : Type} {enc : TypeId × Value → H} {P : Program} {w : World} {base : Nat} {spare : Nat → Bool} {held : Bool}
/-- a slice of structs whose fields are of one cell each (from the guide's page of structs) -/
theorem open_slice_fields {t e : TypeId} {fs : Array Field} {fuel : Nat} {cs : List Value} {x : DataW H × List MemPlace} (ht : P.underlying t = some (.slice e)) (he : P.underlying e = some (.struct fs))
    (hone : oneCellFields P fs = true) (hC : P.cellsOf e = fs.size) (h : DataW.trod enc P w base spare held fuel t cs = some x) :
    (cs = [.slice none 0 0] ∧ x = (.nil, [])) ∨
    ∃ (a : Addr) (len cap m : Nat) (D : Nat → DataW H) (Pl : Nat → List MemPlace), cs = [.slice (some a) len cap] ∧ base ≤ a.block ∧ len ≤ cap ∧ cap ≤ maxLen ∧ m = (if spare a.block then cap else len) ∧
      x = (.slice ((List.range len).map D) ((List.range (m - len)).map fun j => D (len + j)), MemPlace.row a (m * fs.size) ++ (List.range m).flatMap Pl) ∧
      ∀ i, i < m → ∃ (ys : List (DataW H × List MemPlace)) (n : Nat), D i = .agg (ys.map (·.1)) ∧ Pl i = ys.flatMap (·.2) ∧ ys.length = fs.size ∧
        ∀ (j : Nat) (f : Field), fs[j]? = some f → ∃ (v : Value) (y : DataW H × List MemPlace), w.cell? (a.add (i * fs.size + j)) = some v ∧ ys[j]? = some y ∧ DataW.trod enc P w base spare held n f.type [v] = some y := by
  rcases open_slice ht h with h0 | ⟨a, len, cap, m, n, D, Pl, hcs, hb, hl, hm, hmm, hx, hi⟩
  · exact .inl h0
  · refine .inr ⟨a, len, cap, m, D, Pl, hcs, hb, hl, hm, hmm, by rw [hC] at hx; exact hx, fun i him => ?_⟩
    obtain ⟨cs', hc, ht'⟩ := hi i him
    rw [hC] at hc
    obtain ⟨ys, n', hn', hy, hlen, hyl, hf⟩ := DataW.trod_struct he ht'
    obtain ⟨_, hcl, hat⟩ := World.cells?_some hc
    simp only [Prod.mk.injEq] at hy
    refine ⟨ys, n', hy.1, hy.2, hyl, fun j f hj => ?_⟩
    obtain ⟨ho, hk⟩ := hone_of hone j f hj
    have hjl : j < fs.size := (Array.getElem?_eq_some_iff.1 hj).1
    have hcell := hat j hjl
    have hv : cs'[j]? = some (cs'[j]'(by omega)) := List.getElem?_eq_getElem (by omega)
    have h1 := hf j f hj
    rw [ho, hk] at h1
    have hone' : (cs'.drop j).take 1 = [cs'[j]'(by omega)] := by
      rw [List.drop_eq_getElem_cons (by omega)]
      rfl
    rw [hone'] at h1
    have hys : ys[j]? = some (ys[j]'(by omega)) := List.getElem?_eq_getElem (by omega)
    refine ⟨_, _, ?_, hys, h1.trans hys⟩
    rw [← Go.Deep.add_add, hcell, hv]

theorem okWide_arr {P : Program} {w : World} {r : Reach} {b0 n : Nat} {t e : TypeId} {v : Value} (ht : P.underlying t = some (.array n e)) (h : Value.okWide P w r b0 t v) : ∃ cs, v = .agg cs ∧ cs.size = P.cellsOf t := by
  simp only [Value.okWide, ht] at h
  obtain ⟨cs, h1, h2, _⟩ := h
  exact ⟨cs, h1, h2⟩
/-- two whole numbers in an array -/
theorem open_two {r : Reach} {b0 : Nat} {t e : TypeId} {v : Value} {d : DataW H} {p : List MemPlace} (ht : P.underlying t = some (.array 2 e)) (he : P.underlying e = some (.int .i64)) (hC : P.cellsOf t = 2) (hc : P.cellsOf e = 1)
    (hv : Value.okWide P w r b0 t v) (h : DataW.Trod enc P w base spare held t v d p) : ∃ a b : Int, v = .agg #[.int .i64 a, .int .i64 b] ∧ (Lit.int .i64 a).wf = true ∧ (Lit.int .i64 b).wf = true := by
  obtain ⟨cs, rfl, hs⟩ := okWide_arr ht hv
  obtain ⟨l⟩ := cs
  rw [hC] at hs
  match l, hs with
  | [c0, c1], _ =>
    obtain ⟨fuel, hf⟩ := h
    obtain ⟨xs, m, _, _, _, hl, hx⟩ := DataW.trod_array ht hf
    have h0 := hx 0 (by omega)
    have h1 := hx 1 (by omega)
    rw [hc] at h0 h1
    match xs, hl with
    | [y0, y1], _ =>
      simp [Value.cells] at h0 h1
      obtain ⟨a, e0, _, wa⟩ := DataW.trod_int he h0
      obtain ⟨b, e1, _, wb⟩ := DataW.trod_int he h1
      simp at e0 e1
      subst e0 e1
      exact ⟨a, b, rfl, wa, wb⟩

theorem spot_no {w : World} {a : Addr} {v : Value} (h : w.cell? a = some v) : a.spot = none := by
  unfold World.cell? at h
  split at h
  · split at h
    · cases h
    · rename_i hs; simpa using hs
  · cases h
theorem add_plain {b off : Nat} (n : Nat) : (⟨b, off, none⟩ : Addr).add n = ⟨b, off + n, none⟩ := by unfold Addr.add; split <;> simp_all
theorem spot_of {w : World} {a : Addr} {v : Value} (h : w.cell? (a.add 0) = some v) : ∃ b off, a = ⟨b, off, none⟩ := by
  obtain ⟨b, off, sp⟩ := a
  have h1 : (⟨b, off, sp⟩ : Addr).spot = none := spot_no h
  exact ⟨b, off, by simp only at h1; rw [h1]⟩
end
end Go.Proofs.Ytagjfeblkpkgaaa
namespace Go.Proofs.Ytagjfeblkpkgaaa
open Go.ChangeShapes Go.WideShapes Go.ChangeAt Go.RowKit Go.Deep Go.Joins Go.Fl
set_option linter.unusedVariables false
set_option linter.unusedSimpArgs false
section
variable {H : Type} {enc : TypeId × Value → H} {P : Program} {w : World} {base : Nat} {spare : Nat → Bool} {held : Bool}
theorem array5 {α : Type} {cs : Array α} (h : cs.size = 5) : ∃ c0 c1 c2 c3 c4, cs = #[c0, c1, c2, c3, c4] := by
  obtain ⟨l⟩ := cs
  match l, h with
  | [c0, c1, c2, c3, c4], _ => exact ⟨c0, c1, c2, c3, c4, rfl⟩
theorem open_agg5 {r : Reach} {b0 : Nat} {t : TypeId} {f0 f1 f2 f3 f4 : Field} {v : Value} {d : DataW H} {p : List MemPlace} (hs : P.underlying t = some (.struct #[f0, f1, f2, f3, f4])) (hone : oneCellFields P #[f0, f1, f2, f3, f4] = true) (hC : P.cellsOf t = 5)
    (hv : Value.okWide P w r b0 t v) (h : DataW.Trod enc P w base spare held t v d p) :
    ∃ (v0 v1 v2 v3 v4 : Value) (y0 y1 y2 y3 y4 : DataW H × List MemPlace) (n : Nat), v = .agg #[v0, v1, v2, v3, v4] ∧ d = .agg [y0.1, y1.1, y2.1, y3.1, y4.1] ∧
      DataW.trod enc P w base spare held n f0.type [v0] = some y0 ∧ DataW.trod enc P w base spare held n f1.type [v1] = some y1 ∧ DataW.trod enc P w base spare held n f2.type [v2] = some y2 ∧ DataW.trod enc P w base spare held n f3.type [v3] = some y3 ∧ DataW.trod enc P w base spare held n f4.type [v4] = some y4 := by
  obtain ⟨cs, rfl, hsz⟩ := okWide_struct hs hv
  obtain ⟨c0, c1, c2, c3, c4, rfl⟩ := array5 (hsz.trans hC)
  obtain ⟨fuel, hf⟩ := h
  obtain ⟨xs, n, _, hx, hl, hlen, hq⟩ := DataW.trod_struct hs hf
  match xs, hlen with
  | [y0, y1, y2, y3, y4], _ =>
    obtain ⟨o0, k0⟩ := hone_of hone 0 f0 rfl
    obtain ⟨o1, k1⟩ := hone_of hone 1 f1 rfl
    obtain ⟨o2, k2⟩ := hone_of hone 2 f2 rfl
    obtain ⟨o3, k3⟩ := hone_of hone 3 f3 rfl
    obtain ⟨o4, k4⟩ := hone_of hone 4 f4 rfl
    have h0 := hq 0 f0 rfl
    have h1 := hq 1 f1 rfl
    have h2 := hq 2 f2 rfl
    have h3 := hq 3 f3 rfl
    have h4 := hq 4 f4 rfl
    simp only [Prod.mk.injEq] at hx
    exact ⟨c0, c1, c2, c3, c4, y0, y1, y2, y3, y4, n, rfl, by simpa using hx.1, by simpa [Value.cells, o0, k0] using h0, by simpa [Value.cells, o1, k1] using h1, by simpa [Value.cells, o2, k2] using h2, by simpa [Value.cells, o3, k3] using h3, by simpa [Value.cells, o4, k4] using h4⟩
end
section
variable {H : Type} {enc : TypeId × Value → H} {w : World} {base : Nat} {spare : Nat → Bool} {held : Bool}
theorem open_valuesV {fuel : Nat} {v : Value} {y : DataW H × List MemPlace} (h : DataW.trod enc Try.prog w base spare held fuel 23 [v] = some y) (hw : WB Try.prog 23 y.1) :
    ∃ (B : Option Addr) (cap : Nat) (vs : List (Int × Nat)), v = .slice B vs.length cap ∧ RowV w B vs.length vs ∧ vs.length * 16 ≤ 140737488351232 := by
  rcases open_slice_fields Try.underlying23 Try.underlying31 (by kernel_rfl) (by kernel_rfl) h with ⟨hcs, _⟩ | ⟨a, len, cap, m, D, Pl, hcs, _, hl, hm, hmm, hx, hcell⟩
  · simp at hcs
    subst hcs
    exact ⟨none, 0, [], rfl, ⟨rfl, by simp, fun hp => absurd hp (by simp)⟩, by decide⟩
  · simp at hcs
    subst hcs hx
    have hlm : len ≤ m := by rw [hmm]; split <;> omega
    have hb := (wb_slice Try.underlying23 hw).1
    rw [show Try.prog.bytesOf 31 = 16 by kernel_rfl] at hb
    simp only [List.length_map, List.length_range, reachBytes] at hb
    have hv : ∀ i, i < len → ∃ q : Int × Nat, w.cell? (a.add (i * 2)) = some (.int .i64 q.1) ∧ w.cell? (a.add (i * 2 + 1)) = some (.int .u64 (q.2 : Int)) ∧ q.2 < 18446744073709551616 := by
      intro i hi
      obtain ⟨ys, n, _, _, _, hf⟩ := hcell i (by omega)
      obtain ⟨v0, y0, c0, _, t0⟩ := hf 0 _ rfl
      obtain ⟨v1, y1, c1, _, t1⟩ := hf 1 _ rfl
      obtain ⟨k, e0, _, _⟩ := DataW.trod_int Try.underlying3 t0
      obtain ⟨b, e1, _, wb⟩ := DataW.trod_int Try.underlying29 t1
      simp at e0 e1
      subst e0 e1
      obtain ⟨n, rfl, hn⟩ := nat_of_wf wb
      exact ⟨(k, n), c0, c1, hn⟩
    obtain ⟨q, hq⟩ := Go.Deep.choose_lt hv
    refine ⟨some a, cap, (List.range len).map q, by simp, ⟨by simp, ?_, fun hp => ?_⟩, by simpa using hb⟩
    · intro v hm
      obtain ⟨i, hi, rfl⟩ := List.mem_map.1 hm
      exact (hq i (List.mem_range.1 hi)).2.2
    · have hp' : 0 < len := by simpa using hp
      obtain ⟨b, off, rfl⟩ := spot_of (hq 0 hp').1
      refine ⟨b, off, rfl, fun i k c hi => ?_⟩
      have hil : i < len := by have := (List.getElem?_eq_some_iff.1 hi).1; simpa using this
      rw [List.getElem?_map, List.getElem?_range hil] at hi
      simp at hi
      have := hq i hil
      rw [hi, add_plain, add_plain] at this
      exact ⟨this.1, by rw [Nat.add_assoc]; exact this.2.1⟩
theorem open_inss {fuel : Nat} {v : Value} {y : DataW H × List MemPlace} (h : DataW.trod enc Try.prog w base spare held fuel 24 [v] = some y) (hw : WB Try.prog 24 y.1) :
    ∃ (B : Option Addr) (cap : Nat) (l : List I4), v = .slice B l.length cap ∧ QuadAt w B l ∧ l.length * 32 ≤ 140737488351232 := by
  rcases open_slice_fields Try.underlying24 Try.underlying39 (by kernel_rfl) (by kernel_rfl) h with ⟨hcs, _⟩ | ⟨a, len, cap, m, D, Pl, hcs, _, hl, hm, hmm, hx, hcell⟩
  · simp at hcs
    subst hcs
    exact ⟨none, 0, [], rfl, QuadAt.nil _ _, by decide⟩
  · simp at hcs
    subst hcs hx
    have hlm : len ≤ m := by rw [hmm]; split <;> omega
    have hb := (wb_slice Try.underlying24 hw).1
    rw [show Try.prog.bytesOf 39 = 32 by kernel_rfl] at hb
    simp only [List.length_map, List.length_range, reachBytes] at hb
    have hv : ∀ i, i < len → ∃ q : I4, w.cell? (a.add (i * 4)) = some (.int .i64 q.1) ∧ w.cell? (a.add (i * 4 + 1)) = some (.int .i64 q.2.1) ∧ w.cell? (a.add (i * 4 + 2)) = some (.int .i64 q.2.2.1) ∧ w.cell? (a.add (i * 4 + 3)) = some (.int .i64 q.2.2.2) := by
      intro i hi
      obtain ⟨ys, n, _, _, _, hf⟩ := hcell i (by omega)
      obtain ⟨v0, y0, c0, _, t0⟩ := hf 0 _ rfl
      obtain ⟨v1, y1, c1, _, t1⟩ := hf 1 _ rfl
      obtain ⟨v2, y2, c2, _, t2⟩ := hf 2 _ rfl
      obtain ⟨v3, y3, c3, _, t3⟩ := hf 3 _ rfl
      obtain ⟨k0, e0, _, _⟩ := DataW.trod_int Try.underlying3 t0
      obtain ⟨k1, e1, _, _⟩ := DataW.trod_int Try.underlying3 t1
      obtain ⟨k2, e2, _, _⟩ := DataW.trod_int Try.underlying3 t2
      obtain ⟨k3, e3, _, _⟩ := DataW.trod_int Try.underlying3 t3
      simp at e0 e1 e2 e3
      subst e0 e1 e2 e3
      exact ⟨(k0, k1, k2, k3), c0, c1, c2, c3⟩
    obtain ⟨q, hq⟩ := Go.Deep.choose_lt hv
    refine ⟨some a, cap, (List.range len).map q, by simp, fun hp => ?_, by simpa using hb⟩
    have hp' : 0 < len := by simpa using hp
    obtain ⟨b, off, rfl⟩ := spot_of (hq 0 hp').1
    refine ⟨b, off, rfl, fun i x hi => ?_⟩
    have hil : i < len := by have := (List.getElem?_eq_some_iff.1 hi).1; simpa using this
    rw [List.getElem?_map, List.getElem?_range hil] at hi
    simp at hi
    subst hi
    obtain ⟨h0, h1, h2, h3⟩ := hq i hil
    rw [add_plain] at h0 h1 h2 h3
    exact ⟨h0, by rw [Nat.add_assoc]; exact h1, by rw [Nat.add_assoc]; exact h2, by rw [Nat.add_assoc]; exact h3⟩
theorem open_inps {fuel : Nat} {v : Value} {y : DataW H × List MemPlace} (h : DataW.trod enc Try.prog w base spare held fuel 22 [v] = some y) (hw : WB Try.prog 22 y.1) :
    ∃ (B : Option Addr) (cap : Nat) (l : List I4), v = .slice B l.length cap ∧ QuadAt w B l ∧ l.length * 32 ≤ 140737488351232 := by
  rcases open_slice_fields Try.underlying22 Try.underlying43 (by kernel_rfl) (by kernel_rfl) h with ⟨hcs, _⟩ | ⟨a, len, cap, m, D, Pl, hcs, _, hl, hm, hmm, hx, hcell⟩
  · simp at hcs
    subst hcs
    exact ⟨none, 0, [], rfl, QuadAt.nil _ _, by decide⟩
  · simp at hcs
    subst hcs hx
    have hlm : len ≤ m := by rw [hmm]; split <;> omega
    have hb := (wb_slice Try.underlying22 hw).1
    rw [show Try.prog.bytesOf 43 = 32 by kernel_rfl] at hb
    simp only [List.length_map, List.length_range, reachBytes] at hb
    have hv : ∀ i, i < len → ∃ q : I4, w.cell? (a.add (i * 4)) = some (.int .i64 q.1) ∧ w.cell? (a.add (i * 4 + 1)) = some (.int .i64 q.2.1) ∧ w.cell? (a.add (i * 4 + 2)) = some (.int .i64 q.2.2.1) ∧ w.cell? (a.add (i * 4 + 3)) = some (.int .i64 q.2.2.2) := by
      intro i hi
      obtain ⟨ys, n, _, _, _, hf⟩ := hcell i (by omega)
      obtain ⟨v0, y0, c0, _, t0⟩ := hf 0 _ rfl
      obtain ⟨v1, y1, c1, _, t1⟩ := hf 1 _ rfl
      obtain ⟨v2, y2, c2, _, t2⟩ := hf 2 _ rfl
      obtain ⟨v3, y3, c3, _, t3⟩ := hf 3 _ rfl
      obtain ⟨k0, e0, _, _⟩ := DataW.trod_int Try.underlying3 t0
      obtain ⟨k1, e1, _, _⟩ := DataW.trod_int Try.underlying3 t1
      obtain ⟨k2, e2, _, _⟩ := DataW.trod_int Try.underlying3 t2
      obtain ⟨k3, e3, _, _⟩ := DataW.trod_int Try.underlying3 t3
      simp at e0 e1 e2 e3
      subst e0 e1 e2 e3
      exact ⟨(k0, k1, k2, k3), c0, c1, c2, c3⟩
    obtain ⟨q, hq⟩ := Go.Deep.choose_lt hv
    refine ⟨some a, cap, (List.range len).map q, by simp, fun hp => ?_, by simpa using hb⟩
    have hp' : 0 < len := by simpa using hp
    obtain ⟨b, off, rfl⟩ := spot_of (hq 0 hp').1
    refine ⟨b, off, rfl, fun i x hi => ?_⟩
    have hil : i < len := by have := (List.getElem?_eq_some_iff.1 hi).1; simpa using this
    rw [List.getElem?_map, List.getElem?_range hil] at hi
    simp at hi
    subst hi
    obtain ⟨h0, h1, h2, h3⟩ := hq i hil
    rw [add_plain] at h0 h1 h2 h3
    exact ⟨h0, by rw [Nat.add_assoc]; exact h1, by rw [Nat.add_assoc]; exact h2, by rw [Nat.add_assoc]; exact h3⟩
set_option maxRecDepth 100000 in
theorem open_code {r : Reach} {b0 : Nat} {v : Value} {d : DataW H} {p : List MemPlace} (hv : Value.okWide Try.prog w r b0 26 v) (h : DataW.Trod enc Try.prog w base spare held 26 v d p) (hw : WB Try.prog 26 d) :
    ∃ (c : CodeP) (x : CV), v = codeV c x ∧ CodeIn w c x ∧ c.ins.length * 32 ≤ 140737488351232 ∧ c.cs.length * 16 ≤ 140737488351232 ∧ c.list.length * 32 ≤ 140737488351232 := by
  obtain ⟨v0, v1, v2, v3, v4, y0, y1, y2, y3, y4, n, rfl, rfl, t0, t1, t2, t3, t4⟩ := open_agg5 Try.underlying26 (by kernel_rfl) (by kernel_rfl) hv h
  obtain ⟨rg, e0, _, _⟩ := DataW.trod_int Try.underlying3 t0
  obtain ⟨sl, e1, _, _⟩ := DataW.trod_int Try.underlying3 t1
  simp at e0 e1
  subst e0 e1
  have hW2 : WB Try.prog 22 y2.1 := wb_agg Try.underlying26 hw (j := 2) rfl rfl
  have hW3 : WB Try.prog 23 y3.1 := wb_agg Try.underlying26 hw (j := 3) rfl rfl
  have hW4 : WB Try.prog 24 y4.1 := wb_agg Try.underlying26 hw (j := 4) rfl rfl
  obtain ⟨B2, c2, l2, rfl, q2, z2⟩ := open_inps t2 hW2
  obtain ⟨B3, c3, l3, rfl, q3, z3⟩ := open_valuesV t3 hW3
  obtain ⟨B4, c4, l4, rfl, q4, z4⟩ := open_inss t4 hW4
  exact ⟨⟨rg, sl, l2, l3, l4⟩, ⟨B2, c2, B3, c3, B4, c4⟩, rfl, ⟨q2, q3, q4, by show l2.length * 32 ≤ _; omega, by show l3.length * 16 ≤ _; omega, by show l4.length * 32 ≤ _; omega⟩, z2, z3, z4⟩
end
end Go.Proofs.Ytagjfeblkpkgaaa
namespace Go.Proofs.Ytagjfeblkpkgaaa
open Go.ChangeShapes Go.WideShapes Go.ChangeAt Go.RowKit Go.Deep Go.Joins Go.Fl
set_option linter.unusedVariables false
section
variable {H : Type} {enc : TypeId × Value → H} {w : World} {base : Nat} {spare : Nat → Bool} {held : Bool}
set_option maxRecDepth 100000 in
theorem open_valuesT {r : Reach} {b0 : Nat} {v : Value} {d : DataW H} {p : List MemPlace} (hv : Value.okWide Try.prog w r b0 23 v) (h : DataW.Trod enc Try.prog w base spare held 23 v d p) (hw : WB Try.prog 23 d) :
    ∃ (B : Option Addr) (cap : Nat) (vs : List (Int × Nat)), v = .slice B vs.length cap ∧ RowV w B vs.length vs ∧ vs.length * 16 ≤ 140737488351232 := by
  obtain ⟨A0, len, cap, rfl⟩ := okWide_slice Try.underlying23 hv
  obtain ⟨fuel, h⟩ := h
  exact open_valuesV (v := .slice A0 len cap) (by simpa [Value.cells] using h) hw
set_option maxRecDepth 100000 in
theorem open_inssT {r : Reach} {b0 : Nat} {v : Value} {d : DataW H} {p : List MemPlace} (hv : Value.okWide Try.prog w r b0 24 v) (h : DataW.Trod enc Try.prog w base spare held 24 v d p) (hw : WB Try.prog 24 d) :
    ∃ (B : Option Addr) (cap : Nat) (l : List I4), v = .slice B l.length cap ∧ QuadAt w B l ∧ l.length * 32 ≤ 140737488351232 := by
  obtain ⟨A0, len, cap, rfl⟩ := okWide_slice Try.underlying24 hv
  obtain ⟨fuel, h⟩ := h
  exact open_inss (v := .slice A0 len cap) (by simpa [Value.cells] using h) hw
end
end Go.Proofs.Ytagjfeblkpkgaaa
