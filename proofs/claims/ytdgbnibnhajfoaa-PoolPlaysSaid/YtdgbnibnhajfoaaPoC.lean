/- A pool: a new cell, put behind all others. -/
import Derived.Test.YtdgbnibnhajfoaaPoB
namespace Go.Proofs.Ytdgbnibnhajfoaa
open Go.ChangeShapes Go.WideShapes Go.ChangeAt Go.RowKit
set_option linter.unusedVariables false
set_option linter.unusedSimpArgs false

theorem infoCl : (Try.prog.info? 68).map (fun i => (i.zero, i.size, i.bytes)) = some (some (.agg #[.int .i64 0, .int .i64 0, .bool false, .int .i64 0, .int .i64 0]), 5, 40) := by kernel_rfl
def cl0 : Cl := ⟨0, 0, false, 0, 0⟩
theorem cl0_one : ∀ u ∈ clC cl0, u.oneCell' = true := by decide
theorem news_cl0 (w : World) (t : TypeId) : ∀ (j : Nat) (u : Value), (clC cl0)[j]? = some u → (w.alloc (.cells #[.int .i64 0, .int .i64 0, .bool false, .int .i64 0, .int .i64 0] t)).cell? ((⟨w.heap.size, 0, none⟩ : Addr).add j) = some u := by
  intro j u hj
  match j, hj with
  | 0, hj => simp [clC, cl0] at hj; subst hj; simp [Addr.add]
  | 1, hj => simp [clC, cl0] at hj; subst hj; simp [Addr.add]
  | 2, hj => simp [clC, cl0] at hj; subst hj; simp [Addr.add]
  | 3, hj => simp [clC, cl0] at hj; subst hj; simp [Addr.add]
  | 4, hj => simp [clC, cl0] at hj; subst hj; simp [Addr.add]
  | n + 5, hj => simp [clC, cl0] at hj
/-- a whole cell of a pool's row is stored -/
theorem PX.put5 {B p M A n cap : Nat} {vF : Value} {s : PS} {w : World} (h : PX B p M (.slice (some ⟨A, 0, none⟩) n cap) vF s w) {k : Nat} {c c' : Cl} (hc : s.all[k]? = some c) :
    PX B p M (.slice (some ⟨A, 0, none⟩) n cap) vF { s with all := s.all.set k c' } (((((w.setCell ⟨A, k * 5, none⟩ (.int .i64 c'.prev)).setCell ⟨A, k * 5 + 1, none⟩ (.int .i64 c'.event)).setCell ⟨A, k * 5 + 2, none⟩ (.bool c'.fresh)).setCell ⟨A, k * 5 + 3, none⟩ (.int .i64 c'.own)).setCell ⟨A, k * 5 + 4, none⟩ (.int .i64 c'.holds)) ∧
      w.grownBy (((((w.setCell ⟨A, k * 5, none⟩ (.int .i64 c'.prev)).setCell ⟨A, k * 5 + 1, none⟩ (.int .i64 c'.event)).setCell ⟨A, k * 5 + 2, none⟩ (.bool c'.fresh)).setCell ⟨A, k * 5 + 3, none⟩ (.int .i64 c'.own)).setCell ⟨A, k * 5 + 4, none⟩ (.int .i64 c'.holds)) (some A) := by
  have hlt : k < s.all.length := (List.getElem?_eq_some_iff.1 hc).1
  obtain ⟨p1, g1, _⟩ := h.put (j := 0) (v := .int .i64 c'.prev) (c' := { c with prev := c'.prev }) hc (by omega) rfl
  obtain ⟨p2, g2, _⟩ := p1.put (k := k) (j := 1) (v := .int .i64 c'.event) (c := { c with prev := c'.prev }) (c' := { c with prev := c'.prev, event := c'.event }) (by simp [hlt]) (by omega) rfl
  obtain ⟨p3, g3, _⟩ := p2.put (k := k) (j := 2) (v := .bool c'.fresh) (c := { c with prev := c'.prev, event := c'.event }) (c' := { c with prev := c'.prev, event := c'.event, fresh := c'.fresh }) (by simp [hlt]) (by omega) rfl
  obtain ⟨p4, g4, _⟩ := p3.put (k := k) (j := 3) (v := .int .i64 c'.own) (c := { c with prev := c'.prev, event := c'.event, fresh := c'.fresh }) (c' := { c' with holds := c.holds }) (by simp [hlt]) (by omega) rfl
  obtain ⟨p5, g5, _⟩ := p4.put (k := k) (j := 4) (v := .int .i64 c'.holds) (c := { c' with holds := c.holds }) (c' := c') (by simp [hlt]) (by omega) rfl
  refine ⟨?_, mgrown (mgrown (mgrown (mgrown g1 g2 ?_) g3 ?_) g4 ?_) g5 ?_⟩
  · simpa only [List.set_set, Nat.add_zero] using p5
  all_goals exact fun k hk => .inl hk
theorem PX.frozen {B p M A n cap : Nat} {vF : Value} {s : PS} {w : World} (h : PX B p M (.slice (some ⟨A, 0, none⟩) n cap) vF s w) (hn : 0 < s.all.length) (j : Nat) : w.frozen? ⟨A, j, none⟩ = false := by
  obtain ⟨A', cap', hv', _⟩ := h.cl (List.getElem?_eq_getElem hn)
  cases hv'
  exact h.all.frozenAt _

theorem cellsP_snoc (l : List Cl) (c : Cl) : cellsP (l ++ [c]) = cellsP l ++ clC c := by simp [cellsP]
/-- a pool's row has grown -/
theorem PX.grow {B p M : Nat} {vA vF v' : Value} {s : PS} {u w3 : World} (h : PX B p M vA vF s u) (hO : w3.ownsRow B 68 5 v' (s.all.length + 1) (cellsP s.all ++ clC cl0)) (hG : u.grownBy w3 vA.ownBlock) :
    w3.frozen? ⟨p, 1, none⟩ = false ∧ w3.cell? ⟨p, 1, none⟩ = some vA ∧ PX B p M v' vF { s with all := s.all ++ [cl0] } (w3.setCell ⟨p, 1, none⟩ v') ∧ PFr (fun k => k = p ∨ vA.ownBlock = some k) u (w3.setCell ⟨p, 1, none⟩ v') := by
  obtain ⟨n1, n2, n3, n4, n5, n6⟩ := h.ne_A
  have b3 := h.blk.grown hG n1
  have f3 : w3.ownsRow B 3 1 vF s.free.length (s.free.map (Value.int .i64)) := h.free.kept hG (by
    rcases n6 with n6 | n6
    · by_cases e : vF.ownBlock = none
      · exact .inl e
      · right; rw [n6]; exact e
    · exact .inr fun e => n6 e.symm)
  have m3 : EMap encL w3 M _ := h.num.grown hG (fun e => n4 e.symm)
  have hs := mset w3 ⟨p, 1, none⟩ v'
  have nv : v'.ownBlock ≠ some p := fun e => b3.own_ne hO (by decide) e.symm
  refine ⟨b3.free 1, b3.cell 1, ⟨b3.put_ 1 v', ?_, mown_set f3 (fun e => n2 e.symm) _, m3.grown hs (fun e => n3 (by injection e with e; exact e.symm)), h.low⟩, ?_⟩
  · rw [List.length_append, cellsP_snoc]; exact mown_set hO nv _
  · exact (PFr.of_grown hG fun k e => .inr e).trans (D' := fun k => k = p) (PFr.of_grown hs fun k e => by injection e with e; exact e.symm) fun k e => .inl (.inl e)
def keptV (x : Ln) (own : Int) : Value := .agg #[.int .i64 x.1, .int .i64 x.2.1, .bool x.2.2, .int .i64 own]
def newC (x : Ln) (own : Int) : Cl := ⟨x.1, x.2.1, x.2.2, own, 1⟩
set_option maxHeartbeats 4000000 in
set_option maxRecDepth 100000 in
theorem ladd_new (B p M : Nat) (vA vF : Value) (s : PS) (w : World) (h : PX B p M vA vF s w) (hf : s.free = []) (hn : s.all.length < 1000000) (x : Ln) (own : Int) :
    Calls Try.prog 25 #[.pointer (some ⟨p, 1, none⟩), keptV x own] w fun e w' => e = .returned (.int .i64 (s.all.length : Int)) ∧
      ∃ vA', PX B p M vA' vF { s with all := s.all ++ [newC x own] } w' ∧ PFr (fun k => k = p ∨ vA.ownBlock = some k) w w' ∧ ∀ k, vA'.ownBlock = some k → vA.ownBlock = some k ∨ w.heap.size ≤ k := by
  obtain ⟨i0, hi, hz0, hz1, hz2⟩ := info_parts infoCl
  obtain ⟨x0, x1, x2⟩ := x
  have hm := m1 w (.cells #[.int .i64 x0, .int .i64 x1, .bool x2, .int .i64 own] 66)
  have h1 := h.later hm
  have kb := Blk.made w 66 #[.int .i64 x0, .int .i64 x1, .bool x2, .int .i64 own]
  obtain ⟨A, cap, hv, h2⟩ := h.len
  obtain ⟨A', cap', hv', h2'⟩ := h.lenF
  have hlow : B ≤ w.heap.size := Nat.le_of_lt (Nat.lt_of_le_of_lt h.low.1 h.blk.lt)
  have hplt := h.blk.lt
  rw [hf] at hv'
  show Calls _ _ #[_, .agg #[.int .i64 x0, .int .i64 x1, .bool x2, .int .i64 own]] _ _
  have d1 := h1.blk.cell 1
  have d2 := h1.blk.cell 2
  simp only [hv, hv'] at d1 d2
  have C := Lib.hid (fun u => lenI_any A' 0 cap' u)
  replace hi := Lib.hid hi
  replace hz1 := Lib.hid hz1
  replace hz2 := Lib.hid hz2
  clear h hv'
  go_enter Try.func25, Try.ntmps25
  go_upto_region 1 with (fail)
  generalize w.alloc (.cells #[.int .i64 x0, .int .i64 x1, .bool x2, .int .i64 own] 66) = u at *
  replace hm := Lib.hid hm
  obtain ⟨g, hg⟩ : ∃ g, w.heap.size = g := ⟨_, rfl⟩
  rw [hg] at kb hlow hplt
  rw [hg]
  replace hg := Lib.hid hg
  have c0 : u.cell? ⟨g, 0, none⟩ = some (.int .i64 x0) := kb.cell 0
  have c1 : u.cell? ⟨g, 1, none⟩ = some (.int .i64 x1) := kb.cell 1
  have c2 : u.cell? ⟨g, 2, none⟩ = some (.bool x2) := kb.cell 2
  have c3 : u.cell? ⟨g, 3, none⟩ = some (.int .i64 own) := kb.cell 3
  obtain ⟨n, hN⟩ : ∃ n, s.all.length = n := ⟨_, rfl⟩
  have hO := h1.all
  rw [hN] at hO d1 hv h2 hn
  have n9 : (n : Int) ≤ 9223372036854775807 := by omega
  replace h1 := Lib.hid h1
  replace hN := Lib.hid hN
  subst hv
  simp only [List.length_nil] at d2
  go_wp2_with fail
  refine (C.out _).mono ?_
  rintro e w1 ⟨rfl, rfl⟩
  go_wp2_with (at_builtin; refine wpList_append_any _ rfl (.tmp 28) (.tmp 30) 53 rfl B 68 i0 (.agg #[.int .i64 0, .int .i64 0, .bool false, .int .i64 0, .int .i64 0]) 5 40 Try.underlying53 hi.out hz0 hz1.out hz2.out rfl (by decide) (.slice A n cap) n (cellsP s.all) rfl (hO.alloc _) (u.heap.size + 1) (some ⟨u.heap.size, 0, none⟩) 1 1 (clC cl0) rfl ⟨rfl, fun _ => ⟨_, rfl, Nat.lt_succ_self _, news_cl0 u _⟩⟩ ?c2 ?c3 ?c4 ?c5 ?_)
  case c2 => exact cl0_one
  case c3 => unfold maxLen; omega
  case c4 => omega
  case c5 => exact Nat.le_of_lt (Nat.lt_of_le_of_lt (Nat.le_trans hlow (Nat.le_of_lt kb.lt)) (by simp))
  intro v' w3 hO3 hG3 hown
  have hmu := m1 u (.cells #[.int .i64 0, .int .i64 0, .bool false, .int .i64 0, .int .i64 0] 68)
  have hu1 := h1.out.later hmu
  have hO3' := hO3
  rw [← hN.out] at hO3'
  obtain ⟨q1, q2, q3, q4⟩ := hu1.grow hO3' hG3
  obtain ⟨g3, cap3, rfl, hg3, _⟩ := hO3.form (by omega)
  have kb3 := (kb.kept hmu).grown hG3 ((kb.kept hmu).own_ne (hO.alloc _) (by decide))
  have kb4 := kb3.else_ (p := ⟨p, 1, none⟩) (show p ≠ g by omega) (.slice (some ⟨g3, 0, none⟩) (n + 1) cap3)
  have q0 := (PFr.of_below (D := fun k => k = p ∨ (Value.slice A n cap).ownBlock = some k) hmu).trans q4 fun k e => .inl e
  have q5 : (w3.setCell ⟨p, 1, none⟩ (.slice (some ⟨g3, 0, none⟩) (n + 1) cap3)).cell? ⟨p, 1, none⟩ = some (.slice (some ⟨g3, 0, none⟩) (n + 1) cap3) := q3.blk.cell 1
  have hown2 : u.heap.size ≤ g3 ∨ (Value.slice A n cap).ownBlock = some g3 := by
    rcases hown with e | e
    · right; rw [← e]; rfl
    · left
      have e : g3 = u.heap.size + 1 := by simpa [Value.ownBlock] using e
      omega
  replace hown2 := Lib.hid hown2
  clear hO3 hO3' hG3 hmu hu1 kb3 q4 kb hown
  replace q0 := Lib.hid q0
  replace q3 := Lib.hid q3
  go_upto_region 5 with (fail)
  generalize w3.setCell ⟨p, 1, none⟩ (.slice (some ⟨g3, 0, none⟩) (n + 1) cap3) = w4 at *
  have hcn : ({ s with all := s.all ++ [cl0] } : PS).all[n]? = some cl0 := by rw [← hN.out]; simp
  obtain ⟨z1, z2, z3, _, _, e0, e1, e2, e3, e4⟩ := q3.out.cl hcn
  injection z3 with z3 z5 z4
  clear z5
  injection z3 with z3
  injection z3 with z3
  subst z3 z4
  have f : ∀ j, w4.frozen? ⟨g3, j, none⟩ = false := fun j => q3.out.frozen (by simp) j
  have a0 : w4.cell? ⟨g, 0, none⟩ = some (.int .i64 x0) := kb4.cell 0
  have a1 : w4.cell? ⟨g, 1, none⟩ = some (.int .i64 x1) := kb4.cell 1
  have a2 : w4.cell? ⟨g, 2, none⟩ = some (.bool x2) := kb4.cell 2
  have a3 : w4.cell? ⟨g, 3, none⟩ = some (.int .i64 own) := kb4.cell 3
  obtain ⟨r1, r2⟩ := q3.out.put5 (c' := newC (x0, x1, x2) own) hcn
  have r3 : ({ s with all := s.all ++ [cl0] } : PS).all.set n (newC (x0, x1, x2) own) = s.all ++ [newC (x0, x1, x2) own] := by rw [← hN.out]; simp
  dsimp only at r1 r3
  rw [r3] at r1
  have k0 : (0 : Int) ≤ (n : Int) := by omega
  have k1 : (n : Int) < (n : Int) + 1 := by omega
  have n10 : (n : Int) + 1 ≤ 9223372036854775807 := by omega
  clear kb4 hO d1 d2 c0 c1 c2 c3 q1 q2 hz0 hf
  have hend := Lib.hid (show ∃ vA', PX B p M vA' vF { s with all := s.all ++ [newC (x0, x1, x2) own] } _ ∧ PFr (fun k => k = p ∨ (Value.slice A n cap).ownBlock = some k) w _ ∧ ∀ k, vA'.ownBlock = some k → (Value.slice A n cap).ownBlock = some k ∨ w.heap.size ≤ k from
    ⟨_, r1, ((PFr.of_below hm.out).trans (q0.out) fun k e => .inl e).trans (PFr.of_grown (D := fun k => k = g3) r2 fun k e => by injection e with e; exact e.symm) fun k e => by
      rcases hown2.out with e2 | e2
      · right; subst e; exact Nat.le_trans hm.out.size e2
      · left; subst e; exact .inr e2, fun k e => by
      have e : g3 = k := by simpa [Value.ownBlock] using e
      rcases hown2.out with e2 | e2
      · right; rw [← e]; exact Nat.le_trans hm.out.size e2
      · left; rw [← e]; exact e2⟩)
  clear r1 r2 r3 hcn
  go_region_law (fail)
  all_goals go_wp2
  all_goals go_ret
  all_goals
    obtain ⟨vA', e1, e2, e3⟩ := hend.out
    exact ⟨by rw [hN.out]; rfl, vA', e1.later (Below.refl _ _).drew, e2.trans (D' := fun _ => False) (PFr.of_below (Below.refl _ _).drew) (fun _ h => h.elim), e3⟩
end Go.Proofs.Ytdgbnibnhajfoaa
