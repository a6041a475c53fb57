/- A pool: a hold is taken away from a cell. -/
import Derived.Test.YtdgbnibnhajfoaaHpE
import Derived.Test.YtdgbnibnhajfoaaPoJ
namespace Go.Proofs.Ytdgbnibnhajfoaa
open Go.ChangeShapes Go.WideShapes Go.ChangeAt Go.RowKit
set_option linter.unusedVariables false
set_option linter.unusedSimpArgs false

/-- a cell of another block is stored -/
theorem PX.aside {B p M g i : Nat} {vA vF : Value} {s : PS} {w : World} {x : Value} (h : PX B p M vA vF s w) (hg : ∀ q, Has p M vA vF q → q ≠ g) : PX B p M vA vF s (w.setCell ⟨g, i, none⟩ x) ∧ PFr (fun q => q = g) w (w.setCell ⟨g, i, none⟩ x) := by
  have hf : PFr (fun q => q = g) w (w.setCell ⟨g, i, none⟩ x) := PFr.of_grown (mset w ⟨g, i, none⟩ x) fun k e => by injection e with e; exact e.symm
  exact ⟨h.fr hf hg, hf⟩
/-- a result's cells are stored -/
theorem PX.told {B p M g : Nat} {vA vF : Value} {s : PS} {w : World} {a b c d : Value} {cs : Array Value} {t : TypeId} (h : PX B p M vA vF s w) (hg : ∀ q, Has p M vA vF q → q ≠ g) (hk : Blk w g t cs) (hs : cs.size = 4) :
    ∃ u, u = ((((w.setCell ⟨g, 0, none⟩ a).setCell ⟨g, 1, none⟩ b).setCell ⟨g, 2, none⟩ c).setCell ⟨g, 3, none⟩ d) ∧ PX B p M vA vF s u ∧ PFr (fun q => q = g) w u ∧ u.cell? ⟨g, 0, none⟩ = some a ∧ u.cell? ⟨g, 1, none⟩ = some b ∧ u.cell? ⟨g, 2, none⟩ = some c ∧ u.cell? ⟨g, 3, none⟩ = some d := by
  obtain ⟨h1, f1⟩ := h.aside (i := 0) (x := a) hg
  obtain ⟨h2, f2⟩ := h1.aside (i := 1) (x := b) hg
  obtain ⟨h3, f3⟩ := h2.aside (i := 2) (x := c) hg
  obtain ⟨h4, f4⟩ := h3.aside (i := 3) (x := d) hg
  have kb := (((hk.put_ 0 a).put_ 1 b).put_ 2 c).put_ 3 d
  refine ⟨_, rfl, h4, ((f1.trans f2 fun k e => .inl e).trans f3 fun k e => .inl e).trans f4 (fun k e => .inl e), ?_, ?_, ?_, ?_⟩
  all_goals rw [kb.cell]
  all_goals simp [Array.getElem?_setIfInBounds, hs]
/-- what a cell is by itself -/
def keptC (c : Cl) : Value := .agg #[.int .i64 c.prev, .int .i64 c.event, .bool c.fresh, .int .i64 c.own]
set_option maxHeartbeats 8000000 in
set_option maxRecDepth 100000 in
theorem release_more (B p M : Nat) (vA vF : Value) (s : PS) (w : World) (h : PX B p M vA vF s w) (k : Nat) (c : Cl) (hc : s.all[k]? = some c) (hb : 2 ≤ c.holds ∧ c.holds < 4611686018427387904) :
    Calls Try.prog 33 #[.pointer (some ⟨p, 1, none⟩), .int .i64 (k : Int)] w fun e w' => e = .returned (.tuple #[keptC c, .bool false]) ∧
      PX B p M vA vF { s with all := s.all.set k { c with holds := c.holds - 1 } } w' ∧ PFr (fun q => vA.ownBlock = some q) w w' := by
  obtain ⟨A, cap, hv, hl1, hl2, c0, c1, c2, c3, c4⟩ := h.cl hc
  subst hv
  have hlt : k < s.all.length := (List.getElem?_eq_some_iff.1 hc).1
  have hm := m1 w (.cells #[.int .i64 0, .int .i64 0, .bool false, .int .i64 0] 66)
  have h1 := h.later hm
  have kg := Blk.made w 66 #[.int .i64 0, .int .i64 0, .bool false, .int .i64 0]
  have hap : ∀ q, Has p M (.slice (some ⟨A, 0, none⟩) s.all.length cap) vF q → q < w.heap.size := fun q hq => (h.lt hq).1
  have d1 := h1.blk.cell 1
  simp at d1
  go_enter Try.func33, Try.ntmps33
  go_upto_region 1 with (fail)
  generalize w.alloc (.cells #[.int .i64 0, .int .i64 0, .bool false, .int .i64 0] 66) = u at *
  obtain ⟨g, hg⟩ : ∃ g, w.heap.size = g := ⟨_, rfl⟩
  rw [hg] at kg hap
  rw [hg]
  obtain ⟨q1, q2, q3⟩ := h1.put (j := 4) (v := .int .i64 (c.holds - 1)) (c' := { c with holds := c.holds - 1 }) hc (by omega) rfl
  have hw : IntKind.i64.wrap (c.holds - 1) = c.holds - 1 := by rw [IntKind.wrap_i64]; omega
  obtain ⟨A', cap', hv', _, _, _, _, _, _, e4⟩ := h1.cl hc
  cases hv'
  have kg2 := kg.else_ (p := ⟨A, k * 5 + 4, none⟩) (show A ≠ g from fun e => by have := hap A (.inr (.inr (.inl rfl))); omega) (.int .i64 (c.holds - 1))
  have k0 : (0 : Int) ≤ (k : Int) := by omega
  obtain ⟨n, hn⟩ : ∃ n, s.all.length = n := ⟨_, rfl⟩
  rw [hn] at d1 hlt hl1
  have k1 : (k : Int) < (n : Int) := by omega
  have n9 : (n : Int) ≤ 9223372036854775807 := by unfold maxLen at hl2; omega
  replace q1 := Lib.hid q1
  replace q2 := Lib.hid q2
  replace kg2 := Lib.hid kg2
  replace hm := Lib.hid hm
  replace hap := Lib.hid hap
  replace h := Lib.hid h
  clear h1 kg c0 c1 c2 c3 c4
  go_upto_region 3 with (fail)
  generalize u.setCell ⟨A, k * 5 + 4, none⟩ (.int .i64 (c.holds - 1)) = u2 at *
  obtain ⟨A', cap', hv', _, _, f0, f1, f2, f3, f4⟩ := q1.out.cl (k := k) (c := { c with holds := c.holds - 1 }) (by simp [hn, hlt])
  injection hv' with z1 _ z3
  injection z1 with z1
  injection z1 with z1
  subst z1
  clear e4 q3 z3
  simp only at f0 f1 f2 f3 f4
  have hm3 := Lib.hid (m1 u2 (.cells #[.int .i64 c.prev, .int .i64 c.event, .bool c.fresh, .int .i64 c.own] 66))
  have kg3 := Blk.made u2 66 #[.int .i64 c.prev, .int .i64 c.event, .bool c.fresh, .int .i64 c.own]
  have hh3 := cell_later hm3.out f4
  have kg4 := kg2.out.kept hm3.out
  have q4 := q1.out.later hm3.out
  go_upto_region 4 with (fail)
  generalize u2.alloc (.cells #[.int .i64 c.prev, .int .i64 c.event, .bool c.fresh, .int .i64 c.own] 66) = u3 at *
  have hgz := hm3.out.size
  have hpos : decide (0 < c.holds - 1) = true := by simp; omega
  have t0 : u3.cell? ⟨u2.heap.size, 0, none⟩ = some (.int .i64 c.prev) := kg3.cell 0
  have t1 : u3.cell? ⟨u2.heap.size, 1, none⟩ = some (.int .i64 c.event) := kg3.cell 1
  have t2 : u3.cell? ⟨u2.heap.size, 2, none⟩ = some (.bool c.fresh) := kg3.cell 2
  have t3 : u3.cell? ⟨u2.heap.size, 3, none⟩ = some (.int .i64 c.own) := kg3.cell 3
  have r0 : u3.cell? ⟨g, 0, none⟩ = some (.int .i64 0) := kg4.cell 0
  have r1 : u3.cell? ⟨g, 1, none⟩ = some (.int .i64 0) := kg4.cell 1
  have r2 : u3.cell? ⟨g, 2, none⟩ = some (.bool false) := kg4.cell 2
  have r3 : u3.cell? ⟨g, 3, none⟩ = some (.int .i64 0) := kg4.cell 3
  have rf : ∀ i, u3.frozen? ⟨g, i, none⟩ = false := fun i => kg4.free i
  obtain ⟨u4, hu4, q5, f5, s0, s1, s2, s3⟩ := q4.told (a := .int .i64 c.prev) (b := .int .i64 c.event) (c := .bool c.fresh) (d := .int .i64 c.own) (fun q hq e => by have := hap.out q hq; omega) kg4 rfl
  have hend := Lib.hid (show PX B p M (.slice (some ⟨A, 0, none⟩) s.all.length cap) vF { s with all := s.all.set k { c with holds := c.holds - 1 } } u4 ∧ PFr (fun q => (Value.slice (some ⟨A, 0, none⟩) s.all.length cap).ownBlock = some q) w u4 from
    ⟨q5, (((PFr.of_below hm.out).trans (PFr.of_grown (D := fun q => (Value.slice (some ⟨A, 0, none⟩) s.all.length cap).ownBlock = some q) q2.out fun q e => e) fun q e => .inl e).trans (PFr.of_below (D := fun _ => False) hm3.out) fun _ e => e.elim).trans f5 fun q e => .inr (by subst e; omega)⟩)
  clear f0 f1 f2 f3 f4 kg3 kg4 q4 q5 f5
  go_wp2
  rw [← hu4]
  refine bodyPost_ret (v := .tuple #[keptC c, .bool false]) (by simp [results, Try.results33, go_sem, s0, s1, s2, s3, keptC]) rfl ⟨rfl, ?_⟩
  first | exact hend.out | (rw [hn] at hend; exact hend.out)
set_option maxHeartbeats 8000000 in
set_option maxRecDepth 100000 in
theorem release_last (B p M : Nat) (vA vF : Value) (s : PS) (w : World) (h : PX B p M vA vF s w) (k : Nat) (c : Cl) (hc : s.all[k]? = some c) (hb : c.holds = 1) (hh : HeapN s.free s.free.length) (hs : s.free.length < 900000) :
    Calls Try.prog 33 #[.pointer (some ⟨p, 1, none⟩), .int .i64 (k : Int)] w fun e w' => e = .returned (.tuple #[keptC c, .bool true]) ∧
      ∃ l vF', HeapN l l.length ∧ l.Perm ((k : Int) :: s.free) ∧ PX B p M vA vF' { s with all := s.all.set k cl0, free := l } w' ∧ PFr (fun q => q = p ∨ vA.ownBlock = some q ∨ vF.ownBlock = some q) w w' ∧ ∀ q, vF'.ownBlock = some q → vF.ownBlock = some q ∨ w.heap.size ≤ q := by
  replace hb := Lib.hid hb
  obtain ⟨A, cap, hv, hl1, hl2, c0, c1, c2, c3, c4⟩ := h.cl hc
  subst hv
  have hlt : k < s.all.length := (List.getElem?_eq_some_iff.1 hc).1
  have hm := m1 w (.cells #[.int .i64 0, .int .i64 0, .bool false, .int .i64 0] 66)
  have h1 := h.later hm
  have kg := Blk.made w 66 #[.int .i64 0, .int .i64 0, .bool false, .int .i64 0]
  have hap : ∀ q, Has p M (.slice (some ⟨A, 0, none⟩) s.all.length cap) vF q → q < w.heap.size := fun q hq => (h.lt hq).1
  have d1 := h1.blk.cell 1
  simp at d1
  go_enter Try.func33, Try.ntmps33
  go_upto_region 1 with (fail)
  generalize w.alloc (.cells #[.int .i64 0, .int .i64 0, .bool false, .int .i64 0] 66) = u at *
  obtain ⟨g, hg⟩ : ∃ g, w.heap.size = g := ⟨_, rfl⟩
  rw [hg] at kg hap
  rw [hg]
  obtain ⟨q1, q2, q3⟩ := h1.put (j := 4) (v := .int .i64 (c.holds - 1)) (c' := { c with holds := c.holds - 1 }) hc (by omega) rfl
  have hw : IntKind.i64.wrap (c.holds - 1) = c.holds - 1 := by rw [IntKind.wrap_i64]; have := hb.out; omega
  obtain ⟨A', cap', hv', _, _, _, _, _, _, e4⟩ := h1.cl hc
  cases hv'
  have kg2 := kg.else_ (p := ⟨A, k * 5 + 4, none⟩) (show A ≠ g from fun e => by have := hap A (.inr (.inr (.inl rfl))); omega) (.int .i64 (c.holds - 1))
  have k0 : (0 : Int) ≤ (k : Int) := by omega
  obtain ⟨n, hn⟩ : ∃ n, s.all.length = n := ⟨_, rfl⟩
  rw [hn] at d1 hlt hl1
  have k1 : (k : Int) < (n : Int) := by omega
  have n9 : (n : Int) ≤ 9223372036854775807 := by unfold maxLen at hl2; omega
  replace q1 := Lib.hid q1
  replace q2 := Lib.hid q2
  replace kg2 := Lib.hid kg2
  replace hm := Lib.hid hm
  replace hap := Lib.hid hap
  replace h := Lib.hid h
  clear h1 kg c0 c1 c2 c3 c4
  go_upto_region 3 with (fail)
  generalize u.setCell ⟨A, k * 5 + 4, none⟩ (.int .i64 (c.holds - 1)) = u2 at *
  obtain ⟨A', cap', hv', _, _, f0, f1, f2, f3, f4⟩ := q1.out.cl (k := k) (c := { c with holds := c.holds - 1 }) (by simp [hn, hlt])
  injection hv' with z1 _ z3
  injection z1 with z1
  injection z1 with z1
  subst z1
  clear e4 q3 z3
  simp only at f0 f1 f2 f3 f4
  have hm3 := Lib.hid (m1 u2 (.cells #[.int .i64 c.prev, .int .i64 c.event, .bool c.fresh, .int .i64 c.own] 66))
  have kg3 := Blk.made u2 66 #[.int .i64 c.prev, .int .i64 c.event, .bool c.fresh, .int .i64 c.own]
  have hh3 := cell_later hm3.out f4
  have kg4 := kg2.out.kept hm3.out
  have q4 := q1.out.later hm3.out
  go_upto_region 4 with (fail)
  generalize u2.alloc (.cells #[.int .i64 c.prev, .int .i64 c.event, .bool c.fresh, .int .i64 c.own] 66) = u3 at *
  have hgz := hm3.out.size
  have hpos : decide (0 < c.holds - 1) = false := by have := hb.out; simp; omega
  have hpos2 : decide (1 < c.holds) = false := by have := hb.out; simp; omega
  have hpos3 : c.holds ≤ 1 := by have := hb.out; omega
  have t0 : u3.cell? ⟨u2.heap.size, 0, none⟩ = some (.int .i64 c.prev) := kg3.cell 0
  have t1 : u3.cell? ⟨u2.heap.size, 1, none⟩ = some (.int .i64 c.event) := kg3.cell 1
  have t2 : u3.cell? ⟨u2.heap.size, 2, none⟩ = some (.bool c.fresh) := kg3.cell 2
  have t3 : u3.cell? ⟨u2.heap.size, 3, none⟩ = some (.int .i64 c.own) := kg3.cell 3
  have hgz2 : g ≤ u2.heap.size := by
    have h1 := hm.out.size
    have h2 := q2.out.size
    omega
  obtain ⟨gz, hgze⟩ : ∃ x, u2.heap.size = x := ⟨_, rfl⟩
  rw [hgze] at t0 t1 t2 t3 kg3 hgz2
  rw [hgze]
  have hcs : ({ s with all := s.all.set k { c with holds := c.holds - 1 } } : PS).all[k]? = some { c with holds := c.holds - 1 } := by simp [hn, hlt]
  obtain ⟨x1, x2, z3, _, _, e0, e1, e2, e3, e4⟩ := q4.cl hcs
  injection z3 with z3 z5 z4
  injection z3 with z3
  injection z3 with z3
  subst z3
  clear z4 z5
  have ff : ∀ j, u3.frozen? ⟨A, j, none⟩ = false := fun j => q4.frozen (by simp; omega) j
  obtain ⟨r1, r2⟩ := q4.put5 (c' := cl0) hcs
  have hset : ({ s with all := (s.all.set k { c with holds := c.holds - 1 }).set k cl0 } : PS) = { s with all := s.all.set k cl0 } := by rw [List.set_set]
  simp only [List.set_set] at r1
  have hAg : A < g := hap.out A (.inr (.inr (.inl rfl)))
  have kg5 := Lib.hid (kg4.grown r2 (fun e => by injection e with e; omega))
  have kg6 := Lib.hid (kg3.grown r2 (fun e => by injection e with e; omega))
  simp only [cl0] at r1 r2 kg5 kg6
  replace r1 := Lib.hid r1
  replace r2 := Lib.hid r2
  clear f0 f1 f2 f3 f4 kg3 kg4 q4 t0 t1 t2 t3 hcs hset hgze
  go_upto_region 7 with (fail)
  generalize ((((u3.setCell ⟨A, k * 5, none⟩ (.int .i64 0)).setCell ⟨A, k * 5 + 1, none⟩ (.int .i64 0)).setCell ⟨A, k * 5 + 2, none⟩ (.bool false)).setCell ⟨A, k * 5 + 3, none⟩ (.int .i64 0)).setCell ⟨A, k * 5 + 4, none⟩ (.int .i64 0) = u5 at *
  have P := Lib.hid (hpush_any B p M _ vF _ u5 r1.out hh (k : Int) hs)
  clear e0 e1 e2 e3 e4 ff
  go_wp2_with fail
  refine P.out.mono ?_
  rintro e w6 ⟨rfl, l, hh', hp', vF', h6, f6, o6⟩
  have hpg : ∀ q, (q = p ∨ vF.ownBlock = some q) → q < g := fun q hq => hap.out q (by rcases hq with e | e; exact .inl e; exact .inr (.inr (.inr e)))
  have kg7 : Blk w6 g _ _ := (f6.block g kg5.out.lt fun e => by have := hpg g e; omega).trans kg5.out
  have kg8 : Blk w6 gz _ _ := (f6.block gz kg6.out.lt fun e => by have := hpg gz e; omega).trans kg6.out
  have y0 : w6.cell? ⟨gz, 0, none⟩ = some (.int .i64 c.prev) := kg8.cell 0
  have y1 : w6.cell? ⟨gz, 1, none⟩ = some (.int .i64 c.event) := kg8.cell 1
  have y2 : w6.cell? ⟨gz, 2, none⟩ = some (.bool c.fresh) := kg8.cell 2
  have y3 : w6.cell? ⟨gz, 3, none⟩ = some (.int .i64 c.own) := kg8.cell 3
  have v0 : w6.cell? ⟨g, 0, none⟩ = some (.int .i64 0) := kg7.cell 0
  have v1 : w6.cell? ⟨g, 1, none⟩ = some (.int .i64 0) := kg7.cell 1
  have v2 : w6.cell? ⟨g, 2, none⟩ = some (.bool false) := kg7.cell 2
  have v3 : w6.cell? ⟨g, 3, none⟩ = some (.int .i64 0) := kg7.cell 3
  have vf : ∀ i, w6.frozen? ⟨g, i, none⟩ = false := fun i => kg7.free i
  have hs5 : u3.heap.size ≤ u5.heap.size := r2.out.size
  have hg5 : g < u5.heap.size := kg5.out.lt
  have hg5' : g < u5.heap.size := kg5.out.lt
  obtain ⟨u4, hu4, q5, f5, s0, s1, s2, s3⟩ := h6.told (a := .int .i64 c.prev) (b := .int .i64 c.event) (c := .bool c.fresh) (d := .int .i64 c.own) (fun q hq e => by
    rcases hq with e' | e' | e' | e'
    · have := hpg q (.inl e'); omega
    · have := hap.out q (.inr (.inl e')); omega
    · have := hap.out q (.inr (.inr (.inl e'))); omega
    · rcases o6 q e' with e' | e'
      · have := hpg q (.inr e'); omega
      · omega) kg7 rfl
  have hD : ∀ q, vF'.ownBlock = some q → vF.ownBlock = some q ∨ w.heap.size ≤ q := fun q e => by
    rcases o6 q e with e | e
    · exact .inl e
    · right; omega
  have hend := Lib.hid (show ∃ l vF', HeapN l l.length ∧ l.Perm ((k : Int) :: s.free) ∧ PX B p M (.slice (some ⟨A, 0, none⟩) s.all.length cap) vF' { s with all := s.all.set k cl0, free := l } u4 ∧ PFr (fun q => q = p ∨ (Value.slice (some ⟨A, 0, none⟩) s.all.length cap).ownBlock = some q ∨ vF.ownBlock = some q) w u4 ∧ ∀ q, vF'.ownBlock = some q → vF.ownBlock = some q ∨ w.heap.size ≤ q from
    ⟨l, vF', hh', hp', q5, (((((PFr.of_below hm.out).trans (PFr.of_grown (D := fun q => q = p ∨ (Value.slice (some ⟨A, 0, none⟩) s.all.length cap).ownBlock = some q ∨ vF.ownBlock = some q) q2.out fun q e => .inr (.inl e)) fun q e => .inl e).trans (PFr.of_below (D := fun _ => False) hm3.out) fun _ e => e.elim).trans (PFr.of_grown (D := fun q => q = p ∨ (Value.slice (some ⟨A, 0, none⟩) s.all.length cap).ownBlock = some q ∨ vF.ownBlock = some q) r2.out fun q e => .inr (.inl e)) fun q e => .inl e).trans f6 fun q e => .inl (by rcases e with e | e; exact .inl e; exact .inr (.inr e))).trans f5 fun q e => .inr (by subst e; omega), hD⟩)
  clear h6 f6 o6 kg7 kg8 q5 f5 hD hh' hp'
  go_wp2
  rw [← hu4]
  refine bodyPost_ret (v := .tuple #[keptC c, .bool true]) (by simp [results, Try.results33, go_sem, s0, s1, s2, s3, keptC]) rfl ⟨rfl, ?_⟩
  first | exact hend.out | (rw [hn] at hend; exact hend.out)
end Go.Proofs.Ytdgbnibnhajfoaa
