/- A pool: Add, as long as nothing was ever let go (or the cell is there). -/
import Derived.Test.YtdgbnibnhajfoaaPoD
namespace Go.Proofs.Ytdgbnibnhajfoaa
open Go.ChangeShapes Go.WideShapes Go.ChangeAt Go.RowKit
set_option linter.unusedVariables false
set_option linter.unusedSimpArgs false

/-- what tells a cell from others -/
def lnk (prev event : Int) (fresh : Bool) : Ln := (prev, event, fresh || prev == -1)
/-- may a cell be put here? -/
def goodA (s : PS) (prev event : Int) : Prop := 0 ≤ event ∧ (prev = -1 ∨ ∃ c, findP s prev = some c)
/-- the one ahead is held once more -/
def bump (s : PS) (prev : Int) : PS := match findP s prev with | some c => { s with all := s.all.set prev.toNat { c with holds := c.holds + 1 } } | none => s
def putN (f : Ln → Option Int) (x : Ln) (v : Int) : Ln → Option Int := fun j => if j = x then some v else f j
/-- a new cell, behind all others -/
def addP (s : PS) (x : Ln) : PS := { bump s x.1 with all := (bump s x.1).all ++ [newC x 1], num := putN s.num x s.all.length }
theorem bump_len (s : PS) (prev : Int) : (bump s prev).all.length = s.all.length ∧ (bump s prev).free = s.free ∧ (bump s prev).num = s.num ∧ (bump s prev).most = s.most := by
  unfold bump
  split <;> simp
theorem findP_neg (s : PS) : findP s (-1) = none := by unfold findP; rw [if_neg (by omega)]
theorem bump_none (s : PS) : bump s (-1) = s := by unfold bump; rw [findP_neg]
theorem bump_some {s : PS} {k : Nat} {c : Cl} (h : findP s (k : Int) = some c) : bump s (k : Int) = { s with all := s.all.set k { c with holds := c.holds + 1 } } := by unfold bump; rw [h]; simp
theorem infoInt : ∃ i, Try.prog.info? 3 = some i ∧ i.zero = some (.int .i64 0) := by
  have h : (Try.prog.info? 3).map (·.zero) = some (some (.int .i64 0)) := by kernel_rfl
  cases hj : Try.prog.info? 3 with
  | none => rw [hj] at h; cases h
  | some j => rw [hj] at h; injection h with h; exact ⟨j, rfl, h⟩
theorem look_num {f : Ln → Option Int} {u : World} {M : Nat} (h : EMap encL u M fun k => (f k).map (Value.int .i64)) (x : Ln) :
    (Instr.lookup 52 (.map (some M)) (encL x) true).run Try.prog u = .ok (.tuple #[((f x).map (Value.int .i64)).getD (.int .i64 0), .bool (f x).isSome]) u := by
  obtain ⟨i, h1, h2⟩ := infoInt
  rw [run_lookup_K linkKey Try.underlying52 h1 h2 h x]
  simp
theorem up_num {f : Ln → Option Int} {u : World} {M : Nat} (h : EMap encL u M fun k => (f k).map (Value.int .i64)) (x : Ln) (v : Int) :
    ∃ u', (Instr.mapUpdate 52 (.map (some M)) (encL x) (.int .i64 v)).run Try.prog u = .ok () u' ∧ EMap encL u' M (fun k => (putN f x v k).map (Value.int .i64)) ∧ u.grownBy u' (some M) := by
  obtain ⟨u', h1, h2, h3⟩ := run_update_K linkKey Try.underlying52 h x (.int .i64 v)
  refine ⟨u', h1, ?_, h3⟩
  have : (fun k => (putN f x v k).map (Value.int .i64)) = kput (fun k => (f k).map (Value.int .i64)) x (.int .i64 v) := by
    funext k
    unfold putN kput
    split <;> rfl
  rw [this]
  exact h2
/-- a map of a pool is turned -/
theorem PX.turn {B p M : Nat} {vA vF : Value} {s : PS} {w w' : World} (h : PX B p M vA vF s w) {f : Ln → Option Int} (hm : EMap encL w' M fun k => (f k).map (Value.int .i64)) (hg : w.grownBy w' (some M)) : PX B p M vA vF { s with num := f } w' := by
  obtain ⟨n1, n2, n3, n4, n5, n6⟩ := h.ne_A
  exact ⟨h.blk.grown hg (fun e => n3 (by injection e)), h.all.kept hg (.inr n4), h.free.kept hg (.inr n5), hm, h.low⟩

theorem PX.kept_blk {B p M g : Nat} {vA vF : Value} {s : PS} {w w' : World} {t : TypeId} {cs : Array Value} (h : PX B p M vA vF s w) (hb : Blk w g t cs) (h1 : 60 ≠ t) (h2 : 68 ≠ t) (hf : PFr (fun k => k = p ∨ vA.ownBlock = some k) w w') : Blk w' g t cs := by
  refine (hf.block g hb.lt ?_).trans hb
  rintro (rfl | e)
  · have := h.blk
    unfold Blk at this hb
    rw [hb] at this
    injection this with this
    injection this with _ e
    exact h1 e.symm
  · exact hb.own_ne h.all h2 e.symm
/-- what is left of adding a cell: the map is turned -/
theorem add_end {B p M : Nat} {D : Nat → Prop} {vA vF vA' : Value} {s : PS} {w u4 u5 w6 w7 : World} {x : Ln} (hD : ∀ k, Has p M vA vF k → D k) (b4 : Below w.heap.size w u4) (f5 : PFr (Has p M vA vF) u4 u5)
    (h6 : PX B p M vA' vF { bump s x.1 with all := (bump s x.1).all ++ [newC x 1] } w6) (f6 : PFr (fun k => k = p ∨ vA.ownBlock = some k) u5 w6) (o6 : ∀ k, vA'.ownBlock = some k → vA.ownBlock = some k ∨ u5.heap.size ≤ k)
    (hM : EMap encL w7 M fun k => (putN s.num x (s.all.length : Int) k).map (Value.int .i64)) (hG : w6.grownBy w7 (some M)) : POut B p D w (addP s x) w7 := by
  have hs := Nat.le_trans b4.size f5.size
  refine ⟨⟨M, vA', vF, (h6.turn hM hG), fun k hk => ?_⟩, ((((PFr.of_below b4).trans (f5.more hD) fun k e => .inl e).trans (f6.more (D' := D) fun k e => ?_) fun k e => .inl e).trans (PFr.of_grown (D := D) hG fun k e => ?_) fun k e => .inl e)⟩
  · rcases hk with e | e | e | e
    · exact .inl (hD k (.inl e))
    · exact .inl (hD k (.inr (.inl e)))
    · rcases o6 k e with e | e
      · exact .inl (hD k (.inr (.inr (.inl e))))
      · exact .inr (Nat.le_trans hs e)
    · exact .inl (hD k (.inr (.inr (.inr e))))
  · rcases e with e | e
    · exact hD k (.inl e)
    · exact hD k (.inr (.inr (.inl e)))
  · injection e with e
    exact hD k (.inr (.inl e.symm))

theorem add_nil (prev event : Int) (fresh : Bool) (w : World) : Calls Try.prog 11 #[.pointer none, .int .i64 prev, .int .i64 event, .bool fresh] w fun e w' => e = .returned (.tuple #[.int .i64 (-1), .bool false]) ∧ w = w' := by
  go_enter Try.func11, Try.ntmps11
  go_wp2
  exact bodyPost_ret (v := .tuple #[.int .i64 (-1), .bool false]) (by simp [results, Try.results11, go_sem]) rfl ⟨rfl, rfl⟩
theorem add_bad (B p M : Nat) (vA vF : Value) (s : PS) (w : World) (h : PX B p M vA vF s w) (prev event : Int) (fresh : Bool) (hp : -9223372036854775808 ≤ prev ∧ prev ≤ 9223372036854775807) (hb : event < 0 ∨ prev ≠ -1 ∧ findP s prev = none) :
    Calls Try.prog 11 #[.pointer (some ⟨p, 0, none⟩), .int .i64 prev, .int .i64 event, .bool fresh] w fun e w' => e = .returned (.tuple #[.int .i64 (-1), .bool false]) ∧ w = w' := by
  by_cases h0 : event < 0
  · clear h hb
    go_enter Try.func11, Try.ntmps11
    go_wp2
    exact bodyPost_ret (v := .tuple #[.int .i64 (-1), .bool false]) (by simp [results, Try.results11, go_sem]) rfl ⟨rfl, rfl⟩
  · obtain ⟨h1, h2⟩ := hb.resolve_left h0
    have C := Lib.hid (find_none B p M vA vF s w h prev hp h2)
    have h3 : (prev != -1) = true := by simp [h1]
    have h4 : decide (event < 0) = false := by simp; omega
    clear h hb h2 h1
    go_enter Try.func11, Try.ntmps11
    go_wp2_with fail
    refine C.out.mono ?_
    rintro e w1 ⟨rfl, rfl⟩
    go_wp2
    exact bodyPost_ret (v := .tuple #[.int .i64 (-1), .bool false]) (by simp [results, Try.results11, go_sem]) rfl ⟨rfl, rfl⟩

set_option maxHeartbeats 4000000 in
set_option maxRecDepth 100000 in
theorem add_there_root_true {B p : Nat} {D : Nat → Prop} {s : PS} {w : World} (hP : PAt B p D s w) (event : Int) (he : 0 ≤ event) (k : Nat) (c : Cl) (hk : s.num ((-1, event, true) : Ln) = some (k : Int)) (hc : findP s (k : Int) = some c) (hb1 : 0 ≤ c.own ∧ c.own < 4611686018427387904) (hb2 : 0 ≤ c.holds ∧ c.holds < 4611686018427387904) :
    Calls Try.prog 11 #[.pointer (some ⟨p, 0, none⟩), .int .i64 (-1), .int .i64 event, .bool true] w fun e w' => e = .returned (.tuple #[.int .i64 (k : Int), .bool true]) ∧ POut B p D w (holdP s k c) w' := by
  obtain ⟨M, vA, vF, h, hD⟩ := hP
  have h4 : decide (event < 0) = false := by simp; omega
  have hm := m1 w (.cells #[.int .i64 (-1), .int .i64 event, .bool true] 64)
  have h1 := h.later hm
  have hxb := Blk.made w 64 #[.int .i64 (-1), .int .i64 event, .bool true]
  replace hm := Lib.hid hm
  go_enter Try.func11, Try.ntmps11
  go_upto_region 4 with (fail)
  generalize w.alloc (.cells #[.int .i64 (-1), .int .i64 event, .bool true] 64) = u at *
  obtain ⟨g, hg⟩ : ∃ g, w.heap.size = g := ⟨_, rfl⟩
  rw [hg] at hxb
  rw [hg]
  replace hg := Lib.hid hg
  have x0 : u.cell? ⟨g, 0, none⟩ = some (.int .i64 (-1)) := hxb.cell 0
  have x1 : u.cell? ⟨g, 1, none⟩ = some (.int .i64 event) := hxb.cell 1
  have x2 : u.cell? ⟨g, 2, none⟩ = some (.bool true) := hxb.cell 2
  have d3 : u.cell? ⟨p, 3, none⟩ = some (.map (some M)) := h1.blk.cell 3
  have hL := fun n => look_num (h1.later (below_dn u n)).num ((-1, event, true) : Ln)
  rw [hk] at hL
  simp only [Option.map_some, Option.getD_some, Option.isSome_some, encL] at hL
  have H := Lib.hid (fun n => hold_some (D := D) ⟨M, vA, vF, h1.later (below_dn u n), hD⟩ k c hc hb1 hb2)
  have hDs := Lib.hid hD
  clear hD h h1 hxb hk hc hb1 hb2
  go_quiet (fail)
  all_goals go_wp2_with fail
  all_goals refine (H.out _).mono ?_
  all_goals rintro e w2 ⟨rfl, ho⟩
  all_goals replace ho := Lib.hid ho
  all_goals go_wp2
  all_goals
    refine bodyPost_ret (v := .tuple #[.int .i64 (k : Int), .bool true]) (by simp [results, Try.results11, go_sem]) rfl ⟨rfl, ?_⟩
    refine ⟨ho.out.1.more fun q hq => ?_, (PFr.of_below (D := D) (hm.out.trans ((below_dn u _).mono hm.out.size))).trans ho.out.2 fun q hq => .inl hq⟩
    rcases hq with hq | hq
    · exact .inl hq
    · exact .inr (Nat.le_trans hm.out.size hq)

set_option maxHeartbeats 4000000 in
set_option maxRecDepth 100000 in
theorem add_full_root_true {B p : Nat} {D : Nat → Prop} {s : PS} {w : World} (hP : PAt B p D s w) (event : Int) (he : 0 ≤ event) (hk : s.num ((-1, event, true) : Ln) = none) (hu : s.most ≤ usedP s) :
    Calls Try.prog 11 #[.pointer (some ⟨p, 0, none⟩), .int .i64 (-1), .int .i64 event, .bool true] w fun e w' => e = .returned (.tuple #[.int .i64 (-1), .bool false]) ∧ Below w.heap.size w w' := by
  obtain ⟨M, vA, vF, h, hD⟩ := hP
  have h4 : decide (event < 0) = false := by simp; omega
  have hm := m1 w (.cells #[.int .i64 (-1), .int .i64 event, .bool true] 64)
  have h1 := h.later hm
  have hxb := Blk.made w 64 #[.int .i64 (-1), .int .i64 event, .bool true]
  replace hm := Lib.hid hm
  go_enter Try.func11, Try.ntmps11
  go_upto_region 4 with (fail)
  generalize w.alloc (.cells #[.int .i64 (-1), .int .i64 event, .bool true] 64) = u at *
  obtain ⟨g, hg⟩ : ∃ g, w.heap.size = g := ⟨_, rfl⟩
  rw [hg] at hxb
  rw [hg]
  replace hg := Lib.hid hg
  have x0 : u.cell? ⟨g, 0, none⟩ = some (.int .i64 (-1)) := hxb.cell 0
  have x1 : u.cell? ⟨g, 1, none⟩ = some (.int .i64 event) := hxb.cell 1
  have x2 : u.cell? ⟨g, 2, none⟩ = some (.bool true) := hxb.cell 2
  have d3 : u.cell? ⟨p, 3, none⟩ = some (.map (some M)) := h1.blk.cell 3
  have hL := fun n => look_num (h1.later (below_dn u n)).num ((-1, event, true) : Ln)
  rw [hk] at hL
  simp only [Option.map_none, Option.getD_none, Option.isSome_none, encL] at hL
  replace h1 := Lib.hid h1
  clear hD h hxb hk
  go_quiet (fail)
  go_wp2_with fail
  have h3 := h1.out.later (below_dn u nq)
  have b3 := hm.out.trans ((below_dn u nq).mono hm.out.size)
  clear hL x0 x1 x2 d3 h1 hm
  generalize u.drewN nq = u3 at *
  have d0 : u3.cell? ⟨p, 0, none⟩ = some (.int .i64 s.most) := h3.blk.cell 0
  have H := Lib.hid (fun n => usedX B p M vA vF s (u3.drewN n) (h3.later (below_dn u3 n)))
  replace b3 := Lib.hid b3
  clear h3
  go_quiet (first | (go_at_call 17; exact Calls.quiet_of (H.out _)))
  all_goals go_wp2
  all_goals exact bodyPost_ret (v := .tuple #[.int .i64 (-1), .bool false]) (by simp [results, Try.results11, go_sem]) rfl ⟨rfl, b3.out.trans ((below_dn _ _).mono b3.out.size)⟩

set_option maxHeartbeats 4000000 in
set_option maxRecDepth 100000 in
theorem add_new_root_true {B p : Nat} {D : Nat → Prop} {s : PS} {w : World} (hP : PAt B p D s w) (event : Int) (he : 0 ≤ event) (hk : s.num ((-1, event, true) : Ln) = none) (hu : usedP s < s.most) (hf : s.free = []) (hn : s.all.length < 1000000) :
    Calls Try.prog 11 #[.pointer (some ⟨p, 0, none⟩), .int .i64 (-1), .int .i64 event, .bool true] w fun e w' => e = .returned (.tuple #[.int .i64 (s.all.length : Int), .bool true]) ∧ POut B p D w (addP s ((-1, event, true) : Ln)) w' := by
  obtain ⟨M, vA, vF, h, hD⟩ := hP
  have h4 : decide (event < 0) = false := by simp; omega
  have hm := m1 w (.cells #[.int .i64 (-1), .int .i64 event, .bool true] 64)
  have h1 := h.later hm
  have hxb := Blk.made w 64 #[.int .i64 (-1), .int .i64 event, .bool true]
  replace hm := Lib.hid hm
  go_enter Try.func11, Try.ntmps11
  go_upto_region 4 with (fail)
  generalize w.alloc (.cells #[.int .i64 (-1), .int .i64 event, .bool true] 64) = u at *
  obtain ⟨g, hg⟩ : ∃ g, w.heap.size = g := ⟨_, rfl⟩
  rw [hg] at hxb
  rw [hg]
  replace hg := Lib.hid hg
  have x0 : u.cell? ⟨g, 0, none⟩ = some (.int .i64 (-1)) := hxb.cell 0
  have x1 : u.cell? ⟨g, 1, none⟩ = some (.int .i64 event) := hxb.cell 1
  have x2 : u.cell? ⟨g, 2, none⟩ = some (.bool true) := hxb.cell 2
  have d3 : u.cell? ⟨p, 3, none⟩ = some (.map (some M)) := h1.blk.cell 3
  have hL := fun n => look_num (h1.later (below_dn u n)).num ((-1, event, true) : Ln)
  rw [hk] at hL
  simp only [Option.map_none, Option.getD_none, Option.isSome_none, encL] at hL
  replace h1 := Lib.hid h1
  replace hD := Lib.hid hD
  clear h hk
  go_quiet (fail)
  go_wp2_with fail
  have h3 := h1.out.later (below_dn u nq)
  have b3 := hm.out.trans ((below_dn u nq).mono hm.out.size)
  have xb3 := Lib.hid (hxb.kept (below_dn u nq))
  clear hL x0 x1 x2 d3 h1 hm hxb
  generalize u.drewN nq = u3 at *
  have d0 : u3.cell? ⟨p, 0, none⟩ = some (.int .i64 s.most) := h3.blk.cell 0
  have H := Lib.hid (fun n => usedX B p M vA vF s (u3.drewN n) (h3.later (below_dn u3 n)))
  replace b3 := Lib.hid b3
  replace h3 := Lib.hid h3
  have hu2 : decide (s.most ≤ usedP s) = false := by simp; omega
  go_quiet (first | (go_at_call 17; exact Calls.quiet_of (H.out _)))
  have h4 := Lib.hid (h3.out.later (below_dn u3 nq))
  have b4 := Lib.hid (b3.out.trans ((below_dn u3 nq).mono b3.out.size))
  have xb4 := Lib.hid (xb3.out.kept (below_dn u3 nq))
  clear H h3 b3 xb3 d0
  generalize u3.drewN nq = u4 at *
  have C4 := Lib.hid (find_none B p M vA vF s u4 h4.out (-1) (by omega) (findP_neg s))
  go_wp2_with fail
  refine C4.out.mono ?_
  rintro e w1 ⟨rfl, rfl⟩
  clear C4
  go_upto_region 12 with (fail)
  replace h4 := h4.out
  have f5 : PFr (Has p M vA vF) u4 u4 := .refl _ _
  have y0 : u4.cell? ⟨g, 0, none⟩ = some (.int .i64 (-1)) := xb4.out.cell 0
  have y1 : u4.cell? ⟨g, 1, none⟩ = some (.int .i64 event) := xb4.out.cell 1
  have y2 : u4.cell? ⟨g, 2, none⟩ = some (.bool true) := xb4.out.cell 2
  have hb5 := bump_len s (-1)
  have L := fun n => ladd_new B p M vA vF _ (u4.drewN n) (h4.later (below_dn u4 n)) (by first | exact hf | (rw [hb5.2.1]; exact hf)) (by first | exact hn | (rw [hb5.1]; exact hn)) ((-1, event, true) : Ln) 1
  replace L := Lib.hid L
  replace h4 := Lib.hid h4
  replace f5 := Lib.hid f5
  go_region_with (go_at_call 25; refine (L.out 1).mono ?_; rintro e w6 ⟨rfl, vA', h6, f6, o6⟩)
  all_goals
    have xb6 := (h4.out.later (below_dn u4 1)).kept_blk (xb4.out.kept (below_dn u4 1)) (by decide) (by decide) f6
    have z0 : w6.cell? ⟨g, 0, none⟩ = some (.int .i64 (-1)) := xb6.cell 0
    have z1 : w6.cell? ⟨g, 1, none⟩ = some (.int .i64 event) := xb6.cell 1
    have z2 : w6.cell? ⟨g, 2, none⟩ = some (.bool true) := xb6.cell 2
    have d3 : w6.cell? ⟨p, 3, none⟩ = some (.map (some M)) := h6.blk.cell 3
    obtain ⟨w7, hup, hM7, hG7⟩ := up_num (h6.later (Below.refl _ _).drew).num ((-1, event, true) : Ln) (s.all.length : Int)
    dsimp only [encL] at hup
    replace hM7 := Lib.hid hM7
    replace hG7 := Lib.hid hG7
    replace h6 := Lib.hid h6
    replace f6 := Lib.hid f6
    replace o6 := Lib.hid o6
    clear y0 y1 y2 L
    go_wp2_with fail
    replace hb5 := Lib.hid hb5
    go_region_law (fail)
    all_goals go_wp2
    all_goals
      refine bodyPost_ret (v := .tuple #[.int .i64 (s.all.length : Int), .bool true]) (by simp [results, Try.results11, go_sem]) rfl ⟨rfl, ?_⟩
      exact add_end (x := ((-1, event, true) : Ln)) hD.out b4.out f5.out (by rw [show bump s ((-1, event, true) : Ln).1 = s from bump_none s]; exact h6.out.later (Below.refl _ _).drew) (((PFr.of_below (below_dn _ 1)).trans f6.out fun k e => .inl e).trans (D' := fun _ => False) (PFr.of_below (Below.refl _ _).drew) (fun _ h => h.elim)) o6.out (by first | exact hM7.out | (have h7 := hM7.out; rw [hb5.out.2.2.1] at h7; exact h7)) hG7.out

set_option maxHeartbeats 4000000 in
set_option maxRecDepth 100000 in
theorem add_there_root_false {B p : Nat} {D : Nat → Prop} {s : PS} {w : World} (hP : PAt B p D s w) (event : Int) (he : 0 ≤ event) (k : Nat) (c : Cl) (hk : s.num ((-1, event, true) : Ln) = some (k : Int)) (hc : findP s (k : Int) = some c) (hb1 : 0 ≤ c.own ∧ c.own < 4611686018427387904) (hb2 : 0 ≤ c.holds ∧ c.holds < 4611686018427387904) :
    Calls Try.prog 11 #[.pointer (some ⟨p, 0, none⟩), .int .i64 (-1), .int .i64 event, .bool false] w fun e w' => e = .returned (.tuple #[.int .i64 (k : Int), .bool true]) ∧ POut B p D w (holdP s k c) w' := by
  obtain ⟨M, vA, vF, h, hD⟩ := hP
  have h4 : decide (event < 0) = false := by simp; omega
  have hm := m1 w (.cells #[.int .i64 (-1), .int .i64 event, .bool true] 64)
  have h1 := h.later hm
  have hxb := Blk.made w 64 #[.int .i64 (-1), .int .i64 event, .bool true]
  replace hm := Lib.hid hm
  go_enter Try.func11, Try.ntmps11
  go_upto_region 4 with (fail)
  generalize w.alloc (.cells #[.int .i64 (-1), .int .i64 event, .bool true] 64) = u at *
  obtain ⟨g, hg⟩ : ∃ g, w.heap.size = g := ⟨_, rfl⟩
  rw [hg] at hxb
  rw [hg]
  replace hg := Lib.hid hg
  have x0 : u.cell? ⟨g, 0, none⟩ = some (.int .i64 (-1)) := hxb.cell 0
  have x1 : u.cell? ⟨g, 1, none⟩ = some (.int .i64 event) := hxb.cell 1
  have x2 : u.cell? ⟨g, 2, none⟩ = some (.bool true) := hxb.cell 2
  have d3 : u.cell? ⟨p, 3, none⟩ = some (.map (some M)) := h1.blk.cell 3
  have hL := fun n => look_num (h1.later (below_dn u n)).num ((-1, event, true) : Ln)
  rw [hk] at hL
  simp only [Option.map_some, Option.getD_some, Option.isSome_some, encL] at hL
  have H := Lib.hid (fun n => hold_some (D := D) ⟨M, vA, vF, h1.later (below_dn u n), hD⟩ k c hc hb1 hb2)
  have hDs := Lib.hid hD
  clear hD h h1 hxb hk hc hb1 hb2
  go_quiet (fail)
  all_goals go_wp2_with fail
  all_goals refine (H.out _).mono ?_
  all_goals rintro e w2 ⟨rfl, ho⟩
  all_goals replace ho := Lib.hid ho
  all_goals go_wp2
  all_goals
    refine bodyPost_ret (v := .tuple #[.int .i64 (k : Int), .bool true]) (by simp [results, Try.results11, go_sem]) rfl ⟨rfl, ?_⟩
    refine ⟨ho.out.1.more fun q hq => ?_, (PFr.of_below (D := D) (hm.out.trans ((below_dn u _).mono hm.out.size))).trans ho.out.2 fun q hq => .inl hq⟩
    rcases hq with hq | hq
    · exact .inl hq
    · exact .inr (Nat.le_trans hm.out.size hq)

set_option maxHeartbeats 4000000 in
set_option maxRecDepth 100000 in
theorem add_full_root_false {B p : Nat} {D : Nat → Prop} {s : PS} {w : World} (hP : PAt B p D s w) (event : Int) (he : 0 ≤ event) (hk : s.num ((-1, event, true) : Ln) = none) (hu : s.most ≤ usedP s) :
    Calls Try.prog 11 #[.pointer (some ⟨p, 0, none⟩), .int .i64 (-1), .int .i64 event, .bool false] w fun e w' => e = .returned (.tuple #[.int .i64 (-1), .bool false]) ∧ Below w.heap.size w w' := by
  obtain ⟨M, vA, vF, h, hD⟩ := hP
  have h4 : decide (event < 0) = false := by simp; omega
  have hm := m1 w (.cells #[.int .i64 (-1), .int .i64 event, .bool true] 64)
  have h1 := h.later hm
  have hxb := Blk.made w 64 #[.int .i64 (-1), .int .i64 event, .bool true]
  replace hm := Lib.hid hm
  go_enter Try.func11, Try.ntmps11
  go_upto_region 4 with (fail)
  generalize w.alloc (.cells #[.int .i64 (-1), .int .i64 event, .bool true] 64) = u at *
  obtain ⟨g, hg⟩ : ∃ g, w.heap.size = g := ⟨_, rfl⟩
  rw [hg] at hxb
  rw [hg]
  replace hg := Lib.hid hg
  have x0 : u.cell? ⟨g, 0, none⟩ = some (.int .i64 (-1)) := hxb.cell 0
  have x1 : u.cell? ⟨g, 1, none⟩ = some (.int .i64 event) := hxb.cell 1
  have x2 : u.cell? ⟨g, 2, none⟩ = some (.bool true) := hxb.cell 2
  have d3 : u.cell? ⟨p, 3, none⟩ = some (.map (some M)) := h1.blk.cell 3
  have hL := fun n => look_num (h1.later (below_dn u n)).num ((-1, event, true) : Ln)
  rw [hk] at hL
  simp only [Option.map_none, Option.getD_none, Option.isSome_none, encL] at hL
  replace h1 := Lib.hid h1
  clear hD h hxb hk
  go_quiet (fail)
  go_wp2_with fail
  have h3 := h1.out.later (below_dn u nq)
  have b3 := hm.out.trans ((below_dn u nq).mono hm.out.size)
  clear hL x0 x1 x2 d3 h1 hm
  generalize u.drewN nq = u3 at *
  have d0 : u3.cell? ⟨p, 0, none⟩ = some (.int .i64 s.most) := h3.blk.cell 0
  have H := Lib.hid (fun n => usedX B p M vA vF s (u3.drewN n) (h3.later (below_dn u3 n)))
  replace b3 := Lib.hid b3
  clear h3
  go_quiet (first | (go_at_call 17; exact Calls.quiet_of (H.out _)))
  all_goals go_wp2
  all_goals exact bodyPost_ret (v := .tuple #[.int .i64 (-1), .bool false]) (by simp [results, Try.results11, go_sem]) rfl ⟨rfl, b3.out.trans ((below_dn _ _).mono b3.out.size)⟩

set_option maxHeartbeats 4000000 in
set_option maxRecDepth 100000 in
theorem add_new_root_false {B p : Nat} {D : Nat → Prop} {s : PS} {w : World} (hP : PAt B p D s w) (event : Int) (he : 0 ≤ event) (hk : s.num ((-1, event, true) : Ln) = none) (hu : usedP s < s.most) (hf : s.free = []) (hn : s.all.length < 1000000) :
    Calls Try.prog 11 #[.pointer (some ⟨p, 0, none⟩), .int .i64 (-1), .int .i64 event, .bool false] w fun e w' => e = .returned (.tuple #[.int .i64 (s.all.length : Int), .bool true]) ∧ POut B p D w (addP s ((-1, event, true) : Ln)) w' := by
  obtain ⟨M, vA, vF, h, hD⟩ := hP
  have h4 : decide (event < 0) = false := by simp; omega
  have hm := m1 w (.cells #[.int .i64 (-1), .int .i64 event, .bool true] 64)
  have h1 := h.later hm
  have hxb := Blk.made w 64 #[.int .i64 (-1), .int .i64 event, .bool true]
  replace hm := Lib.hid hm
  go_enter Try.func11, Try.ntmps11
  go_upto_region 4 with (fail)
  generalize w.alloc (.cells #[.int .i64 (-1), .int .i64 event, .bool true] 64) = u at *
  obtain ⟨g, hg⟩ : ∃ g, w.heap.size = g := ⟨_, rfl⟩
  rw [hg] at hxb
  rw [hg]
  replace hg := Lib.hid hg
  have x0 : u.cell? ⟨g, 0, none⟩ = some (.int .i64 (-1)) := hxb.cell 0
  have x1 : u.cell? ⟨g, 1, none⟩ = some (.int .i64 event) := hxb.cell 1
  have x2 : u.cell? ⟨g, 2, none⟩ = some (.bool true) := hxb.cell 2
  have d3 : u.cell? ⟨p, 3, none⟩ = some (.map (some M)) := h1.blk.cell 3
  have hL := fun n => look_num (h1.later (below_dn u n)).num ((-1, event, true) : Ln)
  rw [hk] at hL
  simp only [Option.map_none, Option.getD_none, Option.isSome_none, encL] at hL
  replace h1 := Lib.hid h1
  replace hD := Lib.hid hD
  clear h hk
  go_quiet (fail)
  go_wp2_with fail
  have h3 := h1.out.later (below_dn u nq)
  have b3 := hm.out.trans ((below_dn u nq).mono hm.out.size)
  have xb3 := Lib.hid (hxb.kept (below_dn u nq))
  clear hL x0 x1 x2 d3 h1 hm hxb
  generalize u.drewN nq = u3 at *
  have d0 : u3.cell? ⟨p, 0, none⟩ = some (.int .i64 s.most) := h3.blk.cell 0
  have H := Lib.hid (fun n => usedX B p M vA vF s (u3.drewN n) (h3.later (below_dn u3 n)))
  replace b3 := Lib.hid b3
  replace h3 := Lib.hid h3
  have hu2 : decide (s.most ≤ usedP s) = false := by simp; omega
  go_quiet (first | (go_at_call 17; exact Calls.quiet_of (H.out _)))
  have h4 := Lib.hid (h3.out.later (below_dn u3 nq))
  have b4 := Lib.hid (b3.out.trans ((below_dn u3 nq).mono b3.out.size))
  have xb4 := Lib.hid (xb3.out.kept (below_dn u3 nq))
  clear H h3 b3 xb3 d0
  generalize u3.drewN nq = u4 at *
  have C4 := Lib.hid (find_none B p M vA vF s u4 h4.out (-1) (by omega) (findP_neg s))
  go_wp2_with fail
  refine C4.out.mono ?_
  rintro e w1 ⟨rfl, rfl⟩
  clear C4
  go_upto_region 12 with (fail)
  replace h4 := h4.out
  have f5 : PFr (Has p M vA vF) u4 u4 := .refl _ _
  have y0 : u4.cell? ⟨g, 0, none⟩ = some (.int .i64 (-1)) := xb4.out.cell 0
  have y1 : u4.cell? ⟨g, 1, none⟩ = some (.int .i64 event) := xb4.out.cell 1
  have y2 : u4.cell? ⟨g, 2, none⟩ = some (.bool true) := xb4.out.cell 2
  have hb5 := bump_len s (-1)
  have L := fun n => ladd_new B p M vA vF _ (u4.drewN n) (h4.later (below_dn u4 n)) (by first | exact hf | (rw [hb5.2.1]; exact hf)) (by first | exact hn | (rw [hb5.1]; exact hn)) ((-1, event, true) : Ln) 1
  replace L := Lib.hid L
  replace h4 := Lib.hid h4
  replace f5 := Lib.hid f5
  go_region_with (go_at_call 25; refine (L.out 1).mono ?_; rintro e w6 ⟨rfl, vA', h6, f6, o6⟩)
  all_goals
    have xb6 := (h4.out.later (below_dn u4 1)).kept_blk (xb4.out.kept (below_dn u4 1)) (by decide) (by decide) f6
    have z0 : w6.cell? ⟨g, 0, none⟩ = some (.int .i64 (-1)) := xb6.cell 0
    have z1 : w6.cell? ⟨g, 1, none⟩ = some (.int .i64 event) := xb6.cell 1
    have z2 : w6.cell? ⟨g, 2, none⟩ = some (.bool true) := xb6.cell 2
    have d3 : w6.cell? ⟨p, 3, none⟩ = some (.map (some M)) := h6.blk.cell 3
    obtain ⟨w7, hup, hM7, hG7⟩ := up_num (h6.later (Below.refl _ _).drew).num ((-1, event, true) : Ln) (s.all.length : Int)
    dsimp only [encL] at hup
    replace hM7 := Lib.hid hM7
    replace hG7 := Lib.hid hG7
    replace h6 := Lib.hid h6
    replace f6 := Lib.hid f6
    replace o6 := Lib.hid o6
    clear y0 y1 y2 L
    go_wp2_with fail
    replace hb5 := Lib.hid hb5
    go_region_law (fail)
    all_goals go_wp2
    all_goals
      refine bodyPost_ret (v := .tuple #[.int .i64 (s.all.length : Int), .bool true]) (by simp [results, Try.results11, go_sem]) rfl ⟨rfl, ?_⟩
      exact add_end (x := ((-1, event, true) : Ln)) hD.out b4.out f5.out (by rw [show bump s ((-1, event, true) : Ln).1 = s from bump_none s]; exact h6.out.later (Below.refl _ _).drew) (((PFr.of_below (below_dn _ 1)).trans f6.out fun k e => .inl e).trans (D' := fun _ => False) (PFr.of_below (Below.refl _ _).drew) (fun _ h => h.elim)) o6.out (by first | exact hM7.out | (have h7 := hM7.out; rw [hb5.out.2.2.1] at h7; exact h7)) hG7.out

set_option maxHeartbeats 4000000 in
set_option maxRecDepth 100000 in
theorem add_there_kid_true {B p : Nat} {D : Nat → Prop} {s : PS} {w : World} (hP : PAt B p D s w) (event : Int) (he : 0 ≤ event) (kp : Nat) (cp : Cl) (hcp : findP s (kp : Int) = some cp) (k : Nat) (c : Cl) (hk : s.num (((kp : Int), event, true) : Ln) = some (k : Int)) (hc : findP s (k : Int) = some c) (hb1 : 0 ≤ c.own ∧ c.own < 4611686018427387904) (hb2 : 0 ≤ c.holds ∧ c.holds < 4611686018427387904) :
    Calls Try.prog 11 #[.pointer (some ⟨p, 0, none⟩), .int .i64 (kp : Int), .int .i64 event, .bool true] w fun e w' => e = .returned (.tuple #[.int .i64 (k : Int), .bool true]) ∧ POut B p D w (holdP s k c) w' := by
  obtain ⟨M, vA, vF, h, hD⟩ := hP
  have h4 : decide (event < 0) = false := by simp; omega
  have hkp : 0 ≤ (kp : Int) := by omega
  have h3 : ((kp : Int) != -1) = true := by simp
  have h5 : ((kp : Int) == -1) = false := by simp
  obtain ⟨A0, cap0, hv0, C⟩ := find_some B p M vA vF s w h kp cp hcp
  replace C := Lib.hid C
  have hm := m1 w (.cells #[.int .i64 (kp : Int), .int .i64 event, .bool true] 64)
  have h1 := h.later hm
  have hxb := Blk.made w 64 #[.int .i64 (kp : Int), .int .i64 event, .bool true]
  replace hm := Lib.hid hm
  go_enter Try.func11, Try.ntmps11
  go_wp2_with fail
  refine C.out.mono ?_
  rintro e w1 ⟨rfl, rfl⟩
  go_upto_region 4 with (fail)
  generalize w.alloc (.cells #[.int .i64 (kp : Int), .int .i64 event, .bool true] 64) = u at *
  obtain ⟨g, hg⟩ : ∃ g, w.heap.size = g := ⟨_, rfl⟩
  rw [hg] at hxb
  rw [hg]
  replace hg := Lib.hid hg
  have x0 : u.cell? ⟨g, 0, none⟩ = some (.int .i64 (kp : Int)) := hxb.cell 0
  have x1 : u.cell? ⟨g, 1, none⟩ = some (.int .i64 event) := hxb.cell 1
  have x2 : u.cell? ⟨g, 2, none⟩ = some (.bool true) := hxb.cell 2
  have d3 : u.cell? ⟨p, 3, none⟩ = some (.map (some M)) := h1.blk.cell 3
  have hL := fun n => look_num (h1.later (below_dn u n)).num (((kp : Int), event, true) : Ln)
  rw [hk] at hL
  simp only [Option.map_some, Option.getD_some, Option.isSome_some, encL] at hL
  have H := Lib.hid (fun n => hold_some (D := D) ⟨M, vA, vF, h1.later (below_dn u n), hD⟩ k c hc hb1 hb2)
  have hDs := Lib.hid hD
  clear hD h h1 hxb hk hc hb1 hb2
  go_quiet (fail)
  all_goals go_wp2_with fail
  all_goals refine (H.out _).mono ?_
  all_goals rintro e w2 ⟨rfl, ho⟩
  all_goals replace ho := Lib.hid ho
  all_goals go_wp2
  all_goals
    refine bodyPost_ret (v := .tuple #[.int .i64 (k : Int), .bool true]) (by simp [results, Try.results11, go_sem]) rfl ⟨rfl, ?_⟩
    refine ⟨ho.out.1.more fun q hq => ?_, (PFr.of_below (D := D) (hm.out.trans ((below_dn u _).mono hm.out.size))).trans ho.out.2 fun q hq => .inl hq⟩
    rcases hq with hq | hq
    · exact .inl hq
    · exact .inr (Nat.le_trans hm.out.size hq)

set_option maxHeartbeats 4000000 in
set_option maxRecDepth 100000 in
theorem add_full_kid_true {B p : Nat} {D : Nat → Prop} {s : PS} {w : World} (hP : PAt B p D s w) (event : Int) (he : 0 ≤ event) (kp : Nat) (cp : Cl) (hcp : findP s (kp : Int) = some cp) (hk : s.num (((kp : Int), event, true) : Ln) = none) (hu : s.most ≤ usedP s) :
    Calls Try.prog 11 #[.pointer (some ⟨p, 0, none⟩), .int .i64 (kp : Int), .int .i64 event, .bool true] w fun e w' => e = .returned (.tuple #[.int .i64 (-1), .bool false]) ∧ Below w.heap.size w w' := by
  obtain ⟨M, vA, vF, h, hD⟩ := hP
  have h4 : decide (event < 0) = false := by simp; omega
  have hkp : 0 ≤ (kp : Int) := by omega
  have h3 : ((kp : Int) != -1) = true := by simp
  have h5 : ((kp : Int) == -1) = false := by simp
  obtain ⟨A0, cap0, hv0, C⟩ := find_some B p M vA vF s w h kp cp hcp
  replace C := Lib.hid C
  have hm := m1 w (.cells #[.int .i64 (kp : Int), .int .i64 event, .bool true] 64)
  have h1 := h.later hm
  have hxb := Blk.made w 64 #[.int .i64 (kp : Int), .int .i64 event, .bool true]
  replace hm := Lib.hid hm
  go_enter Try.func11, Try.ntmps11
  go_wp2_with fail
  refine C.out.mono ?_
  rintro e w1 ⟨rfl, rfl⟩
  go_upto_region 4 with (fail)
  generalize w.alloc (.cells #[.int .i64 (kp : Int), .int .i64 event, .bool true] 64) = u at *
  obtain ⟨g, hg⟩ : ∃ g, w.heap.size = g := ⟨_, rfl⟩
  rw [hg] at hxb
  rw [hg]
  replace hg := Lib.hid hg
  have x0 : u.cell? ⟨g, 0, none⟩ = some (.int .i64 (kp : Int)) := hxb.cell 0
  have x1 : u.cell? ⟨g, 1, none⟩ = some (.int .i64 event) := hxb.cell 1
  have x2 : u.cell? ⟨g, 2, none⟩ = some (.bool true) := hxb.cell 2
  have d3 : u.cell? ⟨p, 3, none⟩ = some (.map (some M)) := h1.blk.cell 3
  have hL := fun n => look_num (h1.later (below_dn u n)).num (((kp : Int), event, true) : Ln)
  rw [hk] at hL
  simp only [Option.map_none, Option.getD_none, Option.isSome_none, encL] at hL
  replace h1 := Lib.hid h1
  clear hD h hxb hk
  go_quiet (fail)
  go_wp2_with fail
  have h3 := h1.out.later (below_dn u nq)
  have b3 := hm.out.trans ((below_dn u nq).mono hm.out.size)
  clear hL x0 x1 x2 d3 h1 hm
  generalize u.drewN nq = u3 at *
  have d0 : u3.cell? ⟨p, 0, none⟩ = some (.int .i64 s.most) := h3.blk.cell 0
  have H := Lib.hid (fun n => usedX B p M vA vF s (u3.drewN n) (h3.later (below_dn u3 n)))
  replace b3 := Lib.hid b3
  clear h3
  go_quiet (first | (go_at_call 17; exact Calls.quiet_of (H.out _)))
  all_goals go_wp2
  all_goals exact bodyPost_ret (v := .tuple #[.int .i64 (-1), .bool false]) (by simp [results, Try.results11, go_sem]) rfl ⟨rfl, b3.out.trans ((below_dn _ _).mono b3.out.size)⟩

set_option maxHeartbeats 4000000 in
set_option maxRecDepth 100000 in
theorem add_new_kid_true {B p : Nat} {D : Nat → Prop} {s : PS} {w : World} (hP : PAt B p D s w) (event : Int) (he : 0 ≤ event) (kp : Nat) (cp : Cl) (hcp : findP s (kp : Int) = some cp) (hb : 0 ≤ cp.holds ∧ cp.holds < 4611686018427387904) (hk : s.num (((kp : Int), event, true) : Ln) = none) (hu : usedP s < s.most) (hf : s.free = []) (hn : s.all.length < 1000000) :
    Calls Try.prog 11 #[.pointer (some ⟨p, 0, none⟩), .int .i64 (kp : Int), .int .i64 event, .bool true] w fun e w' => e = .returned (.tuple #[.int .i64 (s.all.length : Int), .bool true]) ∧ POut B p D w (addP s (((kp : Int), event, true) : Ln)) w' := by
  obtain ⟨M, vA, vF, h, hD⟩ := hP
  have h4 : decide (event < 0) = false := by simp; omega
  have hkp : 0 ≤ (kp : Int) := by omega
  have h3 : ((kp : Int) != -1) = true := by simp
  have h5 : ((kp : Int) == -1) = false := by simp
  obtain ⟨A0, cap0, hv0, C⟩ := find_some B p M vA vF s w h kp cp hcp
  replace C := Lib.hid C
  have hm := m1 w (.cells #[.int .i64 (kp : Int), .int .i64 event, .bool true] 64)
  have h1 := h.later hm
  have hxb := Blk.made w 64 #[.int .i64 (kp : Int), .int .i64 event, .bool true]
  replace hm := Lib.hid hm
  go_enter Try.func11, Try.ntmps11
  go_wp2_with fail
  refine C.out.mono ?_
  rintro e w1 ⟨rfl, rfl⟩
  go_upto_region 4 with (fail)
  generalize w.alloc (.cells #[.int .i64 (kp : Int), .int .i64 event, .bool true] 64) = u at *
  obtain ⟨g, hg⟩ : ∃ g, w.heap.size = g := ⟨_, rfl⟩
  rw [hg] at hxb
  rw [hg]
  replace hg := Lib.hid hg
  have x0 : u.cell? ⟨g, 0, none⟩ = some (.int .i64 (kp : Int)) := hxb.cell 0
  have x1 : u.cell? ⟨g, 1, none⟩ = some (.int .i64 event) := hxb.cell 1
  have x2 : u.cell? ⟨g, 2, none⟩ = some (.bool true) := hxb.cell 2
  have d3 : u.cell? ⟨p, 3, none⟩ = some (.map (some M)) := h1.blk.cell 3
  have hL := fun n => look_num (h1.later (below_dn u n)).num (((kp : Int), event, true) : Ln)
  rw [hk] at hL
  simp only [Option.map_none, Option.getD_none, Option.isSome_none, encL] at hL
  replace h1 := Lib.hid h1
  replace hD := Lib.hid hD
  clear h hk
  go_quiet (fail)
  go_wp2_with fail
  have h3 := h1.out.later (below_dn u nq)
  have b3 := hm.out.trans ((below_dn u nq).mono hm.out.size)
  have xb3 := Lib.hid (hxb.kept (below_dn u nq))
  clear hL x0 x1 x2 d3 h1 hm hxb
  generalize u.drewN nq = u3 at *
  have d0 : u3.cell? ⟨p, 0, none⟩ = some (.int .i64 s.most) := h3.blk.cell 0
  have H := Lib.hid (fun n => usedX B p M vA vF s (u3.drewN n) (h3.later (below_dn u3 n)))
  replace b3 := Lib.hid b3
  replace h3 := Lib.hid h3
  have hu2 : decide (s.most ≤ usedP s) = false := by simp; omega
  go_quiet (first | (go_at_call 17; exact Calls.quiet_of (H.out _)))
  have h4 := Lib.hid (h3.out.later (below_dn u3 nq))
  have b4 := Lib.hid (b3.out.trans ((below_dn u3 nq).mono b3.out.size))
  have xb4 := Lib.hid (xb3.out.kept (below_dn u3 nq))
  clear H h3 b3 xb3 d0
  generalize u3.drewN nq = u4 at *
  obtain ⟨A1, cap1, hv1, C4⟩ := find_some B p M vA vF s u4 h4.out kp cp hcp
  obtain ⟨A2, cap2, hv2, _, _, _, _, _, _, y4⟩ := h4.out.cl (findP_some.1 hcp).1
  rw [hv1] at hv2
  cases hv2
  rw [hv0] at hv1
  cases hv1
  subst hv0
  obtain ⟨q1, q2, q3⟩ := h4.out.put (j := 4) (v := .int .i64 (cp.holds + 1)) (c' := { cp with holds := cp.holds + 1 }) (findP_some.1 hcp).1 (by omega) rfl
  rw [← bump_some hcp] at q1
  have hwr : IntKind.i64.wrap (cp.holds + 1) = cp.holds + 1 := by rw [IntKind.wrap_i64]; omega
  have f5 : PFr (Has p M (.slice (some ⟨A0, 0, none⟩) s.all.length cap0) vF) u4 (u4.setCell ⟨A0, kp * 5 + 4, none⟩ (.int .i64 (cp.holds + 1))) := PFr.of_grown q2 fun k e => .inr (.inr (.inl e))
  have xb5 := xb4.out.else_ (p := ⟨A0, kp * 5 + 4, none⟩) (Blk.own_ne xb4.out h4.out.all (by decide) |> fun h e => h (by rw [← e]; rfl)) (.int .i64 (cp.holds + 1))
  replace q1 := Lib.hid q1
  replace f5 := Lib.hid f5
  replace xb5 := Lib.hid xb5
  replace C4 := Lib.hid C4
  clear q2 xb4 h4
  go_wp2_with fail
  refine C4.out.mono ?_
  rintro e w1 ⟨rfl, rfl⟩
  clear C4
  go_upto_region 12 with (fail)
  clear q3 y4
  generalize u4.setCell ⟨A0, kp * 5 + 4, none⟩ (.int .i64 (cp.holds + 1)) = u5 at *
  have h4 := q1.out
  replace f5 := f5.out
  have xb4 := xb5
  have y0 : u5.cell? ⟨g, 0, none⟩ = some (.int .i64 (kp : Int)) := xb4.out.cell 0
  have y1 : u5.cell? ⟨g, 1, none⟩ = some (.int .i64 event) := xb4.out.cell 1
  have y2 : u5.cell? ⟨g, 2, none⟩ = some (.bool true) := xb4.out.cell 2
  have hb5 := bump_len s (kp : Int)
  have L := fun n => ladd_new B p M (.slice (some ⟨A0, 0, none⟩) s.all.length cap0) vF _ (u5.drewN n) (h4.later (below_dn u5 n)) (by first | exact hf | (rw [hb5.2.1]; exact hf)) (by first | exact hn | (rw [hb5.1]; exact hn)) (((kp : Int), event, true) : Ln) 1
  replace L := Lib.hid L
  replace h4 := Lib.hid h4
  replace f5 := Lib.hid f5
  go_region_with (go_at_call 25; refine (L.out 1).mono ?_; rintro e w6 ⟨rfl, vA', h6, f6, o6⟩)
  all_goals
    have xb6 := (h4.out.later (below_dn u5 1)).kept_blk (xb4.out.kept (below_dn u5 1)) (by decide) (by decide) f6
    have z0 : w6.cell? ⟨g, 0, none⟩ = some (.int .i64 (kp : Int)) := xb6.cell 0
    have z1 : w6.cell? ⟨g, 1, none⟩ = some (.int .i64 event) := xb6.cell 1
    have z2 : w6.cell? ⟨g, 2, none⟩ = some (.bool true) := xb6.cell 2
    have d3 : w6.cell? ⟨p, 3, none⟩ = some (.map (some M)) := h6.blk.cell 3
    obtain ⟨w7, hup, hM7, hG7⟩ := up_num (h6.later (Below.refl _ _).drew).num (((kp : Int), event, true) : Ln) (s.all.length : Int)
    dsimp only [encL] at hup
    replace hM7 := Lib.hid hM7
    replace hG7 := Lib.hid hG7
    replace h6 := Lib.hid h6
    replace f6 := Lib.hid f6
    replace o6 := Lib.hid o6
    clear y0 y1 y2 L
    go_wp2_with fail
    replace hb5 := Lib.hid hb5
    go_region_law (fail)
    all_goals go_wp2
    all_goals
      refine bodyPost_ret (v := .tuple #[.int .i64 (s.all.length : Int), .bool true]) (by simp [results, Try.results11, go_sem]) rfl ⟨rfl, ?_⟩
      exact add_end (x := (((kp : Int), event, true) : Ln)) hD.out b4.out f5.out (by exact h6.out.later (Below.refl _ _).drew) (((PFr.of_below (below_dn _ 1)).trans f6.out fun k e => .inl e).trans (D' := fun _ => False) (PFr.of_below (Below.refl _ _).drew) (fun _ h => h.elim)) o6.out (by first | exact hM7.out | (have h7 := hM7.out; rw [hb5.out.2.2.1] at h7; exact h7)) hG7.out

set_option maxHeartbeats 4000000 in
set_option maxRecDepth 100000 in
theorem add_there_kid_false {B p : Nat} {D : Nat → Prop} {s : PS} {w : World} (hP : PAt B p D s w) (event : Int) (he : 0 ≤ event) (kp : Nat) (cp : Cl) (hcp : findP s (kp : Int) = some cp) (k : Nat) (c : Cl) (hk : s.num (((kp : Int), event, false) : Ln) = some (k : Int)) (hc : findP s (k : Int) = some c) (hb1 : 0 ≤ c.own ∧ c.own < 4611686018427387904) (hb2 : 0 ≤ c.holds ∧ c.holds < 4611686018427387904) :
    Calls Try.prog 11 #[.pointer (some ⟨p, 0, none⟩), .int .i64 (kp : Int), .int .i64 event, .bool false] w fun e w' => e = .returned (.tuple #[.int .i64 (k : Int), .bool true]) ∧ POut B p D w (holdP s k c) w' := by
  obtain ⟨M, vA, vF, h, hD⟩ := hP
  have h4 : decide (event < 0) = false := by simp; omega
  have hkp : 0 ≤ (kp : Int) := by omega
  have h3 : ((kp : Int) != -1) = true := by simp
  have h5 : ((kp : Int) == -1) = false := by simp
  obtain ⟨A0, cap0, hv0, C⟩ := find_some B p M vA vF s w h kp cp hcp
  replace C := Lib.hid C
  have hm := m1 w (.cells #[.int .i64 (kp : Int), .int .i64 event, .bool false] 64)
  have h1 := h.later hm
  have hxb := Blk.made w 64 #[.int .i64 (kp : Int), .int .i64 event, .bool false]
  replace hm := Lib.hid hm
  go_enter Try.func11, Try.ntmps11
  go_wp2_with fail
  refine C.out.mono ?_
  rintro e w1 ⟨rfl, rfl⟩
  go_upto_region 4 with (fail)
  generalize w.alloc (.cells #[.int .i64 (kp : Int), .int .i64 event, .bool false] 64) = u at *
  obtain ⟨g, hg⟩ : ∃ g, w.heap.size = g := ⟨_, rfl⟩
  rw [hg] at hxb
  rw [hg]
  replace hg := Lib.hid hg
  have x0 : u.cell? ⟨g, 0, none⟩ = some (.int .i64 (kp : Int)) := hxb.cell 0
  have x1 : u.cell? ⟨g, 1, none⟩ = some (.int .i64 event) := hxb.cell 1
  have x2 : u.cell? ⟨g, 2, none⟩ = some (.bool false) := hxb.cell 2
  have d3 : u.cell? ⟨p, 3, none⟩ = some (.map (some M)) := h1.blk.cell 3
  have hL := fun n => look_num (h1.later (below_dn u n)).num (((kp : Int), event, false) : Ln)
  rw [hk] at hL
  simp only [Option.map_some, Option.getD_some, Option.isSome_some, encL] at hL
  have H := Lib.hid (fun n => hold_some (D := D) ⟨M, vA, vF, h1.later (below_dn u n), hD⟩ k c hc hb1 hb2)
  have hDs := Lib.hid hD
  clear hD h h1 hxb hk hc hb1 hb2
  go_quiet (fail)
  all_goals go_wp2_with fail
  all_goals refine (H.out _).mono ?_
  all_goals rintro e w2 ⟨rfl, ho⟩
  all_goals replace ho := Lib.hid ho
  all_goals go_wp2
  all_goals
    refine bodyPost_ret (v := .tuple #[.int .i64 (k : Int), .bool true]) (by simp [results, Try.results11, go_sem]) rfl ⟨rfl, ?_⟩
    refine ⟨ho.out.1.more fun q hq => ?_, (PFr.of_below (D := D) (hm.out.trans ((below_dn u _).mono hm.out.size))).trans ho.out.2 fun q hq => .inl hq⟩
    rcases hq with hq | hq
    · exact .inl hq
    · exact .inr (Nat.le_trans hm.out.size hq)

set_option maxHeartbeats 4000000 in
set_option maxRecDepth 100000 in
theorem add_full_kid_false {B p : Nat} {D : Nat → Prop} {s : PS} {w : World} (hP : PAt B p D s w) (event : Int) (he : 0 ≤ event) (kp : Nat) (cp : Cl) (hcp : findP s (kp : Int) = some cp) (hk : s.num (((kp : Int), event, false) : Ln) = none) (hu : s.most ≤ usedP s) :
    Calls Try.prog 11 #[.pointer (some ⟨p, 0, none⟩), .int .i64 (kp : Int), .int .i64 event, .bool false] w fun e w' => e = .returned (.tuple #[.int .i64 (-1), .bool false]) ∧ Below w.heap.size w w' := by
  obtain ⟨M, vA, vF, h, hD⟩ := hP
  have h4 : decide (event < 0) = false := by simp; omega
  have hkp : 0 ≤ (kp : Int) := by omega
  have h3 : ((kp : Int) != -1) = true := by simp
  have h5 : ((kp : Int) == -1) = false := by simp
  obtain ⟨A0, cap0, hv0, C⟩ := find_some B p M vA vF s w h kp cp hcp
  replace C := Lib.hid C
  have hm := m1 w (.cells #[.int .i64 (kp : Int), .int .i64 event, .bool false] 64)
  have h1 := h.later hm
  have hxb := Blk.made w 64 #[.int .i64 (kp : Int), .int .i64 event, .bool false]
  replace hm := Lib.hid hm
  go_enter Try.func11, Try.ntmps11
  go_wp2_with fail
  refine C.out.mono ?_
  rintro e w1 ⟨rfl, rfl⟩
  go_upto_region 4 with (fail)
  generalize w.alloc (.cells #[.int .i64 (kp : Int), .int .i64 event, .bool false] 64) = u at *
  obtain ⟨g, hg⟩ : ∃ g, w.heap.size = g := ⟨_, rfl⟩
  rw [hg] at hxb
  rw [hg]
  replace hg := Lib.hid hg
  have x0 : u.cell? ⟨g, 0, none⟩ = some (.int .i64 (kp : Int)) := hxb.cell 0
  have x1 : u.cell? ⟨g, 1, none⟩ = some (.int .i64 event) := hxb.cell 1
  have x2 : u.cell? ⟨g, 2, none⟩ = some (.bool false) := hxb.cell 2
  have d3 : u.cell? ⟨p, 3, none⟩ = some (.map (some M)) := h1.blk.cell 3
  have hL := fun n => look_num (h1.later (below_dn u n)).num (((kp : Int), event, false) : Ln)
  rw [hk] at hL
  simp only [Option.map_none, Option.getD_none, Option.isSome_none, encL] at hL
  replace h1 := Lib.hid h1
  clear hD h hxb hk
  go_quiet (fail)
  go_wp2_with fail
  have h3 := h1.out.later (below_dn u nq)
  have b3 := hm.out.trans ((below_dn u nq).mono hm.out.size)
  clear hL x0 x1 x2 d3 h1 hm
  generalize u.drewN nq = u3 at *
  have d0 : u3.cell? ⟨p, 0, none⟩ = some (.int .i64 s.most) := h3.blk.cell 0
  have H := Lib.hid (fun n => usedX B p M vA vF s (u3.drewN n) (h3.later (below_dn u3 n)))
  replace b3 := Lib.hid b3
  clear h3
  go_quiet (first | (go_at_call 17; exact Calls.quiet_of (H.out _)))
  all_goals go_wp2
  all_goals exact bodyPost_ret (v := .tuple #[.int .i64 (-1), .bool false]) (by simp [results, Try.results11, go_sem]) rfl ⟨rfl, b3.out.trans ((below_dn _ _).mono b3.out.size)⟩

set_option maxHeartbeats 4000000 in
set_option maxRecDepth 100000 in
theorem add_new_kid_false {B p : Nat} {D : Nat → Prop} {s : PS} {w : World} (hP : PAt B p D s w) (event : Int) (he : 0 ≤ event) (kp : Nat) (cp : Cl) (hcp : findP s (kp : Int) = some cp) (hb : 0 ≤ cp.holds ∧ cp.holds < 4611686018427387904) (hk : s.num (((kp : Int), event, false) : Ln) = none) (hu : usedP s < s.most) (hf : s.free = []) (hn : s.all.length < 1000000) :
    Calls Try.prog 11 #[.pointer (some ⟨p, 0, none⟩), .int .i64 (kp : Int), .int .i64 event, .bool false] w fun e w' => e = .returned (.tuple #[.int .i64 (s.all.length : Int), .bool true]) ∧ POut B p D w (addP s (((kp : Int), event, false) : Ln)) w' := by
  obtain ⟨M, vA, vF, h, hD⟩ := hP
  have h4 : decide (event < 0) = false := by simp; omega
  have hkp : 0 ≤ (kp : Int) := by omega
  have h3 : ((kp : Int) != -1) = true := by simp
  have h5 : ((kp : Int) == -1) = false := by simp
  obtain ⟨A0, cap0, hv0, C⟩ := find_some B p M vA vF s w h kp cp hcp
  replace C := Lib.hid C
  have hm := m1 w (.cells #[.int .i64 (kp : Int), .int .i64 event, .bool false] 64)
  have h1 := h.later hm
  have hxb := Blk.made w 64 #[.int .i64 (kp : Int), .int .i64 event, .bool false]
  replace hm := Lib.hid hm
  go_enter Try.func11, Try.ntmps11
  go_wp2_with fail
  refine C.out.mono ?_
  rintro e w1 ⟨rfl, rfl⟩
  go_upto_region 4 with (fail)
  generalize w.alloc (.cells #[.int .i64 (kp : Int), .int .i64 event, .bool false] 64) = u at *
  obtain ⟨g, hg⟩ : ∃ g, w.heap.size = g := ⟨_, rfl⟩
  rw [hg] at hxb
  rw [hg]
  replace hg := Lib.hid hg
  have x0 : u.cell? ⟨g, 0, none⟩ = some (.int .i64 (kp : Int)) := hxb.cell 0
  have x1 : u.cell? ⟨g, 1, none⟩ = some (.int .i64 event) := hxb.cell 1
  have x2 : u.cell? ⟨g, 2, none⟩ = some (.bool false) := hxb.cell 2
  have d3 : u.cell? ⟨p, 3, none⟩ = some (.map (some M)) := h1.blk.cell 3
  have hL := fun n => look_num (h1.later (below_dn u n)).num (((kp : Int), event, false) : Ln)
  rw [hk] at hL
  simp only [Option.map_none, Option.getD_none, Option.isSome_none, encL] at hL
  replace h1 := Lib.hid h1
  replace hD := Lib.hid hD
  clear h hk
  go_quiet (fail)
  go_wp2_with fail
  have h3 := h1.out.later (below_dn u nq)
  have b3 := hm.out.trans ((below_dn u nq).mono hm.out.size)
  have xb3 := Lib.hid (hxb.kept (below_dn u nq))
  clear hL x0 x1 x2 d3 h1 hm hxb
  generalize u.drewN nq = u3 at *
  have d0 : u3.cell? ⟨p, 0, none⟩ = some (.int .i64 s.most) := h3.blk.cell 0
  have H := Lib.hid (fun n => usedX B p M vA vF s (u3.drewN n) (h3.later (below_dn u3 n)))
  replace b3 := Lib.hid b3
  replace h3 := Lib.hid h3
  have hu2 : decide (s.most ≤ usedP s) = false := by simp; omega
  go_quiet (first | (go_at_call 17; exact Calls.quiet_of (H.out _)))
  have h4 := Lib.hid (h3.out.later (below_dn u3 nq))
  have b4 := Lib.hid (b3.out.trans ((below_dn u3 nq).mono b3.out.size))
  have xb4 := Lib.hid (xb3.out.kept (below_dn u3 nq))
  clear H h3 b3 xb3 d0
  generalize u3.drewN nq = u4 at *
  obtain ⟨A1, cap1, hv1, C4⟩ := find_some B p M vA vF s u4 h4.out kp cp hcp
  obtain ⟨A2, cap2, hv2, _, _, _, _, _, _, y4⟩ := h4.out.cl (findP_some.1 hcp).1
  rw [hv1] at hv2
  cases hv2
  rw [hv0] at hv1
  cases hv1
  subst hv0
  obtain ⟨q1, q2, q3⟩ := h4.out.put (j := 4) (v := .int .i64 (cp.holds + 1)) (c' := { cp with holds := cp.holds + 1 }) (findP_some.1 hcp).1 (by omega) rfl
  rw [← bump_some hcp] at q1
  have hwr : IntKind.i64.wrap (cp.holds + 1) = cp.holds + 1 := by rw [IntKind.wrap_i64]; omega
  have f5 : PFr (Has p M (.slice (some ⟨A0, 0, none⟩) s.all.length cap0) vF) u4 (u4.setCell ⟨A0, kp * 5 + 4, none⟩ (.int .i64 (cp.holds + 1))) := PFr.of_grown q2 fun k e => .inr (.inr (.inl e))
  have xb5 := xb4.out.else_ (p := ⟨A0, kp * 5 + 4, none⟩) (Blk.own_ne xb4.out h4.out.all (by decide) |> fun h e => h (by rw [← e]; rfl)) (.int .i64 (cp.holds + 1))
  replace q1 := Lib.hid q1
  replace f5 := Lib.hid f5
  replace xb5 := Lib.hid xb5
  replace C4 := Lib.hid C4
  clear q2 xb4 h4
  go_wp2_with fail
  refine C4.out.mono ?_
  rintro e w1 ⟨rfl, rfl⟩
  clear C4
  go_upto_region 12 with (fail)
  clear q3 y4
  generalize u4.setCell ⟨A0, kp * 5 + 4, none⟩ (.int .i64 (cp.holds + 1)) = u5 at *
  have h4 := q1.out
  replace f5 := f5.out
  have xb4 := xb5
  have y0 : u5.cell? ⟨g, 0, none⟩ = some (.int .i64 (kp : Int)) := xb4.out.cell 0
  have y1 : u5.cell? ⟨g, 1, none⟩ = some (.int .i64 event) := xb4.out.cell 1
  have y2 : u5.cell? ⟨g, 2, none⟩ = some (.bool false) := xb4.out.cell 2
  have hb5 := bump_len s (kp : Int)
  have L := fun n => ladd_new B p M (.slice (some ⟨A0, 0, none⟩) s.all.length cap0) vF _ (u5.drewN n) (h4.later (below_dn u5 n)) (by first | exact hf | (rw [hb5.2.1]; exact hf)) (by first | exact hn | (rw [hb5.1]; exact hn)) (((kp : Int), event, false) : Ln) 1
  replace L := Lib.hid L
  replace h4 := Lib.hid h4
  replace f5 := Lib.hid f5
  go_region_with (go_at_call 25; refine (L.out 1).mono ?_; rintro e w6 ⟨rfl, vA', h6, f6, o6⟩)
  all_goals
    have xb6 := (h4.out.later (below_dn u5 1)).kept_blk (xb4.out.kept (below_dn u5 1)) (by decide) (by decide) f6
    have z0 : w6.cell? ⟨g, 0, none⟩ = some (.int .i64 (kp : Int)) := xb6.cell 0
    have z1 : w6.cell? ⟨g, 1, none⟩ = some (.int .i64 event) := xb6.cell 1
    have z2 : w6.cell? ⟨g, 2, none⟩ = some (.bool false) := xb6.cell 2
    have d3 : w6.cell? ⟨p, 3, none⟩ = some (.map (some M)) := h6.blk.cell 3
    obtain ⟨w7, hup, hM7, hG7⟩ := up_num (h6.later (Below.refl _ _).drew).num (((kp : Int), event, false) : Ln) (s.all.length : Int)
    dsimp only [encL] at hup
    replace hM7 := Lib.hid hM7
    replace hG7 := Lib.hid hG7
    replace h6 := Lib.hid h6
    replace f6 := Lib.hid f6
    replace o6 := Lib.hid o6
    clear y0 y1 y2 L
    go_wp2_with fail
    replace hb5 := Lib.hid hb5
    go_region_law (fail)
    all_goals go_wp2
    all_goals
      refine bodyPost_ret (v := .tuple #[.int .i64 (s.all.length : Int), .bool true]) (by simp [results, Try.results11, go_sem]) rfl ⟨rfl, ?_⟩
      exact add_end (x := (((kp : Int), event, false) : Ln)) hD.out b4.out f5.out (by exact h6.out.later (Below.refl _ _).drew) (((PFr.of_below (below_dn _ 1)).trans f6.out fun k e => .inl e).trans (D' := fun _ => False) (PFr.of_below (Below.refl _ _).drew) (fun _ h => h.elim)) o6.out (by first | exact hM7.out | (have h7 := hM7.out; rw [hb5.out.2.2.1] at h7; exact h7)) hG7.out
end Go.Proofs.Ytdgbnibnhajfoaa
