/- A pool: a new cell at the lowest number where none is. -/
import Derived.Test.YtdgbnibnhajfoaaHpG
namespace Go.Proofs.Ytdgbnibnhajfoaa
open Go.ChangeShapes Go.WideShapes Go.ChangeAt Go.RowKit
set_option linter.unusedVariables false
set_option linter.unusedSimpArgs false

theorem assert_any (k : Int) (u : World) : (Instr.typeAssert (.iface 3 (.int .i64 k)) 20 3 false).run Try.prog u = .ok (.int .i64 k) u := assert_int k u
set_option maxHeartbeats 4000000 in
set_option maxRecDepth 100000 in
theorem ladd_pop (B p M : Nat) (vA vF : Value) (s : PS) (w : World) (h : PX B p M vA vF s w) (hh : HeapN s.free s.free.length) (k : Nat) (hk : hget s.free 0 = (k : Int)) (hkl : k < s.all.length) (hf : 0 < s.free.length) (hn : s.free.length < 900000) (x : Ln) (own : Int) :
    Calls Try.prog 25 #[.pointer (some ⟨p, 1, none⟩), keptV x own] w fun e w' => e = .returned (.int .i64 (k : Int)) ∧
      ∃ l vF', HeapN l l.length ∧ s.free.Perm ((k : Int) :: l) ∧ PX B p M vA vF' { s with all := s.all.set k (newC x own), free := l } w' ∧ PFr (fun q => q = p ∨ vA.ownBlock = some q ∨ vF.ownBlock = some q) w w' ∧ ∀ q, vF'.ownBlock = some q → vF.ownBlock = some q ∨ w.heap.size ≤ q := by
  obtain ⟨x0, x1, x2⟩ := x
  have hm := m1 w (.cells #[.int .i64 x0, .int .i64 x1, .bool x2, .int .i64 own] 66)
  have h1 := h.later hm
  have kb := Blk.made w 66 #[.int .i64 x0, .int .i64 x1, .bool x2, .int .i64 own]
  obtain ⟨A, cap, hv, hl1, hl2, _⟩ := h.cl (List.getElem?_eq_getElem hkl)
  have hap : ∀ q, Has p M vA vF q → q < w.heap.size := fun q hq => (h.lt hq).1
  show Calls _ _ #[_, .agg #[.int .i64 x0, .int .i64 x1, .bool x2, .int .i64 own]] _ _
  obtain ⟨m, hfm⟩ : ∃ m, s.free.length = m + 1 := ⟨s.free.length - 1, by omega⟩
  obtain ⟨gF, capF, hvF, _⟩ := h1.toN.form hf
  rw [hfm] at hvF
  have d1 := h1.blk.cell 1
  have d2 := h1.blk.cell 2
  simp only [hv, hvF] at d1 d2
  have C := Lib.hid (fun u => lenI_any (some ⟨gF, 0, none⟩) (m + 1) capF u)
  have P := hpop_any B p M vA vF s _ h1 hh m hfm (by omega)
  rw [hk] at P
  replace P := Lib.hid P
  have hta := fun u => assert_int (k : Int) u
  subst hv
  have n9 : (s.all.length : Int) ≤ 9223372036854775807 := by unfold maxLen at hl2; omega
  clear h
  go_enter Try.func25, Try.ntmps25
  go_upto_region 1 with (fail)
  generalize w.alloc (.cells #[.int .i64 x0, .int .i64 x1, .bool x2, .int .i64 own] 66) = u at *
  replace hm := Lib.hid hm
  obtain ⟨g, hg⟩ : ∃ g, w.heap.size = g := ⟨_, rfl⟩
  rw [hg] at kb hap
  rw [hg]
  obtain ⟨n, hN⟩ : ∃ n, s.all.length = n := ⟨_, rfl⟩
  rw [hN] at d1 n9 hkl
  replace h1 := Lib.hid h1
  replace hap := Lib.hid hap
  replace hfm := Lib.hid hfm
  replace hvF := Lib.hid hvF
  replace kb := Lib.hid kb
  replace hk := Lib.hid hk
  have hm0 : (0 : Int) < (m : Int) + 1 := by omega
  have hN' := Lib.hid hN
  clear hN hf
  go_wp2_with fail
  refine (C.out _).mono ?_
  rintro e w1 ⟨rfl, rfl⟩
  go_wp2_with fail
  refine P.out.mono ?_
  rintro e w1 ⟨rfl, l, hh', hp', vF', h2, hf2, ho2⟩
  have hcs : ({ s with free := l } : PS).all[k]? = some (s.all[k]'(by rw [hN'.out]; exact hkl)) := List.getElem?_eq_getElem _
  obtain ⟨z1, z2, z3, _, _, e0, e1, e2, e3, e4⟩ := h2.cl hcs
  injection z3 with z3 z5 z4
  injection z3 with z3
  injection z3 with z3
  subst z3
  clear z4 z5
  have f : ∀ j, w1.frozen? ⟨A, j, none⟩ = false := fun j => h2.frozen (by show 0 < s.all.length; rw [hN'.out]; omega) j
  obtain ⟨r1, r2⟩ := h2.put5 (c' := newC (x0, x1, x2) own) hcs
  have kb2 : Blk w1 g _ _ := (hf2.block g kb.out.lt fun e => by
    have := hap.out g (by rcases e with e | e; exact .inl e; exact .inr (.inr (.inr e)))
    omega).trans kb.out
  have a0 : w1.cell? ⟨g, 0, none⟩ = some (.int .i64 x0) := kb2.cell 0
  have a1 : w1.cell? ⟨g, 1, none⟩ = some (.int .i64 x1) := kb2.cell 1
  have a2 : w1.cell? ⟨g, 2, none⟩ = some (.bool x2) := kb2.cell 2
  have a3 : w1.cell? ⟨g, 3, none⟩ = some (.int .i64 own) := kb2.cell 3
  have d5 : w1.cell? ⟨p, 1, none⟩ = some (.slice (some ⟨A, 0, none⟩) n cap) := by rw [h2.blk.cell 1, ← hN'.out]; rfl
  have k0 : (0 : Int) ≤ (k : Int) := by omega
  have k1 : (k : Int) < (n : Int) := by omega
  have hend := Lib.hid (show ∃ l vF', HeapN l l.length ∧ s.free.Perm ((k : Int) :: l) ∧ PX B p M (.slice (some ⟨A, 0, none⟩) s.all.length cap) vF' { s with all := s.all.set k (newC (x0, x1, x2) own), free := l } _ ∧ PFr (fun q => q = p ∨ (Value.slice (some ⟨A, 0, none⟩) s.all.length cap).ownBlock = some q ∨ vF.ownBlock = some q) w _ ∧ ∀ q, vF'.ownBlock = some q → vF.ownBlock = some q ∨ w.heap.size ≤ q from
    ⟨l, vF', hh', hp', r1, (((PFr.of_below hm.out).trans (hf2.more (D' := fun q => q = p ∨ (Value.slice (some ⟨A, 0, none⟩) s.all.length cap).ownBlock = some q ∨ vF.ownBlock = some q) fun q e => by rcases e with e | e; exact .inl e; exact .inr (.inr e)) fun q e => .inl e).trans (PFr.of_grown (D := fun q => q = A) r2 fun q e => by injection e with e; exact e.symm) fun q e => .inl (.inr (.inl (by subst e; rfl)))), fun q e => by
      rcases ho2 q e with e | e
      · exact .inl e
      · exact .inr (Nat.le_trans hm.out.size e)⟩)
  simp only [newC] at hend
  clear h2 hf2 ho2 hcs r1 r2 kb2 hh' hp'
  go_upto_region 5 with (fail)
  go_region_law (fail)
  all_goals go_wp2
  all_goals go_ret
  all_goals
    obtain ⟨l, vF', e1, e2, e3, e4, e5⟩ := hend.out
    refine ⟨rfl, l, vF', e1, e2, ?_, ?_, e5⟩
    · exact e3.later (Below.refl _ _).drew
    · exact e4.trans (D' := fun _ => False) (PFr.of_below (Below.refl _ _).drew) (fun _ h => h.elim)
/-- the lowest number where no cell is -/
def nextK (s : PS) : Nat := if s.free = [] then s.all.length else (hget s.free 0).toNat
def putAt (l : List Cl) (k : Nat) (c : Cl) : List Cl := if k < l.length then l.set k c else l ++ [c]
/-- what adding to a pool's list comes to -/
def LEnd (B p M : Nat) (vA vF : Value) (s : PS) (w : World) (c : Cl) (w' : World) : Prop :=
  ∃ l vA' vF', HeapN l l.length ∧ (s.free = [] ∧ l = [] ∨ s.free.Perm ((nextK s : Int) :: l)) ∧ PX B p M vA' vF' { s with all := putAt s.all (nextK s) c, free := l } w' ∧ PFr (fun q => q = p ∨ vA.ownBlock = some q ∨ vF.ownBlock = some q) w w' ∧ (∀ q, vA'.ownBlock = some q → vA.ownBlock = some q ∨ w.heap.size ≤ q) ∧ ∀ q, vF'.ownBlock = some q → vF.ownBlock = some q ∨ w.heap.size ≤ q
theorem ladd_gen (B p M : Nat) (vA vF : Value) (s : PS) (w : World) (h : PX B p M vA vF s w) (hh : HeapN s.free s.free.length) (hk : ∀ v ∈ s.free, ∃ k : Nat, v = (k : Int) ∧ k < s.all.length) (hn : s.all.length < 900000) (hf : s.free.length < 900000) (x : Ln) (own : Int) :
    Calls Try.prog 25 #[.pointer (some ⟨p, 1, none⟩), keptV x own] w fun e w' => e = .returned (.int .i64 (nextK s : Int)) ∧ LEnd B p M vA vF s w (newC x own) w' := by
  by_cases h0 : s.free = []
  · have e0 : nextK s = s.all.length := by unfold nextK; rw [if_pos h0]
    refine (ladd_new B p M vA vF s w h h0 (by omega) x own).mono ?_
    rintro e w' ⟨rfl, vA', h1, h2, h3⟩
    refine ⟨by rw [e0], [], vA', vF, fun k _ h => absurd h (by simp), .inl ⟨h0, rfl⟩, ?_, h2.more fun q e => by rcases e with e | e; exact .inl e; exact .inr (.inl e), h3, fun q e => .inl e⟩
    have e1 : putAt s.all (nextK s) (newC x own) = s.all ++ [newC x own] := by unfold putAt; rw [e0, if_neg (by omega)]
    rw [e1]
    have : ({ s with all := s.all ++ [newC x own] } : PS) = { s with all := s.all ++ [newC x own], free := [] } := by rw [← h0]
    rw [← this]; exact h1
  · have hl : 0 < s.free.length := List.length_pos_iff.2 h0
    obtain ⟨k, hk1, hk2⟩ := hk (hget s.free 0) (List.mem_of_getElem? (at_hget hl))
    have e0 : nextK s = k := by unfold nextK; rw [if_neg h0, hk1]; simp
    refine (ladd_pop B p M vA vF s w h hh k hk1 hk2 hl hf x own).mono ?_
    rintro e w' ⟨rfl, l, vF', h1, h2, h3, h4, h5⟩
    refine ⟨by rw [e0], l, vA, vF', h1, .inr (by rw [e0]; exact h2), ?_, h4, fun q e => .inl e, h5⟩
    have e1 : putAt s.all (nextK s) (newC x own) = s.all.set k (newC x own) := by unfold putAt; rw [e0, if_pos hk2]
    rw [e1]; exact h3
/-- a new cell is put in -/
def addG (s : PS) (x : Ln) (l : List Int) : PS := { bump s x.1 with all := putAt (bump s x.1).all (nextK s) (newC x 1), free := l, num := putN s.num x (nextK s) }
theorem nextK_bump (s : PS) (x : Int) : nextK (bump s x) = nextK s := by
  unfold nextK
  rw [(bump_len s x).2.1, (bump_len s x).1]
/-- what is left of adding a cell: the map is turned -/
theorem add_endG {B p M : Nat} {D : Nat → Prop} {vA vF : Value} {s : PS} {w u4 u5 w6 w7 : World} {x : Ln} (hD : ∀ k, Has p M vA vF k → D k) (b4 : Below w.heap.size w u4) (f5 : PFr (Has p M vA vF) u4 u5)
    (h6 : LEnd B p M vA vF (bump s x.1) u5 (newC x 1) w6) (hM : ∃ w6', Below w6.heap.size w6 w6' ∧ EMap encL w7 M (fun k => (putN s.num x (nextK s : Int) k).map (Value.int .i64)) ∧ w6'.grownBy w7 (some M)) :
    ∃ l, HeapN l l.length ∧ (s.free = [] ∧ l = [] ∨ s.free.Perm ((nextK s : Int) :: l)) ∧ POut B p D w (addG s x l) w7 := by
  obtain ⟨l, vA', vF', hh, hp, h, f6, oA, oF⟩ := h6
  obtain ⟨w6', hb6, hM, hG⟩ := hM
  have hs := Nat.le_trans b4.size f5.size
  have hb := bump_len s x.1
  rw [hb.2.1, nextK_bump] at hp
  rw [nextK_bump] at h
  refine ⟨l, hh, hp, ⟨M, vA', vF', ((h.later hb6).turn hM hG), fun k hk => ?_⟩, (((((PFr.of_below b4).trans (f5.more hD) fun k e => .inl e).trans (f6.more (D' := D) fun k e => ?_) fun k e => .inl e).trans (PFr.of_below (D := fun _ => False) hb6) fun _ e => e.elim).trans (PFr.of_grown (D := D) hG fun k e => ?_) fun k e => .inl e)⟩
  · rcases hk with e | e | e | e
    · exact .inl (hD k (.inl e))
    · exact .inl (hD k (.inr (.inl e)))
    · rcases oA k e with e | e
      · exact .inl (hD k (.inr (.inr (.inl e))))
      · exact .inr (Nat.le_trans hs e)
    · rcases oF k e with e | e
      · exact .inl (hD k (.inr (.inr (.inr e))))
      · exact .inr (Nat.le_trans hs e)
  · rcases e with e | e | e
    · exact hD k (.inl e)
    · exact hD k (.inr (.inr (.inl e)))
    · exact hD k (.inr (.inr (.inr e)))
  · injection e with e
    exact hD k (.inr (.inl e.symm))
theorem LEnd.blk {B p M g : Nat} {vA vF : Value} {s : PS} {u w' : World} {c : Cl} {t : TypeId} {cs : Array Value} (h : LEnd B p M vA vF s u c w') (hb : Blk u g t cs) (hg : ∀ q, Has p M vA vF q → q ≠ g) : Blk w' g t cs := by
  obtain ⟨l, vA', vF', _, _, _, f6, _, _⟩ := h
  refine (f6.block g hb.lt fun e => ?_).trans hb
  rcases e with e | e | e
  · exact hg g (.inl e) rfl
  · exact hg g (.inr (.inr (.inl e))) rfl
  · exact hg g (.inr (.inr (.inr e))) rfl
theorem LEnd.mapc {B p M : Nat} {vA vF : Value} {s : PS} {u w' : World} {c : Cl} (h : LEnd B p M vA vF s u c w') : w'.cell? ⟨p, 3, none⟩ = some (.map (some M)) ∧ EMap encL w' M fun k => (s.num k).map (Value.int .i64) := by
  obtain ⟨l, vA', vF', _, _, h, _, _, _⟩ := h
  exact ⟨h.blk.cell 3, h.num⟩
theorem PX.ne_link {B p M g : Nat} {vA vF : Value} {s : PS} {w : World} {t : TypeId} {cs : Array Value} (h : PX B p M vA vF s w) (hb : Blk w g t cs) (h1 : 60 ≠ t) (h2 : 68 ≠ t) (h3 : 3 ≠ t) : ∀ q, Has p M vA vF q → q ≠ g := by
  rintro q (e | e | e | e) rfl
  · subst e
    have h4 := h.blk
    unfold Blk at h4 hb
    rw [hb] at h4
    injection h4 with h4
    injection h4 with _ h4
    exact h1 h4.symm
  · exact h.num.ne_blk hb e
  · exact hb.own_ne h.all h2 e.symm
  · exact hb.own_ne h.free h3 e.symm
end Go.Proofs.Ytdgbnibnhajfoaa
