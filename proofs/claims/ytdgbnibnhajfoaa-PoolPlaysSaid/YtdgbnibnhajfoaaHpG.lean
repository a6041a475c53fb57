/- A pool: what is held no more goes, and what is ahead of it, and so on. -/
import Derived.Test.YtdgbnibnhajfoaaHpF
import Derived.Test.YtdgbnibnhajfoaaHpI
import Derived.Test.YtdgbnibnhajfoaaKmD
namespace Go.Proofs.Ytdgbnibnhajfoaa
open Go.ChangeShapes Go.WideShapes Go.ChangeAt Go.RowKit
set_option linter.unusedVariables false
set_option linter.unusedSimpArgs false

/-- a hold of the cell at x goes -/
inductive Dr : List Cl → Int → List Cl → Prop
  | none (l : List Cl) : Dr l (-1) l
  | more (l : List Cl) (k : Nat) (c : Cl) (h : l[k]? = some c) (h2 : 2 ≤ c.holds) : Dr l (k : Int) (l.set k { c with holds := c.holds - 1 })
  | last (l : List Cl) (k : Nat) (c : Cl) (l' : List Cl) (h : l[k]? = some c) (h1 : c.holds = 1) (hn : Dr (l.set k cl0) c.prev l') : Dr l (k : Int) l'
theorem del_num {f : Ln → Option Int} {u : World} {M : Nat} (h : EMap encL u M fun k => (f k).map (Value.int .i64)) (x : Ln) (ty : TypeId) :
    ∃ u', (Builtin.delete_ #[52, 64] ty #[.map (some M), encL x]).run Try.prog u = .ok (.tuple #[]) u' ∧ EMap encL u' M (fun k => (delN f x k).map (Value.int .i64)) ∧ u.grownBy u' (some M) := by
  obtain ⟨u', h1, h2, h3⟩ := run_delete_K linkKey Try.underlying52 h x ty
  refine ⟨u', h1, ?_, h3⟩
  have : (fun k => (delN f x k).map (Value.int .i64)) = kdel (fun k => (f k).map (Value.int .i64)) x := by
    funext k
    unfold delN kdel
    split <;> rfl
  rw [this]
  exact h2
theorem Inv.less {K : Nat} {k : Nat} {s : PS} {c : Cl} (h : Inv K (k : Int) s) (hc : s.all[k]? = some c) (h2 : 2 ≤ c.holds) : Inv K (-1) { s with all := s.all.set k { c with holds := c.holds - 1 } } := by
  have hp := h.pos k c hc
  have hn := h.cnt k c hc (by omega)
  rw [if_pos rfl] at hn
  refine h.turn (Nat.le_refl _) hc (by omega) ⟨rfl, rfl, rfl⟩ (by simp; omega) ⟨hp.1, by simp; omega, hp.2.2.1, by simp; omega⟩ (by simp; omega) fun j hj _ => by
    constructor
    · intro e; omega
    · intro e; omega
set_option maxHeartbeats 8000000 in
set_option maxRecDepth 100000 in
theorem rel_any (B p M K : Nat) (vA vF : Value) (s : PS) (w : World) (x : Int) (h : PX B p M vA vF s w) (hI : Inv K x s) (hx : x = -1 ∨ ∃ k : Nat, x = (k : Int) ∧ Live s.all k) (hK : K ≤ 100000) :
    Calls Try.prog 26 #[.pointer (some ⟨p, 0, none⟩), .int .i64 x] w fun e w' => e = .returned (.tuple #[]) ∧
      ∃ s' vF', Inv K (-1) s' ∧ Dr s.all x s'.all ∧ s'.most = s.most ∧ PX B p M vA vF' s' w' ∧ PFr (Has p M vA vF) w w' ∧ ∀ q, vF'.ownBlock = some q → vF.ownBlock = some q ∨ w.heap.size ≤ q := by
  go_enter Try.func26, Try.ntmps26
  go_wp2_with fail
  go_loopg [1] (s.all.countP (fun d => decide (d.holds ≠ 0))) (fun n v1 wr => ∃ (at_ : Int) (s1 : PS) (vF1 : Value), v1 = .int .i64 at_ ∧ s1.all.countP (fun d => decide (d.holds ≠ 0)) = n ∧ Inv K at_ s1 ∧ (at_ = -1 ∨ ∃ k : Nat, at_ = (k : Int) ∧ Live s1.all k) ∧ (∀ l', Dr s1.all at_ l' → Dr s.all x l') ∧ s1.most = s.most ∧ PX B p M vA vF1 s1 wr ∧ PFr (Has p M vA vF) w wr ∧ ∀ q, vF1.ownBlock = some q → vF.ownBlock = some q ∨ w.heap.size ≤ q)
  case atStart => exact ⟨x, s, vF, rfl, rfl, hI, hx, fun _ h => h, rfl, h, .refl _ _, fun q e => .inl e⟩
  case round =>
    clear h hI hx
    obtain ⟨at_, s1, vF1, rfl, hn, hI, hx, hD, hmo, h, hf, ho⟩ := hrel
    replace hn := Lib.hid hn
    replace hf := Lib.hid hf
    replace ho := Lib.hid ho
    rcases hx with rfl | ⟨k, rfl, c, hc, hl⟩
    · have hd := Lib.hid (hD _ (Dr.none s1.all))
      replace h := Lib.hid h
      replace hI := Lib.hid hI
      clear hD
      go_wp2
      refine bodyPost_end (results_none rfl _ _ _) rfl ?_
      exact ⟨rfl, s1, vF1, hI.out, hd.out, hmo, h.out, hf.out, ho.out⟩
    · have hpo := hI.pos k c hc
      have hk1 : ((k : Int) != -1) = true := by simp
      by_cases h2 : 2 ≤ c.holds
      · have R := Lib.hid (release_more B p M vA vF1 s1 wr h k c hc ⟨h2, by omega⟩)
        have hd := Lib.hid (hD _ (Dr.more _ k c hc h2))
        have hI2 := Lib.hid (hI.less hc h2)
        clear hD hI h hc hl hpo h2
        go_wp2_with fail
        refine R.out.mono ?_
        rintro e w2 ⟨rfl, h2, hf2⟩
        have hm := m1 w2 (.cells #[.int .i64 c.prev, .int .i64 c.event, .bool c.fresh, .int .i64 c.own] 66)
        have hend := Lib.hid (show PX B p M vA vF1 { s1 with all := s1.all.set k { c with holds := c.holds - 1 } } (w2.alloc (.cells #[.int .i64 c.prev, .int .i64 c.event, .bool c.fresh, .int .i64 c.own] 66)) ∧ PFr (Has p M vA vF) w (w2.alloc (.cells #[.int .i64 c.prev, .int .i64 c.event, .bool c.fresh, .int .i64 c.own] 66)) from
          ⟨h2.later hm, (hf.out.trans hf2 fun q e => .inl (.inr (.inr (.inl e)))).trans (PFr.of_below (D := fun _ => False) hm) fun _ e => e.elim⟩)
        clear h2 hf2 hm
        simp only [keptC]
        go_wp2
        refine bodyPost_ret (results_none rfl _ _ _) rfl ?_
        exact ⟨rfl, _, vF1, hI2.out, hd.out, hmo, hend.out.1, hend.out.2, ho.out⟩
      · have h1 : c.holds = 1 := by omega
        obtain ⟨hlast⟩ : Nonempty (∀ (l : List Int), HeapN l l.length → l.Perm ((k : Int) :: s1.free) → Inv K c.prev { s1 with all := s1.all.set k cl0, free := l, num := delN s1.num (c.prev, c.event, c.fresh) } ∧ c.own = 0 ∧ (c.prev = -1 ∨ ∃ kp : Nat, c.prev = (kp : Int) ∧ Live (s1.all.set k cl0) kp) ∧ ((s1.all.set k cl0).countP (fun d => decide (d.holds ≠ 0))) + 1 = s1.all.countP (fun d => decide (d.holds ≠ 0))) := ⟨fun l hh hp => hI.last hc h1 hh hp⟩
        have R := Lib.hid (release_last B p M vA vF1 s1 wr h k c hc h1 hI.heap (by have := hI.free_le; omega))
        have hd := Lib.hid (fun l' (h : Dr (s1.all.set k cl0) c.prev l') => hD l' (Dr.last _ k c l' hc h1 h))
        replace hlast := Lib.hid hlast
        clear hD hI h hc hl hpo h2
        replace h1 := Lib.hid h1
        go_wp2_with fail
        refine R.out.mono ?_
        rintro e w2 ⟨rfl, l, vF', hh, hp, h2, hf2, ho2⟩
        have hm := m1 w2 (.cells #[.int .i64 c.prev, .int .i64 c.event, .bool c.fresh, .int .i64 c.own] 66)
        have h3 := h2.later hm
        have kg := Blk.made w2 66 #[.int .i64 c.prev, .int .i64 c.event, .bool c.fresh, .int .i64 c.own]
        have hf3 := (hf.out.trans hf2 fun q e => by
          rcases e with e | e | e
          · exact .inl (.inl e)
          · exact .inl (.inr (.inr (.inl e)))
          · rcases ho.out q e with e | e
            · exact .inl (.inr (.inr (.inr e)))
            · exact .inr e).trans (PFr.of_below (D := fun _ => False) hm) fun _ e => e.elim
        have ho3 : ∀ q, vF'.ownBlock = some q → vF.ownBlock = some q ∨ w.heap.size ≤ q := fun q e => by
          rcases ho2 q e with e | e
          · exact ho.out q e
          · exact .inr (Nat.le_trans hf.out.size e)
        have hL := hlast.out l hh hp
        replace hL := Lib.hid hL
        replace h3 := Lib.hid h3
        replace hf3 := Lib.hid hf3
        replace ho3 := Lib.hid ho3
        clear h2 hf2 ho2 hm R hlast hh hp
        simp only [keptC]
        go_upto_region 3 with (fail)
        generalize w2.alloc (.cells #[.int .i64 c.prev, .int .i64 c.event, .bool c.fresh, .int .i64 c.own] 66) = w3 at *
        generalize w2.heap.size = g at *
        have x0 : w3.cell? ⟨g, 0, none⟩ = some (.int .i64 c.prev) := kg.cell 0
        have x1 : w3.cell? ⟨g, 1, none⟩ = some (.int .i64 c.event) := kg.cell 1
        have x2 : w3.cell? ⟨g, 2, none⟩ = some (.bool c.fresh) := kg.cell 2
        have d3 : w3.cell? ⟨p, 3, none⟩ = some (.map (some M)) := h3.out.blk.cell 3
        obtain ⟨w4, hdel, hM4, hG4⟩ := del_num (h3.out.later (Below.refl _ _).drew).num (c.prev, c.event, c.fresh) 0
        dsimp only [encL] at hdel
        go_region_law (fail)
        all_goals
          have hgM : g ≠ M := h3.out.num.ne_blk kg
          have y0 : w4.cell? ⟨g, 0, none⟩ = some (.int .i64 c.prev) := hG4.cell x0 (fun e => hgM (by injection e))
          have h4 := Lib.hid ((h3.out.later (Below.refl _ _).drew).turn hM4 hG4)
          have hf4 := Lib.hid ((hf3.out.trans (PFr.of_below (D := fun _ => False) (Below.refl _ _).drew) fun _ e => e.elim).trans (PFr.of_grown (D := fun q => q = M) hG4 fun q e => by injection e with e; exact e.symm) fun q e => .inl (.inr (.inl e)))
          clear hdel hM4 hG4 x0 x1 x2 d3 kg
          go_wp2
          go_roundg ((s1.all.set k cl0).countP (fun d => decide (d.holds ≠ 0)))
          case measure => have := hL.out.2.2.2; have := hn.out; omega
          case rel => exact ⟨c.prev, _, vF', rfl, rfl, hL.out.1, hL.out.2.2.1, hd.out, hmo, h4.out, hf4.out, ho3.out⟩

/-- a hold of its own goes from the cell at k -/
def dropS (s : PS) (k : Nat) (c : Cl) : PS := { s with all := s.all.set k { c with own := c.own - 1 } }
theorem Inv.drop {K : Nat} {k : Nat} {s : PS} {c : Cl} (h : Inv K (-1) s) (hc : s.all[k]? = some c) (hl : c.holds ≠ 0) (h1 : 1 ≤ c.own) : Inv K (k : Int) (dropS s k c) := by
  have hp := h.pos k c hc
  have hn := h.cnt k c hc hl
  rw [if_neg (by omega)] at hn
  refine h.turn (Nat.le_refl _) hc hl ⟨rfl, rfl, rfl⟩ hl ⟨by simp; omega, hp.2.1, by simp; omega, hp.2.2.2⟩ (by simp; omega) fun j hj _ => by
    constructor
    · intro e; omega
    · intro e; omega
theorem drop_no {B p : Nat} {D : Nat → Prop} {s : PS} {w : World} (h : PAt B p D s w) (i : Int) (hi : -9223372036854775808 ≤ i ∧ i ≤ 9223372036854775807) (hf : findP s i = none) :
    Calls Try.prog 15 #[.pointer (some ⟨p, 0, none⟩), .int .i64 i] w fun e w' => e = .returned (.bool false) ∧ w = w' := by
  obtain ⟨M, vA, vF, h, _⟩ := h
  have C := Lib.hid (find_none B p M vA vF s w h i hi hf)
  clear h hf
  go_enter Try.func15, Try.ntmps15
  go_wp2_with fail
  refine C.out.mono ?_
  rintro e w1 ⟨rfl, rfl⟩
  go_wp2
  go_ret
  exact ⟨rfl, rfl⟩
theorem drop_none_own {B p : Nat} {D : Nat → Prop} {s : PS} {w : World} (h : PAt B p D s w) (k : Nat) (c : Cl) (hf : findP s (k : Int) = some c) (h0 : c.own = 0) :
    Calls Try.prog 15 #[.pointer (some ⟨p, 0, none⟩), .int .i64 (k : Int)] w fun e w' => e = .returned (.bool false) ∧ w = w' := by
  obtain ⟨M, vA, vF, h, _⟩ := h
  obtain ⟨A, cap, hv, C⟩ := find_some B p M vA vF s w h k c hf
  obtain ⟨A', cap', hv', _, _, c0, c1, c2, c3, c4⟩ := h.cl (findP_some.1 hf).1
  rw [hv] at hv'
  cases hv'
  rw [h0] at c3
  replace C := Lib.hid C
  clear h hf hv c0 c1 c2 c4 h0
  go_enter Try.func15, Try.ntmps15
  go_wp2_with fail
  refine C.out.mono ?_
  rintro e w1 ⟨rfl, rfl⟩
  go_wp2
  go_ret
  exact ⟨rfl, rfl⟩
set_option maxHeartbeats 4000000 in
theorem drop_yes {B p K : Nat} {D : Nat → Prop} {s : PS} {w : World} (h : PAt B p D s w) (hI : Inv K (-1) s) (hK : K ≤ 100000) (k : Nat) (c : Cl) (hf : findP s (k : Int) = some c) (h1 : 1 ≤ c.own) :
    Calls Try.prog 15 #[.pointer (some ⟨p, 0, none⟩), .int .i64 (k : Int)] w fun e w' => e = .returned (.bool true) ∧ ∃ s', Inv K (-1) s' ∧ Dr (dropS s k c).all k s'.all ∧ s'.most = s.most ∧ POut B p D w s' w' := by
  obtain ⟨M, vA, vF, h, hD⟩ := h
  obtain ⟨hc, hz⟩ := findP_some.1 hf
  obtain ⟨A, cap, hv, C⟩ := find_some B p M vA vF s w h k c hf
  subst hv
  obtain ⟨A', cap', hv', _, _, c0, c1, c2, c3, c4⟩ := h.cl hc
  cases hv'
  obtain ⟨p1, g1, f3⟩ := h.put (j := 3) (v := .int .i64 (c.own - 1)) (c' := { c with own := c.own - 1 }) hc (by omega) rfl
  have hpo := hI.pos k c hc
  have hwr : IntKind.i64.wrap (c.own - 1) = c.own - 1 := by rw [IntKind.wrap_i64]; omega
  have hne : (c.own == 0) = false := by simp; omega
  have hlive : Live (dropS s k c).all k := ⟨{ c with own := c.own - 1 }, by simp [dropS, (List.getElem?_eq_some_iff.1 hc).1], hz⟩
  have R := Lib.hid (rel_any B p M K _ vF (dropS s k c) (w.setCell ⟨A, k * 5 + 3, none⟩ (.int .i64 (c.own - 1))) (k : Int) p1 (hI.drop hc hz h1) (.inr ⟨k, rfl, hlive⟩) hK)
  have hb1 : 1 < c.own + 1 := by omega
  replace C := Lib.hid C
  replace g1 := Lib.hid g1
  replace hD := Lib.hid hD
  replace h1 := Lib.hid h1
  clear h hI hf hc hz c0 c1 c2 c4 p1 hpo hlive hb1
  go_enter Try.func15, Try.ntmps15
  go_wp2_with fail
  refine C.out.mono ?_
  rintro e w1 ⟨rfl, rfl⟩
  go_wp2_with fail
  refine R.out.mono ?_
  rintro e w2 ⟨rfl, s', vF', hI', hDr, hmo, h', hf', ho'⟩
  have hsz : (w.setCell ⟨A, k * 5 + 3, none⟩ (.int .i64 (c.own - 1))).heap.size = w.heap.size := by simp
  have hend := Lib.hid (show ∃ s', Inv K (-1) s' ∧ Dr (dropS s k c).all k s'.all ∧ s'.most = s.most ∧ POut B p D w s' w2 from ⟨s', hI', hDr, hmo, ⟨M, .slice (some ⟨A, 0, none⟩) s.all.length cap, vF', h', fun q hq => by
    rcases hq with e | e | e | e
    · exact .inl (hD.out q (.inl e))
    · exact .inl (hD.out q (.inr (.inl e)))
    · exact .inl (hD.out q (.inr (.inr (.inl e))))
    · rcases ho' q e with e | e
      · exact .inl (hD.out q (.inr (.inr (.inr e))))
      · exact .inr (by rw [hsz] at e; exact e)⟩, (PFr.of_grown (D := D) g1.out fun q e => hD.out q (.inr (.inr (.inl e)))).trans (hf'.more (D' := D) fun q e => hD.out q e) fun q e => .inl e⟩)
  clear hI' hDr h' hf' ho' hsz
  go_wp2
  go_ret
  exact ⟨rfl, hend.out⟩
end Go.Proofs.Ytdgbnibnhajfoaa
