/- The document's pool: what its Add answers. -/
import Derived.Test.YtdgbnibnhajfoaaPpA
namespace Go.Proofs.Ytdgbnibnhajfoaa
open Go.ChangeShapes Go.WideShapes Go.ChangeAt Go.RowKit
set_option linter.unusedVariables false
set_option linter.unusedSimpArgs false

/-- turned: the row may be another one -/
def RNew (B r : Nat) (vC : Value) (most : Int) (w : World) (l : List RC) (w' : World) : Prop :=
  ∃ vC', RX B r vC' most l w' ∧ PFr (fun q => q = r ∨ vC.ownBlock = some q) w w' ∧ ∀ q, vC'.ownBlock = some q → vC.ownBlock = some q ∨ w.heap.size ≤ q
theorem RX.put {B r A n cap : Nat} {most : Int} {l : List RC} {w : World} (h : RX B r (.slice (some ⟨A, 0, none⟩) n cap) most l w) {k j : Nat} {c c' : RC} {v : Value} (hc : l[k]? = some c) (hj : j < 6) (hs : (rcC c).set j v = rcC c') :
    RX B r (.slice (some ⟨A, 0, none⟩) n cap) most (l.set k c') (w.setCell ⟨A, k * 6 + j, none⟩ v) ∧ w.grownBy (w.setCell ⟨A, k * 6 + j, none⟩ v) (some A) ∧ w.frozen? ⟨A, k * 6 + j, none⟩ = false := by
  obtain ⟨A', cap', hv', _⟩ := h.cl hc
  cases hv'
  have n1 := h.blk.own_ne h.row (by decide)
  obtain ⟨o1, o2⟩ := h.row.stored (k * 6 + j) v
  rw [rcs_set _ _ _ _ _ _ hc hj hs] at o1
  exact ⟨⟨h.blk.grown o2 (fun e => n1 (by rw [e]; rfl)), by simpa using o1, h.low⟩, o2, h.row.frozenAt _⟩
theorem RNew.of_put {B r : Nat} {vC : Value} {most : Int} {l : List RC} {w wr w' : World} {A n cap : Nat} (hv : vC = .slice (some ⟨A, 0, none⟩) n cap) (hb : Below w.heap.size w wr) (h : RX B r vC most l w') (hg : wr.grownBy w' (some A)) : RNew B r vC most w l w' := by
  refine ⟨vC, h, (PFr.of_below hb).trans (PFr.of_grown hg fun k e => ?_) (D' := fun q => vC.ownBlock = some q) (fun q hq => .inl hq) |>.more fun q hq => .inr hq, fun q e => .inl e⟩
  rw [hv]
  exact e
theorem infoRC : (Try.prog.info? 34).map (fun i => (i.zero, i.size, i.bytes)) = some (some (.agg #[.bool false, .int .i64 0, .int .i64 0, .bool false, .int .i64 0, .int .i64 0]), 6, 48) := by kernel_rfl
theorem rc0_one : ∀ u ∈ rcC rc0, u.oneCell' = true := by decide
theorem news_rc0 (w : World) (t : TypeId) : ∀ (j : Nat) (u : Value), (rcC rc0)[j]? = some u → (w.alloc (.cells #[.bool false, .int .i64 0, .int .i64 0, .bool false, .int .i64 0, .int .i64 0] t)).cell? ((⟨w.heap.size, 0, none⟩ : Addr).add j) = some u := by
  intro j u hj
  match j, hj with
  | 0, hj => simp [rcC, rc0] at hj; subst hj; simp [Addr.add]
  | 1, hj => simp [rcC, rc0] at hj; subst hj; simp [Addr.add]
  | 2, hj => simp [rcC, rc0] at hj; subst hj; simp [Addr.add]
  | 3, hj => simp [rcC, rc0] at hj; subst hj; simp [Addr.add]
  | 4, hj => simp [rcC, rc0] at hj; subst hj; simp [Addr.add]
  | 5, hj => simp [rcC, rc0] at hj; subst hj; simp [Addr.add]
  | n + 6, hj => simp [rcC, rc0] at hj
/-- a whole cell of the row is stored -/
theorem RX.put6 {B r A n cap : Nat} {most : Int} {l : List RC} {w : World} (h : RX B r (.slice (some ⟨A, 0, none⟩) n cap) most l w) {k : Nat} {c c' : RC} (hc : l[k]? = some c) :
    RX B r (.slice (some ⟨A, 0, none⟩) n cap) most (l.set k c') ((((((w.setCell ⟨A, k * 6, none⟩ (.bool c'.is)).setCell ⟨A, k * 6 + 1, none⟩ (.int .i64 c'.prev)).setCell ⟨A, k * 6 + 2, none⟩ (.int .i64 c'.event)).setCell ⟨A, k * 6 + 3, none⟩ (.bool c'.fresh)).setCell ⟨A, k * 6 + 4, none⟩ (.int .i64 c'.own)).setCell ⟨A, k * 6 + 5, none⟩ (.int .i64 c'.behind)) ∧
      w.grownBy ((((((w.setCell ⟨A, k * 6, none⟩ (.bool c'.is)).setCell ⟨A, k * 6 + 1, none⟩ (.int .i64 c'.prev)).setCell ⟨A, k * 6 + 2, none⟩ (.int .i64 c'.event)).setCell ⟨A, k * 6 + 3, none⟩ (.bool c'.fresh)).setCell ⟨A, k * 6 + 4, none⟩ (.int .i64 c'.own)).setCell ⟨A, k * 6 + 5, none⟩ (.int .i64 c'.behind)) (some A) := by
  have hlt : k < l.length := (List.getElem?_eq_some_iff.1 hc).1
  obtain ⟨p1, g1, _⟩ := h.put (j := 0) (v := .bool c'.is) (c' := { c with is := c'.is }) hc (by omega) rfl
  obtain ⟨p2, g2, _⟩ := p1.put (k := k) (j := 1) (v := .int .i64 c'.prev) (c := { c with is := c'.is }) (c' := { c with is := c'.is, prev := c'.prev }) (by simp [hlt]) (by omega) rfl
  obtain ⟨p3, g3, _⟩ := p2.put (k := k) (j := 2) (v := .int .i64 c'.event) (c := { c with is := c'.is, prev := c'.prev }) (c' := { c with is := c'.is, prev := c'.prev, event := c'.event }) (by simp [hlt]) (by omega) rfl
  obtain ⟨p4, g4, _⟩ := p3.put (k := k) (j := 3) (v := .bool c'.fresh) (c := { c with is := c'.is, prev := c'.prev, event := c'.event }) (c' := { c' with own := c.own, behind := c.behind }) (by simp [hlt]) (by omega) rfl
  obtain ⟨p5, g5, _⟩ := p4.put (k := k) (j := 4) (v := .int .i64 c'.own) (c := { c' with own := c.own, behind := c.behind }) (c' := { c' with behind := c.behind }) (by simp [hlt]) (by omega) rfl
  obtain ⟨p6, g6, _⟩ := p5.put (k := k) (j := 5) (v := .int .i64 c'.behind) (c := { c' with behind := c.behind }) (c' := c') (by simp [hlt]) (by omega) rfl
  refine ⟨?_, mgrown (mgrown (mgrown (mgrown (mgrown g1 g2 ?_) g3 ?_) g4 ?_) g5 ?_) g6 ?_⟩
  · simpa only [List.set_set, Nat.add_zero] using p6
  all_goals exact fun k hk => .inl hk
theorem RX.frozen {B r A n cap : Nat} {most : Int} {l : List RC} {w : World} (h : RX B r (.slice (some ⟨A, 0, none⟩) n cap) most l w) (hn : 0 < l.length) (j : Nat) : w.frozen? ⟨A, j, none⟩ = false := by
  obtain ⟨A', cap', hv', _⟩ := h.cl (List.getElem?_eq_getElem hn)
  cases hv'
  exact h.row.frozenAt _
theorem rcs_snoc (l : List RC) (c : RC) : rcs (l ++ [c]) = rcs l ++ rcC c := by simp [rcs]
/-- the row has grown -/
theorem RX.grow {B r : Nat} {vC v' : Value} {most : Int} {l : List RC} {u w3 : World} (h : RX B r vC most l u) (hO : w3.ownsRow B 34 6 v' (l.length + 1) (rcs l ++ rcC rc0)) (hG : u.grownBy w3 vC.ownBlock) :
    w3.frozen? ⟨r, 0, none⟩ = false ∧ w3.cell? ⟨r, 0, none⟩ = some vC ∧ RX B r v' most (l ++ [rc0]) (w3.setCell ⟨r, 0, none⟩ v') ∧ PFr (fun k => k = r ∨ vC.ownBlock = some k) u (w3.setCell ⟨r, 0, none⟩ v') := by
  have n1 := h.blk.own_ne h.row (by decide)
  have b3 := h.blk.grown hG n1
  have hs := mset w3 ⟨r, 0, none⟩ v'
  have nv : v'.ownBlock ≠ some r := fun e => b3.own_ne hO (by decide) e.symm
  refine ⟨b3.free 0, b3.cell 0, ⟨b3.put_ 0 v', ?_, h.low⟩, ?_⟩
  · rw [List.length_append, rcs_snoc]; exact mown_set hO nv _
  · exact (PFr.of_grown hG fun k e => .inr e).trans (D' := fun k => k = r) (PFr.of_grown hs fun k e => by injection e with e; exact e.symm) fun k e => .inl (.inl e)
theorem RNew.step {B r A n cap : Nat} {vC vC1 : Value} {most : Int} {l2 : List RC} {w w1 w2 : World} (hv : vC1 = .slice (some ⟨A, 0, none⟩) n cap) (hf : PFr (fun q => q = r ∨ vC.ownBlock = some q) w w1) (ho : ∀ q, vC1.ownBlock = some q → vC.ownBlock = some q ∨ w.heap.size ≤ q) (h2 : RX B r vC1 most l2 w2) (hg : w1.grownBy w2 (some A)) : RNew B r vC most w l2 w2 := by
  refine ⟨vC1, h2, hf.trans (D' := fun q => q = A) (PFr.of_grown hg fun k e => by injection e with e; exact e.symm) fun k e => ?_, ho⟩
  rcases ho A (by rw [hv]; rfl) with h | h
  · exact .inl (.inr (e ▸ h))
  · exact .inr (e ▸ h)
/-- is it the cell that is looked for? -/
def mB (prev event : Int) (q : Bool) (c : RC) : Bool := c.is && (c.prev == prev) && (c.event == event) && (c.fresh == q)
def FreeAt (l : List RC) (n f : Nat) : Prop := (f = l.length ∧ ∀ j c, n ≤ j → l[j]? = some c → c.is = true) ∨ (n ≤ f ∧ (∃ c, l[f]? = some c ∧ c.is = false) ∧ ∀ j c, n ≤ j → j < f → l[j]? = some c → c.is = true)
def NoM (l : List RC) (P : RC → Bool) (n : Nat) : Prop := ∀ j c, n ≤ j → l[j]? = some c → P c = false
theorem freeAt_end (l : List RC) : FreeAt l l.length l.length := .inl ⟨rfl, fun j c hj hc => by have := (List.getElem?_eq_some_iff.1 hc).1; omega⟩
theorem noM_end (l : List RC) (P : RC → Bool) : NoM l P l.length := fun j c hj hc => by have := (List.getElem?_eq_some_iff.1 hc).1; omega
theorem NoM.step {l : List RC} {P : RC → Bool} {n : Nat} {c : RC} (h : NoM l P (n + 1)) (hc : l[n]? = some c) (hp : P c = false) : NoM l P n := fun j d hj hd => by
  by_cases e : j = n
  · subst e; rw [hc] at hd; injection hd with hd; rw [← hd]; exact hp
  · exact h j d (by omega) hd
theorem FreeAt.here {l : List RC} {n f : Nat} {c : RC} (h : FreeAt l (n + 1) f) (hc : l[n]? = some c) (hi : c.is = false) : FreeAt l n n :=
  .inr ⟨Nat.le_refl _, ⟨c, hc, hi⟩, fun j d h1 h2 _ => by omega⟩
theorem FreeAt.on {l : List RC} {n f : Nat} {c : RC} (h : FreeAt l (n + 1) f) (hc : l[n]? = some c) (hi : c.is = true) : FreeAt l n f := by
  rcases h with ⟨h1, h2⟩ | ⟨h1, h2, h3⟩
  · refine .inl ⟨h1, fun j d hj hd => ?_⟩
    by_cases e : j = n
    · subst e; rw [hc] at hd; injection hd with hd; rw [← hd]; exact hi
    · exact h2 j d (by omega) hd
  · refine .inr ⟨by omega, h2, fun j d hj hf hd => ?_⟩
    by_cases e : j = n
    · subst e; rw [hc] at hd; injection hd with hd; rw [← hd]; exact hi
    · exact h3 j d (by omega) hf hd
def putR (l : List RC) (k : Nat) (c : RC) : List RC := if k < l.length then l.set k c else l ++ [c]
theorem hasR_nat {l : List RC} {i : Int} {c : RC} (hf : hasR l i = some c) : ∃ k : Nat, i = (k : Int) ∧ l[k]? = some c ∧ c.is = true := by
  unfold hasR at hf
  split at hf
  · rename_i h0
    obtain ⟨k, rfl⟩ := Int.eq_ofNat_of_zero_le h0
    refine ⟨k, rfl, ?_⟩
    simp only [Int.ofNat_eq_natCast, Int.toNat_natCast] at hf
    cases hk : l[k]? with
    | none => rw [hk] at hf; cases hf
    | some d =>
      rw [hk] at hf
      simp only [Option.bind_some] at hf
      split at hf
      · rename_i hi
        injection hf with hf
        subst hf
        exact ⟨rfl, hi⟩
      · cases hf
  · cases hf
theorem putR_at {l : List RC} {f k : Nat} {x : RC} (hk : k < l.length) (hne : k ≠ f) : (putR l f x)[k]? = l[k]? := by
  unfold putR
  split
  · rw [List.getElem?_set, if_neg (fun e => hne e.symm)]
  · rw [List.getElem?_append_left hk]
theorem FreeAt.dead {l : List RC} {n f : Nat} {c : RC} (h : FreeAt l n f) (hc : l[f]? = some c) : c.is = false := by
  rcases h with ⟨h1, _⟩ | ⟨_, ⟨d, h2, h3⟩, _⟩
  · have := (List.getElem?_eq_some_iff.1 hc).1
    omega
  · rw [hc] at h2; injection h2 with h2; rw [h2]; exact h3
def badR (l : List RC) (prev event : Int) : Prop := event < 0 ∨ (prev ≠ -1 ∧ hasR l prev = none)
/-- what Add answers and does -/
def RAdd (B r : Nat) (vC : Value) (most : Int) (l : List RC) (w : World) (prev event : Int) (q : Bool) (e : Ending) (w' : World) : Prop :=
  (e = .returned (.tuple #[.int .i64 (-1), .bool false]) ∧ Below w.heap.size w w' ∧ (badR l prev event ∨ (NoM l (mB prev event q) 0 ∧ most ≤ rusedN l))) ∨
  (∃ k c, ¬ badR l prev event ∧ e = .returned (.tuple #[.int .i64 ((k : Nat) : Int), .bool true]) ∧ l[k]? = some c ∧ mB prev event q c = true ∧ RNew B r vC most w (l.set k { c with own := c.own + 1 }) w') ∨
  ∃ f l', ¬ badR l prev event ∧ e = .returned (.tuple #[.int .i64 ((f : Nat) : Int), .bool true]) ∧ NoM l (mB prev event q) 0 ∧ (rusedN l : Int) < most ∧ FreeAt l 0 f ∧ RNew B r vC most w l' w' ∧
    ((prev = -1 ∧ l' = putR l f ⟨true, prev, event, q, 1, 0⟩) ∨ ∃ (kp : Nat) (c : RC), prev = (kp : Int) ∧ l[kp]? = some c ∧ c.is = true ∧ l' = (putR l f ⟨true, prev, event, q, 1, 0⟩).set kp { c with behind := c.behind + 1 })
set_option maxHeartbeats 8000000 in
set_option maxRecDepth 100000 in
theorem radd_any (B r : Nat) (vC : Value) (most : Int) (l : List RC) (w : World) (h : RX B r vC most l w) (prev event : Int) (fresh : Bool) (hpr : -9223372036854775808 ≤ prev ∧ prev ≤ 9223372036854775807) (hn : l.length ≤ 100000)
    (hc : ∀ c ∈ l, 0 ≤ c.own ∧ c.own ≤ 1000000 ∧ 0 ≤ c.behind ∧ c.behind ≤ 1000000) :
    Calls Try.prog 12 #[.pointer (some ⟨r, 0, none⟩), .int .i64 prev, .int .i64 event, .bool fresh] w (RAdd B r vC most l w prev event (fresh || decide (prev = -1))) := by
  have HA := Lib.hid (rhas_any B r vC most l w h prev hpr)
  have hfin1 := Lib.hid (fun (hb : badR l prev event) => (show RAdd B r vC most l w prev event (fresh || decide (prev = -1)) (.returned (.tuple #[.int .i64 (-1), .bool false])) w from .inl ⟨rfl, Below.refl _ _, .inl hb⟩))
  by_cases hev : event < 0
  · have hf := Lib.hid (hfin1.out (.inl hev))
    clear h hc hfin1
    go_enter Try.func12, Try.ntmps12
    go_wp2_with fail
    go_ret2
    exact hf.out
  by_cases hbad : prev ≠ -1 ∧ hasR l prev = none
  · have hf := Lib.hid (hfin1.out (.inr hbad))
    obtain ⟨hp1, hp2⟩ := hbad
    have HB := HA.out
    rw [hp2] at HB
    replace HB := Lib.hid HB
    have hp3 : (prev == -1) = false := by simpa using hp1
    clear h hc hfin1 hp2 HA
    go_enter Try.func12, Try.ntmps12
    go_wp2_with (go_at_call 14; refine HB.out.mono ?_; rintro e u ⟨rfl, rfl⟩)
    go_ret2
    exact hf.out
  have hgood : ¬ badR l prev event := fun hb => by
    rcases hb with hb | hb
    · exact hev hb
    · exact hbad hb
  clear hfin1
  have hpv : prev = -1 ∨ (prev ≠ -1 ∧ ∃ c, hasR l prev = some c) := by
    by_cases e : prev = -1
    · exact .inl e
    · cases hf : hasR l prev with
      | none => exact absurd ⟨e, hf⟩ hbad
      | some c => exact .inr ⟨e, c, rfl⟩
  clear hbad
  replace h := Lib.hid h
  replace hc := Lib.hid hc
  replace hgood := Lib.hid hgood
  go_enter Try.func12, Try.ntmps12
  go_upto_region 1 with (fail)
  go_cut [24] from 13 to 24 (fun v w' => v = .bool false ∧ w = w')
  case first =>
    rcases hpv with rfl | ⟨hp1, c, hp2⟩
    · go_wp2
      go_meet
      exact ⟨rfl, rfl⟩
    · have HB := HA.out
      rw [hp2] at HB
      replace HB := Lib.hid HB
      have hp3 : (prev == -1) = false := by simpa using hp1
      clear hp2 HA
      go_wp2_with (go_at_call 14; refine HB.out.mono ?_; rintro e u ⟨rfl, rfl⟩)
      go_meet
      exact ⟨rfl, rfl⟩
  case rest =>
  obtain ⟨rfl, rfl⟩ := hcut
  clear HA
  go_upto_region 3 with (fail)
  go_cut [3] from 25 to 29 (fun v w' => v = .bool (fresh || decide (prev = -1)) ∧ w = w')
  case first =>
    cases fresh with
    | true =>
      go_wp2
      go_meet
      exact ⟨rfl, rfl⟩
    | false =>
      by_cases hp : prev = -1
      · have e := Lib.hid (decide_eq_true hp)
        have hp3 : (prev == -1) = true := by simpa using hp
        replace hpv := Lib.hid hpv
        clear hp
        go_wp2
        go_meet
        exact ⟨by rw [e.out]; rfl, rfl⟩
      · have hp3 : (prev == -1) = false := by simpa using hp
        have e := Lib.hid (decide_eq_false hp)
        go_wp2
        go_meet
        exact ⟨by rw [e.out]; rfl, rfl⟩
  case rest =>
  obtain ⟨rfl, rfl⟩ := hcut
  generalize (fresh || decide (prev = -1)) = q at *
  obtain ⟨A, cap, hv, h2⟩ := h.out.len
  have d1 : w.cell? ⟨r, 0, none⟩ = some (.slice A l.length cap) := by rw [h.out.blk.cell 0, ← hv]; rfl
  have n9 : (l.length : Int) ≤ 9223372036854775807 := by unfold maxLen at h2; omega
  have wn : IntKind.i64.wrap ((l.length : Int) - 1) = (l.length : Int) - 1 := by rw [IntKind.wrap_i64]; omega
  have hF := freeAt_end l
  have hN := noM_end l (mB prev event q)
  obtain ⟨n, hln⟩ : ∃ n, l.length = n := ⟨_, rfl⟩
  rw [hln] at d1 n9 hF hN hn wn
  replace hv := Lib.hid hv
  replace hln := Lib.hid hln
  replace hF := Lib.hid hF
  replace hN := Lib.hid hN
  replace hpv := Lib.hid hpv
  clear h2
  go_wp2_with fail
  go_loopw [10, 11] (fun v10 v11 wr => ∃ (k f : Nat), k ≤ n ∧ v11 = .int .i64 ((k : Int) - 1) ∧ v10 = .int .i64 (f : Int) ∧ FreeAt l k f ∧ NoM l (mB prev event q) k ∧ Below w.heap.size w wr) (fun _ v11 _ => (intOf v11 + 1).toNat)
  case atStart => exact ⟨n, n, Nat.le_refl _, rfl, rfl, hF.out, hN.out, Below.refl _ _⟩
  case round =>
    clear hF hN d1
    obtain ⟨k, f, hk, rfl, rfl, hF, hN, hb⟩ := hrel
    rcases Nat.eq_zero_or_pos k with rfl | hpos
    · rw [show ((0 : Nat) : Int) - 1 = -1 from rfl]
      have hU := rused_any B r vC most l wr.drew (h.out.later hb.drew)
      have hz := hb.size
      have hR := h.out.later hb
      have dm : wr.cell? ⟨r, 1, none⟩ = some (.int .i64 most) := hR.blk.cell 1
      have hlr := hR.blk.lt
      obtain ⟨u, hu⟩ : ∃ u, rusedN l = u := ⟨_, rfl⟩
      rw [hu] at hU
      replace hu := Lib.hid hu
      replace hU := Lib.hid hU
      replace hF := Lib.hid hF
      replace hN := Lib.hid hN
      replace hb := Lib.hid hb
      have hR9 := Lib.hid fun v (hv : Below wr.heap.size wr v) => (hR.later hv).blk.cell 1
      replace hR := Lib.hid hR
      have hbd := Lib.hid (Below.refl wr.heap.size wr)
      clear hk hpr
      go_upto_region 14 with (fail)
      go_cut [94] from 88 to 94 (fun v w' => v = .bool (decide (most ≤ (u : Int))) ∧ Below wr.heap.size wr w')
      case first =>
        go_region_law ((try go_simp); go_at_call 18; refine hU.out.mono ?_; rintro e u5 ⟨rfl, hb5⟩; have hb6 := hbd.out.drew.trans hb5; have dm5 : u5.cell? ⟨r, 1, none⟩ = some (.int .i64 most) := hR9.out _ hb6; replace hb6 := Lib.hid hb6; clear hb5)
        all_goals go_wp2
        all_goals go_meet
        all_goals exact ⟨rfl, hb6.out⟩
      case rest =>
        obtain ⟨rfl, hb5⟩ := hcut
        rename_i wc
        have hb6 := mmore hb.out hb5
        have hRc := hR.out.later hb5
        cases hfull : decide (most ≤ (u : Int)) with
        | true =>
          have hfin := Lib.hid (show RAdd B r vC most l w prev event q (.returned (.tuple #[.int .i64 (-1), .bool false])) wc from .inl ⟨rfl, hb6, .inr ⟨hN.out, by rw [hu.out]; exact of_decide_eq_true hfull⟩⟩)
          clear hb5 hb6 hRc hR hF hN hfull hU hR9 dm hu
          go_wp2
          go_ret2
          exact hfin.out
        | false =>
          have hless : (rusedN l : Int) < most := by rw [hu.out]; have := of_decide_eq_false hfull; omega
          have dc := hRc.blk.cell 0
          simp only [hv.out, hln.out] at dc
          replace hless := Lib.hid hless
          replace hb5 := Lib.hid hb5
          replace hb6 := Lib.hid hb6
          replace hRc := Lib.hid hRc
          clear hfull hU hR9 dm hu hR hbd
          have hfr : f = n ∨ (f < n ∧ ∃ c, l[f]? = some c) := by
            rcases hF.out with ⟨h1, _⟩ | ⟨_, ⟨c, h1, _⟩, _⟩
            · exact .inl (by rw [h1, hln.out])
            · have := (List.getElem?_eq_some_iff.1 h1).1
              exact .inr ⟨by rw [← hln.out]; exact this, c, h1⟩
          replace hfr := Lib.hid hfr
          go_upto_if 101 with (fail)
          go_cut [10] from 101 to 111 (fun v w' => v = .int .i64 (f : Int) ∧ ∃ vC1 l1 c1, l1[f]? = some c1 ∧ (∀ x, l1.set f x = putR l f x) ∧ RX B r vC1 most l1 w' ∧ PFr (fun q => q = r ∨ vC.ownBlock = some q) w w' ∧ ∀ q, vC1.ownBlock = some q → vC.ownBlock = some q ∨ w.heap.size ≤ q)
          case first =>
            rcases hfr.out with rfl | ⟨hlt, c1, hc1⟩
            · obtain ⟨i0, hi, hz0, hz1, hz2⟩ := info_parts infoRC
              have hO := hRc.out.row
              have hlow : B ≤ wc.heap.size := Nat.le_of_lt (Nat.lt_of_le_of_lt hRc.out.low hRc.out.blk.lt)
              have hvl := hv.out
              rw [hln.out] at hO hvl
              rw [hvl] at hO
              replace hi := Lib.hid hi
              replace hz1 := Lib.hid hz1
              replace hz2 := Lib.hid hz2
              have hvl := Lib.hid hvl
              go_wp2_with (at_builtin; refine wpList_append_any _ rfl (.tmp 106) (.tmp 108) 35 rfl B 34 i0 (.agg #[.bool false, .int .i64 0, .int .i64 0, .bool false, .int .i64 0, .int .i64 0]) 6 48 Try.underlying35 hi.out hz0 hz1.out hz2.out rfl (by decide) (.slice A f cap) f (rcs l) rfl (hO.alloc _) (wc.heap.size + 1) (some ⟨wc.heap.size, 0, none⟩) 1 1 (rcC rc0) rfl ⟨rfl, fun _ => ⟨_, rfl, Nat.lt_succ_self _, news_rc0 wc _⟩⟩ rc0_one (by unfold maxLen; omega) (by omega) (by simp; omega) ?_)
              intro v' w3 hO3 hG3 hown
              have hmu := m1 wc (.cells #[.bool false, .int .i64 0, .int .i64 0, .bool false, .int .i64 0, .int .i64 0] 34)
              have hu1 := hRc.out.later hmu
              have hO3' := hO3
              rw [← hln.out] at hO3'
              obtain ⟨q1, q2, q3, q4⟩ := hu1.grow hO3' (by rw [hvl.out]; exact hG3)
              obtain ⟨g3, cap3, rfl, hg3, _⟩ := hO3.form (by omega)
              have hfin : ∃ vC1 l1 c1, l1[f]? = some c1 ∧ (∀ x, l1.set f x = putR l f x) ∧ RX B r vC1 most l1 (w3.setCell ⟨r, 0, none⟩ (.slice (some ⟨g3, 0, none⟩) (f + 1) cap3)) ∧ PFr (fun q => q = r ∨ vC.ownBlock = some q) w (w3.setCell ⟨r, 0, none⟩ (.slice (some ⟨g3, 0, none⟩) (f + 1) cap3)) ∧ ∀ q, vC1.ownBlock = some q → vC.ownBlock = some q ∨ w.heap.size ≤ q := by
                refine ⟨_, l ++ [rc0], rc0, by rw [← hln.out]; simp, fun x => ?_, q3, (PFr.of_below (mmore hb6.out hmu)).trans q4 fun k e => .inl e, fun k e => ?_⟩
                · unfold putR
                  rw [if_neg (by rw [hln.out]; omega), ← hln.out, List.set_append_right _ _ (Nat.le_refl _)]
                  simp
                · rcases hown with e' | e'
                  · left; rw [hvl.out, ← e', e]
                  · right
                    rw [e] at e'
                    injection e' with e'
                    have := hb6.out.size
                    omega
              replace hfin := Lib.hid hfin
              clear hO3 hO3' hG3 hown hmu hu1 q3 q4 hO
              go_wp2
              go_meet
              exact ⟨rfl, hfin.out⟩
            · have hne : ((f : Int) == (n : Int)) = false := by simp; omega
              have hfin : ∃ vC1 l1 c1, l1[f]? = some c1 ∧ (∀ x, l1.set f x = putR l f x) ∧ RX B r vC1 most l1 wc ∧ PFr (fun q => q = r ∨ vC.ownBlock = some q) w wc ∧ ∀ q, vC1.ownBlock = some q → vC.ownBlock = some q ∨ w.heap.size ≤ q := ⟨vC, l, c1, hc1, fun x => by unfold putR; rw [if_pos (by rw [hln.out]; exact hlt)], hRc.out, PFr.of_below hb6.out, fun q e => .inl e⟩
              replace hfin := Lib.hid hfin
              go_wp2
              go_meet
              exact ⟨rfl, hfin.out⟩
          case rest =>
            obtain ⟨rfl, vC1, l1, c1, hc1, hset, hR1, hf1, ho1⟩ := hcut
            obtain ⟨A1, cap1, hv1, h11, h12, _⟩ := hR1.cl hc1
            have hfl := (List.getElem?_eq_some_iff.1 hc1).1
            subst hv1
            have dd := hR1.blk.cell 0
            have fz := hR1.frozen (by omega)
            obtain ⟨p1, g1⟩ := hR1.put6 (c' := ⟨true, prev, event, q, 1, 0⟩) hc1
            dsimp only at p1 g1
            rw [hset] at p1
            have n8 : (l1.length : Int) ≤ 9223372036854775807 := by unfold maxLen at h12; omega
            have hfl2 : (f : Int) < (l1.length : Int) := by omega
            have k0 : (0 : Int) ≤ (f : Int) := by omega
            simp only [List.getElem?_toArray, List.getElem?_cons_zero] at dd
            have hst := fun (l2 : List RC) (w2 : World) (h2 : RX B r (.slice (some ⟨A1, 0, none⟩) l1.length cap1) most l2 w2) (hg : wc.grownBy w2 (some A1)) => RNew.step rfl hf1 ho1 h2 hg
            replace hst := Lib.hid hst
            replace p1 := Lib.hid p1
            replace g1 := Lib.hid g1
            clear hR1 hc1 hset h11 h12 hfl hf1 ho1 hb5 hb6 hRc dc hv hln
            generalize l1.length = n1 at *
            go_upto_region 19 with (fail)
            generalize ((((((wc.setCell ⟨A1, f * 6, none⟩ (.bool true)).setCell ⟨A1, f * 6 + 1, none⟩ (.int .i64 prev)).setCell ⟨A1, f * 6 + 2, none⟩ (.int .i64 event)).setCell ⟨A1, f * 6 + 3, none⟩ (.bool q)).setCell ⟨A1, f * 6 + 4, none⟩ (.int .i64 1)).setCell ⟨A1, f * 6 + 5, none⟩ (.int .i64 0)) = wf at *
            rcases hpv.out with rfl | ⟨hp1, c, hp2⟩
            · have hfin := Lib.hid (show RAdd B r vC most l w (-1) event q (.returned (.tuple #[.int .i64 (f : Int), .bool true])) wf from .inr (.inr ⟨f, _, hgood.out, rfl, hN.out, hless.out, hF.out, hst.out _ _ p1.out g1.out, .inl ⟨rfl, rfl⟩⟩))
              clear fz p1 g1 hst hN hF hfr hless
              go_wp2
              go_ret2
              exact hfin.out
            · obtain ⟨kp, rfl, hck, hci⟩ := hasR_nat hp2
              have hne : kp ≠ f := fun e => by
                subst e
                have := hF.out.dead hck
                rw [hci] at this
                cases this
              have hkl := (List.getElem?_eq_some_iff.1 hck).1
              have hc2 : (putR l f ⟨true, (kp : Int), event, q, 1, 0⟩)[kp]? = some c := by rw [putR_at hkl hne]; exact hck
              have hP1 := p1.out
              obtain ⟨A2, cap2, hv2, h21, h22, _, _, _, _, _, e5⟩ := hP1.cl hc2
              cases hv2
              obtain ⟨p2, g2, fz2⟩ := hP1.put (j := 5) (v := .int .i64 (c.behind + 1)) (c' := { c with behind := c.behind + 1 }) hc2 (by omega) rfl
              have hx := hc.out c (List.mem_of_getElem? hck)
              have wb : IntKind.i64.wrap (c.behind + 1) = c.behind + 1 := by rw [IntKind.wrap_i64]; omega
              have d9 := hP1.blk.cell 0
              simp only [List.getElem?_toArray, List.getElem?_cons_zero] at d9
              have hkl2 : (kp : Int) < ((putR l f ⟨true, (kp : Int), event, q, 1, 0⟩).length : Int) := by have := (List.getElem?_eq_some_iff.1 hc2).1; omega
              have k9 : (0 : Int) ≤ (kp : Int) := by omega
              have hp3 : ((kp : Int) == -1) = false := by simp
              have n7 : ((putR l f ⟨true, (kp : Int), event, q, 1, 0⟩).length : Int) ≤ 9223372036854775807 := by unfold maxLen at h22; omega
              have hfin := Lib.hid (show RAdd B r vC most l w (kp : Int) event q (.returned (.tuple #[.int .i64 (f : Int), .bool true])) _ from .inr (.inr ⟨f, _, hgood.out, rfl, hN.out, hless.out, hF.out, hst.out _ _ p2 (mgrown g1.out g2 (fun k hk => .inl hk)), .inr ⟨kp, c, rfl, hck, hci, rfl⟩⟩))
              clear p1 g1 hst hN hF hfr hless hP1 p2 g2 hc2 hck hp2 hp1 h21 h22 hx hci hkl hne
              generalize (putR l f ⟨true, (kp : Int), event, q, 1, 0⟩).length = n2 at *
              go_wp2
              go_ret2
              exact hfin.out
    · obtain ⟨m, rfl⟩ : ∃ m, k = m + 1 := ⟨k - 1, by omega⟩
      have e0 : ((m + 1 : Nat) : Int) - 1 = (m : Int) := by omega
      rw [e0]
      have hml : m < l.length := by rw [hln.out]; omega
      have hcm := List.getElem?_eq_getElem hml
      have hR := h.out.later hb
      obtain ⟨A', cap', hv', h1', h2', c0, c1, c2, c3, c4, c5⟩ := hR.cl hcm
      have d2 : wr.cell? ⟨r, 0, none⟩ = some (.slice (some ⟨A', 0, none⟩) n cap') := by rw [hR.blk.cell 0, ← hln.out, ← hv']; rfl
      obtain ⟨⟨b, y1, y2, y3, y4, y5⟩, hx⟩ : ∃ x, l[m] = x := ⟨_, rfl⟩
      rw [hx] at hcm c0 c1 c2 c3 c4 c5
      have hx4 := hc.out _ (List.mem_of_getElem? hcm)
      dsimp only at c0 c1 c2 c3 c4 c5 hx4
      have hz := hb.size
      have k1 : ((m : Int) < (n : Int)) := by omega
      have k2 : (0 : Int) ≤ (m : Int) := by omega
      have w1 : IntKind.i64.wrap ((m : Int) - 1) = (m : Int) - 1 := by rw [IntKind.wrap_i64]; omega
      have hbl := Blk.made wr 34 #[.bool b, .int .i64 y1, .int .i64 y2, .bool y3, .int .i64 y4, .int .i64 y5]
      have hm1 := m1 wr (.cells #[.bool b, .int .i64 y1, .int .i64 y2, .bool y3, .int .i64 y4, .int .i64 y5] 34)
      have hb1 := mmore hb hm1
      have hmn : m < n := by omega
      clear hb hx h1' h2' hk hpos hml e0
      replace hv' := Lib.hid hv'
      replace hcm := Lib.hid hcm
      replace hF := Lib.hid hF
      replace hN := Lib.hid hN
      replace hx4 := Lib.hid hx4
      replace hb1 := Lib.hid hb1
      replace hR := Lib.hid hR
      replace hm1 := Lib.hid hm1
      replace hmn := Lib.hid hmn
      go_upto_region 9 with (fail)
      go_cut [71] from 41 to 87 (fun v w' => v = .bool (mB prev event q ⟨b, y1, y2, y3, y4, y5⟩) ∧ w' = wr.alloc (.cells #[.bool b, .int .i64 y1, .int .i64 y2, .bool y3, .int .i64 y4, .int .i64 y5] 34))
      case first =>
        clear c0 c1 c2 c3 c4 c5 d2
        cases b with
        | false =>
          go_wp2
          go_meet
          exact ⟨rfl, rfl⟩
        | true =>
          cases hb1 : (y1 == prev) with
          | false =>
            go_wp2
            go_meet
            exact ⟨by simp [mB, hb1], rfl⟩
          | true =>
            cases hb2 : (y2 == event) with
            | false =>
              go_wp2
              go_meet
              exact ⟨by simp [mB, hb1, hb2], rfl⟩
            | true =>
              cases hb3 : (y3 == q) with
              | false =>
                go_wp2
                go_meet
                exact ⟨by simp [mB, hb1, hb2, hb3], rfl⟩
              | true =>
                go_wp2
                go_meet
                exact ⟨by simp [mB, hb1, hb2, hb3], rfl⟩
      case rest =>
        obtain ⟨rfl, rfl⟩ := hcut
        cases hM : mB prev event q ⟨b, y1, y2, y3, y4, y5⟩ with
        | true =>
          have hR1 := hR.out.later hm1.out
          rw [← hln.out] at *
          have d3 : (wr.alloc (.cells #[.bool b, .int .i64 y1, .int .i64 y2, .bool y3, .int .i64 y4, .int .i64 y5] 34)).cell? ⟨r, 0, none⟩ = some (.slice (some ⟨A', 0, none⟩) l.length cap') := by rw [hR1.blk.cell 0, ← hv'.out]; rfl
          have hR2 := hR1
          rw [hv'.out] at hR2
          have hu4 := hx4.out
          have wo : IntKind.i64.wrap (y4 + 1) = y4 + 1 := by rw [IntKind.wrap_i64]; omega
          obtain ⟨p1, p2, p3⟩ := hR2.put (j := 4) (v := .int .i64 (y4 + 1)) (c' := ⟨b, y1, y2, y3, y4 + 1, y5⟩) hcm.out (by omega) rfl
          have hN1 := RNew.of_put hv'.out hb1.out (by rw [hv'.out]; exact p1) p2
          have hfin := Lib.hid (show RAdd B r vC most l w prev event q (.returned (.tuple #[.int .i64 (m : Int), .bool true])) _ from .inr (.inl ⟨m, _, hgood.out, rfl, hcm.out, hM, hN1⟩))
          obtain ⟨A9, cap9, hv9, _, _, _, _, _, _, e4, _⟩ := hR2.cl hcm.out
          cases hv9
          clear c0 c1 c2 c3 c4 c5 d2 hM hR1 hR2 hR hx4 hu4 p1 p2 hN1 hF hN hb1 hm1 hbl
          generalize wr.alloc (.cells #[.bool b, .int .i64 y1, .int .i64 y2, .bool y3, .int .i64 y4, .int .i64 y5] 34) = wa at *
          generalize l.length = n at *
          go_wp2
          go_ret2
          exact hfin.out
        | false =>
          have hm := hm1
          cases b with
          | true =>
            have hF2 := hF.out.on hcm.out rfl
            have hN2 := hN.out.step hcm.out hM
            replace hF2 := Lib.hid hF2
            replace hN2 := Lib.hid hN2
            clear c0 c1 c2 c3 c4 c5 d2 hM
            go_wp2
            have hq := hmn.out
            refine ⟨⟨m, f, by omega, by simp, rfl, hF2.out, hN2.out, hb1.out⟩, by simp [intOf]⟩
          | false =>
            have hF2 := hF.out.here hcm.out rfl
            have hN2 := hN.out.step hcm.out hM
            replace hF2 := Lib.hid hF2
            replace hN2 := Lib.hid hN2
            clear c0 c1 c2 c3 c4 c5 d2 hM
            go_wp2
            have hq := hmn.out
            refine ⟨⟨m, m, by omega, by simp, rfl, hF2.out, hN2.out, hb1.out⟩, by simp [intOf]⟩
end Go.Proofs.Ytdgbnibnhajfoaa
