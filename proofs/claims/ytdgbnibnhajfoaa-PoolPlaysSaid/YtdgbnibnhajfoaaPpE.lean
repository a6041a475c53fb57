/- Both pools do alike: Add, Drop, Hold, as lists. -/
import Derived.Test.YtdgbnibnhajfoaaPpD
namespace Go.Proofs.Ytdgbnibnhajfoaa
open Go.ChangeShapes Go.WideShapes Go.ChangeAt Go.RowKit
set_option linter.unusedVariables false
set_option linter.unusedSimpArgs false

theorem rused_map {K : Nat} {x : Int} {s : PS} (hI : Inv K x s) : (rusedN (s.all.map rcl) : Int) = usedP s := by
  rw [hI.used]
  unfold rusedN
  rw [List.countP_map]
  congr 1
  apply List.countP_congr
  intro c _
  by_cases h : c.holds = 0 <;> simp [rcl, h, rc0]
theorem bad_iff (s : PS) (prev event : Int) : badR (s.all.map rcl) prev event ↔ ¬ (0 ≤ event ∧ (prev = -1 ∨ ∃ c, findP s prev = some c)) := by
  unfold badR
  rw [hasR_map]
  constructor
  · rintro (h | ⟨h1, h2⟩) ⟨h3, h4⟩
    · omega
    · rcases h4 with h4 | ⟨c, h4⟩
      · exact h1 h4
      · rw [h4] at h2; cases h2
  · intro h
    by_cases he : event < 0
    · exact .inl he
    · refine .inr ⟨fun e => h ⟨by omega, .inl e⟩, ?_⟩
      cases hf : findP s prev with
      | none => rfl
      | some c => exact absurd ⟨by omega, .inr ⟨c, hf⟩⟩ h
theorem map_at {l : List Cl} {k : Nat} {c : RC} (h : (l.map rcl)[k]? = some c) : ∃ d, l[k]? = some d ∧ c = rcl d := by
  rw [List.getElem?_map] at h
  cases hd : l[k]? with
  | none => rw [hd] at h; cases h
  | some d => rw [hd] at h; simp at h; exact ⟨d, rfl, h.symm⟩
theorem mB_rcl {prev event : Int} {q : Bool} {d : Cl} : mB prev event q (rcl d) = true ↔ d.holds ≠ 0 ∧ d.prev = prev ∧ d.event = event ∧ d.fresh = q := by
  by_cases h : d.holds = 0
  · simp [mB, rcl, h, rc0]
  · simp [mB, rcl, h, and_assoc]
theorem found_of {K : Nat} {x : Int} {s : PS} (hI : Inv K x s) {prev event : Int} {q : Bool} {k : Nat} {c : RC} (hc : (s.all.map rcl)[k]? = some c) (hm : mB prev event q c = true) : ∃ d, s.all[k]? = some d ∧ d.holds ≠ 0 ∧ c = rcl d ∧ s.num (prev, event, q) = some (k : Int) := by
  obtain ⟨d, hd, rfl⟩ := map_at hc
  obtain ⟨h1, h2, h3, h4⟩ := mB_rcl.1 hm
  exact ⟨d, hd, h1, rfl, (hI.num _ _).2 ⟨k, d, rfl, hd, h1, by rw [h2, h3, h4]⟩⟩
theorem noM_none {K : Nat} {x : Int} {s : PS} (hI : Inv K x s) {prev event : Int} {q : Bool} (h : NoM (s.all.map rcl) (mB prev event q) 0) : s.num (prev, event, q) = none := by
  cases hn : s.num (prev, event, q) with
  | none => rfl
  | some v =>
    obtain ⟨k, c, rfl, hc, hl, he⟩ := (hI.num _ _).1 hn
    simp only [Prod.mk.injEq] at he
    have := h k (rcl c) (Nat.zero_le _) (by rw [List.getElem?_map, hc]; rfl)
    rw [mB_rcl.2 ⟨hl, he.1.symm, he.2.1.symm, he.2.2.symm⟩] at this
    cases this
theorem is_rcl (d : Cl) : (rcl d).is = true ↔ d.holds ≠ 0 := by
  by_cases h : d.holds = 0 <;> simp [rcl, h, rc0]
theorem free_next {K : Nat} {x : Int} {s : PS} (hI : Inv K x s) {f : Nat} (hf : FreeAt (s.all.map rcl) 0 f) : f = nextK s := by
  unfold nextK
  rcases hf with ⟨h1, h2⟩ | ⟨_, ⟨c, h2, h3⟩, h4⟩
  · have : s.free = [] := by
      apply List.eq_nil_iff_forall_not_mem.2
      intro v hv
      obtain ⟨k, d, e, hd, h0⟩ := (hI.fr v).1 hv
      have := h2 k (rcl d) (Nat.zero_le _) (by rw [List.getElem?_map, hd]; rfl)
      exact (is_rcl d).1 this h0
    rw [if_pos this, h1]
    simp
  · obtain ⟨d, hd, rfl⟩ := map_at h2
    have h0 : d.holds = 0 := by
      apply Classical.byContradiction
      intro h
      rw [(is_rcl d).2 h] at h3
      cases h3
    have hm : (f : Int) ∈ s.free := (hI.fr _).2 ⟨f, d, rfl, hd, h0⟩
    have hne : s.free ≠ [] := fun e => by rw [e] at hm; cases hm
    rw [if_neg hne]
    obtain ⟨j, hj, hjf⟩ := List.getElem_of_mem hm
    have hle := hI.heap.least j hj
    have hpos : 0 < s.free.length := List.length_pos_iff.2 hne
    have g0 := hget_at (List.getElem?_eq_getElem hpos)
    have gj := hget_at (List.getElem?_eq_getElem hj)
    rw [gj, hjf] at hle
    obtain ⟨k, e, hk, hke, hk0⟩ := (hI.fr (hget s.free 0)).1 (by rw [g0]; exact List.getElem_mem _)
    rw [hk] at hle ⊢
    rw [Int.toNat_natCast]
    apply Classical.byContradiction
    intro hneq
    have := h4 k (rcl e) (Nat.zero_le _) (by omega) (by rw [List.getElem?_map, hke]; rfl)
    exact (is_rcl e).1 this hk0
theorem hold_map {s : PS} {k : Nat} {c : Cl} (hc : s.all[k]? = some c) (hl : c.holds ≠ 0) (h0 : 0 ≤ c.holds) : (s.all.map rcl).set k { rcl c with own := (rcl c).own + 1 } = (holdP s k c).all.map rcl := by
  unfold holdP
  simp only
  rw [List.map_set, rcl_live hl, rcl_live (c := { c with own := c.own + 1, holds := c.holds + 1 }) (by simp; omega)]
  simp only
  rw [show c.holds + 1 - (c.own + 1) = c.holds - c.own by omega]
theorem putAt_map (l : List Cl) (k : Nat) (c : Cl) : (putAt l k c).map rcl = putR (l.map rcl) k (rcl c) := by
  unfold putAt putR
  rw [List.length_map]
  split
  · rw [List.map_set]
  · simp
theorem set_put {l : List RC} {k f : Nat} {x y : RC} (hk : k < l.length) (hne : k ≠ f) : (putR l f x).set k y = putR (l.set k y) f x := by
  unfold putR
  rw [List.length_set]
  split
  · rw [List.set_comm _ _ (fun e => hne e.symm)]
  · rw [List.set_append_left _ _ hk]
theorem newC_rcl (prev event : Int) (q : Bool) : rcl (newC (prev, event, q) 1) = ⟨true, prev, event, q, 1, 0⟩ := by
  rw [rcl_live (by simp [newC])]; rfl
/-- the new cell, and one more behind the one ahead -/
theorem add_map {K : Nat} {s : PS} {prev event : Int} {q : Bool} (hI : Inv K (-1) s) (lf : List Int) (l' : List RC)
    (h : (prev = -1 ∧ l' = putR (s.all.map rcl) (nextK s) ⟨true, prev, event, q, 1, 0⟩) ∨ ∃ (kp : Nat) (c : RC), prev = (kp : Int) ∧ (s.all.map rcl)[kp]? = some c ∧ c.is = true ∧ l' = (putR (s.all.map rcl) (nextK s) ⟨true, prev, event, q, 1, 0⟩).set kp { c with behind := c.behind + 1 }) :
    l' = (addG s (prev, event, q) lf).all.map rcl := by
  unfold addG
  simp only
  rw [putAt_map, newC_rcl]
  rcases h with ⟨rfl, rfl⟩ | ⟨kp, c, rfl, hc, hi, rfl⟩
  · rw [bump_none]
  · obtain ⟨d, hd, rfl⟩ := map_at hc
    have hl := (is_rcl d).1 hi
    have hf : findP s (kp : Int) = some d := findP_some.2 ⟨hd, hl⟩
    have hpo := hI.pos kp d hd
    rw [bump_some hf]
    have hne : kp ≠ nextK s := fun e => by
      have F := hI.next (newC (0, 0, true) 1) (by simp [newC])
      exact hl (F.old d (e ▸ hd))
    rw [set_put (by rw [List.length_map]; exact (List.getElem?_eq_some_iff.1 hd).1) hne]
    congr 1
    simp only
    rw [List.map_set, rcl_live hl, rcl_live (c := { d with holds := d.holds + 1 }) (by simp; omega)]
    simp only
    rw [show d.holds + 1 - d.own = d.holds - d.own + 1 by omega]
/-- both Adds answer alike, and both pools are alike behind them -/
theorem add_both {B B' p r K : Nat} {D : Nat → Prop} {s : PS} {w w1 w2 : World} {vC : Value} {prev event : Int} {fresh : Bool} {e e2 : Ending} (hP : PAt B p D s w) (hI : Inv K (-1) s) (hA : AddR B p K D s w prev event fresh e w1)
    (hX : RX B' r vC (max 0 s.most) (s.all.map rcl) w1) (hR : RAdd B' r vC (max 0 s.most) (s.all.map rcl) w1 prev event (fresh || decide (prev = -1)) e2 w2) :
    ∃ (a : Int) (x : Bool) (s' : PS), e = .returned (.tuple #[.int .i64 a, .bool x]) ∧ e2 = .returned (.tuple #[.int .i64 a, .bool x]) ∧ Inv (K + 2) (-1) s' ∧ s'.most = s.most ∧ POut B p D w s' w1 ∧ RNew B' r vC (max 0 s.most) w1 (s'.all.map rcl) w2 := by
  have hlk : lnk prev event fresh = (prev, event, fresh || decide (prev = -1)) := by
    unfold lnk
    congr 2
  generalize (fresh || decide (prev = -1)) = q at *
  have hus := rused_map hI
  have hu0 : 0 ≤ usedP s := by rw [← hus]; omega
  rcases hA with ⟨rfl, hb, hno⟩ | ⟨k, s', rfl, he, hp, hadd, hI', hmo, hPO⟩
  · have hsame : POut B p D w s w1 := ⟨(hP.later hb).more fun k hk => .inl hk, PFr.of_below hb⟩
    rcases hR with ⟨rfl, hb2, _⟩ | ⟨k, c, hnb, rfl, hc, hm, _⟩ | ⟨f, l', hnb, rfl, hnm, hless, _, _, _⟩
    · exact ⟨-1, false, s, rfl, rfl, hI.mono (by omega), rfl, hsame, vC, hX.later hb2, PFr.of_below hb2, fun q e => .inl e⟩
    · exfalso
      rcases hno with hno | ⟨hno, _⟩
      · exact hnb ((bad_iff s prev event).2 hno)
      · obtain ⟨d, _, _, _, hn⟩ := found_of hI hc hm
        rw [hlk, hn] at hno
        cases hno
    · exfalso
      rcases hno with hno | ⟨_, hno⟩
      · exact hnb ((bad_iff s prev event).2 hno)
      · rw [hus] at hless
        omega
  · have hnb : ¬ badR (s.all.map rcl) prev event := fun hb => (bad_iff s prev event).1 hb ⟨he, hp⟩
    rw [hlk] at hadd
    rcases hR with ⟨rfl, hb2, hno⟩ | ⟨k2, c, _, rfl, hc, hm, hN⟩ | ⟨f, l', _, rfl, hnm, hless, hfr, hN, hl'⟩
    · exfalso
      rcases hno with hno | ⟨hno, hfull⟩
      · exact hnb hno
      · have hnone := noM_none hI hno
        rcases hadd with ⟨c, h1, _⟩ | ⟨_, _, h2, _⟩
        · rw [hnone] at h1; cases h1
        · rw [hus] at hfull
          omega
    · obtain ⟨d, hd, hl, rfl, hn⟩ := found_of hI hc hm
      rcases hadd with ⟨c', h1, h2, h3, rfl⟩ | ⟨h1, _⟩
      · rw [hn] at h1
        have hk : k2 = k := by injection h1 with h1; omega
        subst hk
        rw [hd] at h2
        injection h2 with h2
        subst h2
        have hpo := hI.pos k2 d hd
        rw [hold_map hd hl hpo.2.1] at hN
        exact ⟨k2, true, _, rfl, rfl, hI', hmo, hPO, hN⟩
      · rw [hn] at h1; cases h1
    · have hnone := noM_none hI hnm
      rcases hadd with ⟨c, h1, _⟩ | ⟨_, rfl, _, lf, rfl⟩
      · rw [hnone] at h1; cases h1
      · have hfe := free_next hI hfr
        subst hfe
        rw [add_map hI lf l' hl'] at hN
        exact ⟨nextK s, true, _, rfl, rfl, hI', hmo, hPO, hN⟩
/-- a hold goes in one way alone -/
theorem Dr.unique {l l1 l2 : List Cl} {x : Int} (h : Dr l x l1) (h' : Dr l x l2) : l1 = l2 := by
  induction h with
  | none l =>
    generalize hx : (-1 : Int) = x at h'
    cases h' with
    | none => rfl
    | more _ k c hc h2 => omega
    | last _ k c l' hc h1 hn => omega
  | more l k c hc h2 =>
    generalize hx : (k : Int) = x at h'
    cases h' with
    | none => omega
    | more _ k' c' hc' h2' =>
      obtain rfl : k = k' := by omega
      rw [hc] at hc'; injection hc' with hc'; subst hc'; rfl
    | last _ k' c' l' hc' h1 hn =>
      obtain rfl : k = k' := by omega
      rw [hc] at hc'; injection hc' with hc'; subst hc'; omega
  | last l k c l' hc h1 hn ih =>
    generalize hx : (k : Int) = x at h'
    cases h' with
    | none => omega
    | more _ k' c' hc' h2' =>
      obtain rfl : k = k' := by omega
      rw [hc] at hc'; injection hc' with hc'; subst hc'; omega
    | last _ k' c' l'' hc' h1' hn' =>
      obtain rfl : k = k' := by omega
      rw [hc] at hc'; injection hc' with hc'; subst hc'
      exact ih hn'
theorem held_both {s : PS} (i : Int) : rheldP (s.all.map rcl) i = heldP s i := by
  unfold rheldP heldP
  rw [hasR_map]
  cases hf : findP s i with
  | none => rfl
  | some c =>
    obtain ⟨k, _, _, hl⟩ := findP_nat hf
    simp only [Option.map_some]
    rw [rcl_live hl]
    simp only
    omega
end Go.Proofs.Ytdgbnibnhajfoaa
