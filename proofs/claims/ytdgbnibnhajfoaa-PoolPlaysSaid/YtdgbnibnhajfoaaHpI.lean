/- What is so of any pool between its calls, and what keeps it so. -/
import Derived.Test.YtdgbnibnhajfoaaHpP
import Derived.Test.YtdgbnibnhajfoaaPoH
namespace Go.Proofs.Ytdgbnibnhajfoaa
set_option linter.unusedVariables false
set_option linter.unusedSimpArgs false

/-- is it a cell that is there, behind this one? -/
def kidB (x : Int) (c : Cl) : Bool := decide (c.holds ≠ 0) && decide (c.prev = x)
def kids (l : List Cl) (x : Int) : Nat := l.countP (kidB x)
def Live (l : List Cl) (k : Nat) : Prop := ∃ c, l[k]? = some c ∧ c.holds ≠ 0
structure Inv (K : Nat) (x : Int) (s : PS) : Prop where
  heap : HeapN s.free s.free.length
  nd : s.free.Nodup
  fr : ∀ v : Int, v ∈ s.free ↔ ∃ (k : Nat) (c : Cl), v = (k : Int) ∧ s.all[k]? = some c ∧ c.holds = 0
  dead : ∀ (k : Nat) (c : Cl), s.all[k]? = some c → c.holds = 0 → c = cl0
  pos : ∀ (k : Nat) (c : Cl), s.all[k]? = some c → 0 ≤ c.own ∧ 0 ≤ c.holds ∧ c.own ≤ K ∧ c.holds ≤ 2 * K
  num : ∀ (y : Ln) (v : Int), s.num y = some v ↔ ∃ (k : Nat) (c : Cl), v = (k : Int) ∧ s.all[k]? = some c ∧ c.holds ≠ 0 ∧ y = (c.prev, c.event, c.fresh)
  up : ∀ (k : Nat) (c : Cl), s.all[k]? = some c → c.holds ≠ 0 → (c.prev = -1 ∧ c.fresh = true) ∨ ∃ kp : Nat, c.prev = (kp : Int) ∧ Live s.all kp
  cnt : ∀ (k : Nat) (c : Cl), s.all[k]? = some c → c.holds ≠ 0 → c.holds = c.own + kids s.all k + if x = (k : Int) then 1 else 0
  rank : ∃ r : Nat → Nat, (∀ k, r k ≤ K) ∧ ∀ (k : Nat) (c : Cl) (kp : Nat), s.all[k]? = some c → c.holds ≠ 0 → c.prev = (kp : Int) → r kp < r k
  len : s.all.length ≤ K
  fl : s.free.length + s.all.countP (fun d => decide (d.holds ≠ 0)) = s.all.length
theorem Inv.start (most : Int) : Inv 0 (-1) (newS most) :=
  ⟨fun k _ h => absurd h (by simp [newS]), List.nodup_nil, fun v => by simp [newS], fun k c h => by simp [newS] at h, fun k c h => by simp [newS] at h, fun y v => by simp [newS], fun k c h => by simp [newS] at h, fun k c h => by simp [newS] at h,
    ⟨fun _ => 0, fun _ => Nat.le_refl _, fun k c kp h => by simp [newS] at h⟩, Nat.le_refl _, rfl⟩
theorem kids_set {l : List Cl} {k : Nat} {c c' : Cl} (h : l[k]? = some c) (x : Int) : (kids (l.set k c') x : Int) = kids l x - (if kidB x c then 1 else 0) + if kidB x c' then 1 else 0 := by
  obtain ⟨hlt, rfl⟩ := List.getElem?_eq_some_iff.1 h
  unfold kids
  rw [List.countP_set hlt]
  have hle : (if kidB x l[k] then 1 else 0) ≤ l.countP (kidB x) := by
    split
    · rename_i hk
      exact List.countP_pos_iff.2 ⟨l[k], List.getElem_mem hlt, hk⟩
    · exact Nat.zero_le _
  generalize l.countP (kidB x) = n at *
  generalize kidB x l[k] = b1 at *
  generalize kidB x c' = b2 at *
  cases b1 <;> cases b2 <;> simp at hle ⊢ <;> omega
theorem kids_set_same {l : List Cl} {k : Nat} {c c' : Cl} (h : l[k]? = some c) (h1 : c'.prev = c.prev) (h2 : c.holds ≠ 0 ↔ c'.holds ≠ 0) (x : Int) : kids (l.set k c') x = kids l x := by
  have := kids_set (c' := c') h x
  have e : kidB x c = kidB x c' := by unfold kidB; rw [h1, decide_eq_decide.2 h2]
  rw [e] at this
  omega
theorem live_set {l : List Cl} {k j : Nat} {c c' : Cl} (h : l[k]? = some c) (h2 : c'.holds ≠ 0) (hj : Live l j) : Live (l.set k c') j := by
  have hlt := (List.getElem?_eq_some_iff.1 h).1
  obtain ⟨d, h1, h3⟩ := hj
  by_cases e : k = j
  · subst e; exact ⟨c', by simp [hlt], h2⟩
  · exact ⟨d, by rw [List.getElem?_set, if_neg e]; exact h1, h3⟩
theorem at_set {l : List Cl} {k j : Nat} {c c' d : Cl} (h : l[k]? = some c) (hd : (l.set k c')[j]? = some d) : (j = k ∧ d = c') ∨ (j ≠ k ∧ l[j]? = some d) := by
  have hlt := (List.getElem?_eq_some_iff.1 h).1
  by_cases e : k = j
  · subst e
    rw [List.getElem?_set, if_pos rfl, if_pos hlt] at hd
    injection hd with hd
    exact .inl ⟨rfl, hd.symm⟩
  · rw [List.getElem?_set, if_neg e] at hd
    exact .inr ⟨fun q => e q.symm, hd⟩
theorem at_set_back {l : List Cl} {k j : Nat} {c c' d : Cl} (h : l[k]? = some c) (hd : l[j]? = some d) : ∃ d', (l.set k c')[j]? = some d' ∧ ((j = k ∧ d = c ∧ d' = c') ∨ (j ≠ k ∧ d' = d)) := by
  have hlt := (List.getElem?_eq_some_iff.1 h).1
  by_cases e : k = j
  · subst e
    rw [h] at hd
    injection hd with hd
    exact ⟨c', by simp [hlt], .inl ⟨rfl, hd.symm, rfl⟩⟩
  · exact ⟨d, by rw [List.getElem?_set, if_neg e]; exact hd, .inr ⟨fun q => e q.symm, rfl⟩⟩
/-- a cell's counts have turned, all else is as it was -/
theorem Inv.turn {K K' : Nat} {x x' : Int} {s : PS} (h : Inv K x s) (hK : K ≤ K') {k : Nat} {c c' : Cl} (hc : s.all[k]? = some c) (hl : c.holds ≠ 0) (h1 : c'.prev = c.prev ∧ c'.event = c.event ∧ c'.fresh = c.fresh) (h2 : c'.holds ≠ 0)
    (hp : 0 ≤ c'.own ∧ 0 ≤ c'.holds ∧ c'.own ≤ K' ∧ c'.holds ≤ 2 * K') (hn : c'.holds = c'.own + kids s.all k + if x' = (k : Int) then 1 else 0) (hx : ∀ j : Nat, j ≠ k → Live s.all j → (x = (j : Int) ↔ x' = (j : Int))) : Inv K' x' { s with all := s.all.set k c' } := by
  have hlt := (List.getElem?_eq_some_iff.1 hc).1
  refine ⟨h.heap, h.nd, fun v => ?_, fun j d hd h0 => ?_, fun j d hd => ?_, fun y v => ?_, fun j d hd hd0 => ?_, fun j d hd hd0 => ?_, ?_, ?_, ?_⟩
  · rw [h.fr]
    constructor
    · rintro ⟨j, d, rfl, hd, h0⟩
      obtain ⟨d', hd', e⟩ := at_set_back (c' := c') hc hd
      rcases e with ⟨rfl, rfl, rfl⟩ | ⟨_, rfl⟩
      · exact absurd h0 hl
      · exact ⟨j, _, rfl, hd', h0⟩
    · rintro ⟨j, d, rfl, hd, h0⟩
      rcases at_set hc hd with ⟨rfl, rfl⟩ | ⟨_, hd⟩
      · exact absurd h0 h2
      · exact ⟨j, d, rfl, hd, h0⟩
  · rcases at_set hc hd with ⟨rfl, rfl⟩ | ⟨_, hd⟩
    · exact absurd h0 h2
    · exact h.dead j d hd h0
  · rcases at_set hc hd with ⟨rfl, rfl⟩ | ⟨_, hd⟩
    · exact hp
    · have := h.pos j d hd
      exact ⟨this.1, this.2.1, by omega, by omega⟩
  · rw [h.num]
    constructor
    · rintro ⟨j, d, rfl, hd, h0, rfl⟩
      obtain ⟨d', hd', e⟩ := at_set_back (c' := c') hc hd
      rcases e with ⟨rfl, rfl, rfl⟩ | ⟨_, rfl⟩
      · exact ⟨j, _, rfl, hd', h2, by rw [h1.1, h1.2.1, h1.2.2]⟩
      · exact ⟨j, _, rfl, hd', h0, rfl⟩
    · rintro ⟨j, d, rfl, hd, h0, rfl⟩
      rcases at_set hc hd with ⟨rfl, rfl⟩ | ⟨_, hd⟩
      · exact ⟨j, c, rfl, hc, hl, by rw [h1.1, h1.2.1, h1.2.2]⟩
      · exact ⟨j, d, rfl, hd, h0, rfl⟩
  · rcases at_set hc hd with ⟨rfl, rfl⟩ | ⟨_, hd⟩
    · rw [h1.1, h1.2.2]
      rcases h.up j c hc hl with e | ⟨kp, e, hkp⟩
      · exact .inl e
      · exact .inr ⟨kp, e, live_set hc h2 hkp⟩
    · rcases h.up j d hd hd0 with e | ⟨kp, e, hkp⟩
      · exact .inl e
      · exact .inr ⟨kp, e, live_set hc h2 hkp⟩
  · simp only
    rw [kids_set_same hc h1.1 (by simp [hl, h2])]
    rcases at_set hc hd with ⟨rfl, rfl⟩ | ⟨hj, hd⟩
    · exact hn
    · rw [h.cnt j d hd hd0]
      have := hx j hj ⟨d, hd, hd0⟩
      simp only [this]
  · obtain ⟨r, r1, r2⟩ := h.rank
    refine ⟨r, fun k => Nat.le_trans (r1 k) hK, fun j d kp hd hd0 hpk => ?_⟩
    rcases at_set hc hd with ⟨rfl, rfl⟩ | ⟨_, hd⟩
    · exact r2 j c kp hc hl (by rw [← h1.1]; exact hpk)
    · exact r2 j d kp hd hd0 hpk
  · simp only [List.length_set]
    exact Nat.le_trans h.len hK
  · have hfl := h.fl
    obtain ⟨_, rfl⟩ := List.getElem?_eq_some_iff.1 hc
    simp only [List.length_set]
    rw [List.countP_set hlt]
    have hpos : 0 < s.all.countP (fun d => decide (d.holds ≠ 0)) := List.countP_pos_iff.2 ⟨s.all[k], List.getElem_mem hlt, by simp [hl]⟩
    generalize s.all.countP (fun d => decide (d.holds ≠ 0)) = n at *
    simp only [hl, h2, ne_eq, not_false_eq_true, decide_true, if_true]
    omega
/-- no cell is behind one that only its extra hold holds -/
theorem kids_zero {l : List Cl} {x : Int} (h : kids l x = 0) : ∀ c ∈ l, c.holds ≠ 0 → c.prev ≠ x := fun c hc h0 hp => by
  have : 0 < kids l x := List.countP_pos_iff.2 ⟨c, hc, by simp [kidB, h0, hp]⟩
  omega
def delN (f : Ln → Option Int) (x : Ln) : Ln → Option Int := fun j => if j = x then none else f j
/-- the last hold of a cell goes -/
theorem Inv.last {K : Nat} {k : Nat} {s : PS} {l : List Int} {c : Cl} (h : Inv K (k : Int) s) (hc : s.all[k]? = some c) (h1 : c.holds = 1) (hh : HeapN l l.length) (hp : l.Perm ((k : Int) :: s.free)) :
    Inv K c.prev { s with all := s.all.set k cl0, free := l, num := delN s.num (c.prev, c.event, c.fresh) } ∧ c.own = 0 ∧ (c.prev = -1 ∨ ∃ kp : Nat, c.prev = (kp : Int) ∧ Live (s.all.set k cl0) kp) ∧ ((s.all.set k cl0).countP (fun d => decide (d.holds ≠ 0))) + 1 = s.all.countP (fun d => decide (d.holds ≠ 0)) := by
  have hlt := (List.getElem?_eq_some_iff.1 hc).1
  have hl : c.holds ≠ 0 := by omega
  have hcn := h.cnt k c hc hl
  rw [if_pos rfl, h1] at hcn
  have hpo := h.pos k c hc
  have hown : c.own = 0 := by omega
  have hk0 : kids s.all k = 0 := by omega
  have hnk := kids_zero hk0
  have hknot : (k : Int) ∉ s.free := fun hm => by
    obtain ⟨j, d, e, hd, h0⟩ := (h.fr _).1 hm
    obtain rfl : k = j := by omega
    rw [hc] at hd
    injection hd with hd
    subst hd
    exact hl h0
  have hne : c.prev ≠ (k : Int) := hnk c (List.mem_of_getElem? hc) hl
  -- who was there before, and isn't this one, is there still
  have hlive : ∀ j, j ≠ k → Live s.all j → Live (s.all.set k cl0) j := fun j hj hL => by
    obtain ⟨d, hd, h0⟩ := hL
    exact ⟨d, by rw [List.getElem?_set, if_neg (fun e => hj e.symm)]; exact hd, h0⟩
  have hup : c.prev = -1 ∨ ∃ kp : Nat, c.prev = (kp : Int) ∧ Live (s.all.set k cl0) kp := by
    rcases h.up k c hc hl with ⟨e, _⟩ | ⟨kp, e, hL⟩
    · exact .inl e
    · exact .inr ⟨kp, e, hlive kp (fun q => by subst q; exact hne e) hL⟩
  have hkB : ∀ x : Int, kidB x cl0 = false := fun x => by simp [kidB, cl0]
  have hct : ((s.all.set k cl0).countP (fun d => decide (d.holds ≠ 0))) + 1 = s.all.countP (fun d => decide (d.holds ≠ 0)) := by
    obtain ⟨_, rfl⟩ := List.getElem?_eq_some_iff.1 hc
    rw [List.countP_set hlt]
    have hpos : 0 < s.all.countP (fun d => decide (d.holds ≠ 0)) := List.countP_pos_iff.2 ⟨s.all[k], List.getElem_mem hlt, by simp [h1]⟩
    generalize s.all.countP (fun d => decide (d.holds ≠ 0)) = n at *
    simp [h1, cl0]
    omega
  refine ⟨⟨hh, hp.nodup_iff.2 (List.nodup_cons.2 ⟨hknot, h.nd⟩), fun v => ?_, fun j d hd h0 => ?_, fun j d hd => ?_, fun y v => ?_, fun j d hd hd0 => ?_, fun j d hd hd0 => ?_, ?_, ?_, ?_⟩, hown, hup, hct⟩
  · rw [hp.mem_iff, List.mem_cons, h.fr]
    constructor
    · rintro (rfl | ⟨j, d, rfl, hd, h0⟩)
      · exact ⟨k, cl0, rfl, by simp [hlt], rfl⟩
      · have hj : j ≠ k := fun e => by subst e; rw [hc] at hd; injection hd with hd; subst hd; exact hl h0
        exact ⟨j, d, rfl, by show (s.all.set k cl0)[j]? = some d; rw [List.getElem?_set, if_neg (fun e => hj e.symm)]; exact hd, h0⟩
    · rintro ⟨j, d, rfl, hd, h0⟩
      rcases at_set hc hd with ⟨rfl, rfl⟩ | ⟨_, hd⟩
      · exact .inl rfl
      · exact .inr ⟨j, d, rfl, hd, h0⟩
  · rcases at_set hc hd with ⟨rfl, rfl⟩ | ⟨_, hd⟩
    · rfl
    · exact h.dead j d hd h0
  · rcases at_set hc hd with ⟨rfl, rfl⟩ | ⟨_, hd⟩
    · simp [cl0]; omega
    · exact h.pos j d hd
  · simp only [delN]
    by_cases hy : y = (c.prev, c.event, c.fresh)
    · rw [if_pos hy]
      constructor
      · intro e; cases e
      · rintro ⟨j, d, rfl, hd, h0, e⟩
        rcases at_set hc hd with ⟨rfl, rfl⟩ | ⟨hj, hd⟩
        · exact absurd rfl h0
        · have e1 := (h.num y (j : Int)).2 ⟨j, d, rfl, hd, h0, e⟩
          have e2 := (h.num y (k : Int)).2 ⟨k, c, rfl, hc, hl, hy⟩
          rw [e1] at e2
          injection e2 with e2
          omega
    · rw [if_neg hy, h.num]
      constructor
      · rintro ⟨j, d, rfl, hd, h0, rfl⟩
        have hj : j ≠ k := fun e => by subst e; rw [hc] at hd; injection hd with hd; subst hd; exact hy rfl
        exact ⟨j, d, rfl, by show (s.all.set k cl0)[j]? = some d; rw [List.getElem?_set, if_neg (fun e => hj e.symm)]; exact hd, h0, rfl⟩
      · rintro ⟨j, d, rfl, hd, h0, rfl⟩
        rcases at_set hc hd with ⟨rfl, rfl⟩ | ⟨_, hd⟩
        · exact absurd rfl h0
        · exact ⟨j, d, rfl, hd, h0, rfl⟩
  · rcases at_set hc hd with ⟨rfl, rfl⟩ | ⟨_, hd2⟩
    · exact absurd rfl hd0
    · rcases h.up j d hd2 hd0 with e | ⟨kp, e, hL⟩
      · exact .inl e
      · exact .inr ⟨kp, e, hlive kp (fun q => hnk d (List.mem_of_getElem? hd2) hd0 (by rw [e, q])) hL⟩
  · rcases at_set hc hd with ⟨rfl, rfl⟩ | ⟨hj, hd⟩
    · exact absurd rfl hd0
    · have e1 := h.cnt j d hd hd0
      rw [if_neg (by omega)] at e1
      have e2 := kids_set (c' := cl0) hc (j : Int)
      rw [hkB] at e2
      have e3 : kidB (j : Int) c = decide (c.prev = (j : Int)) := by simp [kidB, hl]
      rw [e3] at e2
      simp only
      by_cases hpj : c.prev = (j : Int)
      · rw [if_pos hpj]
        simp [hpj] at e2
        omega
      · rw [if_neg hpj]
        simp [hpj] at e2
        omega
  · obtain ⟨r, r1, r2⟩ := h.rank
    refine ⟨r, r1, fun j d kp hd hd0 hpk => ?_⟩
    rcases at_set hc hd with ⟨rfl, rfl⟩ | ⟨_, hd⟩
    · exact absurd rfl hd0
    · exact r2 j d kp hd hd0 hpk
  · simp only [List.length_set]; exact h.len
  · have := h.fl
    simp only [List.length_set]
    rw [hp.length_eq, List.length_cons]
    omega
theorem Inv.used {K : Nat} {x : Int} {s : PS} (h : Inv K x s) : usedP s = (s.all.countP (fun d => decide (d.holds ≠ 0)) : Nat) := by
  have := h.fl
  unfold usedP
  omega
theorem Inv.free_le {K : Nat} {x : Int} {s : PS} (h : Inv K x s) : s.free.length ≤ K := by
  have := h.fl
  have := h.len
  omega
end Go.Proofs.Ytdgbnibnhajfoaa
