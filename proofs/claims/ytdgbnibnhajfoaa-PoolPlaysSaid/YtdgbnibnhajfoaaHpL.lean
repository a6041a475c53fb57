/- A pool: a new cell, one more hold: what is so stays so. -/
import Derived.Test.YtdgbnibnhajfoaaHpJ
namespace Go.Proofs.Ytdgbnibnhajfoaa
set_option linter.unusedVariables false
set_option linter.unusedSimpArgs false

theorem Inv.mono {K K' : Nat} {x : Int} {s : PS} (h : Inv K x s) (hK : K ≤ K') : Inv K' x s := by
  obtain ⟨r, r1, r2⟩ := h.rank
  exact ⟨h.heap, h.nd, h.fr, h.dead, fun k c hc => by have := h.pos k c hc; exact ⟨this.1, this.2.1, by omega, by omega⟩, h.num, h.up, h.cnt, ⟨r, fun k => Nat.le_trans (r1 k) hK, r2⟩, Nat.le_trans h.len hK, h.fl⟩
theorem Inv.hold {K k : Nat} {s : PS} {c : Cl} (h : Inv K (-1) s) (hc : s.all[k]? = some c) (hl : c.holds ≠ 0) : Inv (K + 1) (-1) (holdP s k c) := by
  have hp := h.pos k c hc
  have hn := h.cnt k c hc hl
  rw [if_neg (by omega)] at hn
  exact h.turn (Nat.le_succ _) hc hl ⟨rfl, rfl, rfl⟩ (by simp; omega) ⟨by simp; omega, by simp; omega, by simp; omega, by simp; omega⟩ (by rw [if_neg (by omega)]; simp; omega) fun j _ _ => Iff.rfl
theorem Inv.bump_ {K k : Nat} {s : PS} {c : Cl} (h : Inv K (-1) s) (hf : findP s (k : Int) = some c) : Inv (K + 1) (k : Int) (bump s (k : Int)) := by
  obtain ⟨hc, hl⟩ := findP_some.1 hf
  rw [bump_some hf]
  have hp := h.pos k c hc
  have hn := h.cnt k c hc hl
  rw [if_neg (by omega)] at hn
  refine h.turn (Nat.le_succ _) hc hl ⟨rfl, rfl, rfl⟩ (by simp; omega) ⟨hp.1, by simp; omega, by simp; omega, by simp; omega⟩ (by rw [if_pos rfl]; simp; omega) fun j hj _ => by
    constructor
    · intro e; omega
    · intro e; omega
/-- where a new cell comes to lie -/
structure PutF (l : List Cl) (k : Nat) (c0 : Cl) (l' : List Cl) : Prop where
  at_ : ∀ (j : Nat) (d : Cl), l'[j]? = some d ↔ (j = k ∧ d = c0) ∨ (j ≠ k ∧ l[j]? = some d)
  kids : ∀ y : Int, kids l' y = kids l y + if kidB y c0 then 1 else 0
  live : l'.countP (fun d => decide (d.holds ≠ 0)) = l.countP (fun d => decide (d.holds ≠ 0)) + 1
  old : ∀ d, l[k]? = some d → d.holds = 0
theorem putF_app (l : List Cl) (c0 : Cl) (h0 : c0.holds ≠ 0) : PutF l l.length c0 (l ++ [c0]) := by
  refine ⟨fun j d => ?_, fun y => ?_, ?_, fun d hd => by rw [List.getElem?_eq_none (Nat.le_refl _)] at hd; cases hd⟩
  · by_cases h1 : j < l.length
    · rw [List.getElem?_append_left h1]
      constructor
      · intro h; exact .inr ⟨by omega, h⟩
      · rintro (⟨e, _⟩ | ⟨_, h⟩)
        · omega
        · exact h
    · rw [List.getElem?_append_right (by omega)]
      by_cases h2 : j = l.length
      · subst h2
        simp
        constructor
        · intro h; exact h.symm
        · intro h; exact h.symm
      · rw [List.getElem?_eq_none (by simp; omega), List.getElem?_eq_none (by omega)]
        simp [h2]
  · unfold kids
    rw [List.countP_append]
    simp [List.countP_cons, List.countP_nil]
  · rw [List.countP_append]
    simp [List.countP_cons, List.countP_nil, h0]
theorem putF_set (l : List Cl) (k : Nat) (c c0 : Cl) (hc : l[k]? = some c) (hz : c.holds = 0) (h0 : c0.holds ≠ 0) : PutF l k c0 (l.set k c0) := by
  have hlt := (List.getElem?_eq_some_iff.1 hc).1
  refine ⟨fun j d => ?_, fun y => ?_, ?_, fun d hd => by rw [hc] at hd; injection hd with hd; subst hd; exact hz⟩
  · constructor
    · intro h; exact at_set hc h
    · rintro (⟨rfl, rfl⟩ | ⟨hj, h⟩)
      · simp [hlt]
      · rw [List.getElem?_set, if_neg (fun e => hj e.symm)]; exact h
  · have := kids_set (c' := c0) hc y
    have e : kidB y c = false := by simp [kidB, hz]
    rw [e] at this
    generalize kidB y c0 = b2 at *
    cases b2 <;> simp at this ⊢ <;> omega
  · obtain ⟨_, rfl⟩ := List.getElem?_eq_some_iff.1 hc
    rw [List.countP_set hlt]
    generalize l.countP (fun d => decide (d.holds ≠ 0)) = n at *
    simp [hz, h0]
theorem Inv.next {K : Nat} {x : Int} {s : PS} (h : Inv K x s) (c0 : Cl) (h0 : c0.holds ≠ 0) : PutF s.all (nextK s) c0 (putAt s.all (nextK s) c0) := by
  unfold putAt nextK
  by_cases hf : s.free = []
  · rw [if_pos hf, if_neg (by omega)]
    exact putF_app _ _ h0
  · rw [if_neg hf]
    have hl : 0 < s.free.length := List.length_pos_iff.2 hf
    obtain ⟨k, c, hk, hc, hz⟩ := (h.fr _).1 (List.mem_of_getElem? (at_hget hl))
    rw [hk, Int.toNat_natCast, if_pos (List.getElem?_eq_some_iff.1 hc).1]
    exact putF_set _ _ _ _ hc hz h0
/-- no cell is behind a number where none is -/
theorem Inv.no_kids {K : Nat} {x : Int} {s : PS} (h : Inv K x s) {k : Nat} (hk : ¬ Live s.all k) : kids s.all k = 0 := by
  apply Classical.byContradiction
  intro hn
  have hp : 0 < kids s.all k := by omega
  obtain ⟨c, hc, hb⟩ := List.countP_pos_iff.1 hp
  simp only [kidB, Bool.and_eq_true, decide_eq_true_eq] at hb
  obtain ⟨j, hj⟩ := List.mem_iff_getElem?.1 hc
  rcases h.up j c hj hb.1 with ⟨e, _⟩ | ⟨kp, e, hL⟩
  · omega
  · have : kp = k := by omega
    subst this
    exact hk hL
theorem Inv.put {K : Nat} {b : PS} {x : Ln} {l : List Int} (h : Inv K x.1 b) (hx : x.1 = -1 ∧ x.2.2 = true ∨ ∃ kp : Nat, x.1 = (kp : Int) ∧ Live b.all kp) (hnum : b.num x = none) (hh : HeapN l l.length) (hp : b.free = [] ∧ l = [] ∨ b.free.Perm ((nextK b : Int) :: l)) :
    Inv (K + 1) (-1) { b with all := putAt b.all (nextK b) (newC x 1), free := l, num := putN b.num x (nextK b) } := by
  have F := h.next (newC x 1) (by simp [newC])
  have hL := h.len
  have hlen : (putAt b.all (nextK b) (newC x 1)).length = if b.free = [] then b.all.length + 1 else b.all.length := by
    unfold putAt
    by_cases hf : b.free = []
    · rw [if_pos hf, if_neg (by unfold nextK; rw [if_pos hf]; omega)]; simp
    · rw [if_neg hf]
      have hl : 0 < b.free.length := List.length_pos_iff.2 hf
      obtain ⟨k, c, hk, hc, hz⟩ := (h.fr _).1 (List.mem_of_getElem? (at_hget hl))
      rw [if_pos (by unfold nextK; rw [if_neg hf, hk, Int.toNat_natCast]; exact (List.getElem?_eq_some_iff.1 hc).1)]; simp
  have hnl : ¬ Live b.all (nextK b) := fun ⟨d, hd, h0⟩ => h0 (F.old d hd)
  have hk0 := h.no_kids hnl
  generalize hkk : nextK b = k at *
  generalize putAt b.all k (newC x 1) = l' at *
  have hxk : x.1 ≠ (k : Int) := by
    rcases hx with ⟨e, _⟩ | ⟨kp, e, hLp⟩
    · omega
    · intro e2
      have : kp = k := by omega
      subst this
      exact hnl hLp
  have hlive : ∀ j, Live b.all j → Live l' j := fun j ⟨d, hd, h0⟩ => ⟨d, (F.at_ j d).2 (.inr ⟨fun e => by subst e; exact hnl ⟨d, hd, h0⟩, hd⟩), h0⟩
  have hfree : ∀ v : Int, v ∈ l ↔ v ∈ b.free ∧ v ≠ (k : Int) := fun v => by
    rcases hp with ⟨h1, h2⟩ | h1
    · rw [h1, h2]; simp
    · have hnd : ((k : Int) :: l).Nodup := h1.nodup_iff.1 h.nd
      rw [h1.mem_iff, List.mem_cons]
      constructor
      · intro hv
        exact ⟨.inr hv, fun e => (List.nodup_cons.1 hnd).1 (e ▸ hv)⟩
      · rintro ⟨e | e, h2⟩
        · exact absurd e h2
        · exact e
  refine ⟨hh, ?_, fun v => ?_, fun j d hd h0 => ?_, fun j d hd => ?_, fun y v => ?_, fun j d hd hd0 => ?_, fun j d hd hd0 => ?_, ?_, ?_, ?_⟩
  · rcases hp with ⟨_, h2⟩ | h1
    · rw [h2]; exact List.nodup_nil
    · exact (List.nodup_cons.1 (h1.nodup_iff.1 h.nd)).2
  · rw [hfree, h.fr]
    constructor
    · rintro ⟨⟨j, d, rfl, hd, h0⟩, hv⟩
      exact ⟨j, d, rfl, (F.at_ j d).2 (.inr ⟨fun e => hv (by rw [e]), hd⟩), h0⟩
    · rintro ⟨j, d, rfl, hd, h0⟩
      rcases (F.at_ j d).1 hd with ⟨rfl, rfl⟩ | ⟨hj, hd⟩
      · simp [newC] at h0
      · exact ⟨⟨j, d, rfl, hd, h0⟩, fun e => hj (by omega)⟩
  · rcases (F.at_ j d).1 hd with ⟨rfl, rfl⟩ | ⟨hj, hd⟩
    · simp [newC] at h0
    · exact h.dead j d hd h0
  · rcases (F.at_ j d).1 hd with ⟨rfl, rfl⟩ | ⟨hj, hd⟩
    · simp [newC]; omega
    · have := h.pos j d hd
      exact ⟨this.1, this.2.1, by omega, by omega⟩
  · simp only [putN]
    by_cases hy : y = x
    · rw [if_pos hy]
      constructor
      · intro e
        injection e with e
        exact ⟨k, newC x 1, e.symm, (F.at_ _ _).2 (.inl ⟨rfl, rfl⟩), by simp [newC], hy⟩
      · rintro ⟨j, d, rfl, hd, h0, e⟩
        rcases (F.at_ j d).1 hd with ⟨rfl, rfl⟩ | ⟨hj, hd⟩
        · rfl
        · have := (h.num x (j : Int)).2 ⟨j, d, rfl, hd, h0, by rw [← hy]; exact e⟩
          rw [hnum] at this
          cases this
    · rw [if_neg hy, h.num]
      constructor
      · rintro ⟨j, d, rfl, hd, h0, rfl⟩
        exact ⟨j, d, rfl, (F.at_ j d).2 (.inr ⟨fun e => by subst e; exact hnl ⟨d, hd, h0⟩, hd⟩), h0, rfl⟩
      · rintro ⟨j, d, rfl, hd, h0, rfl⟩
        rcases (F.at_ j d).1 hd with ⟨rfl, rfl⟩ | ⟨hj, hd⟩
        · exact absurd rfl hy
        · exact ⟨j, d, rfl, hd, h0, rfl⟩
  · rcases (F.at_ j d).1 hd with ⟨rfl, rfl⟩ | ⟨hj, hd⟩
    · rcases hx with e | ⟨kp, e, hLp⟩
      · exact .inl e
      · exact .inr ⟨kp, e, hlive kp hLp⟩
    · rcases h.up j d hd hd0 with e | ⟨kp, e, hLp⟩
      · exact .inl e
      · exact .inr ⟨kp, e, hlive kp hLp⟩
  · simp only
    rw [F.kids, if_neg (show ¬ (-1 : Int) = (j : Int) by omega)]
    have hb : kidB (j : Int) (newC x 1) = decide (x.1 = (j : Int)) := by by_cases q : x.1 = (j : Int) <;> simp [kidB, newC, q]
    rw [hb]
    rcases (F.at_ j d).1 hd with ⟨rfl, rfl⟩ | ⟨hj, hd⟩
    · rw [hk0]
      simp [newC, hxk]
    · rw [h.cnt j d hd hd0]
      by_cases e : x.1 = (j : Int)
      · simp [e]; omega
      · simp [e]
  · obtain ⟨r, r1, r2⟩ := h.rank
    have hr' : ∃ q, q ≤ K + 1 ∧ ∀ kp : Nat, x.1 = (kp : Int) → r kp < q := by
      rcases hx with ⟨e, _⟩ | ⟨kp, e, _⟩
      · exact ⟨0, Nat.zero_le _, fun kp e2 => by omega⟩
      · exact ⟨r kp + 1, by have := r1 kp; omega, fun kp' e2 => by
        have : kp' = kp := by omega
        subst this
        omega⟩
    obtain ⟨q, q1, q2⟩ := hr'
    refine ⟨fun j => if j = k then q else r j, fun j => ?_, fun j d kp hd hd0 hpk => ?_⟩
    · simp only
      split
      · exact q1
      · exact Nat.le_trans (r1 j) (Nat.le_succ _)
    · simp only
      rcases (F.at_ j d).1 hd with ⟨rfl, rfl⟩ | ⟨hj, hd2⟩
      · rw [if_pos rfl, if_neg (by intro e; subst e; exact hxk hpk)]
        exact q2 kp hpk
      · rw [if_neg hj]
        have hkp : kp ≠ k := fun e => by
          subst e
          rcases h.up j d hd2 hd0 with ⟨e2, _⟩ | ⟨kp', e2, hLp⟩
          · omega
          · have : kp' = kp := by omega
            subst this
            exact hnl hLp
        rw [if_neg hkp]
        exact r2 j d kp hd2 hd0 hpk
  · simp only
    rw [hlen]
    split <;> omega
  · simp only
    rw [hlen, F.live]
    have hfl := h.fl
    rcases hp with ⟨h1, h2⟩ | h1
    · rw [if_pos h1, h2]
      rw [h1] at hfl
      simp at hfl ⊢
      omega
    · have h2 : b.free ≠ [] := fun e => by rw [e] at h1; have := h1.length_eq; simp at this
      rw [if_neg h2]
      rw [h1.length_eq, List.length_cons] at hfl
      omega
theorem Inv.add {K : Nat} {s : PS} {x : Ln} {l : List Int} (h : Inv K (-1) s) (hx : x.1 = -1 ∧ x.2.2 = true ∨ ∃ (kp : Nat) (cp : Cl), x.1 = (kp : Int) ∧ findP s (kp : Int) = some cp) (hnum : s.num x = none) (hh : HeapN l l.length) (hp : s.free = [] ∧ l = [] ∨ s.free.Perm ((nextK s : Int) :: l)) :
    Inv (K + 2) (-1) (addG s x l) := by
  have hb := bump_len s x.1
  unfold addG
  have hnk := nextK_bump s x.1
  rw [← hnk, ← hb.2.2.1]
  refine Inv.put (K := K + 1) (b := bump s x.1) ?_ ?_ (by rw [hb.2.2.1]; exact hnum) hh (by rw [hb.2.1, hnk]; exact hp)
  · rcases hx with ⟨e, _⟩ | ⟨kp, cp, e, hf⟩
    · rw [e, bump_none]; exact h.mono (Nat.le_succ _)
    · rw [e]; exact h.bump_ hf
  · rcases hx with e | ⟨kp, cp, e, hf⟩
    · exact .inl e
    · refine .inr ⟨kp, e, ?_⟩
      obtain ⟨hc, hl⟩ := findP_some.1 hf
      rw [e, bump_some hf]
      have := h.pos kp cp hc
      exact ⟨{ cp with holds := cp.holds + 1 }, by simp [(List.getElem?_eq_some_iff.1 hc).1], by simp; omega⟩
end Go.Proofs.Ytdgbnibnhajfoaa
