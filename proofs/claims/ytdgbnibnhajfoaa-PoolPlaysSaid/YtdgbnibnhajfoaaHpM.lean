/- A pool: what any Add answers; own holds; where paths end. -/
import Derived.Test.YtdgbnibnhajfoaaHpK
import Derived.Test.YtdgbnibnhajfoaaHpL
namespace Go.Proofs.Ytdgbnibnhajfoaa
open Go.ChangeShapes Go.WideShapes Go.ChangeAt Go.RowKit
set_option linter.unusedVariables false
set_option linter.unusedSimpArgs false

def ownL (l : List Cl) (j : Nat) : Int := match l[j]? with | some c => c.own | none => 0
theorem ownL_live {K j : Nat} {x : Int} {s : PS} (h : Inv K x s) (ho : ownL s.all j ≠ 0) : ∃ c, s.all[j]? = some c ∧ c.holds ≠ 0 ∧ ownL s.all j = c.own := by
  unfold ownL at ho ⊢
  cases hc : s.all[j]? with
  | none => rw [hc] at ho; exact absurd rfl ho
  | some c =>
    rw [hc] at ho
    refine ⟨c, rfl, fun h0 => ?_, rfl⟩
    rw [h.dead j c hc h0] at ho
    exact ho rfl
theorem ownL_set {l : List Cl} {k : Nat} {c c' : Cl} (h : l[k]? = some c) (j : Nat) : ownL (l.set k c') j = if j = k then c'.own else ownL l j := by
  have hlt := (List.getElem?_eq_some_iff.1 h).1
  unfold ownL
  rw [List.getElem?_set]
  by_cases e : k = j
  · subst e; simp [hlt]
  · rw [if_neg e, if_neg (fun q => e q.symm)]
theorem ownL_here {l : List Cl} {k : Nat} {c : Cl} (h : l[k]? = some c) : ownL l k = c.own := by unfold ownL; rw [h]
/-- there is a heap of any numbers -/
theorem heap_of (xs : List Int) : ∃ l, HeapN l l.length ∧ l.Perm xs := by
  refine ⟨xs.mergeSort (fun a b => decide (a ≤ b)), fun k k0 kn => ?_, List.mergeSort_perm _ _⟩
  have hs := List.pairwise_mergeSort (le := fun a b : Int => decide (a ≤ b)) (by intro a b c h1 h2; simp at *; omega) (by intro a b; simp; omega) xs
  rw [List.pairwise_iff_getElem] at hs
  have h1 := hs ((k - 1) / 2) k (by omega) kn (by omega)
  rw [hget_at (List.getElem?_eq_getElem (show (k - 1) / 2 < _ by omega)), hget_at (List.getElem?_eq_getElem kn)]
  simpa using h1
/-- what Add comes to, where it adds: at k, turning s into s' -/
def Added (s : PS) (x : Ln) (k : Nat) (s' : PS) : Prop :=
  (∃ c, s.num x = some (k : Int) ∧ s.all[k]? = some c ∧ c.holds ≠ 0 ∧ s' = holdP s k c) ∨ (s.num x = none ∧ k = nextK s ∧ usedP s < s.most ∧ ∃ l, s' = addG s x l)
theorem Added.own {K k : Nat} {s s' : PS} {x : Ln} (h : Added s x k s') (hI : Inv K (-1) s) (j : Nat) : ownL s'.all j = ownL s.all j + if j = k then 1 else 0 := by
  rcases h with ⟨c, _, hc, hl, rfl⟩ | ⟨_, rfl, _, l, rfl⟩
  · simp only [holdP]
    rw [ownL_set hc]
    split
    · rename_i e; subst e; rw [ownL_here hc]
    · simp
  · have hb : ∀ j, ownL (bump s x.1).all j = ownL s.all j := fun j => by
      unfold bump
      split
      · rename_i c hf
        obtain ⟨kp, e, hc, _⟩ := findP_nat hf
        simp only
        rw [e, Int.toNat_natCast, ownL_set hc]
        split
        · rename_i q; subst q; rw [ownL_here hc]
        · rfl
      · rfl
    have hlen := (bump_len s x.1).1
    simp only [addG, putAt]
    have hdead : ownL s.all (nextK s) = 0 := by
      apply Classical.byContradiction
      intro ho
      obtain ⟨c, hc, hl, _⟩ := ownL_live hI ho
      have F := hI.next cl0
      exact hl ((hI.next (newC x 1) (by simp [newC])).old c hc)
    split
    · rename_i hlt
      rw [ownL_set (List.getElem?_eq_getElem hlt)]
      split
      · rename_i e; subst e; rw [hdead]; rfl
      · rw [hb]; simp
    · rename_i hlt
      have hn : nextK s = s.all.length := by
        unfold nextK at hlt ⊢
        split
        · rfl
        · rename_i hf
          exfalso
          rw [if_neg hf] at hlt
          have hl : 0 < s.free.length := List.length_pos_iff.2 hf
          obtain ⟨k, c, hk, hc, hz⟩ := (hI.fr _).1 (List.mem_of_getElem? (at_hget hl))
          rw [hk, Int.toNat_natCast, hlen] at hlt
          exact hlt (List.getElem?_eq_some_iff.1 hc).1
      rw [hn] at hdead ⊢
      by_cases h1 : j < s.all.length
      · rw [if_neg (by omega), ← hb]
        unfold ownL
        rw [List.getElem?_append_left (by rw [hlen]; exact h1)]
        simp
      · by_cases h2 : j = s.all.length
        · subst h2
          rw [if_pos rfl, hdead]
          unfold ownL
          rw [List.getElem?_append_right (by rw [hlen]; omega), hlen, Nat.sub_self]
          rfl
        · rw [if_neg h2]
          unfold ownL
          rw [List.getElem?_eq_none (by simp; omega), List.getElem?_eq_none (by omega)]
          rfl
theorem Inv.drop_own {K : Nat} : ∀ {l l' : List Cl} {x : Int}, Dr l x l' → ∀ s : PS, s.all = l → Inv K x s → ∀ j, ownL l' j = ownL l j := by
  intro l l' x h
  induction h with
  | none l => intro s _ _ j; rfl
  | more l k c hc h2 =>
    intro s _ _ j
    rw [ownL_set hc]
    split
    · rename_i e; subst e; rw [ownL_here hc]
    · rfl
  | last l k c l' hc h1 hn ih =>
    intro s hs hI j
    subst hs
    -- a heap of the same numbers, whatever its order
    obtain ⟨hl, hh, hp⟩ := heap_of ((k : Int) :: s.free)
    obtain ⟨hI2, hown, _, _⟩ := hI.last (l := hl) hc h1 hh hp
    rw [ih _ rfl hI2 j, ownL_set hc]
    split
    · rename_i e; subst e; rw [ownL_here hc, hown]; rfl
    · rfl
theorem Drop.own {K k : Nat} {s s' : PS} {c : Cl} (hI : Inv K (-1) s) (hc : s.all[k]? = some c) (hl : c.holds ≠ 0) (h1 : 1 ≤ c.own) (hd : Dr (dropS s k c).all k s'.all) (j : Nat) : ownL s'.all j = ownL s.all j - if j = k then 1 else 0 := by
  rw [Inv.drop_own hd (dropS s k c) rfl (hI.drop hc hl h1) j]
  simp only [dropS]
  rw [ownL_set hc]
  split
  · rename_i e; subst e; rw [ownL_here hc]
  · simp
def AddR (B p K : Nat) (D : Nat → Prop) (s : PS) (w : World) (prev event : Int) (fresh : Bool) (e : Ending) (w' : World) : Prop :=
  (e = .returned (.tuple #[.int .i64 (-1), .bool false]) ∧ Below w.heap.size w w' ∧ (¬ (0 ≤ event ∧ (prev = -1 ∨ ∃ c, findP s prev = some c)) ∨ s.num (lnk prev event fresh) = none ∧ s.most ≤ usedP s)) ∨
    ∃ (k : Nat) (s' : PS), e = .returned (.tuple #[.int .i64 (k : Int), .bool true]) ∧ 0 ≤ event ∧ (prev = -1 ∨ ∃ c, findP s prev = some c) ∧ Added s (lnk prev event fresh) k s' ∧ Inv (K + 2) (-1) s' ∧ s'.most = s.most ∧ POut B p D w s' w'
/-- what Add answers, whatever it is asked -/
theorem add_all {B p K : Nat} {D : Nat → Prop} {s : PS} {w : World} (h : PAt B p D s w) (hI : Inv K (-1) s) (hK : K ≤ 100000) (prev event : Int) (fresh : Bool) (hpr : -9223372036854775808 ≤ prev ∧ prev ≤ 9223372036854775807) :
    Calls Try.prog 11 #[.pointer (some ⟨p, 0, none⟩), .int .i64 prev, .int .i64 event, .bool fresh] w (AddR B p K D s w prev event fresh) := by
  by_cases hev : event < 0 ∨ prev ≠ -1 ∧ findP s prev = none
  · obtain ⟨M, vA, vF, hX, hD⟩ := h
    refine (add_bad B p M vA vF s w hX prev event fresh hpr hev).mono ?_
    rintro e w' ⟨rfl, rfl⟩
    refine .inl ⟨rfl, Below.refl _ _, .inl ?_⟩
    rintro ⟨h1, h2⟩
    rcases hev with h3 | ⟨h3, h4⟩
    · omega
    · rcases h2 with h2 | ⟨c, h2⟩
      · exact h3 h2
      · rw [h4] at h2; cases h2
  · have he : 0 ≤ event := by
      apply Classical.byContradiction
      intro hc
      exact hev (.inl (by omega))
    have hpv : prev = -1 ∨ ∃ c, findP s prev = some c := by
      by_cases e : prev = -1
      · exact .inl e
      · cases hf : findP s prev with
        | none => exact absurd (.inr ⟨e, hf⟩) hev
        | some c => exact .inr ⟨c, rfl⟩
    clear hev
    have hkf : ∀ v ∈ s.free, ∃ k : Nat, v = (k : Int) ∧ k < s.all.length := fun v hv => by
      obtain ⟨k, c, e, hc, _⟩ := (hI.fr v).1 hv
      exact ⟨k, e, (List.getElem?_eq_some_iff.1 hc).1⟩
    have hlen := hI.len
    have hfl := hI.free_le
    have hlx : lnk prev event fresh = (-1, event, true) ∧ prev = -1 ∨ ∃ (kp : Nat) (cp : Cl), prev = (kp : Int) ∧ findP s (kp : Int) = some cp ∧ lnk prev event fresh = ((kp : Int), event, fresh) := by
      rcases hpv with e | ⟨c, hf⟩
      · subst e; exact .inl ⟨by simp [lnk], rfl⟩
      · obtain ⟨kp, e, _⟩ := findP_nat hf
        subst e
        exact .inr ⟨kp, c, rfl, hf, by simp [lnk]⟩
    have hx1 : (lnk prev event fresh).1 = -1 ∧ (lnk prev event fresh).2.2 = true ∨ ∃ (kp : Nat) (cp : Cl), (lnk prev event fresh).1 = (kp : Int) ∧ findP s (kp : Int) = some cp := by
      rcases hlx with ⟨e, _⟩ | ⟨kp, cp, e, hf, e2⟩
      · rw [e]; exact .inl ⟨rfl, rfl⟩
      · rw [e2]; exact .inr ⟨kp, cp, rfl, hf⟩
    cases hnum : s.num (lnk prev event fresh) with
    | some v =>
      obtain ⟨k, c, rfl, hc, hl, _⟩ := (hI.num _ v).1 hnum
      have hpo := hI.pos k c hc
      have hf := findP_some.2 ⟨hc, hl⟩
      have hend : ∀ (e : Ending) (w' : World), (e = .returned (.tuple #[.int .i64 (k : Int), .bool true]) ∧ POut B p D w (holdP s k c) w') → AddR B p K D s w prev event fresh e w' := fun e w' h => Or.inr ⟨k, holdP s k c, h.1, he, hpv, .inl ⟨c, hnum, hc, hl, rfl⟩, (hI.hold hc hl).mono (by omega), rfl, h.2⟩
      rcases hlx with ⟨e1, hpe⟩ | ⟨kp, cp, hpe, hfp, e1⟩
      · rw [e1] at hnum
        subst hpe
        cases fresh with
        | true => exact (add_there_root_true h event he k c hnum hf (by omega) (by omega)).mono hend
        | false => exact (add_there_root_false h event he k c hnum hf (by omega) (by omega)).mono hend
      · rw [e1] at hnum
        subst hpe
        cases fresh with
        | true => exact (add_there_kid_true h event he kp cp hfp k c hnum hf (by omega) (by omega)).mono hend
        | false => exact (add_there_kid_false h event he kp cp hfp k c hnum hf (by omega) (by omega)).mono hend
    | none =>
      by_cases hu : usedP s < s.most
      · have hend : ∀ (e : Ending) (w' : World), (e = .returned (.tuple #[.int .i64 (nextK s : Int), .bool true]) ∧ ∃ l, HeapN l l.length ∧ (s.free = [] ∧ l = [] ∨ s.free.Perm ((nextK s : Int) :: l)) ∧ POut B p D w (addG s (lnk prev event fresh) l) w') → AddR B p K D s w prev event fresh e w' := fun e w' h => by
          obtain ⟨h1, l, h2, h3, h4⟩ := h
          exact Or.inr ⟨nextK s, _, h1, he, hpv, .inr ⟨hnum, rfl, hu, l, rfl⟩, hI.add hx1 hnum h2 h3, by simp only [addG]; exact (bump_len s _).2.2.2, h4⟩
        rcases hlx with ⟨e1, hpe⟩ | ⟨kp, cp, hpe, hfp, e1⟩
        · rw [e1] at hnum hend
          subst hpe
          cases fresh with
          | true => exact (add_gen_root_true h event he hnum hu hI.heap hkf (by omega) (by omega)).mono hend
          | false => exact (add_gen_root_false h event he hnum hu hI.heap hkf (by omega) (by omega)).mono hend
        · have hpo := hI.pos kp cp (findP_some.1 hfp).1
          rw [e1] at hnum hend
          subst hpe
          cases fresh with
          | true => exact (add_gen_kid_true h event he kp cp hfp (by omega) hnum hu hI.heap hkf (by omega) (by omega)).mono hend
          | false => exact (add_gen_kid_false h event he kp cp hfp (by omega) hnum hu hI.heap hkf (by omega) (by omega)).mono hend
      · have hend : ∀ (e : Ending) (w' : World), (e = .returned (.tuple #[.int .i64 (-1), .bool false]) ∧ Below w.heap.size w w') → AddR B p K D s w prev event fresh e w' := fun e w' h => Or.inl ⟨h.1, h.2, .inr ⟨hnum, by omega⟩⟩
        rcases hlx with ⟨e1, hpe⟩ | ⟨kp, cp, hpe, hfp, e1⟩
        · rw [e1] at hnum
          subst hpe
          cases fresh with
          | true => exact (add_full_root_true h event he hnum (by omega)).mono hend
          | false => exact (add_full_root_false h event he hnum (by omega)).mono hend
        · rw [e1] at hnum
          subst hpe
          cases fresh with
          | true => exact (add_full_kid_true h event he kp cp hfp hnum (by omega)).mono hend
          | false => exact (add_full_kid_false h event he kp cp hfp hnum (by omega)).mono hend
/-- from each cell the ways lead to one that begins a row -/
theorem Inv.chain {K : Nat} {x : Int} {s : PS} (h : Inv K x s) (k : Nat) (hk : Live s.all k) : ∃ cs, chainP s (k : Int) cs ∧ cs.length ≤ K + 1 ∧ ∃ c ∈ cs, c.fresh = true := by
  obtain ⟨r, r1, r2⟩ := h.rank
  have key : ∀ (n k : Nat), r k ≤ n → Live s.all k → ∃ cs, chainP s (k : Int) cs ∧ cs.length ≤ n + 1 ∧ ∃ c ∈ cs, c.fresh = true := by
    intro n
    induction n with
    | zero =>
      rintro k hr ⟨c, hc, hl⟩
      rcases h.up k c hc hl with ⟨e, hf⟩ | ⟨kp, e, hL⟩
      · exact ⟨[c], ⟨findP_some.2 ⟨hc, hl⟩, by rw [e]; exact findP_neg s⟩, by simp, c, by simp, hf⟩
      · have := r2 k c kp hc hl e
        omega
    | succ n ih =>
      rintro k hr ⟨c, hc, hl⟩
      rcases h.up k c hc hl with ⟨e, hf⟩ | ⟨kp, e, hL⟩
      · exact ⟨[c], ⟨findP_some.2 ⟨hc, hl⟩, by rw [e]; exact findP_neg s⟩, by simp, c, by simp, hf⟩
      · have := r2 k c kp hc hl e
        obtain ⟨cs, h1, h2, d, hd, hdf⟩ := ih kp (by omega) hL
        exact ⟨c :: cs, ⟨findP_some.2 ⟨hc, hl⟩, by rw [e]; exact h1⟩, by simp; omega, d, by simp [hd], hdf⟩
  obtain ⟨cs, h1, h2, h3⟩ := key (r k) k (Nat.le_refl _) hk
  exact ⟨cs, h1, by have := r1 k; omega, h3⟩
theorem pathS_pos : ∀ (cs : List Cl) (ll : List (List Int)) (part : List Int), ((∃ c ∈ cs, c.fresh = true) ∨ ll ≠ []) → pathS cs ll part ≠ []
  | [], ll, part, h => by
    rcases h with ⟨c, hc, _⟩ | h
    · simp at hc
    · simpa [pathS] using h
  | c :: cs, ll, part, h => by
    unfold pathS
    split
    · exact pathS_pos cs _ _ (.inr (by simp))
    · rename_i hf
      refine pathS_pos cs _ _ ?_
      rcases h with ⟨d, hd, hdf⟩ | h
      · rcases List.mem_cons.1 hd with rfl | hd
        · exact absurd hdf hf
        · exact .inl ⟨d, hd, hdf⟩
      · exact .inr h
/-- where nothing has an own hold, nothing is there -/
theorem Inv.none_ {K : Nat} {s : PS} (h : Inv K (-1) s) (h0 : ∀ j, ownL s.all j = 0) (k : Nat) : ¬ Live s.all k := by
  obtain ⟨r, r1, r2⟩ := h.rank
  have key : ∀ (n k : Nat), K - r k ≤ n → ¬ Live s.all k := by
    intro n
    induction n with
    | zero =>
      rintro k hr ⟨c, hc, hl⟩
      have hn := h.cnt k c hc hl
      rw [if_neg (by omega)] at hn
      have := h0 k
      rw [ownL_here hc] at this
      have hk : 0 < kids s.all k := by omega
      obtain ⟨d, hd, hb⟩ := List.countP_pos_iff.1 hk
      simp only [kidB, Bool.and_eq_true, decide_eq_true_eq] at hb
      obtain ⟨j, hj⟩ := List.mem_iff_getElem?.1 hd
      have := r2 j d k hj hb.1 hb.2
      have := r1 j
      omega
    | succ n ih =>
      rintro k hr ⟨c, hc, hl⟩
      have hn := h.cnt k c hc hl
      rw [if_neg (by omega)] at hn
      have := h0 k
      rw [ownL_here hc] at this
      have hk : 0 < kids s.all k := by omega
      obtain ⟨d, hd, hb⟩ := List.countP_pos_iff.1 hk
      simp only [kidB, Bool.and_eq_true, decide_eq_true_eq] at hb
      obtain ⟨j, hj⟩ := List.mem_iff_getElem?.1 hd
      have h1 := r2 j d k hj hb.1 hb.2
      have h2 := r1 j
      exact ih j (by omega) ⟨d, hj, hb.1⟩
  exact key (K - r k) k (Nat.le_refl _)
end Go.Proofs.Ytdgbnibnhajfoaa
