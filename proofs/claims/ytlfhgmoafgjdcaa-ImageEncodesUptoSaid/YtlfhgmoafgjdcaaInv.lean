/- A region that draws its order, proved once an operation, not once an order: each operation keeps a word on its value and on the world; in whatever order they come, at the end all words hold. -/
import Derived.Orders
import Derived.Deep.Draws
import Derived.Below
import Derived.ChangeShapes
namespace Go.Proofs.Ytlfhgmoafgjdcaa
open Go.ChangeShapes Go.WideShapes Go.RowKit

/-- all values put, in the operations' order -/
def putAll : List Oper → Nat → (Nat → Value) → Act → Act
  | [], _, _, a => a
  | o :: os, i, vs, a => putAll os (i + 1) vs (a.put o.dst (vs i))

/-- what an operation has left in its slot -/
def slotOf (a : Act) : Option Tmp → Value
  | some d => a.tmps.getD d undef
  | none => undef
def valOf (ops : Array Oper) (a : Act) (i : Nat) : Value := slotOf a ((ops[i]?).bind (·.dst))

theorem put_size (a : Act) (d : Option Tmp) (v : Value) : (a.put d v).tmps.size = a.tmps.size := by
  unfold Act.put; cases d <;> simp
theorem put_defers (a : Act) (d : Option Tmp) (v : Value) : (a.put d v).defers = a.defers := by
  unfold Act.put; cases d <;> rfl
theorem put_ne (a : Act) (d : Option Tmp) (v : Value) (k : Nat) (h : d ≠ some k) : (a.put d v).tmps.getD k undef = a.tmps.getD k undef := by
  unfold Act.put
  cases d with
  | none => rfl
  | some d =>
    have hk : ¬ d = k := fun e => h (by rw [e])
    simp [Array.getD_eq_getD_getElem?, hk]
theorem put_same (a : Act) (d : Nat) (v : Value) (h : d < a.tmps.size) : (a.put (some d) v).tmps.getD d undef = v := by
  simp [Act.put, Array.getD_eq_getD_getElem?, h]

theorem act_ext {a b : Act} (hs : a.tmps.size = b.tmps.size) (h : ∀ k, a.tmps.getD k undef = b.tmps.getD k undef) (hd : a.defers = b.defers) : a = b := by
  obtain ⟨ta, da⟩ := a
  obtain ⟨tb, db⟩ := b
  simp only at hs h hd
  subst hd
  congr 1
  apply Array.ext hs
  intro i h1 h2
  have := h i
  simpa [Array.getD_eq_getD_getElem?, h1, h2] using this

theorem putAll_eq (a : Act) : ∀ (l : List Oper) (i : Nat) (vs : Nat → Value) (b : Act), b.tmps.size = a.tmps.size → b.defers = a.defers →
    (∀ j o, l[j]? = some o → ∀ d, o.dst = some d → a.tmps.getD d undef = vs (i + j)) →
    (∀ k, b.tmps.getD k undef = a.tmps.getD k undef ∨ ∃ o ∈ l, o.dst = some k) → putAll l i vs b = a
  | [], i, vs, b, hs, hd, _, hk => act_ext hs (fun k => (hk k).resolve_right (fun ⟨_, h, _⟩ => by cases h)) hd
  | o :: os, i, vs, b, hs, hd, hv, hk => by
    refine putAll_eq a os (i + 1) vs (b.put o.dst (vs i)) ((put_size _ _ _).trans hs) ((put_defers _ _ _).trans hd) ?_ ?_
    · intro j o' ho' d hdst
      have := hv (j + 1) o' (by simpa using ho') d hdst
      rw [this]
      congr 1
      omega
    · intro k
      by_cases c : o.dst = some k
      · by_cases hlt : k < b.tmps.size
        · left
          have h0 := hv 0 o (by simp) k c
          rw [c, put_same _ _ _ hlt, h0]
          rfl
        · left
          have e1 : (b.put o.dst (vs i)).tmps.getD k undef = undef := by
            rw [Array.getD_eq_getD_getElem?, Array.getElem?_eq_none (by rw [put_size]; omega)]; rfl
          have e2 : a.tmps.getD k undef = undef := by
            rw [Array.getD_eq_getD_getElem?, Array.getElem?_eq_none (by omega)]; rfl
          rw [e1, e2]
      · rcases hk k with h | ⟨o', ho', hdst⟩
        · left; rw [put_ne _ _ _ _ c, h]
        · rcases List.mem_cons.1 ho' with rfl | h
          · exact absurd hdst c
          · exact .inr ⟨o', h, hdst⟩

/-- no two operations write one slot; each slot is there -/
def dstsB (ops : Array Oper) (n m : Nat) : Bool :=
  (List.range ops.size).all fun i => match (ops[i]?).bind (·.dst) with
    | none => decide (m ≤ i)
    | some d => decide (d < n) && (List.range ops.size).all fun j => i == j || (ops[j]?).bind (·.dst) != some d
/-- what an operation waits for -/
def depsOf (ops : Array Oper) (i : Nat) : List Nat := match ops[i]? with
  | none => []
  | some o => (o.after.toList.filter fun e => Region.binds .any e).map (·.on)
/-- .. and what that waits for, and so on -/
def coverOf (ops : Array Oper) (i : Nat) : List Nat := (List.range i).reverse.foldl (fun S j => if S.contains j then S ++ depsOf ops j else S) (depsOf ops i)
/-- from m on each operation waits for all ahead of m -/
def lateB (ops : Array Oper) (m : Nat) : Bool :=
  (List.range ops.size).all fun i => decide (i < m) || (List.range m).all fun j => (coverOf ops i).contains j

/-- each operation waits only for such ahead of it -/
def backB (ops : Array Oper) : Bool :=
  (List.range ops.size).all fun i => match ops[i]? with
    | none => true
    | some o => o.after.all fun e => !Region.binds .any e || decide (e.on < i)

section
variable {P : Program} {ops : Array Oper} {Q : Exit → Act → World → Prop} {C : Act → World → Prop} {T : World → World → Prop} {V : Nat → Value → World → Prop} {a0 : Act} {m : Nat}

structure InvAt (ops : Array Oper) (C : Act → World → Prop) (V : Nat → Value → World → Prop) (a0 : Act) (m : Nat) (listed : Array Bool) (a : Act) (w : World) : Prop where
  size : a.tmps.size = a0.tmps.size
  defers : a.defers = a0.defers
  consts : ∀ k, (∀ (i : Nat) o, ops[i]? = some o → o.dst ≠ some k) ∨ (∃ (i : Nat) (o : Oper), ops[i]? = some o ∧ o.dst = some k ∧ listed.getD i true = false) → a.tmps.getD k undef = a0.tmps.getD k undef
  lsize : listed.size = ops.size
  late : ∀ i, m ≤ i → i < ops.size → listed.getD i true = false
  world : C a w
  vals : ∀ i, i < ops.size → listed.getD i true = true → V i (valOf ops a i) w
  down : ∀ i, i < ops.size → listed.getD i true = true → ∀ j ∈ depsOf ops i, listed.getD j false = true

theorem cover_listed {listed : Array Bool} (hdown : ∀ i, i < ops.size → listed.getD i true = true → ∀ j ∈ depsOf ops i, listed.getD j false = true) (hs : listed.size = ops.size) :
    ∀ (l S : List Nat), (∀ x ∈ S, listed.getD x false = true) → ∀ x ∈ l.foldl (fun S j => if S.contains j then S ++ depsOf ops j else S) S, listed.getD x false = true
  | [], S, h => h
  | j :: l, S, h => by
    refine cover_listed hdown hs l _ ?_
    intro x hx
    dsimp only at hx
    split at hx
    · rename_i hc
      rcases List.mem_append.1 hx with h1 | h1
      · exact h x h1
      · have hj := h j (by simpa using hc)
        have hlt : j < listed.size := by
          apply Classical.byContradiction
          intro hge
          simp [Array.getD_eq_getD_getElem?, hge] at hj
        refine hdown j (by omega) ?_ x h1
        simp [Array.getD_eq_getD_getElem?, hlt] at hj ⊢
        exact hj
    · exact h x hx

/-- how many are yet to come ahead of m -/
def toCome (m : Nat) (listed : Array Bool) : Nat := ((List.range m).filter fun i => !listed.getD i true).length

theorem toCome_set {m i : Nat} {listed : Array Bool} (hi : i < m) (hl : i < listed.size) (h : listed.getD i true = false) : toCome m (listed.setIfInBounds i true) + 1 = toCome m listed := by
  unfold toCome
  induction m with
  | zero => omega
  | succ n ih =>
    rw [List.range_succ, List.filter_append, List.filter_append, List.length_append, List.length_append]
    by_cases c : i = n
    · subst c
      have e1 : ((List.range i).filter fun j => !(listed.setIfInBounds i true).getD j true) = (List.range i).filter fun j => !listed.getD j true := by
        apply List.filter_congr
        intro j hj
        have : ¬ i = j := by have := List.mem_range.1 hj; omega
        simp [Array.getD_eq_getD_getElem?, this]
      rw [e1]
      have e2 : (listed.setIfInBounds i true).getD i true = true := by simp [Array.getD_eq_getD_getElem?, hl]
      rw [List.filter_cons_of_neg (by rw [e2]; decide), List.filter_cons_of_pos (by rw [h]; rfl)]
      simp
    · have := ih (by omega)
      have e2 : (listed.setIfInBounds i true).getD n true = listed.getD n true := by
        simp [Array.getD_eq_getD_getElem?, c]
      have e3 : ([n].filter fun j => !(listed.setIfInBounds i true).getD j true) = [n].filter fun j => !listed.getD j true := by
        simp only [List.filter_cons, List.filter_nil, e2]
      rw [e3]
      omega

theorem ready_spec {md : Region.Mode} {listed : Array Bool} {i : Nat} (h : i ∈ Region.ready md ops listed) :
    ∃ o, ops[i]? = some o ∧ i < ops.size ∧ listed.getD i true = false ∧ ∀ e ∈ o.after, Region.binds md e = true → listed.getD e.on false = true := by
  unfold Region.ready at h
  rw [List.mem_filter] at h
  obtain ⟨h1, h2⟩ := h
  have hlt := List.mem_range.1 h1
  simp only [Bool.and_eq_true, Bool.not_eq_true'] at h2
  obtain ⟨h2, h3⟩ := h2
  cases ho : ops[i]? with
  | none => rw [ho] at h3; cases h3
  | some o =>
    rw [ho] at h3
    simp only [Option.map_some, Option.getD_some] at h3
    refine ⟨o, rfl, hlt, h2, fun e he hb => ?_⟩
    have := Array.all_eq_true'.1 h3 e he
    simpa [hb] using this

theorem getD_ff_tt {listed : Array Bool} {i : Nat} (h : listed.getD i false = true) : listed.getD i true = true ∧ i < listed.size := by
  by_cases c : i < listed.size
  · simp [Array.getD_eq_getD_getElem?, c] at h ⊢; exact h
  · simp [Array.getD_eq_getD_getElem?, c] at h

theorem wpAny_inv (hb : backB ops = true) (hd : dstsB ops a0.tmps.size m = true) (hl : lateB ops m = true) (hm : m ≤ ops.size)
    (hV : ∀ i v w w', V i v w → T w w' → V i v w')
    (hstep : ∀ i o, i < m → ops[i]? = some o → ∀ a w, C a w → a.defers = a0.defers → (∀ k, (∀ (i : Nat) o, ops[i]? = some o → o.dst ≠ some k) → a.tmps.getD k undef = a0.tmps.getD k undef) →
      (∀ e ∈ o.after, Region.binds .any e = true → V e.on (valOf ops a e.on) w) →
      if Region.wanted o (yielded ops a.tmps) = true then o.wp P a w (fun a' w' => ∃ v, a' = a.put o.dst v ∧ V i v w' ∧ T w w' ∧ C a' w') Q ∨ (o.asks P a w ∧ LetsOut Q) else V i undef w ∧ C (a.put o.dst undef) w)
    (hTr : ∀ w, T w w)
    (hend : ∀ (vs : Nat → Value) (w : World), C (putAll (ops.toList.take m) 0 vs a0) w → (∀ i, i < m → V i (vs i) w) →
      ∀ listed : Array Bool, listed.size = ops.size → (∀ i, i < ops.size → listed.getD i true = decide (i < m)) → wpAny P .any ops Q (ops.size - m) listed (putAll (ops.toList.take m) 0 vs a0) w) :
    ∀ (n : Nat) (listed : Array Bool) (a : Act) (w : World), toCome m listed = n → InvAt ops C V a0 m listed a w → wpAny P .any ops Q (n + (ops.size - m)) listed a w := by
  intro n
  induction n with
  | zero =>
    intro listed a w hn I
    have hall : ∀ i, i < m → listed.getD i true = true := by
      intro i hi
      by_cases c : listed.getD i true = true
      · exact c
      · have hmem : i ∈ (List.range m).filter fun i => !listed.getD i true := by
          rw [List.mem_filter]; exact ⟨List.mem_range.2 hi, by simpa using c⟩
        unfold toCome at hn
        rw [List.length_eq_zero_iff.1 hn] at hmem
        cases hmem
    have hput : putAll (ops.toList.take m) 0 (fun i => valOf ops a i) a0 = a := by
      refine putAll_eq a _ _ _ a0 I.size.symm I.defers.symm ?_ ?_
      · intro j o ho d hdst
        have hj : j < m := by
          have := (List.getElem?_eq_some_iff.1 ho).1
          simp at this; omega
        have ho' : ops[j]? = some o := by
          rw [List.getElem?_take, if_pos hj] at ho
          simpa using ho
        simp [valOf, slotOf, ho', hdst]
      · intro k
        by_cases c : ∃ (i : Nat) (o : Oper), ops[i]? = some o ∧ o.dst = some k ∧ i < m
        · obtain ⟨i, o, ho, hdst, hi⟩ := c
          right
          refine ⟨o, ?_, hdst⟩
          have : (ops.toList.take m)[i]? = some o := by rw [List.getElem?_take, if_pos hi]; simpa using ho
          exact List.mem_of_getElem? this
        · left
          symm
          apply I.consts
          by_cases c2 : ∃ (i : Nat) (o : Oper), ops[i]? = some o ∧ o.dst = some k
          · obtain ⟨i, o, ho, hdst⟩ := c2
            right
            have hge : m ≤ i := by
              rcases Nat.lt_or_ge i m with h | h
              · exact absurd ⟨i, o, ho, hdst, h⟩ c
              · exact h
            have hlt : i < ops.size := (Array.getElem?_eq_some_iff.1 ho).1
            exact ⟨i, o, ho, hdst, I.late i hge hlt⟩
          · left
            intro i o ho hdst
            exact c2 ⟨i, o, ho, hdst⟩
    have he := hend (fun i => valOf ops a i) w (by rw [hput]; exact I.world) (fun i hi => I.vals i (by omega) (hall i hi)) listed I.lsize (fun i hi => by
      by_cases c : i < m
      · rw [hall i c]; simp [c]
      · rw [I.late i (by omega) hi]; simp [c])
    rw [hput] at he
    simpa using he
  | succ n ih =>
    intro listed a w hn I
    rw [show n + 1 + (ops.size - m) = (n + (ops.size - m)) + 1 by omega]
    have hpos : ∃ i, i < m ∧ listed.getD i true = false := by
      apply Classical.byContradiction
      intro hno
      have : toCome m listed = 0 := by
        unfold toCome
        rw [List.length_eq_zero_iff, List.filter_eq_nil_iff]
        intro i hi
        have hi' := List.mem_range.1 hi
        cases hv : listed.getD i true with
        | true => simp
        | false => exact absurd ⟨i, hi', hv⟩ hno
      omega
    refine ⟨fun h0 => ?_, fun i hi => ?_⟩
    · exfalso
      obtain ⟨i, ⟨him, hif⟩, hmin⟩ : ∃ i, (i < m ∧ listed.getD i true = false) ∧ ∀ j, j < i → ¬ (j < m ∧ listed.getD j true = false) := by
        obtain ⟨k, hk⟩ := hpos
        have : ∀ k, (k < m ∧ listed.getD k true = false) → ∃ i, (i < m ∧ listed.getD i true = false) ∧ ∀ j, j < i → ¬ (j < m ∧ listed.getD j true = false) := by
          intro k
          induction k using Nat.strongRecOn with
          | ind k ihk =>
            intro hk
            by_cases c : ∃ j, j < k ∧ (j < m ∧ listed.getD j true = false)
            · obtain ⟨j, hj, hj'⟩ := c
              exact ihk j hj hj'
            · exact ⟨k, hk, fun j hj hj' => c ⟨j, hj, hj'⟩⟩
        exact this k hk
      have hlt : i < ops.size := by omega
      have hmem : i ∈ Region.ready .any ops listed := by
        unfold Region.ready
        rw [List.mem_filter]
        refine ⟨List.mem_range.2 hlt, ?_⟩
        have ho : ops[i]? = some ops[i] := Array.getElem?_eq_getElem hlt
        rw [hif, ho]
        simp only [Option.map_some, Option.getD_some, Bool.not_false, Bool.true_and]
        rw [Array.all_eq_true']
        intro e he
        have hbk := List.all_eq_true.1 hb i (List.mem_range.2 hlt)
        simp only [ho] at hbk
        have hbe := Array.all_eq_true'.1 hbk e he
        cases hbn : Region.binds .any e with
        | false => rfl
        | true =>
          rw [hbn] at hbe
          have hlt' : e.on < i := by simpa using hbe
          have hn' := hmin e.on hlt'
          have hl1 : listed.getD e.on true = true := by
            cases hv : listed.getD e.on true with
            | true => rfl
            | false => exact absurd ⟨by omega, hv⟩ hn'
          have hsz : e.on < listed.size := by rw [I.lsize]; omega
          have : listed.getD e.on false = true := by
            simp [Array.getD_eq_getD_getElem?, hsz] at hl1 ⊢
            exact hl1
          rw [this]
          rfl
      rw [h0] at hmem
      cases hmem
    · obtain ⟨o, ho, hlt, hun, hdeps⟩ := ready_spec hi
      have him : i < m := by
        rcases Nat.lt_or_ge i m with h | h
        · exact h
        · exfalso
          obtain ⟨j, hj, hjf⟩ := hpos
          have h1 := List.all_eq_true.1 hl i (List.mem_range.2 hlt)
          simp only [Bool.or_eq_true, decide_eq_true_eq] at h1
          have h2 := List.all_eq_true.1 (h1.resolve_left (by omega)) j (List.mem_range.2 hj)
          have hd0 : ∀ x ∈ depsOf ops i, listed.getD x false = true := by
            intro x hx
            unfold depsOf at hx
            rw [ho] at hx
            simp only [List.mem_map, List.mem_filter] at hx
            obtain ⟨e, ⟨he, hbe⟩, rfl⟩ := hx
            exact hdeps e (by simpa using he) hbe
          have h3 := cover_listed I.down I.lsize _ _ hd0 j (List.contains_iff_mem.1 h2)
          have := (getD_ff_tt h3).1
          rw [hjf] at this
          cases this
      have hs := hstep i o him ho a w I.world I.defers (fun k hk => I.consts k (.inl hk)) (fun e he hbe => by
        have h1 := getD_ff_tt (hdeps e he hbe)
        exact I.vals e.on (by rw [← I.lsize]; exact h1.2) h1.1)
      have hli : i < listed.size := by rw [I.lsize]; exact hlt
      have key : ∀ v w', V i v w' → C (a.put o.dst v) w' → T w w' → InvAt ops C V a0 m (listed.setIfInBounds i true) (a.put o.dst v) w' := by
        intro v w' hv hc ht
        have gset : ∀ j, (listed.setIfInBounds i true).getD j true = if j = i then true else listed.getD j true := by
          intro j
          by_cases c : j = i
          · subst c; simp [Array.getD_eq_getD_getElem?, hli]
          · have : ¬ i = j := fun e => c e.symm
            simp [Array.getD_eq_getD_getElem?, this, c]
        have dd : ∀ d, o.dst = some d → d < a0.tmps.size ∧ ∀ j oj, ops[j]? = some oj → j ≠ i → oj.dst ≠ some d := by
          intro d hdst
          have h1 := List.all_eq_true.1 hd i (List.mem_range.2 hlt)
          simp only [ho, Option.bind_some, hdst, Bool.and_eq_true, decide_eq_true_eq] at h1
          refine ⟨h1.1, fun j oj hoj hji he => ?_⟩
          have h2 := List.all_eq_true.1 h1.2 j (List.mem_range.2 (Array.getElem?_eq_some_iff.1 hoj).1)
          simp only [hoj, Option.bind_some, he, Bool.or_eq_true, beq_iff_eq, bne_self_eq_false] at h2
          rcases h2 with h2 | h2
          · exact hji h2.symm
          · cases h2
        refine ⟨(put_size _ _ _).trans I.size, (put_defers _ _ _).trans I.defers, ?_, by simpa using I.lsize, ?_, hc, ?_, ?_⟩
        · intro k hk
          have hk' : o.dst ≠ some k ∧ ((∀ (i : Nat) o, ops[i]? = some o → o.dst ≠ some k) ∨ (∃ (i : Nat) (o : Oper), ops[i]? = some o ∧ o.dst = some k ∧ listed.getD i true = false)) := by
            rcases hk with hk | ⟨j, oj, hoj, hdj, hlj⟩
            · exact ⟨hk i o ho, .inl hk⟩
            · rw [gset] at hlj
              split at hlj
              · cases hlj
              · rename_i hji
                exact ⟨fun e => (dd k e).2 j oj hoj hji hdj, .inr ⟨j, oj, hoj, hdj, hlj⟩⟩
          rw [put_ne _ _ _ _ hk'.1]
          exact I.consts k hk'.2
        · intro j hj hjs
          rw [gset, if_neg (by omega)]
          exact I.late j hj hjs
        · intro j hj hlj
          rw [gset] at hlj
          by_cases c : j = i
          · subst c
            have : valOf ops (a.put o.dst v) j = v := by
              unfold valOf
              rw [ho]
              cases hdst : o.dst with
              | none =>
                have h1 := List.all_eq_true.1 hd j (List.mem_range.2 hlt)
                simp only [ho, Option.bind_some, hdst, decide_eq_true_eq] at h1
                omega
              | some d =>
                simp only [Option.bind_some, hdst, slotOf]
                rw [put_same _ _ _ (by rw [I.size]; exact (dd d hdst).1)]
            rw [this]
            exact hv
          · rw [if_neg c] at hlj
            have hv2 := hV j _ w w' (I.vals j hj hlj) ht
            have : valOf ops (a.put o.dst v) j = valOf ops a j := by
              unfold valOf
              have hoj : ops[j]? = some ops[j] := Array.getElem?_eq_getElem hj
              rw [hoj]
              cases hdst : ops[j].dst with
              | none => simp [slotOf, hdst]
              | some d =>
                simp only [Option.bind_some, hdst, slotOf]
                rw [put_ne]
                intro e
                exact (dd d e).2 j _ hoj c hdst
            rw [this]
            exact hv2
        · intro j hj hlj x hx
          have hl0 : listed.getD x false = true := by
            rw [gset] at hlj
            by_cases c : j = i
            · subst c
              unfold depsOf at hx
              rw [ho] at hx
              simp only [List.mem_map, List.mem_filter] at hx
              obtain ⟨e, ⟨he, hbe⟩, rfl⟩ := hx
              exact hdeps e (by simpa using he) hbe
            · rw [if_neg c] at hlj
              exact I.down j hj hlj x hx
          by_cases c : x = i
          · subst c; simp [Array.getD_eq_getD_getElem?, hli]
          · have c' : ¬ i = x := fun e => c e.symm
            have : (listed.setIfInBounds i true).getD x false = listed.getD x false := by simp [Array.getD_eq_getD_getElem?, c']
            rw [this]; exact hl0
      have hcount : toCome m (listed.setIfInBounds i true) = n := by
        have := toCome_set him hli hun
        omega
      unfold wpOp
      rw [ho]
      simp only
      split at hs
      · rename_i hw
        rw [if_pos hw]
        rcases hs with hs | hs
        · left
          refine Oper.wp_mono ?_ hs
          rintro a' w' ⟨v, rfl, hv, ht, hc⟩
          exact ih _ _ _ hcount (key v w' hv hc ht)
        · exact .inr hs
      · rename_i hw
        rw [if_neg hw]
        exact ih _ _ _ hcount (key undef w hs.1 hs.2 (hTr w))

/-- the region: its operations ahead of m each keep their word (V) and the frame's and world's (C); then comes what is late -/
theorem wp_region_inv {id : Nat} {w : World} (m : Nat) (C : Act → World → Prop) (T : World → World → Prop) (V : Nat → Value → World → Prop)
    (hB : (backB ops && dstsB ops a0.tmps.size m && lateB ops m && decide (m ≤ ops.size)) = true)
    (hmo : P.follows .mixedOrders = true) (hTr : ∀ w, T w w)
    (hV : ∀ i v w w', V i v w → T w w' → V i v w') (hC0 : C a0 w.drew)
    (hstep : ∀ i o, i < m → ops[i]? = some o → ∀ a w, C a w → a.defers = a0.defers → (∀ k, (∀ (i : Nat) o, ops[i]? = some o → o.dst ≠ some k) → a.tmps.getD k undef = a0.tmps.getD k undef) →
      (∀ e ∈ o.after, Region.binds .any e = true → V e.on (valOf ops a e.on) w) →
      if Region.wanted o (yielded ops a.tmps) = true then o.wp P a w (fun a' w' => ∃ v, a' = a.put o.dst v ∧ V i v w' ∧ T w w' ∧ C a' w') Q ∨ (o.asks P a w ∧ LetsOut Q) else V i undef w ∧ C (a.put o.dst undef) w)
    (hend : ∀ (vs : Nat → Value) (w : World), C (putAll (ops.toList.take m) 0 vs a0) w → (∀ i, i < m → V i (vs i) w) →
      ∀ listed : Array Bool, listed.size = ops.size → (∀ i, i < ops.size → listed.getD i true = decide (i < m)) → wpAny P .any ops Q (ops.size - m) listed (putAll (ops.toList.take m) 0 vs a0) w) :
    (Code.region id ops true).wp P Q a0 w := by
  simp only [Bool.and_eq_true, decide_eq_true_eq] at hB
  obtain ⟨⟨⟨h1, h2⟩, h3⟩, h4⟩ := hB
  refine wp_region_any hmo ?_
  have hfalse : ∀ i, i < ops.size → (Array.replicate ops.size false).getD i true = false := by
    intro i hi
    simp [Array.getD_eq_getD_getElem?, hi]
  have hcome : toCome m (Array.replicate ops.size false) = m := by
    unfold toCome
    rw [List.filter_eq_self.2]
    · simp
    · intro i hi
      have := List.mem_range.1 hi
      rw [hfalse i (by omega)]
      rfl
  have := wpAny_inv (Q := Q) (C := C) (T := T) (V := V) h1 h2 h3 h4 hV hstep hTr hend m (Array.replicate ops.size false) a0 w.drew hcome
    ⟨rfl, rfl, fun _ _ => rfl, by simp, fun i _ hi => hfalse i hi, hC0, fun i hi h => (by rw [hfalse i hi] at h; cases h), fun i hi h => by rw [hfalse i hi] at h; cases h⟩
  rw [show m + (ops.size - m) = ops.size by omega] at this
  exact this
end
end Go.Proofs.Ytlfhgmoafgjdcaa
