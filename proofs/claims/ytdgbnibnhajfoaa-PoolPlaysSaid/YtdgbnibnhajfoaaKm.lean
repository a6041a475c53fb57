/- Maps whose keys are structs of numbers: what a look-up and a store do, of whatever keys (nothing of it is of this program). -/
import Derived.Test.YtdgbnibnhajfoaaMem
import Derived.MapKept
import Derived.WideMake
import Derived.LaidEql
namespace Go.Proofs.Ytdgbnibnhajfoaa
open Go.ChangeShapes Go.WideShapes Go.ChangeAt Go.RowKit
set_option linter.unusedVariables false
set_option linter.unusedSimpArgs false

/-- what is asked of a type of keys -/
structure KeyOk (P : Program) (t : TypeId) {K : Type} [DecidableEq K] (enc : K → Value) : Prop where
  eq : ∀ (a b : K) (w : World), (Op.equal t (enc a) (enc b)).run P w = .ok (decide (a = b)) w
  check : ∀ (e : Bool) (a : K) (w : World), (Instr.checkKey e 10000 t (enc a)).run P w = .ok () w
  now : ∃ d, P.underlying t = some d ∧ ∀ (a : K) (x : Value), Instr.sameNow d (enc a) x = none
  stay : ∀ (a : K) (w : World), (Instr.keyThatStays (enc a) (enc a)).run P w = .ok (enc a) w
  inj : ∀ a b : K, enc a = enc b → a = b
/-- a map lies there that holds f k at k -/
def EMap {K : Type} (enc : K → Value) (w : World) (r : Nat) (f : K → Option Value) : Prop :=
  ∃ (es : Array MapEntry) (clock : Nat), w.heap[r]? = some (.map es clock) ∧ (∀ e ∈ es.toList, ∃ k : K, e.key = enc k ∧ f k = some e.val) ∧ (∀ k v, f k = some v → ∃ e ∈ es.toList, e.key = enc k) ∧
    ∀ (i j : Nat) (a b : MapEntry), es[i]? = some a → es[j]? = some b → a.key = b.key → i = j
section
variable {K : Type} {enc : K → Value}
theorem EMap.lt {w : World} {r : Nat} {f : K → Option Value} (h : EMap enc w r f) : r < w.heap.size := by
  obtain ⟨es, c, h, _⟩ := h
  exact (Array.getElem?_eq_some_iff.1 h).1
theorem EMap.same {w w1 : World} {r : Nat} {f : K → Option Value} (h : EMap enc w r f) (he : w1.heap[r]? = w.heap[r]?) : EMap enc w1 r f := by
  obtain ⟨es, c, h1, h2⟩ := h
  exact ⟨es, c, he.trans h1, h2⟩
theorem EMap.later {w w1 : World} {r : Nat} {f : K → Option Value} (h : EMap enc w r f) (hb : Below w.heap.size w w1) : EMap enc w1 r f := h.same (hb.block _ h.lt)
theorem EMap.grown {w w1 : World} {r : Nat} {row : Option Nat} {f : K → Option Value} (h : EMap enc w r f) (hg : w.grownBy w1 row) (hne : some r ≠ row) : EMap enc w1 r f := h.same (hg.block _ h.lt hne)
theorem EMap.new (enc : K → Value) (w : World) : EMap enc (w.alloc (.map #[] 0)) w.heap.size fun _ => none := ⟨#[], 0, heap_alloc_new w _, by simp, by simp, by simp⟩
end
def kput {K : Type} [DecidableEq K] (f : K → Option Value) (k : K) (v : Value) : K → Option Value := fun j => if j = k then some v else f j
section
variable {P : Program} {w : World} {t mt et : TypeId} {K : Type} [DecidableEq K] {enc : K → Value}
theorem findAsking_K (hK : KeyOk P t enc) (x : K) : ∀ (es : List MapEntry) (i : Nat), (∀ e ∈ es, ∃ k : K, e.key = enc k) →
    ((∀ e ∈ es, e.key ≠ enc x) ∧ (Instr.findAsking t (enc x) es i).run P w = .ok none w) ∨ ∃ j e, es[j]? = some e ∧ e.key = enc x ∧ (Instr.findAsking t (enc x) es i).run P w = .ok (some (i + j, e.val)) w
  | [], i, _ => .inl ⟨by simp, by simp [Instr.findAsking]⟩
  | e :: es, i, h => by
    obtain ⟨k, hk⟩ := h e (by simp)
    have he := hK.eq x k w
    by_cases hx : x = k
    · right
      refine ⟨0, e, rfl, by rw [hk, hx], ?_⟩
      subst hx
      simp [Instr.findAsking, hk, he, Result.andThen]
    · have hne : e.key ≠ enc x := fun q => hx (hK.inj _ _ (q.symm.trans hk))
      have st : (Instr.findAsking t (enc x) (e :: es) i).run P w = (Instr.findAsking t (enc x) es (i + 1)).run P w := by
        simp [Instr.findAsking, hk, he, hx, Result.andThen]
      rcases findAsking_K hK x es (i + 1) (fun y hy => h y (by simp [hy])) with ⟨h1, h2⟩ | ⟨j, e', h1, h2, h3⟩
      · exact .inl ⟨fun y hy => by
          rcases List.mem_cons.1 hy with rfl | hy
          · exact hne
          · exact h1 y hy, by rw [st]; exact h2⟩
      · exact .inr ⟨j + 1, e', by simpa using h1, h2, by rw [st, h3]; congr 2; simp; omega⟩
theorem findK (hK : KeyOk P t enc) (es : Array MapEntry) (f : K → Option Value) (h1 : ∀ e ∈ es.toList, ∃ k : K, e.key = enc k ∧ f k = some e.val) (h2 : ∀ k v, f k = some v → ∃ e ∈ es.toList, e.key = enc k) (x : K) :
    (f x = none ∧ (∀ e ∈ es.toList, e.key ≠ enc x) ∧ (Instr.findKey t (enc x) es.toList).run P w = .ok none w) ∨
      ∃ j e, f x = some e.val ∧ es[j]? = some e ∧ e.key = enc x ∧ (Instr.findKey t (enc x) es.toList).run P w = .ok (some (j, e.val)) w := by
  obtain ⟨d, hd, hnow⟩ := hK.now
  have hrun : (Instr.findKey t (enc x) es.toList).run P w = (Instr.findAsking t (enc x) es.toList 0).run P w := by
    cases hl : es.toList with
    | nil => simp [Instr.findKey, run_underlying hd, Instr.findNow, Instr.findAsking, Result.andThen]
    | cons e l =>
      have hn : Instr.findNow d (enc x) (e :: l) 0 = none := by simp [Instr.findNow, hnow]
      simp [Instr.findKey, run_underlying hd, hn, Result.andThen]
  rw [hrun]
  rcases findAsking_K (w := w) hK x es.toList 0 (fun e he => by obtain ⟨k, hk, _⟩ := h1 e he; exact ⟨k, hk⟩) with ⟨h3, h4⟩ | ⟨j, e, h3, h4, h5⟩
  · refine .inl ⟨?_, h3, h4⟩
    cases hf : f x with
    | none => rfl
    | some v =>
      obtain ⟨e, he, hk⟩ := h2 x v hf
      exact absurd hk (h3 e he)
  · refine .inr ⟨j, e, ?_, by simpa using h3, h4, by rw [h5, Nat.zero_add]⟩
    obtain ⟨k, hk, hf⟩ := h1 e (List.mem_of_getElem? h3)
    rw [hK.inj _ _ (h4.symm.trans hk)]; exact hf
/-- 'v, ok := m[x]' -/
theorem run_lookup_K (hK : KeyOk P t enc) (hmt : P.underlying mt = some (.map t et)) {z : Value} {i : TypeInfo} (hz : P.info? et = some i) (hz2 : i.zero = some z) {r : Nat} {f : K → Option Value} (h : EMap enc w r f) (x : K) (c : Bool) :
    (Instr.lookup mt (.map (some r)) (enc x) c).run P w = .ok (if c then .tuple #[(f x).getD z, .bool (f x).isSome] else (f x).getD z) w := by
  obtain ⟨es, clock, h1, h2, h3, h4⟩ := h
  rcases findK (w := w) hK es f h2 h3 x with ⟨h5, _, h6⟩ | ⟨j, e, h5, _, _, h6⟩
  · simp [Instr.lookup, run_underlying hmt, MapKept.run_getObj_map h1, hK.check, h6, h5, zeroValue, typeInfo, hz, hz2, Result.andThen]
  · simp [Instr.lookup, run_underlying hmt, MapKept.run_getObj_map h1, hK.check, h6, h5, Result.andThen]
/-- 'm[x] = v' -/
theorem run_update_K (hK : KeyOk P t enc) (hmt : P.underlying mt = some (.map t et)) {r : Nat} {f : K → Option Value} (h : EMap enc w r f) (x : K) (v : Value) :
    ∃ w', (Instr.mapUpdate mt (.map (some r)) (enc x) v).run P w = .ok () w' ∧ EMap enc w' r (kput f x v) ∧ w.grownBy w' (some r) := by
  have hlt := h.lt
  obtain ⟨es, clock, h1, h2, h3, h4⟩ := h
  have hg : ∀ o, w.grownBy { w with heap := w.heap.setIfInBounds r o } (some r) := fun o => ⟨rfl, rfl, rfl, by simp, fun k _ hk => by
    have : k ≠ r := fun e => hk (by rw [e])
    simp [Ne.symm this]⟩
  rcases findK (w := w) hK es f h2 h3 x with ⟨h5, h7, h6⟩ | ⟨j, e, h5, hj, hek, h6⟩
  · refine ⟨{ w with heap := w.heap.setIfInBounds r (.map (es.push { key := enc x, val := v, born := clock }) (clock + 1)) }, ?_, ?_, hg _⟩
    · simp [Instr.mapUpdate, run_underlying hmt, MapKept.run_getObj_map h1, hK.check, h6, MapKept.run_setObj_map _ h1, Result.andThen]
    · refine ⟨es.push { key := enc x, val := v, born := clock }, clock + 1, by simp [hlt], ?_, ?_, ?_⟩
      · intro e he
        simp at he
        rcases he with he | rfl
        · obtain ⟨i, hi, hf⟩ := h2 e (by simpa using he)
          refine ⟨i, hi, ?_⟩
          unfold kput
          rw [if_neg]
          · exact hf
          · intro e2; subst e2; exact h7 e (by simpa using he) hi
        · exact ⟨x, rfl, by unfold kput; rw [if_pos rfl]⟩
      · intro i u hu
        unfold kput at hu
        by_cases hx : i = x
        · subst hx; exact ⟨{ key := enc i, val := v, born := clock }, by simp, rfl⟩
        · rw [if_neg hx] at hu
          obtain ⟨e, he, hk⟩ := h3 i u hu
          exact ⟨e, by simp at he ⊢; exact .inl he, hk⟩
      · intro j k a b ha hb hab
        have key : ∀ (i : Nat) (a : MapEntry), (es.push { key := enc x, val := v, born := clock })[i]? = some a → (i < es.size ∧ es[i]? = some a) ∨ (i = es.size ∧ a.key = enc x) := by
          intro i a ha
          rw [Array.getElem?_push] at ha
          split at ha
          · right; injection ha with ha; subst ha; exact ⟨by assumption, rfl⟩
          · left; exact ⟨(Array.getElem?_eq_some_iff.1 ha).1, ha⟩
        have no : ∀ (i : Nat) (a : MapEntry), es[i]? = some a → a.key ≠ enc x := fun i a ha => h7 a (by
          obtain ⟨hi, e⟩ := Array.getElem?_eq_some_iff.1 ha
          subst e; exact Array.mem_toList_iff.2 (Array.getElem_mem hi))
        rcases key j a ha with ⟨q1, q2⟩ | ⟨q1, q2⟩ <;> rcases key k b hb with ⟨q3, q4⟩ | ⟨q3, q4⟩
        · exact h4 j k a b q2 q4 hab
        · exact absurd (hab.trans q4) (no j a q2)
        · exact absurd (hab.symm.trans q2) (no k b q4)
        · omega
  · refine ⟨{ w with heap := w.heap.setIfInBounds r (.map (es.modify j fun e => { e with key := enc x, val := v }) clock) }, ?_, ?_, hg _⟩
    · have hs := hK.stay x w
      simp [Instr.mapUpdate, run_underlying hmt, MapKept.run_getObj_map h1, hK.check, h6, hj, hek, hs, MapKept.run_setObj_map _ h1, Result.andThen]
    · have at_ : ∀ (i : Nat) (a : MapEntry), (es.modify j fun e => { e with key := enc x, val := v })[i]? = some a → (i = j ∧ a.key = enc x ∧ a.val = v) ∨ (i ≠ j ∧ es[i]? = some a) := by
        intro i a ha
        rw [Array.getElem?_modify] at ha
        by_cases hij : j = i
        · rw [if_pos hij] at ha
          subst hij
          rw [hj] at ha
          simp at ha
          subst ha
          exact .inl ⟨rfl, rfl, rfl⟩
        · rw [if_neg hij] at ha
          exact .inr ⟨fun e => hij e.symm, ha⟩
      refine ⟨es.modify j fun e => { e with key := enc x, val := v }, clock, by simp [hlt], ?_, ?_, ?_⟩
      · intro a ha
        obtain ⟨i, hi⟩ := List.mem_iff_getElem?.1 ha
        rcases at_ i a (by rw [← Array.getElem?_toList]; exact hi) with ⟨_, q1, q2⟩ | ⟨q0, q1⟩
        · exact ⟨x, q1, by unfold kput; rw [if_pos rfl, q2]⟩
        · obtain ⟨y, hy, hf⟩ := h2 a (List.mem_of_getElem? (i := i) (by simpa using q1))
          refine ⟨y, hy, ?_⟩
          unfold kput
          rw [if_neg]
          · exact hf
          · intro e2; subst e2; exact q0 (h4 i j a e q1 hj (hy.trans hek.symm))
      · intro i u hu
        unfold kput at hu
        by_cases hx : i = x
        · subst hx
          refine ⟨{ e with key := enc i, val := v }, ?_, rfl⟩
          refine List.mem_of_getElem? (i := j) ?_
          have : (es.modify j fun e => { e with key := enc i, val := v })[j]? = some { e with key := enc i, val := v } := by
            rw [Array.getElem?_modify, if_pos rfl, hj]; rfl
          rw [Array.getElem?_toList]; exact this
        · rw [if_neg hx] at hu
          obtain ⟨a, ha, hk⟩ := h3 i u hu
          obtain ⟨k, hk2⟩ := List.mem_iff_getElem?.1 ha
          have hkj : j ≠ k := by
            intro e2; subst e2
            rw [show es.toList[j]? = es[j]? by simp, hj] at hk2
            injection hk2 with hk2
            subst hk2
            rw [hek] at hk
            exact hx (hK.inj _ _ hk).symm
          refine ⟨a, List.mem_of_getElem? (i := k) ?_, hk⟩
          have : (es.modify j fun e => { e with key := enc x, val := v })[k]? = some a := by
            rw [Array.getElem?_modify, if_neg hkj, ← Array.getElem?_toList]; exact hk2
          rw [Array.getElem?_toList]; exact this
      · intro i k a b ha hb hab
        have no : ∀ (i : Nat) (a : MapEntry), i ≠ j → es[i]? = some a → a.key ≠ enc x := fun i a hi ha h => hi (h4 i j a e ha hj (h.trans hek.symm))
        rcases at_ i a ha with ⟨q1, q2, _⟩ | ⟨q1, q2⟩ <;> rcases at_ k b hb with ⟨q3, q4, _⟩ | ⟨q3, q4⟩
        · omega
        · exact absurd (hab.symm.trans q2) (no k b q3 q4)
        · exact absurd (hab.trans q4) (no i a q1 q2)
        · exact h4 i k a b q2 q4 hab
end
end Go.Proofs.Ytdgbnibnhajfoaa
