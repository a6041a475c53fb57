/- Maps whose keys are ints: what a look-up and a store do, of whatever keys (nothing of it is of this program). -/
import Derived.Test.YtdgbnibnhajfoaaMem
import Derived.MapKept
import Derived.WideMake
namespace Go.Proofs.Ytdgbnibnhajfoaa
open Go.ChangeShapes Go.WideShapes Go.ChangeAt Go.RowKit
set_option linter.unusedVariables false
set_option linter.unusedSimpArgs false

/-- a map lies there that holds f i at i -/
def IMap (w : World) (r : Nat) (f : Int → Option Value) : Prop :=
  ∃ (es : Array MapEntry) (clock : Nat), w.heap[r]? = some (.map es clock) ∧ (∀ e ∈ es.toList, ∃ i : Int, e.key = .int .i64 i ∧ f i = some e.val) ∧ (∀ i v, f i = some v → ∃ e ∈ es.toList, e.key = .int .i64 i) ∧
    ∀ (j k : Nat) (a b : MapEntry), es[j]? = some a → es[k]? = some b → a.key = b.key → j = k
theorem IMap.lt {w : World} {r : Nat} {f : Int → Option Value} (h : IMap w r f) : r < w.heap.size := by
  obtain ⟨es, c, h, _⟩ := h
  exact (Array.getElem?_eq_some_iff.1 h).1
theorem IMap.same {w w1 : World} {r : Nat} {f : Int → Option Value} (h : IMap w r f) (he : w1.heap[r]? = w.heap[r]?) : IMap w1 r f := by
  obtain ⟨es, c, h1, h2⟩ := h
  exact ⟨es, c, he.trans h1, h2⟩
theorem IMap.later {w w1 : World} {r : Nat} {f : Int → Option Value} (h : IMap w r f) (hb : Below w.heap.size w w1) : IMap w1 r f := h.same (hb.block _ h.lt)
theorem IMap.grown {w w1 : World} {r : Nat} {row : Option Nat} {f : Int → Option Value} (h : IMap w r f) (hg : w.grownBy w1 row) (hne : some r ≠ row) : IMap w1 r f := h.same (hg.block _ h.lt hne)
theorem IMap.new (w : World) : IMap (w.alloc (.map #[] 0)) w.heap.size fun _ => none := ⟨#[], 0, heap_alloc_new w _, by simp, by simp, by simp⟩
def iput (f : Int → Option Value) (i : Int) (v : Value) : Int → Option Value := fun j => if j = i then some v else f j
section
variable {P : Program} {w : World} {t mt et : TypeId}
theorem findI (ht : P.underlying t = some (.int .i64)) (es : Array MapEntry) (f : Int → Option Value) (h1 : ∀ e ∈ es.toList, ∃ i : Int, e.key = .int .i64 i ∧ f i = some e.val) (h2 : ∀ i v, f i = some v → ∃ e ∈ es.toList, e.key = .int .i64 i) (x : Int) :
    (f x = none ∧ (∀ e ∈ es.toList, e.key ≠ .int .i64 x) ∧ (Instr.findKey t (.int .i64 x) es.toList).run P w = .ok none w) ∨
      ∃ j e, f x = some e.val ∧ es[j]? = some e ∧ e.key = .int .i64 x ∧ (Instr.findKey t (.int .i64 x) es.toList).run P w = .ok (some (j, e.val)) w := by
  have hk : MapKept.IsKey (.int .i64) (.int .i64 x) := rfl
  rcases MapKept.findNow_spec hk es.toList 0 (fun e he => by obtain ⟨i, hi, _⟩ := h1 e he; rw [hi]; rfl) with ⟨h3, h4⟩ | ⟨j, e, h3, h4, h5⟩
  · refine .inl ⟨?_, h4, MapKept.run_findKey ht h3⟩
    cases hf : f x with
    | none => rfl
    | some v =>
      obtain ⟨e, he, hk⟩ := h2 x v hf
      exact absurd hk (h4 e he)
  · refine .inr ⟨j, e, ?_, by simpa using h4, h5, by have := MapKept.run_findKey (P := P) (w := w) ht h3; simpa using this⟩
    obtain ⟨i, hi, hf⟩ := h1 e (List.mem_of_getElem? h4)
    rw [h5] at hi
    injection hi with _ hi
    rw [hi]; exact hf
/-- 'm[x]' -/
theorem run_lookup_I (hmt : P.underlying mt = some (.map t et)) (ht : P.underlying t = some (.int .i64)) {z : Value} {i : TypeInfo} (hz : P.info? et = some i) (hz2 : i.zero = some z) {r : Nat} {f : Int → Option Value} (h : IMap w r f) (x : Int) :
    (Instr.lookup mt (.map (some r)) (.int .i64 x) false).run P w = .ok ((f x).getD z) w := by
  obtain ⟨es, clock, h1, h2, h3, h4⟩ := h
  have hc : ∀ b, (Instr.checkKey b 10000 t (.int .i64 x)).run P w = .ok () w := fun b => MapKept.run_checkKey (d := .int .i64) ht (show MapKept.IsKey (.int .i64) (.int .i64 x) from rfl) b 9999
  rcases findI (P := P) (w := w) ht es f h2 h3 x with ⟨h5, _, h6⟩ | ⟨j, e, h5, _, _, h6⟩
  · simp [Instr.lookup, run_underlying hmt, MapKept.run_getObj_map h1, hc, h6, h5, zeroValue, typeInfo, hz, hz2, Result.andThen]
  · simp [Instr.lookup, run_underlying hmt, MapKept.run_getObj_map h1, hc, h6, h5, Result.andThen]
/-- 'm[x] = v' -/
theorem run_update_I (hmt : P.underlying mt = some (.map t et)) (ht : P.underlying t = some (.int .i64)) {r : Nat} {f : Int → Option Value} (h : IMap w r f) (x : Int) (v : Value) :
    ∃ w', (Instr.mapUpdate mt (.map (some r)) (.int .i64 x) v).run P w = .ok () w' ∧ IMap w' r (iput f x v) ∧ w.grownBy w' (some r) := by
  have hlt := h.lt
  obtain ⟨es, clock, h1, h2, h3, h4⟩ := h
  have hc : ∀ b, (Instr.checkKey b 10000 t (.int .i64 x)).run P w = .ok () w := fun b => MapKept.run_checkKey (d := .int .i64) ht (show MapKept.IsKey (.int .i64) (.int .i64 x) from rfl) b 9999
  have hg : ∀ o, w.grownBy { w with heap := w.heap.setIfInBounds r o } (some r) := fun o => ⟨rfl, rfl, rfl, by simp, fun k _ hk => by
    have : k ≠ r := fun e => hk (by rw [e])
    simp [Ne.symm this]⟩
  rcases findI (P := P) (w := w) ht es f h2 h3 x with ⟨h5, h7, h6⟩ | ⟨j, e, h5, hj, hek, h6⟩
  · refine ⟨{ w with heap := w.heap.setIfInBounds r (.map (es.push { key := .int .i64 x, val := v, born := clock }) (clock + 1)) }, ?_, ?_, hg _⟩
    · simp [Instr.mapUpdate, run_underlying hmt, MapKept.run_getObj_map h1, hc, h6, MapKept.run_setObj_map _ h1, Result.andThen]
    · refine ⟨es.push { key := .int .i64 x, val := v, born := clock }, clock + 1, by simp [hlt], ?_, ?_, ?_⟩
      · intro e he
        simp at he
        rcases he with he | rfl
        · obtain ⟨i, hi, hf⟩ := h2 e (by simpa using he)
          refine ⟨i, hi, ?_⟩
          unfold iput
          rw [if_neg]
          · exact hf
          · intro e2; subst e2; exact h7 e (by simpa using he) hi
        · exact ⟨x, rfl, by unfold iput; rw [if_pos rfl]⟩
      · intro i u hu
        unfold iput at hu
        by_cases hx : i = x
        · subst hx; exact ⟨{ key := .int .i64 i, val := v, born := clock }, by simp, rfl⟩
        · rw [if_neg hx] at hu
          obtain ⟨e, he, hk⟩ := h3 i u hu
          exact ⟨e, by simp at he ⊢; exact .inl he, hk⟩
      · intro j k a b ha hb hab
        have key : ∀ (i : Nat) (a : MapEntry), (es.push { key := .int .i64 x, val := v, born := clock })[i]? = some a → (i < es.size ∧ es[i]? = some a) ∨ (i = es.size ∧ a.key = .int .i64 x) := by
          intro i a ha
          rw [Array.getElem?_push] at ha
          split at ha
          · right; injection ha with ha; subst ha; exact ⟨by assumption, rfl⟩
          · left; exact ⟨(Array.getElem?_eq_some_iff.1 ha).1, ha⟩
        have no : ∀ (i : Nat) (a : MapEntry), es[i]? = some a → a.key ≠ .int .i64 x := fun i a ha => h7 a (by
          obtain ⟨hi, e⟩ := Array.getElem?_eq_some_iff.1 ha
          subst e; exact Array.mem_toList_iff.2 (Array.getElem_mem hi))
        rcases key j a ha with ⟨q1, q2⟩ | ⟨q1, q2⟩ <;> rcases key k b hb with ⟨q3, q4⟩ | ⟨q3, q4⟩
        · exact h4 j k a b q2 q4 hab
        · exact absurd (hab.trans q4) (no j a q2)
        · exact absurd (hab.symm.trans q2) (no k b q4)
        · omega
  · refine ⟨{ w with heap := w.heap.setIfInBounds r (.map (es.modify j fun e => { e with key := .int .i64 x, val := v }) clock) }, ?_, ?_, hg _⟩
    · have hs : (Instr.keyThatStays (.int .i64 x) (.int .i64 x)).run P w = .ok (.int .i64 x) w := MapKept.run_keyThatStays (d := .int .i64) (show MapKept.IsKey (.int .i64) (.int .i64 x) from rfl)
      simp [Instr.mapUpdate, run_underlying hmt, MapKept.run_getObj_map h1, hc, h6, hj, hek, hs, MapKept.run_setObj_map _ h1, Result.andThen]
    · have at_ : ∀ (i : Nat) (a : MapEntry), (es.modify j fun e => { e with key := .int .i64 x, val := v })[i]? = some a → (i = j ∧ a.key = .int .i64 x ∧ a.val = v) ∨ (i ≠ j ∧ es[i]? = some a) := by
        intro i a ha
        rw [Array.getElem?_modify] at ha
        by_cases hij : j = i
        · rw [if_pos hij] at ha
          subst hij
          rw [hj] at ha
          simp at ha
          subst ha
          exact .inl ⟨rfl, rfl, rfl⟩
        · rw [if_neg hij] at ha
          exact .inr ⟨fun e => hij e.symm, ha⟩
      refine ⟨es.modify j fun e => { e with key := .int .i64 x, val := v }, clock, by simp [hlt], ?_, ?_, ?_⟩
      · intro a ha
        obtain ⟨i, hi⟩ := List.mem_iff_getElem?.1 ha
        rcases at_ i a (by rw [← Array.getElem?_toList]; exact hi) with ⟨_, q1, q2⟩ | ⟨q0, q1⟩
        · exact ⟨x, q1, by unfold iput; rw [if_pos rfl, q2]⟩
        · obtain ⟨y, hy, hf⟩ := h2 a (List.mem_of_getElem? (i := i) (by simpa using q1))
          refine ⟨y, hy, ?_⟩
          unfold iput
          rw [if_neg]
          · exact hf
          · intro e2; subst e2; exact q0 (h4 i j a e q1 hj (hy.trans hek.symm))
      · intro i u hu
        unfold iput at hu
        by_cases hx : i = x
        · subst hx
          refine ⟨{ e with key := .int .i64 i, val := v }, ?_, rfl⟩
          refine List.mem_of_getElem? (i := j) ?_
          have : (es.modify j fun e => { e with key := .int .i64 i, val := v })[j]? = some { e with key := .int .i64 i, val := v } := by
            rw [Array.getElem?_modify, if_pos rfl, hj]; rfl
          rw [Array.getElem?_toList]; exact this
        · rw [if_neg hx] at hu
          obtain ⟨a, ha, hk⟩ := h3 i u hu
          obtain ⟨k, hk2⟩ := List.mem_iff_getElem?.1 ha
          have hkj : j ≠ k := by
            intro e2; subst e2
            rw [show es.toList[j]? = es[j]? by simp, hj] at hk2
            injection hk2 with hk2
            subst hk2
            rw [hek] at hk
            injection hk with _ hk
            exact hx hk.symm
          refine ⟨a, List.mem_of_getElem? (i := k) ?_, hk⟩
          have : (es.modify j fun e => { e with key := .int .i64 x, val := v })[k]? = some a := by
            rw [Array.getElem?_modify, if_neg hkj, ← Array.getElem?_toList]; exact hk2
          rw [Array.getElem?_toList]; exact this
      · intro i k a b ha hb hab
        have no : ∀ (i : Nat) (a : MapEntry), i ≠ j → es[i]? = some a → a.key ≠ .int .i64 x := fun i a hi ha h => hi (h4 i j a e ha hj (h.trans hek.symm))
        rcases at_ i a ha with ⟨q1, q2, _⟩ | ⟨q1, q2⟩ <;> rcases at_ k b hb with ⟨q3, q4, _⟩ | ⟨q3, q4⟩
        · omega
        · exact absurd (hab.symm.trans q2) (no k b q3 q4)
        · exact absurd (hab.trans q4) (no i a q1 q2)
        · exact h4 i k a b q2 q4 hab
end
end Go.Proofs.Ytdgbnibnhajfoaa
