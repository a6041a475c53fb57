/- Maps whose keys are structs of numbers: what 'delete' does. -/
import Derived.Test.YtdgbnibnhajfoaaKm
namespace Go.Proofs.Ytdgbnibnhajfoaa
open Go.ChangeShapes Go.WideShapes Go.ChangeAt Go.RowKit
set_option linter.unusedVariables false
set_option linter.unusedSimpArgs false
def kdel {K : Type} [DecidableEq K] (f : K → Option Value) (k : K) : K → Option Value := fun j => if j = k then none else f j
section
variable {P : Program} {w : World} {t mt et : TypeId} {K : Type} [DecidableEq K] {enc : K → Value}
/-- 'delete(m, x)' -/
theorem run_delete_K (hK : KeyOk P t enc) (hmt : P.underlying mt = some (.map t et)) {r : Nat} {f : K → Option Value} (h : EMap enc w r f) (x : K) (ty : TypeId) :
    ∃ w', (Builtin.delete_ #[mt, t] ty #[.map (some r), enc x]).run P w = .ok (.tuple #[]) w' ∧ EMap enc w' r (kdel f x) ∧ w.grownBy w' (some r) := by
  have hlt := h.lt
  obtain ⟨es, clock, h1, h2, h3, h4⟩ := h
  have hg : ∀ o, w.grownBy { w with heap := w.heap.setIfInBounds r o } (some r) := fun o => ⟨rfl, rfl, rfl, by simp, fun k _ hk => by
    have : k ≠ r := fun e => hk (by rw [e])
    simp [Ne.symm this]⟩
  rcases findK (w := w) hK es f h2 h3 x with ⟨h5, h7, h6⟩ | ⟨j, e, h5, hj, hek, h6⟩
  · refine ⟨{ w with heap := w.heap.setIfInBounds r (.map es clock) }, ?_, ?_, hg _⟩
    · simp [Builtin.delete_, run_underlying hmt, MapKept.run_getObj_map h1, hK.check, h6, MapKept.run_setObj_map _ h1, Result.andThen]
    · refine ⟨es, clock, by simp [hlt], fun e he => ?_, fun k v hk => ?_, h4⟩
      · obtain ⟨k, hk, hf⟩ := h2 e he
        refine ⟨k, hk, ?_⟩
        unfold kdel
        rw [if_neg (fun e2 => h7 e he (by rw [hk, e2]))]
        exact hf
      · unfold kdel at hk
        split at hk
        · cases hk
        · exact h3 k v hk
  · refine ⟨{ w with heap := w.heap.setIfInBounds r (.map (es.eraseIdxIfInBounds j) clock) }, ?_, ?_, hg _⟩
    · simp [Builtin.delete_, run_underlying hmt, MapKept.run_getObj_map h1, hK.check, h6, MapKept.run_setObj_map _ h1, Result.andThen]
    · have hjs : j < es.size := (Array.getElem?_eq_some_iff.1 hj).1
      have hsub : (es.eraseIdxIfInBounds j).toList = es.toList.eraseIdx j := by
        unfold Array.eraseIdxIfInBounds
        rw [dif_pos hjs]
        simp
      have hget : ∀ i : Nat, (es.eraseIdxIfInBounds j)[i]? = if i < j then es[i]? else es[i + 1]? := fun i => by
        rw [← Array.getElem?_toList, hsub, List.getElem?_eraseIdx]
        simp
      have no : ∀ (i : Nat) (a : MapEntry), i ≠ j → es[i]? = some a → a.key ≠ enc x := fun i a hi ha hk => hi (h4 i j a e ha hj (hk.trans hek.symm))
      refine ⟨es.eraseIdxIfInBounds j, clock, by simp [hlt], fun a ha => ?_, fun k v hk => ?_, fun i k a b ha hb hab => ?_⟩
      · obtain ⟨i, hi⟩ := List.mem_iff_getElem?.1 ha
        rw [Array.getElem?_toList, hget] at hi
        have hex : ∃ i', i' ≠ j ∧ es[i']? = some a := by
          split at hi
          · exact ⟨i, by omega, hi⟩
          · exact ⟨i + 1, by omega, hi⟩
        obtain ⟨i', hi', ha'⟩ := hex
        obtain ⟨k, hk, hf⟩ := h2 a (List.mem_of_getElem? (i := i') (by rw [Array.getElem?_toList]; exact ha'))
        refine ⟨k, hk, ?_⟩
        unfold kdel
        rw [if_neg (fun e2 => no i' a hi' ha' (by rw [hk, e2]))]
        exact hf
      · unfold kdel at hk
        split at hk
        · cases hk
        · rename_i hne
          obtain ⟨a, ha, hak⟩ := h3 k v hk
          obtain ⟨i, hi⟩ := List.mem_iff_getElem?.1 ha
          rw [Array.getElem?_toList] at hi
          have hij : i ≠ j := fun e2 => by
            subst e2
            rw [hj] at hi
            injection hi with hi
            subst hi
            exact hne (hK.inj _ _ (hak.symm.trans hek))
          refine ⟨a, ?_, hak⟩
          by_cases hlt2 : i < j
          · exact List.mem_of_getElem? (i := i) (by rw [Array.getElem?_toList, hget, if_pos hlt2]; exact hi)
          · refine List.mem_of_getElem? (i := i - 1) ?_
            rw [Array.getElem?_toList, hget, if_neg (by omega), show i - 1 + 1 = i by omega]; exact hi
      · rw [hget] at ha hb
        have ha' : ∃ i', es[i']? = some a ∧ i' = (if i < j then i else i + 1) := by split at ha <;> exact ⟨_, ha, by simp [*]⟩
        have hb' : ∃ i', es[i']? = some b ∧ i' = (if k < j then k else k + 1) := by split at hb <;> exact ⟨_, hb, by simp [*]⟩
        obtain ⟨i', q1, q2⟩ := ha'
        obtain ⟨k', q3, q4⟩ := hb'
        have := h4 i' k' a b q1 q3 hab
        split at q2 <;> split at q4 <;> omega
end
end Go.Proofs.Ytdgbnibnhajfoaa
