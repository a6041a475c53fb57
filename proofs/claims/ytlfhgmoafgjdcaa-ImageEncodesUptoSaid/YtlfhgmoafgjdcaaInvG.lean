/- (as XInvV, for texts that need nothing of values) The invariants of a drawn region as a list of words, one an operation; the steps by which a word is shown. -/
import Derived.Test.YtlfhgmoafgjdcaaInv
import Derived.Test.YtlfhgmoafgjdcaaMem
namespace Go.Proofs.Ytlfhgmoafgjdcaa.G
open Go.ChangeShapes Go.WideShapes Go.ChangeAt Go.RowKit

/-- words: it is this value; it is a list that reads so; nothing is said -/
def isW (x : Value) : Value → World → Prop := fun v _ => v = x
def anyW : Value → World → Prop := fun _ _ => True
def MonoW (W : Value → World → Prop) : Prop := ∀ v w w', W v w → Below w.heap.size w w' → W v w'
theorem is_mono (x : Value) : MonoW (isW x) := fun _ _ _ h _ => h
theorem any_mono : MonoW anyW := fun _ _ _ _ _ => trivial
def monoL : List (Value → World → Prop) → Prop
  | [] => True
  | W :: Ws => MonoW W ∧ monoL Ws
theorem monoL_nil : monoL [] := trivial
theorem monoL_cons {W : Value → World → Prop} {Ws : List (Value → World → Prop)} (h : MonoW W) (hs : monoL Ws) : monoL (W :: Ws) := ⟨h, hs⟩
theorem monoL_at : ∀ (l : List (Value → World → Prop)) (i : Nat), monoL l → MonoW (l.getD i anyW)
  | [], i, _ => by simpa using any_mono
  | W :: Ws, 0, h => h.1
  | W :: Ws, i + 1, h => monoL_at Ws i h.2
def holdsL (vs : Nat → Value) (w : World) : List (Value → World → Prop) → Nat → Prop
  | [], _ => True
  | W :: Ws, i => W (vs i) w ∧ holdsL vs w Ws (i + 1)
theorem holdsL_of (vs : Nat → Value) (w : World) : ∀ (l : List (Value → World → Prop)) (i : Nat), (∀ j, j < l.length → (l.getD j anyW) (vs (i + j)) w) → holdsL vs w l i
  | [], _, _ => trivial
  | W :: Ws, i, h => ⟨h 0 (by simp), holdsL_of vs w Ws (i + 1) fun j hj => by
      have := h (j + 1) (by simp; omega)
      rw [show i + 1 + j = i + (j + 1) by omega]
      exact this⟩

section
variable {P : Program} {ops : Array Oper} {Q : Exit → Act → World → Prop} {C : World → Prop} {D : Act → World → Prop} {words : List (Value → World → Prop)} {a0 : Act}

/-- what is to be shown of an operation that comes up at frame a, world w -/
def StepAt (P : Program) (ops : Array Oper) (Q : Exit → Act → World → Prop) (C : World → Prop) (D : Act → World → Prop) (words : List (Value → World → Prop)) (i : Nat) (o : Oper) (a : Act) (w : World) : Prop :=
  if Region.wanted o (yielded ops a.tmps) = true then o.wp P a w (fun a' w' => ∃ v, a' = a.put o.dst v ∧ (words.getD i anyW) v w' ∧ Below w.heap.size w w' ∧ C w' ∧ D a' w') Q ∨ (o.asks P a w ∧ LetsOut Q) else (words.getD i anyW) undef w ∧ C w ∧ D (a.put o.dst undef) w

def StepI (P : Program) (ops : Array Oper) (Q : Exit → Act → World → Prop) (C : World → Prop) (D : Act → World → Prop) (words : List (Value → World → Prop)) (a0 : Act) (i : Nat) (o : Oper) : Prop :=
  ∀ (a : Act) (w : World), C w → D a w → a.defers = a0.defers → (∀ k, (ops.all fun o => o.dst != some k) = true → (a.tmps[k]?).getD undef = (a0.tmps[k]?).getD undef) →
    (∀ e ∈ o.after, Region.binds .any e = true → (words.getD e.on anyW) ((((ops[e.on]?).bind (·.dst)).bind fun d => a.tmps[d]?).getD undef) w) → StepAt P ops Q C D words i o a w

def stepsL (P : Program) (ops : Array Oper) (Q : Exit → Act → World → Prop) (C : World → Prop) (D : Act → World → Prop) (words : List (Value → World → Prop)) (a0 : Act) : List Oper → Nat → Prop
  | [], _ => True
  | o :: os, i => StepI P ops Q C D words a0 i o ∧ stepsL P ops Q C D words a0 os (i + 1)
theorem stepsL_nil {i : Nat} : stepsL P ops Q C D words a0 [] i := trivial
theorem stepsL_cons {o : Oper} {os : List Oper} {i : Nat} (h : StepI P ops Q C D words a0 i o) (hs : stepsL P ops Q C D words a0 os (i + 1)) : stepsL P ops Q C D words a0 (o :: os) i := ⟨h, hs⟩
theorem stepsL_at : ∀ (l : List Oper) (i : Nat), stepsL P ops Q C D words a0 l i → ∀ j o, l[j]? = some o → StepI P ops Q C D words a0 (i + j) o
  | [], _, _, j, o, h => by simp at h
  | o' :: os, i, hs, 0, o, h => by simp at h; subst h; exact hs.1
  | o' :: os, i, hs, j + 1, o, h => by
    have := stepsL_at os (i + 1) hs.2 j o (by simpa using h)
    rw [show i + (j + 1) = i + 1 + j by omega]
    exact this

theorem wanted_plain {o : Oper} {y : Nat → Option Bool} (h : o.guard = none) : Region.wanted o y = true := by simp [Region.wanted, h]
theorem wanted_guard {o : Oper} {a : Act} {j : Nat} {b c : Bool} (h : o.guard = some (j, b)) (hv : (((ops[j]?).bind (·.dst)).bind fun d => a.tmps[d]?).getD undef = .bool c) : Region.wanted o (yielded ops a.tmps) = (c == b) := by
  have : yielded ops a.tmps j = some c := by
    unfold yielded
    cases hx : ((ops[j]?).bind (·.dst)).bind fun d => a.tmps[d]? with
    | none => rw [hx] at hv; cases hv
    | some x => rw [hx] at hv; simp at hv; subst hv; rfl
  simp [Region.wanted, h, this]

theorem wanted_undef {o : Oper} {a : Act} {j : Nat} {b : Bool} (h : o.guard = some (j, b)) (hv : (((ops[j]?).bind (·.dst)).bind fun d => a.tmps[d]?).getD undef = undef) : Region.wanted o (yielded ops a.tmps) = false := by
  have : yielded ops a.tmps j = none := by
    unfold yielded
    cases hx : ((ops[j]?).bind (·.dst)).bind fun d => a.tmps[d]? with
    | none => rfl
    | some x => rw [hx] at hv; simp at hv; subst hv; rfl
  simp [Region.wanted, h, this]

/-- C is kept by what only makes memory; D by every put but those into its own slots -/
def KeepsC (C : World → Prop) : Prop := ∀ w w', C w → Below w.heap.size w w' → C w'
def KeepsD (D : Act → World → Prop) (L : List Nat) : Prop := ∀ (a : Act) (d : Option Tmp) (v : Value) (w w' : World), D a w → Below w.heap.size w w' → (L.all fun k => d != some k) = true → D (a.put d v) w'
theorem keepsD_true (L : List Nat) : KeepsD (fun _ _ => True) L := fun _ _ _ _ _ _ _ _ => trivial

theorem step_val {i : Nat} {o : Oper} {a : Act} {w : World} {L : List Nat} (hKC : KeepsC C) (hKD : KeepsD D L) (hc : C w) (hdd : D a w) (hL : (L.all fun k => o.dst != some k) = true) (v : Value) (w' : World) (hw : Region.wanted o (yielded ops a.tmps) = true) (hr : (execOp a.eval o).run P w = .ok (.value v) w')
    (hV : (words.getD i anyW) v w') (hT : Below w.heap.size w w') : StepAt P ops Q C D words i o a w := by
  unfold StepAt
  rw [if_pos hw]
  left
  unfold Oper.wp
  rw [hr]
  exact ⟨v, rfl, hV, hT, hKC _ _ hc hT, hKD _ _ _ _ _ hdd hT hL⟩
/-- as step_val, where D is shown by hand -/
theorem step_valD {i : Nat} {o : Oper} {a : Act} {w : World} (hKC : KeepsC C) (hc : C w) (v : Value) (w' : World) (hw : Region.wanted o (yielded ops a.tmps) = true) (hr : (execOp a.eval o).run P w = .ok (.value v) w')
    (hV : (words.getD i anyW) v w') (hT : Below w.heap.size w w') (hD : D (a.put o.dst v) w') : StepAt P ops Q C D words i o a w := by
  unfold StepAt
  rw [if_pos hw]
  left
  unfold Oper.wp
  rw [hr]
  exact ⟨v, rfl, hV, hT, hKC _ _ hc hT, hD⟩
theorem step_call {i : Nat} {o : Oper} {a : Act} {w : World} {L : List Nat} (hKC : KeepsC C) (hKD : KeepsD D L) (hc : C w) (hdd : D a w) (hL : (L.all fun k => o.dst != some k) = true) (f : FuncId) (args : Array Value) (hw : Region.wanted o (yielded ops a.tmps) = true) (hr : (execOp a.eval o).run P w = .ok (.enter f args) w)
    (hcl : Calls P f args w fun e w' => ∃ v, e = .returned v ∧ (words.getD i anyW) v w' ∧ Below w.heap.size w w') : StepAt P ops Q C D words i o a w := by
  unfold StepAt
  rw [if_pos hw]
  left
  unfold Oper.wp
  rw [hr]
  refine hcl.mono ?_
  rintro e w' ⟨v, rfl, hV, hT⟩
  exact ⟨v, rfl, hV, hT, hKC _ _ hc hT, hKD _ _ _ _ _ hdd hT hL⟩
theorem step_skip {i : Nat} {o : Oper} {a : Act} {w : World} {L : List Nat} (hKD : KeepsD D L) (hc : C w) (hdd : D a w) (hL : (L.all fun k => o.dst != some k) = true) (hw : Region.wanted o (yielded ops a.tmps) = false) (hV : (words.getD i anyW) undef w) : StepAt P ops Q C D words i o a w := by
  unfold StepAt
  rw [if_neg (by rw [hw]; decide)]
  exact ⟨hV, hc, hKD _ _ _ _ _ hdd (Below.refl _ _) hL⟩

theorem valOf_eq (a : Act) (i : Nat) : valOf ops a i = (((ops[i]?).bind (·.dst)).bind fun d => a.tmps[d]?).getD undef := by
  unfold valOf slotOf
  cases (ops[i]?).bind (·.dst) with
  | none => rfl
  | some d => simp [Array.getD_eq_getD_getElem?]

theorem nothing_ready {listed : Array Bool} (hl : ∀ i, i < ops.size → listed.getD i true = decide (i < ops.size)) : Region.ready .any ops listed = [] := by
  apply List.eq_nil_iff_forall_not_mem.2
  intro i hi
  obtain ⟨o, ho, hlt, hun, _⟩ := ready_spec hi
  rw [hl i hlt] at hun
  simp [hlt] at hun

theorem listed_eq {listed : Array Bool} {n m : Nat} (hs : listed.size = n) (hl : ∀ i, i < n → listed.getD i true = decide (i < m)) : listed = ((List.range n).map fun i => decide (i < m)).toArray := by
  apply Array.ext (by simp [hs])
  intro i h1 h2
  have := hl i (by omega)
  simpa [Array.getD_eq_getD_getElem?, h1] using this

/-- the general form: D speaks of the frame too; what is late (from m on) comes at the end -/
theorem region_wordsG {id : Nat} {w : World} (m : Nat) (C : World → Prop) (D : Act → World → Prop) (words : List (Value → World → Prop)) (hlen : (words.length == m) = true) (hW : monoL words)
    (hB : (backB ops && dstsB ops a0.tmps.size m && lateB ops m && decide (m ≤ ops.size)) = true)
    (hmo : P.follows .mixedOrders = true) (hC0 : C w.drew) (hD0 : D a0 w.drew)
    (hsteps : stepsL P ops Q C D words a0 (ops.toList.take m) 0)
    (hend : ∀ (vs : Nat → Value) (w : World), C w → D (putAll (ops.toList.take m) 0 vs a0) w → holdsL vs w words 0 →
      wpAny P .any ops Q (ops.size - m) ((List.range ops.size).map fun i => decide (i < m)).toArray (putAll (ops.toList.take m) 0 vs a0) w) :
    (Code.region id ops true).wp P Q a0 w := by
  have hl : words.length = m := by simpa using hlen
  refine wp_region_inv m (fun a w => C w ∧ D a w) (fun w w' => Below w.heap.size w w') (fun i v w => (words.getD i anyW) v w) hB hmo (fun w => Below.refl _ _)
    (fun i v w w' hv hb => monoL_at words i hW v w w' hv hb) ⟨hC0, hD0⟩ ?_ fun vs w hc hv listed hs hlv => by
      rw [listed_eq hs hlv]
      exact hend vs w hc.1 hc.2 (holdsL_of vs w words 0 fun j hj => by
        rw [Nat.zero_add]; exact hv j (by omega))
  intro i o hi ho a w hc hd hk hdep
  have := stepsL_at (ops.toList.take m) 0 hsteps i o (by rw [List.getElem?_take, if_pos hi]; simpa using ho) a w hc.1 hc.2 hd ?_ ?_
  · rw [Nat.zero_add] at this
    exact this
  · intro k hall
    have := hk k fun j oj hoj e => by
      have h1 := Array.all_eq_true'.1 hall oj (Array.mem_of_getElem? hoj)
      rw [e] at h1
      simp at h1
    simpa [Array.getD_eq_getD_getElem?] using this
  · intro e he hb
    rw [← valOf_eq]
    exact hdep e he hb

theorem region_words {id : Nat} {w : World} (C : World → Prop) (words : List (Value → World → Prop)) (hlen : (words.length == ops.size) = true) (hW : monoL words)
    (hB : (backB ops && dstsB ops a0.tmps.size ops.size && lateB ops ops.size && decide (ops.size ≤ ops.size)) = true)
    (hmo : P.follows .mixedOrders = true) (hC : KeepsC C) (hC0 : C w.drew)
    (hsteps : KeepsC C → stepsL P ops Q C (fun _ _ => True) words a0 ops.toList 0)
    (hend : ∀ (vs : Nat → Value) (w : World), C w → holdsL vs w words 0 → Q .normal (putAll ops.toList 0 vs a0) w) :
    (Code.region id ops true).wp P Q a0 w := by
  have ht : ops.toList.take ops.size = ops.toList := List.take_of_length_le (by simp)
  refine region_wordsG ops.size C (fun _ _ => True) words hlen hW hB hmo hC0 trivial (by rw [ht]; exact hsteps hC) fun vs w hc _ hv => ?_
  rw [Nat.sub_self, ht]
  refine ⟨nothing_ready fun i hi => ?_, hend vs w hc hv⟩
  simp [Array.getD_eq_getD_getElem?, hi]
end
end Go.Proofs.Ytlfhgmoafgjdcaa.G
