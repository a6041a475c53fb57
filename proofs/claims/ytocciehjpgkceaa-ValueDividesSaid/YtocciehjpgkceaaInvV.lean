/- The invariants of a drawn region as a list of words, one an operation; the steps by which a word is shown. -/
import Derived.Test.YtocciehjpgkceaaInv
import Derived.Test.YtocciehjpgkceaaRow
namespace Go.Proofs.Ytocciehjpgkceaa
open Go.ChangeShapes Go.WideShapes Go.ChangeAt Go.RowKit Go.Fl

/-- words: it is this value; it is a list that reads so; nothing is said -/
def isW (x : Value) : Value → World → Prop := fun v _ => v = x
def rowW (vs : List (Int × Nat)) : Value → World → Prop := fun v w => ∃ A cap, v = .slice A vs.length cap ∧ RowV w A vs.length vs
def anyW : Value → World → Prop := fun _ _ => True
def MonoW (W : Value → World → Prop) : Prop := ∀ v w w', W v w → Below w.heap.size w w' → W v w'
theorem is_mono (x : Value) : MonoW (isW x) := fun _ _ _ h _ => h
theorem any_mono : MonoW anyW := fun _ _ _ _ _ => trivial
theorem row_mono (vs : List (Int × Nat)) : MonoW (rowW vs) := fun _ _ _ ⟨A, cap, e, h⟩ hb => ⟨A, cap, e, h.later hb⟩
def monoL : List (Value → World → Prop) → Prop
  | [] => True
  | W :: Ws => MonoW W ∧ monoL Ws
theorem monoL_nil : monoL [] := trivial
theorem monoL_cons {W : Value → World → Prop} {Ws : List (Value → World → Prop)} (h : MonoW W) (hs : monoL Ws) : monoL (W :: Ws) := ⟨h, hs⟩
theorem monoL_at : ∀ (l : List (Value → World → Prop)) (i : Nat), monoL l → MonoW (l.getD i anyW)
  | [], i, _ => by simpa using any_mono
  | W :: Ws, 0, h => h.1
  | W :: Ws, i + 1, h => monoL_at Ws i h.2
def holdsL (vs : Nat → Value) (w : World) : List (Value → World → Prop) → Nat → Prop
  | [], _ => True
  | W :: Ws, i => W (vs i) w ∧ holdsL vs w Ws (i + 1)
theorem holdsL_of (vs : Nat → Value) (w : World) : ∀ (l : List (Value → World → Prop)) (i : Nat), (∀ j, j < l.length → (l.getD j anyW) (vs (i + j)) w) → holdsL vs w l i
  | [], _, _ => trivial
  | W :: Ws, i, h => ⟨h 0 (by simp), holdsL_of vs w Ws (i + 1) fun j hj => by
      have := h (j + 1) (by simp; omega)
      rw [show i + 1 + j = i + (j + 1) by omega]
      exact this⟩

section
variable {P : Program} {ops : Array Oper} {Q : Exit → Act → World → Prop} {C : World → Prop} {words : List (Value → World → Prop)} {a0 : Act}

/-- what is to be shown of an operation that comes up at frame a, world w -/
def StepAt (P : Program) (ops : Array Oper) (Q : Exit → Act → World → Prop) (words : List (Value → World → Prop)) (i : Nat) (o : Oper) (a : Act) (w : World) : Prop :=
  if Region.wanted o (yielded ops a.tmps) = true then o.wp P a w (fun a' w' => ∃ v, a' = a.put o.dst v ∧ (words.getD i anyW) v w' ∧ Below w.heap.size w w') Q ∨ (o.asks P a w ∧ LetsOut Q) else (words.getD i anyW) undef w

def StepI (P : Program) (ops : Array Oper) (Q : Exit → Act → World → Prop) (C : World → Prop) (words : List (Value → World → Prop)) (a0 : Act) (i : Nat) (o : Oper) : Prop :=
  ∀ (a : Act) (w : World), C w → a.defers = a0.defers → (∀ k, (ops.all fun o => o.dst != some k) = true → (a.tmps[k]?).getD undef = (a0.tmps[k]?).getD undef) →
    (∀ e ∈ o.after, Region.binds .any e = true → (words.getD e.on anyW) ((((ops[e.on]?).bind (·.dst)).bind fun d => a.tmps[d]?).getD undef) w) → StepAt P ops Q words i o a w

def stepsL (P : Program) (ops : Array Oper) (Q : Exit → Act → World → Prop) (C : World → Prop) (words : List (Value → World → Prop)) (a0 : Act) : List Oper → Nat → Prop
  | [], _ => True
  | o :: os, i => StepI P ops Q C words a0 i o ∧ stepsL P ops Q C words a0 os (i + 1)
theorem stepsL_nil {i : Nat} : stepsL P ops Q C words a0 [] i := trivial
theorem stepsL_cons {o : Oper} {os : List Oper} {i : Nat} (h : StepI P ops Q C words a0 i o) (hs : stepsL P ops Q C words a0 os (i + 1)) : stepsL P ops Q C words a0 (o :: os) i := ⟨h, hs⟩
theorem stepsL_at : ∀ (l : List Oper) (i : Nat), stepsL P ops Q C words a0 l i → ∀ j o, l[j]? = some o → StepI P ops Q C words a0 (i + j) o
  | [], _, _, j, o, h => by simp at h
  | o' :: os, i, hs, 0, o, h => by simp at h; subst h; exact hs.1
  | o' :: os, i, hs, j + 1, o, h => by
    have := stepsL_at os (i + 1) hs.2 j o (by simpa using h)
    rw [show i + (j + 1) = i + 1 + j by omega]
    exact this

theorem wanted_plain {o : Oper} {y : Nat → Option Bool} (h : o.guard = none) : Region.wanted o y = true := by simp [Region.wanted, h]
theorem wanted_guard {o : Oper} {a : Act} {j : Nat} {b c : Bool} (h : o.guard = some (j, b)) (hv : (((ops[j]?).bind (·.dst)).bind fun d => a.tmps[d]?).getD undef = .bool c) : Region.wanted o (yielded ops a.tmps) = (c == b) := by
  have : yielded ops a.tmps j = some c := by
    unfold yielded
    cases hx : ((ops[j]?).bind (·.dst)).bind fun d => a.tmps[d]? with
    | none => rw [hx] at hv; cases hv
    | some x => rw [hx] at hv; simp at hv; subst hv; rfl
  simp [Region.wanted, h, this]

theorem wanted_undef {o : Oper} {a : Act} {j : Nat} {b : Bool} (h : o.guard = some (j, b)) (hv : (((ops[j]?).bind (·.dst)).bind fun d => a.tmps[d]?).getD undef = undef) : Region.wanted o (yielded ops a.tmps) = false := by
  have : yielded ops a.tmps j = none := by
    unfold yielded
    cases hx : ((ops[j]?).bind (·.dst)).bind fun d => a.tmps[d]? with
    | none => rfl
    | some x => rw [hx] at hv; simp at hv; subst hv; rfl
  simp [Region.wanted, h, this]

theorem step_val {i : Nat} {o : Oper} {a : Act} {w : World} (v : Value) (w' : World) (hw : Region.wanted o (yielded ops a.tmps) = true) (hr : (execOp a.eval o).run P w = .ok (.value v) w')
    (hV : (words.getD i anyW) v w') (hT : Below w.heap.size w w') : StepAt P ops Q words i o a w := by
  unfold StepAt
  rw [if_pos hw]
  left
  unfold Oper.wp
  rw [hr]
  exact ⟨v, rfl, hV, hT⟩
theorem step_call {i : Nat} {o : Oper} {a : Act} {w : World} (f : FuncId) (args : Array Value) (hw : Region.wanted o (yielded ops a.tmps) = true) (hr : (execOp a.eval o).run P w = .ok (.enter f args) w)
    (hc : Calls P f args w fun e w' => ∃ v, e = .returned v ∧ (words.getD i anyW) v w' ∧ Below w.heap.size w w') : StepAt P ops Q words i o a w := by
  unfold StepAt
  rw [if_pos hw]
  left
  unfold Oper.wp
  rw [hr]
  refine hc.mono ?_
  rintro e w' ⟨v, rfl, hV, hT⟩
  exact ⟨v, rfl, hV, hT⟩
theorem step_skip {i : Nat} {o : Oper} {a : Act} {w : World} (hw : Region.wanted o (yielded ops a.tmps) = false) (hV : (words.getD i anyW) undef w) : StepAt P ops Q words i o a w := by
  unfold StepAt
  rw [if_neg (by rw [hw]; decide)]
  exact hV

theorem valOf_eq (a : Act) (i : Nat) : valOf ops a i = (((ops[i]?).bind (·.dst)).bind fun d => a.tmps[d]?).getD undef := by
  unfold valOf slotOf
  cases (ops[i]?).bind (·.dst) with
  | none => rfl
  | some d => simp [Array.getD_eq_getD_getElem?]

theorem region_words {id : Nat} {w : World} (C : World → Prop) (words : List (Value → World → Prop)) (hlen : (words.length == ops.size) = true) (hW : monoL words)
    (hB : (backB ops && dstsB ops a0.tmps.size ops.size && lateB ops ops.size && decide (ops.size ≤ ops.size)) = true)
    (hmo : P.follows .mixedOrders = true) (hC : ∀ w w', C w → Below w.heap.size w w' → C w') (hC0 : C w.drew)
    (hsteps : stepsL P ops Q C words a0 ops.toList 0)
    (hend : ∀ (vs : Nat → Value) (w : World), C w → holdsL vs w words 0 → Q .normal (putAll ops.toList 0 vs a0) w) :
    (Code.region id ops true).wp P Q a0 w := by
  have hl : words.length = ops.size := by simpa using hlen
  refine wp_region_inv_all C (fun w w' => Below w.heap.size w w') (fun i v w => (words.getD i anyW) v w) hB hmo (fun w => Below.refl _ _)
    (fun i v w w' hv _ hb => monoL_at words i hW v w w' hv hb) hC hC0 ?_ fun vs w hc hv => hend vs w hc (holdsL_of vs w words 0 fun j hj => by
      rw [Nat.zero_add]; exact hv j (by omega))
  intro i o hi ho a w hc hd hk hdep
  have := stepsL_at ops.toList 0 hsteps i o (by simpa using ho) a w hc hd ?_ ?_
  · rw [Nat.zero_add] at this
    exact this
  · intro k hall
    have := hk k fun j oj hoj e => by
      have h1 := Array.all_eq_true'.1 hall oj (Array.mem_of_getElem? hoj)
      rw [e] at h1
      simp at h1
    simpa [Array.getD_eq_getD_getElem?] using this
  · intro e he hb
    rw [← valOf_eq]
    exact hdep e he hb
end
end Go.Proofs.Ytocciehjpgkceaa
