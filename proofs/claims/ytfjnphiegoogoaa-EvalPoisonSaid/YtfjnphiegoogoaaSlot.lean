/- A region that draws its order leaves a slot as it was that none of its operations writes; so what is said where it panics may speak of that slot. -/
import Derived.Test.YtfjnphiegoogoaaApp
import Derived.Orders
namespace Go.Proofs.Ytfjnphiegoogoaa
open Go.ChangeShapes Go.WideShapes Go.ChangeAt Go.RowKit Go.Fl

/-- Q, and slot k holds x -/
def AndSlot (k : Nat) (x : Option Value) (Q : Exit → Act → World → Prop) : Exit → Act → World → Prop
  | .outgrown, a, w => Q .outgrown a w
  | e, a, w => Q e a w ∧ a.tmps[k]? = x

theorem letsOut_slot {k : Nat} {x : Option Value} {Q : Exit → Act → World → Prop} (h : LetsOut Q) : LetsOut (AndSlot k x Q) :=
  let ⟨a, w, q⟩ := h
  ⟨a, w, q⟩

theorem put_slot {k : Nat} (a : Act) (d : Option Tmp) (v : Value) (h : d ≠ some k) : (a.put d v).tmps[k]? = a.tmps[k]? := by
  unfold Act.put
  cases d with
  | none => rfl
  | some d =>
    have hk : ¬ d = k := fun e => h (by rw [e])
    simp [hk]

section
variable {P : Program} {ops : Array Oper} {Q : Exit → Act → World → Prop} {md : Region.Mode} {k : Nat} {x : Option Value}

theorem oper_slot {o : Oper} {a : Act} {w : World} {K : Act → World → Prop} (hd : o.dst ≠ some k) (hx : a.tmps[k]? = x) (h : o.wp P a w K Q) :
    o.wp P a w (fun a' w' => K a' w' ∧ a'.tmps[k]? = x) (AndSlot k x Q) := by
  unfold Oper.wp at *
  generalize (execOp a.eval o).run P w = r at *
  cases r with
  | ok n w' =>
    cases n <;> simp only [Oper.upon] at h ⊢
    case value v => exact ⟨h, (put_slot a o.dst v hd).trans hx⟩
    case skip => exact ⟨h, (put_slot a o.dst undef hd).trans hx⟩
    case defer d => exact ⟨h, (put_slot { a with defers := d :: a.defers } o.dst undef hd).trans hx⟩
    case enter f args =>
      refine Calls.mono h fun e w'' he => ?_
      cases e with
      | returned u => exact ⟨he, (put_slot a o.dst u hd).trans hx⟩
      | panicked c => exact ⟨he, hx⟩
      | outgrown => exact letsOut_slot he
    case row row args => exact Rows.mono h fun u w'' he => ⟨he, (put_slot a o.dst u hd).trans hx⟩
  | halt y w' =>
    cases y <;> simp only [Oper.upon] at h ⊢
    case panic u => exact ⟨h, hx⟩

theorem wpOp_slot {i : Nat} {a : Act} {w : World} {K : Act → World → Prop} (hd : ∀ o, ops[i]? = some o → o.dst ≠ some k) (hx : a.tmps[k]? = x)
    (h : wpOp P ops Q i K a w) : wpOp P ops (AndSlot k x Q) i (fun a' w' => K a' w' ∧ a'.tmps[k]? = x) a w := by
  unfold wpOp at *
  split
  · rename_i ho; simp only [ho] at h; exact ⟨h, hx⟩
  · rename_i o ho
    simp only [ho] at h
    split
    · rename_i hw
      simp only [hw, if_true] at h
      rcases h with h | ⟨h1, h2⟩
      · exact .inl (oper_slot (hd o ho) hx h)
      · exact .inr ⟨h1, letsOut_slot h2⟩
    · rename_i hw
      simp only [hw] at h
      exact ⟨h, (put_slot a o.dst undef (hd o ho)).trans hx⟩

theorem wpAny_slot (hd : ∀ (i : Nat) o, ops[i]? = some o → o.dst ≠ some k) : ∀ (fuel : Nat) (listed : Array Bool) (a : Act) (w : World), a.tmps[k]? = x →
    wpAny P md ops Q fuel listed a w → wpAny P md ops (AndSlot k x Q) fuel listed a w
  | 0, _, _, _, hx, h => ⟨h.1, h.2, hx⟩
  | fuel + 1, _, _, _, hx, h => ⟨fun h0 => ⟨h.1 h0, hx⟩, fun i hi => wpOp_mono (fun a' w' h' => wpAny_slot hd fuel _ a' w' h'.2 h'.1) (wpOp_slot (hd i) hx (h.2 i hi))⟩

/-- what is said of a region that panics for sure: with which chain, the deferred calls, the world -/
def GoneQ (chain : List PanicEntry) (D : List Deferred) (J : World → Prop) : Exit → Act → World → Prop
  | .panic c, a, w => c = chain ∧ a.defers = D ∧ J w
  | _, _, _ => False

/-- the walk's trick: a goal that is paid stands as an empty region's -/
theorem pays {X : Prop} {P : Program} (a : Act) (w : World) (h : X) : wpAny P .any #[] (fun _ _ _ => True) 0 #[] a w → X := fun _ => h

theorem wp_region_gone {id : Nat} {chain : List PanicEntry} {D : List Deferred} {J : World → Prop} {a : Act} {w : World} (k : Nat) (x : Value)
    (hd : ops.all (fun o => o.dst != some k) = true) (hx : a.tmps[k]? = some x)
    (hm : P.follows .mixedOrders = true) (hQ : ∀ a' w', a'.tmps[k]? = some x → a'.defers = D → J w' → Q (.panic chain) a' w')
    (h : wpAny P .any ops (GoneQ chain D J) ops.size (Array.replicate ops.size false) a { w with drawn := w.drawn + 1 }) : (Code.region id ops true).wp P Q a w := by
  have hd' : ∀ (i : Nat) o, ops[i]? = some o → o.dst ≠ some k := fun i o ho => by
    have := Array.all_eq_true'.1 hd o (Array.mem_of_getElem? ho)
    simpa using this
  refine Code.wp_mono ?_ (wp_region_any hm (wpAny_slot (k := k) (x := some x) hd' _ _ _ _ hx h))
  intro e a' w' hq
  cases e with
  | panic c =>
    obtain ⟨⟨rfl, h2, h3⟩, h4⟩ := hq
    exact hQ a' w' h4 h2 h3
  | outgrown => exact (hq : False).elim
  | normal => exact (hq.1 : False).elim
  | ret => exact (hq.1 : False).elim
  | _ => exact (hq.1 : False).elim
end
end Go.Proofs.Ytfjnphiegoogoaa
