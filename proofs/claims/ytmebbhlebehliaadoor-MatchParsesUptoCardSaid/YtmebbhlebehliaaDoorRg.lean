/- A range over a function whose iterator writes cells of its own (a captured variable), the loop's body never leaving: a law, out of the library's law for the statement. -/
import Derived.RangeFuncNested
import Derived.RangeFuncBound
import Derived.RangeFuncCalls
import Derived.RangeFuncLeaves
import Derived.WalkKit
import Derived.OwnWalkIn
import Derived.TacticsInMore
import Derived.Test.YtmebbhlebehliaaDoorProg
namespace Go.Proofs.YtmebbhlebehliaaDoor
open Go.RowKit
set_option linter.unusedVariables false
set_option linter.unusedSimpArgs false

/-- the record of a loop, at any state -/
def recOf (fn : FuncId) (tmps : Array Value) (ps : Array Tmp) (assign body : Code) (D : Nat) (st : LoopState) : Loop :=
  { state := st, pending := none, fn := fn, tmps := tmps, params := ps, assign := assign, body := body, defers := D }
/-- what is kept of a loop between two rounds: its record is ready, its block for deferred calls is empty -/
def RecJ {α : Type} (I : List α → World → Prop) (rec : LoopState → Loop) (D : Nat) (pre : List α) (W : World) : Prop :=
  I pre W ∧ W.heap[D + 1]? = some (.loop (rec .ready)) ∧ W.heap[D]? = some (.deferred (some []))

/-- one round, where the loop's record is ready -/
theorem box_round {α : Type} {P : Program} {m D : Nat} {fn : FuncId} {tmps : Array Value} {ps : Array Tmp} {assign body : Code} (encs : α → Array Value) (hps : ∀ x, (encs x).size = ps.size)
    (I : List α → World → Prop) (hI : OwnFrom D I) (a1 : α → Act) (pre : List α) (x : α) (W : World)
    (hassign : ∀ (K : Act → World → Prop) (W : World), K (a1 x) W → assign.wpIn (Fence.wide.inRound (D + 1)) m P (Exit.then K (fun _ _ _ => False)) { tmps := (ps.zip (encs x)).foldl (fun t (p, v) => t.setIfInBounds p v) tmps, defers := [] } W)
    (Kp : World → World → Prop) (hKp : ∀ {A B C : World}, Kp A B → Kp B C → Kp A C) (hKb : ∀ (W : World) (o o' : Obj), W.heap[D + 1]? = some o → o.isCells = false → Kp W (W.putObj (D + 1) o'))
    (hbody : ∀ W, I pre W → body.wpIn (Fence.wide.inRound (D + 1)) m P (fun e _ W' => e = .normal ∧ KeepsFrom D W W' ∧ Kp W W' ∧ I (pre ++ [x]) W') (a1 x) W)
    (h : RecJ I (recOf fn tmps ps assign body D) D pre W) :
    YieldAt Fence.wide m P (D + 1) (encs x) W fun e W' => e = .returned (.bool true) ∧ RecJ I (recOf fn tmps ps assign body D) D (pre ++ [x]) W' ∧ Kp W W' := by
  obtain ⟨hi, hl, hk⟩ := h
  have hlt : D + 1 < W.heap.size := (Array.getElem?_eq_some_iff.1 hl).1
  have hy := run_yield (P := P) (args := encs x) hl (hps x)
  refine ⟨fn, _, assign, body, hy, roundIn_of_wpIn trivial (hassign _ W ?_)⟩
  clear hy
  refine ⟨_, run_beginRound hl rfl, ?_⟩
  have hl2 : (W.putObj (D + 1) (.loop (recOf fn tmps ps assign body D .busy))).heap[D + 1]? = some (.loop (recOf fn tmps ps assign body D .busy)) := World.putObj_heap_same hlt
  have hk2 : (W.putObj (D + 1) (.loop (recOf fn tmps ps assign body D .busy))).heap[D]? = some (.deferred (some [])) := (World.putObj_heap_other (by omega)).trans hk
  have hi2 : I pre (W.putObj (D + 1) (.loop (recOf fn tmps ps assign body D .busy))) := hI.putObj _ hi (by omega) hl rfl
  have kp1 : Kp W (W.putObj (D + 1) (.loop (recOf fn tmps ps assign body D .busy))) := hKb W _ _ hl rfl
  refine wpIn_mono (hbody _ hi2) ?_
  rintro e a' W' ⟨rfl, hkf, hkp, hi3⟩
  have hl3 := hkf.same _ _ (by omega) hl2 rfl
  have hk3 := hkf.same _ _ (Nat.le_refl _) hk2 rfl
  refine ⟨_, _, run_endRound none hl3, rfl, ⟨hI.putObj _ hi3 (by omega) hl3 rfl, World.putObj_heap_same (Array.getElem?_eq_some_iff.1 hl3).1, (World.putObj_heap_other (by omega)).trans hk3⟩, hKp kp1 (hKp hkp (hKb W' _ _ hl3 rfl))⟩

/-- the statement -/
theorem box_range {α : Type} {P : Program} {n : Nat} {g : Operand} {ps : Array Tmp} {assign body : Code} {Q : Exit → Act → World → Prop} {a : Act} {w : World} {gf : Nat} {lb : Array Value} (h1 : 1 ≤ n)
    (hg : a.eval g = .func (.func gf) #[] lb) (eg : ∀ args w, (callFunc gf args).run P w = .ok (.enter gf args) w)
    (encs : α → Array Value) (hps : ∀ x, (encs x).size = ps.size) (xs : List α)
    (Kp : World → World → Prop) (hKp : ∀ {A B C : World}, Kp A B → Kp B C → Kp A C) (hKb : ∀ (W : World) (o o' : Obj), W.heap[w.heap.size + 1]? = some o → o.isCells = false → Kp W (W.putObj (w.heap.size + 1) o'))
    (Stp : World → World → Prop) (hS : ∀ (A B : World) (k : Nat) (o : Obj), Stp A B → A.heap[k]? = some o → o.isCells = false → B.heap[k]? = some o)
    (I : List α → World → Prop) (hI : OwnFrom w.heap.size I) (hIS : ∀ s A B, I s A → Stp A B → I s B) (h0 : I [] w)
    (hseq : ∀ (l : Nat) (J : List α → World → Prop) (W : World), (∀ s A B, J s A → Stp A B → J s B) → Below w.heap.size w W →
      (∀ pre x W, J pre W → pre ++ [x] <+: xs → YieldAt Fence.wide (n - 1 - 1) P l (encs x) W fun e W' => e = .returned (.bool true) ∧ J (pre ++ [x]) W' ∧ Kp W W') → J [] W →
      CallsIn Fence.wide (n - 1) P gf (#[.func (.yield l) #[] #[]] ++ lb) W fun e W' => (∃ v, e = .returned v) ∧ J xs W')
    (a1 : α → Act)
    (hassign : ∀ (x : α) (K : Act → World → Prop) (W : World), K (a1 x) W → assign.wpIn (Fence.wide.inRound (w.heap.size + 1)) (n - 1 - 1) P (Exit.then K (fun _ _ _ => False)) { tmps := (ps.zip (encs x)).foldl (fun t (p, v) => t.setIfInBounds p v) a.tmps, defers := [] } W)
    (hbody : ∀ pre x W, pre ++ [x] <+: xs → I pre W → body.wpIn (Fence.wide.inRound (w.heap.size + 1)) (n - 1 - 1) P (fun e _ W' => e = .normal ∧ KeepsFrom w.heap.size W W' ∧ Kp W W' ∧ I (pre ++ [x]) W') (a1 x) W)
    (hdone : ∀ W, I xs W → W.heap[w.heap.size]? = some (.deferred (some [])) → Q .normal { a with defers := { target := .collected w.heap.size, args := #[] } :: a.defers } W) :
    (Code.rangeFunc g ps assign body).wpIn Fence.wide n P Q a w := by
  refine wpIn_rangeFunc ?_
  intro fn _
  have hL1 : ((w.alloc (.deferred (some []))).alloc (.loop (recOf fn a.tmps ps assign body w.heap.size .ready))).heap[w.heap.size + 1]? = some (.loop (recOf fn a.tmps ps assign body w.heap.size .ready)) := by
    have := World.alloc_heap_new (w.alloc (.deferred (some []))) (.loop (recOf fn a.tmps ps assign body w.heap.size .ready)); rwa [World.size_alloc] at this
  have hK1 : ((w.alloc (.deferred (some []))).alloc (.loop (recOf fn a.tmps ps assign body w.heap.size .ready))).heap[w.heap.size]? = some (.deferred (some [])) :=
    (Below.heap_alloc _ _ _ (by simp)).trans (World.alloc_heap_new w _)
  refine ⟨w.heap.size + 1, [{ target := .collected w.heap.size, args := #[] }], (w.alloc (.deferred (some []))).alloc (.loop (recOf fn a.tmps ps assign body w.heap.size .ready)), { target := .fn (.func gf) lb, args := #[.func (.yield (w.heap.size + 1)) #[] #[]] },
    (w.alloc (.deferred (some []))).alloc (.loop (recOf fn a.tmps ps assign body w.heap.size .ready)), gf, #[.func (.yield (w.heap.size + 1)) #[] #[]] ++ lb, (w.alloc (.deferred (some []))).alloc (.loop (recOf fn a.tmps ps assign body w.heap.size .ready)), ?_, ?_, ?_, ?_, fun _ => h1, ?_⟩
  · exact run_enterLoop_outer _ _ _ _ _
  · simp only [resolve, hg]
    simp [go_sem]
  · intro f' hf'; trivial
  · simp [invoke, go_sem, eg]
  · refine (hseq (w.heap.size + 1) (RecJ I (recOf fn a.tmps ps assign body w.heap.size) w.heap.size) _ ?_ (((Below.refl _ w).alloc (Nat.le_refl _) _).alloc (by simp) _) ?_ ⟨hI.alloc _ (hI.alloc _ h0), hL1, hK1⟩).mono ?_
    · rintro s A B ⟨hi, hl, hk⟩ hst
      exact ⟨hIS _ _ _ hi hst, hS _ _ _ _ hst hl rfl, hS _ _ _ _ hst hk rfl⟩
    · intro pre x W hJ hp
      exact box_round encs hps I hI a1 pre x W (hassign x) Kp hKp hKb (fun W' hi => hbody pre x W' hp hi) hJ
    · rintro e W2 ⟨⟨v, rfl⟩, hi, hl, hk⟩
      exact ⟨none, _, run_endLoop hl (by simp [recOf]), hdone _ (hI.putObj _ hi (by omega) hl rfl) ((World.putObj_heap_other (by omega)).trans hk)⟩
end Go.Proofs.YtmebbhlebehliaaDoor
