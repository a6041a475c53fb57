/- A range over a function whose iterator writes cells of its own, the loop's body leaving by a return, too; and strings.SplitSeq by it, at every text: some pieces. -/
import Derived.Test.YtmebbhlebehliaaDoorRg
import Derived.Test.YtmebbhlebehliaaDoorSp
namespace Go.Proofs.YtmebbhlebehliaaDoor
open Go.RowKit Go.Shelf
set_option linter.unusedVariables false
set_option linter.unusedSimpArgs false
attribute [local go_sem] Oper.semAt_some

/-- the record of a loop that was left by a return -/
def recX (fn : FuncId) (tmps : Array Value) (ps : Array Tmp) (assign body : Code) (D : Nat) : Loop :=
  { state := .done, pending := some .ret, fn := fn, tmps := tmps, params := ps, assign := assign, body := body, defers := D }
def RecX {α : Type} (Ix : List α → World → Prop) (rec : Loop) (D : Nat) (pre : List α) (W : World) : Prop :=
  Ix pre W ∧ W.heap[D + 1]? = some (.loop rec) ∧ W.heap[D]? = some (.deferred (some []))

/-- one round, where the loop's record is ready -/
theorem box_round2 {α : Type} {P : Program} {m D : Nat} {fn : FuncId} {tmps : Array Value} {ps : Array Tmp} {assign body : Code} (encs : α → Array Value) (hps : ∀ x, (encs x).size = ps.size)
    (I Ix : List α → World → Prop) (hI : OwnFrom D I) (hIx : OwnFrom D Ix) (a1 : α → Act) (pre : List α) (x : α) (W : World)
    (hassign : ∀ (K : Act → World → Prop) (W : World), K (a1 x) W → assign.wpIn (Fence.wide.inRound (D + 1)) m P (Exit.then K (fun _ _ _ => False)) { tmps := (ps.zip (encs x)).foldl (fun t (p, v) => t.setIfInBounds p v) tmps, defers := [] } W)
    (Kp : World → World → Prop) (hKp : ∀ {A B C : World}, Kp A B → Kp B C → Kp A C) (hKb : ∀ (W : World) (o o' : Obj), W.heap[D + 1]? = some o → o.isCells = false → Kp W (W.putObj (D + 1) o'))
    (hbody : ∀ W, I pre W → body.wpIn (Fence.wide.inRound (D + 1)) m P (fun e _ W' => KeepsFrom D W W' ∧ ((e = .normal ∧ Kp W W' ∧ I (pre ++ [x]) W') ∨ (e = .ret ∧ Ix (pre ++ [x]) W'))) (a1 x) W)
    (h : RecJ I (recOf fn tmps ps assign body D) D pre W) :
    YieldAt Fence.wide m P (D + 1) (encs x) W fun e W' => (e = .returned (.bool true) ∧ RecJ I (recOf fn tmps ps assign body D) D (pre ++ [x]) W' ∧ Kp W W') ∨ (e = .returned (.bool false) ∧ RecX Ix (recX fn tmps ps assign body D) D (pre ++ [x]) W') := by
  obtain ⟨hi, hl, hk⟩ := h
  have hlt : D + 1 < W.heap.size := (Array.getElem?_eq_some_iff.1 hl).1
  have hy := run_yield (P := P) (args := encs x) hl (hps x)
  refine ⟨fn, _, assign, body, hy, roundIn_of_wpIn trivial (hassign _ W ?_)⟩
  clear hy
  refine ⟨_, run_beginRound hl rfl, ?_⟩
  have hl2 : (W.putObj (D + 1) (.loop (recOf fn tmps ps assign body D .busy))).heap[D + 1]? = some (.loop (recOf fn tmps ps assign body D .busy)) := World.putObj_heap_same hlt
  have hk2 : (W.putObj (D + 1) (.loop (recOf fn tmps ps assign body D .busy))).heap[D]? = some (.deferred (some [])) := (World.putObj_heap_other (by omega)).trans hk
  have hi2 : I pre (W.putObj (D + 1) (.loop (recOf fn tmps ps assign body D .busy))) := hI.putObj _ hi (by omega) hl rfl
  have kp1 : Kp W (W.putObj (D + 1) (.loop (recOf fn tmps ps assign body D .busy))) := hKb W _ _ hl rfl
  refine wpIn_mono (hbody _ hi2) ?_
  rintro e a' W' ⟨hkf, hp⟩
  have hl3 := hkf.same _ _ (by omega) hl2 rfl
  have hk3 := hkf.same _ _ (Nat.le_refl _) hk2 rfl
  rcases hp with ⟨rfl, hkp, hi3⟩ | ⟨rfl, hx3⟩
  · exact ⟨_, _, run_endRound none hl3, .inl ⟨rfl, ⟨hI.putObj _ hi3 (by omega) hl3 rfl, World.putObj_heap_same (Array.getElem?_eq_some_iff.1 hl3).1, (World.putObj_heap_other (by omega)).trans hk3⟩, hKp kp1 (hKp hkp (hKb W' _ _ hl3 rfl))⟩⟩
  · exact ⟨_, _, run_endRound (some .ret) hl3, .inr ⟨rfl, hIx.putObj _ hx3 (by omega) hl3 rfl, World.putObj_heap_same (Array.getElem?_eq_some_iff.1 hl3).1, (World.putObj_heap_other (by omega)).trans hk3⟩⟩

/-- the statement -/
theorem box_range2 {α : Type} {P : Program} {n : Nat} {g : Operand} {ps : Array Tmp} {assign body : Code} {Q : Exit → Act → World → Prop} {a : Act} {w : World} {gf : Nat} {lb : Array Value} (h1 : 1 ≤ n)
    (hg : a.eval g = .func (.func gf) #[] lb) (eg : ∀ args w, (callFunc gf args).run P w = .ok (.enter gf args) w)
    (encs : α → Array Value) (hps : ∀ x, (encs x).size = ps.size) (S : List α → Prop) (Ok : List α → α → Prop)
    (Kp : World → World → Prop) (hKp : ∀ {A B C : World}, Kp A B → Kp B C → Kp A C) (hKb : ∀ (W : World) (o o' : Obj), W.heap[w.heap.size + 1]? = some o → o.isCells = false → Kp W (W.putObj (w.heap.size + 1) o'))
    (Stp : World → World → Prop) (hS : ∀ (A B : World) (k : Nat) (o : Obj), Stp A B → A.heap[k]? = some o → o.isCells = false → B.heap[k]? = some o)
    (I Ix : List α → World → Prop) (hI : OwnFrom w.heap.size I) (hIx : OwnFrom w.heap.size Ix) (hIS : ∀ s A B, I s A → Stp A B → I s B) (h0 : I [] w)
    (hseq : ∀ (l : Nat) (J Jx : List α → World → Prop) (W : World), (∀ s A B, J s A → Stp A B → J s B) → Below w.heap.size w W →
      (∀ pre x W, J pre W → Ok pre x → YieldAt Fence.wide (n - 1 - 1) P l (encs x) W fun e W' => (e = .returned (.bool true) ∧ J (pre ++ [x]) W' ∧ Kp W W') ∨ (e = .returned (.bool false) ∧ Jx (pre ++ [x]) W')) → J [] W →
      CallsIn Fence.wide (n - 1) P gf (#[.func (.yield l) #[] #[]] ++ lb) W fun e W' => (∃ v, e = .returned v) ∧ ((∃ ys, S ys ∧ J ys W') ∨ ∃ pre, Jx pre W'))
    (a1 : α → Act)
    (hassign : ∀ (x : α) (K : Act → World → Prop) (W : World), K (a1 x) W → assign.wpIn (Fence.wide.inRound (w.heap.size + 1)) (n - 1 - 1) P (Exit.then K (fun _ _ _ => False)) { tmps := (ps.zip (encs x)).foldl (fun t (p, v) => t.setIfInBounds p v) a.tmps, defers := [] } W)
    (hbody : ∀ pre x W, Ok pre x → I pre W → body.wpIn (Fence.wide.inRound (w.heap.size + 1)) (n - 1 - 1) P (fun e _ W' => KeepsFrom w.heap.size W W' ∧ ((e = .normal ∧ Kp W W' ∧ I (pre ++ [x]) W') ∨ (e = .ret ∧ Ix (pre ++ [x]) W'))) (a1 x) W)
    (hdone : ∀ ys W, S ys → I ys W → W.heap[w.heap.size]? = some (.deferred (some [])) → Q .normal { a with defers := { target := .collected w.heap.size, args := #[] } :: a.defers } W)
    (hstop : ∀ pre W, Ix pre W → W.heap[w.heap.size]? = some (.deferred (some [])) → Code.ret.wpIn Fence.wide n P Q { a with defers := { target := .collected w.heap.size, args := #[] } :: a.defers } W) :
    (Code.rangeFunc g ps assign body).wpIn Fence.wide n P Q a w := by
  refine wpIn_rangeFunc ?_
  intro fn _
  have hL1 : ((w.alloc (.deferred (some []))).alloc (.loop (recOf fn a.tmps ps assign body w.heap.size .ready))).heap[w.heap.size + 1]? = some (.loop (recOf fn a.tmps ps assign body w.heap.size .ready)) := by
    have := World.alloc_heap_new (w.alloc (.deferred (some []))) (.loop (recOf fn a.tmps ps assign body w.heap.size .ready)); rwa [World.size_alloc] at this
  have hK1 : ((w.alloc (.deferred (some []))).alloc (.loop (recOf fn a.tmps ps assign body w.heap.size .ready))).heap[w.heap.size]? = some (.deferred (some [])) :=
    (Below.heap_alloc _ _ _ (by simp)).trans (World.alloc_heap_new w _)
  refine ⟨w.heap.size + 1, [{ target := .collected w.heap.size, args := #[] }], (w.alloc (.deferred (some []))).alloc (.loop (recOf fn a.tmps ps assign body w.heap.size .ready)), { target := .fn (.func gf) lb, args := #[.func (.yield (w.heap.size + 1)) #[] #[]] },
    (w.alloc (.deferred (some []))).alloc (.loop (recOf fn a.tmps ps assign body w.heap.size .ready)), gf, #[.func (.yield (w.heap.size + 1)) #[] #[]] ++ lb, (w.alloc (.deferred (some []))).alloc (.loop (recOf fn a.tmps ps assign body w.heap.size .ready)), ?_, ?_, ?_, ?_, fun _ => h1, ?_⟩
  · exact run_enterLoop_outer _ _ _ _ _
  · simp only [resolve, hg]
    simp [go_sem]
  · intro f' hf'; trivial
  · simp [invoke, go_sem, eg]
  · refine (hseq (w.heap.size + 1) (RecJ I (recOf fn a.tmps ps assign body w.heap.size) w.heap.size) (RecX Ix (recX fn a.tmps ps assign body w.heap.size) w.heap.size) _ ?_ (((Below.refl _ w).alloc (Nat.le_refl _) _).alloc (by simp) _) ?_ ⟨hI.alloc _ (hI.alloc _ h0), hL1, hK1⟩).mono ?_
    · rintro s A B ⟨hi, hl, hk⟩ hst
      exact ⟨hIS _ _ _ hi hst, hS _ _ _ _ hst hl rfl, hS _ _ _ _ hst hk rfl⟩
    · intro pre x W hJ hp
      exact box_round2 encs hps I Ix hI hIx a1 pre x W (hassign x) Kp hKp hKb (fun W' hi => hbody pre x W' hp hi) hJ
    · rintro e W2 ⟨⟨v, rfl⟩, (⟨ys, hys, hi, hl, hk⟩ | ⟨pre, hi, hl, hk⟩)⟩
      rotate_left
      · exact ⟨some .ret, _, run_endLoop hl (by simp [recX]), hstop _ _ (hIx.putObj _ hi (by omega) hl rfl) ((World.putObj_heap_other (by omega)).trans hk)⟩
      exact ⟨none, _, run_endLoop hl (by simp [recOf]), hdone _ _ hys (hI.putObj _ hi (by omega) hl rfl) ((World.putObj_heap_other (by omega)).trans hk)⟩
set_option maxHeartbeats 4000000 in
set_option maxRecDepth 100000 in
theorem split2_in {n : Nat} (hn : 1 ≤ n) (l B1 B2 B3 : Nat) (h12 : B1 ≠ B2) (h13 : B1 ≠ B3) (c : UInt8) (s : ByteArray) (hs : s.size ≤ 281474976710656) (J Jx : List ByteArray → World → Prop) (hJS : ∀ s A B, J s A → StpS B1 A B → J s B)
    (hY : ∀ pre x W, J pre W → x.size ≤ s.size ∧ pre.length ≤ s.size → YieldAt Fence.wide (n - 1) Tryd.prog l #[.string x] W fun e W' => (e = .returned (.bool true) ∧ J (pre ++ [x]) W' ∧ KpS B1 B2 B3 W W') ∨ (e = .returned (.bool false) ∧ Jx (pre ++ [x]) W'))
    (W : World) (b1 : Boxed W B1 9 (.string s)) (b2 : Boxed W B2 9 (.string ⟨#[c]⟩)) (b3 : Boxed W B3 3 (.int .i64 0)) (h0 : J [] W) :
    CallsIn Fence.wide n Tryd.prog 34 #[.func (.yield l) #[] #[], .pointer (some ⟨B2, 0, none⟩), .pointer (some ⟨B1, 0, none⟩), .pointer (some ⟨B3, 0, none⟩)] W fun e W' => (∃ v, e = .returned v) ∧ ((∃ ys, ys.length ≤ s.size + 1 ∧ J ys W') ∨ ∃ pre, Jx pre W') := by
  have hsz : (⟨#[c]⟩ : ByteArray).size = 1 := rfl
  refine callsIn_of_wp Tryd.func34 rfl trivial ?_ rfl
  simp only [Tryd.ntmps34, List.size_toArray, List.length_cons, List.length_nil, Nat.reduceAdd, Nat.reduceSub, Array.replicate_succ, Array.replicate_zero, List.push_toArray, List.append_toArray, List.nil_append, List.cons_append]
  have c2 := b2.cell
  gi_wp2
  gi_loopw [7] (fun _ wr => ∃ (r : ByteArray) (pre : List ByteArray), Boxed wr B1 9 (.string r) ∧ r.size ≤ s.size ∧ pre.length + r.size ≤ s.size ∧ J pre wr ∧ Boxed wr B2 9 (.string ⟨#[c]⟩) ∧ Boxed wr B3 3 (.int .i64 0))
    (fun _ wr => cellSize B1 wr)
  case atStart => exact ⟨s, [], b1, Nat.le_refl _, by simp, h0, b2, b3⟩
  case round =>
    obtain ⟨r, pre, d1, hrs, hpre, hJ, d2, d3⟩ := hrel
    have e1 := d1.cell
    have e2 := d2.cell
    have e3 := d3.cell
    have f1 := d1.frozen
    clear b1 b2 b3 h0 c2
    by_cases hi : Lib.indexByte r.data.toList c < 0
    · obtain ⟨fn, tmps, assign, body, hy, hR⟩ := hY pre r wr hJ ⟨hrs, by omega⟩
      have hC := Tryd.strings_Index_one r c wr
      generalize Lib.indexByte r.data.toList c = i at *
      gi_wp2_with (refine ⟨trivial, ?_⟩; gi_at_call 35; refine (callsIn_wide.2 hC).mono ?_; rintro e w1 ⟨rfl, rfl⟩)
      refine hR.mono ?_
      rintro e W3 (⟨rfl, hJ3, hk3⟩ | ⟨rfl, hJx3⟩)
      · gi_wp2
        go_end0
        exact ⟨⟨_, rfl⟩, .inl ⟨_, by simp; omega, hJ3⟩⟩
      · gi_wp2
        go_end0
        exact ⟨⟨_, rfl⟩, .inr ⟨_, hJx3⟩⟩
    · obtain ⟨k, hk⟩ : ∃ k : Nat, Lib.indexByte r.data.toList c = (k : Int) := ⟨(Lib.indexByte r.data.toList c).toNat, by omega⟩
      have hkr := idx_lt hk
      obtain ⟨fn, tmps, assign, body, hy, hR⟩ := hY pre (r.extract 0 k) wr hJ ⟨by simp; omega, by omega⟩
      have hC := Tryd.strings_Index_one r c wr
      rw [hk] at hC
      have k0 : (0 : Int) ≤ (k : Int) := by omega
      have k1 : (k : Int) ≤ (r.size : Int) := by omega
      have k2 : IntKind.i64.wrap ((k : Int) + 0) = (k : Int) := by rw [IntKind.wrap_i64]; omega
      have k3 : IntKind.i64.wrap ((k : Int) + 1) = (k : Int) + 1 := by rw [IntKind.wrap_i64]; omega
      have k4 : (k : Int) + 1 ≤ (r.size : Int) := by omega
      have k5 : (0 : Int) ≤ (k : Int) + 1 := by omega
      have k6 : ¬ (k : Int) < 0 := by omega
      clear hi hk
      gi_wp2_with (refine ⟨trivial, ?_⟩; gi_at_call 35; refine (callsIn_wide.2 hC).mono ?_; rintro e w1 ⟨rfl, rfl⟩)
      refine hR.mono ?_
      rintro e W3 (⟨rfl, hJ3, hk3⟩ | ⟨rfl, hJx3⟩)
      rotate_left
      · clear hC hy
        gi_wp2
        first | go_end0 | refine bodyPost_ret (results_none rfl _ _ _) rfl ?_
        exact ⟨⟨_, rfl⟩, .inr ⟨_, hJx3⟩⟩
      have g1 : Boxed W3 B1 9 (.string r) := hk3.1.trans d1
      have g2 : Boxed W3 B2 9 (.string ⟨#[c]⟩) := hk3.2.1.trans d2
      have g3 : Boxed W3 B3 3 (.int .i64 0) := hk3.2.2.trans d3
      have i1 := g1.cell
      have i2 := g2.cell
      have i3 := g3.cell
      have j1 := g1.frozen
      clear hC hR hy e1 e2 e3 f1
      gi_wp2
      have z : (r.extract (k + 1) r.size).size = r.size - (k + 1) := by simp
      go_roundw
      case rel => exact ⟨r.extract (k + 1) r.size, pre ++ [r.extract 0 k], g1.set _, by omega, by simp; omega, hJS _ _ _ hJ3 ⟨_, rfl⟩, g2.other (fun e => h12 e.symm) _, g3.other (fun e => h13 e.symm) _⟩
      case measure => rw [cellSize_of (g1.set _).cell, cellSize_of d1.cell]; omega
end Go.Proofs.YtmebbhlebehliaaDoor
