/- UpB -/
import Derived.Test.YtkcejaccpahjhaaZ12
import Derived.LoopNIn
import Derived.LoopIn
import Derived.Shelf.Abstract
import Derived.Shelf.RegionOpen
import Derived.RangeFuncNested
import Derived.RangeFuncBound
import Derived.RangeFuncCalls
import Derived.RangeFuncLeaves
import Derived.WalkKit
import Derived.OwnWalkIn
import Derived.TacticsInMore
import Derived.Maps.AppendAt
/- UpB -/
namespace Go.Proofs.Ytkcejaccpahjhaa
open Go.RowKit
set_option linter.unusedVariables false
set_option linter.unusedSimpArgs false
attribute [local go_sem] Oper.semAt_some

theorem addr_adds (g j : Nat) : (⟨g, 0, none⟩ : Addr).add j = (⟨g, j, none⟩ : Addr) := by unfold Addr.add; split <;> simp_all
def stepC (st : List (Addr × Nat)) : List Value := st.reverse.flatMap fun x => [.pointer (some x.1), .int .i64 (x.2 : Int)]
theorem stepC_cons (p : Addr) (i : Nat) (st : List (Addr × Nat)) : stepC ((p, i) :: st) = stepC st ++ [.pointer (some p), .int .i64 (i : Int)] := by simp [stepC]
theorem stepC_len (st : List (Addr × Nat)) : (stepC st).length = st.length * 2 := by
  induction st with
  | nil => rfl
  | cons x st ih =>
    obtain ⟨p, i⟩ := x
    rw [stepC_cons, List.length_append, ih, List.length_cons]
    simp
    omega
def metM (met : List Addr) : List (Addr × Value) := met.map fun q => (q, .agg #[])
theorem infoStep : (Try.prog.info? 84).map (fun i => (i.zero, i.size, i.bytes)) = some (some (.agg #[.pointer none, .int .i64 0]), 2, 16) := by kernel_rfl
theorem sizeNode : (Try.prog.info? 27).map (·.size) = some 7 := by kernel_rfl
theorem zeroMet : (Try.prog.info? 81).map (·.zero) = some (some (.agg #[])) := by kernel_rfl
theorem node_info : ∃ j, Try.prog.info? 27 = some j ∧ j.size ≠ 0 := by
  have h := sizeNode
  cases hj : Try.prog.info? 27 with
  | none => rw [hj] at h; cases h
  | some j => rw [hj] at h; injection h with h; exact ⟨j, rfl, fun e => by have h2 : j.size = 7 := h; omega⟩
theorem met_info : ∃ j, Try.prog.info? 81 = some j ∧ j.zero = some (.agg #[]) := by
  have h := zeroMet
  cases hj : Try.prog.info? 81 with
  | none => rw [hj] at h; cases h
  | some j => rw [hj] at h; injection h with h; exact ⟨j, rfl, h⟩
theorem pget_met (met : List Addr) (q : Addr) : pget (metM met) q = if q ∈ met then some (.agg #[]) else none := by
  induction met with
  | nil => rfl
  | cons x met ih =>
    show pget ((x, _) :: metM met) q = _
    rw [pget_cons, ih]
    by_cases h : x = q
    · subst h; simp
    · have h2 : ¬ q = x := fun e => h e.symm
      simp [h, h2]
theorem metM_snoc (met : List Addr) (q : Addr) : metM (met ++ [q]) = metM met ++ [(q, .agg #[])] := by simp [metM]
/-- a look at the met ones, and one more -/
theorem met_look {w : World} {r : Nat} {met : List Addr} {q : Addr} (h : PtrMap w r (metM met)) (hq : Plain w q) (hm : ∀ x ∈ met, Plain w x) :
    (Instr.lookup 82 (.map (some r)) (.pointer (some q)) true).run Try.prog w = .ok (.tuple #[.agg #[], .bool (decide (q ∈ met))]) w := by
  obtain ⟨j, h1, h2⟩ := node_info
  obtain ⟨i, h3, h4⟩ := met_info
  have := run_lookup_ptr (P := Try.prog) Try.underlying82 Try.underlying49 h1 h2 h3 h4 h hq (fun x hx => by
    obtain ⟨y, hy, rfl⟩ := List.mem_map.1 hx
    exact hm y hy) true
  rw [this, pget_met]
  by_cases hqm : q ∈ met
  · simp [hqm]
  · simp [hqm]
theorem met_put {w : World} {r : Nat} {met : List Addr} {q : Addr} (h : PtrMap w r (metM met)) (hq : Plain w q) (hm : ∀ x ∈ met, Plain w x) (hn : q ∉ met) :
    ∃ o : Obj, o.isCells = false ∧ (Instr.mapUpdate 82 (.map (some r)) (.pointer (some q)) (.agg #[])).run Try.prog w = .ok () (w.putObj r o) ∧ PtrMap (w.putObj r o) r (metM (met ++ [q])) := by
  obtain ⟨j, h1, h2⟩ := node_info
  have := run_update_ptr (P := Try.prog) Try.underlying82 Try.underlying49 h1 h2 (.agg #[]) h hq (fun x hx => by
    obtain ⟨y, hy, rfl⟩ := List.mem_map.1 hx
    exact hm y hy) (by rw [pget_met, if_neg hn])
  rw [metM_snoc]
  exact this
/-- the nodes below one, whose Args are this slice -/
def kids (A : Option Addr) (n : Nat) : List Addr := (List.range n).filterMap fun i => A.map fun a => ⟨a.block, a.off + i * 7, none⟩
/-- what the iterator writes: blocks of steps, maps of its own -/
def StpU (B : Nat) (A W : World) : Prop := ∃ row, A.grownBy W row ∧ ∀ r, row = some r → B ≤ r ∧ ∃ o, A.heap[r]? = some o ∧ ((∃ es c, o = .map es c) ∨ ∃ cs f, o = .cells cs 84 f)
/-- what a body must keep of it -/
def KpU (B B2 : Nat) (A W : World) : Prop := W.heap[B2]? = A.heap[B2]? ∧ A.heap.size ≤ W.heap.size ∧ ∀ r o, B ≤ r → A.heap[r]? = some o → ((∃ es c, o = .map es c) ∨ ∃ cs f, o = .cells cs 84 f) → W.heap[r]? = some o
theorem args_F (b o : Nat) (v : Value) (w : World) (h : w.cell? ⟨b, o + 2, none⟩ = some v) :
    Calls Try.prog 33 #[.pointer (some ⟨b, o, none⟩)] w fun e w' => e = .returned v ∧ w = w' := by
  go_enter Try.func33, Try.ntmps33
  go_wp2
  go_ret
  exact ⟨rfl, rfl⟩
theorem step_inj : ∀ (a b : List (Addr × Nat)), (a.flatMap fun x => [Value.pointer (some x.1), .int .i64 (x.2 : Int)]) = (b.flatMap fun x => [Value.pointer (some x.1), .int .i64 (x.2 : Int)]) → a = b
  | [], [], _ => rfl
  | [], y :: b, h => by simp at h
  | x :: a, [], h => by simp at h
  | x :: a, y :: b, h => by
    simp only [List.flatMap_cons, List.cons_append, List.nil_append, List.cons.injEq, Value.pointer.injEq, Option.some.injEq, Value.int.injEq, true_and] at h
    obtain ⟨h1, h2, h3⟩ := h
    obtain ⟨p, i⟩ := x
    obtain ⟨q, j⟩ := y
    simp only at h1 h2
    rw [step_inj a b h3, h1, show i = j by omega]
theorem stepC_inj {a b : List (Addr × Nat)} (h : stepC a = stepC b) : a = b := by
  have := step_inj _ _ h
  have h2 := congrArg List.reverse this
  simpa using h2
theorem metM_inj : ∀ {a b : List Addr}, keysV (metM a) = keysV (metM b) → a = b
  | [], [], _ => rfl
  | [], y :: b, h => by simp [keysV, metM] at h
  | x :: a, [], h => by simp [keysV, metM] at h
  | x :: a, y :: b, h => by
    simp only [keysV, metM, List.map_cons, List.cons.injEq, Prod.mk.injEq, Value.pointer.injEq, Option.some.injEq, and_true] at h
    rw [h.1, metM_inj h.2]
theorem own_oneU {w : World} {b b' : Nat} {t : TypeId} {sz n n' : Nat} {v : Value} {xs ys : List Value} (h : w.ownsRow b t sz v n xs) (h' : w.ownsRow b' t sz v n' ys) : n = n' ∧ xs = ys := by
  rcases h.2 with ⟨hv, hn⟩ | ⟨g, cap, cur, hv, _, hg, _, _, _, hx⟩ <;> rcases h'.2 with ⟨hv', hn'⟩ | ⟨g', cap', cur', hv', _, hg', _, _, _, hx'⟩
  · have h1 := h.1
    have h2 := h'.1
    subst hn hn'
    simp at h1 h2
    exact ⟨rfl, by rw [h1, h2]⟩
  · rw [hv] at hv'; cases hv'
  · rw [hv] at hv'; cases hv'
  · rw [hv] at hv'
    cases hv'
    rw [hg] at hg'
    cases hg'
    exact ⟨rfl, by rw [← hx, ← hx']⟩
/-- between two rounds, N of them to come -/
def UpN (M : Nat) (ch : Addr → List Addr) (N : Nat) (v : Value) (wr : World) : Prop :=
  ∃ met st xs, DfsN ch met st xs N ∧ wr.ownsRow M 84 2 v st.length (stepC st) ∧ PtrMap wr M (metM met)
theorem UpN.one {M : Nat} {ch : Addr → List Addr} {N N' : Nat} {v : Value} {wr : World} (h : UpN M ch N v wr) (h' : UpN M ch N' v wr) : N = N' := by
  obtain ⟨met, st, xs, k1, k2, es, c, k3, k4⟩ := h
  obtain ⟨met', st', xs', l1, l2, es', c', l3, l4⟩ := h'
  have e1 := stepC_inj (own_oneU k2 l2).2
  rw [k3] at l3
  cases l3
  have e2 := metM_inj (k4.symm.trans l4)
  subst e1 e2
  exact (k1.one l1).2
noncomputable def upMeas (M : Nat) (ch : Addr → List Addr) (v : Value) (wr : World) : Nat := Classical.epsilon fun N => UpN M ch N v wr
theorem upMeas_of {M : Nat} {ch : Addr → List Addr} {N : Nat} {v : Value} {wr : World} (h : UpN M ch N v wr) : upMeas M ch v wr = N :=
  (UpN.one h (Classical.epsilon_spec (p := fun N => UpN M ch N v wr) ⟨N, h⟩)).symm
theorem DfsN.stack_mem {ch : Addr → List Addr} {met : List Addr} {st : List (Addr × Nat)} {xs : List Addr} {n : Nat} (h : DfsN ch met st xs n) : ∀ x ∈ st, x.1 ∈ xs := by
  induction h with
  | done met => intro x hx; cases hx
  | push met p q i st xs n h hm k ih =>
    intro x hx
    rcases List.mem_cons.1 hx with rfl | hx
    · exact ih (p, i + 1) (by simp)
    · exact ih x (by simp [hx])
  | skip met p q i st xs n h hm k ih =>
    intro x hx
    rcases List.mem_cons.1 hx with rfl | hx
    · exact ih (p, i + 1) (by simp)
    · exact ih x (by simp [hx])
  | pop met p i st xs n h k ih =>
    intro x hx
    rcases List.mem_cons.1 hx with rfl | hx
    · simp
    · exact List.mem_cons_of_mem _ (ih x hx)
theorem own_pop {w : World} {base g k cap : Nat} {e : TypeId} {xs : List Value} {a b : Value} (h : w.ownsRow base e 2 (.slice (some ⟨g, 0, none⟩) (k + 1) cap) (k + 1) (xs ++ [a, b])) : w.ownsRow base e 2 (.slice (some ⟨g, 0, none⟩) k cap) k xs := by
  have h1 := h.1
  rw [List.length_append] at h1
  simp only [List.length_cons, List.length_nil] at h1
  have hxl : xs.length = k * 2 := by omega
  rcases h.2 with ⟨h', _⟩ | ⟨g', cap', cur, h', hb, hg, hnc, hcm, hcs, htake⟩
  · simp at h'
  · simp only [Value.slice.injEq, Option.some.injEq, Addr.mk.injEq, and_true, true_and] at h'
    obtain ⟨rfl, rfl⟩ := h'
    refine ⟨hxl, .inr ⟨g, cap, cur, rfl, hb, hg, by omega, hcm, hcs, ?_⟩⟩
    have := congrArg (List.take (k * 2)) htake
    rw [List.take_take, List.take_append_of_le_length (by omega), List.take_of_length_le (by omega : xs.length ≤ k * 2), show min (k * 2) ((k + 1) * 2) = k * 2 by omega] at this
    exact this
theorem own_same {w w' : World} {base g k cap n : Nat} {e : TypeId} {xs : List Value} (h : w.ownsRow base e 2 (.slice (some ⟨g, 0, none⟩) k cap) n xs) (he : w'.heap[g]? = w.heap[g]?) : w'.ownsRow base e 2 (.slice (some ⟨g, 0, none⟩) k cap) n xs := by
  refine ⟨h.1, ?_⟩
  rcases h.2 with ⟨h', _⟩ | ⟨g', cap', cur, h', hb, hg, hr⟩
  · simp at h'
  · have h2 := h'
    simp only [Value.slice.injEq, Option.some.injEq, Addr.mk.injEq, and_true, true_and] at h2
    obtain ⟨rfl, _⟩ := h2
    exact .inr ⟨g, cap', cur, h', hb, he.trans hg, hr⟩
theorem own_block {w : World} {base g k cap n : Nat} {e : TypeId} {xs : List Value} (h : w.ownsRow base e 2 (.slice (some ⟨g, 0, none⟩) k cap) n xs) : base ≤ g ∧ ∃ cur, w.heap[g]? = some (.cells cur e (0, 0)) := by
  rcases h.2 with ⟨h', _⟩ | ⟨g', cap', cur, h', hb, hg, hr⟩
  · simp at h'
  · simp only [Value.slice.injEq, Option.some.injEq, Addr.mk.injEq, and_true, true_and] at h'
    obtain ⟨rfl, _⟩ := h'
    exact ⟨hb, cur, hg⟩
theorem stepC_set (p : Addr) (i j : Nat) (st : List (Addr × Nat)) : (stepC ((p, i) :: st)).set (st.length * 2 + 1) (.int .i64 (j : Int)) = stepC ((p, j) :: st) := by
  rw [stepC_cons, stepC_cons, List.set_append_right _ _ (by rw [stepC_len]; omega), stepC_len, Nat.add_sub_cancel_left]
  rfl
theorem DfsN.stack_len {ch : Addr → List Addr} {met : List Addr} {st : List (Addr × Nat)} {xs : List Addr} {n : Nat} (h : DfsN ch met st xs n) : st.length ≤ xs.length := by
  induction h with
  | done met => exact Nat.le_refl _
  | push met p q i st xs n h hm k ih => simp only [List.length_cons] at ih ⊢; omega
  | skip met p q i st xs n h hm k ih => simp only [List.length_cons] at ih ⊢; omega
  | pop met p i st xs n h k ih => simp only [List.length_cons] at ih ⊢; omega
theorem news_cells (w : World) (a b : Value) (t : TypeId) (k : Nat) (hk : w.heap.size = k) : ∀ j u, [a, b][j]? = some u → (w.alloc (.cells #[a, b] t)).cell? ((⟨k, 0, none⟩ : Addr).add j) = some u := by
  subst hk
  intro j u h
  rw [addr_adds, cell_of_row _ _ j #[a, b] t (0, 0) (World.alloc_heap_new w _)]
  simpa using h
theorem grow_put (W : World) (r : Nat) (o : Obj) : W.grownBy (W.putObj r o) (some r) :=
  ⟨rfl, rfl, rfl, by simp [World.putObj], fun k _ hk => World.putObj_heap_other (fun e => hk (by rw [e]))⟩
theorem step_info : ∃ j, Try.prog.info? 84 = some j ∧ j.zero = some (.agg #[.pointer none, .int .i64 0]) ∧ j.size = 2 ∧ j.bytes = 16 := by
  have h := infoStep
  cases hj : Try.prog.info? 84 with
  | none => rw [hj] at h; cases h
  | some j =>
    rw [hj] at h
    injection h with h
    exact ⟨j, rfl, congrArg (·.1) h, congrArg (·.2.1) h, congrArg (·.2.2) h⟩
def UpR (B2 M : Nat) (ch : Addr → List Addr) (D : Addr → Prop) (ys : List Addr) (J : List Addr → World → Prop) (v : Value) (wr : World) : Prop :=
  ∃ N met st pre xs, DfsN ch met st xs N ∧ pre ++ xs = ys ∧ J pre wr ∧ wr.ownsRow M 84 2 v st.length (stepC st) ∧ PtrMap wr M (metM met) ∧
    Boxed wr B2 62 (.func (.func 33) #[] #[]) ∧ (∀ x ∈ met, D x) ∧ (∀ x ∈ st, D x.1) ∧ M < wr.heap.size
set_option maxHeartbeats 4000000 in
set_option maxRecDepth 100000 in
theorem up1_in {n : Nat} (hn : 1 ≤ n) (l B1 B2 B : Nat) (root : Addr) (ch : Addr → List Addr) (D : Addr → Prop) (hw : Within ch D) (ys : List Addr) (cnt : Nat) (hdfs : DfsN ch [root] [(root, 0)] ys cnt) (hnd : ys.Nodup) (hroot : D root)
    (J : List Addr → World → Prop) (hJS : ∀ s A W, J s A → StpU B A W → J s W)
    (hJN : ∀ pre W, J pre W → ∀ p, D p → Plain W p ∧ p.spot = none ∧ (p ∉ pre → ∃ (A : Option Addr) (m c : Nat), W.cell? ⟨p.block, p.off + 2, none⟩ = some (.slice A m c) ∧ ch p = kids A m ∧ (0 < m → ∃ b o, A = some ⟨b, o, none⟩) ∧ m ≤ 1099511627776)) (hlen : ys.length ≤ 1099511627776)
    (hY : ∀ pre x W, J pre W → pre ++ [x] <+: ys → YieldAt Fence.wide (n - 1) Try.prog l #[.pointer (some x)] W fun e W' => e = .returned (.bool true) ∧ J (pre ++ [x]) W' ∧ KpU B B2 W W')
    (W : World) (hB : B ≤ W.heap.size) (b1 : Boxed W B1 49 (.pointer (some root))) (b2 : Boxed W B2 62 (.func (.func 33) #[] #[])) (h0 : J [] W) :
    CallsIn Fence.wide n Try.prog 51 #[.func (.yield l) #[] #[], .pointer (some ⟨B1, 0, none⟩), .pointer (some ⟨B2, 0, none⟩)] W fun e W' => (∃ v, e = .returned v) ∧ J ys W' := by
  refine callsIn_of_wp Try.func51 rfl trivial ?_ rfl
  simp only [Try.ntmps51, List.size_toArray, List.length_cons, List.length_nil, Nat.reduceAdd, Nat.reduceSub, Array.replicate_succ, Array.replicate_zero, List.push_toArray, List.append_toArray, List.nil_append, List.cons_append]
  have c1 := b1.cell
  have c2 := b2.cell
  have hpr := (hJN [] W h0 root hroot).1
  obtain ⟨o1, ho1, hu1, hm1⟩ := met_put (q := root) (met := []) (PtrMap.new W) (hpr.later (m1 W _)) (by simp) (by simp)
  have hmk : (Instr.makeMap 82 none).run Try.prog W = .ok (.map (some W.heap.size)) (W.alloc (.map #[] 0)) := run_makeMap_plain W _
  have c1a := (b1.alloc (.map #[] 0)).cell
  have b1o : Boxed ((W.alloc (.map #[] 0)).putObj W.heap.size o1) B1 49 (.pointer (some root)) := (World.putObj_heap_other (by have := b1.lt; omega)).trans (b1.alloc _)
  have b2o : Boxed ((W.alloc (.map #[] 0)).putObj W.heap.size o1) B2 62 (.func (.func 33) #[] #[]) := (World.putObj_heap_other (by have := b2.lt; omega)).trans (b2.alloc _)
  have c1o := b1o.cell
  have c2o := b2o.cell
  gi_wp2
  generalize hM : W.heap.size = M at *
  have hR0 : UpR B2 M ch D ys J (.slice (some ⟨M + 1, 0, none⟩) 1 1) (((W.alloc (.map #[] 0)).putObj M o1).alloc (.cells #[.pointer (some root), .int .i64 0] 84)) := by
    have hs1 : ((W.alloc (.map #[] 0)).putObj M o1).heap.size = M + 1 := by simp [World.putObj, hM]
    have g0 := World.grownBy_alloc ((W.alloc (.map #[] 0)).putObj M o1) (.cells #[.pointer (some root), .int .i64 0] 84) none
    have own := World.ownsRow_lit (base := M) (e := 84) (size := 2) ((W.alloc (.map #[] 0)).putObj M o1) #[.pointer (some root), .int .i64 0] 1 (by omega) (by decide) rfl
    rw [hs1] at own
    refine ⟨cnt, [root], [(root, 0)], [], ys, hdfs, rfl, hJS _ W _ h0 ⟨none, ⟨rfl, rfl, rfl, ?_, fun k hk _ => ?_⟩, fun r h => by cases h⟩, own, hm1.same (g0.block M (by omega) (by simp)), (g0.block B2 b2o.lt (by simp)).trans b2o, fun x hx => by rw [List.mem_singleton.1 hx]; exact hroot, fun x hx => by rw [List.mem_singleton.1 hx]; exact hroot, ?_⟩
    · have := g0.size
      omega
    · exact (g0.block k (by omega) (by simp)).trans ((World.putObj_heap_other (by omega)).trans ((World.grownBy_alloc W _ none).block k hk (by simp)))
    · have := g0.size
      omega
  gi_loopw [5] (fun v wr => UpR B2 M ch D ys J v wr) (fun v wr => upMeas M ch v wr)
  case atStart => first | exact hR0
  case round =>
    obtain ⟨N, met, st, pre, xs, hN, hpx, hJ, hO, hMp, hb2, hmD, hsD, hMl⟩ := hrel
    clear hR0 hu1 hm1 hmk c1a b1o b2o c1o c2o c1 c2 b1 b2 h0 hpr ho1 hM
    have hz := upMeas_of ⟨met, st, xs, hN, hO, hMp⟩
    have e2 := hb2.cell
    cases st with
    | nil =>
      cases hN
      rw [List.append_nil] at hpx
      subst hpx
      obtain ⟨a5, c5, rfl⟩ : ∃ a c, u5 = .slice a 0 c := by
        rcases hO.2 with ⟨h, _⟩ | ⟨g, cap, cur, h, _⟩
        · exact ⟨_, _, h⟩
        · exact ⟨_, _, h⟩
      gi_wp2
      first | go_end0 | skip
      first | exact ⟨⟨_, rfl⟩, hJ⟩
    | cons x st =>
      obtain ⟨p, i⟩ := x
      obtain ⟨g, cap, rfl, hg1, hg2⟩ : ∃ g cap, u5 = .slice (some ⟨g, 0, none⟩) (st.length + 1) cap ∧ st.length + 1 ≤ cap ∧ cap ≤ maxLen := by
        rcases hO.2 with ⟨_, h⟩ | ⟨g, cap, cur, h1, _, _, h2, h3, _⟩
        · simp at h
        · exact ⟨g, cap, by simpa using h1, by simpa using h2, h3⟩
      have hc := hO.cells (g := g) rfl
      have q0 : wr.cell? ⟨g, st.length * 2, none⟩ = some (.pointer (some p)) := by
        have := hc (st.length * 2) (.pointer (some p)) (by rw [stepC_cons, List.getElem?_append_right (by rw [stepC_len]; omega), stepC_len, Nat.sub_self]; rfl)
        rw [addr_adds] at this
        exact this
      have q1 : wr.cell? ⟨g, st.length * 2 + 1, none⟩ = some (.int .i64 (i : Int)) := by
        have := hc (st.length * 2 + 1) (.int .i64 (i : Int)) (by rw [stepC_cons, List.getElem?_append_right (by rw [stepC_len]; omega), stepC_len, Nat.add_sub_cancel_left]; rfl)
        rw [addr_adds] at this
        exact this
      have hml : cap ≤ 9223372036854775807 := by unfold maxLen at hg2; omega
      have w1 : IntKind.i64.wrap (((st.length + 1 : Nat) : Int) - 1) = (st.length : Int) := by rw [IntKind.wrap_i64]; omega
      have l1 : ((st.length + 1 : Nat) : Int) > 0 := by omega
      have hpD : D p := hsD (p, i) (by simp)
      have hpp : p ∉ pre := by
        intro h
        rw [← hpx] at hnd
        exact (List.nodup_append.1 hnd).2.2 p h p (hN.stack_mem (p, i) (by simp)) rfl
      obtain ⟨_, hspot, hA⟩ := hJN pre wr hJ p hpD
      obtain ⟨A, m, c, hcell, hch, hAo, hmb⟩ := hA hpp
      obtain ⟨pb, po, ps⟩ := p
      obtain rfl : ps = none := hspot
      have CA : ∀ k, Calls Try.prog 33 #[.pointer (some ⟨pb, po, none⟩)] (wr.drewN k) fun e w' => e = .returned (.slice A m c) ∧ wr.drewN k = w' := fun k => args_F pb po _ _ hcell
      replace CA := Lib.hid CA
      gi_wp2
      refine wpIn_wide.2 ?_
      go_quiet (first | (go_at_call 33; with_reducible exact Calls.quiet_of_same ((CA.out _).mono fun e w' h => (⟨h.1, h.2.symm⟩ : e = .returned (.slice A m c) ∧ w' = _))))
      obtain ⟨hMg, cur, hgc⟩ := own_block hO
      have hgM : M ≠ g := fun e => by
        obtain ⟨es, ck, hm2, _⟩ := hMp
        rw [e, hgc] at hm2
        cases hm2
      have hJd : J pre (wr.drewN nq) := hJS _ _ _ hJ ⟨none, ⟨rfl, rfl, rfl, Nat.le_refl _, fun _ _ _ => rfl⟩, fun r h => by cases h⟩
      by_cases him : i < m
      · obtain ⟨ab, ao, rfl⟩ := hAo (by omega)
        have hq : (ch ⟨pb, po, none⟩)[i]? = some ⟨ab, ao + i * 7, none⟩ := by
          rw [hch]
          simp [kids, him]
        have qD : D ⟨ab, ao + i * 7, none⟩ := hw _ hpD _ (List.mem_of_getElem? hq)
        have li : (i : Int) < (m : Int) := by omega
        have wi : IntKind.i64.wrap ((i : Int) + 1) = (i : Int) + 1 := by rw [IntKind.wrap_i64]; omega
        have fz : wr.frozen? ⟨g, st.length * 2 + 1, none⟩ = false := hO.frozenAt (st.length * 2 + 1)
        obtain ⟨s1, s2⟩ := World.ownsRow.stored (w := wr.drewN nq) hO (st.length * 2 + 1) (.int .i64 ((i : Int) + 1))
        rw [show ((i : Int) + 1) = ((i + 1 : Nat) : Int) by omega, stepC_set, ← show ((i : Int) + 1) = ((i + 1 : Nat) : Int) by omega] at s1
        have hMp1 : PtrMap ((wr.drewN nq).setCell ⟨g, st.length * 2 + 1, none⟩ (.int .i64 ((i : Int) + 1))) M (metM met) := hMp.same (s2.block M hMl (fun e => hgM (Option.some.inj e)))
        have hb21 : Boxed ((wr.drewN nq).setCell ⟨g, st.length * 2 + 1, none⟩ (.int .i64 ((i : Int) + 1))) B2 62 (.func (.func 33) #[] #[]) :=
          (s2.block B2 hb2.lt (fun e => by rw [Option.some.inj e] at hb2; have := hb2.symm.trans hgc; simp at this)).trans hb2
        have hJ1 : J pre ((wr.drewN nq).setCell ⟨g, st.length * 2 + 1, none⟩ (.int .i64 ((i : Int) + 1))) := hJS _ _ _ hJd ⟨some g, s2, fun r hr => by cases hr; exact ⟨by omega, _, hgc, .inr ⟨_, _, rfl⟩⟩⟩
        have hPl : ∀ x, D x → Plain ((wr.drewN nq).setCell ⟨g, st.length * 2 + 1, none⟩ (.int .i64 ((i : Int) + 1))) x := fun x hx => (hJN _ _ hJ1 x hx).1
        have hL := met_look hMp1 (hPl _ qD) (fun x hx => hPl x (hmD x hx))
        have hML : M < ((wr.drewN nq).setCell ⟨g, st.length * 2 + 1, none⟩ (.int .i64 ((i : Int) + 1))).heap.size := Nat.lt_of_lt_of_le hMl s2.size
        by_cases hqm : (⟨ab, ao + i * 7, none⟩ : Addr) ∈ met
        · rw [decide_eq_true hqm] at hL
          cases hN with
          | pop _ _ _ _ _ _ h => rw [hq] at h; cases h
          | push _ _ q' _ _ _ _ h hm => rw [hq] at h; cases h; exact absurd hqm hm
          | skip _ _ q' _ _ _ N h hm hN =>
          gi_wp2
          case roundEnd =>
            generalize hW1 : (wr.drewN nq).setCell ⟨g, st.length * 2 + 1, none⟩ (.int .i64 ((i : Int) + 1)) = W1 at *
            have g1 : W1.grownBy (W1.alloc (.cells #[] 81)) none := World.grownBy_alloc W1 _ none
            have k1 : UpR B2 M ch D ys J (.slice (some ⟨g, 0, none⟩) (st.length + 1) cap) (W1.alloc (.cells #[] 81)) :=
              ⟨N, met, (⟨pb, po, none⟩, i + 1) :: st, pre, xs, hN, hpx, hJS _ _ _ hJ1 ⟨none, g1, fun r h => by cases h⟩, s1.alloc _, hMp1.same (g1.block M hML (by simp)), (g1.block B2 hb21.lt (by simp)).trans hb21, hmD, fun x hx => by
                rcases List.mem_cons.1 hx with rfl | hx
                · exact hpD
                · exact hsD x (List.mem_cons_of_mem _ hx), Nat.lt_of_lt_of_le hML g1.size⟩
            refine ⟨k1, ?_⟩
            have hm3 : upMeas M ch (.slice (some ⟨g, 0, none⟩) (st.length + 1) cap) (W1.alloc (.cells #[] 81)) = N := upMeas_of ⟨met, (⟨pb, po, none⟩, i + 1) :: st, xs, hN, s1.alloc _, hMp1.same (g1.block M hML (by simp))⟩
            rw [hm3]
            first | omega | (rw [hz]; omega)
        · rw [decide_eq_false hqm] at hL
          cases hN with
          | pop _ _ _ _ _ _ h => rw [hq] at h; cases h
          | skip _ _ q' _ _ _ _ h hm => rw [hq] at h; cases h; exact absurd hm hqm
          | push _ _ q' _ _ _ N h hm hN =>
          obtain rfl : (⟨ab, ao + i * 7, none⟩ : Addr) = q' := by rw [hq] at h; exact Option.some.inj h
          have hsl : st.length + 2 ≤ 1099511627776 := by
            have h1 := hN.stack_len
            simp only [List.length_cons] at h1
            have h2 := congrArg List.length hpx
            rw [List.length_append] at h2
            omega
          have g1 := World.grownBy_alloc ((wr.drewN nq).setCell ⟨g, st.length * 2 + 1, none⟩ (.int .i64 ((i : Int) + 1))) (.cells #[] 81) none
          have hMp2 : PtrMap (((wr.drewN nq).setCell ⟨g, st.length * 2 + 1, none⟩ (.int .i64 ((i : Int) + 1))).alloc (.cells #[] 81)) M (metM met) := hMp1.same (g1.block M hML (by simp))
          have hJ2 := hJS _ _ _ hJ1 ⟨none, g1, fun r h => by cases h⟩
          obtain ⟨o2, ho2, hu2, hm2⟩ := met_put hMp2 (hJN _ _ hJ2 _ qD).1 (fun x hx => (hJN _ _ hJ2 _ (hmD x hx)).1) hqm
          obtain ⟨i0, hi, hi1, hi2, hi3⟩ := step_info
          have s2' := s1.alloc (.cells #[] 81)
          have hb22 := (g1.block B2 hb21.lt (by simp)).trans hb21
          have s3 := own_same (w' := (((wr.drewN nq).setCell ⟨g, st.length * 2 + 1, none⟩ (.int .i64 ((i : Int) + 1))).alloc (.cells #[] 81)).putObj M o2) s2' (World.putObj_heap_other (fun e => hgM e.symm))
          have g3 := ((g1.but (some M)).trans (grow_put _ M o2)).trans (World.grownBy_alloc _ (.cells #[.pointer (some ⟨ab, ao + i * 7, none⟩), .int .i64 0] 84) (some M))
          have hJ4 := hJS _ _ _ hJ1 ⟨some M, g3, fun r hr => by
            cases hr
            obtain ⟨es, ck, he, _⟩ := hMp1
            exact ⟨hB, _, he, .inl ⟨_, _, rfl⟩⟩⟩
          have b3 : M ≤ ((((((wr.drewN nq).setCell ⟨g, st.length * 2 + 1, none⟩ (.int .i64 ((i : Int) + 1))).alloc (.cells #[] 81)).putObj M o2).alloc (.cells #[.pointer (some ⟨ab, ao + i * 7, none⟩), .int .i64 0] 84))).heap.size := Nat.le_of_lt (Nat.lt_of_lt_of_le hML g3.size)
          have s4 := s3.alloc (.cells #[.pointer (some ⟨ab, ao + i * 7, none⟩), .int .i64 0] 84)
          have hnew := Lib.hid (news_cells ((((wr.drewN nq).setCell ⟨g, st.length * 2 + 1, none⟩ (.int .i64 ((i : Int) + 1))).alloc (.cells #[] 81)).putObj M o2) (.pointer (some ⟨ab, ao + i * 7, none⟩)) (.int .i64 0) 84 (wr.heap.size + 1) (by simp [World.putObj]))
          replace b3 := Lib.hid b3
          replace g3 := Lib.hid g3
          gi_wp2_with (gi_at_builtin; go_loud (refine wpListIn_append_own _ rfl _ _ 85 rfl M 84 i0 (.agg #[.pointer none, .int .i64 0]) 2 16 Try.underlying85 hi hi1 hi2 hi3 rfl (by decide) _ _ _ rfl s4 ⟨_, 0, none⟩ 1 1 [.pointer (some ⟨ab, ao + i * 7, none⟩), .int .i64 0] rfl rfl hnew.out (by simp [Value.oneCell']) (by simp only [List.length_cons]; unfold maxLen; omega) (by simp only [List.length_cons]; omega) b3.out ?_; intro v' w5 hown5 hg5 _))
          case roundEnd =>
            have hMb : w5.heap[M]? = _ := hg5.block M (Nat.lt_of_lt_of_le hML g3.out.size) (fun e => hgM (Option.some.inj e))
            have hMp5 : PtrMap w5 M (metM (met ++ [⟨ab, ao + i * 7, none⟩])) := (hm2.same ((World.grownBy_alloc _ _ none).block M hm2.lt (by simp))).same hMb
            have hB2M : B2 ≠ M := fun e => by
              obtain ⟨es, ck, he, _⟩ := hMp
              rw [← e] at he
              have := hb2.symm.trans he
              cases this
            have hB2g : B2 ≠ g := fun e => by
              rw [← e] at hgc
              have := hb2.symm.trans hgc
              simp at this
            have hb25 : Boxed w5 B2 62 (.func (.func 33) #[] #[]) :=
              (hg5.block B2 (Nat.lt_of_lt_of_le hb21.lt g3.out.size) (fun e => hB2g (Option.some.inj e))).trans ((g3.out.block B2 hb21.lt (fun e => hB2M (Option.some.inj e))).trans hb21)
            have hJ5 := hJS _ _ w5 hJ4 ⟨some g, hg5, fun r hr => by
              cases hr
              exact ⟨by omega, _, (own_block s4).2.choose_spec, .inr ⟨_, _, rfl⟩⟩⟩
            have hown : w5.ownsRow M 84 2 v' ((⟨ab, ao + i * 7, none⟩, 0) :: (⟨pb, po, none⟩, i + 1) :: st).length (stepC ((⟨ab, ao + i * 7, none⟩, 0) :: (⟨pb, po, none⟩, i + 1) :: st)) := by
              rw [stepC_cons]
              exact hown5
            have k1 : UpR B2 M ch D ys J v' w5 :=
              ⟨N, met ++ [⟨ab, ao + i * 7, none⟩], _, pre, xs, hN, hpx, hJ5, hown, hMp5, hb25, fun x hx => by
                rcases List.mem_append.1 hx with hx | hx
                · exact hmD x hx
                · rw [List.mem_singleton.1 hx]; exact qD, fun x hx => by
                rcases List.mem_cons.1 hx with rfl | hx
                · exact qD
                rcases List.mem_cons.1 hx with rfl | hx
                · exact hpD
                · exact hsD x (List.mem_cons_of_mem _ hx), Nat.lt_of_lt_of_le hML (Nat.le_trans g3.out.size hg5.size)⟩
            refine ⟨k1, ?_⟩
            rw [upMeas_of ⟨_, _, xs, hN, hown, hMp5⟩]
            first | omega | (rw [hz]; omega)
      · have li : ¬ (i : Int) < (m : Int) := by omega
        have hq : (ch ⟨pb, po, none⟩)[i]? = none := by
          rw [hch]
          refine List.getElem?_eq_none (Nat.le_trans ?_ (Nat.le_of_not_lt him))
          unfold kids
          exact Nat.le_trans (List.length_filterMap_le _ _) (by simp)
        cases hN with
        | push _ _ q _ _ _ _ h => rw [hq] at h; cases h
        | skip _ _ q _ _ _ _ h => rw [hq] at h; cases h
        | pop _ _ _ _ xs N _ hN =>
        obtain ⟨fn, tmps, assign, body, hy, hR⟩ := hY pre ⟨pb, po, none⟩ (wr.drewN nq) hJd ⟨xs, by rw [← hpx, List.append_assoc]; rfl⟩
        gi_wp2
        refine hR.mono ?_
        rintro e W3 ⟨rfl, hJ3, hk3⟩
        gi_wp2
        have hBg : B ≤ g := by omega
        have e3 : W3.heap[g]? = wr.heap[g]? := (hk3.2.2 g _ hBg hgc (.inr ⟨_, _, rfl⟩)).trans hgc.symm
        have hO' := hO
        rw [stepC_cons] at hO'
        have hO3 : W3.ownsRow M 84 2 (.slice (some ⟨g, 0, none⟩) st.length cap) st.length (stepC st) := own_same (own_pop hO') e3
        have hMp3 : PtrMap W3 M (metM met) := by
          obtain ⟨es, ck, h1, h2⟩ := hMp
          exact ⟨es, ck, hk3.2.2 M _ hB h1 (.inl ⟨_, _, rfl⟩), h2⟩
        go_roundw
        case rel =>
          exact ⟨N, met, st, pre ++ [⟨pb, po, none⟩], xs, hN, by rw [List.append_assoc]; exact hpx, hJ3, hO3, hMp3, hk3.1.trans hb2, hmD, fun x hx => hsD x (List.mem_cons_of_mem _ hx), Nat.lt_of_lt_of_le hMl hk3.2.1⟩
        case measure =>
          rw [upMeas_of ⟨met, st, xs, hN, hO3, hMp3⟩]
          first | omega | (rw [hz]; omega)
end Go.Proofs.Ytkcejaccpahjhaa
