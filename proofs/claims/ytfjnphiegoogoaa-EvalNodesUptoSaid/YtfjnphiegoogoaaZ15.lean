/- Rnd, AskB -/
import Derived.Test.YtfjnphiegoogoaaZ08
import Derived.OrdersIn
import Derived.RangeFuncCalls
import Derived.Test.YtfjnphiegoogoaaZ14
/- Rnd -/
namespace Go.Proofs.Ytfjnphiegoogoaa
open Go.RowKit
set_option linter.unusedVariables false

theorem Oper.wpIn_of_wp {P : Program} {l n : Nat} {o : Oper} {a : Act} {w : World} {K : Act → World → Prop} {Q : Exit → Act → World → Prop} (hd : ∀ c, o.op ≠ .defer c) (h : Oper.wp P o a w K Q) : Oper.wpIn (Fence.wide.inRound l) n P o a w K Q := by
  refine ⟨fun _ _ => trivial, ?_⟩
  rw [Oper.semAt_eq _ _ _ hd]
  unfold Oper.wp at h
  generalize (execOp a.eval o).run P w = r at *
  cases r with
  | ok x w' =>
    cases x with
    | value v => exact h
    | skip => exact h
    | defer d => exact h
    | enter f args =>
      refine ⟨fun h => by simp [Fence.wide, Fence.inRound] at h, ?_⟩
      have h1 := (callsIn_wide (n := n - 1)).2 (show Calls P f args w' _ from h)
      exact CallsIn.mono (show CallsIn (Fence.wide.inRound l) (n - 1) P f args w' _ from h1) (fun e w'' he => he)
    | row row args =>
      refine ⟨fun h => by simp [Fence.wide, Fence.inRound] at h, ?_⟩
      intro c cs _
      obtain ⟨v, w2, h1, h2⟩ := (show Rows P row args w' _ from h) c cs
      exact ⟨v, w2, h1, stepsIn_wide.2 h2⟩
    | _ => exact absurd h (by simp [Oper.upon])
  | halt x w' =>
    cases x with
    | panic v => exact h
    | _ => exact absurd h (by simp [Oper.upon])
theorem wpAnyIn_of_wpAny {P : Program} {l n : Nat} {md : Region.Mode} {ops : Array Oper} {Q : Exit → Act → World → Prop} (hd : ∀ (i : Nat) (o : Oper), ops[i]? = some o → ∀ c, o.op ≠ .defer c) (hL : ¬ LetsOut Q) :
    ∀ (fuel : Nat) (listed : Array Bool) (a : Act) (w : World), wpAny P md ops Q fuel listed a w → wpAnyIn (Fence.wide.inRound l) n P md ops Q fuel listed a w
  | 0, _, _, _, h => h
  | fuel + 1, listed, a, w, h => by
    refine ⟨h.1, fun i hi => ?_⟩
    have h2 := h.2 i hi
    unfold wpOp at h2
    unfold wpOpIn
    cases ho : ops[i]? with
    | none =>
      rw [ho] at h2
      exact wpAnyIn_of_wpAny hd hL fuel _ _ _ h2
    | some o =>
      rw [ho] at h2
      simp only at h2 ⊢
      split
      · rename_i hw
        rw [if_pos hw] at h2
        exact Oper.wpIn_of_wp (hd i o ho) (Oper.wp_mono (fun a w h => wpAnyIn_of_wpAny hd hL fuel _ a w h) (h2.resolve_right fun h => hL h.2))
      · rename_i hw
        rw [if_neg hw] at h2
        exact ⟨fun _ _ => trivial, wpAnyIn_of_wpAny hd hL fuel _ _ _ h2⟩
/-- no operation of these defers -/
def noDefer (ops : List Oper) : Bool := ops.all fun o => match o.op with | .defer _ => false | _ => true
theorem noDefer_spec {ops : Array Oper} (h : noDefer ops.toList = true) : ∀ (i : Nat) (o : Oper), ops[i]? = some o → ∀ c, o.op ≠ .defer c := by
  intro i o ho c e
  have := List.all_eq_true.1 h o (Array.mem_toList_iff.2 (Array.mem_of_getElem? ho))
  rw [e] at this
  cases this
/-- leaves as it should, or not at all -/
def NormQ (Q : Exit → Act → World → Prop) : Exit → Act → World → Prop := fun e a w => e = .normal ∧ Q .normal a w
theorem normQ_out (Q : Exit → Act → World → Prop) : ¬ LetsOut (NormQ Q) := by
  rintro ⟨a, w, h, _⟩
  cases h
theorem region_in {P : Program} {l n id : Nat} {ops : Array Oper} {Q : Exit → Act → World → Prop} {a : Act} {w : World} (hd : noDefer ops.toList = true) (hm : P.follows .mixedOrders = true) (h : wpAny P .any ops (NormQ Q) ops.size (Array.replicate ops.size false) a w.drew) :
    (Code.region id ops true).wpIn (Fence.wide.inRound l) n P Q a w := by
  refine wpIn_mono (wpIn_region_any hm (wpAnyIn_of_wpAny (noDefer_spec hd) (normQ_out Q) _ _ _ _ h)) ?_
  rintro e a w ⟨rfl, h⟩
  exact h
section
variable {P : Program} {ops : Array Oper} {Q : Exit → Act → World → Prop} {C : Act → World → Prop} {T : World → World → Prop} {V : Nat → Value → World → Prop} {a0 : Act} {m : Nat}
/-- the region: its operations ahead of m each keep their word (V) and the frame's and world's (C); then comes what is late -/
theorem wpAny_region_inv {w : World} (m : Nat) (C : Act → World → Prop) (T : World → World → Prop) (V : Nat → Value → World → Prop)
    (hB : (backB ops && dstsB ops a0.tmps.size m && lateB ops m && decide (m ≤ ops.size)) = true)
    (hTr : ∀ w, T w w)
    (hV : ∀ i v w w', V i v w → T w w' → V i v w') (hC0 : C a0 w.drew)
    (hstep : ∀ i o, i < m → ops[i]? = some o → ∀ a w, C a w → a.defers = a0.defers → (∀ k, (∀ (i : Nat) o, ops[i]? = some o → o.dst ≠ some k) → a.tmps.getD k undef = a0.tmps.getD k undef) →
      (∀ e ∈ o.after, Region.binds .any e = true → V e.on (valOf ops a e.on) w) →
      if Region.wanted o (yielded ops a.tmps) = true then o.wp P a w (fun a' w' => ∃ v, a' = a.put o.dst v ∧ V i v w' ∧ T w w' ∧ C a' w') Q ∨ (o.asks P a w ∧ LetsOut Q) else V i undef w ∧ C (a.put o.dst undef) w)
    (hend : ∀ (vs : Nat → Value) (w : World), C (putAll (ops.toList.take m) 0 vs a0) w → (∀ i, i < m → V i (vs i) w) →
      ∀ listed : Array Bool, listed.size = ops.size → (∀ i, i < ops.size → listed.getD i true = decide (i < m)) → wpAny P .any ops Q (ops.size - m) listed (putAll (ops.toList.take m) 0 vs a0) w) :
    wpAny P .any ops Q ops.size (Array.replicate ops.size false) a0 w.drew := by
  simp only [Bool.and_eq_true, decide_eq_true_eq] at hB
  obtain ⟨⟨⟨h1, h2⟩, h3⟩, h4⟩ := hB
  have hfalse : ∀ i, i < ops.size → (Array.replicate ops.size false).getD i true = false := by
    intro i hi
    simp [Array.getD_eq_getD_getElem?, hi]
  have hcome : toCome m (Array.replicate ops.size false) = m := by
    unfold toCome
    rw [List.filter_eq_self.2]
    · simp
    · intro i hi
      have := List.mem_range.1 hi
      rw [hfalse i (by omega)]
      rfl
  have := wpAny_inv (Q := Q) (C := C) (T := T) (V := V) h1 h2 h3 h4 hV hstep hTr hend m (Array.replicate ops.size false) a0 w.drew hcome
    ⟨rfl, rfl, fun _ _ => rfl, by simp, fun i _ hi => hfalse i hi, hC0, fun i hi h => (by rw [hfalse i hi] at h; cases h), fun i hi h => by rw [hfalse i hi] at h; cases h⟩
  rw [show m + (ops.size - m) = ops.size by omega] at this
  exact this
end
end Go.Proofs.Ytfjnphiegoogoaa
namespace Go.Proofs.Ytfjnphiegoogoaa.G
open Go.ChangeShapes Go.WideShapes Go.ChangeAt Go.RowKit
section
variable {P : Program} {ops : Array Oper} {Q : Exit → Act → World → Prop} {C : World → Prop} {D : Act → World → Prop} {words : List (Value → World → Prop)} {a0 : Act}
/-- the general form: D speaks of the frame too; what is late (from m on) comes at the end -/
theorem region_wordsIn {l n id : Nat} {w : World} (m : Nat) (C : World → Prop) (D : Act → World → Prop) (words : List (Value → World → Prop)) (hlen : (words.length == m) = true) (hW : monoL words)
    (hB : (backB ops && dstsB ops a0.tmps.size m && lateB ops m && decide (m ≤ ops.size)) = true)
    (hdf : noDefer ops.toList = true) (hmo : P.follows .mixedOrders = true) (hC0 : C w.drew) (hD0 : D a0 w.drew)
    (hsteps : stepsL P ops (NormQ Q) C D words a0 (ops.toList.take m) 0)
    (hend : ∀ (vs : Nat → Value) (w : World), C w → D (putAll (ops.toList.take m) 0 vs a0) w → holdsL vs w words 0 →
      wpAny P .any ops (NormQ Q) (ops.size - m) ((List.range ops.size).map fun i => decide (i < m)).toArray (putAll (ops.toList.take m) 0 vs a0) w) :
    (Code.region id ops true).wpIn (Fence.wide.inRound l) n P Q a0 w := by
  have hl : words.length = m := by simpa using hlen
  refine region_in hdf hmo (wpAny_region_inv m (fun a w => C w ∧ D a w) (fun w w' => Below w.heap.size w w') (fun i v w => (words.getD i anyW) v w) hB (fun w => Below.refl _ _)
    (fun i v w w' hv hb => monoL_at words i hW v w w' hv hb) ⟨hC0, hD0⟩ ?_ fun vs w hc hv listed hs hlv => by
      rw [listed_eq hs hlv]
      exact hend vs w hc.1 hc.2 (holdsL_of vs w words 0 fun j hj => by
        rw [Nat.zero_add]; exact hv j (by omega)))
  intro i o hi ho a w hc hd hk hdep
  have := stepsL_at (ops.toList.take m) 0 hsteps i o (by rw [List.getElem?_take, if_pos hi]; simpa using ho) a w hc.1 hc.2 hd ?_ ?_
  · rw [Nat.zero_add] at this
    exact this
  · intro k hall
    have := hk k fun j oj hoj e => by
      have h1 := Array.all_eq_true'.1 hall oj (Array.mem_of_getElem? hoj)
      rw [e] at h1
      simp at h1
    simpa [Array.getD_eq_getD_getElem?] using this
  · intro e he hb
    rw [← valOf_eq]
    exact hdep e he hb

end
end Go.Proofs.Ytfjnphiegoogoaa.G

/- AskB -/
namespace Go.Proofs.Ytfjnphiegoogoaa
open Go.ChangeShapes Go.WideShapes Go.ChangeAt Go.RowKit Go.Fl
set_option linter.unusedVariables false
set_option linter.unusedSimpArgs false
attribute [local go_sem] Oper.semAt_some

/-- the memory ahead of the range -/
def askW (w : World) (lk : Array Value) (root : Addr) : World :=
  (((((w.alloc (.cells lk 34)).alloc (.cells #[.int .i64 0, .int .u64 0] 25)).alloc (.map #[] 0)).alloc (.cells #[.map (some (w.heap.size + 1 + 1))] 89)).alloc (.cells #[.pointer (some root)] 54)).alloc (.cells #[.func (.func 27) #[] #[]] 67)
theorem grown_below {w w1 : World} (h : Below w.heap.size w w1) (row : Option Nat) : w.grownBy w1 row := ⟨h.os, h.tape, h.output, h.size, fun i hi _ => h.block i hi⟩
theorem ask_end {w W W' : World} {lk : Array Value} {av : Addr → Int × Nat} {root p : Addr} {pre : List Addr} {d : Nat} (hz : d = w.heap.size + 6) (i : AskI w lk av root pre W) (hg : W.grownBy W' (some (w.heap.size + 2))) (hm : PtrMap W' (w.heap.size + 2) (ansM av (pre ++ [p]))) :
    KeepsFrom d W W' ∧ KpU d (w.heap.size + 5) W W' ∧ AskI w lk av root (pre ++ [p]) W' := by
  have hlt : w.heap.size + 5 < W.heap.size := i.2.2.2.2.2.2.lt
  have hk : ∀ k, k ≠ w.heap.size + 2 → k < W.heap.size → W'.heap[k]? = W.heap[k]? := fun k hk hl => hg.block k hl (fun e => hk (Option.some.inj e))
  obtain ⟨i1, i2, i3, i4, i5, i6, i7⟩ := i
  refine ⟨KeepsFrom.of_grownBy hg (fun j e => by cases e; omega), ⟨hk _ (by omega) (by omega), hg.size, fun r x hr hx _ => (hk r (by omega) (Array.getElem?_eq_some_iff.1 hx).1).trans hx⟩, ?_⟩
  exact ⟨⟨hg.os.trans i1.1, hg.tape.trans i1.2, hg.output.trans i1.3, Nat.le_trans i1.4 hg.size, fun j hj => (hk j (by omega) (by omega)).trans (i1.5 j hj)⟩, (hk _ (by omega) (by omega)).trans i2, (hk _ (by omega) (by omega)).trans i3, hm, (hk _ (by omega) (by omega)).trans i5, (hk _ (by omega) (by omega)).trans i6, (hk _ (by omega) (by omega)).trans i7⟩
theorem keepAt {w wr w1 W : World} {A : Option Addr} {k : Nat} {vs : List (Int × Nat)} {r : Nat} {m : List (Addr × Value)} {a0 a1 : Addr} {v0 v1 : Value} (hb : Below wr.heap.size wr w1)
    (h : wr.cell? a0 = some v0 ∧ wr.cell? a1 = some v1 ∧ PtrMap wr r m ∧ RowV wr A k vs ∧ W.grownBy wr none ∧ Below w.heap.size w wr) : w1.cell? a0 = some v0 ∧ w1.cell? a1 = some v1 ∧ PtrMap w1 r m ∧ RowV w1 A k vs ∧ W.grownBy w1 none ∧ Below w.heap.size w w1 :=
  ⟨cell_later hb h.1, cell_later hb h.2.1, h.2.2.1.later hb, h.2.2.2.1.later hb, h.2.2.2.2.1.trans (grown_below hb none), mmore h.2.2.2.2.2 hb⟩
theorem keepAs {w wr w1 u : World} {g k : Nat} {vs : List (Int × Nat)} {r : Nat} {m : List (Addr × Value)} {a0 a1 : Addr} {v0 v1 : Value} (hb : Below wr.heap.size wr w1)
    (h : wr.cell? a0 = some v0 ∧ wr.cell? a1 = some v1 ∧ PtrMap wr r m ∧ AtsR u w g vs k wr) : w1.cell? a0 = some v0 ∧ w1.cell? a1 = some v1 ∧ PtrMap w1 r m ∧ AtsR u w g vs k w1 :=
  ⟨cell_later hb h.1, cell_later hb h.2.1, h.2.2.1.later hb, h.2.2.2.1.kept hb, h.2.2.2.2.1.trans (grown_below hb _), mmore h.2.2.2.2.2 hb⟩

set_option maxHeartbeats 4000000 in
set_option maxRecDepth 100000 in
theorem up_F (E B : Option Addr) (ne ce nb cb : Nat) (cur : Int) (root : Addr) (av : Addr → Int × Nat) (ys : List Addr) (N : Nat) (w : World) (D : Addr → Prop) (ch : Addr → List Addr) (hw : Within ch D) (hdfs : DfsN ch [root] [(root, 0)] ys N) (hnd : ys.Nodup) (hord : OrdF ch [] ys) (hrm : root ∈ ys) (hroot : D root) (hyD : ∀ x ∈ ys, D x) (hlen : ys.length ≤ 1099511627776)
    (hP : ∀ p, D p → Plain w p)
    (hN : ∀ p, D p → ∀ W, Below w.heap.size w W → p.spot = none ∧ ∃ (A : Option Addr) (m c : Nat), (∀ k, Calls Try.prog 27 #[.pointer (some p)] (W.drewN k) fun e w' => e = .returned (.slice A m c) ∧ W.drewN k = w') ∧ ch p = kids A m ∧ (0 < m → ∃ b o, A = some ⟨b, o, none⟩) ∧ m ≤ 1099511627776)
    (hbits : ∀ p, D p → (av p).2 < 18446744073709551616)
    (hlf : ∀ p, D p → (∃ op, LeafOp op ∧ w.cell? ⟨p.block, p.off, none⟩ = some (.int .i64 op) ∧ ∀ wz, Below w.heap.size w wz → Calls Try.prog 54 #[lookV E B ne ce nb cb cur, .pointer (some p)] wz (VIs (av p) wz)) ∨
      (∃ op, ¬ LeafOp op ∧ w.cell? ⟨p.block, p.off, none⟩ = some (.int .i64 op) ∧ (∃ (A : Option Addr) (m c : Nat), w.cell? ⟨p.block, p.off + 2, none⟩ = some (.slice A m c) ∧ ch p = kids A m ∧ (0 < m → ∃ b o, A = some ⟨b, o, none⟩) ∧ m ≤ 1099511627776) ∧ av p = appP op ((ch p).map av))) :
    Calls Try.prog 29 #[lookV E B ne ce nb cb cur, .pointer (some root)] w (VIs (av root) w) := by
  refine (callsIn_wide (n := 9)).1 ?_
  refine callsIn_of_wp_marks Try.func29 rfl trivial ?_ rfl
  refine wpIn_wide.2 ?_
  simp only [Try.ntmps29, List.size_toArray, List.length_cons, List.length_nil, Nat.reduceAdd, Nat.reduceSub, Array.replicate_succ, Array.replicate_zero, List.push_toArray, List.append_toArray, List.nil_append, List.cons_append]
  have hmk := fun W => run_makeMap_plain (P := Try.prog) W 89
  replace hN := Lib.hid hN
  replace hlf := Lib.hid hlf
  replace hP := Lib.hid hP
  go_wp2_with (go_at_call 55; refine (upward_F _ _ _).mono ?_; rintro e w4 ⟨rfl, rfl⟩)
  have hI0 : AskI w #[.slice E ne ce, .slice B nb cb, .int .i64 cur] av root [] (askW w #[.slice E ne ce, .slice B nb cb, .int .i64 cur] root) := by
    refine ⟨((((((Below.refl _ w).alloc (Nat.le_refl _) _).alloc (by simp) _).alloc (by simp; omega) _).alloc (by simp; omega) _).alloc (by simp; omega) _).alloc (by simp; omega) _, ?_, ?_, ⟨#[], 0, ?_, rfl⟩, ?_, ?_, ?_⟩
    all_goals (simp only [askW, Blk, Boxed, at_alloc, World.size_alloc]; repeat (first | rw [if_pos trivial] | rw [if_pos (by omega)] | rw [if_neg (by omega)]))
  have hz : (askW w #[.slice E ne ce, .slice B nb cb, .int .i64 cur] root).heap.size = w.heap.size + 6 := by simp [askW]
  clear hmk
  change Code.wp _ _ _ _ (askW w #[.slice E ne ce, .slice B nb cb, .int .i64 cur] root)
  generalize askW w #[.slice E ne ce, .slice B nb cb, .int .i64 cur] root = w4 at *
  refine (wpIn_wide (n := 9)).1 ?_
  refine loop_range (by omega) (gf := 83) (lb := #[.pointer (some ⟨w.heap.size + 1 + 1 + 1 + 1, 0, none⟩), .pointer (some ⟨w.heap.size + 1 + 1 + 1 + 1 + 1, 0, none⟩)]) rfl (enters_of Try.func83 (by kernel_rfl) rfl)
    (fun x : Addr => #[.pointer (some x)]) (fun _ => rfl) ys (KpU w4.heap.size (w.heap.size + 5)) KpU.trans
    (fun W o o' h => KpU.loop (by omega) W o o' h)
    (StpU w4.heap.size) (fun A B k o h hk ho => stpU_keeps A B k o h hk ho) (AskI w #[.slice E ne ce, .slice B nb cb, .int .i64 cur] av root) (AskI.own w _ av root _ (by omega)) (fun s A B h hst => AskI.stp (by omega) s A B h hst) hI0
    (fun l J W hJI hJS hbW hY hJ0 => uq1_in (by omega) l (w.heap.size + 4) (w.heap.size + 5) w4.heap.size root ch D hw ys N hdfs hnd hroot J hJS (fun pre W hJ p hp => by
      obtain ⟨h2, h3⟩ := hN.out p hp W (hJI pre W hJ).1
      exact ⟨(hP.out p hp).later (hJI pre W hJ).1, h2, fun _ => h3⟩) hlen hY W hbW.size ((hJI _ _ hJ0).2.2.2.2.2.1) ((hJI _ _ hJ0).2.2.2.2.2.2) hJ0)
    (fun x => { tmps := #[lookV E B ne ce nb cb cur, .pointer (some root), .pointer (some ⟨w.heap.size, 0, none⟩), undef, .pointer (some ⟨w.heap.size + 1, 0, none⟩), .pointer (some ⟨w.heap.size + 1 + 1 + 1, 0, none⟩), .pointer (some x), undef, undef, .map (some (w.heap.size + 1 + 1)), .pointer (some root), .func (.func 83) #[] #[.pointer (some ⟨w.heap.size + 1 + 1 + 1 + 1, 0, none⟩), .pointer (some ⟨w.heap.size + 1 + 1 + 1 + 1 + 1, 0, none⟩)], .pointer (some x), undef, undef, undef, undef, undef, undef, undef, undef, undef, undef, undef, undef, undef, undef, undef, undef, undef, undef, undef, undef, undef, undef, undef, undef, undef, undef, undef, undef, undef, undef, undef, undef, undef, undef, undef, undef, undef, undef, undef, undef, undef, undef, undef, undef, undef, undef, undef], defers := [] }) ?assign ?body ?done
  case assign =>
    intro x K W hK
    gi_wp2
    exact hK
  case body =>
    intro pre x W hpre hI
    have hxy : x ∈ ys := hpre.subset (by simp)
    have hxD := hyD x hxy
    obtain ⟨rest, hrest⟩ := hpre
    rw [List.append_assoc] at hrest
    have hxn : x ∉ pre := by
      rw [← hrest] at hnd
      intro h
      exact (List.nodup_append.1 hnd).2.2 x h x (by simp) rfl
    have hkid : ∀ q ∈ ch x, q ∈ pre := by
      rw [← hrest] at hord
      intro q hq
      rcases OrdF.at hord q hq with h | h
      · cases h
      · exact h
    have hpD : ∀ q ∈ pre, D q := fun q hq => hyD q (by rw [← hrest]; simp [hq])
    obtain ⟨i1, i2, i3, i4, i5, i6, i7⟩ := hI
    have hPW : ∀ q, D q → Plain W q := fun q hq => (hP.out q hq).later i1
    have hspot := (hN.out x hxD w (Below.refl _ w)).1
    have hbx := hbits x hxD
    have hbk : ∀ q ∈ ch x, (av q).2 < 18446744073709551616 := fun q hq => hbits q (hpD q (hkid q hq))
    have e3 := i5.cell
    have c0 : W.cell? ⟨w.heap.size, 0, none⟩ = some (.slice E ne ce) := i2.cell 0
    have c1 : W.cell? ⟨w.heap.size, 1, none⟩ = some (.slice B nb cb) := i2.cell 1
    have c2 : W.cell? ⟨w.heap.size, 2, none⟩ = some (.int .i64 cur) := i2.cell 2
    have hcase := hlf.out x hxD
    obtain ⟨pb, po, ps⟩ := x
    obtain rfl : ps = none := hspot
    generalize hP' : (⟨pb, po, none⟩ : Addr) = p at *
    replace hrest := Lib.hid hrest
    replace hz := Lib.hid hz
    clear hI0 hdfs hord hnd hN hlf
    rcases hcase with ⟨op, hop, hcell, hC⟩ | ⟨op, hop, hcell, ⟨A, m, c, hargs, hch, hAo, hmb⟩, hav⟩
    · replace hcell := cell_later i1 hcell
      cases hv : av p with
      | mk vk vb =>
      rw [hv] at hC
      have CI := Lib.hid (fun W => CallsIn.inRound (w4.heap.size + 1) (callsIn_wide.2 (isleaf_yes op hop W) : CallsIn Fence.wide (9 - 1 - 1 - 1) Try.prog 53 _ W _))
      have CL := Lib.hid (CallsIn.inRound (w4.heap.size + 1) (callsIn_wide.2 (hC W.drew i1.drew) : CallsIn Fence.wide (9 - 1 - 1 - 1) Try.prog 54 _ W.drew _))
      have e3d : W.drew.cell? ⟨w.heap.size + 3, 0, none⟩ = some (.map (some (w.heap.size + 2))) := e3
      replace hbk := Lib.hid hbk
      replace hkid := Lib.hid hkid
      replace hv := Lib.hid hv
      subst hP'
      clear hC
      gi_wp2_with (refine ⟨trivial, ?_⟩; gi_at_call 53; refine (CI.out _).mono ?_; rintro e W1 ⟨rfl, rfl⟩)
      gi_region_with (refine ⟨trivial, ?_⟩; gi_at_call 54; refine CL.out.mono ?_; rintro e W1 ⟨rfl, hb1⟩; have hb2 := mmore (Below.refl _ W).drew hb1; have e3b := cell_later hb1 e3d; obtain ⟨o, ho, hu, hm⟩ := ans_put (i4.later hb2) ((hPW _ hxD).later hb2) (fun y hy => (hPW _ (hpD _ hy)).later hb2) hxn; rw [hv.out] at hu; simp only [valC] at hu)
      all_goals gi_wp2
      all_goals have hE := ask_end hz.out (⟨i1, i2, i3, i4, i5, i6, i7⟩ : AskI w _ av root pre W) ((grown_below hb2 (some (w.heap.size + 2))).trans (grow_put W1 _ o)) hm
      all_goals first | exact ⟨rfl, hE⟩ | exact hE
    · have hn0 := cell_later i1 hcell
      have ha := cell_later i1 hargs
      have hkl : (ch p).length = m := by rw [hch]; exact kids_len hAo
      have hvl : ((ch p).map av).length = m := by rw [List.length_map, hkl]
      have hvb : ∀ v ∈ (ch p).map av, v.2 < 18446744073709551616 := fun v hv => by
        obtain ⟨q, hq, rfl⟩ := List.mem_map.1 hv
        exact hbk q hq
      have hvs : ∀ (k : Nat) (q : Addr), (ch p)[k]? = some q → ((ch p).map av)[k]? = some (av q) := fun k q h => by rw [List.getElem?_map, h]; rfl
      generalize (ch p).map av = vs at *
      have AP := fun wz Az (h : RowV wz Az m vs) => apply_any op Az m m vs wz h
      rw [← hav] at AP
      cases hv : av p with
      | mk vk vb =>
      rw [hv] at AP
      simp only at AP
      obtain ⟨i0, hi, hz0, hz1, hz2⟩ := info_parts infoV
      have hmk : ∀ w, (Instr.makeSlice 47 (.int .i64 (m : Int)) (.int .i64 (m : Int))).run Try.prog w = .ok (.slice (some ⟨w.heap.size, 0, none⟩) m m) (w.alloc (.cells (madeCells #[.int .i64 0, .int .u64 0] (vs.length * 2)) 25)) := fun w => by
        have := run_make (P := Try.prog) w 47 25 i0 _ Try.underlying47 hi hz0 .i64 .i64 (m : Int) (m : Int) (by omega) (by omega) (by rw [hz2]; omega) (by omega)
        rw [hz1, Int.toNat_natCast] at this
        rw [this, hvl]
        rfl
      have hu1 := m1 W (.cells (madeCells #[.int .i64 0, .int .u64 0] (vs.length * 2)) 25)
      have M0 := MadeTo.zero W #[.int .i64 0, .int .u64 0] vs
      have ha1 := cell_later hu1 ha
      have CI := Lib.hid (fun W => CallsIn.inRound (w4.heap.size + 1) (callsIn_wide.2 (isleaf_no op hop W) : CallsIn Fence.wide (9 - 1 - 1 - 1) Try.prog 53 _ W _))
      replace AP := Lib.hid AP
      replace hbk := Lib.hid hbk
      replace hkid := Lib.hid hkid
      replace hv := Lib.hid hv
      replace hav := Lib.hid hav
      replace hkl := Lib.hid hkl
      replace hvl := Lib.hid hvl
      replace hvb := Lib.hid hvb
      replace hvs := Lib.hid hvs
      replace hch := Lib.hid hch
      replace hi := Lib.hid hi
      replace hz0 := Lib.hid hz0
      replace hz1 := Lib.hid hz1
      replace hz2 := Lib.hid hz2
      replace M0 := Lib.hid M0
      replace hu1 := Lib.hid hu1
      subst hP'
      have hgn : w.heap.size + 5 < W.heap.size := i7.lt
      gi_wp2_with (refine ⟨trivial, ?_⟩; gi_at_call 53; refine (CI.out _).mono ?_; rintro e W1 ⟨rfl, rfl⟩)
      have R0 := Lib.hid (And.intro M0.out (And.intro (World.grownBy.refl (W.alloc (.cells (madeCells #[.int .i64 0, .int .u64 0] (vs.length * 2)) 25)) (some W.heap.size)) (mmore i1 hu1.out)))
      have e3u := cell_later hu1.out e3
      have i4u := i4.later hu1.out
      clear M0 hmk hn0 ha ha1 c0 c1 c2
      generalize hgg : W.heap.size = g at *
      generalize W.alloc (.cells (madeCells #[.int .i64 0, .int .u64 0] (vs.length * 2)) 25) = u at *
      gi_loopw [34] (fun i wr => ∃ k : Nat, k ≤ m ∧ i = .int .i64 (k : Int) ∧ AtsR u w g vs k wr) (fun i _ => m - (intOf i).toNat)
      case atStart => exact ⟨0, Nat.zero_le _, rfl, R0.out⟩
      case round =>
        obtain ⟨k, hk, rfl, hM, hG, hW⟩ := hrel
        clear R0
        have e3r := grown_cell hG e3u (show some (w.heap.size + 3) ≠ some g by intro e; injection e; omega)
        have n0r := cell_later hW hcell
        have n2r := cell_later hW hargs
        have i4r : PtrMap wr (w.heap.size + 2) (ansM av pre) := i4u.same (hG.block _ i4u.lt (by intro e; injection e; omega))
        have hPr : ∀ q, D q → Plain wr q := fun q hq => (hP.out q hq).later hW
        by_cases hkm : k < m
        · obtain ⟨ab, ao, rfl⟩ := hAo (by omega)
          have hq : (ch ⟨pb, po, none⟩)[k]? = some ⟨ab, ao + k * 7, none⟩ := by rw [hch.out]; exact kids_at hkm
          have hqp := hkid.out _ (List.mem_of_getElem? hq)
          have hvk := hvs.out k _ hq
          have hL := ans_look (w := wr.drew) i4r (hPr _ (hpD _ hqp)) (fun y hy => hPr _ (hpD y hy)) hqp
          cases hx : av ⟨ab, ao + k * 7, none⟩ with
          | mk xk xb =>
          rw [hx] at hL hvk
          simp only [valC] at hL
          have li : (k : Int) < (m : Int) := by omega
          have hkv : k < vs.length := by rw [hvl.out]; exact hkm
          replace hx := Lib.hid hx
          replace hvk := Lib.hid hvk
          clear n0r hq hL
          gi_wp2
          have KD := G.keepsD_true []
          have KC : G.KeepsC (fun w' => w'.cell? ⟨w.heap.size + 3, 0, none⟩ = some (.map (some (w.heap.size + 2))) ∧ w'.cell? ⟨pb, po + 2, none⟩ = some (.slice (some ⟨ab, ao, none⟩) m c) ∧ PtrMap w' (w.heap.size + 2) (ansM av pre) ∧ AtsR u w g vs k w') := fun _ _ h hb => keepAs hb h
          refine G.region_wordsIn 11 (fun w' => w'.cell? ⟨w.heap.size + 3, 0, none⟩ = some (.map (some (w.heap.size + 2))) ∧ w'.cell? ⟨pb, po + 2, none⟩ = some (.slice (some ⟨ab, ao, none⟩) m c) ∧ PtrMap w' (w.heap.size + 2) (ansM av pre) ∧ AtsR u w g vs k w') (fun _ _ => True) [G.isW (.slice (some ⟨g, 0, none⟩) m m), G.isW (.int .i64 (k : Int)), G.isW (.map (some (w.heap.size + 2))), G.isW (.pointer (some ⟨pb, po, none⟩)), G.isW (.pointer (some ⟨pb, po, none⟩)), G.isW (.pointer (some ⟨pb, po + 2, none⟩)), G.isW (.slice (some ⟨ab, ao, none⟩) m c), G.isW (.int .i64 (k : Int)), G.isW (.pointer (some ⟨ab, ao + k * 7, none⟩)), G.isW (.agg #[.int .i64 xk, .int .u64 (xb : Int)]), G.isW (.pointer (some ⟨g, k * 2, none⟩))] (by kernel_rfl) (by repeat' (first | exact G.monoL_nil | exact G.is_mono _ | exact G.any_mono | refine G.monoL_cons ?_ ?_)) (by kernel_rfl) (by kernel_rfl) (by kernel_rfl) ⟨e3r, n2r, i4r, ⟨hM, ⟨hG.os, hG.tape, hG.output, hG.size, hG.block⟩, hW.drew⟩⟩ trivial ?_ ?_
          ·
            refine G.stepsL_cons (fun a u hc hdd hd hk hdep => ?_) ?_
            ·
              have d7 : (a.tmps[7]?).getD undef = (.slice (some ⟨g, 0, none⟩) m m) := hk 7 (by kernel_rfl)
              refine G.step_val KC KD hc hdd rfl (.slice (some ⟨g, 0, none⟩) m m) u (G.wanted_plain rfl) ?_ rfl (Below.refl _ _)
              first | (go_simp; done) | rfl | (simp [go_sem, *]; done)
            refine G.stepsL_cons (fun a u hc hdd hd hk hdep => ?_) ?_
            ·
              have d8 : (a.tmps[8]?).getD undef = (.int .i64 (k : Int)) := hk 8 (by kernel_rfl)
              refine G.step_val KC KD hc hdd rfl (.int .i64 (k : Int)) u (G.wanted_plain rfl) ?_ rfl (Below.refl _ _)
              first | (go_simp; done) | rfl | (simp [go_sem, *]; done)
            refine G.stepsL_cons (fun a u hc hdd hd hk hdep => ?_) ?_
            ·
              have d5 : (a.tmps[5]?).getD undef = (.pointer (some ⟨w.heap.size + 1 + 1 + 1, 0, none⟩)) := hk 5 (by kernel_rfl)
              refine G.step_val KC KD hc hdd rfl (.map (some (w.heap.size + 2))) u (G.wanted_plain rfl) ?_ rfl (Below.refl _ _)
              first | (go_simp; done) | rfl | (simp [go_sem, *]; done)
            refine G.stepsL_cons (fun a u hc hdd hd hk hdep => ?_) ?_
            ·
              have d6 : (a.tmps[6]?).getD undef = (.pointer (some ⟨pb, po, none⟩)) := hk 6 (by kernel_rfl)
              refine G.step_val KC KD hc hdd rfl (.pointer (some ⟨pb, po, none⟩)) u (G.wanted_plain rfl) ?_ rfl (Below.refl _ _)
              first | (go_simp; done) | rfl | (simp [go_sem, *]; done)
            refine G.stepsL_cons (fun a u hc hdd hd hk hdep => ?_) ?_
            ·
              have d40 : (a.tmps[40]?).getD undef = (.pointer (some ⟨pb, po, none⟩)) := hdep ⟨3, .data⟩ (by simp) rfl
              refine G.step_val KC KD hc hdd rfl (.pointer (some ⟨pb, po, none⟩)) u (G.wanted_plain rfl) ?_ rfl (Below.refl _ _)
              first | (go_simp; done) | rfl | (simp [go_sem, *]; done)
            refine G.stepsL_cons (fun a u hc hdd hd hk hdep => ?_) ?_
            ·
              have d41 : (a.tmps[41]?).getD undef = (.pointer (some ⟨pb, po, none⟩)) := hdep ⟨4, .data⟩ (by simp) rfl
              refine G.step_val KC KD hc hdd rfl (.pointer (some ⟨pb, po + 2, none⟩)) u (G.wanted_plain rfl) ?_ rfl (Below.refl _ _)
              first | (go_simp; done) | rfl | (simp [go_sem, *]; done)
            refine G.stepsL_cons (fun a u hc hdd hd hk hdep => ?_) ?_
            ·
              have d42 : (a.tmps[42]?).getD undef = (.pointer (some ⟨pb, po + 2, none⟩)) := hdep ⟨5, .data⟩ (by simp) rfl
              refine G.step_val KC KD hc hdd rfl (.slice (some ⟨ab, ao, none⟩) m c) u (G.wanted_plain rfl) ?_ rfl (Below.refl _ _)
              first | (go_simp; done) | rfl | (simp [go_sem, *]; done)
            refine G.stepsL_cons (fun a u hc hdd hd hk hdep => ?_) ?_
            ·
              have d8 : (a.tmps[8]?).getD undef = (.int .i64 (k : Int)) := hk 8 (by kernel_rfl)
              refine G.step_val KC KD hc hdd rfl (.int .i64 (k : Int)) u (G.wanted_plain rfl) ?_ rfl (Below.refl _ _)
              first | (go_simp; done) | rfl | (simp [go_sem, *]; done)
            refine G.stepsL_cons (fun a u hc hdd hd hk hdep => ?_) ?_
            ·
              have d43 : (a.tmps[43]?).getD undef = (.slice (some ⟨ab, ao, none⟩) m c) := hdep ⟨6, .data⟩ (by simp) rfl
              have d44 : (a.tmps[44]?).getD undef = (.int .i64 (k : Int)) := hdep ⟨7, .data⟩ (by simp) rfl
              refine G.step_val KC KD hc hdd rfl (.pointer (some ⟨ab, ao + k * 7, none⟩)) u (G.wanted_plain rfl) ?_ rfl (Below.refl _ _)
              first | (go_simp; done) | rfl | (simp [go_sem, *]; done)
            refine G.stepsL_cons (fun a u hc hdd hd hk hdep => ?_) ?_
            ·
              have d39 : (a.tmps[39]?).getD undef = (.map (some (w.heap.size + 2))) := hdep ⟨2, .data⟩ (by simp) rfl
              have d45 : (a.tmps[45]?).getD undef = (.pointer (some ⟨ab, ao + k * 7, none⟩)) := hdep ⟨8, .data⟩ (by simp) rfl
              have hL := ans_look hc.2.2.1 ((hP.out _ (hpD _ hqp)).later hc.2.2.2.2.2) (fun y hy => (hP.out _ (hpD y hy)).later hc.2.2.2.2.2) hqp
              rw [hx.out] at hL
              simp only [valC] at hL
              refine G.step_val KC KD hc hdd rfl (.agg #[.int .i64 xk, .int .u64 (xb : Int)]) _ (G.wanted_plain rfl) ?_ rfl (Below.refl _ _)
              first | (go_simp; done) | rfl | (simp [go_sem, *]; done)
            refine G.stepsL_cons (fun a u hc hdd hd hk hdep => ?_) ?_
            ·
              have d37 : (a.tmps[37]?).getD undef = (.slice (some ⟨g, 0, none⟩) m m) := hdep ⟨0, .data⟩ (by simp) rfl
              have d38 : (a.tmps[38]?).getD undef = (.int .i64 (k : Int)) := hdep ⟨1, .data⟩ (by simp) rfl
              refine G.step_val KC KD hc hdd rfl (.pointer (some ⟨g, k * 2, none⟩)) u (G.wanted_plain rfl) ?_ rfl (Below.refl _ _)
              first | (go_simp; done) | rfl | (simp [go_sem, *]; done)
            exact G.stepsL_nil
          intro vs' wN hN _ hh
          have e9 : vs' 9 = (.agg #[.int .i64 xk, .int .u64 (xb : Int)]) := by
            obtain ⟨-, -, -, -, -, -, -, -, -, eX, -⟩ := hh
            exact eX
          have e10 : vs' 10 = (.pointer (some ⟨g, k * 2, none⟩)) := by
            obtain ⟨-, -, -, -, -, -, -, -, -, -, eX, -⟩ := hh
            exact eX
          obtain ⟨-, -, -, hM, hG, hW⟩ := hN
          obtain ⟨x0, y0, z0, z1, z2, z3⟩ := hM.two hkv
          have hM4 := Lib.hid (hM.step (v := (xk, xb)) hvk.out)
          have hG4 := Lib.hid (mgrown (mgrown hG (mset wN ⟨g, k * 2, none⟩ (.int .i64 xk)) (fun k h => .inl (by simpa using h))) (mset _ ⟨g, k * 2 + 1, none⟩ (.int .u64 (xb : Int))) (fun k h => .inl (by simpa using h)))
          have hW4 := Lib.hid ((hW.setCell (p := ⟨g, k * 2, none⟩) (by show w.heap.size ≤ g; omega) (.int .i64 xk)).setCell (p := ⟨g, k * 2 + 1, none⟩) (by show w.heap.size ≤ g; omega) (.int .u64 (xb : Int)))
          clear hh hM hG hW
          set_option maxRecDepth 100000 in simp only [List.take_succ_cons, List.take_zero, putAll, Act.put, List.setIfInBounds_toArray, List.set_cons_zero, List.set_cons_succ, Nat.reduceAdd, e9, e10]
          refine wpAny_ready (rs := [11]) (by kernel_rfl) (by simp) ?_
          refine AllReady.cons rfl (fun K hK => ?_) AllReady.nil
          go_simp
          refine hK _ _ ?_
          clear hK K
          refine wpAny_done (by kernel_rfl) ?_ _
          refine ⟨rfl, ?_⟩
          gi_wp2
          exact ⟨⟨k + 1, by omega, by simp, hM4.out, hG4.out, hW4.out⟩, by simp [intOf]; omega⟩
        · obtain rfl : k = m := by omega
          rw [← hvl.out] at hM
          have hR := hM.row hvb.out
          rw [hvl.out] at hR
          have li : ¬ (k : Int) < (k : Int) := by omega
          have hGW : W.grownBy wr none := ⟨hG.os.trans hu1.out.os, hG.tape.trans hu1.out.tape, hG.output.trans hu1.out.output, Nat.le_trans hu1.out.size hG.size, fun i hi _ => (hG.block i (Nat.lt_of_lt_of_le hi hu1.out.size) (by intro e; injection e; omega)).trans (hu1.out.block i (by omega))⟩
          clear hM hG CI n2r
          gi_wp2
          have KD := G.keepsD_true []
          have KC : G.KeepsC (fun w' => w'.cell? ⟨w.heap.size + 3, 0, none⟩ = some (.map (some (w.heap.size + 2))) ∧ w'.cell? ⟨pb, po, none⟩ = some (.int .i64 op) ∧ PtrMap w' (w.heap.size + 2) (ansM av pre) ∧ RowV w' (some ⟨g, 0, none⟩) k vs ∧ W.grownBy w' none ∧ Below w.heap.size w w') := fun _ _ h hb => keepAt hb h
          refine G.region_wordsIn 8 (fun w' => w'.cell? ⟨w.heap.size + 3, 0, none⟩ = some (.map (some (w.heap.size + 2))) ∧ w'.cell? ⟨pb, po, none⟩ = some (.int .i64 op) ∧ PtrMap w' (w.heap.size + 2) (ansM av pre) ∧ RowV w' (some ⟨g, 0, none⟩) k vs ∧ W.grownBy w' none ∧ Below w.heap.size w w') (fun _ _ => True) [G.isW (.map (some (w.heap.size + 2))), G.isW (.pointer (some ⟨pb, po, none⟩)), G.isW (.pointer (some ⟨pb, po, none⟩)), G.isW (.pointer (some ⟨pb, po, none⟩)), G.isW (.pointer (some ⟨pb, po, none⟩)), G.isW (.int .i64 op), G.isW (.slice (some ⟨g, 0, none⟩) k k), G.isW (.agg #[.int .i64 vk, .int .u64 (vb : Int)])] (by kernel_rfl) (by repeat' (first | exact G.monoL_nil | exact G.is_mono _ | exact G.any_mono | refine G.monoL_cons ?_ ?_)) (by kernel_rfl) (by kernel_rfl) (by kernel_rfl) ⟨e3r, n0r, i4r, hR, ⟨hGW.os, hGW.tape, hGW.output, hGW.size, hGW.block⟩, hW.drew⟩ trivial ?_ ?_
          ·
            refine G.stepsL_cons (fun a u hc hdd hd hk hdep => ?_) ?_
            ·
              have d5 : (a.tmps[5]?).getD undef = (.pointer (some ⟨w.heap.size + 1 + 1 + 1, 0, none⟩)) := hk 5 (by kernel_rfl)
              refine G.step_val KC KD hc hdd rfl (.map (some (w.heap.size + 2))) u (G.wanted_plain rfl) ?_ rfl (Below.refl _ _)
              first | (go_simp; done) | rfl | (simp [go_sem, *]; done)
            refine G.stepsL_cons (fun a u hc hdd hd hk hdep => ?_) ?_
            ·
              have d6 : (a.tmps[6]?).getD undef = (.pointer (some ⟨pb, po, none⟩)) := hk 6 (by kernel_rfl)
              refine G.step_val KC KD hc hdd rfl (.pointer (some ⟨pb, po, none⟩)) u (G.wanted_plain rfl) ?_ rfl (Below.refl _ _)
              first | (go_simp; done) | rfl | (simp [go_sem, *]; done)
            refine G.stepsL_cons (fun a u hc hdd hd hk hdep => ?_) ?_
            ·
              have d6 : (a.tmps[6]?).getD undef = (.pointer (some ⟨pb, po, none⟩)) := hk 6 (by kernel_rfl)
              refine G.step_val KC KD hc hdd rfl (.pointer (some ⟨pb, po, none⟩)) u (G.wanted_plain rfl) ?_ rfl (Below.refl _ _)
              first | (go_simp; done) | rfl | (simp [go_sem, *]; done)
            refine G.stepsL_cons (fun a u hc hdd hd hk hdep => ?_) ?_
            ·
              have d51 : (a.tmps[51]?).getD undef = (.pointer (some ⟨pb, po, none⟩)) := hdep ⟨2, .data⟩ (by simp) rfl
              refine G.step_val KC KD hc hdd rfl (.pointer (some ⟨pb, po, none⟩)) u (G.wanted_plain rfl) ?_ rfl (Below.refl _ _)
              first | (go_simp; done) | rfl | (simp [go_sem, *]; done)
            refine G.stepsL_cons (fun a u hc hdd hd hk hdep => ?_) ?_
            ·
              have d52 : (a.tmps[52]?).getD undef = (.pointer (some ⟨pb, po, none⟩)) := hdep ⟨3, .data⟩ (by simp) rfl
              refine G.step_val KC KD hc hdd rfl (.pointer (some ⟨pb, po, none⟩)) u (G.wanted_plain rfl) ?_ rfl (Below.refl _ _)
              first | (go_simp; done) | rfl | (simp [go_sem, *]; done)
            refine G.stepsL_cons (fun a u hc hdd hd hk hdep => ?_) ?_
            ·
              have d53 : (a.tmps[53]?).getD undef = (.pointer (some ⟨pb, po, none⟩)) := hdep ⟨4, .data⟩ (by simp) rfl
              refine G.step_val KC KD hc hdd rfl (.int .i64 op) u (G.wanted_plain rfl) ?_ rfl (Below.refl _ _)
              first | (go_simp; done) | rfl | (simp [go_sem, *]; done)
            refine G.stepsL_cons (fun a u hc hdd hd hk hdep => ?_) ?_
            ·
              have d7 : (a.tmps[7]?).getD undef = (.slice (some ⟨g, 0, none⟩) k k) := hk 7 (by kernel_rfl)
              refine G.step_val KC KD hc hdd rfl (.slice (some ⟨g, 0, none⟩) k k) u (G.wanted_plain rfl) ?_ rfl (Below.refl _ _)
              first | (go_simp; done) | rfl | (simp [go_sem, *]; done)
            refine G.stepsL_cons (fun a u hc hdd hd hk hdep => ?_) ?_
            ·
              have d54 : (a.tmps[54]?).getD undef = (.int .i64 op) := hdep ⟨5, .data⟩ (by simp) rfl
              have d55 : (a.tmps[55]?).getD undef = (.slice (some ⟨g, 0, none⟩) k k) := hdep ⟨6, .data⟩ (by simp) rfl
              refine G.step_call KC KD hc hdd rfl 15 #[.int .i64 op, .slice (some ⟨g, 0, none⟩) k k] (G.wanted_plain rfl) (by first | (go_simp; done) | rfl) ?_
              exact (AP.out u _ hc.2.2.2.1).mono (by rintro e w' ⟨rfl, hb⟩; exact ⟨_, rfl, rfl, hb⟩)
            exact G.stepsL_nil
          intro vs' wN hN _ hh
          have e0 : vs' 0 = (.map (some (w.heap.size + 2))) := by
            obtain ⟨eX, -⟩ := hh
            exact eX
          have e1 : vs' 1 = (.pointer (some ⟨pb, po, none⟩)) := by
            obtain ⟨-, eX, -⟩ := hh
            exact eX
          have e7 : vs' 7 = (.agg #[.int .i64 vk, .int .u64 (vb : Int)]) := by
            obtain ⟨-, -, -, -, -, -, -, eX, -⟩ := hh
            exact eX
          obtain ⟨-, -, i4N, -, hGN, hWN⟩ := hN
          obtain ⟨o, ho, hu, hm⟩ := ans_put i4N ((hP.out _ hxD).later hWN) (fun y hy => (hP.out _ (hpD _ hy)).later hWN) hxn
          rw [hv.out] at hu
          simp only [valC] at hu
          have hE := ask_end hz.out (⟨i1, i2, i3, i4, i5, i6, i7⟩ : AskI w _ av root pre W) ((hGN.but (some (w.heap.size + 2))).trans (grow_put wN _ o)) hm
          replace hE := Lib.hid hE
          clear hh
          set_option maxRecDepth 100000 in simp only [List.take_succ_cons, List.take_zero, putAll, Act.put, List.setIfInBounds_toArray, List.set_cons_zero, List.set_cons_succ, Nat.reduceAdd, e0, e1, e7]
          refine wpAny_ready (rs := [8]) (by kernel_rfl) (by simp) ?_
          refine AllReady.cons rfl (fun K hK => ?_) AllReady.nil
          go_simp
          refine hK _ _ ?_
          clear hK K
          refine wpAny_done (by kernel_rfl) ?_ _
          refine ⟨rfl, ?_⟩
          gi_wp2
          first | exact ⟨rfl, hE.out⟩ | exact hE.out
  case done =>
    intro W hI hK
    obtain ⟨i1, i2, i3, i4, i5, i6, i7⟩ := hI
    have hL := ans_look i4 ((hP.out _ hroot).later i1) (fun y hy => (hP.out _ (hyD _ hy)).later i1) hrm
    have e3 := i5.cell
    have x0 : W.cell? ⟨w.heap.size + 1, 0, none⟩ = some (.int .i64 0) := i3.cell 0
    have x1 : W.cell? ⟨w.heap.size + 1, 1, none⟩ = some (.int .u64 0) := i3.cell 1
    have f0 : W.frozen? ⟨w.heap.size + 1, 0, none⟩ = false := i3.free 0
    have f1 : W.frozen? ⟨w.heap.size + 1, 1, none⟩ = false := i3.free 1
    clear hI0 hdfs hord hnd hN hlf
    generalize av root = v at *
    obtain ⟨vk, vb⟩ := v
    simp only [valC] at hL
    go_wp2
    have hK6 := ((KeepsOthers.setCell (W.setCell ⟨w.heap.size + 1, 0, none⟩ (.int .i64 vk)) ⟨w.heap.size + 1, 1, none⟩ (.int .u64 (vb : Int))).same w4.heap.size _ ((KeepsOthers.setCell W ⟨w.heap.size + 1, 0, none⟩ (.int .i64 vk)).same w4.heap.size _ hK rfl) rfl)
    have hB6 := (i1.setCell (p := ⟨w.heap.size + 1, 0, none⟩) (by show w.heap.size ≤ w.heap.size + 1; omega) (.int .i64 vk)).setCell (p := ⟨w.heap.size + 1, 1, none⟩) (by show w.heap.size ≤ w.heap.size + 1; omega) (.int .u64 (vb : Int))
    have hb6 := (i3.put_ 0 (.int .i64 vk)).put_ 1 (.int .u64 (vb : Int))
    generalize (W.setCell ⟨w.heap.size + 1, 0, none⟩ (.int .i64 vk)).setCell ⟨w.heap.size + 1, 1, none⟩ (.int .u64 (vb : Int)) = W6 at *
    have b7 : Blk (W6.putObj w4.heap.size (.deferred none)) (w.heap.size + 1) 25 #[.int .i64 vk, .int .u64 (vb : Int)] := (World.putObj_heap_other (by omega)).trans (by simpa [Blk] using hb6)
    have B7 : Below w.heap.size w (W6.putObj w4.heap.size (.deferred none)) := ⟨hB6.1, hB6.2, hB6.3, by rw [World.putObj_size]; exact hB6.4, fun j hj => (World.putObj_heap_other (by omega)).trans (hB6.5 j hj)⟩
    refine ⟨by simp, .inl ⟨_, _, rfl, run_takeDeferred hK6, ?_⟩⟩
    have s0 : (W6.putObj w4.heap.size (.deferred none)).cell? ⟨w.heap.size + 1, 0, none⟩ = some (.int .i64 vk) := b7.cell 0
    have s1 : (W6.putObj w4.heap.size (.deferred none)).cell? ⟨w.heap.size + 1, 1, none⟩ = some (.int .u64 (vb : Int)) := b7.cell 1
    exact ⟨.agg #[.int .i64 vk, .int .u64 (vb : Int)], by simp [results, Try.results29, go_sem, s0, s1], rfl, B7⟩
end Go.Proofs.Ytfjnphiegoogoaa
