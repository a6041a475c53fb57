/- CntB, CntC, Ask, Rnd -/
import Derived.Test.YtkcejaccpahjhaaZ15
import Derived.Test.YtkcejaccpahjhaaZ13
import Derived.Stop.RegionWithIn
import Derived.Test.YtkcejaccpahjhaaZ08
import Derived.OrdersIn
import Derived.RangeFuncCalls
/- CntB -/
namespace Go.Proofs.Ytkcejaccpahjhaa
open Go.RowKit
set_option linter.unusedVariables false
set_option linter.unusedSimpArgs false
attribute [local go_sem] Oper.semAt_some

theorem at_alloc (w : World) (o : Obj) (k : Nat) : (w.alloc o).heap[k]? = if k = w.heap.size then some o else w.heap[k]? := by
  show (w.heap.push o)[k]? = _
  rw [Array.getElem?_push]

theorem fold_le (f : Addr → Nat) : ∀ (l : List Addr) (a : Nat), a ≤ 2147483647 → l.foldl (fun a q => min (a + f q) 2147483647) a ≤ 2147483647
  | [], a, h => h
  | x :: l, a, h => fold_le f l _ (Nat.min_le_right _ _)
theorem fold_take (f : Addr → Nat) (l : List Addr) (k : Nat) (q : Addr) (h : l[k]? = some q) : (l.take (k + 1)).foldl (fun a q => min (a + f q) 2147483647) 1 = min ((l.take k).foldl (fun a q => min (a + f q) 2147483647) 1 + f q) 2147483647 := by
  rw [List.take_add_one, h]
  simp
theorem kids_len {A : Option Addr} {m : Nat} (h : 0 < m → ∃ b o, A = some ⟨b, o, none⟩) : (kids A m).length = m := by
  cases m with
  | zero => simp [kids]
  | succ m =>
    obtain ⟨b, o, rfl⟩ := h (by omega)
    simp [kids]
theorem kids_at {b o m k : Nat} (h : k < m) : (kids (some ⟨b, o, none⟩) m)[k]? = some ⟨b, o + k * 7, none⟩ := by simp [kids, h]

set_option maxHeartbeats 4000000 in
set_option maxRecDepth 100000 in
theorem count_F (root : Addr) (ch : Addr → List Addr) (D : Addr → Prop) (hw : Within ch D) (ys : List Addr) (N : Nat) (hdfs : DfsN ch [root] [(root, 0)] ys N) (hnd : ys.Nodup) (hord : OrdF ch [] ys) (hrm : root ∈ ys) (hroot : D root) (hyD : ∀ x ∈ ys, D x) (hlen : ys.length ≤ 1099511627776)
    (cv : Addr → Nat) (hcv : ∀ p, D p → cv p = (ch p).foldl (fun a q => min (a + cv q) 2147483647) 1) (w : World) (hN : NodesAt w ch D) :
    Calls Try.prog 49 #[.pointer (some root), .func (.func 33) #[] #[]] w fun e w' => e = .returned (.int .i64 (cv root : Int)) ∧ Below w.heap.size w w' := by
  refine (callsIn_wide (n := 9)).1 ?_
  refine callsIn_of_wp_marks Try.func49 rfl trivial ?_ rfl
  refine wpIn_wide.2 ?_
  simp only [Try.ntmps49, List.size_toArray, List.length_cons, List.length_nil, Nat.reduceAdd, Nat.reduceSub, Array.replicate_succ, Array.replicate_zero, List.push_toArray, List.append_toArray, List.nil_append, List.cons_append]
  have hmk := fun W => run_makeMap_plain (P := Try.prog) W 104
  go_wp2_with (go_at_call 32; refine (upward_F _ _ _).mono ?_; rintro e w4 ⟨rfl, rfl⟩)
  have hI0 : CntI w cv root [] ((((((w.alloc (.cells #[.func (.func 33) #[] #[]] 62)).alloc (.cells #[.int .i64 0] 3)).alloc (.map #[] 0)).alloc (.cells #[.map (some (w.heap.size + 1 + 1))] 104)).alloc (.cells #[.pointer (some root)] 49)).alloc (.cells #[.func (.func 33) #[] #[]] 62)) := by
    refine ⟨((((((Below.refl _ w).alloc (Nat.le_refl _) _).alloc (by simp) _).alloc (by simp; omega) _).alloc (by simp; omega) _).alloc (by simp; omega) _).alloc (by simp; omega) _, ?_, ?_, ⟨#[], 0, ?_, rfl⟩, ?_, ?_, ?_⟩
    all_goals (simp only [Boxed, at_alloc, World.size_alloc]; repeat (first | rw [if_pos trivial] | rw [if_pos (by omega)] | rw [if_neg (by omega)]))
  have hz : ((((((w.alloc (.cells #[.func (.func 33) #[] #[]] 62)).alloc (.cells #[.int .i64 0] 3)).alloc (.map #[] 0)).alloc (.cells #[.map (some (w.heap.size + 1 + 1))] 104)).alloc (.cells #[.pointer (some root)] 49)).alloc (.cells #[.func (.func 33) #[] #[]] 62)).heap.size = w.heap.size + 6 := by simp
  clear hmk
  generalize (((((w.alloc (.cells #[.func (.func 33) #[] #[]] 62)).alloc (.cells #[.int .i64 0] 3)).alloc (.map #[] 0)).alloc (.cells #[.map (some (w.heap.size + 1 + 1))] 104)).alloc (.cells #[.pointer (some root)] 49)).alloc (.cells #[.func (.func 33) #[] #[]] 62) = w4 at *
  refine (wpIn_wide (n := 9)).1 ?_
  refine loop_range (by omega) (gf := 51) (lb := #[.pointer (some ⟨w.heap.size + 1 + 1 + 1 + 1, 0, none⟩), .pointer (some ⟨w.heap.size + 1 + 1 + 1 + 1 + 1, 0, none⟩)]) rfl (enters_of Try.func51 (by kernel_rfl) rfl)
    (fun x : Addr => #[.pointer (some x)]) (fun _ => rfl) ys (KpU w4.heap.size (w.heap.size + 5)) KpU.trans
    (fun W o o' h => KpU.loop (by omega) W o o' h)
    (StpU w4.heap.size) (fun A B k o h hk ho => stpU_keeps A B k o h hk ho) (CntI w cv root) (CntI.own w cv root _ (by omega)) (fun s A B h hst => CntI.stp (by omega) s A B h hst) hI0
    (fun l J W hJI hJS hbW hY hJ0 => up1_in (by omega) l (w.heap.size + 4) (w.heap.size + 5) w4.heap.size root ch D hw ys N hdfs hnd hroot J hJS (fun pre W hJ p hp => by
      obtain ⟨h1, h2, h3⟩ := hN.later (hJI pre W hJ).1 p hp
      exact ⟨h1, h2, fun _ => h3⟩) hlen hY W hbW.size ((hJI _ _ hJ0).2.2.2.2.2.1) ((hJI _ _ hJ0).2.2.2.2.2.2) hJ0)
    (fun x => { tmps := #[.pointer (some root), .func (.func 33) #[] #[], undef, .pointer (some ⟨w.heap.size, 0, none⟩), .pointer (some ⟨w.heap.size + 1, 0, none⟩), .pointer (some ⟨w.heap.size + 1 + 1 + 1, 0, none⟩), .pointer (some x), undef, undef, undef, undef, undef, .map (some (w.heap.size + 1 + 1)), .pointer (some root), .func (.func 33) #[] #[], .func (.func 51) #[] #[.pointer (some ⟨w.heap.size + 1 + 1 + 1 + 1, 0, none⟩), .pointer (some ⟨w.heap.size + 1 + 1 + 1 + 1 + 1, 0, none⟩)], .pointer (some x), undef, undef, undef, undef, undef, undef, undef, undef, undef, undef, undef, undef, undef, undef, undef, undef, undef, undef, undef, undef, undef, undef, undef, undef, undef, undef, undef, undef, undef], defers := [] }) ?assign ?body ?done
  case assign =>
    intro x K W hK
    gi_wp2
    exact hK
  case body =>
    intro pre x W hpre hI
    have hxy : x ∈ ys := hpre.subset (by simp)
    have hxD := hyD x hxy
    obtain ⟨rest, hrest⟩ := hpre
    rw [List.append_assoc] at hrest
    have hxn : x ∉ pre := by
      rw [← hrest] at hnd
      intro h
      exact (List.nodup_append.1 hnd).2.2 x h x (by simp) rfl
    have hkid : ∀ q ∈ ch x, q ∈ pre := by
      rw [← hrest] at hord
      intro q hq
      rcases OrdF.at hord q hq with h | h
      · cases h
      · exact h
    have hpD : ∀ q ∈ pre, D q := fun q hq => hyD q (by rw [← hrest]; simp [hq])
    obtain ⟨i1, i2, i3, i4, i5, i6, i7⟩ := hI
    have hNW := hN.later i1
    obtain ⟨hPx, hspot, A, m, c, hcell, hch, hAo, hmb⟩ := hNW x hxD
    have hcvx := hcv x hxD
    obtain ⟨pb, po, ps⟩ := x
    obtain rfl : ps = none := hspot
    have e0 := i2.cell
    have e3 := i5.cell
    have CA := Lib.hid (CallsIn.inRound (w4.heap.size + 1) (callsIn_wide.2 (args_F pb po _ W hcell) : CallsIn Fence.wide (9 - 1 - 1 - 1) Try.prog 33 _ W _))
    replace hcvx := Lib.hid hcvx
    replace hrest := Lib.hid hrest
    replace hch := Lib.hid hch
    replace hz := Lib.hid hz
    clear hI0 hdfs hord hnd
    gi_wp2_with (refine ⟨trivial, ?_⟩; gi_at_call 33; refine CA.out.mono ?_; rintro e W1 ⟨rfl, rfl⟩)
    generalize hP : (⟨pb, po, none⟩ : Addr) = P at *
    gi_loopw [7, 22] (fun v7 v22 wr => ∃ k n, k ≤ m ∧ v7 = .int .i64 ((((ch P).take k).foldl (fun a q => min (a + cv q) 2147483647) 1 : Nat) : Int) ∧ v22 = .int .i64 (k : Int) ∧ wr = W.drewN n)
      (fun v7 v22 wr => match v22 with | .int _ k => ((m : Int) - k).toNat | _ => 0)
    case atStart => exact ⟨0, 0, Nat.zero_le _, by simp, rfl, rfl⟩
    case round =>
      obtain ⟨k, n, hkm, rfl, rfl, rfl⟩ := hrel
      have hb1 := fold_le cv ((ch P).take k) 1 (by omega)
      have hft := fold_take cv (ch P) k
      have hacc : k = m → ((ch P).take k).foldl (fun a q => min (a + cv q) 2147483647) 1 = cv P := fun e => by rw [List.take_of_length_le (by rw [hch.out, kids_len hAo]; omega), ← hcvx.out]
      generalize ((ch P).take k).foldl (fun a q => min (a + cv q) 2147483647) 1 = acc at *
      by_cases hk : k < m
      · obtain ⟨ab, ao, rfl⟩ := hAo (by omega)
        have hq : (ch P)[k]? = some ⟨ab, ao + k * 7, none⟩ := by rw [hch.out]; exact kids_at hk
        have hqp := hkid _ (List.mem_of_getElem? hq)
        have hft2 := hft _ hq
        have hcq : cv ⟨ab, ao + k * 7, none⟩ ≤ 2147483647 := by rw [hcv _ (hpD _ hqp)]; exact fold_le cv _ 1 (by omega)
        have hL := fun n => cnt_look (w := W.drewN n) i4 (hNW _ (hpD _ hqp)).1 (fun y hy => (hNW _ (hpD _ hy)).1) hqp true
        simp only [if_true] at hL
        have li : (k : Int) < (m : Int) := by omega
        have w1 : IntKind.i64.wrap ((k : Int) + 1) = (k : Int) + 1 := by rw [IntKind.wrap_i64]; omega
        have w2 : IntKind.i64.wrap ((acc : Int) + (cv ⟨ab, ao + k * 7, none⟩ : Int)) = (acc : Int) + (cv ⟨ab, ao + k * 7, none⟩ : Int) := by rw [IntKind.wrap_i64]; omega
        clear hft hacc hcv hkid
        replace hft2 := Lib.hid hft2
        gi_wp2
        gi_region
        all_goals (gi_wp2; try (refine ⟨⟨k + 1, _, by omega, ?_, by simp, rfl⟩, ?_⟩))
        all_goals first | (rw [hft2.out]; congr 1; split <;> omega) | (show ((m : Int) - ((k : Int) + 1)).toNat < ((m : Int) - (k : Int)).toNat; omega)
      · have li : ¬ (k : Int) < (m : Int) := by omega
        obtain rfl := hacc (by omega)
        obtain ⟨o, ho, hu, hm⟩ := cnt_put (w := W.drewN n) i4 hPx (fun y hy => (hNW _ (hpD _ hy)).1) hxn
        gi_wp2
        have hz2 := hz.out
        have hg : W.grownBy ((W.drewN n).putObj (w.heap.size + 2) o) (some (w.heap.size + 2)) := (⟨rfl, rfl, rfl, Nat.le_refl _, fun _ _ _ => rfl⟩ : W.grownBy (W.drewN n) (some (w.heap.size + 2))).trans (grow_put (W.drewN n) _ o)
        have hk2 : ∀ j, j ≠ w.heap.size + 2 → ((W.drewN n).putObj (w.heap.size + 2) o).heap[j]? = W.heap[j]? := fun j hj => World.putObj_heap_other hj
        have k1 : KeepsFrom w4.heap.size W ((W.drewN n).putObj (w.heap.size + 2) o) := KeepsFrom.of_grownBy hg (fun j e => by cases e; omega)
        have k2 : KpU w4.heap.size (w.heap.size + 5) W ((W.drewN n).putObj (w.heap.size + 2) o) := ⟨hk2 _ (by omega), hg.size, fun r x hr hx _ => (hk2 r (by omega)).trans hx⟩
        have k3 : CntI w cv root (pre ++ [P]) ((W.drewN n).putObj (w.heap.size + 2) o) := ⟨⟨i1.1, i1.2, i1.3, Nat.le_trans i1.4 hg.size, fun j hj => (hk2 j (by omega)).trans (i1.5 j hj)⟩, (hk2 _ (by omega)).trans i2, (hk2 _ (by omega)).trans i3, hm, (hk2 _ (by omega)).trans i5, (hk2 _ (by omega)).trans i6, (hk2 _ (by omega)).trans i7⟩
        first | exact ⟨rfl, k1, k2, k3⟩ | exact ⟨k1, k2, k3⟩
  case done =>
    intro W hI hK
    obtain ⟨i1, i2, i3, i4, i5, i6, i7⟩ := hI
    have hNW := hN.later i1
    have hL := cnt_look i4 (hNW _ hroot).1 (fun y hy => (hNW _ (hyD _ hy)).1) hrm false
    simp only [Bool.false_eq_true, if_false] at hL
    have e3 := i5.cell
    have e1 := i3.cell
    have f1 := i3.frozen
    clear hI0 hdfs hord hnd
    go_wp2
    have hK6 := (KeepsOthers.setCell W ⟨w.heap.size + 1, 0, none⟩ (.int .i64 (cv root : Int))).same w4.heap.size _ hK rfl
    have hB6 := i1.setCell (p := ⟨w.heap.size + 1, 0, none⟩) (by show w.heap.size ≤ w.heap.size + 1; omega) (.int .i64 (cv root : Int))
    have hb6 : Boxed (W.setCell ⟨w.heap.size + 1, 0, none⟩ (.int .i64 (cv root : Int))) (w.heap.size + 1) 3 (.int .i64 (cv root : Int)) := i3.set _
    generalize W.setCell ⟨w.heap.size + 1, 0, none⟩ (.int .i64 (cv root : Int)) = W6 at *
    have b7 : Boxed (W6.putObj w4.heap.size (.deferred none)) (w.heap.size + 1) 3 (.int .i64 (cv root : Int)) := (World.putObj_heap_other (by omega)).trans hb6
    have B7 : Below w.heap.size w (W6.putObj w4.heap.size (.deferred none)) := ⟨hB6.1, hB6.2, hB6.3, by rw [World.putObj_size]; exact hB6.4, fun j hj => (World.putObj_heap_other (by omega)).trans (hB6.5 j hj)⟩
    refine ⟨by simp, .inl ⟨_, _, rfl, run_takeDeferred hK6, ?_⟩⟩
    have s0 := b7.cell
    exact ⟨.int .i64 (cv root : Int), by simp [results, Try.results49, go_sem, s0], rfl, B7⟩
end Go.Proofs.Ytkcejaccpahjhaa

/- CntC -/
namespace Go.Proofs.Ytkcejaccpahjhaa
open Go.RowKit
set_option linter.unusedVariables false
set_option linter.unusedSimpArgs false

def cvN (ch : Addr → List Addr) : Nat → Addr → Nat
  | 0, _ => 1
  | r + 1, p => (ch p).foldl (fun a q => min (a + cvN ch r q) 2147483647) 1
theorem fold_congr {f g : Addr → Nat} : ∀ (l : List Addr) (a : Nat), (∀ q ∈ l, f q = g q) → l.foldl (fun a q => min (a + f q) 2147483647) a = l.foldl (fun a q => min (a + g q) 2147483647) a
  | [], _, _ => rfl
  | x :: l, a, h => by
    simp only [List.foldl_cons]
    rw [h x (by simp)]
    exact fold_congr l _ fun q hq => h q (by simp [hq])
theorem cvN_same (ch : Addr → List Addr) (rk : Addr → Nat) (D : Addr → Prop) (hw : Within ch D) (hr : ∀ p, D p → ∀ q ∈ ch p, rk q < rk p) : ∀ (r s : Nat) (p : Addr), D p → rk p < r → rk p < s → cvN ch r p = cvN ch s p
  | 0, _, _, _, h, _ => by omega
  | _, 0, _, _, _, h => by omega
  | r + 1, s + 1, p, hp, h1, h2 => by
    simp only [cvN]
    refine fold_congr _ _ fun q hq => ?_
    have := hr p hp q hq
    exact cvN_same ch rk D hw hr r s q (hw p hp q hq) (by omega) (by omega)
/-- the count of the nodes as a tree -/
def cvOf (ch : Addr → List Addr) (rk : Addr → Nat) (p : Addr) : Nat := cvN ch (rk p + 1) p
theorem cvOf_eq (ch : Addr → List Addr) (rk : Addr → Nat) (D : Addr → Prop) (hw : Within ch D) (hr : ∀ p, D p → ∀ q ∈ ch p, rk q < rk p) : ∀ p, D p → cvOf ch rk p = (ch p).foldl (fun a q => min (a + cvOf ch rk q) 2147483647) 1 := by
  intro p hp
  show (ch p).foldl (fun a q => min (a + cvN ch (rk p) q) 2147483647) 1 = _
  refine fold_congr _ _ fun q hq => ?_
  have := hr p hp q hq
  exact cvN_same ch rk D hw hr _ _ q (hw p hp q hq) (by omega) (by omega)
theorem count_all (root : Addr) (ch : Addr → List Addr) (rk : Addr → Nat) (D : Addr → Prop) (hw : Within ch D) (hr : ∀ p, D p → ∀ q ∈ ch p, rk q < rk p) (hroot : D root) (hlen : ∀ ys : List Addr, ys.Nodup → (∀ x ∈ ys, D x) → ys.length ≤ 1099511627776) (w : World) (hN : NodesAt w ch D) :
    Calls Try.prog 49 #[.pointer (some root), .func (.func 33) #[] #[]] w fun e w' => e = .returned (.int .i64 (cvOf ch rk root : Int)) ∧ Below w.heap.size w w' := by
  obtain ⟨ys, n, h1, h2, h3⟩ := dfs_all ch rk D hw hr root hroot
  have hD : ∀ x ∈ ys ++ [root], D x := h1.within hw (fun x hx => by rw [List.mem_singleton.1 hx]; exact hroot)
  exact count_F root ch D hw _ n h1 h2 h3 (by simp) hroot hD (hlen _ h2 hD) (cvOf ch rk) (cvOf_eq ch rk D hw hr) w hN
end Go.Proofs.Ytkcejaccpahjhaa

/- Ask -/
namespace Go.Proofs.Ytkcejaccpahjhaa
open Go.ChangeShapes Go.WideShapes Go.ChangeAt Go.RowKit Go.Fl
set_option linter.unusedVariables false
set_option linter.unusedSimpArgs false
attribute [local go_sem] Oper.semAt_some

def valC (v : Int × Nat) : Value := .agg #[.int .i64 v.1, .int .u64 (v.2 : Int)]
def ansM (av : Addr → Int × Nat) (pre : List Addr) : List (Addr × Value) := pre.map fun p => (p, valC (av p))
theorem pget_ans (av : Addr → Int × Nat) (pre : List Addr) (q : Addr) : pget (ansM av pre) q = if q ∈ pre then some (valC (av q)) else none := by
  induction pre with
  | nil => rfl
  | cons x met ih =>
    show pget ((x, _) :: ansM av met) q = _
    rw [pget_cons, ih]
    by_cases h : x = q
    · subst h; simp
    · have h2 : ¬ q = x := fun e => h e.symm
      simp [h, h2]
theorem ansM_snoc (av : Addr → Int × Nat) (pre : List Addr) (q : Addr) : ansM av (pre ++ [q]) = ansM av pre ++ [(q, valC (av q))] := by simp [ansM]
theorem ans_look {av : Addr → Int × Nat} {w : World} {r : Nat} {pre : List Addr} {q : Addr} (h : PtrMap w r (ansM av pre)) (hq : Plain w q) (hm : ∀ x ∈ pre, Plain w x) (hqm : q ∈ pre) :
    (Instr.lookup 95 (.map (some r)) (.pointer (some q)) false).run Try.prog w = .ok (valC (av q)) w := by
  obtain ⟨j, h1, h2⟩ := node_info
  obtain ⟨i0, h3, h4, _, _⟩ := info_parts infoV
  have := run_lookup_ptr (P := Try.prog) Try.underlying95 Try.underlying49 h1 h2 h3 h4 h hq (fun x hx => by
    obtain ⟨y, hy, rfl⟩ := List.mem_map.1 hx
    exact hm y hy) false
  rw [this, pget_ans, if_pos hqm]
  rfl
theorem ans_put {av : Addr → Int × Nat} {w : World} {r : Nat} {pre : List Addr} {q : Addr} (h : PtrMap w r (ansM av pre)) (hq : Plain w q) (hm : ∀ x ∈ pre, Plain w x) (hn : q ∉ pre) :
    ∃ o : Obj, o.isCells = false ∧ (Instr.mapUpdate 95 (.map (some r)) (.pointer (some q)) (valC (av q))).run Try.prog w = .ok () (w.putObj r o) ∧ PtrMap (w.putObj r o) r (ansM av (pre ++ [q])) := by
  obtain ⟨j, h1, h2⟩ := node_info
  have := run_update_ptr (P := Try.prog) Try.underlying95 Try.underlying49 h1 h2 (valC (av q)) h hq (fun x hx => by
    obtain ⟨y, hy, rfl⟩ := List.mem_map.1 hx
    exact hm y hy) (by rw [pget_ans, if_neg hn])
  rw [ansM_snoc]
  exact this
/-- between two rounds -/
def AskI (w : World) (lk : Array Value) (av : Addr → Int × Nat) (root : Addr) (pre : List Addr) (W : World) : Prop :=
  Below w.heap.size w W ∧ Blk W w.heap.size 34 lk ∧ Blk W (w.heap.size + 1) 25 #[.int .i64 0, .int .u64 0] ∧ PtrMap W (w.heap.size + 2) (ansM av pre) ∧
    Boxed W (w.heap.size + 3) 95 (.map (some (w.heap.size + 2))) ∧ Boxed W (w.heap.size + 4) 49 (.pointer (some root)) ∧ Boxed W (w.heap.size + 5) 62 (.func (.func 37) #[] #[])
theorem AskI.keep {w : World} {lk : Array Value} {av : Addr → Int × Nat} {root : Addr} {pre : List Addr} {A W : World} (h : AskI w lk av root pre A) (hs : A.os = W.os ∧ A.tape = W.tape ∧ A.output = W.output ∧ A.heap.size ≤ W.heap.size) (hk : ∀ k, k < w.heap.size + 6 → W.heap[k]? = A.heap[k]?) : AskI w lk av root pre W := by
  obtain ⟨h1, h2, h3, h4, h5, h6, h7⟩ := h
  exact ⟨⟨hs.1 ▸ h1.1, hs.2.1 ▸ h1.2, hs.2.2.1 ▸ h1.3, Nat.le_trans h1.4 hs.2.2.2, fun k hk2 => (hk k (by omega)).trans (h1.5 k hk2)⟩,
    (hk _ (by omega)).trans h2, (hk _ (by omega)).trans h3, h4.same (hk _ (by omega)), (hk _ (by omega)).trans h5, (hk _ (by omega)).trans h6, (hk _ (by omega)).trans h7⟩
theorem AskI.own (w : World) (lk : Array Value) (av : Addr → Int × Nat) (root : Addr) (B : Nat) (hB : w.heap.size + 6 ≤ B) : OwnFrom B (AskI w lk av root) := by
  intro s A W row h hg hr
  have hlt : w.heap.size + 5 < A.heap.size := h.2.2.2.2.2.2.lt
  refine h.keep ⟨hg.os.symm, hg.tape.symm, hg.output.symm, hg.size⟩ (fun k hk => hg.block k (by omega) (fun e => ?_))
  obtain ⟨h1, _⟩ := hr k e.symm
  omega
theorem AskI.stp {w : World} {lk : Array Value} {av : Addr → Int × Nat} {root : Addr} {B : Nat} (hB : w.heap.size + 6 ≤ B) (s : List Addr) (A W : World) (h : AskI w lk av root s A) (hst : StpU B A W) : AskI w lk av root s W := by
  obtain ⟨row, hg, hr⟩ := hst
  have hlt : w.heap.size + 5 < A.heap.size := h.2.2.2.2.2.2.lt
  refine h.keep ⟨hg.os.symm, hg.tape.symm, hg.output.symm, hg.size⟩ (fun k hk => hg.block k (by omega) (fun e => ?_))
  obtain ⟨h1, _⟩ := hr k e.symm
  omega
/-- the nodes below one that are asked -/
noncomputable def chO (w : World) (p : Addr) : List Addr := if LeafOp (treeAt w p).op then [] else chA w p
theorem chO_of {w : World} {p : Addr} {op kd vk : Int} {vb : Nat} {pos attr : Int} {args : List NT} (h : NodeIs w p (.mk op kd vk vb pos attr args)) :
    ∃ (A : Option Addr) (m c : Nat), (∀ w', Below w.heap.size w w' → Calls Try.prog 37 #[.pointer (some p)] w' fun e w'' => e = .returned (.slice A m c) ∧ w' = w'') ∧ chO w p = kids A m ∧ (0 < m → ∃ b o, A = some ⟨b, o, none⟩) ∧ m ≤ args.length := by
  obtain ⟨A, m, c, h1, h2, h3, h4, h5, h6, h7⟩ := operands_any h
  refine ⟨A, m, c, h1, ?_, h6, h2⟩
  unfold chO
  rw [treeAt_of h]
  show (if LeafOp op then [] else chA w p) = _
  by_cases hop : LeafOp op
  · rw [if_pos hop, h3 hop]; rfl
  · rw [if_neg hop]
    obtain ⟨rfl, hc⟩ := h4 hop
    unfold chA
    rw [hc]
    by_cases h0 : 0 < args.length
    · obtain ⟨b, o, rfl⟩ := h6 h0
      simp [kids]
    · have : args.length = 0 := by omega
      rw [this]
      cases A <;> simp [kids]
end Go.Proofs.Ytkcejaccpahjhaa

/- Rnd -/
namespace Go.Proofs.Ytkcejaccpahjhaa
open Go.RowKit
set_option linter.unusedVariables false

theorem Oper.wpIn_of_wp {P : Program} {l n : Nat} {o : Oper} {a : Act} {w : World} {K : Act → World → Prop} {Q : Exit → Act → World → Prop} (hd : ∀ c, o.op ≠ .defer c) (h : Oper.wp P o a w K Q) : Oper.wpIn (Fence.wide.inRound l) n P o a w K Q := by
  refine ⟨fun _ _ => trivial, ?_⟩
  rw [Oper.semAt_eq _ _ _ hd]
  unfold Oper.wp at h
  generalize (execOp a.eval o).run P w = r at *
  cases r with
  | ok x w' =>
    cases x with
    | value v => exact h
    | skip => exact h
    | defer d => exact h
    | enter f args =>
      refine ⟨fun h => by simp [Fence.wide, Fence.inRound] at h, ?_⟩
      have h1 := (callsIn_wide (n := n - 1)).2 (show Calls P f args w' _ from h)
      exact CallsIn.mono (show CallsIn (Fence.wide.inRound l) (n - 1) P f args w' _ from h1) (fun e w'' he => he)
    | row row args =>
      refine ⟨fun h => by simp [Fence.wide, Fence.inRound] at h, ?_⟩
      intro c cs _
      obtain ⟨v, w2, h1, h2⟩ := (show Rows P row args w' _ from h) c cs
      exact ⟨v, w2, h1, stepsIn_wide.2 h2⟩
    | _ => exact absurd h (by simp [Oper.upon])
  | halt x w' =>
    cases x with
    | panic v => exact h
    | _ => exact absurd h (by simp [Oper.upon])
theorem wpAnyIn_of_wpAny {P : Program} {l n : Nat} {md : Region.Mode} {ops : Array Oper} {Q : Exit → Act → World → Prop} (hd : ∀ (i : Nat) (o : Oper), ops[i]? = some o → ∀ c, o.op ≠ .defer c) (hL : ¬ LetsOut Q) :
    ∀ (fuel : Nat) (listed : Array Bool) (a : Act) (w : World), wpAny P md ops Q fuel listed a w → wpAnyIn (Fence.wide.inRound l) n P md ops Q fuel listed a w
  | 0, _, _, _, h => h
  | fuel + 1, listed, a, w, h => by
    refine ⟨h.1, fun i hi => ?_⟩
    have h2 := h.2 i hi
    unfold wpOp at h2
    unfold wpOpIn
    cases ho : ops[i]? with
    | none =>
      rw [ho] at h2
      exact wpAnyIn_of_wpAny hd hL fuel _ _ _ h2
    | some o =>
      rw [ho] at h2
      simp only at h2 ⊢
      split
      · rename_i hw
        rw [if_pos hw] at h2
        exact Oper.wpIn_of_wp (hd i o ho) (Oper.wp_mono (fun a w h => wpAnyIn_of_wpAny hd hL fuel _ a w h) (h2.resolve_right fun h => hL h.2))
      · rename_i hw
        rw [if_neg hw] at h2
        exact ⟨fun _ _ => trivial, wpAnyIn_of_wpAny hd hL fuel _ _ _ h2⟩
/-- no operation of these defers -/
def noDefer (ops : List Oper) : Bool := ops.all fun o => match o.op with | .defer _ => false | _ => true
theorem noDefer_spec {ops : Array Oper} (h : noDefer ops.toList = true) : ∀ (i : Nat) (o : Oper), ops[i]? = some o → ∀ c, o.op ≠ .defer c := by
  intro i o ho c e
  have := List.all_eq_true.1 h o (Array.mem_toList_iff.2 (Array.mem_of_getElem? ho))
  rw [e] at this
  cases this
/-- leaves as it should, or not at all -/
def NormQ (Q : Exit → Act → World → Prop) : Exit → Act → World → Prop := fun e a w => e = .normal ∧ Q .normal a w
theorem normQ_out (Q : Exit → Act → World → Prop) : ¬ LetsOut (NormQ Q) := by
  rintro ⟨a, w, h, _⟩
  cases h
theorem region_in {P : Program} {l n id : Nat} {ops : Array Oper} {Q : Exit → Act → World → Prop} {a : Act} {w : World} (hd : noDefer ops.toList = true) (hm : P.follows .mixedOrders = true) (h : wpAny P .any ops (NormQ Q) ops.size (Array.replicate ops.size false) a w.drew) :
    (Code.region id ops true).wpIn (Fence.wide.inRound l) n P Q a w := by
  refine wpIn_mono (wpIn_region_any hm (wpAnyIn_of_wpAny (noDefer_spec hd) (normQ_out Q) _ _ _ _ h)) ?_
  rintro e a w ⟨rfl, h⟩
  exact h
section
variable {P : Program} {ops : Array Oper} {Q : Exit → Act → World → Prop} {C : Act → World → Prop} {T : World → World → Prop} {V : Nat → Value → World → Prop} {a0 : Act} {m : Nat}
/-- the region: its operations ahead of m each keep their word (V) and the frame's and world's (C); then comes what is late -/
theorem wpAny_region_inv {w : World} (m : Nat) (C : Act → World → Prop) (T : World → World → Prop) (V : Nat → Value → World → Prop)
    (hB : (backB ops && dstsB ops a0.tmps.size m && lateB ops m && decide (m ≤ ops.size)) = true)
    (hTr : ∀ w, T w w)
    (hV : ∀ i v w w', V i v w → T w w' → V i v w') (hC0 : C a0 w.drew)
    (hstep : ∀ i o, i < m → ops[i]? = some o → ∀ a w, C a w → a.defers = a0.defers → (∀ k, (∀ (i : Nat) o, ops[i]? = some o → o.dst ≠ some k) → a.tmps.getD k undef = a0.tmps.getD k undef) →
      (∀ e ∈ o.after, Region.binds .any e = true → V e.on (valOf ops a e.on) w) →
      if Region.wanted o (yielded ops a.tmps) = true then o.wp P a w (fun a' w' => ∃ v, a' = a.put o.dst v ∧ V i v w' ∧ T w w' ∧ C a' w') Q ∨ (o.asks P a w ∧ LetsOut Q) else V i undef w ∧ C (a.put o.dst undef) w)
    (hend : ∀ (vs : Nat → Value) (w : World), C (putAll (ops.toList.take m) 0 vs a0) w → (∀ i, i < m → V i (vs i) w) →
      ∀ listed : Array Bool, listed.size = ops.size → (∀ i, i < ops.size → listed.getD i true = decide (i < m)) → wpAny P .any ops Q (ops.size - m) listed (putAll (ops.toList.take m) 0 vs a0) w) :
    wpAny P .any ops Q ops.size (Array.replicate ops.size false) a0 w.drew := by
  simp only [Bool.and_eq_true, decide_eq_true_eq] at hB
  obtain ⟨⟨⟨h1, h2⟩, h3⟩, h4⟩ := hB
  have hfalse : ∀ i, i < ops.size → (Array.replicate ops.size false).getD i true = false := by
    intro i hi
    simp [Array.getD_eq_getD_getElem?, hi]
  have hcome : toCome m (Array.replicate ops.size false) = m := by
    unfold toCome
    rw [List.filter_eq_self.2]
    · simp
    · intro i hi
      have := List.mem_range.1 hi
      rw [hfalse i (by omega)]
      rfl
  have := wpAny_inv (Q := Q) (C := C) (T := T) (V := V) h1 h2 h3 h4 hV hstep hTr hend m (Array.replicate ops.size false) a0 w.drew hcome
    ⟨rfl, rfl, fun _ _ => rfl, by simp, fun i _ hi => hfalse i hi, hC0, fun i hi h => (by rw [hfalse i hi] at h; cases h), fun i hi h => by rw [hfalse i hi] at h; cases h⟩
  rw [show m + (ops.size - m) = ops.size by omega] at this
  exact this
end
end Go.Proofs.Ytkcejaccpahjhaa
namespace Go.Proofs.Ytkcejaccpahjhaa.G
open Go.ChangeShapes Go.WideShapes Go.ChangeAt Go.RowKit
section
variable {P : Program} {ops : Array Oper} {Q : Exit → Act → World → Prop} {C : World → Prop} {D : Act → World → Prop} {words : List (Value → World → Prop)} {a0 : Act}
/-- the general form: D speaks of the frame too; what is late (from m on) comes at the end -/
theorem region_wordsIn {l n id : Nat} {w : World} (m : Nat) (C : World → Prop) (D : Act → World → Prop) (words : List (Value → World → Prop)) (hlen : (words.length == m) = true) (hW : monoL words)
    (hB : (backB ops && dstsB ops a0.tmps.size m && lateB ops m && decide (m ≤ ops.size)) = true)
    (hdf : noDefer ops.toList = true) (hmo : P.follows .mixedOrders = true) (hC0 : C w.drew) (hD0 : D a0 w.drew)
    (hsteps : stepsL P ops (NormQ Q) C D words a0 (ops.toList.take m) 0)
    (hend : ∀ (vs : Nat → Value) (w : World), C w → D (putAll (ops.toList.take m) 0 vs a0) w → holdsL vs w words 0 →
      wpAny P .any ops (NormQ Q) (ops.size - m) ((List.range ops.size).map fun i => decide (i < m)).toArray (putAll (ops.toList.take m) 0 vs a0) w) :
    (Code.region id ops true).wpIn (Fence.wide.inRound l) n P Q a0 w := by
  have hl : words.length = m := by simpa using hlen
  refine region_in hdf hmo (wpAny_region_inv m (fun a w => C w ∧ D a w) (fun w w' => Below w.heap.size w w') (fun i v w => (words.getD i anyW) v w) hB (fun w => Below.refl _ _)
    (fun i v w w' hv hb => monoL_at words i hW v w w' hv hb) ⟨hC0, hD0⟩ ?_ fun vs w hc hv listed hs hlv => by
      rw [listed_eq hs hlv]
      exact hend vs w hc.1 hc.2 (holdsL_of vs w words 0 fun j hj => by
        rw [Nat.zero_add]; exact hv j (by omega)))
  intro i o hi ho a w hc hd hk hdep
  have := stepsL_at (ops.toList.take m) 0 hsteps i o (by rw [List.getElem?_take, if_pos hi]; simpa using ho) a w hc.1 hc.2 hd ?_ ?_
  · rw [Nat.zero_add] at this
    exact this
  · intro k hall
    have := hk k fun j oj hoj e => by
      have h1 := Array.all_eq_true'.1 hall oj (Array.mem_of_getElem? hoj)
      rw [e] at h1
      simp at h1
    simpa [Array.getD_eq_getD_getElem?] using this
  · intro e he hb
    rw [← valOf_eq]
    exact hdep e he hb

end
end Go.Proofs.Ytkcejaccpahjhaa.G
