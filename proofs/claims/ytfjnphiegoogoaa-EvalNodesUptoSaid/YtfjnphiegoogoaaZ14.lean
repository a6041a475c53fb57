/- UqB, Rg, UpC, UpD, Cnt, CntB, CntC, Ask -/
import Derived.Test.YtfjnphiegoogoaaZ13
import Derived.RangeFuncNested
import Derived.RangeFuncBound
import Derived.RangeFuncCalls
import Derived.RangeFuncLeaves
import Derived.WalkKit
import Derived.OwnWalkIn
import Derived.TacticsInMore
import Derived.Test.YtfjnphiegoogoaaProg
import Derived.Test.YtfjnphiegoogoaaZ12
import Derived.Stop.RegionWithIn
/- UqB -/
namespace Go.Proofs.Ytfjnphiegoogoaa
open Go.RowKit
set_option linter.unusedVariables false
set_option linter.unusedSimpArgs false
attribute [local go_sem] Oper.semAt_some

def UqR (B2 M : Nat) (ch : Addr → List Addr) (D : Addr → Prop) (ys : List Addr) (J : List Addr → World → Prop) (v : Value) (wr : World) : Prop :=
  ∃ N met st pre xs, DfsN ch met st xs N ∧ pre ++ xs = ys ∧ J pre wr ∧ wr.ownsRow M 111 2 v st.length (stepC st) ∧ PtrMap wr M (metM met) ∧
    Boxed wr B2 67 (.func (.func 27) #[] #[]) ∧ (∀ x ∈ met, D x) ∧ (∀ x ∈ st, D x.1) ∧ M < wr.heap.size
set_option maxHeartbeats 4000000 in
set_option maxRecDepth 100000 in
theorem uq1_in {n : Nat} (hn : 1 ≤ n) (l B1 B2 B : Nat) (root : Addr) (ch : Addr → List Addr) (D : Addr → Prop) (hw : Within ch D) (ys : List Addr) (cnt : Nat) (hdfs : DfsN ch [root] [(root, 0)] ys cnt) (hnd : ys.Nodup) (hroot : D root)
    (J : List Addr → World → Prop) (hJS : ∀ s A W, J s A → StpU B A W → J s W)
    (hJN : ∀ pre W, J pre W → ∀ p, D p → Plain W p ∧ p.spot = none ∧ (p ∉ pre → ∃ (A : Option Addr) (m c : Nat), (∀ k, Calls Try.prog 27 #[.pointer (some p)] (W.drewN k) fun e w' => e = .returned (.slice A m c) ∧ W.drewN k = w') ∧ ch p = kids A m ∧ (0 < m → ∃ b o, A = some ⟨b, o, none⟩) ∧ m ≤ 1099511627776)) (hlen : ys.length ≤ 1099511627776)
    (hY : ∀ pre x W, J pre W → pre ++ [x] <+: ys → YieldAt Fence.wide (n - 1) Try.prog l #[.pointer (some x)] W fun e W' => e = .returned (.bool true) ∧ J (pre ++ [x]) W' ∧ KpU B B2 W W')
    (W : World) (hB : B ≤ W.heap.size) (b1 : Boxed W B1 54 (.pointer (some root))) (b2 : Boxed W B2 67 (.func (.func 27) #[] #[])) (h0 : J [] W) :
    CallsIn Fence.wide n Try.prog 83 #[.func (.yield l) #[] #[], .pointer (some ⟨B1, 0, none⟩), .pointer (some ⟨B2, 0, none⟩)] W fun e W' => (∃ v, e = .returned v) ∧ J ys W' := by
  refine callsIn_of_wp Try.func83 rfl trivial ?_ rfl
  simp only [Try.ntmps83, List.size_toArray, List.length_cons, List.length_nil, Nat.reduceAdd, Nat.reduceSub, Array.replicate_succ, Array.replicate_zero, List.push_toArray, List.append_toArray, List.nil_append, List.cons_append]
  have c1 := b1.cell
  have c2 := b2.cell
  have hpr := (hJN [] W h0 root hroot).1
  obtain ⟨o1, ho1, hu1, hm1⟩ := met_put (q := root) (met := []) (PtrMap.new W) (hpr.later (m1 W _)) (by simp) (by simp)
  have hmk : (Instr.makeMap 109 none).run Try.prog W = .ok (.map (some W.heap.size)) (W.alloc (.map #[] 0)) := run_makeMap_plain W _
  have c1a := (b1.alloc (.map #[] 0)).cell
  have b1o : Boxed ((W.alloc (.map #[] 0)).putObj W.heap.size o1) B1 54 (.pointer (some root)) := (World.putObj_heap_other (by have := b1.lt; omega)).trans (b1.alloc _)
  have b2o : Boxed ((W.alloc (.map #[] 0)).putObj W.heap.size o1) B2 67 (.func (.func 27) #[] #[]) := (World.putObj_heap_other (by have := b2.lt; omega)).trans (b2.alloc _)
  have c1o := b1o.cell
  have c2o := b2o.cell
  gi_wp2
  generalize hM : W.heap.size = M at *
  have hR0 : UqR B2 M ch D ys J (.slice (some ⟨M + 1, 0, none⟩) 1 1) (((W.alloc (.map #[] 0)).putObj M o1).alloc (.cells #[.pointer (some root), .int .i64 0] 111)) := by
    have hs1 : ((W.alloc (.map #[] 0)).putObj M o1).heap.size = M + 1 := by simp [World.putObj, hM]
    have g0 := World.grownBy_alloc ((W.alloc (.map #[] 0)).putObj M o1) (.cells #[.pointer (some root), .int .i64 0] 111) none
    have own := World.ownsRow_lit (base := M) (e := 111) (size := 2) ((W.alloc (.map #[] 0)).putObj M o1) #[.pointer (some root), .int .i64 0] 1 (by omega) (by decide) rfl
    rw [hs1] at own
    refine ⟨cnt, [root], [(root, 0)], [], ys, hdfs, rfl, hJS _ W _ h0 ⟨none, ⟨rfl, rfl, rfl, ?_, fun k hk _ => ?_⟩, fun r h => by cases h⟩, own, hm1.same (g0.block M (by omega) (by simp)), (g0.block B2 b2o.lt (by simp)).trans b2o, fun x hx => by rw [List.mem_singleton.1 hx]; exact hroot, fun x hx => by rw [List.mem_singleton.1 hx]; exact hroot, ?_⟩
    · have := g0.size
      omega
    · exact (g0.block k (by omega) (by simp)).trans ((World.putObj_heap_other (by omega)).trans ((World.grownBy_alloc W _ none).block k hk (by simp)))
    · have := g0.size
      omega
  gi_loopw [5] (fun v wr => UqR B2 M ch D ys J v wr) (fun v wr => upMeas M ch v wr)
  case atStart => first | exact hR0
  case round =>
    obtain ⟨N, met, st, pre, xs, hN, hpx, hJ, hO, hMp, hb2, hmD, hsD, hMl⟩ := hrel
    clear hR0 hu1 hm1 hmk c1a b1o b2o c1o c2o c1 c2 b1 b2 h0 hpr ho1 hM
    have hz := upMeas_of ⟨met, st, xs, hN, hO, hMp⟩
    have e2 := hb2.cell
    cases st with
    | nil =>
      cases hN
      rw [List.append_nil] at hpx
      subst hpx
      obtain ⟨a5, c5, rfl⟩ : ∃ a c, u5 = .slice a 0 c := by
        rcases hO.2 with ⟨h, _⟩ | ⟨g, cap, cur, h, _⟩
        · exact ⟨_, _, h⟩
        · exact ⟨_, _, h⟩
      gi_wp2
      first | go_end0 | skip
      first | exact ⟨⟨_, rfl⟩, hJ⟩
    | cons x st =>
      obtain ⟨p, i⟩ := x
      obtain ⟨g, cap, rfl, hg1, hg2⟩ : ∃ g cap, u5 = .slice (some ⟨g, 0, none⟩) (st.length + 1) cap ∧ st.length + 1 ≤ cap ∧ cap ≤ maxLen := by
        rcases hO.2 with ⟨_, h⟩ | ⟨g, cap, cur, h1, _, _, h2, h3, _⟩
        · simp at h
        · exact ⟨g, cap, by simpa using h1, by simpa using h2, h3⟩
      have hc := hO.cells (g := g) rfl
      have q0 : wr.cell? ⟨g, st.length * 2, none⟩ = some (.pointer (some p)) := by
        have := hc (st.length * 2) (.pointer (some p)) (by rw [stepC_cons, List.getElem?_append_right (by rw [stepC_len]; omega), stepC_len, Nat.sub_self]; rfl)
        rw [addr_adds] at this
        exact this
      have q1 : wr.cell? ⟨g, st.length * 2 + 1, none⟩ = some (.int .i64 (i : Int)) := by
        have := hc (st.length * 2 + 1) (.int .i64 (i : Int)) (by rw [stepC_cons, List.getElem?_append_right (by rw [stepC_len]; omega), stepC_len, Nat.add_sub_cancel_left]; rfl)
        rw [addr_adds] at this
        exact this
      have hml : cap ≤ 9223372036854775807 := by unfold maxLen at hg2; omega
      have w1 : IntKind.i64.wrap (((st.length + 1 : Nat) : Int) - 1) = (st.length : Int) := by rw [IntKind.wrap_i64]; omega
      have l1 : ((st.length + 1 : Nat) : Int) > 0 := by omega
      have hpD : D p := hsD (p, i) (by simp)
      have hpp : p ∉ pre := by
        intro h
        rw [← hpx] at hnd
        exact (List.nodup_append.1 hnd).2.2 p h p (hN.stack_mem (p, i) (by simp)) rfl
      obtain ⟨_, hspot, hA⟩ := hJN pre wr hJ p hpD
      obtain ⟨A, m, c, hcell, hch, hAo, hmb⟩ := hA hpp
      obtain ⟨pb, po, ps⟩ := p
      obtain rfl : ps = none := hspot
      have CA := hcell
      replace CA := Lib.hid CA
      gi_wp2
      refine wpIn_wide.2 ?_
      go_quiet (first | (go_at_call 27; with_reducible exact Calls.quiet_of_same ((CA.out _).mono fun e w' h => (⟨h.1, h.2.symm⟩ : e = .returned (.slice A m c) ∧ w' = _))))
      obtain ⟨hMg, cur, hgc⟩ := own_block hO
      have hgM : M ≠ g := fun e => by
        obtain ⟨es, ck, hm2, _⟩ := hMp
        rw [e, hgc] at hm2
        cases hm2
      have hJd : J pre (wr.drewN nq) := hJS _ _ _ hJ ⟨none, ⟨rfl, rfl, rfl, Nat.le_refl _, fun _ _ _ => rfl⟩, fun r h => by cases h⟩
      by_cases him : i < m
      · obtain ⟨ab, ao, rfl⟩ := hAo (by omega)
        have hq : (ch ⟨pb, po, none⟩)[i]? = some ⟨ab, ao + i * 7, none⟩ := by
          rw [hch]
          simp [kids, him]
        have qD : D ⟨ab, ao + i * 7, none⟩ := hw _ hpD _ (List.mem_of_getElem? hq)
        have li : (i : Int) < (m : Int) := by omega
        have wi : IntKind.i64.wrap ((i : Int) + 1) = (i : Int) + 1 := by rw [IntKind.wrap_i64]; omega
        have fz : wr.frozen? ⟨g, st.length * 2 + 1, none⟩ = false := hO.frozenAt (st.length * 2 + 1)
        obtain ⟨s1, s2⟩ := World.ownsRow.stored (w := wr.drewN nq) hO (st.length * 2 + 1) (.int .i64 ((i : Int) + 1))
        rw [show ((i : Int) + 1) = ((i + 1 : Nat) : Int) by omega, stepC_set, ← show ((i : Int) + 1) = ((i + 1 : Nat) : Int) by omega] at s1
        have hMp1 : PtrMap ((wr.drewN nq).setCell ⟨g, st.length * 2 + 1, none⟩ (.int .i64 ((i : Int) + 1))) M (metM met) := hMp.same (s2.block M hMl (fun e => hgM (Option.some.inj e)))
        have hb21 : Boxed ((wr.drewN nq).setCell ⟨g, st.length * 2 + 1, none⟩ (.int .i64 ((i : Int) + 1))) B2 67 (.func (.func 27) #[] #[]) :=
          (s2.block B2 hb2.lt (fun e => by rw [Option.some.inj e] at hb2; have := hb2.symm.trans hgc; simp at this)).trans hb2
        have hJ1 : J pre ((wr.drewN nq).setCell ⟨g, st.length * 2 + 1, none⟩ (.int .i64 ((i : Int) + 1))) := hJS _ _ _ hJd ⟨some g, s2, fun r hr => by cases hr; exact ⟨by omega, _, hgc, .inr ⟨_, _, rfl⟩⟩⟩
        have hPl : ∀ x, D x → Plain ((wr.drewN nq).setCell ⟨g, st.length * 2 + 1, none⟩ (.int .i64 ((i : Int) + 1))) x := fun x hx => (hJN _ _ hJ1 x hx).1
        have hL := met_look hMp1 (hPl _ qD) (fun x hx => hPl x (hmD x hx))
        have hML : M < ((wr.drewN nq).setCell ⟨g, st.length * 2 + 1, none⟩ (.int .i64 ((i : Int) + 1))).heap.size := Nat.lt_of_lt_of_le hMl s2.size
        by_cases hqm : (⟨ab, ao + i * 7, none⟩ : Addr) ∈ met
        · rw [decide_eq_true hqm] at hL
          cases hN with
          | pop _ _ _ _ _ _ h => rw [hq] at h; cases h
          | push _ _ q' _ _ _ _ h hm => rw [hq] at h; cases h; exact absurd hqm hm
          | skip _ _ q' _ _ _ N h hm hN =>
          gi_wp2
          case roundEnd =>
            generalize hW1 : (wr.drewN nq).setCell ⟨g, st.length * 2 + 1, none⟩ (.int .i64 ((i : Int) + 1)) = W1 at *
            have g1 : W1.grownBy (W1.alloc (.cells #[] 59)) none := World.grownBy_alloc W1 _ none
            have k1 : UqR B2 M ch D ys J (.slice (some ⟨g, 0, none⟩) (st.length + 1) cap) (W1.alloc (.cells #[] 59)) :=
              ⟨N, met, (⟨pb, po, none⟩, i + 1) :: st, pre, xs, hN, hpx, hJS _ _ _ hJ1 ⟨none, g1, fun r h => by cases h⟩, s1.alloc _, hMp1.same (g1.block M hML (by simp)), (g1.block B2 hb21.lt (by simp)).trans hb21, hmD, fun x hx => by
                rcases List.mem_cons.1 hx with rfl | hx
                · exact hpD
                · exact hsD x (List.mem_cons_of_mem _ hx), Nat.lt_of_lt_of_le hML g1.size⟩
            refine ⟨k1, ?_⟩
            have hm3 : upMeas M ch (.slice (some ⟨g, 0, none⟩) (st.length + 1) cap) (W1.alloc (.cells #[] 59)) = N := upMeas_of ⟨met, (⟨pb, po, none⟩, i + 1) :: st, xs, hN, s1.alloc _, hMp1.same (g1.block M hML (by simp))⟩
            rw [hm3]
            first | omega | (rw [hz]; omega)
        · rw [decide_eq_false hqm] at hL
          cases hN with
          | pop _ _ _ _ _ _ h => rw [hq] at h; cases h
          | skip _ _ q' _ _ _ _ h hm => rw [hq] at h; cases h; exact absurd hm hqm
          | push _ _ q' _ _ _ N h hm hN =>
          obtain rfl : (⟨ab, ao + i * 7, none⟩ : Addr) = q' := by rw [hq] at h; exact Option.some.inj h
          have hsl : st.length + 2 ≤ 1099511627776 := by
            have h1 := hN.stack_len
            simp only [List.length_cons] at h1
            have h2 := congrArg List.length hpx
            rw [List.length_append] at h2
            omega
          have g1 := World.grownBy_alloc ((wr.drewN nq).setCell ⟨g, st.length * 2 + 1, none⟩ (.int .i64 ((i : Int) + 1))) (.cells #[] 59) none
          have hMp2 : PtrMap (((wr.drewN nq).setCell ⟨g, st.length * 2 + 1, none⟩ (.int .i64 ((i : Int) + 1))).alloc (.cells #[] 59)) M (metM met) := hMp1.same (g1.block M hML (by simp))
          have hJ2 := hJS _ _ _ hJ1 ⟨none, g1, fun r h => by cases h⟩
          obtain ⟨o2, ho2, hu2, hm2⟩ := met_put hMp2 (hJN _ _ hJ2 _ qD).1 (fun x hx => (hJN _ _ hJ2 _ (hmD x hx)).1) hqm
          obtain ⟨i0, hi, hi1, hi2, hi3⟩ := step_info
          have s2' := s1.alloc (.cells #[] 59)
          have hb22 := (g1.block B2 hb21.lt (by simp)).trans hb21
          have s3 := own_same (w' := (((wr.drewN nq).setCell ⟨g, st.length * 2 + 1, none⟩ (.int .i64 ((i : Int) + 1))).alloc (.cells #[] 59)).putObj M o2) s2' (World.putObj_heap_other (fun e => hgM e.symm))
          have g3 := ((g1.but (some M)).trans (grow_put _ M o2)).trans (World.grownBy_alloc _ (.cells #[.pointer (some ⟨ab, ao + i * 7, none⟩), .int .i64 0] 111) (some M))
          have hJ4 := hJS _ _ _ hJ1 ⟨some M, g3, fun r hr => by
            cases hr
            obtain ⟨es, ck, he, _⟩ := hMp1
            exact ⟨hB, _, he, .inl ⟨_, _, rfl⟩⟩⟩
          have b3 : M ≤ ((((((wr.drewN nq).setCell ⟨g, st.length * 2 + 1, none⟩ (.int .i64 ((i : Int) + 1))).alloc (.cells #[] 59)).putObj M o2).alloc (.cells #[.pointer (some ⟨ab, ao + i * 7, none⟩), .int .i64 0] 111))).heap.size := Nat.le_of_lt (Nat.lt_of_lt_of_le hML g3.size)
          have s4 := s3.alloc (.cells #[.pointer (some ⟨ab, ao + i * 7, none⟩), .int .i64 0] 111)
          have hnew := Lib.hid (news_cells ((((wr.drewN nq).setCell ⟨g, st.length * 2 + 1, none⟩ (.int .i64 ((i : Int) + 1))).alloc (.cells #[] 59)).putObj M o2) (.pointer (some ⟨ab, ao + i * 7, none⟩)) (.int .i64 0) 111 (wr.heap.size + 1) (by simp [World.putObj]))
          replace b3 := Lib.hid b3
          replace g3 := Lib.hid g3
          gi_wp2_with (gi_at_builtin; go_loud (refine wpListIn_append_own _ rfl _ _ 112 rfl M 111 i0 (.agg #[.pointer none, .int .i64 0]) 2 16 Try.underlying112 hi hi1 hi2 hi3 rfl (by decide) _ _ _ rfl s4 ⟨_, 0, none⟩ 1 1 [.pointer (some ⟨ab, ao + i * 7, none⟩), .int .i64 0] rfl rfl hnew.out (by simp [Value.oneCell']) (by simp only [List.length_cons]; unfold maxLen; omega) (by simp only [List.length_cons]; omega) b3.out ?_; intro v' w5 hown5 hg5 _))
          case roundEnd =>
            have hMb : w5.heap[M]? = _ := hg5.block M (Nat.lt_of_lt_of_le hML g3.out.size) (fun e => hgM (Option.some.inj e))
            have hMp5 : PtrMap w5 M (metM (met ++ [⟨ab, ao + i * 7, none⟩])) := (hm2.same ((World.grownBy_alloc _ _ none).block M hm2.lt (by simp))).same hMb
            have hB2M : B2 ≠ M := fun e => by
              obtain ⟨es, ck, he, _⟩ := hMp
              rw [← e] at he
              have := hb2.symm.trans he
              cases this
            have hB2g : B2 ≠ g := fun e => by
              rw [← e] at hgc
              have := hb2.symm.trans hgc
              simp at this
            have hb25 : Boxed w5 B2 67 (.func (.func 27) #[] #[]) :=
              (hg5.block B2 (Nat.lt_of_lt_of_le hb21.lt g3.out.size) (fun e => hB2g (Option.some.inj e))).trans ((g3.out.block B2 hb21.lt (fun e => hB2M (Option.some.inj e))).trans hb21)
            have hJ5 := hJS _ _ w5 hJ4 ⟨some g, hg5, fun r hr => by
              cases hr
              exact ⟨by omega, _, (own_block s4).2.choose_spec, .inr ⟨_, _, rfl⟩⟩⟩
            have hown : w5.ownsRow M 111 2 v' ((⟨ab, ao + i * 7, none⟩, 0) :: (⟨pb, po, none⟩, i + 1) :: st).length (stepC ((⟨ab, ao + i * 7, none⟩, 0) :: (⟨pb, po, none⟩, i + 1) :: st)) := by
              rw [stepC_cons]
              exact hown5
            have k1 : UqR B2 M ch D ys J v' w5 :=
              ⟨N, met ++ [⟨ab, ao + i * 7, none⟩], _, pre, xs, hN, hpx, hJ5, hown, hMp5, hb25, fun x hx => by
                rcases List.mem_append.1 hx with hx | hx
                · exact hmD x hx
                · rw [List.mem_singleton.1 hx]; exact qD, fun x hx => by
                rcases List.mem_cons.1 hx with rfl | hx
                · exact qD
                rcases List.mem_cons.1 hx with rfl | hx
                · exact hpD
                · exact hsD x (List.mem_cons_of_mem _ hx), Nat.lt_of_lt_of_le hML (Nat.le_trans g3.out.size hg5.size)⟩
            refine ⟨k1, ?_⟩
            rw [upMeas_of ⟨_, _, xs, hN, hown, hMp5⟩]
            first | omega | (rw [hz]; omega)
      · have li : ¬ (i : Int) < (m : Int) := by omega
        have hq : (ch ⟨pb, po, none⟩)[i]? = none := by
          rw [hch]
          refine List.getElem?_eq_none (Nat.le_trans ?_ (Nat.le_of_not_lt him))
          unfold kids
          exact Nat.le_trans (List.length_filterMap_le _ _) (by simp)
        cases hN with
        | push _ _ q _ _ _ _ h => rw [hq] at h; cases h
        | skip _ _ q _ _ _ _ h => rw [hq] at h; cases h
        | pop _ _ _ _ xs N _ hN =>
        obtain ⟨fn, tmps, assign, body, hy, hR⟩ := hY pre ⟨pb, po, none⟩ (wr.drewN nq) hJd ⟨xs, by rw [← hpx, List.append_assoc]; rfl⟩
        gi_wp2
        refine hR.mono ?_
        rintro e W3 ⟨rfl, hJ3, hk3⟩
        gi_wp2
        have hBg : B ≤ g := by omega
        have e3 : W3.heap[g]? = wr.heap[g]? := (hk3.2.2 g _ hBg hgc (.inr ⟨_, _, rfl⟩)).trans hgc.symm
        have hO' := hO
        rw [stepC_cons] at hO'
        have hO3 : W3.ownsRow M 111 2 (.slice (some ⟨g, 0, none⟩) st.length cap) st.length (stepC st) := own_same (own_pop hO') e3
        have hMp3 : PtrMap W3 M (metM met) := by
          obtain ⟨es, ck, h1, h2⟩ := hMp
          exact ⟨es, ck, hk3.2.2 M _ hB h1 (.inl ⟨_, _, rfl⟩), h2⟩
        go_roundw
        case rel =>
          exact ⟨N, met, st, pre ++ [⟨pb, po, none⟩], xs, hN, by rw [List.append_assoc]; exact hpx, hJ3, hO3, hMp3, hk3.1.trans hb2, hmD, fun x hx => hsD x (List.mem_cons_of_mem _ hx), Nat.lt_of_lt_of_le hMl hk3.2.1⟩
        case measure =>
          rw [upMeas_of ⟨met, st, xs, hN, hO3, hMp3⟩]
          first | omega | (rw [hz]; omega)
end Go.Proofs.Ytfjnphiegoogoaa

/- Rg -/
namespace Go.Proofs.Ytfjnphiegoogoaa
open Go.RowKit
set_option linter.unusedVariables false
set_option linter.unusedSimpArgs false

/-- the record of a loop, at any state -/
def recOf (fn : FuncId) (tmps : Array Value) (ps : Array Tmp) (assign body : Code) (D : Nat) (st : LoopState) : Loop :=
  { state := st, pending := none, fn := fn, tmps := tmps, params := ps, assign := assign, body := body, defers := D }
/-- what is kept of a loop between two rounds: its record is ready, its block for deferred calls is empty -/
def RecJ {α : Type} (I : List α → World → Prop) (rec : LoopState → Loop) (D : Nat) (pre : List α) (W : World) : Prop :=
  I pre W ∧ W.heap[D + 1]? = some (.loop (rec .ready)) ∧ W.heap[D]? = some (.deferred (some []))

/-- one round, where the loop's record is ready -/
theorem box_round {α : Type} {P : Program} {m D : Nat} {fn : FuncId} {tmps : Array Value} {ps : Array Tmp} {assign body : Code} (encs : α → Array Value) (hps : ∀ x, (encs x).size = ps.size)
    (I : List α → World → Prop) (hI : OwnFrom D I) (a1 : α → Act) (pre : List α) (x : α) (W : World)
    (hassign : ∀ (K : Act → World → Prop) (W : World), K (a1 x) W → assign.wpIn (Fence.wide.inRound (D + 1)) m P (Exit.then K (fun _ _ _ => False)) { tmps := (ps.zip (encs x)).foldl (fun t (p, v) => t.setIfInBounds p v) tmps, defers := [] } W)
    (Kp : World → World → Prop) (hKp : ∀ {A B C : World}, Kp A B → Kp B C → Kp A C) (hKb : ∀ (W : World) (o o' : Obj), W.heap[D + 1]? = some o → o.isCells = false → Kp W (W.putObj (D + 1) o'))
    (hbody : ∀ W, I pre W → body.wpIn (Fence.wide.inRound (D + 1)) m P (fun e _ W' => e = .normal ∧ KeepsFrom D W W' ∧ Kp W W' ∧ I (pre ++ [x]) W') (a1 x) W)
    (h : RecJ I (recOf fn tmps ps assign body D) D pre W) :
    YieldAt Fence.wide m P (D + 1) (encs x) W fun e W' => e = .returned (.bool true) ∧ RecJ I (recOf fn tmps ps assign body D) D (pre ++ [x]) W' ∧ Kp W W' := by
  obtain ⟨hi, hl, hk⟩ := h
  have hlt : D + 1 < W.heap.size := (Array.getElem?_eq_some_iff.1 hl).1
  have hy := run_yield (P := P) (args := encs x) hl (hps x)
  refine ⟨fn, _, assign, body, hy, roundIn_of_wpIn trivial (hassign _ W ?_)⟩
  clear hy
  refine ⟨_, run_beginRound hl rfl, ?_⟩
  have hl2 : (W.putObj (D + 1) (.loop (recOf fn tmps ps assign body D .busy))).heap[D + 1]? = some (.loop (recOf fn tmps ps assign body D .busy)) := World.putObj_heap_same hlt
  have hk2 : (W.putObj (D + 1) (.loop (recOf fn tmps ps assign body D .busy))).heap[D]? = some (.deferred (some [])) := (World.putObj_heap_other (by omega)).trans hk
  have hi2 : I pre (W.putObj (D + 1) (.loop (recOf fn tmps ps assign body D .busy))) := hI.putObj _ hi (by omega) hl rfl
  have kp1 : Kp W (W.putObj (D + 1) (.loop (recOf fn tmps ps assign body D .busy))) := hKb W _ _ hl rfl
  refine wpIn_mono (hbody _ hi2) ?_
  rintro e a' W' ⟨rfl, hkf, hkp, hi3⟩
  have hl3 := hkf.same _ _ (by omega) hl2 rfl
  have hk3 := hkf.same _ _ (Nat.le_refl _) hk2 rfl
  refine ⟨_, _, run_endRound none hl3, rfl, ⟨hI.putObj _ hi3 (by omega) hl3 rfl, World.putObj_heap_same (Array.getElem?_eq_some_iff.1 hl3).1, (World.putObj_heap_other (by omega)).trans hk3⟩, hKp kp1 (hKp hkp (hKb W' _ _ hl3 rfl))⟩

/-- the statement -/
theorem box_range {α : Type} {P : Program} {n : Nat} {g : Operand} {ps : Array Tmp} {assign body : Code} {Q : Exit → Act → World → Prop} {a : Act} {w : World} {gf : Nat} {lb : Array Value} (h1 : 1 ≤ n)
    (hg : a.eval g = .func (.func gf) #[] lb) (eg : ∀ args w, (callFunc gf args).run P w = .ok (.enter gf args) w)
    (encs : α → Array Value) (hps : ∀ x, (encs x).size = ps.size) (xs : List α)
    (Kp : World → World → Prop) (hKp : ∀ {A B C : World}, Kp A B → Kp B C → Kp A C) (hKb : ∀ (W : World) (o o' : Obj), W.heap[w.heap.size + 1]? = some o → o.isCells = false → Kp W (W.putObj (w.heap.size + 1) o'))
    (Stp : World → World → Prop) (hS : ∀ (A B : World) (k : Nat) (o : Obj), Stp A B → A.heap[k]? = some o → o.isCells = false → B.heap[k]? = some o)
    (I : List α → World → Prop) (hI : OwnFrom w.heap.size I) (hIS : ∀ s A B, I s A → Stp A B → I s B) (h0 : I [] w)
    (hseq : ∀ (l : Nat) (J : List α → World → Prop) (W : World), (∀ s A B, J s A → Stp A B → J s B) → Below w.heap.size w W →
      (∀ pre x W, J pre W → pre ++ [x] <+: xs → YieldAt Fence.wide (n - 1 - 1) P l (encs x) W fun e W' => e = .returned (.bool true) ∧ J (pre ++ [x]) W' ∧ Kp W W') → J [] W →
      CallsIn Fence.wide (n - 1) P gf (#[.func (.yield l) #[] #[]] ++ lb) W fun e W' => (∃ v, e = .returned v) ∧ J xs W')
    (a1 : α → Act)
    (hassign : ∀ (x : α) (K : Act → World → Prop) (W : World), K (a1 x) W → assign.wpIn (Fence.wide.inRound (w.heap.size + 1)) (n - 1 - 1) P (Exit.then K (fun _ _ _ => False)) { tmps := (ps.zip (encs x)).foldl (fun t (p, v) => t.setIfInBounds p v) a.tmps, defers := [] } W)
    (hbody : ∀ pre x W, pre ++ [x] <+: xs → I pre W → body.wpIn (Fence.wide.inRound (w.heap.size + 1)) (n - 1 - 1) P (fun e _ W' => e = .normal ∧ KeepsFrom w.heap.size W W' ∧ Kp W W' ∧ I (pre ++ [x]) W') (a1 x) W)
    (hdone : ∀ W, I xs W → W.heap[w.heap.size]? = some (.deferred (some [])) → Q .normal { a with defers := { target := .collected w.heap.size, args := #[] } :: a.defers } W) :
    (Code.rangeFunc g ps assign body).wpIn Fence.wide n P Q a w := by
  refine wpIn_rangeFunc ?_
  intro fn _
  have hL1 : ((w.alloc (.deferred (some []))).alloc (.loop (recOf fn a.tmps ps assign body w.heap.size .ready))).heap[w.heap.size + 1]? = some (.loop (recOf fn a.tmps ps assign body w.heap.size .ready)) := by
    have := World.alloc_heap_new (w.alloc (.deferred (some []))) (.loop (recOf fn a.tmps ps assign body w.heap.size .ready)); rwa [World.size_alloc] at this
  have hK1 : ((w.alloc (.deferred (some []))).alloc (.loop (recOf fn a.tmps ps assign body w.heap.size .ready))).heap[w.heap.size]? = some (.deferred (some [])) :=
    (Below.heap_alloc _ _ _ (by simp)).trans (World.alloc_heap_new w _)
  refine ⟨w.heap.size + 1, [{ target := .collected w.heap.size, args := #[] }], (w.alloc (.deferred (some []))).alloc (.loop (recOf fn a.tmps ps assign body w.heap.size .ready)), { target := .fn (.func gf) lb, args := #[.func (.yield (w.heap.size + 1)) #[] #[]] },
    (w.alloc (.deferred (some []))).alloc (.loop (recOf fn a.tmps ps assign body w.heap.size .ready)), gf, #[.func (.yield (w.heap.size + 1)) #[] #[]] ++ lb, (w.alloc (.deferred (some []))).alloc (.loop (recOf fn a.tmps ps assign body w.heap.size .ready)), ?_, ?_, ?_, ?_, fun _ => h1, ?_⟩
  · exact run_enterLoop_outer _ _ _ _ _
  · simp only [resolve, hg]
    simp [go_sem]
  · intro f' hf'; trivial
  · simp [invoke, go_sem, eg]
  · refine (hseq (w.heap.size + 1) (RecJ I (recOf fn a.tmps ps assign body w.heap.size) w.heap.size) _ ?_ (((Below.refl _ w).alloc (Nat.le_refl _) _).alloc (by simp) _) ?_ ⟨hI.alloc _ (hI.alloc _ h0), hL1, hK1⟩).mono ?_
    · rintro s A B ⟨hi, hl, hk⟩ hst
      exact ⟨hIS _ _ _ hi hst, hS _ _ _ _ hst hl rfl, hS _ _ _ _ hst hk rfl⟩
    · intro pre x W hJ hp
      exact box_round encs hps I hI a1 pre x W (hassign x) Kp hKp hKb (fun W' hi => hbody pre x W' hp hi) hJ
    · rintro e W2 ⟨⟨v, rfl⟩, hi, hl, hk⟩
      exact ⟨none, _, run_endLoop hl (by simp [recOf]), hdone _ (hI.putObj _ hi (by omega) hl rfl) ((World.putObj_heap_other (by omega)).trans hk)⟩
end Go.Proofs.Ytfjnphiegoogoaa

/- UpC -/
namespace Go.Proofs.Ytfjnphiegoogoaa
open Go.RowKit
set_option linter.unusedVariables false
set_option linter.unusedSimpArgs false

/-- one round, where the loop's record is ready -/
theorem loop_round {α : Type} {P : Program} {m D : Nat} {fn : FuncId} {tmps : Array Value} {ps : Array Tmp} {assign body : Code} (encs : α → Array Value) (hps : ∀ x, (encs x).size = ps.size)
    (I : List α → World → Prop) (hI : OwnFrom D I) (a1 : α → Act) (pre : List α) (x : α) (W : World)
    (hassign : ∀ (K : Act → World → Prop) (W : World), K (a1 x) W → assign.wpIn (Fence.wide.inRound (D + 1)) m P (Exit.then K (fun _ _ _ => False)) { tmps := (ps.zip (encs x)).foldl (fun t (p, v) => t.setIfInBounds p v) tmps, defers := [] } W)
    (Kp : World → World → Prop) (hKp : ∀ {A B C : World}, Kp A B → Kp B C → Kp A C) (hKb : ∀ (W : World) (o o' : Loop), W.heap[D + 1]? = some (.loop o) → Kp W (W.putObj (D + 1) (.loop o')))
    (hbody : ∀ W, I pre W → body.wpIn (Fence.wide.inRound (D + 1)) m P (fun e _ W' => e = .normal ∧ KeepsFrom D W W' ∧ Kp W W' ∧ I (pre ++ [x]) W') (a1 x) W)
    (h : RecJ I (recOf fn tmps ps assign body D) D pre W) :
    YieldAt Fence.wide m P (D + 1) (encs x) W fun e W' => e = .returned (.bool true) ∧ RecJ I (recOf fn tmps ps assign body D) D (pre ++ [x]) W' ∧ Kp W W' := by
  obtain ⟨hi, hl, hk⟩ := h
  have hlt : D + 1 < W.heap.size := (Array.getElem?_eq_some_iff.1 hl).1
  have hy := run_yield (P := P) (args := encs x) hl (hps x)
  refine ⟨fn, _, assign, body, hy, roundIn_of_wpIn trivial (hassign _ W ?_)⟩
  clear hy
  refine ⟨_, run_beginRound hl rfl, ?_⟩
  have hl2 : (W.putObj (D + 1) (.loop (recOf fn tmps ps assign body D .busy))).heap[D + 1]? = some (.loop (recOf fn tmps ps assign body D .busy)) := World.putObj_heap_same hlt
  have hk2 : (W.putObj (D + 1) (.loop (recOf fn tmps ps assign body D .busy))).heap[D]? = some (.deferred (some [])) := (World.putObj_heap_other (by omega)).trans hk
  have hi2 : I pre (W.putObj (D + 1) (.loop (recOf fn tmps ps assign body D .busy))) := hI.putObj _ hi (by omega) hl rfl
  have kp1 : Kp W (W.putObj (D + 1) (.loop (recOf fn tmps ps assign body D .busy))) := hKb W _ _ hl
  refine wpIn_mono (hbody _ hi2) ?_
  rintro e a' W' ⟨rfl, hkf, hkp, hi3⟩
  have hl3 := hkf.same _ _ (by omega) hl2 rfl
  have hk3 := hkf.same _ _ (Nat.le_refl _) hk2 rfl
  refine ⟨_, _, run_endRound none hl3, rfl, ⟨hI.putObj _ hi3 (by omega) hl3 rfl, World.putObj_heap_same (Array.getElem?_eq_some_iff.1 hl3).1, (World.putObj_heap_other (by omega)).trans hk3⟩, hKp kp1 (hKp hkp (hKb W' _ _ hl3))⟩

/-- the statement -/
theorem loop_range {α : Type} {P : Program} {n : Nat} {g : Operand} {ps : Array Tmp} {assign body : Code} {Q : Exit → Act → World → Prop} {a : Act} {w : World} {gf : Nat} {lb : Array Value} (h1 : 1 ≤ n)
    (hg : a.eval g = .func (.func gf) #[] lb) (eg : ∀ args w, (callFunc gf args).run P w = .ok (.enter gf args) w)
    (encs : α → Array Value) (hps : ∀ x, (encs x).size = ps.size) (xs : List α)
    (Kp : World → World → Prop) (hKp : ∀ {A B C : World}, Kp A B → Kp B C → Kp A C) (hKb : ∀ (W : World) (o o' : Loop), W.heap[w.heap.size + 1]? = some (.loop o) → Kp W (W.putObj (w.heap.size + 1) (.loop o')))
    (Stp : World → World → Prop) (hS : ∀ (A B : World) (k : Nat) (o : Obj), Stp A B → A.heap[k]? = some o → ((∃ r, o = .loop r) ∨ ∃ d, o = .deferred d) → B.heap[k]? = some o)
    (I : List α → World → Prop) (hI : OwnFrom w.heap.size I) (hIS : ∀ s A B, I s A → Stp A B → I s B) (h0 : I [] w)
    (hseq : ∀ (l : Nat) (J : List α → World → Prop) (W : World), (∀ s A, J s A → I s A) → (∀ s A B, J s A → Stp A B → J s B) → Below w.heap.size w W →
      (∀ pre x W, J pre W → pre ++ [x] <+: xs → YieldAt Fence.wide (n - 1 - 1) P l (encs x) W fun e W' => e = .returned (.bool true) ∧ J (pre ++ [x]) W' ∧ Kp W W') → J [] W →
      CallsIn Fence.wide (n - 1) P gf (#[.func (.yield l) #[] #[]] ++ lb) W fun e W' => (∃ v, e = .returned v) ∧ J xs W')
    (a1 : α → Act)
    (hassign : ∀ (x : α) (K : Act → World → Prop) (W : World), K (a1 x) W → assign.wpIn (Fence.wide.inRound (w.heap.size + 1)) (n - 1 - 1) P (Exit.then K (fun _ _ _ => False)) { tmps := (ps.zip (encs x)).foldl (fun t (p, v) => t.setIfInBounds p v) a.tmps, defers := [] } W)
    (hbody : ∀ pre x W, pre ++ [x] <+: xs → I pre W → body.wpIn (Fence.wide.inRound (w.heap.size + 1)) (n - 1 - 1) P (fun e _ W' => e = .normal ∧ KeepsFrom w.heap.size W W' ∧ Kp W W' ∧ I (pre ++ [x]) W') (a1 x) W)
    (hdone : ∀ W, I xs W → W.heap[w.heap.size]? = some (.deferred (some [])) → Q .normal { a with defers := { target := .collected w.heap.size, args := #[] } :: a.defers } W) :
    (Code.rangeFunc g ps assign body).wpIn Fence.wide n P Q a w := by
  refine wpIn_rangeFunc ?_
  intro fn _
  have hL1 : ((w.alloc (.deferred (some []))).alloc (.loop (recOf fn a.tmps ps assign body w.heap.size .ready))).heap[w.heap.size + 1]? = some (.loop (recOf fn a.tmps ps assign body w.heap.size .ready)) := by
    have := World.alloc_heap_new (w.alloc (.deferred (some []))) (.loop (recOf fn a.tmps ps assign body w.heap.size .ready)); rwa [World.size_alloc] at this
  have hK1 : ((w.alloc (.deferred (some []))).alloc (.loop (recOf fn a.tmps ps assign body w.heap.size .ready))).heap[w.heap.size]? = some (.deferred (some [])) :=
    (Below.heap_alloc _ _ _ (by simp)).trans (World.alloc_heap_new w _)
  refine ⟨w.heap.size + 1, [{ target := .collected w.heap.size, args := #[] }], (w.alloc (.deferred (some []))).alloc (.loop (recOf fn a.tmps ps assign body w.heap.size .ready)), { target := .fn (.func gf) lb, args := #[.func (.yield (w.heap.size + 1)) #[] #[]] },
    (w.alloc (.deferred (some []))).alloc (.loop (recOf fn a.tmps ps assign body w.heap.size .ready)), gf, #[.func (.yield (w.heap.size + 1)) #[] #[]] ++ lb, (w.alloc (.deferred (some []))).alloc (.loop (recOf fn a.tmps ps assign body w.heap.size .ready)), ?_, ?_, ?_, ?_, fun _ => h1, ?_⟩
  · exact run_enterLoop_outer _ _ _ _ _
  · simp only [resolve, hg]
    simp [go_sem]
  · intro f' hf'; trivial
  · simp [invoke, go_sem, eg]
  · refine (hseq (w.heap.size + 1) (RecJ I (recOf fn a.tmps ps assign body w.heap.size) w.heap.size) _ (fun _ _ h => h.1) ?_ (((Below.refl _ w).alloc (Nat.le_refl _) _).alloc (by simp) _) ?_ ⟨hI.alloc _ (hI.alloc _ h0), hL1, hK1⟩).mono ?_
    · rintro s A B ⟨hi, hl, hk⟩ hst
      exact ⟨hIS _ _ _ hi hst, hS _ _ _ _ hst hl (.inl ⟨_, rfl⟩), hS _ _ _ _ hst hk (.inr ⟨_, rfl⟩)⟩
    · intro pre x W hJ hp
      exact loop_round encs hps I hI a1 pre x W (hassign x) Kp hKp hKb (fun W' hi => hbody pre x W' hp hi) hJ
    · rintro e W2 ⟨⟨v, rfl⟩, hi, hl, hk⟩
      exact ⟨none, _, run_endLoop hl (by simp [recOf]), hdone _ (hI.putObj _ hi (by omega) hl rfl) ((World.putObj_heap_other (by omega)).trans hk)⟩

theorem stpU_keeps {B : Nat} (A W : World) (k : Nat) (o : Obj) (h : StpU B A W) (hk : A.heap[k]? = some o) (ho : (∃ r, o = .loop r) ∨ ∃ d, o = .deferred d) : W.heap[k]? = some o := by
  obtain ⟨row, hg, hr⟩ := h
  rw [hg.block k (Array.getElem?_eq_some_iff.1 hk).1 ?_]
  · exact hk
  · intro e
    obtain ⟨_, o', h1, h2⟩ := hr k e.symm
    rw [hk] at h1
    cases h1
    rcases ho with ⟨r, rfl⟩ | ⟨d, rfl⟩ <;> rcases h2 with ⟨_, _, h2⟩ | ⟨_, _, h2⟩ <;> cases h2
theorem KpU.trans {B B2 : Nat} {X Y Z : World} (h : KpU B B2 X Y) (k : KpU B B2 Y Z) : KpU B B2 X Z :=
  ⟨k.1.trans h.1, Nat.le_trans h.2.1 k.2.1, fun r o hr ho hc => k.2.2 r o hr (h.2.2 r o hr ho hc) hc⟩
theorem KpU.loop {B B2 D : Nat} (hD : B2 ≠ D) (W : World) (o o' : Loop) (h : W.heap[D]? = some (.loop o)) : KpU B B2 W (W.putObj D (.loop o')) := by
  refine ⟨World.putObj_heap_other hD, by simp, fun r x hr hx hc => ?_⟩
  rw [World.putObj_heap_other (fun e => ?_)]
  · exact hx
  · rw [e, h] at hx
    cases hx
    rcases hc with ⟨_, _, h2⟩ | ⟨_, _, h2⟩ <;> cases h2
end Go.Proofs.Ytfjnphiegoogoaa

/- UpD -/
namespace Go.Proofs.Ytfjnphiegoogoaa
open Go.RowKit
set_option linter.unusedVariables false
set_option linter.unusedSimpArgs false
set_option maxHeartbeats 1000000 in
theorem upward_F (p : Addr) (f : Fn) (w : World) :
    Calls Try.prog 55 #[.pointer (some p), .func f #[] #[]] w fun e w' => e = .returned (.func (.func 83) #[] #[.pointer (some ⟨w.heap.size, 0, none⟩), .pointer (some ⟨w.heap.size + 1, 0, none⟩)]) ∧
      w' = (w.alloc (.cells #[.pointer (some p)] 54)).alloc (.cells #[.func f #[] #[]] 67) := by
  go_enter Try.func55, Try.ntmps55
  go_wp2
  go_ret
  exact ⟨rfl, rfl⟩
end Go.Proofs.Ytfjnphiegoogoaa

/- Cnt -/
namespace Go.Proofs.Ytfjnphiegoogoaa
open Go.RowKit
set_option linter.unusedVariables false
set_option linter.unusedSimpArgs false
attribute [local go_sem] Oper.semAt_some

def cntM (cv : Addr → Nat) (pre : List Addr) : List (Addr × Value) := pre.map fun p => (p, .int .i64 (cv p : Int))
theorem pget_cnt (cv : Addr → Nat) (pre : List Addr) (q : Addr) : pget (cntM cv pre) q = if q ∈ pre then some (.int .i64 (cv q : Int)) else none := by
  induction pre with
  | nil => rfl
  | cons x met ih =>
    show pget ((x, _) :: cntM cv met) q = _
    rw [pget_cons, ih]
    by_cases h : x = q
    · subst h; simp
    · have h2 : ¬ q = x := fun e => h e.symm
      simp [h, h2]
theorem cntM_snoc (cv : Addr → Nat) (pre : List Addr) (q : Addr) : cntM cv (pre ++ [q]) = cntM cv pre ++ [(q, .int .i64 (cv q : Int))] := by simp [cntM]
theorem zeroInt : (Try.prog.info? 3).map (·.zero) = some (some (.int .i64 0)) := by kernel_rfl
theorem int_info : ∃ j, Try.prog.info? 3 = some j ∧ j.zero = some (.int .i64 0) := by
  have h := zeroInt
  cases hj : Try.prog.info? 3 with
  | none => rw [hj] at h; cases h
  | some j => rw [hj] at h; injection h with h; exact ⟨j, rfl, h⟩
/-- how a graph of nodes lies -/
def NodesAt (w : World) (ch : Addr → List Addr) (D : Addr → Prop) : Prop :=
  ∀ p, D p → Plain w p ∧ p.spot = none ∧ ∃ (A : Option Addr) (m c : Nat), w.cell? ⟨p.block, p.off + 2, none⟩ = some (.slice A m c) ∧ ch p = kids A m ∧ (0 < m → ∃ b o, A = some ⟨b, o, none⟩) ∧ m ≤ 1099511627776
theorem NodesAt.later {w w1 : World} {ch : Addr → List Addr} {D : Addr → Prop} (h : NodesAt w ch D) (hb : Below w.heap.size w w1) : NodesAt w1 ch D := by
  intro p hp
  obtain ⟨h1, h2, A, m, c, h3, h4⟩ := h p hp
  exact ⟨h1.later hb, h2, A, m, c, cell_later hb h3, h4⟩
end Go.Proofs.Ytfjnphiegoogoaa

/- CntB -/
namespace Go.Proofs.Ytfjnphiegoogoaa
open Go.RowKit
set_option linter.unusedVariables false
set_option linter.unusedSimpArgs false
attribute [local go_sem] Oper.semAt_some

theorem at_alloc (w : World) (o : Obj) (k : Nat) : (w.alloc o).heap[k]? = if k = w.heap.size then some o else w.heap[k]? := by
  show (w.heap.push o)[k]? = _
  rw [Array.getElem?_push]

theorem fold_le (f : Addr → Nat) : ∀ (l : List Addr) (a : Nat), a ≤ 2147483647 → l.foldl (fun a q => min (a + f q) 2147483647) a ≤ 2147483647
  | [], a, h => h
  | x :: l, a, h => fold_le f l _ (Nat.min_le_right _ _)
theorem fold_take (f : Addr → Nat) (l : List Addr) (k : Nat) (q : Addr) (h : l[k]? = some q) : (l.take (k + 1)).foldl (fun a q => min (a + f q) 2147483647) 1 = min ((l.take k).foldl (fun a q => min (a + f q) 2147483647) 1 + f q) 2147483647 := by
  rw [List.take_add_one, h]
  simp
theorem kids_len {A : Option Addr} {m : Nat} (h : 0 < m → ∃ b o, A = some ⟨b, o, none⟩) : (kids A m).length = m := by
  cases m with
  | zero => simp [kids]
  | succ m =>
    obtain ⟨b, o, rfl⟩ := h (by omega)
    simp [kids]
theorem kids_at {b o m k : Nat} (h : k < m) : (kids (some ⟨b, o, none⟩) m)[k]? = some ⟨b, o + k * 7, none⟩ := by simp [kids, h]

end Go.Proofs.Ytfjnphiegoogoaa

/- CntC -/
namespace Go.Proofs.Ytfjnphiegoogoaa
open Go.RowKit
set_option linter.unusedVariables false
set_option linter.unusedSimpArgs false

def cvN (ch : Addr → List Addr) : Nat → Addr → Nat
  | 0, _ => 1
  | r + 1, p => (ch p).foldl (fun a q => min (a + cvN ch r q) 2147483647) 1
theorem fold_congr {f g : Addr → Nat} : ∀ (l : List Addr) (a : Nat), (∀ q ∈ l, f q = g q) → l.foldl (fun a q => min (a + f q) 2147483647) a = l.foldl (fun a q => min (a + g q) 2147483647) a
  | [], _, _ => rfl
  | x :: l, a, h => by
    simp only [List.foldl_cons]
    rw [h x (by simp)]
    exact fold_congr l _ fun q hq => h q (by simp [hq])
theorem cvN_same (ch : Addr → List Addr) (rk : Addr → Nat) (D : Addr → Prop) (hw : Within ch D) (hr : ∀ p, D p → ∀ q ∈ ch p, rk q < rk p) : ∀ (r s : Nat) (p : Addr), D p → rk p < r → rk p < s → cvN ch r p = cvN ch s p
  | 0, _, _, _, h, _ => by omega
  | _, 0, _, _, _, h => by omega
  | r + 1, s + 1, p, hp, h1, h2 => by
    simp only [cvN]
    refine fold_congr _ _ fun q hq => ?_
    have := hr p hp q hq
    exact cvN_same ch rk D hw hr r s q (hw p hp q hq) (by omega) (by omega)
/-- the count of the nodes as a tree -/
def cvOf (ch : Addr → List Addr) (rk : Addr → Nat) (p : Addr) : Nat := cvN ch (rk p + 1) p
theorem cvOf_eq (ch : Addr → List Addr) (rk : Addr → Nat) (D : Addr → Prop) (hw : Within ch D) (hr : ∀ p, D p → ∀ q ∈ ch p, rk q < rk p) : ∀ p, D p → cvOf ch rk p = (ch p).foldl (fun a q => min (a + cvOf ch rk q) 2147483647) 1 := by
  intro p hp
  show (ch p).foldl (fun a q => min (a + cvN ch (rk p) q) 2147483647) 1 = _
  refine fold_congr _ _ fun q hq => ?_
  have := hr p hp q hq
  exact cvN_same ch rk D hw hr _ _ q (hw p hp q hq) (by omega) (by omega)
end Go.Proofs.Ytfjnphiegoogoaa

/- Ask -/
namespace Go.Proofs.Ytfjnphiegoogoaa
open Go.ChangeShapes Go.WideShapes Go.ChangeAt Go.RowKit Go.Fl
set_option linter.unusedVariables false
set_option linter.unusedSimpArgs false
attribute [local go_sem] Oper.semAt_some

def valC (v : Int × Nat) : Value := .agg #[.int .i64 v.1, .int .u64 (v.2 : Int)]
def ansM (av : Addr → Int × Nat) (pre : List Addr) : List (Addr × Value) := pre.map fun p => (p, valC (av p))
theorem pget_ans (av : Addr → Int × Nat) (pre : List Addr) (q : Addr) : pget (ansM av pre) q = if q ∈ pre then some (valC (av q)) else none := by
  induction pre with
  | nil => rfl
  | cons x met ih =>
    show pget ((x, _) :: ansM av met) q = _
    rw [pget_cons, ih]
    by_cases h : x = q
    · subst h; simp
    · have h2 : ¬ q = x := fun e => h e.symm
      simp [h, h2]
theorem ansM_snoc (av : Addr → Int × Nat) (pre : List Addr) (q : Addr) : ansM av (pre ++ [q]) = ansM av pre ++ [(q, valC (av q))] := by simp [ansM]
theorem ans_look {av : Addr → Int × Nat} {w : World} {r : Nat} {pre : List Addr} {q : Addr} (h : PtrMap w r (ansM av pre)) (hq : Plain w q) (hm : ∀ x ∈ pre, Plain w x) (hqm : q ∈ pre) :
    (Instr.lookup 89 (.map (some r)) (.pointer (some q)) false).run Try.prog w = .ok (valC (av q)) w := by
  obtain ⟨j, h1, h2⟩ := node_info
  obtain ⟨i0, h3, h4, _, _⟩ := info_parts infoV
  have := run_lookup_ptr (P := Try.prog) Try.underlying89 Try.underlying54 h1 h2 h3 h4 h hq (fun x hx => by
    obtain ⟨y, hy, rfl⟩ := List.mem_map.1 hx
    exact hm y hy) false
  rw [this, pget_ans, if_pos hqm]
  rfl
theorem ans_put {av : Addr → Int × Nat} {w : World} {r : Nat} {pre : List Addr} {q : Addr} (h : PtrMap w r (ansM av pre)) (hq : Plain w q) (hm : ∀ x ∈ pre, Plain w x) (hn : q ∉ pre) :
    ∃ o : Obj, o.isCells = false ∧ (Instr.mapUpdate 89 (.map (some r)) (.pointer (some q)) (valC (av q))).run Try.prog w = .ok () (w.putObj r o) ∧ PtrMap (w.putObj r o) r (ansM av (pre ++ [q])) := by
  obtain ⟨j, h1, h2⟩ := node_info
  have := run_update_ptr (P := Try.prog) Try.underlying89 Try.underlying54 h1 h2 (valC (av q)) h hq (fun x hx => by
    obtain ⟨y, hy, rfl⟩ := List.mem_map.1 hx
    exact hm y hy) (by rw [pget_ans, if_neg hn])
  rw [ansM_snoc]
  exact this
/-- between two rounds -/
def AskI (w : World) (lk : Array Value) (av : Addr → Int × Nat) (root : Addr) (pre : List Addr) (W : World) : Prop :=
  Below w.heap.size w W ∧ Blk W w.heap.size 34 lk ∧ Blk W (w.heap.size + 1) 25 #[.int .i64 0, .int .u64 0] ∧ PtrMap W (w.heap.size + 2) (ansM av pre) ∧
    Boxed W (w.heap.size + 3) 89 (.map (some (w.heap.size + 2))) ∧ Boxed W (w.heap.size + 4) 54 (.pointer (some root)) ∧ Boxed W (w.heap.size + 5) 67 (.func (.func 27) #[] #[])
theorem AskI.keep {w : World} {lk : Array Value} {av : Addr → Int × Nat} {root : Addr} {pre : List Addr} {A W : World} (h : AskI w lk av root pre A) (hs : A.os = W.os ∧ A.tape = W.tape ∧ A.output = W.output ∧ A.heap.size ≤ W.heap.size) (hk : ∀ k, k < w.heap.size + 6 → W.heap[k]? = A.heap[k]?) : AskI w lk av root pre W := by
  obtain ⟨h1, h2, h3, h4, h5, h6, h7⟩ := h
  exact ⟨⟨hs.1 ▸ h1.1, hs.2.1 ▸ h1.2, hs.2.2.1 ▸ h1.3, Nat.le_trans h1.4 hs.2.2.2, fun k hk2 => (hk k (by omega)).trans (h1.5 k hk2)⟩,
    (hk _ (by omega)).trans h2, (hk _ (by omega)).trans h3, h4.same (hk _ (by omega)), (hk _ (by omega)).trans h5, (hk _ (by omega)).trans h6, (hk _ (by omega)).trans h7⟩
theorem AskI.own (w : World) (lk : Array Value) (av : Addr → Int × Nat) (root : Addr) (B : Nat) (hB : w.heap.size + 6 ≤ B) : OwnFrom B (AskI w lk av root) := by
  intro s A W row h hg hr
  have hlt : w.heap.size + 5 < A.heap.size := h.2.2.2.2.2.2.lt
  refine h.keep ⟨hg.os.symm, hg.tape.symm, hg.output.symm, hg.size⟩ (fun k hk => hg.block k (by omega) (fun e => ?_))
  obtain ⟨h1, _⟩ := hr k e.symm
  omega
theorem AskI.stp {w : World} {lk : Array Value} {av : Addr → Int × Nat} {root : Addr} {B : Nat} (hB : w.heap.size + 6 ≤ B) (s : List Addr) (A W : World) (h : AskI w lk av root s A) (hst : StpU B A W) : AskI w lk av root s W := by
  obtain ⟨row, hg, hr⟩ := hst
  have hlt : w.heap.size + 5 < A.heap.size := h.2.2.2.2.2.2.lt
  refine h.keep ⟨hg.os.symm, hg.tape.symm, hg.output.symm, hg.size⟩ (fun k hk => hg.block k (by omega) (fun e => ?_))
  obtain ⟨h1, _⟩ := hr k e.symm
  omega
/-- the nodes below one that are asked -/
noncomputable def chO (w : World) (p : Addr) : List Addr := if LeafOp (treeAt w p).op then [] else chA w p
theorem chO_of {w : World} {p : Addr} {op kd vk : Int} {vb : Nat} {pos attr : Int} {args : List NT} (h : NodeIs w p (.mk op kd vk vb pos attr args)) :
    ∃ (A : Option Addr) (m c : Nat), (∀ w', Below w.heap.size w w' → Calls Try.prog 27 #[.pointer (some p)] w' fun e w'' => e = .returned (.slice A m c) ∧ w' = w'') ∧ chO w p = kids A m ∧ (0 < m → ∃ b o, A = some ⟨b, o, none⟩) ∧ m ≤ args.length := by
  obtain ⟨A, m, c, h1, h2, h3, h4, h5, h6, h7⟩ := operands_any h
  refine ⟨A, m, c, h1, ?_, h6, h2⟩
  unfold chO
  rw [treeAt_of h]
  show (if LeafOp op then [] else chA w p) = _
  by_cases hop : LeafOp op
  · rw [if_pos hop, h3 hop]; rfl
  · rw [if_neg hop]
    obtain ⟨rfl, hc⟩ := h4 hop
    unfold chA
    rw [hc]
    by_cases h0 : 0 < args.length
    · obtain ⟨b, o, rfl⟩ := h6 h0
      simp [kids]
    · have : args.length = 0 := by omega
      rw [this]
      cases A <;> simp [kids]
end Go.Proofs.Ytfjnphiegoogoaa
