/- PoolPlays: what any calls answer, one behind the other, and what there is then. (Made by genPoolPlays.py.) -/
import Derived.Test.YtdgbnibnhajfoaaRows
import Derived.WalkKit
import Derived.ProofKit
import Derived.OpenShut
import Derived.ShutString
import Derived.ChangeOld
import Derived.Below
import Derived.Lib.SmallJoins
import Derived.SizedLaws
import Derived.Test.YtdgbnibnhajfoaaPpG
import Derived.Test.YtdgbnibnhajfoaaPoI
import Derived.Test.YtdgbnibnhajfoaaHpN
import Derived.Deep.CutRange
import Derived.Deep.DeepCutAuto
namespace Go.Proofs.Ytdgbnibnhajfoaa.poolPlays
open Go.ChangeShapes Go.WideShapes Go.ChangeAt Go.RowKit Go.Joins
set_option linter.unusedVariables false
set_option linter.unusedSimpArgs false

theorem own : ownKnob Try.prog.godebug = none := by kernel_rfl
theorem laidOut : laidOutB Try.prog = true := by kernel_rfl

theorem pathS_len : ∀ (cs : List Cl) (ll : List (List Int)) (part : List Int), (pathS cs ll part).length ≤ ll.length + cs.length
  | [], ll, part => by simp [pathS]
  | c :: cs, ll, part => by
    unfold pathS
    split
    · have := pathS_len cs (ll ++ [(part ++ [c.event]).reverse]) []
      simp only [List.length_append, List.length_cons, List.length_nil] at this ⊢
      omega
    · have := pathS_len cs ll (part ++ [c.event])
      simp only [List.length_cons]
      omega
theorem pathS_le (N : Nat) : ∀ (cs : List Cl) (ll : List (List Int)) (part : List Int), (∀ l ∈ ll, l.length ≤ N) → part.length + cs.length ≤ N → ∀ l ∈ pathS cs ll part, l.length ≤ N
  | [], ll, part, h, _ => by simpa [pathS] using h
  | c :: cs, ll, part, h, hp => by
    simp only [List.length_cons] at hp
    unfold pathS
    split
    · refine pathS_le N cs _ _ (fun l hl => ?_) (by simp; omega)
      rcases List.mem_append.1 hl with hl | hl
      · exact h l hl
      · simp at hl; subst hl; simp; omega
    · exact pathS_le N cs _ _ h (by simp; omega)
set_option maxHeartbeats 16000000 in
set_option maxRecDepth 100000 in
theorem walk (w : World) (a0 : Int) (w0 : (Lit.int .i64 a0).wf = true) (A1 : Option Addr) (c1 : Nat) (z1 : List StepS) (w1 : ScriptAt w A1 z1) (y1 : ∀ s ∈ z1, s.ok) (s1 : z1.length * 32 ≤ 140737488351232) :
    Calls Try.prog 3 #[.int .i64 a0, .slice A1 z1.length c1] w fun e w' => e = .returned (.bool true) ∧ Below w.heap.size w w' := by
  have C0 := Lib.hid (fun w => awake23 w)
  obtain ⟨N, hN⟩ : ∃ n, w.heap.size = n := ⟨_, rfl⟩
  have ha0 := wfI64s w0
  have C1 := Lib.hid (new_any a0 w)
  have C2 := Lib.hid (fun u => rnew_any a0 u ha0)
  obtain ⟨n1, hn1⟩ : ∃ n, z1.length = n := ⟨_, rfl⟩
  have n9 : (n1 : Int) ≤ 9223372036854775807 := by omega
  rw [hn1]
  rw [hn1] at s1
  replace hn1 := Lib.hid hn1
  replace w1 := Lib.hid w1
  replace y1 := Lib.hid y1
  replace hN := Lib.hid hN
  go_enter Try.func3, Try.ntmps3
  go_wp2_with fail
  refine C1.out.mono ?_; rintro e u1 ⟨p, rfl, hP, hb⟩
  replace hP := Lib.hid hP
  replace hb := Lib.hid hb
  go_wp2_with fail
  refine (C2.out u1).mono ?_; rintro e u2 ⟨r, rfl, hX, hb2⟩
  have hPP : PP w N p r 0 a0 (newS a0) (.slice none 0 0) u2 := by
    have hr := hX.low
    obtain ⟨M, vA, vF, h1, h2⟩ := hP.out
    have hz := hb.out.size
    have hN2 := hN.out
    subst hN2
    refine ⟨Inv.start a0, rfl, ⟨M, vA, vF, h1.later hb2, fun k hk => ⟨h2 k hk, ?_, by simp [Value.ownBlock]⟩⟩, ⟨hX.blk, World.ownsRow_nil _ _ _ _, by omega⟩, mmore hb.out hb2⟩
    have := h1.has_lt hk
    omega
  replace hPP := Lib.hid hPP
  clear hP hb hX hb2 C1 C2
  go_wp2_with fail
  refine (C0.out _).mono ?_; rintro e u3 ⟨rfl, hb3⟩
  replace hPP := Lib.hid (hPP.out.later hb3)
  clear hb3
  go_wp2_with fail
  go_loopw [26] (fun v26 wr => ∃ j : Nat, j ≤ n1 ∧ v26 = .int .i64 (j : Int) ∧ j ≤ 200 ∧ ∃ s vC, PP w N p r j a0 s vC wr) (fun v26 _ => n1 - (intOf v26).toNat)
  case atStart => exact ⟨0, Nat.zero_le _, rfl, by omega, _, _, hPP.out⟩
  case round =>
    clear hPP
    obtain ⟨j, hj, rfl, h200, s, vC, hP⟩ := hrel
    by_cases hlt : j < n1
    · obtain ⟨zb, zo, rfl, hcell⟩ := w1.out (by rw [hn1.out]; omega)
      have hjl : j < z1.length := by rw [hn1.out]; exact hlt
      obtain ⟨x0, x1, x2, x3⟩ := hcell j _ (List.getElem?_eq_getElem hjl)
      have hok := y1.out _ (List.getElem_mem hjl)
      obtain ⟨⟨kd, sa, sb, sf⟩, hst⟩ : ∃ t, z1[j] = t := ⟨_, rfl⟩
      rw [hst] at x0 x1 x2 x3 hok
      dsimp only at x0 x1 x2 x3
      have x0 := mlater hP.below x0
      have x1 := mlater hP.below x1
      have x2 := mlater hP.below x2
      have x3 := mlater hP.below x3
      have k1 : (j : Int) < (n1 : Int) := by omega
      have k2 : (0 : Int) ≤ (j : Int) := by omega
      have wj : IntKind.i64.wrap ((j : Int) + 1) = (j : Int) + 1 := by rw [IntKind.wrap_i64]; omega
      have hm := m1 wr (.cells #[.int .i64 kd, .int .i64 sa, .int .i64 sb, .bool sf] 29)
      have hP1 := Lib.hid (hP.later hm)
      have hbl := Blk.made wr 29 #[.int .i64 kd, .int .i64 sa, .int .i64 sb, .bool sf]
      obtain ⟨g, hg⟩ : ∃ g, wr.heap.size = g := ⟨_, rfl⟩
      have hpb := hP.below
      rw [hg] at hbl
      have hbut := hP.but hm (show wr.heap.size ≤ g by omega)
      clear hcell hst hP
      have hjn := Lib.hid hlt
      clear hj
      by_cases hfull : j = 200
      · have e200 : ((j : Int) == 200) = true := by simp; omega
        have hfin := Lib.hid (hP1.out.below)
        clear hfull h200
        go_wp2
        go_ret
        exact ⟨rfl, hfin.out⟩
      have e200 : ((j : Int) == 200) = false := by simp; omega
      have h200 := Lib.hid (show j < 200 by omega)
      clear hfull hlt
      replace hm := Lib.hid hm
      replace hbl := Lib.hid hbl
      replace hpb := Lib.hid hpb
      go_upto_region 8 with (fail)
      generalize wr.alloc (.cells #[.int .i64 kd, .int .i64 sa, .int .i64 sb, .bool sf] 29) = wa at *
      have g0 : wa.cell? ⟨g, 0, none⟩ = some (.int .i64 kd) := hbl.out.cell 0
      have g1 : wa.cell? ⟨g, 1, none⟩ = some (.int .i64 sa) := hbl.out.cell 1
      have g2 : wa.cell? ⟨g, 2, none⟩ = some (.int .i64 sb) := hbl.out.cell 2
      have g3 : wa.cell? ⟨g, 3, none⟩ = some (.bool sf) := hbl.out.cell 3
      clear x0 x1 x2 x3 hm hpb
      replace hbut := Lib.hid hbut
      replace hok := Lib.hid hok
      cases e0 : (kd == 0) with
      | true =>
        have CA := Lib.hid (hP1.out.add hN.out (by have := h200.out; omega) ⟨kd, sa, sb, sf⟩ hok.out hbut.out.1 hbl.out)
        clear hbut hbl hP1
        go_wp2_with fail
        refine CA.out.mono ?_; rintro e v1 ⟨a, x, rfl, hbv, CB⟩
        have z1 : v1.cell? ⟨g, 1, none⟩ = some (.int .i64 sa) := hbv.cell 1
        have z2 : v1.cell? ⟨g, 2, none⟩ = some (.int .i64 sb) := hbv.cell 2
        have z3 : v1.cell? ⟨g, 3, none⟩ = some (.bool sf) := hbv.cell 3
        clear g0 g1 g2 g3 hbv CA
        replace CB := Lib.hid CB
        go_wp2_with fail
        refine CB.out.mono ?_; rintro e v2 ⟨rfl, s2, vC2, hP⟩
        clear z1 z2 z3 CB
        replace hP := Lib.hid hP
        have hQ := hP.out
        have U1 := Lib.hid (used_any hQ.pat)
        have U2 := Lib.hid (fun m => rused_any N r _ _ _ _ (hQ.rx.later (below_dn _ m)))
        have hus := rused_map hQ.inv
        clear hQ
        go_wp2_with fail
        refine U1.out.mono ?_; rintro e v1 ⟨rfl, m1', rfl⟩
        go_wp2_with fail
        refine (U2.out m1').mono ?_; rintro e v2 ⟨rfl, hb2⟩
        have hP2 := Lib.hid ((hP.out.later (below_dn _ m1')).later hb2)
        rw [hus]
        clear U1 U2 hus hb2 hP
        generalize usedP s2 = us at *
        obtain ⟨n2, hn2⟩ : ∃ n, s2.all.length = n := ⟨_, rfl⟩
        replace hn2 := Lib.hid hn2
        go_wp2_with fail
        go_loopw [13] (fun v13 wr => ∃ k : Nat, k ≤ n2 + 2 ∧ v13 = .int .i64 ((k : Int) - 1) ∧ PP w N p r (j + 1) a0 s2 vC2 wr) (fun v13 _ => (n2 + 2) - (intOf v13 + 1).toNat)
        case atStart => exact ⟨0, Nat.zero_le _, rfl, hP2.out⟩
        case round =>
          clear hP2
          obtain ⟨k, hk, rfl, hQ⟩ := hrel
          obtain ⟨Ar, capr, hvr, h2r⟩ := hQ.rx.len
          rw [List.length_map, hn2.out] at hvr
          have dr := hQ.rx.blk.cell 0
          simp only [hvr, List.getElem?_toArray, List.getElem?_cons_zero] at dr
          have hin := hQ.inv.len
          rw [hn2.out] at hin
          have n9 : (n2 : Int) ≤ 9223372036854775807 := by omega
          replace hvr := Lib.hid hvr
          clear h2r
          by_cases hkn : k ≤ n2 + 1
          · have hr9 : -9223372036854775808 ≤ (k : Int) - 1 ∧ (k : Int) - 1 ≤ 9223372036854775807 := by omega
            have H1 := held_any hQ.pat ((k : Int) - 1) hr9
            have hbnd := hQ.inv.rbound (by omega)
            have H2 := rheld_any N r _ _ _ wr (hQ.rx) ((k : Int) - 1) hr9 (fun c hc => by have := hbnd c hc; omega)
            rw [held_both] at H2
            obtain ⟨cs, hch, hcl⟩ : ∃ cs, chainP s2 ((k : Int) - 1) cs ∧ cs.length ≤ 1000 := by
              cases hf : findP s2 ((k : Int) - 1) with
              | none => exact ⟨[], hf, by simp⟩
              | some c =>
                obtain ⟨k', e, hc, hl⟩ := findP_nat hf
                obtain ⟨cs, h1, h2, _⟩ := hQ.inv.chain k' ⟨c, hc, hl⟩
                exact ⟨cs, by rw [e]; exact h1, by omega⟩
            have hprev : ∀ (k : Nat) (c : Cl), s2.all[k]? = some c → -9223372036854775808 ≤ c.prev ∧ c.prev ≤ 9223372036854775807 := fun k c hc => by
              by_cases h0 : c.holds = 0
              · rw [hQ.inv.dead k c hc h0]; decide
              · rcases hQ.inv.up k c hc h0 with ⟨e, _⟩ | ⟨kp, e, d, hd, _⟩
                · omega
                · have := (List.getElem?_eq_some_iff.1 hd).1
                  have := hn2.out
                  omega
            have P1 := Lib.hid (fun m => path_any (hQ.later (below_dn wr m)).pat ((k : Int) - 1) hr9 cs hch (by omega) hprev)
            have P2 := Lib.hid (fun u (hb : Below wr.heap.size wr u) => rpath_any N r _ _ s2 u (hQ.rx.later hb) ((k : Int) - 1) hr9 cs hch (by omega) hprev)
            have hp1 := pathS_len cs [] []
            have hp2 := pathS_le 1000 cs [] [] (by simp) (by simpa using hcl)
            have hple : (pathL cs).length ≤ 1000 ∧ ∀ l ∈ pathL cs, l.length ≤ 1000 := ⟨by unfold pathL; simp at hp1; omega, hp2⟩
            replace hple := Lib.hid hple
            have e1 : IntKind.i64.wrap ((k : Int) - 1 + 1) = (k : Int) := by rw [IntKind.wrap_i64]; omega
            have e2 : (k : Int) - 1 ≤ (n2 : Int) := by omega
            replace H1 := Lib.hid H1
            replace H2 := Lib.hid H2
            replace hQ := Lib.hid hQ
            clear hbnd hch hprev hp1 hp2
            replace hkn := Lib.hid hkn
            replace hk := Lib.hid hk
            generalize heldP s2 ((k : Int) - 1) = hd at *
            generalize hkm : (k : Int) - 1 = km at *
            replace hkm := Lib.hid hkm
            go_wp2_with fail
            refine H1.out.mono ?_; rintro e v1 ⟨rfl, rfl⟩
            go_wp2_with fail
            refine H2.out.mono ?_; rintro e v1 ⟨rfl, mm, rfl⟩
            go_wp2_with fail
            refine (P1.out mm).mono ?_; rintro e v2 ⟨B1, cc1, rfl, hR1, hb1⟩
            have hb1' := mmore (below_dn wr mm) hb1
            have P3 := Lib.hid (P2.out v2 hb1')
            replace hR1 := Lib.hid hR1
            replace hb1' := Lib.hid hb1'
            clear hb1
            go_wp2_with fail
            refine P3.out.mono ?_; rintro e v3 ⟨B2, cc2, rfl, hR2, hb3⟩
            have hb3' := Lib.hid (mmore hb1'.out hb3)
            have S := same_any B1 B2 _ _ cc1 cc2 (pathL cs) (pathL cs) v3 (hR1.out.later hb3) hR2 rfl rfl (by have := hple.out.1; omega) (by have := hple.out.1; omega) (fun l hl => by have := hple.out.2 l hl; omega) (fun l hl => by have := hple.out.2 l hl; omega)
            rw [show decide (pathL cs = pathL cs) = true by simp] at S
            replace S := Lib.hid S
            clear hR1 hR2 hb3 P3 P1 P2 hple
            generalize (pathL cs).length = lp at *
            go_wp2_with fail
            refine S.out.mono ?_; rintro e v4 ⟨rfl, m5, rfl⟩
            have hQ5 := Lib.hid ((hQ.out.later hb3'.out).later (below_dn v3 m5))
            clear S H1 H2 hQ
            go_wp2
            have q1 := hkn.out
            have q2 := hkm.out
            exact ⟨⟨k + 1, by omega, by congr 1; omega, hQ5.out⟩, by simp only [intOf]; omega⟩
          · have e2 : ¬ (k : Int) - 1 ≤ (n2 : Int) := by omega
            replace hQ := Lib.hid hQ
            clear hkn hk
            go_wp2
            have q1 := hjn.out
            exact ⟨⟨j + 1, by omega, by simp, by have := h200.out; omega, s2, vC2, hQ.out⟩, by simp [intOf]; omega⟩
      | false =>
        cases e1 : (kd == 1) with
        | true =>
          have hPd := Lib.hid (hP1.out.later (below_dn wa 1))
          have hbld := Lib.hid (hbl.out.kept (below_dn wa 1))
          have hbutd := Lib.hid (hbut.out.1.later (below_dn wa 1))
          have hj3 := Lib.hid (show j ≤ 300 by have := h200.out; omega)
          have KH := hPd.out.hold hbutd.out hj3.out sa hok.out
          have KS := fun (u : World) (hX : RX N r vC (max 0 a0) (s.all.map rcl) u) => has_both hX sa hok.out
          cases hf : findP s sa with
          | none =>
            rw [hf] at KH
            simp only [hf] at KS
            replace KH := Lib.hid KH
            have KY := Lib.hid (KS _ hPd.out.rx)
            replace KS := Lib.hid KS
            replace hf := Lib.hid hf
            go_upto_region 17 with (fail)
            go_cut [86] from 78 to 86 (fun v w' => v = .bool false ∧ PP w N p r (j + 1) a0 s vC w' ∧ Blk w' g 29 #[.int .i64 kd, .int .i64 sa, .int .i64 sb, .bool sf])
            case first =>
              go_region_law (first
                | ((try go_simp); go_at_call 13; refine KH.out.mono ?_; rintro e v1 ⟨rfl, s1, hh1, hp1⟩; have hbl1 := Lib.hid (hp1.keeps hbld.out); have z1 : v1.cell? ⟨g, 1, none⟩ = some (.int .i64 sa) := hbl1.out.cell 1; have hfin := Lib.hid (hPd.out.hold_no hN.out hf.out hh1 (hp1.wk fun k hk => hk.1)); have KX := Lib.hid (KS.out v1 hfin.out.rx); clear hh1 hp1)
                | ((try go_simp); go_at_call 14; refine KX.out.mono ?_; rintro e v2 ⟨rfl, rfl⟩)
                | ((try go_simp); go_at_call 14; refine KY.out.mono ?_; rintro e v2 ⟨rfl, rfl⟩))
              all_goals go_wp2
              all_goals go_meet
              all_goals exact ⟨by simp, hfin.out, hbl1.out⟩
            case rest =>
              obtain ⟨rfl, hP, hbl1⟩ := hcut
              have KX := Lib.hid (KS.out _ hP.rx)
              have z1 := hbl1.cell 1
              simp only [List.getElem?_toArray, List.getElem?_cons_zero, List.getElem?_cons_succ] at z1
              replace hP := Lib.hid hP
              clear KH KY KS hf hbl1 hPd hbld hbutd hP1 hbl hbut g0 g1 g2 g3
              go_wp2_with fail
              refine KX.out.mono ?_; rintro e v2 ⟨rfl, rfl⟩
              clear KX
              have hQ := hP.out
              have U1 := Lib.hid (used_any hQ.pat)
              have U2 := Lib.hid (fun m => rused_any N r _ _ _ _ (hQ.rx.later (below_dn _ m)))
              have hus := rused_map hQ.inv
              clear hQ
              go_wp2_with fail
              refine U1.out.mono ?_; rintro e v1 ⟨rfl, m1', rfl⟩
              go_wp2_with fail
              refine (U2.out m1').mono ?_; rintro e v2 ⟨rfl, hb2⟩
              have hP2 := Lib.hid ((hP.out.later (below_dn _ m1')).later hb2)
              rw [hus]
              clear U1 U2 hus hb2 hP
              generalize usedP s = us at *
              obtain ⟨n2, hn2⟩ : ∃ n, s.all.length = n := ⟨_, rfl⟩
              replace hn2 := Lib.hid hn2
              go_wp2_with fail
              go_loopw [13] (fun v13 wr => ∃ k : Nat, k ≤ n2 + 2 ∧ v13 = .int .i64 ((k : Int) - 1) ∧ PP w N p r (j + 1) a0 s vC wr) (fun v13 _ => (n2 + 2) - (intOf v13 + 1).toNat)
              case atStart => exact ⟨0, Nat.zero_le _, rfl, hP2.out⟩
              case round =>
                clear hP2
                obtain ⟨k, hk, rfl, hQ⟩ := hrel
                obtain ⟨Ar, capr, hvr, h2r⟩ := hQ.rx.len
                rw [List.length_map, hn2.out] at hvr
                have dr := hQ.rx.blk.cell 0
                simp only [hvr, List.getElem?_toArray, List.getElem?_cons_zero] at dr
                have hin := hQ.inv.len
                rw [hn2.out] at hin
                have n9 : (n2 : Int) ≤ 9223372036854775807 := by omega
                replace hvr := Lib.hid hvr
                clear h2r
                by_cases hkn : k ≤ n2 + 1
                · have hr9 : -9223372036854775808 ≤ (k : Int) - 1 ∧ (k : Int) - 1 ≤ 9223372036854775807 := by omega
                  have H1 := held_any hQ.pat ((k : Int) - 1) hr9
                  have hbnd := hQ.inv.rbound (by omega)
                  have H2 := rheld_any N r _ _ _ wr (hQ.rx) ((k : Int) - 1) hr9 (fun c hc => by have := hbnd c hc; omega)
                  rw [held_both] at H2
                  obtain ⟨cs, hch, hcl⟩ : ∃ cs, chainP s ((k : Int) - 1) cs ∧ cs.length ≤ 1000 := by
                    cases hf : findP s ((k : Int) - 1) with
                    | none => exact ⟨[], hf, by simp⟩
                    | some c =>
                      obtain ⟨k', e, hc, hl⟩ := findP_nat hf
                      obtain ⟨cs, h1, h2, _⟩ := hQ.inv.chain k' ⟨c, hc, hl⟩
                      exact ⟨cs, by rw [e]; exact h1, by omega⟩
                  have hprev : ∀ (k : Nat) (c : Cl), s.all[k]? = some c → -9223372036854775808 ≤ c.prev ∧ c.prev ≤ 9223372036854775807 := fun k c hc => by
                    by_cases h0 : c.holds = 0
                    · rw [hQ.inv.dead k c hc h0]; decide
                    · rcases hQ.inv.up k c hc h0 with ⟨e, _⟩ | ⟨kp, e, d, hd, _⟩
                      · omega
                      · have := (List.getElem?_eq_some_iff.1 hd).1
                        have := hn2.out
                        omega
                  have P1 := Lib.hid (fun m => path_any (hQ.later (below_dn wr m)).pat ((k : Int) - 1) hr9 cs hch (by omega) hprev)
                  have P2 := Lib.hid (fun u (hb : Below wr.heap.size wr u) => rpath_any N r _ _ s u (hQ.rx.later hb) ((k : Int) - 1) hr9 cs hch (by omega) hprev)
                  have hp1 := pathS_len cs [] []
                  have hp2 := pathS_le 1000 cs [] [] (by simp) (by simpa using hcl)
                  have hple : (pathL cs).length ≤ 1000 ∧ ∀ l ∈ pathL cs, l.length ≤ 1000 := ⟨by unfold pathL; simp at hp1; omega, hp2⟩
                  replace hple := Lib.hid hple
                  have e1 : IntKind.i64.wrap ((k : Int) - 1 + 1) = (k : Int) := by rw [IntKind.wrap_i64]; omega
                  have e2 : (k : Int) - 1 ≤ (n2 : Int) := by omega
                  replace H1 := Lib.hid H1
                  replace H2 := Lib.hid H2
                  replace hQ := Lib.hid hQ
                  clear hbnd hch hprev hp1 hp2
                  replace hkn := Lib.hid hkn
                  replace hk := Lib.hid hk
                  generalize heldP s ((k : Int) - 1) = hd at *
                  generalize hkm : (k : Int) - 1 = km at *
                  replace hkm := Lib.hid hkm
                  go_wp2_with fail
                  refine H1.out.mono ?_; rintro e v1 ⟨rfl, rfl⟩
                  go_wp2_with fail
                  refine H2.out.mono ?_; rintro e v1 ⟨rfl, mm, rfl⟩
                  go_wp2_with fail
                  refine (P1.out mm).mono ?_; rintro e v2 ⟨B1, cc1, rfl, hR1, hb1⟩
                  have hb1' := mmore (below_dn wr mm) hb1
                  have P3 := Lib.hid (P2.out v2 hb1')
                  replace hR1 := Lib.hid hR1
                  replace hb1' := Lib.hid hb1'
                  clear hb1
                  go_wp2_with fail
                  refine P3.out.mono ?_; rintro e v3 ⟨B2, cc2, rfl, hR2, hb3⟩
                  have hb3' := Lib.hid (mmore hb1'.out hb3)
                  have S := same_any B1 B2 _ _ cc1 cc2 (pathL cs) (pathL cs) v3 (hR1.out.later hb3) hR2 rfl rfl (by have := hple.out.1; omega) (by have := hple.out.1; omega) (fun l hl => by have := hple.out.2 l hl; omega) (fun l hl => by have := hple.out.2 l hl; omega)
                  rw [show decide (pathL cs = pathL cs) = true by simp] at S
                  replace S := Lib.hid S
                  clear hR1 hR2 hb3 P3 P1 P2 hple
                  generalize (pathL cs).length = lp at *
                  go_wp2_with fail
                  refine S.out.mono ?_; rintro e v4 ⟨rfl, m5, rfl⟩
                  have hQ5 := Lib.hid ((hQ.out.later hb3'.out).later (below_dn v3 m5))
                  clear S H1 H2 hQ
                  go_wp2
                  have q1 := hkn.out
                  have q2 := hkm.out
                  exact ⟨⟨k + 1, by omega, by congr 1; omega, hQ5.out⟩, by simp only [intOf]; omega⟩
                · have e2 : ¬ (k : Int) - 1 ≤ (n2 : Int) := by omega
                  replace hQ := Lib.hid hQ
                  clear hkn hk
                  go_wp2
                  have q1 := hjn.out
                  exact ⟨⟨j + 1, by omega, by simp, by have := h200.out; omega, s, vC, hQ.out⟩, by simp [intOf]; omega⟩
          | some c =>
            rw [hf] at KH
            simp only [hf] at KS
            obtain ⟨k, rfl, hck, hcl⟩ := findP_nat hf
            replace KH := Lib.hid KH
            have KY := Lib.hid (KS _ hPd.out.rx)
            replace KS := Lib.hid KS
            replace hf := Lib.hid hf
            clear hck hcl
            go_upto_region 17 with (fail)
            go_cut [86] from 78 to 86 (fun v w' => v = .bool false ∧ ∃ s1, HoldTo s (k : Int) s1 ∧ POut N p (DG N r vC g) (wa.drewN 1) s1 w')
            case first =>
              go_region_law (first
                | ((try go_simp); go_at_call 13; refine KH.out.mono ?_; rintro e v1 ⟨rfl, s1, hh1, hp1⟩; have z1 : v1.cell? ⟨g, 1, none⟩ = some (.int .i64 (k : Int)) := (hp1.keeps hbld.out).cell 1; have KX := Lib.hid (KS.out v1 (hPd.out.prog hN.out (hp1.wk fun k hk => hk.1)).2.1); replace hh1 := Lib.hid hh1; replace hp1 := Lib.hid hp1)
                | ((try go_simp); go_at_call 14; refine KX.out.mono ?_; rintro e v2 ⟨rfl, rfl⟩)
                | ((try go_simp); go_at_call 14; refine KY.out.mono ?_; rintro e v2 ⟨rfl, rfl⟩))
              all_goals go_wp2
              all_goals go_meet
              all_goals exact ⟨by simp, _, hh1.out, hp1.out⟩
            case rest =>
              obtain ⟨rfl, s1, hh1, hp1⟩ := hcut
              obtain ⟨A, cap, hv, hl9, hkl, ho0, ho1, hX, dr, e4, hfz, hPm⟩ := hPd.out.hold_yes hN.out hj3.out hf.out hh1 (hp1.wk fun k hk => hk.1)
              have KX := Lib.hid (KS.out _ hX)
              have z1 := (hp1.keeps hbld.out).cell 1
              simp only [List.getElem?_toArray, List.getElem?_cons_zero, List.getElem?_cons_succ] at z1
              have wo : IntKind.i64.wrap (c.own + 1) = c.own + 1 := by rw [IntKind.wrap_i64]; omega
              have kk1 : (k : Int) < (s.all.length : Int) := by omega
              have kk2 : (0 : Int) ≤ (k : Int) := by omega
              have kk3 : (s.all.length : Int) ≤ 9223372036854775807 := by omega
              replace hPm := Lib.hid hPm
              clear KH KY KS hf hPd hbld hbutd hP1 hbl hbut g0 g1 g2 g3 hh1 hp1 hX hl9 hkl ho0 ho1 hv
              generalize s.all.length = n3 at *
              go_wp2_with fail
              refine KX.out.mono ?_; rintro e v2 ⟨rfl, hv2⟩
              subst hv2
              clear KX
              have hP := hPm.out 0
              have hP := (show PP w N p r (j + 1) a0 s1 vC (wc.setCell ⟨A, k * 6 + 4, none⟩ (.int .i64 (c.own + 1))) from hP)
              have hP := Lib.hid (hP.later (Below.refl _ _).drew)
              clear hPm
              go_upto_region 20 with (fail)
              go_region_law (fail)
              all_goals
                generalize (wc.setCell ⟨A, k * 6 + 4, none⟩ (.int .i64 (c.own + 1))).drew = wz at *
                clear dr e4 hfz z1 wo kk1 kk2 kk3
                have hQ := hP.out
                have U1 := Lib.hid (used_any hQ.pat)
                have U2 := Lib.hid (fun m => rused_any N r _ _ _ _ (hQ.rx.later (below_dn _ m)))
                have hus := rused_map hQ.inv
                clear hQ
                go_wp2_with fail
                refine U1.out.mono ?_; rintro e v1 ⟨rfl, m1', rfl⟩
                go_wp2_with fail
                refine (U2.out m1').mono ?_; rintro e v2 ⟨rfl, hb2⟩
                have hP2 := Lib.hid ((hP.out.later (below_dn _ m1')).later hb2)
                rw [hus]
                clear U1 U2 hus hb2 hP
                generalize usedP s1 = us at *
                obtain ⟨n2, hn2⟩ : ∃ n, s1.all.length = n := ⟨_, rfl⟩
                replace hn2 := Lib.hid hn2
                go_wp2_with fail
                go_loopw [13] (fun v13 wr => ∃ k : Nat, k ≤ n2 + 2 ∧ v13 = .int .i64 ((k : Int) - 1) ∧ PP w N p r (j + 1) a0 s1 vC wr) (fun v13 _ => (n2 + 2) - (intOf v13 + 1).toNat)
                case atStart => exact ⟨0, Nat.zero_le _, rfl, hP2.out⟩
                case round =>
                  clear hP2
                  obtain ⟨k, hk, rfl, hQ⟩ := hrel
                  obtain ⟨Ar, capr, hvr, h2r⟩ := hQ.rx.len
                  rw [List.length_map, hn2.out] at hvr
                  have dr := hQ.rx.blk.cell 0
                  simp only [hvr, List.getElem?_toArray, List.getElem?_cons_zero] at dr
                  have hin := hQ.inv.len
                  rw [hn2.out] at hin
                  have n9 : (n2 : Int) ≤ 9223372036854775807 := by omega
                  replace hvr := Lib.hid hvr
                  clear h2r
                  by_cases hkn : k ≤ n2 + 1
                  · have hr9 : -9223372036854775808 ≤ (k : Int) - 1 ∧ (k : Int) - 1 ≤ 9223372036854775807 := by omega
                    have H1 := held_any hQ.pat ((k : Int) - 1) hr9
                    have hbnd := hQ.inv.rbound (by omega)
                    have H2 := rheld_any N r _ _ _ wr (hQ.rx) ((k : Int) - 1) hr9 (fun c hc => by have := hbnd c hc; omega)
                    rw [held_both] at H2
                    obtain ⟨cs, hch, hcl⟩ : ∃ cs, chainP s1 ((k : Int) - 1) cs ∧ cs.length ≤ 1000 := by
                      cases hf : findP s1 ((k : Int) - 1) with
                      | none => exact ⟨[], hf, by simp⟩
                      | some c =>
                        obtain ⟨k', e, hc, hl⟩ := findP_nat hf
                        obtain ⟨cs, h1, h2, _⟩ := hQ.inv.chain k' ⟨c, hc, hl⟩
                        exact ⟨cs, by rw [e]; exact h1, by omega⟩
                    have hprev : ∀ (k : Nat) (c : Cl), s1.all[k]? = some c → -9223372036854775808 ≤ c.prev ∧ c.prev ≤ 9223372036854775807 := fun k c hc => by
                      by_cases h0 : c.holds = 0
                      · rw [hQ.inv.dead k c hc h0]; decide
                      · rcases hQ.inv.up k c hc h0 with ⟨e, _⟩ | ⟨kp, e, d, hd, _⟩
                        · omega
                        · have := (List.getElem?_eq_some_iff.1 hd).1
                          have := hn2.out
                          omega
                    have P1 := Lib.hid (fun m => path_any (hQ.later (below_dn wr m)).pat ((k : Int) - 1) hr9 cs hch (by omega) hprev)
                    have P2 := Lib.hid (fun u (hb : Below wr.heap.size wr u) => rpath_any N r _ _ s1 u (hQ.rx.later hb) ((k : Int) - 1) hr9 cs hch (by omega) hprev)
                    have hp1 := pathS_len cs [] []
                    have hp2 := pathS_le 1000 cs [] [] (by simp) (by simpa using hcl)
                    have hple : (pathL cs).length ≤ 1000 ∧ ∀ l ∈ pathL cs, l.length ≤ 1000 := ⟨by unfold pathL; simp at hp1; omega, hp2⟩
                    replace hple := Lib.hid hple
                    have e1 : IntKind.i64.wrap ((k : Int) - 1 + 1) = (k : Int) := by rw [IntKind.wrap_i64]; omega
                    have e2 : (k : Int) - 1 ≤ (n2 : Int) := by omega
                    replace H1 := Lib.hid H1
                    replace H2 := Lib.hid H2
                    replace hQ := Lib.hid hQ
                    clear hbnd hch hprev hp1 hp2
                    replace hkn := Lib.hid hkn
                    replace hk := Lib.hid hk
                    generalize heldP s1 ((k : Int) - 1) = hd at *
                    generalize hkm : (k : Int) - 1 = km at *
                    replace hkm := Lib.hid hkm
                    go_wp2_with fail
                    refine H1.out.mono ?_; rintro e v1 ⟨rfl, rfl⟩
                    go_wp2_with fail
                    refine H2.out.mono ?_; rintro e v1 ⟨rfl, mm, rfl⟩
                    go_wp2_with fail
                    refine (P1.out mm).mono ?_; rintro e v2 ⟨B1, cc1, rfl, hR1, hb1⟩
                    have hb1' := mmore (below_dn wr mm) hb1
                    have P3 := Lib.hid (P2.out v2 hb1')
                    replace hR1 := Lib.hid hR1
                    replace hb1' := Lib.hid hb1'
                    clear hb1
                    go_wp2_with fail
                    refine P3.out.mono ?_; rintro e v3 ⟨B2, cc2, rfl, hR2, hb3⟩
                    have hb3' := Lib.hid (mmore hb1'.out hb3)
                    have S := same_any B1 B2 _ _ cc1 cc2 (pathL cs) (pathL cs) v3 (hR1.out.later hb3) hR2 rfl rfl (by have := hple.out.1; omega) (by have := hple.out.1; omega) (fun l hl => by have := hple.out.2 l hl; omega) (fun l hl => by have := hple.out.2 l hl; omega)
                    rw [show decide (pathL cs = pathL cs) = true by simp] at S
                    replace S := Lib.hid S
                    clear hR1 hR2 hb3 P3 P1 P2 hple
                    generalize (pathL cs).length = lp at *
                    go_wp2_with fail
                    refine S.out.mono ?_; rintro e v4 ⟨rfl, m5, rfl⟩
                    have hQ5 := Lib.hid ((hQ.out.later hb3'.out).later (below_dn v3 m5))
                    clear S H1 H2 hQ
                    go_wp2
                    have q1 := hkn.out
                    have q2 := hkm.out
                    exact ⟨⟨k + 1, by omega, by congr 1; omega, hQ5.out⟩, by simp only [intOf]; omega⟩
                  · have e2 : ¬ (k : Int) - 1 ≤ (n2 : Int) := by omega
                    replace hQ := Lib.hid hQ
                    clear hkn hk
                    go_wp2
                    have q1 := hjn.out
                    exact ⟨⟨j + 1, by omega, by simp, by have := h200.out; omega, s1, vC, hQ.out⟩, by simp [intOf]; omega⟩
        | false =>
          have KI := hP1.out.inv
          have K1 := Lib.hid (PP.dropP KI (hbut.out.1.later (below_dn wa 1)) (by have := h200.out; omega) sa hok.out)
          have K3 := Lib.hid (PP.dropR KI (hP1.out.rx.later (below_dn wa 1)) (by have := h200.out; omega) sa hok.out)
          have K2 := Lib.hid (fun (u : World) (hX : RX N r vC (max 0 a0) (s.all.map rcl) u) => PP.dropR KI hX (by have := h200.out; omega) sa hok.out)
          have K4 := Lib.hid (fun (u : World) (hX : PAt N p (DG N r vC g) s u) => PP.dropP KI hX (by have := h200.out; omega) sa hok.out)
          have hPd := Lib.hid (hP1.out.later (below_dn wa 1))
          have hbld := Lib.hid (hbl.out.kept (below_dn wa 1))
          have hbutd := Lib.hid (hbut.out.1.later (below_dn wa 1))
          clear KI
          generalize dropB s sa = db at *
          go_upto_region 9 with (fail)
          go_cut [43] from 35 to 43 (fun v w' => v = .bool false ∧ ∃ s2, PP w N p r (j + 1) a0 s2 vC w')
          case first =>
            go_region_law (first
              | ((try go_simp); go_at_call 15; refine K1.out.mono ?_; rintro e v1 ⟨rfl, s1, dd1, hI1, hm1, hp1⟩; have z1 : v1.cell? ⟨g, 1, none⟩ = some (.int .i64 sa) := (hp1.keeps hbld.out).cell 1; have K5 := Lib.hid (K2.out v1 (hPd.out.prog hN.out (hp1.wk fun k hk => hk.1)).2.1); replace dd1 := Lib.hid dd1; replace hI1 := Lib.hid hI1; replace hm1 := Lib.hid hm1; replace hp1 := Lib.hid hp1)
              | ((try go_simp); go_at_call 16; refine K5.out.mono ?_; rintro e v2 ⟨rfl, ll, dd2, hx2, hf2⟩; have hfin := Lib.hid (hPd.out.drop_PR hN.out dd1.out hI1.out hm1.out hp1.out dd2 hx2 hf2); clear dd2 hx2 hf2)
              | ((try go_simp); go_at_call 16; refine K3.out.mono ?_; rintro e v1 ⟨rfl, ll, dd2, hx2, hf2⟩; have z1 : v1.cell? ⟨g, 1, none⟩ = some (.int .i64 sa) := ((hf2.block g hbld.out.lt (fun e => hbut.out.2.2 e)).trans hbld.out : Blk v1 g _ _).cell 1; have K6 := Lib.hid (K4.out v1 (DG.fr hbutd.out hf2)); replace dd2 := Lib.hid dd2; replace hx2 := Lib.hid hx2; replace hf2 := Lib.hid hf2)
              | ((try go_simp); go_at_call 15; refine K6.out.mono ?_; rintro e v2 ⟨rfl, s1, dd1, hI1, hm1, hp1⟩; have hfin := Lib.hid (hPd.out.drop_RP hN.out dd1 hI1 hm1 dd2.out hx2.out hf2.out hp1); clear dd1 hI1 hm1 hp1))
            all_goals go_wp2
            all_goals go_meet
            all_goals exact ⟨by simp, _, hfin.out⟩
          case rest =>
            obtain ⟨rfl, s2, hP⟩ := hcut
            replace hP := Lib.hid hP
            clear K1 K2 K3 K4 hPd hbld hbutd hP1 hbl hbut g0 g1 g2 g3
            have hQ := hP.out
            have U1 := Lib.hid (used_any hQ.pat)
            have U2 := Lib.hid (fun m => rused_any N r _ _ _ _ (hQ.rx.later (below_dn _ m)))
            have hus := rused_map hQ.inv
            clear hQ
            go_wp2_with fail
            refine U1.out.mono ?_; rintro e v1 ⟨rfl, m1', rfl⟩
            go_wp2_with fail
            refine (U2.out m1').mono ?_; rintro e v2 ⟨rfl, hb2⟩
            have hP2 := Lib.hid ((hP.out.later (below_dn _ m1')).later hb2)
            rw [hus]
            clear U1 U2 hus hb2 hP
            generalize usedP s2 = us at *
            obtain ⟨n2, hn2⟩ : ∃ n, s2.all.length = n := ⟨_, rfl⟩
            replace hn2 := Lib.hid hn2
            go_wp2_with fail
            go_loopw [13] (fun v13 wr => ∃ k : Nat, k ≤ n2 + 2 ∧ v13 = .int .i64 ((k : Int) - 1) ∧ PP w N p r (j + 1) a0 s2 vC wr) (fun v13 _ => (n2 + 2) - (intOf v13 + 1).toNat)
            case atStart => exact ⟨0, Nat.zero_le _, rfl, hP2.out⟩
            case round =>
              clear hP2
              obtain ⟨k, hk, rfl, hQ⟩ := hrel
              obtain ⟨Ar, capr, hvr, h2r⟩ := hQ.rx.len
              rw [List.length_map, hn2.out] at hvr
              have dr := hQ.rx.blk.cell 0
              simp only [hvr, List.getElem?_toArray, List.getElem?_cons_zero] at dr
              have hin := hQ.inv.len
              rw [hn2.out] at hin
              have n9 : (n2 : Int) ≤ 9223372036854775807 := by omega
              replace hvr := Lib.hid hvr
              clear h2r
              by_cases hkn : k ≤ n2 + 1
              · have hr9 : -9223372036854775808 ≤ (k : Int) - 1 ∧ (k : Int) - 1 ≤ 9223372036854775807 := by omega
                have H1 := held_any hQ.pat ((k : Int) - 1) hr9
                have hbnd := hQ.inv.rbound (by omega)
                have H2 := rheld_any N r _ _ _ wr (hQ.rx) ((k : Int) - 1) hr9 (fun c hc => by have := hbnd c hc; omega)
                rw [held_both] at H2
                obtain ⟨cs, hch, hcl⟩ : ∃ cs, chainP s2 ((k : Int) - 1) cs ∧ cs.length ≤ 1000 := by
                  cases hf : findP s2 ((k : Int) - 1) with
                  | none => exact ⟨[], hf, by simp⟩
                  | some c =>
                    obtain ⟨k', e, hc, hl⟩ := findP_nat hf
                    obtain ⟨cs, h1, h2, _⟩ := hQ.inv.chain k' ⟨c, hc, hl⟩
                    exact ⟨cs, by rw [e]; exact h1, by omega⟩
                have hprev : ∀ (k : Nat) (c : Cl), s2.all[k]? = some c → -9223372036854775808 ≤ c.prev ∧ c.prev ≤ 9223372036854775807 := fun k c hc => by
                  by_cases h0 : c.holds = 0
                  · rw [hQ.inv.dead k c hc h0]; decide
                  · rcases hQ.inv.up k c hc h0 with ⟨e, _⟩ | ⟨kp, e, d, hd, _⟩
                    · omega
                    · have := (List.getElem?_eq_some_iff.1 hd).1
                      have := hn2.out
                      omega
                have P1 := Lib.hid (fun m => path_any (hQ.later (below_dn wr m)).pat ((k : Int) - 1) hr9 cs hch (by omega) hprev)
                have P2 := Lib.hid (fun u (hb : Below wr.heap.size wr u) => rpath_any N r _ _ s2 u (hQ.rx.later hb) ((k : Int) - 1) hr9 cs hch (by omega) hprev)
                have hp1 := pathS_len cs [] []
                have hp2 := pathS_le 1000 cs [] [] (by simp) (by simpa using hcl)
                have hple : (pathL cs).length ≤ 1000 ∧ ∀ l ∈ pathL cs, l.length ≤ 1000 := ⟨by unfold pathL; simp at hp1; omega, hp2⟩
                replace hple := Lib.hid hple
                have e1 : IntKind.i64.wrap ((k : Int) - 1 + 1) = (k : Int) := by rw [IntKind.wrap_i64]; omega
                have e2 : (k : Int) - 1 ≤ (n2 : Int) := by omega
                replace H1 := Lib.hid H1
                replace H2 := Lib.hid H2
                replace hQ := Lib.hid hQ
                clear hbnd hch hprev hp1 hp2
                replace hkn := Lib.hid hkn
                replace hk := Lib.hid hk
                generalize heldP s2 ((k : Int) - 1) = hd at *
                generalize hkm : (k : Int) - 1 = km at *
                replace hkm := Lib.hid hkm
                go_wp2_with fail
                refine H1.out.mono ?_; rintro e v1 ⟨rfl, rfl⟩
                go_wp2_with fail
                refine H2.out.mono ?_; rintro e v1 ⟨rfl, mm, rfl⟩
                go_wp2_with fail
                refine (P1.out mm).mono ?_; rintro e v2 ⟨B1, cc1, rfl, hR1, hb1⟩
                have hb1' := mmore (below_dn wr mm) hb1
                have P3 := Lib.hid (P2.out v2 hb1')
                replace hR1 := Lib.hid hR1
                replace hb1' := Lib.hid hb1'
                clear hb1
                go_wp2_with fail
                refine P3.out.mono ?_; rintro e v3 ⟨B2, cc2, rfl, hR2, hb3⟩
                have hb3' := Lib.hid (mmore hb1'.out hb3)
                have S := same_any B1 B2 _ _ cc1 cc2 (pathL cs) (pathL cs) v3 (hR1.out.later hb3) hR2 rfl rfl (by have := hple.out.1; omega) (by have := hple.out.1; omega) (fun l hl => by have := hple.out.2 l hl; omega) (fun l hl => by have := hple.out.2 l hl; omega)
                rw [show decide (pathL cs = pathL cs) = true by simp] at S
                replace S := Lib.hid S
                clear hR1 hR2 hb3 P3 P1 P2 hple
                generalize (pathL cs).length = lp at *
                go_wp2_with fail
                refine S.out.mono ?_; rintro e v4 ⟨rfl, m5, rfl⟩
                have hQ5 := Lib.hid ((hQ.out.later hb3'.out).later (below_dn v3 m5))
                clear S H1 H2 hQ
                go_wp2
                have q1 := hkn.out
                have q2 := hkm.out
                exact ⟨⟨k + 1, by omega, by congr 1; omega, hQ5.out⟩, by simp only [intOf]; omega⟩
              · have e2 : ¬ (k : Int) - 1 ≤ (n2 : Int) := by omega
                replace hQ := Lib.hid hQ
                clear hkn hk
                go_wp2
                have q1 := hjn.out
                exact ⟨⟨j + 1, by omega, by simp, by have := h200.out; omega, s2, vC, hQ.out⟩, by simp [intOf]; omega⟩
    · have e : j = n1 := by omega
      subst e
      have hfin := Lib.hid hP.below
      clear hP hj hlt h200
      go_wp2
      go_ret
      exact ⟨rfl, hfin.out⟩

set_option maxRecDepth 100000 in
theorem lifted (os : Os) (started : os.Started) (H : Type) (enc : TypeId × Value → H) :
    ReturnsInHanded {} Try.checked os 3 .any (Rows.poolPlaysSpec.pre6 enc Try.prog Try.f3 Rows.poolPlaysRow.domain false) (Rows.poolPlaysSpec.post enc Try.prog Try.f3 false true false false) := by
  refine returnsInHanded_of_change_sized (C := Try.checked) own started (by kernel_rfl) Try.func3
    (ChangeSpec.witness6 (enc := enc) (C := Try.checked) false ⟨#[], #[.int .i64 0, .slice none 0 0], []⟩ 8 (by kernel_rfl) (by kernel_rfl) (by kernel_rfl) (by kernel_rfl)) ?_
  intro W base args ds gs before hval0 hW hcnd hsz0 _
  have hsz : (DataW.weightsEach Try.prog (Try.f3.params.toList ++ Rows.poolPlaysSpec.plain.varTypes Try.prog) (ds ++ gs)).all (· ≤ reachBytes) = true := hsz0
  clear hsz0
  have hval : ∀ (j : Nat) t v, Try.f3.params[j]? = some t → args[j]? = some v → Value.okWide Try.prog W .any base t v := hval0
  have hW' := hW
  obtain ⟨p, q, hA0, hV, rfl, hfz, hnd⟩ := hW
  have hA : DataW.TrodAll enc Try.prog W 0 (fun _ => true) true Try.f3.params.toList args.toList ds p := hA0
  rw [Try.params3] at hA hval hsz
  obtain ⟨v0, vs0, d0, ds0, p0, q0, hargs, rfl, rfl, h0, r0⟩ := trodAll_cons hA
  obtain ⟨v1, vs1, d1, ds1, p1, q1, rfl, rfl, rfl, h1, r1⟩ := trodAll_cons r0
  obtain ⟨rfl, rfl, rfl⟩ := trodAll_nil r1
  obtain rfl : args = #[v0, v1] := by cases args; simp_all
  obtain ⟨rfl, rfl⟩ := trodVars_none hV
  have kk0 := h0
  have lt0 : ∀ x ∈ p0, x.block < W.heap.size := by obtain ⟨m, hm⟩ := kk0; exact DataW.trod_lt m _ _ _ hm
  have kk1 := h1
  have lt1 : ∀ x ∈ p1, x.block < W.heap.size := by obtain ⟨m, hm⟩ := kk1; exact DataW.trod_lt m _ _ _ hm
  obtain ⟨a0, rfl, rfl, rfl, w0⟩ := open_int Try.underlying3 (hval 0 3 v0 rfl rfl) h0
  obtain ⟨A1, c1, z1, rfl, w1, yy1, ss1⟩ := open_script (hval 1 22 v1 rfl rfl) h1 (wb_each hsz (j := 1) (t := 22) rfl rfl)
  clear hA0 hval0
  refine (walk W a0 w0 A1 c1 z1 w1 yy1 ss1).mono fun e W' ⟨he, bel⟩ => ?_
  subst he
  exact ⟨_, rfl, _, _, _, [], _, [], hW', trodAll_mk1 (shut_bool Try.underlying4 _), (trodAll_cons_mk (Below.trod laidOut (by kernel_rfl) (of_decide_eq_true (by kernel_rfl)) kk0 bel lt0) (trodAll_cons_mk (Below.trod laidOut (by kernel_rfl) (of_decide_eq_true (by kernel_rfl)) kk1 bel lt1) trodAll_mk0)), rfl, bel.frame _, fun h => by cases h⟩

theorem over : Rows.poolPlaysRow.holds Try.pinned (OpenSpec.ofChange Rows.poolPlaysSpec) :=
  OpenClaim.holds_of_wide 3 Try.f3 rfl rfl rfl rfl rfl rfl rfl ⟨rfl, rfl, rfl, rfl, rfl⟩ rfl rfl rfl rfl rfl (by kernel_rfl) Try.func3 (by kernel_rfl)
    (of_decide_eq_true (by kernel_rfl)) (by unfold Func.isWrapper; first | (rw [if_pos (by decide +kernel)]; kernel_rfl) | (rw [if_neg (by decide +kernel)]; exact ⟨rfl, rfl⟩))
    (fun os started H enc _ => lifted os started H enc)

/-- the statement -/
theorem proved : Rows.PoolPlaysSaid :=
  over
#print axioms proved
end Go.Proofs.Ytdgbnibnhajfoaa.poolPlays
