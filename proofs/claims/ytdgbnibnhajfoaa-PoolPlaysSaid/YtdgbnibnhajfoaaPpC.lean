/- The document's pool: its Drop. -/
import Derived.Test.YtdgbnibnhajfoaaPpB
namespace Go.Proofs.Ytdgbnibnhajfoaa
open Go.ChangeShapes Go.WideShapes Go.ChangeAt Go.RowKit
set_option linter.unusedVariables false
set_option linter.unusedSimpArgs false

/-- a cell of which a hold goes -/
def rlc (c : Cl) : RC := ⟨true, c.prev, c.event, c.fresh, c.own, c.holds - c.own - 1⟩
/-- the document's cells, while a hold of the one at x goes -/
def lessR (l : List Cl) (x : Int) : List RC := if 0 ≤ x then match l[x.toNat]? with | some c => (l.map rcl).set x.toNat (rlc c) | none => l.map rcl else l.map rcl
theorem lessR_none (l : List Cl) : lessR l (-1) = l.map rcl := by unfold lessR; rw [if_neg (by omega)]
theorem lessR_some {l : List Cl} {k : Nat} {c : Cl} (h : l[k]? = some c) : lessR l (k : Int) = (l.map rcl).set k (rlc c) := by unfold lessR; rw [if_pos (by omega), Int.toNat_natCast, h]
theorem rcl_live {c : Cl} (h : c.holds ≠ 0) : rcl c = ⟨true, c.prev, c.event, c.fresh, c.own, c.holds - c.own⟩ := by unfold rcl; rw [if_neg h]
theorem rcl_cl0 : rcl cl0 = rc0 := rfl
theorem less_more {l : List Cl} {k : Nat} {c : Cl} (h : l[k]? = some c) (h2 : 2 ≤ c.holds) : lessR l (k : Int) = (l.set k { c with holds := c.holds - 1 }).map rcl := by
  rw [lessR_some h, List.map_set, rcl_live (show c.holds - 1 ≠ 0 by omega)]
  unfold rlc
  simp only
  rw [show c.holds - c.own - 1 = c.holds - 1 - c.own by omega]
theorem less_last {l : List Cl} {k : Nat} {c : Cl} (h : l[k]? = some c) : (lessR l (k : Int)).set k rc0 = (l.set k cl0).map rcl := by
  rw [lessR_some h, List.set_set, List.map_set, rcl_cl0]
theorem less_prev {l : List Cl} {kp : Nat} {d : Cl} (h : l[kp]? = some d) (hd : d.holds ≠ 0) : (l.map rcl).set kp ⟨true, d.prev, d.event, d.fresh, d.own, d.holds - d.own - 1⟩ = lessR l (kp : Int) := by
  rw [lessR_some h]; rfl
theorem hasR_some {l : List RC} {k : Nat} {c : RC} (h : l[k]? = some c) (hc : c.is = true) : hasR l (k : Int) = some c := by
  unfold hasR
  rw [if_pos (by omega), Int.toNat_natCast, h]
  simp [hc]
theorem hasR_neg (l : List RC) : hasR l (-1) = none := by unfold hasR; rw [if_neg (by omega)]
theorem rdrop_no (B r : Nat) (vC : Value) (most : Int) (l : List RC) (w : World) (h : RX B r vC most l w) (i : Int) (hi : -9223372036854775808 ≤ i ∧ i ≤ 9223372036854775807) (hf : hasR l i = none) :
    Calls Try.prog 16 #[.pointer (some ⟨r, 0, none⟩), .int .i64 i] w fun e w' => e = .returned (.bool false) ∧ w = w' := by
  have C := rhas_any B r vC most l w h i hi
  rw [hf] at C
  replace C := Lib.hid C
  clear h hf
  go_enter Try.func16, Try.ntmps16
  go_wp2_with fail
  refine C.out.mono ?_; rintro e u ⟨rfl, rfl⟩
  go_wp2
  go_ret
  exact ⟨rfl, rfl⟩
set_option maxHeartbeats 4000000 in
set_option maxRecDepth 100000 in
theorem rdrop_own (B r : Nat) (vC : Value) (most : Int) (l : List RC) (w : World) (h : RX B r vC most l w) (k : Nat) (c : RC) (hc : l[k]? = some c) (hi : c.is = true) (h0 : c.own = 0) :
    Calls Try.prog 16 #[.pointer (some ⟨r, 0, none⟩), .int .i64 (k : Int)] w fun e w' => e = .returned (.bool false) ∧ w = w' := by
  obtain ⟨A, cap, hv, h1, h2, c0, c1, c2, c3, c4, c5⟩ := h.cl hc
  have hlt := (List.getElem?_eq_some_iff.1 hc).1
  have C := rhas_any B r vC most l w h (k : Int) (by unfold maxLen at h2; omega)
  rw [hasR_some hc hi] at C
  have d1 := h.blk.cell 0
  rw [hv] at d1
  simp only [List.getElem?_toArray, List.getElem?_cons_zero] at d1
  have n9 : (l.length : Int) ≤ 9223372036854775807 := by unfold maxLen at h2; omega
  have k1 : (k : Int) < (l.length : Int) := by omega
  have k2 : (0 : Int) ≤ (k : Int) := by omega
  rw [h0] at c4
  replace C := Lib.hid C
  clear h hc hi h0 h1 h2 hv c0 c1 c2 c3 c5 hlt
  generalize l.length = n at *
  go_enter Try.func16, Try.ntmps16
  go_wp2_with fail
  refine C.out.mono ?_; rintro e u ⟨rfl, rfl⟩
  go_wp2
  go_ret
  exact ⟨rfl, rfl⟩
set_option maxHeartbeats 8000000 in
set_option maxRecDepth 100000 in
theorem rdrop_yes (B r K : Nat) (vC : Value) (most : Int) (s : PS) (w : World) (h : RX B r vC most (s.all.map rcl) w) (hI : Inv K (-1) s) (hK : K ≤ 100000) (k : Nat) (c : Cl) (hf : findP s (k : Int) = some c) (h1 : 1 ≤ c.own) :
    Calls Try.prog 16 #[.pointer (some ⟨r, 0, none⟩), .int .i64 (k : Int)] w fun e w' => e = .returned (.bool true) ∧ ∃ l', Dr (dropS s k c).all k l' ∧ RX B r vC most (l'.map rcl) w' ∧ PFr (fun q => vC.ownBlock = some q) w w' := by
  obtain ⟨hc, hz⟩ := findP_some.1 hf
  have hcm : (s.all.map rcl)[k]? = some ⟨true, c.prev, c.event, c.fresh, c.own, c.holds - c.own⟩ := by rw [List.getElem?_map, hc, Option.map_some, rcl_live hz]
  obtain ⟨A, cap, hv, hh1, hh2, c0, c1, c2, c3, c4, c5⟩ := h.cl hcm
  dsimp only at c0 c1 c2 c3 c4 c5
  have hlt := (List.getElem?_eq_some_iff.1 hcm).1
  have C := rhas_any B r vC most _ w h (k : Int) (by unfold maxLen at hh2; omega)
  rw [hasR_some hcm rfl] at C
  subst hv
  have d1 := h.blk.cell 0
  simp only [List.getElem?_toArray, List.getElem?_cons_zero] at d1
  have hpo := hI.pos k c hc
  obtain ⟨p1, g1, f4⟩ := h.put (j := 4) (v := .int .i64 (c.own - 1)) (c' := ⟨true, c.prev, c.event, c.fresh, c.own - 1, c.holds - c.own⟩) hcm (by omega) rfl
  have hI1 := hI.drop hc hz h1
  have hck : (dropS s k c).all[k]? = some { c with own := c.own - 1 } := by simp [dropS, (List.getElem?_eq_some_iff.1 hc).1]
  have e1 : (s.all.map rcl).set k ⟨true, c.prev, c.event, c.fresh, c.own - 1, c.holds - c.own⟩ = lessR (dropS s k c).all (k : Int) := by
    rw [lessR_some hck]
    unfold dropS rlc
    simp only
    rw [List.map_set, List.set_set, show c.holds - (c.own - 1) - 1 = c.holds - c.own by omega]
  have elen : (s.all.map rcl).length = s.all.length := by simp
  rw [e1, elen] at p1
  rw [elen] at d1 hh1 hlt
  simp only [elen]
  have hdl : (dropS s k c).all.length = s.all.length := by simp [dropS]
  have hlive : Live (dropS s k c).all k := ⟨_, hck, hz⟩
  have hwr : IntKind.i64.wrap (c.own - 1) = c.own - 1 := by rw [IntKind.wrap_i64]; omega
  have hne : (c.own == 0) = false := by simp; omega
  have hln := hI.len
  obtain ⟨n, hn⟩ : ∃ n, s.all.length = n := ⟨_, rfl⟩
  rw [hn] at p1 d1 hh1 hlt hdl hln
  simp only [hn]
  have n9 : (n : Int) ≤ 9223372036854775807 := by omega
  have k1 : (k : Int) < (n : Int) := by omega
  have k2 : (0 : Int) ≤ (k : Int) := by omega
  generalize dropS s k c = t at *
  replace C := Lib.hid C
  replace p1 := Lib.hid p1
  replace g1 := Lib.hid g1
  replace hI1 := Lib.hid hI1
  replace hlive := Lib.hid hlive
  replace hdl := Lib.hid hdl
  clear h hI hf hc hz hcm hh1 hh2 c0 c1 c2 c3 c5 hpo hck e1 elen hlt hn
  replace h1 := Lib.hid h1
  go_enter Try.func16, Try.ntmps16
  go_wp2_with fail
  refine C.out.mono ?_; rintro e u ⟨rfl, rfl⟩
  go_wp2_with fail
  go_loopg [1] (t.all.countP (fun d => decide (d.holds ≠ 0))) (fun n0 v1 wr => ∃ (at_ : Int) (s1 : PS), v1 = .int .i64 at_ ∧ s1.all.countP (fun d => decide (d.holds ≠ 0)) = n0 ∧ Inv K at_ s1 ∧ s1.all.length = n ∧ (at_ = -1 ∨ ∃ k : Nat, at_ = (k : Int) ∧ Live s1.all k) ∧ (∀ l', Dr s1.all at_ l' → Dr t.all k l') ∧ RX B r (.slice (some ⟨A, 0, none⟩) n cap) most (lessR s1.all at_) wr ∧ PFr (fun q => q = A) w wr)
  case atStart => exact ⟨k, t, rfl, rfl, hI1.out, hdl.out, .inr ⟨k, rfl, hlive.out⟩, fun _ h => h, p1.out, PFr.of_grown g1.out fun q e => by injection e with e; exact e.symm⟩
  case round =>
    clear p1 g1 hI1 hlive C
    obtain ⟨at_, s1, rfl, hn0, hI, hl1, hx, hD, h, hfr⟩ := hrel
    replace hn0 := Lib.hid hn0
    replace hl1 := Lib.hid hl1
    rcases hx with rfl | ⟨k', rfl, d, hd, hl⟩
    · have CH := Lib.hid (fun m => (rhas_any B r _ most _ (wr.drewN m) (h.later (below_dn wr m)) (-1) (by omega)).mono (fun e w' (hh : e = .returned (.bool (hasR (lessR s1.all (-1)) (-1)).isSome) ∧ wr.drewN m = w') => (show e = .returned (.bool false) ∧ ∃ m', w' = (wr.drewN m).drewN m' from ⟨by rw [hh.1, hasR_neg]; rfl, 0, hh.2.symm⟩)))
      have hfin := Lib.hid (fun m => show ∃ l', Dr t.all k l' ∧ RX B r (.slice (some ⟨A, 0, none⟩) n cap) most (l'.map rcl) (wr.drewN m) ∧ PFr (fun q => (Value.slice (some ⟨A, 0, none⟩) n cap).ownBlock = some q) w (wr.drewN m) from ⟨s1.all, hD _ (Dr.none _), by rw [← lessR_none]; exact h.later (below_dn wr m), ((hfr.trans (PFr.of_below (D := fun _ => False) (below_dn wr m)) fun q e => e.elim).more fun q e => by rw [e]; rfl)⟩)
      clear hD h hfr hI
      go_upto_region 4 with (fail)
      go_cut [54] from 32 to 84 (fun v w' => v = .bool false ∧ ∃ m, w' = wr.drewN m)
      case first =>
        go_quiet (first | (go_at_call 14; exact Calls.quiet_of (CH.out _)))
        all_goals go_wp2
        all_goals go_meet
        all_goals exact ⟨rfl, _, rfl⟩
      case rest =>
        obtain ⟨rfl, m, rfl⟩ := hcut

        go_wp2
        go_ret
        exact ⟨rfl, hfin.out _⟩
    · have hkl := (List.getElem?_eq_some_iff.1 hd).1
      have hcm2 : (lessR s1.all (k' : Int))[k']? = some (rlc d) := by rw [lessR_some hd]; simp [hkl]
      obtain ⟨A', cap', hv', _, _, c0, c1, c2, c3, c4, c5⟩ := h.cl hcm2
      have hl9 := hl1.out
      have hll : (lessR s1.all (k' : Int)).length = n := by rw [lessR_some hd]; simp [hl1.out]
      rw [hll] at hv'
      injection hv' with q1 q2 q3
      injection q1 with q1
      injection q1 with q1
      subst q1 q3
      have d2 := h.blk.cell 0
      simp only [List.getElem?_toArray, List.getElem?_cons_zero] at d2
      have CH := Lib.hid (fun m => (rhas_any B r _ most _ (wr.drewN m) (h.later (below_dn wr m)) (k' : Int) (by omega)).mono (fun e w' (hh : e = .returned (.bool (hasR (lessR s1.all (k' : Int)) (k' : Int)).isSome) ∧ wr.drewN m = w') => (show e = .returned (.bool true) ∧ ∃ m', w' = (wr.drewN m).drewN m' from ⟨by rw [hh.1, hasR_some hcm2 rfl]; rfl, 0, hh.2.symm⟩)))
      have hpo := hI.pos k' d hd
      dsimp only [rlc] at c0 c1 c2 c3 c4 c5
      obtain ⟨y5, hy5⟩ : ∃ y, d.holds - d.own - 1 = y := ⟨_, rfl⟩
      obtain ⟨z, hz⟩ : ∃ z, d.holds - 1 = z := ⟨_, rfl⟩
      rw [hy5] at c5
      have wsum : IntKind.i64.wrap (d.own + y5) = z := by rw [IntKind.wrap_i64]; omega
      have k3 : (k' : Int) < (n : Int) := by omega
      have k4 : (0 : Int) ≤ (k' : Int) := by omega
      have hdr := Lib.hid (fun m => h.later (below_dn wr m))
      have hfr2 := Lib.hid (fun m => hfr.trans (PFr.of_below (D := fun _ => False) (below_dn wr m)) fun q e => e.elim)
      clear h hfr
      by_cases h2 : 2 ≤ d.holds
      · have hz0 : (z == 0) = false := by simp; omega
        have hfin := Lib.hid (fun m => show ∃ l', Dr t.all k l' ∧ RX B r (.slice (some ⟨A, 0, none⟩) n cap) most (l'.map rcl) (wr.drewN m) ∧ PFr (fun q => (Value.slice (some ⟨A, 0, none⟩) n cap).ownBlock = some q) w (wr.drewN m) from ⟨_, hD _ (Dr.more _ k' d hd h2), by rw [← less_more hd h2]; exact hdr.out m, (hfr2.out m).more fun q e => by rw [e]; rfl⟩)
        clear hD hI hd hl hcm2 hpo hy5 hz h2 hdr hfr2 hll hl9 q2 hkl c0 c1 c2 c3
        go_upto_region 4 with (fail)
        go_cut [54] from 32 to 84 (fun v w' => v = .bool false ∧ ∃ m, w' = wr.drewN m)
        case first =>
          go_quiet (first | (go_at_call 14; exact Calls.quiet_of (CH.out _)))
          all_goals go_wp2
          all_goals go_meet
          all_goals exact ⟨rfl, _, rfl⟩
        case rest =>
          obtain ⟨rfl, m, rfl⟩ := hcut
          go_wp2
          go_ret
          exact ⟨rfl, hfin.out _⟩
      · have h1' : d.holds = 1 := by omega
        have hz0 : (z == 0) = true := by simp; omega
        obtain ⟨l9, hh9, hp9⟩ := heap_of ((k' : Int) :: s1.free)
        have hL := hI.last hd h1' hh9 hp9
        have hD2 := Lib.hid (fun l' (h : Dr (s1.all.set k' cl0) d.prev l') => hD l' (Dr.last _ k' d l' hd h1' h))
        have hll2 := less_last hd
        replace hL := Lib.hid hL
        replace hll2 := Lib.hid hll2
        have hcm3 := Lib.hid hcm2
        clear hD hI hd hl hcm2 hpo hy5 hz h2 hll hl9 q2 hh9 hp9 h1'
        go_upto_region 4 with (fail)
        go_cut [54] from 32 to 84 (fun v w' => v = .bool true ∧ ∃ m, w' = wr.drewN m)
        case first =>
          go_quiet (first | (go_at_call 14; exact Calls.quiet_of (CH.out _)))
          all_goals go_wp2
          all_goals go_meet
          all_goals exact ⟨rfl, _, rfl⟩
        case rest =>
          obtain ⟨rfl, m, rfl⟩ := hcut
          have hM := hdr.out m
          have hfM := Lib.hid (hfr2.out m)
          have e0 : (wr.drewN m).cell? ⟨A, k' * 6, none⟩ = some (.bool true) := c0
          have e1 : (wr.drewN m).cell? ⟨A, k' * 6 + 1, none⟩ = some (.int .i64 d.prev) := c1
          have e2 : (wr.drewN m).cell? ⟨A, k' * 6 + 2, none⟩ = some (.int .i64 d.event) := c2
          have e3 : (wr.drewN m).cell? ⟨A, k' * 6 + 3, none⟩ = some (.bool d.fresh) := c3
          have e4 : (wr.drewN m).cell? ⟨A, k' * 6 + 4, none⟩ = some (.int .i64 d.own) := c4
          have e5 : (wr.drewN m).cell? ⟨A, k' * 6 + 5, none⟩ = some (.int .i64 y5) := c5
          have dM : (wr.drewN m).cell? ⟨r, 0, none⟩ = some (.slice (some ⟨A, 0, none⟩) n cap) := d2
          clear hdr hfr2 CH c0 c1 c2 c3 c4 c5 d2
          generalize wr.drewN m = wm at *
          have fz : ∀ j, wm.frozen? ⟨A, j, none⟩ = false := fun j => hM.frozen (by have := (List.getElem?_eq_some_iff.1 hcm3.out).1; omega) j
          obtain ⟨p1, g1⟩ := hM.put6 (c' := rc0) hcm3.out
          rw [hll2.out] at p1
          simp only [rc0] at p1 g1
          have hfP := Lib.hid (hfM.out.trans (D' := fun q => q = A) (PFr.of_grown g1 fun q e => by injection e with e; exact e.symm) fun q e => .inl e)
          replace p1 := Lib.hid p1
          clear g1 hM hfM
          go_upto_region 8 with (fail)
          generalize ((((((wm.setCell ⟨A, k' * 6, none⟩ (.bool false)).setCell ⟨A, k' * 6 + 1, none⟩ (.int .i64 0)).setCell ⟨A, k' * 6 + 2, none⟩ (.int .i64 0)).setCell ⟨A, k' * 6 + 3, none⟩ (.bool false)).setCell ⟨A, k' * 6 + 4, none⟩ (.int .i64 0)).setCell ⟨A, k' * 6 + 5, none⟩ (.int .i64 0)) = wf at *
          clear e0 e1 e2 e3 e4 e5 dM fz
          obtain ⟨hI2, _, hx2, hcnt⟩ := hL.out
          have hl2 : (s1.all.set k' cl0).length = n := by rw [List.length_set]; exact hl1.out
          have d2 : wf.cell? ⟨r, 0, none⟩ = some (.slice (some ⟨A, 0, none⟩) n cap) := p1.out.blk.cell 0
          rcases hx2 with hm1 | ⟨kp, hkp, d', hd', hl'⟩
          · have CH := rhas_any B r _ most _ wf p1.out (-1) (by omega)
            rw [hasR_neg] at CH
            rw [hm1] at hI2 hD2 ⊢
            have hend : ∃ (at_ : Int) (s1' : PS), Value.int .i64 (-1) = .int .i64 at_ ∧ s1'.all.countP (fun d => decide (d.holds ≠ 0)) = (s1.all.set k' cl0).countP (fun d => decide (d.holds ≠ 0)) ∧ Inv K at_ s1' ∧ s1'.all.length = n ∧ (at_ = -1 ∨ ∃ k : Nat, at_ = (k : Int) ∧ Live s1'.all k) ∧ (∀ l', Dr s1'.all at_ l' → Dr t.all k l') ∧ RX B r (.slice (some ⟨A, 0, none⟩) n cap) most (lessR s1'.all at_) wf ∧ PFr (fun q => q = A) w wf :=
              ⟨-1, _, rfl, rfl, hI2, hl2, .inl rfl, hD2.out, by rw [lessR_none]; exact p1.out, hfP.out⟩
            replace hend := Lib.hid hend
            replace CH := Lib.hid CH
            replace hcnt := Lib.hid hcnt
            clear hI2 hD2 hl2 p1 hfP hL hm1
            go_wp2_with fail
            refine CH.out.mono ?_; rintro e u ⟨rfl, rfl⟩
            go_wp2
            go_roundg ((s1.all.set k' cl0).countP (fun d => decide (d.holds ≠ 0)))
            case measure => have := hcnt.out; have := hn0.out; omega
            case rel => exact hend.out
          · have hmr : ((s1.all.set k' cl0).map rcl)[kp]? = some ⟨true, d'.prev, d'.event, d'.fresh, d'.own, d'.holds - d'.own⟩ := by rw [List.getElem?_map, hd', Option.map_some, rcl_live hl']
            have hkpn : kp < n := by rw [← hl2]; exact (List.getElem?_eq_some_iff.1 hd').1
            have CH := rhas_any B r _ most _ wf p1.out (kp : Int) (by omega)
            rw [hasR_some hmr rfl] at CH
            rw [hkp] at hI2 hD2 ⊢
            obtain ⟨A9, cap9, hv9, _, _, _, _, _, _, _, f5⟩ := p1.out.cl hmr
            dsimp only at f5
            obtain ⟨p2, g2, fz2⟩ := (show RX B r (.slice (some ⟨A, 0, none⟩) n cap) most ((s1.all.set k' cl0).map rcl) wf from p1.out).put (j := 5) (v := .int .i64 (d'.holds - d'.own - 1)) (c' := ⟨true, d'.prev, d'.event, d'.fresh, d'.own, d'.holds - d'.own - 1⟩) hmr (by omega) rfl
            rw [less_prev hd' hl'] at p2
            injection hv9 with q1 q2 q3
            injection q1 with q1
            injection q1 with q1
            subst q1 q3
            have hpo := hI2.pos kp d' hd'
            have hend : ∃ (at_ : Int) (s1' : PS), Value.int .i64 (kp : Int) = .int .i64 at_ ∧ s1'.all.countP (fun d => decide (d.holds ≠ 0)) = (s1.all.set k' cl0).countP (fun d => decide (d.holds ≠ 0)) ∧ Inv K at_ s1' ∧ s1'.all.length = n ∧ (at_ = -1 ∨ ∃ k : Nat, at_ = (k : Int) ∧ Live s1'.all k) ∧ (∀ l', Dr s1'.all at_ l' → Dr t.all k l') ∧ RX B r (.slice (some ⟨A, 0, none⟩) n cap) most (lessR s1'.all at_) (wf.setCell ⟨A, kp * 6 + 5, none⟩ (.int .i64 (d'.holds - d'.own - 1))) ∧ PFr (fun q => q = A) w (wf.setCell ⟨A, kp * 6 + 5, none⟩ (.int .i64 (d'.holds - d'.own - 1))) :=
              ⟨kp, _, rfl, rfl, hI2, hl2, .inr ⟨kp, rfl, d', hd', hl'⟩, hD2.out, p2, hfP.out.trans (D' := fun q => q = A) (PFr.of_grown g2 fun q e => by injection e with e; exact e.symm) fun q e => .inl e⟩
            obtain ⟨y, hy⟩ : ∃ y, d'.holds - d'.own = y := ⟨_, rfl⟩
            rw [hy] at f5 hend
            have wy : IntKind.i64.wrap (y - 1) = y - 1 := by rw [IntKind.wrap_i64]; omega
            have k5 : (kp : Int) < (n : Int) := by omega
            have k6 : (0 : Int) ≤ (kp : Int) := by omega
            replace hend := Lib.hid hend
            replace CH := Lib.hid CH
            replace hcnt := Lib.hid hcnt
            clear hI2 hD2 hl2 p1 hfP hL p2 g2 hmr hd' hl' hpo hy q2 hkpn hkp
            go_wp2_with fail
            refine CH.out.mono ?_; rintro e u ⟨rfl, rfl⟩
            go_wp2
            go_roundg ((s1.all.set k' cl0).countP (fun d => decide (d.holds ≠ 0)))
            case measure => have := hcnt.out; have := hn0.out; omega
            case rel => exact hend.out
end Go.Proofs.Ytdgbnibnhajfoaa
