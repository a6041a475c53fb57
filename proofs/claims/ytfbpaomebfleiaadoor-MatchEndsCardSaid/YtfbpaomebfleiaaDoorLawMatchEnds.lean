/- MatchEnds: a match that is well made for a script is so for a longer one; without an event it isn't. -/
import Derived.Test.YtfbpaomebfleiaaDoorRows
import Derived.Test.YtfbpaomebfleiaaDoorCards
import Derived.Test.YtfbpaomebfleiaaDoorTie
import Derived.LaidMore
import Derived.Lay
import Derived.LaidLaws
import Derived.ChangeVars
import Derived.SevenTiedAt
import Derived.Stop.Joined
import Derived.Stop.LaidErr
import Derived.Lib.LaidTab
import Derived.Lib.ItoaNum
import Derived.WalkKit
import Derived.ProofKit
import Derived.OpenShut
import Derived.ShutString
import Derived.ChangeOld
import Derived.Below
import Derived.Lib.SmallJoins
import Derived.SizedLaws
import Derived.Test.YtfbpaomebfleiaaDoorMtA
import Derived.Test.YtfbpaomebfleiaaDoorMt
import Derived.Test.YtfbpaomebfleiaaDoorTwin
namespace Go.Proofs.YtfbpaomebfleiaaDoor.matchEnds
open Go.ChangeShapes Go.WideShapes Go.ChangeAt Go.RowKit Go.Joins
set_option linter.unusedVariables false
set_option linter.unusedSimpArgs false

theorem own : ownKnob Tryd.prog.godebug = none := by kernel_rfl
theorem laidOut : laidOutB Tryd.prog = true := by kernel_rfl

theorem good_more {st br : Int} {bs : List (List Int)} {n : Int} (h : goodP st br bs n = true) : goodP st br bs (n + 1) = true := by
  unfold goodP at *
  cases h1 : scR (-1) bs with
  | none => rw [h1] at h; cases h
  | some z => rw [h1] at h; simp at h ⊢; omega
theorem good_facts {st br : Int} {bs : List (List Int)} {n : Int} (h : goodP st br bs n = true) : 0 < bs.length ∧ -1 ≤ st ∧ st ≤ n := by
  unfold goodP at h
  cases h1 : scR (-1) bs with
  | none => rw [h1] at h; cases h
  | some z =>
    rw [h1] at h
    have := (scR_le h1).1
    simp at h
    exact ⟨h.1.1.1.2, by omega, h.2⟩
theorem good_nil (st br n : Int) : goodP st br [] n = false := by unfold goodP; simp [scR]
theorem scR_end : ∀ (xs : List (List Int)) (a : Int), scR a (xs ++ [[]]) = none
  | [], a => by simp [scR]
  | l :: r, a => by
    simp only [List.cons_append, scR]
    split
    · rfl
    · cases h : scL a l with
      | none => rfl
      | some z => exact scR_end r z
theorem good_end (st br n : Int) (xs : List (List Int)) : goodP st br (xs ++ [[]]) n = false := by unfold goodP; rw [scR_end]
theorem good_less (st br : Int) (bs : List (List Int)) : goodP st br bs (st - 1) = false := by
  unfold goodP
  cases scR (-1) bs with
  | none => rfl
  | some z => simp; intros; omega
/-- a row of the call's own, its last element struck -/
theorem own_last {w : World} {base k : Nat} {v : Value} {us : List Value} {bs : List (List Int)} (h : w.ownsRow base 31 1 v bs.length us) (hu : RowsOwnL w base bs us) (hk : bs.length = k + 1) :
    ∃ g c x, v = .slice (some ⟨g, 0, none⟩) (k + 1) c ∧ base ≤ g ∧ w.cell? ⟨g, k, none⟩ = some x ∧ w.frozen? ⟨g, k, none⟩ = false ∧ RowsAt (w.setCell ⟨g, k, none⟩ (.slice none 0 0)) (some ⟨g, 0, none⟩) (bs.take k ++ [[]]) ∧ (∃ cur, Blk w g 31 cur) := by
  rcases h.2 with ⟨rfl, h0⟩ | ⟨g, c, cur, rfl, hb, hh, h1, h2, h3, h4⟩
  · omega
  · have B : Blk w g 31 cur := hh
    have hcs := h.cells (g := g) rfl
    have hul : us.length = k + 1 := by rw [hu.1, hk]
    have hx : us[k]? = some us[k] := List.getElem?_eq_getElem (by omega)
    have hck : w.cell? ⟨g, k, none⟩ = some us[k] := by rw [addr_add g k]; exact hcs k _ hx
    have hlt : k < cur.size := by
      have := B.cell k
      rw [hck] at this
      exact (Array.getElem?_eq_some_iff.1 this.symm).1
    have B2 := B.put_ k (.slice none 0 0)
    refine ⟨g, c, us[k], by rw [hk], hb, hck, B.free k, fun _ => ⟨g, 0, rfl, fun i ks hi => ?_⟩, cur, B⟩
    rw [Nat.zero_add]
    by_cases ci : i < k
    · rw [List.getElem?_append_left (by rw [List.length_take]; omega), List.getElem?_take_of_lt ci] at hi
      have hxi : us[i]? = some us[i] := List.getElem?_eq_getElem (by omega)
      refine ⟨us[i], ?_, ?_⟩
      · rw [B2.cell i, Array.getElem?_setIfInBounds_ne (by omega), ← B.cell i, addr_add g i]
        exact hcs i _ hxi
      · have := mown_set (hu.2 i ks _ hi hxi) (p := ⟨g, k, none⟩) (B.own_ne (hu.2 i ks _ hi hxi) (by decide)).symm (.slice none 0 0)
        exact own_ints this
    · have hi2 := (List.getElem?_eq_some_iff.1 hi).1
      rw [List.length_append, List.length_take] at hi2
      simp at hi2
      obtain rfl : i = k := by omega
      rw [List.getElem?_append_right (by rw [List.length_take]; omega), List.length_take, show i - min i bs.length = 0 by omega] at hi
      simp at hi
      subst hi
      refine ⟨.slice none 0 0, ?_, none, 0, rfl, fun hp => absurd hp (by simp)⟩
      rw [B2.cell i]
      simp [hlt]
set_option maxHeartbeats 8000000 in
set_option maxRecDepth 100000 in
theorem walk (w : World) (htab : Lib.TabIs Tryd.prog w "internal/strconv.uint64pow10" .u64 Lib.pow10Tab) (hsp : SpTab w) (hz : 0 < w.heap.size) (st0 br0 : Int) (A0 : Option Addr) (c0 : Nat) (z0 : List (List Int)) (ws0 : (Lit.int .i64 st0).wf = true) (wb0 : (Lit.int .i64 br0).wf = true) (w0 : RowsAt w A0 z0) (s0 : z0.length * 24 ≤ 140737488351232) (y0 : ∀ l ∈ z0, l.length * 8 ≤ 140737488351232) (a1 : Int) (w1 : (Lit.int .i64 a1).wf = true) :
    Calls Tryd.prog 9 #[.agg #[.int .i64 st0, .int .i64 br0, .slice A0 z0.length c0], .int .i64 a1] w fun e w' => e = .returned (.bool true) ∧ Below w.heap.size w w' := by
  have bu := m1 w (matO st0 br0 A0 z0.length c0)
  have hU := Blk.made w 24 #[.int .i64 st0, .int .i64 br0, .slice A0 z0.length c0]
  have hA := w0.later bu
  have l0 : z0.length ≤ 9223372036854775806 := by omega
  have q0 : ∀ l ∈ z0, l.length ≤ 9223372036854775806 := fun l h => by have := y0 l h; omega
  have tab := Lib.hid (Lib.tabBelow_of_tabIs htab)
  have sp := Lib.hid (fun w' hb => SpTab.later (w := w) (w1 := w') hsp hb)
  have hzz := Lib.hid (fun (w' : World) (hb : Below w.heap.size w w') => (Nat.lt_of_lt_of_le hz hb.size : 0 < w'.heap.size))
  have hst := bounds_i64 ws0
  have hn1 := bounds_i64 w1
  have gF := @good_facts st0 br0 z0 a1
  have gM := @good_more st0 br0 z0 a1
  have GG := fun n w hA => good_any A0 c0 st0 br0 z0 n w hA l0 q0
  have GN := fun w => good_any none 0 st0 br0 [] a1 w (fun hp => absurd hp (by simp)) (by decide) (by simp)
  rw [good_nil] at GN
  have GL := fun w hA => GG (st0 - 1) w hA
  rw [good_less] at GL
  have GM := fun w hA => GG (a1 + 1) w hA
  have G0 := fun w hA => GG a1 w hA
  have TW := fun g w h0 h1 h2 hR => twin_one g st0 br0 A0 c0 z0 w h0 h1 h2 hR s0 y0
  obtain ⟨gq, hgq⟩ : ∃ q, goodP st0 br0 z0 a1 = q := ⟨_, rfl⟩
  rw [hgq] at gF gM G0
  generalize goodP st0 br0 z0 (a1 + 1) = gr at *
  replace q0 := Lib.hid q0
  replace y0 := Lib.hid y0
  replace GG := Lib.hid GG
  replace GN := Lib.hid GN
  replace GL := Lib.hid GL
  replace GM := Lib.hid GM
  replace G0 := Lib.hid G0
  replace TW := Lib.hid TW
  replace gF := Lib.hid gF
  replace gM := Lib.hid gM
  replace hgq := Lib.hid hgq
  clear w0 htab hsp hz
  go_enter Tryd.func9, Tryd.ntmps9
  go_wp2_with fail
  generalize w.alloc (matO st0 br0 A0 z0.length c0) = u at *
  refine (awake_any _ (sp.out _ bu) (hzz.out _ bu) (tab.out _ bu)).mono ?_; rintro e wa ⟨rfl, hb1⟩
  have hBa := mmore bu hb1
  have hUa := hU.kept hb1
  have hAa := hA.later hb1
  have d0 : wa.cell? ⟨w.heap.size, 0, none⟩ = some (.int .i64 st0) := hUa.cell 0
  have d1 : wa.cell? ⟨w.heap.size, 1, none⟩ = some (.int .i64 br0) := hUa.cell 1
  have d2 : wa.cell? ⟨w.heap.size, 2, none⟩ = some (.slice A0 z0.length c0) := hUa.cell 2
  clear hU hA hb1 bu
  go_wp2_with fail
  refine (G0.out _ hAa).mono ?_; rintro e wb ⟨rfl, hb2⟩
  have hBb := mmore hBa hb2
  have hUb := hUa.kept hb2
  have hAb := hAa.later hb2
  clear hUa hAa hBa hb2 d0 d1 d2
  cases gq
  · go_wp2_with fail
    go_ret
    exact ⟨rfl, hBb⟩
  · obtain ⟨f1, f2, f3⟩ := gF.out rfl
    obtain rfl : gr = true := gM.out rfl
    obtain ⟨k, hk⟩ : ∃ k, z0.length = k + 1 := ⟨z0.length - 1, by omega⟩
    have hz0 : ((z0.length : Int) == 0) = false := by rw [beq_eq_false_iff_ne]; omega
    have wn : a1 < 4611686018427387904 → IntKind.i64.wrap (a1 + 1) = a1 + 1 := fun hn => by rw [IntKind.wrap_i64]; omega
    have ws : IntKind.i64.wrap (st0 - 1) = st0 - 1 := by rw [IntKind.wrap_i64]; omega
    replace wn := Lib.hid wn
    replace ws := Lib.hid ws
    replace hk := Lib.hid hk
    replace f1 := Lib.hid f1
    clear f2 f3 hst hn1
    have d0 : wb.cell? ⟨w.heap.size, 0, none⟩ = some (.int .i64 st0) := hUb.cell 0
    have d1 : wb.cell? ⟨w.heap.size, 1, none⟩ = some (.int .i64 br0) := hUb.cell 1
    have d2 : wb.cell? ⟨w.heap.size, 2, none⟩ = some (.slice A0 z0.length c0) := hUb.cell 2
    go_upto_region 5 with (fail)
    go_cut [35] from 12 to 36 (fun v w' => v = .bool false ∧ Below wb.heap.size wb w')
    case first =>
      by_cases hn : a1 < 4611686018427387904
      · have wn1 := wn.out hn
        go_wp2_with fail
        refine (GM.out _ hAb).mono ?_; rintro e wc ⟨rfl, hb3⟩
        have e0 := cell_later hb3 d0
        have e1 := cell_later hb3 d1
        have e2 := cell_later hb3 d2
        go_wp2_with fail
        refine (GN.out _).mono ?_; rintro e wd ⟨rfl, hb4⟩
        go_wp2_with fail
        go_meet
        exact ⟨rfl, mmore hb3 hb4⟩
      · go_wp2_with fail
        refine (GN.out _).mono ?_; rintro e wd ⟨rfl, hb4⟩
        go_wp2_with fail
        go_meet
        exact ⟨rfl, hb4⟩
    case rest =>
      obtain ⟨rfl, hb5⟩ := hcut
      have hBc := mmore hBb hb5
      have hUc := hUb.kept hb5
      have hAc := hAb.later hb5
      clear hUb hAb hBb hb5 d0 d1 d2
      rename_i wc
      have d0 : wc.cell? ⟨w.heap.size, 0, none⟩ = some (.int .i64 st0) := hUc.cell 0
      have d1 : wc.cell? ⟨w.heap.size, 1, none⟩ = some (.int .i64 br0) := hUc.cell 1
      have d2 : wc.cell? ⟨w.heap.size, 2, none⟩ = some (.slice A0 z0.length c0) := hUc.cell 2
      go_wp2_with fail
      have hwc := hUc.lt
      have bT := Blk.made wc 24 #[.int .i64 st0, .int .i64 br0, .slice A0 z0.length c0]
      have hm := m1 wc (matO st0 br0 A0 z0.length c0)
      refine (TW.out wc.heap.size _ (bT.cell 0) (bT.cell 1) (bT.cell 2) (hAc.later hm)).mono ?_; rintro e wt ⟨G, cG, v, us, rfl, t0, t1, t2, tO, tU, hbT⟩
      have hBt := mmore hm hbT
      clear bT
      obtain ⟨va, vc, rfl⟩ := slice_of tO
      obtain ⟨gp, cp, x, ev, hgp, hx, hf, hRl0, cur, hBl⟩ := own_last tO tU hk.out
      have hgc : wc.heap.size ≤ gp := Nat.le_trans hm.size hgp
      have hgl : gp < wt.heap.size := by
        rcases tO.2 with ⟨h, h0⟩ | ⟨g', c', cur', h, _, hh, _⟩
        · have := f1.out; omega
        · simp at h ev
          have e2 := h.1.symm.trans ev.1
          simp at e2
          subst e2
          exact Blk.lt (show Blk wt g' _ _ from hh)
      rw [hk.out] at ev
      simp at ev
      obtain ⟨rfl, rfl⟩ := ev
      have hbX : Below wc.heap.size wc ((wt.setCell ⟨gp, k, none⟩ (.slice none 0 0)).alloc (matO st0 br0 (some ⟨gp, 0, none⟩) z0.length vc)) := (hBt.setCell (p := ⟨gp, k, none⟩) (by show wc.heap.size ≤ gp; omega) _).alloc (by show wc.heap.size ≤ (wt.heap.modify _ _).size; rw [Array.size_modify]; exact hBt.size) _
      have hRl := hRl0.later (m1 _ (matO st0 br0 (some ⟨gp, 0, none⟩) z0.length vc))
      have hUs := hUc.kept hbX
      have hAs := hAc.later hbX
      have hBs := mmore hBc hbX
      have hlen : (z0.take k ++ [[]]).length = z0.length := by have := hk.out; simp; omega
      have GE := good_any (some ⟨gp, 0, none⟩) vc st0 br0 (z0.take k ++ [[]]) a1 _ hRl (by rw [hlen]; exact l0) (fun l hm2 => by
        rcases List.mem_append.1 hm2 with h | h
        · exact q0.out l (List.mem_of_mem_take h)
        · simp at h; subst h; simp)
      rw [good_end, hlen] at GE
      have wk : IntKind.i64.wrap ((z0.length : Int) - 1) = (k : Int) := by have := hk.out; rw [IntKind.wrap_i64]; omega
      have k0 : (0 : Int) ≤ (k : Int) := by omega
      have k1 : (k : Int) < (z0.length : Int) := by have := hk.out; omega
      have ne0 : ¬ gp = wt.heap.size := by omega
      have ne1 : ¬ wt.heap.size = gp := by omega
      replace GE := Lib.hid GE
      replace hbX := Lib.hid hbX
      replace hUs := Lib.hid hUs
      replace hAs := Lib.hid hAs
      replace hBs := Lib.hid hBs
      clear hUc hAc hBc d0 d1 d2 hbT tO tU hRl hRl0 hBl hgp hBt hm hlen
      go_wp2_with fail
      refine GE.out.mono ?_; rintro e wx ⟨rfl, hb7⟩
      have hUx := hUs.out.kept hb7
      have hAx := hAs.out.later hb7
      have hBx := mmore hBs.out hb7
      have d0 : wx.cell? ⟨w.heap.size, 0, none⟩ = some (.int .i64 st0) := hUx.cell 0
      have d1 : wx.cell? ⟨w.heap.size, 1, none⟩ = some (.int .i64 br0) := hUx.cell 1
      have d2 : wx.cell? ⟨w.heap.size, 2, none⟩ = some (.slice A0 z0.length c0) := hUx.cell 2
      have ws1 := ws.out
      clear GE hUs hAs hBs hbX hb7 t0 t1 t2 hx hf ne0 ne1 wk
      go_wp2_with fail
      refine (GL.out _ hAx).mono ?_; rintro e wy ⟨rfl, hb8⟩
      clear d0 d1 d2
      go_wp2
      go_ret
      exact ⟨rfl, mmore hBx hb8⟩

theorem laid_met (os : Os) (args : Array Value) : laidMetH Tryd.prog Rows.matchEndsRow.laid ((World.laidAll Tryd.prog os Rows.matchEndsRow.laid).forCall (fun _ _ => 0) ⟨#[], args, []⟩).memory := by
  rw [MakeChecks.laidMetH_plain _ _ _ (by kernel_rfl)]
  exact laidMet_laidAll _ (by kernel_rfl) (by kernel_rfl)
theorem gPow : Tryd.prog.globalNamed "internal/strconv.uint64pow10" = some 3 := by kernel_rfl
theorem tPow : (Tryd.prog.globals[3]?).map (·.type) = some 111 := by kernel_rfl
theorem of_laid {W : World} (h : laidMetH Tryd.prog Rows.matchEndsRow.laid W) : Lib.TabIs Tryd.prog W "internal/strconv.uint64pow10" .u64 Lib.pow10Tab := by
  rw [MakeChecks.laidMetH_plain _ _ _ (by kernel_rfl)] at h
  have h2 : laidMet Tryd.prog (("internal/strconv.uint64pow10", Lib.tabData .u64 Lib.pow10Tab) :: Rows.matchEndsRow.laid.drop 3) W := h.tail.tail
  exact Lib.tabIs_of_head gPow tPow Tryd.underlying111 Tryd.underlying61 (by kernel_rfl) (by kernel_rfl) h2

theorem gSp : Tryd.prog.globalNamed "strings.asciiSpace" = some 0 := by kernel_rfl
theorem tSp : (Tryd.prog.globals[0]?).map (·.type) = some 81 := by kernel_rfl
theorem spD : (Lib.tabData .u8 spL : DataW Unit) = Rows.laid_strings_asciiSpace := by kernel_rfl
theorem of_laid2 {W : World} (h : laidMetH Tryd.prog Rows.matchEndsRow.laid W) : Lib.TabIs Tryd.prog W "strings.asciiSpace" .u8 spL := by
  rw [MakeChecks.laidMetH_plain _ _ _ (by kernel_rfl)] at h
  have h2 : laidMet Tryd.prog (("strings.asciiSpace", Lib.tabData .u8 spL) :: Rows.matchEndsRow.laid.drop 8) W := by rw [spD]; exact h.tail.tail.tail.tail.tail.tail.tail
  exact Lib.tabIs_of_head gSp tSp Tryd.underlying81 Tryd.underlying5 (by kernel_rfl) (by kernel_rfl) h2

set_option maxRecDepth 100000 in
theorem lifted (os : Os) (started : os.Started) (H : Type) (enc : TypeId × Value → H) :
    ReturnsInHanded {} Tryd.checked os 9 .any (fun w args => (Rows.matchEndsSpec.pre enc Tryd.prog Tryd.f9 [] false w args ∧ laidMetH Tryd.prog Rows.matchEndsRow.laid w) ∧ sizedMet enc Tryd.prog Tryd.f9 (OpenSpec.ofChange Rows.matchEndsSpec) false w args) (Rows.matchEndsSpec.post enc Tryd.prog Tryd.f9 false true false false) := by
  refine returnsInHanded_of_change_and (C := Tryd.checked) (X := fun w _ => laidMetH Tryd.prog Rows.matchEndsRow.laid w) (fun _ _ _ hh h => h.of_heap hh) own started (by kernel_rfl) Tryd.func9
    (ChangeSpec.witness_shaped (enc := enc) (C := Tryd.checked) (os := os) (X := fun w _ => laidMetH Tryd.prog Rows.matchEndsRow.laid w) false (World.laidAll Tryd.prog os Rows.matchEndsRow.laid) #[.agg #[.int .i64 0, .int .i64 0, .slice none 0 0], .int .i64 0] 8 (World.laidAll_os _ _ _) (World.shaped_of_ZipB (by kernel_rfl) (by kernel_rfl)) (by kernel_rfl) (by kernel_rfl) (by kernel_rfl) (laid_met os _)) ?_
  intro W base args ds gs before hval0 hW _ hsz0 hL _
  have hTab := of_laid hL
  have hSpT := of_laid2 hL
  have hSp := spTab_of hSpT gSp
  have hZ : 0 < W.heap.size := mblock (hSp 0 (by decide))
  clear hL
  have hsz : (DataW.weightsEach Tryd.prog (Tryd.f9.params.toList ++ Rows.matchEndsSpec.plain.varTypes Tryd.prog) (ds ++ gs)).all (· ≤ reachBytes) = true := hsz0
  clear hsz0
  have hval : ∀ (j : Nat) t v, Tryd.f9.params[j]? = some t → args[j]? = some v → Value.okWide Tryd.prog W .any base t v := hval0
  have hW' := hW
  obtain ⟨p, q, hA0, hV, rfl, hfz, hnd⟩ := hW
  have hA : DataW.TrodAll enc Tryd.prog W 0 (fun _ => true) true Tryd.f9.params.toList args.toList ds p := hA0
  rw [Tryd.params9] at hA hval hsz
  obtain ⟨v0, vs0, d0, ds0, p0, q0, hargs, rfl, rfl, h0, r0⟩ := trodAll_cons hA
  obtain ⟨v1, vs1, d1, ds1, p1, q1, rfl, rfl, rfl, h1, r1⟩ := trodAll_cons r0
  obtain ⟨rfl, rfl, rfl⟩ := trodAll_nil r1
  obtain rfl : args = #[v0, v1] := by cases args; simp_all
  obtain ⟨rfl, rfl⟩ := trodVars_none hV
  have kk0 := h0
  have lt0 : ∀ x ∈ p0, x.block < W.heap.size := by obtain ⟨m, hm⟩ := kk0; exact DataW.trod_lt m _ _ _ hm
  have kk1 := h1
  have lt1 : ∀ x ∈ p1, x.block < W.heap.size := by obtain ⟨m, hm⟩ := kk1; exact DataW.trod_lt m _ _ _ hm
  obtain ⟨st0, br0, A0, c0, z0, rfl, ws0, wb0, w0, s0, y0⟩ := open_match (hval 0 24 v0 rfl rfl) h0 (wb_each hsz (j := 0) (t := 24) rfl rfl)
  obtain ⟨a1, rfl, rfl, rfl, w1⟩ := open_int Tryd.underlying3 (hval 1 3 v1 rfl rfl) h1
  clear hA0 hval0
  refine (walk W hTab hSp hZ st0 br0 A0 c0 z0 ws0 wb0 w0 s0 y0 a1 w1).mono fun e W' ⟨he, bel⟩ => ?_
  subst he
  exact ⟨_, rfl, _, _, _, [], _, [], hW', trodAll_mk1 (shut_bool Tryd.underlying4 _), (trodAll_cons_mk (Below.trod laidOut (by kernel_rfl) (of_decide_eq_true (by kernel_rfl)) kk0 bel lt0) (trodAll_cons_mk (Below.trod laidOut (by kernel_rfl) (of_decide_eq_true (by kernel_rfl)) kk1 bel lt1) trodAll_mk0)), rfl, bel.frame _, fun h => by cases h⟩

theorem over : Rows.matchEndsRow.holds Tryd.pinned (OpenSpec.ofChange Rows.matchEndsSpec) :=
  OpenClaim.holds_of_wide 9 Tryd.f9 rfl rfl rfl rfl rfl rfl rfl ⟨rfl, rfl, rfl, rfl, rfl⟩ rfl rfl rfl rfl rfl (by kernel_rfl) Tryd.func9 (by kernel_rfl)
    (of_decide_eq_true (by kernel_rfl)) (by unfold Func.isWrapper; first | (rw [if_pos (by decide +kernel)]; kernel_rfl) | (rw [if_neg (by decide +kernel)]; exact ⟨rfl, rfl⟩))
    (fun os started H enc _ => lifted os started H enc)

/-- the statement -/
theorem proved : Rows.MatchEndsCardSaid :=
  Claim7.holds_tied_plain_at .later [] [.data, .data, .data, .data, .sentinel, .sentinel, .listed, .data, .pinned] true (true, "adcc2ad523869b1080a35ead8d8a9f8851c72ee131aff97a222f6ecc579e3911") true
    over (fun _ h => by cases h) (by kernel_rfl) (fun _ h => by cases h) matchEnds_row_tie rfl ⟨rfl, rfl⟩ (by kernel_rfl) rfl
    (fun f fn hf hfn => by
      obtain rfl : f = 9 := Option.some.inj ((show Tryd.prog.funcNamed "auspice/auspicelaw10.MatchEnds" = some 9 by kernel_rfl).symm.trans hf) |>.symm
      obtain rfl : fn = Tryd.f9 := (Option.some.inj (Tryd.func9.symm.trans hfn)).symm
      exact ⟨by kernel_rfl, fun j t ht => by
        rw [Tryd.params9] at ht
        have hm : t ∈ [24, 3] := by simpa using Array.mem_of_getElem? ht
        have hall : ([24, 3].all fun u => !Tryd.prog.wantsStandIn u) = true := by kernel_rfl
        exact (show Tryd.prog.wantsStandIn t = false by simpa using List.all_eq_true.1 hall t hm)⟩)
    (by kernel_rfl)
#print axioms proved
end Go.Proofs.YtfbpaomebfleiaaDoor.matchEnds
