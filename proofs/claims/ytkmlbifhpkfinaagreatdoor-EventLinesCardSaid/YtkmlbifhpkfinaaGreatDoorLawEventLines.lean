/- EventLines: of any schema and any event: its line is the document's, and read again it is the event, if it is valid; else there is none. -/
import Derived.Test.YtkmlbifhpkfinaaGreatDoorRows
import Derived.Test.YtkmlbifhpkfinaaGreatDoorCards
import Derived.Test.YtkmlbifhpkfinaaGreatDoorTie
import Derived.LaidMore
import Derived.Lay
import Derived.LaidLaws
import Derived.ChangeVars
import Derived.SevenTiedAt
import Derived.Stop.Joined
import Derived.Stop.LaidErr
import Derived.Lib.LaidTab
import Derived.Lib.ItoaNum
import Derived.WalkKit
import Derived.ProofKit
import Derived.OpenShut
import Derived.ShutString
import Derived.ChangeOld
import Derived.Below
import Derived.Lib.SmallJoins
import Derived.SizedLaws
import Derived.Test.YtkmlbifhpkfinaaGreatDoorLnF
import Derived.Test.YtkmlbifhpkfinaaGreatDoorLnG
import Derived.Test.YtkmlbifhpkfinaaGreatDoorLnH
import Derived.Test.YtkmlbifhpkfinaaGreatDoorEvA
import Derived.Test.YtkmlbifhpkfinaaGreatDoorEvT
import Derived.Test.YtkmlbifhpkfinaaGreatDoorSchA
namespace Go.Proofs.YtkmlbifhpkfinaaGreatDoor.eventLines
open Go.ChangeShapes Go.WideShapes Go.ChangeAt Go.RowKit Go.Joins
set_option linter.unusedVariables false
set_option linter.unusedSimpArgs false

theorem own : ownKnob Tryz.prog.godebug = none := by kernel_rfl
theorem laidOut : laidOutB Tryz.prog = true := by kernel_rfl

set_option maxHeartbeats 8000000 in
set_option maxRecDepth 100000 in
theorem walk (w : World) (htab : Lib.TabIs Tryz.prog w "internal/strconv.uint64pow10" .u64 Lib.pow10Tab) (hT : TzCell w) (hE : ErrCells w) (x0 y0 : Value) (t0 : List ST) (s0 : List ByteArray) (w0 : TypesIn w x0 t0) (u0 : SymsIn w y0 s0) (p0 : t0.length * 40 ≤ 140737488351232) (q0 : ∀ t ∈ t0, t.2.length * 24 ≤ 140737488351232) (r0 : s0.length * 16 ≤ 140737488351232) (ty1 tm1 : Int) (B1 : Option Addr) (c1 : Nat) (z1 : List (Int × Nat)) (w1 : RowV w B1 z1.length z1) (s1 : z1.length * 16 ≤ 140737488351232) :
    Calls Tryz.prog 3 #[.agg #[x0, y0], .agg #[.int .i64 ty1, .int .i64 tm1, .slice B1 z1.length c1]] w fun e w' => e = .returned (.bool true) ∧ Below w.heap.size w w' := by
  have hB1 := z1.length
  go_enter Tryz.func3, Tryz.ntmps3
  go_wp2_with fail
  have hu := m2 w (.cells #[x0, y0] 25) (.cells #[.int .i64 ty1, .int .i64 tm1, .slice B1 z1.length c1] 28)
  have k0 : Blk ((w.alloc (.cells #[x0, y0] 25)).alloc (.cells #[.int .i64 ty1, .int .i64 tm1, .slice B1 z1.length c1] 28)) w.heap.size 25 #[x0, y0] := (Blk.made _ _ _).kept (m1 _ _)
  have k1 : Blk ((w.alloc (.cells #[x0, y0] 25)).alloc (.cells #[.int .i64 ty1, .int .i64 tm1, .slice B1 z1.length c1] 28)) (w.heap.size + 1) 28 #[.int .i64 ty1, .int .i64 tm1, .slice B1 z1.length c1] := by
    have := Blk.made (w.alloc (.cells #[x0, y0] 25)) 28 #[.int .i64 ty1, .int .i64 tm1, .slice B1 z1.length c1]
    simpa using this
  have W0 := w0.later hu
  have U0 := u0.later hu
  have R0 := w1.later hu
  have tab := Lib.hid (Lib.tabBelow_of_tabIs htab)
  have hTu := Lib.hid (hT.later hu)
  have hEu := Lib.hid (hE.later hu)
  clear hT hE htab w0 u0 w1
  generalize (w.alloc (.cells #[x0, y0] 25)).alloc (.cells #[.int .i64 ty1, .int .i64 tm1, .slice B1 z1.length c1] 28) = u at *
  refine (sto_any x0 y0 t0 s0 u W0 U0 p0 q0 r0).mono ?_; rintro e wa ⟨v1, v2, rfl, hTy, hSy, hba⟩
  have hBa := mmore hu hba
  obtain ⟨A, cap, rfl, hA⟩ := hTy.slice
  obtain ⟨C, capC, rfl, hc1, hc2, hS⟩ := hSy.slice2
  obtain ⟨RA, rcap, rfl, hRA⟩ := W0.slice
  obtain ⟨RC, rcapC, rfl, hrc1, hrc2, hRS⟩ := U0.slice2
  have K0 := k0.kept hba
  have K1 := k1.kept hba
  have RVa := Lib.hid (R0.later hba)
  have RAa := Lib.hid (hRA.later hba)
  have RSa := Lib.hid (hRS.later hba)
  have hTa := Lib.hid (hTu.out.later hba)
  have hEa := Lib.hid (hEu.out.later hba)
  clear hTu hEu hu hba W0 U0 R0 hTy hSy k0 k1 hRA hRS
  go_upto_region 2 with (fail)
  have hwb := m1 wa (.cells #[.slice A t0.length cap, .slice C s0.length capC] 31)
  have Xb := Blk.made wa 31 #[.slice A t0.length cap, .slice C s0.length capC]
  have hBb := mmore hBa hwb
  have hAb := Lib.hid (hA.later hwb)
  have hSb := Lib.hid (hS.later hwb)
  have hTb := Lib.hid (hTa.out.later hwb)
  have hEb := Lib.hid (hEa.out.later hwb)
  have RVb := Lib.hid (RVa.out.later hwb)
  have RAb := Lib.hid (RAa.out.later hwb)
  have RSb := Lib.hid (RSa.out.later hwb)
  replace K0 := K0.kept hwb
  replace K1 := K1.kept hwb
  clear hA hS hTa hEa RVa RAa RSa hwb hBa
  generalize wa.heap.size = g5 at *
  generalize wa.alloc (.cells #[.slice A t0.length cap, .slice C s0.length capC] 31) = wb at *
  have d0 : wb.cell? ⟨g5, 0, none⟩ = some (.slice A t0.length cap) := Xb.cell 0
  have d1 : wb.cell? ⟨g5, 1, none⟩ = some (.slice C s0.length capC) := Xb.cell 1
  have f0 : wb.cell? ⟨w.heap.size + 1, 0, none⟩ = some (.int .i64 ty1) := K1.cell 0
  have f1 : wb.cell? ⟨w.heap.size + 1, 1, none⟩ = some (.int .i64 tm1) := K1.cell 1
  have f2 : wb.cell? ⟨w.heap.size + 1, 2, none⟩ = some (.slice B1 z1.length c1) := K1.cell 2
  have PA := fun s1 w hs h1 h2 h3 h4 h5 => evparse_any A C cap capC t0 s0 s1 w h1 h2 p0 q0 (by omega) hc1 hc2 hs h3 h4 h5
  have LA := fun B capB w h1 h2 h3 h5 h6 => line_any A C B cap capC capB t0 s0 ty1 tm1 z1 w h1 h2 h3 p0 q0 hc1 hc2 s1 h5 h6
  have RL := fun w h1 h2 h3 => rline_any RA RC B1 rcap rcapC c1 t0 s0 ty1 tm1 z1 w h1 h2 h3 p0 q0 hrc1 hrc2 s1
  have RV := fun w h1 h2 h3 => rvalid_any RA RC B1 rcap rcapC c1 t0 s0 ty1 tm1 z1 w h1 h2 h3 p0 q0 hrc1 hrc2 (by omega)
  have TO := fun w h => evto_any B1 c1 ty1 tm1 z1 w h s1
  have drb := (Below.refl wb.heap.size wb).drew
  have hAd := Lib.hid (hAb.out.later drb)
  have hSd := Lib.hid (hSb.out.later drb)
  have hTd := Lib.hid (hTb.out.later drb)
  have RVd := Lib.hid (RVb.out.later drb)
  have hBd := hBb.trans (drb.mono hBb.size)
  replace PA := Lib.hid PA
  replace LA := Lib.hid LA
  replace RL := Lib.hid RL
  replace RV := Lib.hid RV
  replace TO := Lib.hid TO
  replace drb := Lib.hid drb
  go_cut [6] from 11 to 14 (fun v w' => ∃ x, v = .string x ∧ LineP t0 s0 ty1 tm1 z1 x ∧ Below wb.heap.size wb w')
  case first =>
    go_region_law (first | (go_simp; go_at_call 8; refine (TO.out _ RVd.out).mono ?_; rintro e wc ⟨B', cap', rfl, hR', hbc⟩; have d0' := cell_later hbc (show wb.drew.cell? _ = _ from d0); have d1' := cell_later hbc (show wb.drew.cell? _ = _ from d1)) | ((try go_simp); go_at_call 7; refine (LA.out B' cap' _ (hAd.out.later hbc) (hSd.out.later hbc) hR' (hTd.out.later hbc) (tab.out _ (hBd.trans (hbc.mono hBd.size)))).mono ?_; rintro e wd ⟨x, rfl, hx, hbd⟩))
    all_goals (go_wp2_with fail; go_meet; exact ⟨x, rfl, hx, mmore (mmore drb.out hbc) hbd⟩)
  case rest =>
    obtain ⟨t, rfl, ht, hbc⟩ := hcut
    have hBc := mmore hBb hbc
    replace K0 := K0.kept hbc
    replace K1 := K1.kept hbc
    have Xc := Xb.kept hbc
    have hTc := Lib.hid (hTb.out.later hbc)
    have hEc := Lib.hid (hEb.out.later hbc)
    have hAc := Lib.hid (hAb.out.later hbc)
    have hSc := Lib.hid (hSb.out.later hbc)
    have RVc := Lib.hid (RVb.out.later hbc)
    have RAc := Lib.hid (RAb.out.later hbc)
    have RSc := Lib.hid (RSb.out.later hbc)
    clear d0 d1 f0 f1 f2 LA TO drb hAd hSd hTd RVd hBd hTb hEb hAb hSb RVb RAb RSb Xb hBb hbc
    rename_i wc
    go_wp2_with fail
    refine (evawake_any _ (tab.out _ hBc)).mono ?_; rintro e wd ⟨rfl, hbd⟩
    have hBd := mmore hBc hbd
    replace K0 := K0.kept hbd
    replace K1 := K1.kept hbd
    replace Xc := Xc.kept hbd
    have g0 : wd.cell? ⟨w.heap.size, 0, none⟩ = some (.slice RA t0.length rcap) := K0.cell 0
    have g1 : wd.cell? ⟨w.heap.size, 1, none⟩ = some (.slice RC s0.length rcapC) := K0.cell 1
    have f0 : wd.cell? ⟨w.heap.size + 1, 0, none⟩ = some (.int .i64 ty1) := K1.cell 0
    have f1 : wd.cell? ⟨w.heap.size + 1, 1, none⟩ = some (.int .i64 tm1) := K1.cell 1
    have f2 : wd.cell? ⟨w.heap.size + 1, 2, none⟩ = some (.slice B1 z1.length c1) := K1.cell 2
    go_wp2_with fail
    refine (RL.out _ (RAc.out.later hbd) (RSc.out.later hbd) (RVc.out.later hbd)).mono ?_; rintro e we ⟨t', rfl, ht', hbe⟩
    obtain rfl : t' = t := by
      by_cases hok : EvOk t0 s0 ty1 tm1 z1
      · rw [ht.1 hok, ht'.1 hok]
      · rw [ht.2 hok, ht'.2 hok]
    have htt : (t'.toList == t'.toList) = true := by simp
    have hde := mmore hbd hbe
    have hBe := mmore hBc hde
    replace K0 := K0.kept hbe
    replace K1 := K1.kept hbe
    replace Xc := Xc.kept hbe
    have d0 : we.cell? ⟨g5, 0, none⟩ = some (.slice A t0.length cap) := Xc.cell 0
    have d1 : we.cell? ⟨g5, 1, none⟩ = some (.slice C s0.length capC) := Xc.cell 1
    clear g0 g1 f0 f1 f2 hbd hbe ht' RL hBd
    have hts : t'.size ≤ 281474976710656 := by
      by_cases hok : EvOk t0 s0 ty1 tm1 z1
      · obtain ⟨_, _, _, _, _, _, hLL⟩ := line_parts hok RVc.out.2.1
        rw [ht.1 hok, bl_size]
        omega
      · rw [ht.2 hok]
        decide
    go_wp2_with fail
    refine (PA.out t' _ hts (hAc.out.later hde) (hSc.out.later hde) (hTc.out.later hde) (hEc.out.later hde) (tab.out _ hBe)).mono ?_
    rintro e wf (⟨ty, tm, B, capB, vs, rfl, ⟨hIs, hOne⟩, hR, hl, hbf⟩ | ⟨rfl, hno, hbf⟩)
    · have hok : EvOk t0 s0 ty1 tm1 z1 := Classical.byContradiction fun h => line_ne hIs.1 (by rw [← hIs.2.2, ht.2 h])
      obtain ⟨e1, e2, e3⟩ := hOne _ _ _ ⟨hok, RVc.out.2.1, by rw [ht.1 hok, bl_list]⟩
      subst e1 e2 e3
      replace hok := Lib.hid hok
      have hBf := mmore hBe hbf
      have hdf := mmore hde hbf
      replace K0 := K0.kept hbf
      replace K1 := K1.kept hbf
      clear hOne hIs ht PA d0 d1 htt hts
      go_upto_region 6 with (fail)
      have hwg := m1 wf (.cells #[.int .i64 ty, .int .i64 tm, .slice B vs.length capB] 36)
      have Yg := Blk.made wf 36 #[.int .i64 ty, .int .i64 tm, .slice B vs.length capB]
      have hBg := mmore hBf hwg
      have hdg := mmore hdf hwg
      have hRg := Lib.hid (hR.later hwg)
      replace K0 := K0.kept hwg
      replace K1 := K1.kept hwg
      clear hR hwg hBf hdf hBe hde hbf
      generalize wf.heap.size = g7 at *
      generalize wf.alloc (.cells #[.int .i64 ty, .int .i64 tm, .slice B vs.length capB] 36) = wg at *
      have g0 : wg.cell? ⟨w.heap.size, 0, none⟩ = some (.slice RA t0.length rcap) := K0.cell 0
      have g1 : wg.cell? ⟨w.heap.size, 1, none⟩ = some (.slice RC s0.length rcapC) := K0.cell 1
      have f0 : wg.cell? ⟨w.heap.size + 1, 0, none⟩ = some (.int .i64 ty) := K1.cell 0
      have f1 : wg.cell? ⟨w.heap.size + 1, 1, none⟩ = some (.int .i64 tm) := K1.cell 1
      have f2 : wg.cell? ⟨w.heap.size + 1, 2, none⟩ = some (.slice B1 vs.length c1) := K1.cell 2
      have y0 : wg.cell? ⟨g7, 0, none⟩ = some (.int .i64 ty) := Yg.cell 0
      have y1 : wg.cell? ⟨g7, 1, none⟩ = some (.int .i64 tm) := Yg.cell 1
      have y2 : wg.cell? ⟨g7, 2, none⟩ = some (.slice B vs.length capB) := Yg.cell 2
      have drg := (Below.refl wg.heap.size wg).drew
      have RAg := Lib.hid ((RAc.out.later hdg).later drg)
      have RSg := Lib.hid ((RSc.out.later hdg).later drg)
      have RVg := Lib.hid ((RVc.out.later hdg).later drg)
      have OF := fun w h => evof_any B capB ty tm vs w h hl
      have SA := fun B' cap' w h h2 => evsame_any B' B1 cap' c1 ty tm ty tm vs vs w h h2 hl hl
      replace OF := Lib.hid OF
      replace SA := Lib.hid SA
      replace drg := Lib.hid drg
      clear hAc hSc hTc hEc Xc RAc RSc RVc K0 K1 Yg
      go_region_law (first | (go_simp; go_at_call 12; refine (RV.out _ RAg.out RSg.out RVg.out).mono ?_; rintro e wh ⟨q, rfl, hq, hbh⟩; obtain rfl : q = true := hq.2 hok.out; have hbh' := mmore drg.out hbh; have f0' := cell_later hbh' f0; have f1' := cell_later hbh' f1; have f2' := cell_later hbh' f2; have y0' := cell_later hbh' y0; have y1' := cell_later hbh' y1; have y2' := cell_later hbh' y2) | ((try go_simp); go_at_call 14; refine (OF.out _ (hRg.out.later hbh')).mono ?_; rintro e wi ⟨B', cap', rfl, hR', hbi⟩; have hbi' := mmore hbh' hbi; have f0'' := cell_later hbi' f0; have f1'' := cell_later hbi' f1; have f2'' := cell_later hbi' f2) | ((try go_simp); go_at_call 13; refine (SA.out B' cap' _ hR' ((RVg.out.later hbh).later hbi)).mono ?_; rintro e wj ⟨q2, rfl, hq2, hbj⟩; obtain rfl : q2 = true := hq2.2 (by simp)))
      all_goals clear f0 f1 f2 y0 y1 y2 g0 g1
      all_goals go_wp2
      all_goals go_ret
      all_goals exact ⟨rfl, mmore hBg (mmore hbi' hbj)⟩
    · have hok : ¬ EvOk t0 s0 ty1 tm1 z1 := fun h => hno _ _ _ ⟨h, RVc.out.2.1, by rw [ht.1 h, bl_list]⟩
      replace hok := Lib.hid hok
      have hBf := mmore hBe hbf
      have hdf := mmore hde hbf
      replace K0 := K0.kept hbf
      replace K1 := K1.kept hbf
      clear hno ht PA d0 d1 htt hts
      go_upto_region 6 with (fail)
      have hwg := m1 wf (.cells #[.int .i64 0, .int .i64 0, .slice none 0 0] 36)
      have hBg := mmore hBf hwg
      have hdg := mmore hdf hwg
      replace K0 := K0.kept hwg
      replace K1 := K1.kept hwg
      clear hwg hBf hdf hBe hde hbf
      generalize wf.heap.size = g7 at *
      generalize wf.alloc (.cells #[.int .i64 0, .int .i64 0, .slice none 0 0] 36) = wg at *
      have g0 : wg.cell? ⟨w.heap.size, 0, none⟩ = some (.slice RA t0.length rcap) := K0.cell 0
      have g1 : wg.cell? ⟨w.heap.size, 1, none⟩ = some (.slice RC s0.length rcapC) := K0.cell 1
      have f0 : wg.cell? ⟨w.heap.size + 1, 0, none⟩ = some (.int .i64 ty1) := K1.cell 0
      have f1 : wg.cell? ⟨w.heap.size + 1, 1, none⟩ = some (.int .i64 tm1) := K1.cell 1
      have f2 : wg.cell? ⟨w.heap.size + 1, 2, none⟩ = some (.slice B1 z1.length c1) := K1.cell 2
      have base0 := And.intro g0 (And.intro g1 (And.intro f0 (And.intro f1 (And.intro f2 (And.intro (RAc.out.later hdg) (And.intro (RSc.out.later hdg) (And.intro (RVc.out.later hdg) hBg)))))))
      have base : (fun w' : World => w'.cell? ⟨w.heap.size, 0, none⟩ = some (.slice RA t0.length rcap) ∧ w'.cell? ⟨w.heap.size, 1, none⟩ = some (.slice RC s0.length rcapC) ∧ w'.cell? ⟨w.heap.size + 1, 0, none⟩ = some (.int .i64 ty1) ∧ w'.cell? ⟨w.heap.size + 1, 1, none⟩ = some (.int .i64 tm1) ∧ w'.cell? ⟨w.heap.size + 1, 2, none⟩ = some (.slice B1 z1.length c1) ∧ TypesAt w' RA t0 ∧ SymsAt w' RC s0 ∧ RowV w' B1 z1.length z1 ∧ Below w.heap.size w w') wg.drew := ⟨base0.1, base0.2.1, base0.2.2.1, base0.2.2.2.1, base0.2.2.2.2.1, base0.2.2.2.2.2.1, base0.2.2.2.2.2.2.1, base0.2.2.2.2.2.2.2.1, base0.2.2.2.2.2.2.2.2.drew⟩
      clear base0
      clear hAc hSc hTc hEc Xc RAc RSc RVc K0 K1 g0 g1 f0 f1 f2 hBg hdg
      have KD := G.keepsD_true []
      refine G.region_words (fun w' => w'.cell? ⟨w.heap.size, 0, none⟩ = some (.slice RA t0.length rcap) ∧ w'.cell? ⟨w.heap.size, 1, none⟩ = some (.slice RC s0.length rcapC) ∧ w'.cell? ⟨w.heap.size + 1, 0, none⟩ = some (.int .i64 ty1) ∧ w'.cell? ⟨w.heap.size + 1, 1, none⟩ = some (.int .i64 tm1) ∧ w'.cell? ⟨w.heap.size + 1, 2, none⟩ = some (.slice B1 z1.length c1) ∧ TypesAt w' RA t0 ∧ SymsAt w' RC s0 ∧ RowV w' B1 z1.length z1 ∧ Below w.heap.size w w') [G.isW (.bool false), G.isW (.agg #[.slice RA t0.length rcap, .slice RC s0.length rcapC]), G.isW (.agg #[.int .i64 ty1, .int .i64 tm1, .slice B1 z1.length c1]), G.isW (.bool false), G.isW (.bool true), G.isW (.bool true), G.isW (.bool false), G.isW (.bool true), G.isW (.bool true), G.isW undef, G.isW undef, G.isW undef, G.isW undef, G.isW (.bool true), G.isW (.bool true), G.isW (.bool true)] (by kernel_rfl) (by repeat' (first | exact G.monoL_nil | exact G.is_mono _ | exact G.any_mono | refine G.monoL_cons ?_ ?_)) (by kernel_rfl) (by kernel_rfl) (fun _ _ h hb => ⟨cell_later hb h.1, cell_later hb h.2.1, cell_later hb h.2.2.1, cell_later hb h.2.2.2.1, cell_later hb h.2.2.2.2.1, h.2.2.2.2.2.1.later hb, h.2.2.2.2.2.2.1.later hb, h.2.2.2.2.2.2.2.1.later hb, mmore h.2.2.2.2.2.2.2.2 hb⟩) base ?_ ?_
      · intro KC
        refine G.stepsL_cons (fun a u hc hdd hd hk hdep => ?_) ?_
        ·
          have d8 : (a.tmps[8]?).getD undef = (.bool false) := hk 8 (by kernel_rfl)
          refine G.step_val KC KD hc hdd rfl (.bool false) u (G.wanted_plain rfl) ?_ rfl (Below.refl _ _)
          first | (go_simp; done) | rfl | (simp [go_sem, *]; done)
        refine G.stepsL_cons (fun a u hc hdd hd hk hdep => ?_) ?_
        ·
          have d2 : (a.tmps[2]?).getD undef = (.pointer (some ⟨w.heap.size, 0, none⟩)) := hk 2 (by kernel_rfl)
          refine G.step_val KC KD hc hdd rfl (.agg #[.slice RA t0.length rcap, .slice RC s0.length rcapC]) u (G.wanted_plain rfl) ?_ rfl (Below.refl _ _)
          obtain ⟨s0', s1', s2', s3', s4', -⟩ := hc
          first | (go_simp; done) | rfl | (simp [go_sem, *]; done)
        refine G.stepsL_cons (fun a u hc hdd hd hk hdep => ?_) ?_
        ·
          have d3 : (a.tmps[3]?).getD undef = (.pointer (some ⟨w.heap.size + 1, 0, none⟩)) := hk 3 (by kernel_rfl)
          refine G.step_val KC KD hc hdd rfl (.agg #[.int .i64 ty1, .int .i64 tm1, .slice B1 z1.length c1]) u (G.wanted_plain rfl) ?_ rfl (Below.refl _ _)
          obtain ⟨s0', s1', s2', s3', s4', -⟩ := hc
          first | (go_simp; done) | rfl | (simp [go_sem, *]; done)
        refine G.stepsL_cons (fun a u hc hdd hd hk hdep => ?_) ?_
        ·
          have d31 : (a.tmps[31]?).getD undef = (.agg #[.slice RA t0.length rcap, .slice RC s0.length rcapC]) := hdep ⟨1, .data⟩ (by simp) rfl
          have d32 : (a.tmps[32]?).getD undef = (.agg #[.int .i64 ty1, .int .i64 tm1, .slice B1 z1.length c1]) := hdep ⟨2, .data⟩ (by simp) rfl
          refine G.step_call KC KD hc hdd rfl 12 #[(.agg #[.slice RA t0.length rcap, .slice RC s0.length rcapC]), (.agg #[.int .i64 ty1, .int .i64 tm1, .slice B1 z1.length c1])] (G.wanted_plain rfl) (by first | (go_simp; done) | rfl) ?_
          obtain ⟨z0', z1', z2', z3', z4', z5', z6', z7', z8'⟩ := hc
          exact (RV.out u z5' z6' z7').mono (by rintro e w' ⟨q, rfl, hq, hb⟩; obtain rfl : q = false := (by cases q; rfl; exact absurd (hq.1 rfl) hok.out); exact ⟨_, rfl, rfl, hb⟩)
        refine G.stepsL_cons (fun a u hc hdd hd hk hdep => ?_) ?_
        ·
          have d30 : (a.tmps[30]?).getD undef = (.bool false) := hdep ⟨0, .data⟩ (by simp) rfl
          have d33 : (a.tmps[33]?).getD undef = (.bool false) := hdep ⟨3, .data⟩ (by simp) rfl
          refine G.step_val KC KD hc hdd rfl (.bool true) u (G.wanted_plain rfl) ?_ rfl (Below.refl _ _)
          first | (go_simp; done) | rfl | (simp [go_sem, *]; done)
        refine G.stepsL_cons (fun a u hc hdd hd hk hdep => ?_) ?_
        ·
          have d34 : (a.tmps[34]?).getD undef = (.bool true) := hdep ⟨4, .data⟩ (by simp) rfl
          refine G.step_val KC KD hc hdd rfl (.bool true) u (G.wanted_plain rfl) ?_ rfl (Below.refl _ _)
          first | (go_simp; done) | rfl | (simp [go_sem, *]; done)
        refine G.stepsL_cons (fun a u hc hdd hd hk hdep => ?_) ?_
        ·
          have d8 : (a.tmps[8]?).getD undef = (.bool false) := hk 8 (by kernel_rfl)
          refine G.step_val KC KD hc hdd rfl (.bool false) u ((G.wanted_guard (j := 5) (b := true) (c := true) rfl (hdep ⟨5, .guard⟩ (by simp) rfl)).trans rfl) ?_ rfl (Below.refl _ _)
          first | (go_simp; done) | rfl | (simp [go_sem, *]; done)
        refine G.stepsL_cons (fun a u hc hdd hd hk hdep => ?_) ?_
        ·
          have d36 : (a.tmps[36]?).getD undef = (.bool false) := hdep ⟨6, .data⟩ (by simp) rfl
          refine G.step_val KC KD hc hdd rfl (.bool true) u ((G.wanted_guard (j := 5) (b := true) (c := true) rfl (hdep ⟨5, .guard⟩ (by simp) rfl)).trans rfl) ?_ rfl (Below.refl _ _)
          first | (go_simp; done) | rfl | (simp [go_sem, *]; done)
        refine G.stepsL_cons (fun a u hc hdd hd hk hdep => ?_) ?_
        ·
          have d37 : (a.tmps[37]?).getD undef = (.bool true) := hdep ⟨7, .data⟩ (by simp) rfl
          refine G.step_val KC KD hc hdd rfl (.bool true) u ((G.wanted_guard (j := 5) (b := true) (c := true) rfl (hdep ⟨5, .chain⟩ (by simp) rfl)).trans rfl) ?_ rfl (Below.refl _ _)
          first | (go_simp; done) | rfl | (simp [go_sem, *]; done)
        refine G.stepsL_cons (fun a u hc hdd hd hk hdep => ?_) ?_
        · exact G.step_skip KD hc hdd rfl ((G.wanted_guard (j := 8) (b := false) (c := true) rfl (hdep ⟨8, .guard⟩ (by simp) rfl)).trans rfl) rfl
        refine G.stepsL_cons (fun a u hc hdd hd hk hdep => ?_) ?_
        · exact G.step_skip KD hc hdd rfl ((G.wanted_guard (j := 8) (b := false) (c := true) rfl (hdep ⟨8, .chain⟩ (by simp) rfl)).trans rfl) rfl
        refine G.stepsL_cons (fun a u hc hdd hd hk hdep => ?_) ?_
        · exact G.step_skip KD hc hdd rfl ((G.wanted_guard (j := 8) (b := false) (c := true) rfl (hdep ⟨8, .guard⟩ (by simp) rfl)).trans rfl) rfl
        refine G.stepsL_cons (fun a u hc hdd hd hk hdep => ?_) ?_
        · exact G.step_skip KD hc hdd rfl ((G.wanted_guard (j := 8) (b := false) (c := true) rfl (hdep ⟨8, .guard⟩ (by simp) rfl)).trans rfl) rfl
        refine G.stepsL_cons (fun a u hc hdd hd hk hdep => ?_) ?_
        ·
          have d38 : (a.tmps[38]?).getD undef = (.bool true) := hdep ⟨8, .data⟩ (by simp) rfl
          have d42 : (a.tmps[42]?).getD undef = undef := hdep ⟨12, .data⟩ (by simp) rfl
          refine G.step_val KC KD hc hdd rfl (.bool true) u ((G.wanted_guard (j := 5) (b := true) (c := true) rfl (hdep ⟨5, .guard⟩ (by simp) rfl)).trans rfl) ?_ rfl (Below.refl _ _)
          first | (go_simp; done) | rfl | (simp [go_sem, *]; done)
        refine G.stepsL_cons (fun a u hc hdd hd hk hdep => ?_) ?_
        ·
          have d35 : (a.tmps[35]?).getD undef = (.bool true) := hdep ⟨5, .data⟩ (by simp) rfl
          have d43 : (a.tmps[43]?).getD undef = (.bool true) := hdep ⟨13, .data⟩ (by simp) rfl
          refine G.step_val KC KD hc hdd rfl (.bool true) u (G.wanted_plain rfl) ?_ rfl (Below.refl _ _)
          first | (go_simp; done) | rfl | (simp [go_sem, *]; done)
        refine G.stepsL_cons (fun a u hc hdd hd hk hdep => ?_) ?_
        ·
          have d44 : (a.tmps[44]?).getD undef = (.bool true) := hdep ⟨14, .data⟩ (by simp) rfl
          refine G.step_val KC KD hc hdd rfl (.bool true) u (G.wanted_plain rfl) ?_ rfl (Below.refl _ _)
          first | (go_simp; done) | rfl | (simp [go_sem, *]; done)
        exact G.stepsL_nil
      intro vs' wN hN hh
      have eL : vs' 15 = .bool true := by
        obtain ⟨-, -, -, -, -, -, -, -, -, -, -, -, -, -, -, eX, -⟩ := hh
        exact eX
      clear hh
      have hBN := hN.2.2.2.2.2.2.2.2
      clear hN base
      set_option maxRecDepth 100000 in simp only [putAll, Act.put, List.setIfInBounds_toArray, List.set_cons_zero, List.set_cons_succ, eL]
      clear eL
      go_wp2
      go_ret
      exact ⟨rfl, hBN⟩

theorem laid_met (os : Os) (args : Array Value) : laidMetH Tryz.prog Rows.eventLinesRow.laid ((World.laidAll Tryz.prog os Rows.eventLinesRow.laid).forCall (fun _ _ => 0) ⟨#[], args, []⟩).memory := by
  rw [MakeChecks.laidMetH_plain _ _ _ (by kernel_rfl)]
  exact laidMet_laidAll _ (by kernel_rfl) (by kernel_rfl)
def tzTab : List Int := [0, 1, 56, 2, 57, 49, 28, 3, 61, 58, 42, 50, 38, 29, 17, 4, 62, 47, 59, 36, 45, 43, 51, 22, 53, 39, 33, 30, 24, 18, 12, 5, 63, 55, 48, 27, 60, 41, 37, 16, 46, 35, 44, 21, 52, 32, 23, 11, 54, 26, 40, 15, 34, 20, 31, 10, 25, 14, 19, 9, 13, 8, 7, 6]
theorem gTz : Tryz.prog.globalNamed "math/bits.deBruijn64tab" = some 6 := by kernel_rfl
theorem tTz : (Tryz.prog.globals[6]?).map (·.type) = some 167 := by kernel_rfl
theorem of_laid {W : World} (h : laidMetH Tryz.prog Rows.eventLinesRow.laid W) : TzCell W := by
  rw [MakeChecks.laidMetH_plain _ _ _ (by kernel_rfl)] at h
  have h2 : laidMet Tryz.prog (("math/bits.deBruijn64tab", Lib.tabData .u8 tzTab) :: Rows.eventLinesRow.laid.drop 2) W := h.tail
  have h3 := Lib.tabIs_of_head gTz tTz Tryz.underlying167 Tryz.underlying5 (by kernel_rfl) (by kernel_rfl) h2
  unfold Lib.TabIs at h3
  have h4 := World.var?_cell gTz h3 15
  exact h4.trans (by kernel_rfl)

theorem gPow : Tryz.prog.globalNamed "internal/strconv.uint64pow10" = some 0 := by kernel_rfl
theorem tPow : (Tryz.prog.globals[0]?).map (·.type) = some 128 := by kernel_rfl
theorem of_laid3 {W : World} (h : laidMetH Tryz.prog Rows.eventLinesRow.laid W) : Lib.TabIs Tryz.prog W "internal/strconv.uint64pow10" .u64 Lib.pow10Tab := by
  rw [MakeChecks.laidMetH_plain _ _ _ (by kernel_rfl)] at h
  have h2 : laidMet Tryz.prog (("internal/strconv.uint64pow10", Lib.tabData .u64 Lib.pow10Tab) :: Rows.eventLinesRow.laid.drop 3) W := h.tail.tail
  exact Lib.tabIs_of_head gPow tPow Tryz.underlying128 Tryz.underlying59 (by kernel_rfl) (by kernel_rfl) h2
theorem gErr : Tryz.prog.globalNamed "strconv.ErrRange" = some 4 := by kernel_rfl
theorem tErr : (Tryz.prog.globals[4]?).map (·.type) = some 91 := by kernel_rfl
theorem gSyn : Tryz.prog.globalNamed "strconv.ErrSyntax" = some 3 := by kernel_rfl
theorem tSyn : (Tryz.prog.globals[3]?).map (·.type) = some 91 := by kernel_rfl
theorem star : "*" ++ "errors.errorString" = "*errors.errorString" := by decide
theorem rowErr (u : TypeId) (h : Tryz.prog.typeName? 3 u = some "*errors.errorString") : u = 169 :=
  typeName_ptr_named (nm := "errors.errorString") (by rw [star]; kernel_rfl) (by kernel_rfl) (by decide) u (by rw [star]; exact h)
theorem cellsErr : Tryz.prog.cellsOf 171 = 1 := by kernel_rfl
theorem cellsStr : Tryz.prog.cellsOf 9 = 1 := by kernel_rfl
theorem of_laid2 {W : World} (h : laidMetH Tryz.prog Rows.eventLinesRow.laid W) : ErrCells W := by
  rw [MakeChecks.laidMetH_plain _ _ _ (by kernel_rfl)] at h
  have h2 : laidMet Tryz.prog (("strconv.ErrRange", .iface "*errors.errorString" (.ptr (.agg [.lit (.string [118, 97, 108, 117, 101, 32, 111, 117, 116, 32, 111, 102, 32, 114, 97, 110, 103, 101])]))) :: Rows.eventLinesRow.laid.drop 4) W := h.tail.tail.tail
  have h3 : laidMet Tryz.prog (("strconv.ErrSyntax", .iface "*errors.errorString" (.ptr (.agg [.lit (.string [105, 110, 118, 97, 108, 105, 100, 32, 115, 121, 110, 116, 97, 120])]))) :: Rows.eventLinesRow.laid.drop 5) W := h.tail.tail.tail.tail
  obtain ⟨a, s, hv, _, _, _⟩ := laid_sentinel h2 gErr tErr Tryz.underlying91 rowErr Tryz.underlying169 Tryz.underlying171 rfl rfl Tryz.underlying9 cellsErr cellsStr
  obtain ⟨a', s', hv', _, _, _⟩ := laid_sentinel h3 gSyn tSyn Tryz.underlying91 rowErr Tryz.underlying169 Tryz.underlying171 rfl rfl Tryz.underlying9 cellsErr cellsStr
  exact ⟨⟨_, by simpa using World.var?_cell gSyn hv' 0, .inr ⟨_, _, rfl⟩⟩, ⟨_, by simpa using World.var?_cell gErr hv 0, .inr ⟨_, _, rfl⟩⟩⟩

set_option maxRecDepth 100000 in
theorem lifted (os : Os) (started : os.Started) (H : Type) (enc : TypeId × Value → H) :
    ReturnsInHanded {} Tryz.checked os 3 .any (fun w args => (Rows.eventLinesSpec.pre enc Tryz.prog Tryz.f3 [] false w args ∧ laidMetH Tryz.prog Rows.eventLinesRow.laid w) ∧ sizedMet enc Tryz.prog Tryz.f3 (OpenSpec.ofChange Rows.eventLinesSpec) false w args) (Rows.eventLinesSpec.post enc Tryz.prog Tryz.f3 false true false false) := by
  refine returnsInHanded_of_change_and (C := Tryz.checked) (X := fun w _ => laidMetH Tryz.prog Rows.eventLinesRow.laid w) (fun _ _ _ hh h => h.of_heap hh) own started (by kernel_rfl) Tryz.func3
    (ChangeSpec.witness_shaped (enc := enc) (C := Tryz.checked) (os := os) (X := fun w _ => laidMetH Tryz.prog Rows.eventLinesRow.laid w) false (World.laidAll Tryz.prog os Rows.eventLinesRow.laid) #[.agg #[.slice none 0 0, .slice none 0 0], .agg #[.int .i64 0, .int .i64 0, .slice none 0 0]] 8 (World.laidAll_os _ _ _) (World.shaped_of_ZipB (by kernel_rfl) (by kernel_rfl)) (by kernel_rfl) (by kernel_rfl) (by kernel_rfl) (laid_met os _)) ?_
  intro W base args ds gs before hval0 hW _ hsz0 hL _
  have hPow := of_laid3 hL
  have hTab := of_laid hL
  have hErr := of_laid2 hL
  clear hL
  have hsz : (DataW.weightsEach Tryz.prog (Tryz.f3.params.toList ++ Rows.eventLinesSpec.plain.varTypes Tryz.prog) (ds ++ gs)).all (· ≤ reachBytes) = true := hsz0
  clear hsz0
  have hval : ∀ (j : Nat) t v, Tryz.f3.params[j]? = some t → args[j]? = some v → Value.okWide Tryz.prog W .any base t v := hval0
  have hW' := hW
  obtain ⟨p, q, hA0, hV, rfl, hfz, hnd⟩ := hW
  have hA : DataW.TrodAll enc Tryz.prog W 0 (fun _ => true) true Tryz.f3.params.toList args.toList ds p := hA0
  rw [Tryz.params3] at hA hval hsz
  obtain ⟨v0, vs0, d0, ds0, p0, q0, hargs, rfl, rfl, h0, r0⟩ := trodAll_cons hA
  obtain ⟨v1, vs1, d1, ds1, p1, q1, rfl, rfl, rfl, h1, r1⟩ := trodAll_cons r0
  obtain ⟨rfl, rfl, rfl⟩ := trodAll_nil r1
  obtain rfl : args = #[v0, v1] := by cases args; simp_all
  obtain ⟨rfl, rfl⟩ := trodVars_none hV
  have kk0 := h0
  have lt0 : ∀ x ∈ p0, x.block < W.heap.size := by obtain ⟨m, hm⟩ := kk0; exact DataW.trod_lt m _ _ _ hm
  have kk1 := h1
  have lt1 : ∀ x ∈ p1, x.block < W.heap.size := by obtain ⟨m, hm⟩ := kk1; exact DataW.trod_lt m _ _ _ hm
  obtain ⟨x0, y0, t0, s0, rfl, w0, u0, pp0, qq0, rr0⟩ := open_schema (hval 0 25 v0 rfl rfl) h0 (wb_each hsz (j := 0) (t := 25) rfl rfl)
  obtain ⟨ty1, tm1, B1, c1, z1, rfl, w1, ss1⟩ := open_event (hval 1 28 v1 rfl rfl) h1 (wb_each hsz (j := 1) (t := 28) rfl rfl)
  clear hA0 hval0
  refine (walk W hPow hTab hErr x0 y0 t0 s0 w0 u0 pp0 qq0 rr0 ty1 tm1 B1 c1 z1 w1 ss1).mono fun e W' ⟨he, bel⟩ => ?_
  subst he
  exact ⟨_, rfl, _, _, _, [], _, [], hW', trodAll_mk1 (shut_bool Tryz.underlying4 _), (trodAll_cons_mk (Below.trod laidOut (by kernel_rfl) (of_decide_eq_true (by kernel_rfl)) kk0 bel lt0) (trodAll_cons_mk (Below.trod laidOut (by kernel_rfl) (of_decide_eq_true (by kernel_rfl)) kk1 bel lt1) trodAll_mk0)), rfl, bel.frame _, fun h => by cases h⟩

theorem over : Rows.eventLinesRow.holds Tryz.pinned (OpenSpec.ofChange Rows.eventLinesSpec) :=
  OpenClaim.holds_of_wide 3 Tryz.f3 rfl rfl rfl rfl rfl rfl rfl ⟨rfl, rfl, rfl, rfl, rfl⟩ rfl rfl rfl rfl rfl (by kernel_rfl) Tryz.func3 (by kernel_rfl)
    (of_decide_eq_true (by kernel_rfl)) (by unfold Func.isWrapper; first | (rw [if_pos (by decide +kernel)]; kernel_rfl) | (rw [if_neg (by decide +kernel)]; exact ⟨rfl, rfl⟩))
    (fun os started H enc _ => lifted os started H enc)

/-- the statement -/
theorem proved : Rows.EventLinesCardSaid :=
  Claim7.holds_tied_plain_at .later [] [.data, .data, .data, .sentinel, .sentinel] true (true, "74a99bdeb8becfb3f12fdeb60655eeca1110f6640b7dce38b08167f32ff96d88") true
    over (fun _ h => by cases h) (by kernel_rfl) (fun _ h => by cases h) eventLines_row_tie rfl ⟨rfl, rfl⟩ (by kernel_rfl) rfl
    (fun f fn hf hfn => by
      obtain rfl : f = 3 := Option.some.inj ((show Tryz.prog.funcNamed "auspice/auspicelaw04.EventLines" = some 3 by kernel_rfl).symm.trans hf) |>.symm
      obtain rfl : fn = Tryz.f3 := (Option.some.inj (Tryz.func3.symm.trans hfn)).symm
      exact ⟨by kernel_rfl, fun j t ht => by
        rw [Tryz.params3] at ht
        have hm : t ∈ [25, 28] := by simpa using Array.mem_of_getElem? ht
        have hall : ([25, 28].all fun u => !Tryz.prog.wantsStandIn u) = true := by kernel_rfl
        exact (show Tryz.prog.wantsStandIn t = false by simpa using List.all_eq_true.1 hall t hm)⟩)
    (by kernel_rfl)
#print axioms proved
end Go.Proofs.YtkmlbifhpkfinaaGreatDoor.eventLines
