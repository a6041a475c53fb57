/- EventParses: of any schema and any line: it is read as the event that the document reads, or as none, where the document reads none (the second form: by size). -/
import Derived.Test.YtkmlbifhpkfinaaGreatDoorRows
import Derived.Test.YtkmlbifhpkfinaaGreatDoorCards
import Derived.Test.YtkmlbifhpkfinaaGreatDoorTie
import Derived.LaidMore
import Derived.Deep.DeepHandedRow
import Derived.Lay
import Derived.LaidLaws
import Derived.ChangeVars
import Derived.SevenTiedAt
import Derived.Stop.Joined
import Derived.Stop.LaidErr
import Derived.Lib.LaidTab
import Derived.Lib.ItoaNum
import Derived.WalkKit
import Derived.ProofKit
import Derived.OpenShut
import Derived.ShutString
import Derived.ChangeOld
import Derived.Below
import Derived.Lib.SmallJoins
import Derived.SizedLaws
import Derived.Test.YtkmlbifhpkfinaaGreatDoorLnF
import Derived.Test.YtkmlbifhpkfinaaGreatDoorLnG
import Derived.Test.YtkmlbifhpkfinaaGreatDoorLnM
import Derived.Test.YtkmlbifhpkfinaaGreatDoorEvA
import Derived.Test.YtkmlbifhpkfinaaGreatDoorSchA
namespace Go.Proofs.YtkmlbifhpkfinaaGreatDoor.eventParses
open Go.ChangeShapes Go.WideShapes Go.ChangeAt Go.RowKit Go.Joins
set_option linter.unusedVariables false
set_option linter.unusedSimpArgs false

theorem own : ownKnob Tryz.prog.godebug = none := by kernel_rfl
theorem laidOut : laidOutB Tryz.prog = true := by kernel_rfl

set_option maxHeartbeats 8000000 in
set_option maxRecDepth 100000 in
theorem walk (w : World) (htab : Lib.TabIs Tryz.prog w "internal/strconv.uint64pow10" .u64 Lib.pow10Tab) (hT : TzCell w) (hE : ErrCells w) (x0 y0 : Value) (t0 : List ST) (s0 : List ByteArray) (w0 : TypesIn w x0 t0) (u0 : SymsIn w y0 s0) (p0 : t0.length * 40 ≤ 140737488351232) (q0 : ∀ t ∈ t0, t.2.length * 24 ≤ 140737488351232) (r0 : s0.length * 16 ≤ 140737488351232) (s1 : ByteArray) (w1 : s1.size ≤ 1048576) :
    Calls Tryz.prog 4 #[.agg #[x0, y0], .string s1] w fun e w' => e = .returned (.bool true) ∧ Below w.heap.size w w' := by
  go_enter Tryz.func4, Tryz.ntmps4
  go_wp2_with fail
  have hu := m1 w (.cells #[x0, y0] 25)
  have k0 := Blk.made w 25 #[x0, y0]
  have W0 := w0.later hu
  have U0 := u0.later hu
  have tab := Lib.hid (Lib.tabBelow_of_tabIs htab)
  have hTu := Lib.hid (hT.later hu)
  have hEu := Lib.hid (hE.later hu)
  clear hT hE htab w0 u0
  generalize w.alloc (.cells #[x0, y0] 25) = u at *
  refine (sto_any x0 y0 t0 s0 u W0 U0 p0 q0 r0).mono ?_; rintro e wa ⟨v1, v2, rfl, hTy, hSy, hba⟩
  have hBa := mmore hu hba
  obtain ⟨A, cap, rfl, hA⟩ := hTy.slice
  obtain ⟨C, capC, rfl, hc1, hc2, hS⟩ := hSy.slice2
  obtain ⟨RA, rcap, rfl, hRA⟩ := W0.slice
  obtain ⟨RC, rcapC, rfl, hrc1, hrc2, hRS⟩ := U0.slice2
  have K0 := k0.kept hba
  have RAa := Lib.hid (hRA.later hba)
  have RSa := Lib.hid (hRS.later hba)
  have hTa := Lib.hid (hTu.out.later hba)
  have hEa := Lib.hid (hEu.out.later hba)
  have PA := fun w h1 h2 h3 h4 h5 => evparse_any A C cap capC t0 s0 s1 w h1 h2 p0 q0 (by omega) hc1 hc2 (by omega) h3 h4 h5
  have RP := fun w h1 h2 => rparse_any RA RC rcap rcapC t0 s0 s1 w h1 h2 p0 q0 (by omega) hrc1 hrc2 w1
  replace PA := Lib.hid PA
  replace RP := Lib.hid RP
  have TABA := tab.out _ hBa
  clear hTu hEu W0 U0 hTy hSy k0 hRA hRS
  go_wp2_with fail
  refine (PA.out _ hA hS hTa.out hEa.out TABA).mono ?_
  clear TABA
  rintro e wb hPB
  have hbb : Below wa.heap.size wa wb := by rcases hPB with ⟨_, _, _, _, _, _, _, _, _, h⟩ | ⟨_, _, h⟩ <;> exact h
  have hBb := mmore hBa hbb
  have K1 := K0.kept hbb
  have RAb := Lib.hid (RAa.out.later hbb)
  have RSb := Lib.hid (RSa.out.later hbb)
  clear hTa hEa RAa RSa hA hS K0 hba PA hBa
  rcases hPB with ⟨ty, tm, B, capB, vs, rfl, ⟨hIs, hOne⟩, hR, hl, -⟩ | ⟨rfl, hno, -⟩
  · go_upto_region 2 with (fail)
    have hwc := m1 wb (.cells #[.int .i64 ty, .int .i64 tm, .slice B vs.length capB] 36)
    have Xc := Blk.made wb 36 #[.int .i64 ty, .int .i64 tm, .slice B vs.length capB]
    have hBc := mmore hBb hwc
    have hRc := Lib.hid (hR.later hwc)
    have K2 := K1.kept hwc
    have RAc := Lib.hid (RAb.out.later hwc)
    have RSc := Lib.hid (RSb.out.later hwc)
    clear hR K1 RAb RSb hBb hbb
    generalize wb.heap.size = g5 at *
    generalize wb.alloc (.cells #[.int .i64 ty, .int .i64 tm, .slice B vs.length capB] 36) = wc at *
    clear hwc
    have d0 : wc.cell? ⟨w.heap.size, 0, none⟩ = some (.slice RA t0.length rcap) := K2.cell 0
    have d1 : wc.cell? ⟨w.heap.size, 1, none⟩ = some (.slice RC s0.length rcapC) := K2.cell 1
    go_wp2_with fail
    refine (RP.out _ RAc.out RSc.out).mono ?_
    rintro e wd (⟨ty', tm', B', capB', vs', rfl, ⟨hIs', -⟩, hR', hl', hbd⟩ | ⟨rfl, hno, -⟩)
    · obtain ⟨e1, e2, e3⟩ := hOne _ _ _ hIs'
      subst e1 e2 e3
      have hBd := mmore hBc hbd
      have Xd := Xc.kept hbd
      have hRd := hRc.out.later hbd
      clear hIs hIs' hOne Xc hRc K2 RAc RSc RP d0 d1 hbd hBc
      go_upto_region 3 with (fail)
      have hwe := m1 wd (.cells #[.int .i64 ty, .int .i64 tm, .slice B' vs.length capB'] 28)
      have Ye := Blk.made wd 28 #[.int .i64 ty, .int .i64 tm, .slice B' vs.length capB']
      have Xe := Xd.kept hwe
      have hBe := mmore hBd hwe
      have hRe := Lib.hid (hRd.later hwe)
      have hRe' := Lib.hid (hR'.later hwe)
      clear hR' hRd Xd hBd hwe
      generalize wd.heap.size = g7 at *
      generalize wd.alloc (.cells #[.int .i64 ty, .int .i64 tm, .slice B' vs.length capB'] 28) = we at *
      have drw := (Below.refl we.heap.size we).drew
      have TABE := tab.out _ (hBe.trans (drw.mono hBe.size))
      have AW := fun w h => evawake_any w h
      have OF := fun w h => evof_any B capB ty tm vs w h hl
      have SA := fun B'' cap'' w h h2 => evsame_any B'' B' cap'' capB' ty tm ty tm vs vs w h h2 hl hl
      replace AW := Lib.hid AW
      replace OF := Lib.hid OF
      replace SA := Lib.hid SA
      replace TABE := Lib.hid TABE
      replace drw := Lib.hid drw
      go_region_law (first | (go_simp; go_at_call 9; refine (AW.out _ TABE.out).mono ?_; rintro e wf ⟨rfl, hbf⟩; have hbf' := mmore drw.out hbf; have a0 : wf.cell? ⟨g5, 0, none⟩ = some (.int .i64 ty) := (Xe.kept hbf').cell 0; have a1 : wf.cell? ⟨g5, 1, none⟩ = some (.int .i64 tm) := (Xe.kept hbf').cell 1; have a2 : wf.cell? ⟨g5, 2, none⟩ = some (.slice B vs.length capB) := (Xe.kept hbf').cell 2; have b0 : wf.cell? ⟨g7, 0, none⟩ = some (.int .i64 ty) := (Ye.kept hbf').cell 0; have b1 : wf.cell? ⟨g7, 1, none⟩ = some (.int .i64 tm) := (Ye.kept hbf').cell 1; have b2 : wf.cell? ⟨g7, 2, none⟩ = some (.slice B' vs.length capB') := (Ye.kept hbf').cell 2) | ((try go_simp); go_at_call 14; refine (OF.out _ (hRe.out.later hbf')).mono ?_; rintro e wg ⟨B2, cap2, rfl, hR2, hbg⟩; have hbg' := mmore hbf' hbg; have b0' := cell_later hbg b0; have b1' := cell_later hbg b1; have b2' := cell_later hbg b2) | ((try go_simp); go_at_call 13; refine (SA.out B2 cap2 _ hR2 (hRe'.out.later hbg')).mono ?_; rintro e wh ⟨q2, rfl, hq2, hbh⟩; obtain rfl : q2 = true := hq2.2 (by simp)))
      all_goals clear a0 a1 a2 b0 b1 b2 b0' b1' b2'
      all_goals go_wp2
      all_goals go_ret
      all_goals exact ⟨rfl, mmore hBe (mmore hbg' hbh)⟩
    · exact absurd hIs (hno _ _ _)
  · go_upto_region 2 with (fail)
    have hwc := m1 wb (.cells #[.int .i64 0, .int .i64 0, .slice none 0 0] 36)
    have Xc := Blk.made wb 36 #[.int .i64 0, .int .i64 0, .slice none 0 0]
    have hBc := mmore hBb hwc
    have K2 := K1.kept hwc
    have RAc := Lib.hid (RAb.out.later hwc)
    have RSc := Lib.hid (RSb.out.later hwc)
    clear K1 RAb RSb hBb hbb
    generalize wb.heap.size = g5 at *
    generalize wb.alloc (.cells #[.int .i64 0, .int .i64 0, .slice none 0 0] 36) = wc at *
    clear hwc
    have d0 : wc.cell? ⟨w.heap.size, 0, none⟩ = some (.slice RA t0.length rcap) := K2.cell 0
    have d1 : wc.cell? ⟨w.heap.size, 1, none⟩ = some (.slice RC s0.length rcapC) := K2.cell 1
    go_wp2_with fail
    refine (RP.out _ RAc.out RSc.out).mono ?_
    rintro e wd (⟨ty', tm', B', capB', vs', rfl, ⟨hIs', -⟩, -, -, -⟩ | ⟨rfl, -, hbd⟩)
    · exact absurd hIs' (hno _ _ _)
    · have hBd := mmore hBc hbd
      have Xd := Xc.kept hbd
      clear hno Xc K2 RAc RSc RP d0 d1 hbd hBc
      go_upto_region 3 with (fail)
      have hwe := m1 wd (.cells #[.int .i64 0, .int .i64 0, .slice none 0 0] 28)
      have Ye := Blk.made wd 28 #[.int .i64 0, .int .i64 0, .slice none 0 0]
      have Xe := Xd.kept hwe
      have hBe := mmore hBd hwe
      clear Xd hBd hwe
      generalize wd.heap.size = g7 at *
      generalize wd.alloc (.cells #[.int .i64 0, .int .i64 0, .slice none 0 0] 28) = we at *
      have drw := (Below.refl we.heap.size we).drew
      have TABE := tab.out _ (hBe.trans (drw.mono hBe.size))
      have AW := fun w h => evawake_any w h
      have OF := fun w => evof_any none 0 0 0 [] w ⟨rfl, by simp, fun h => absurd h (by decide)⟩ (by decide)
      have SA := fun B'' cap'' w h => evsame_any B'' none cap'' 0 0 0 0 0 [] [] w h ⟨rfl, by simp, fun h => absurd h (by decide)⟩ (by decide) (by decide)
      replace AW := Lib.hid AW
      replace OF := Lib.hid OF
      replace SA := Lib.hid SA
      replace TABE := Lib.hid TABE
      replace drw := Lib.hid drw
      go_region_law (first | (go_simp; go_at_call 9; refine (AW.out _ TABE.out).mono ?_; rintro e wf ⟨rfl, hbf⟩; have hbf' := mmore drw.out hbf; have a0 : wf.cell? ⟨g5, 0, none⟩ = some (.int .i64 0) := (Xe.kept hbf').cell 0; have a1 : wf.cell? ⟨g5, 1, none⟩ = some (.int .i64 0) := (Xe.kept hbf').cell 1; have a2 : wf.cell? ⟨g5, 2, none⟩ = some (.slice none 0 0) := (Xe.kept hbf').cell 2; have b0 : wf.cell? ⟨g7, 0, none⟩ = some (.int .i64 0) := (Ye.kept hbf').cell 0; have b1 : wf.cell? ⟨g7, 1, none⟩ = some (.int .i64 0) := (Ye.kept hbf').cell 1; have b2 : wf.cell? ⟨g7, 2, none⟩ = some (.slice none 0 0) := (Ye.kept hbf').cell 2) | ((try go_simp); go_at_call 14; refine (OF.out _).mono ?_; rintro e wg ⟨B2, cap2, rfl, hR2, hbg⟩; have hbg' := mmore hbf' hbg; have b0' := cell_later hbg b0; have b1' := cell_later hbg b1; have b2' := cell_later hbg b2) | ((try go_simp); go_at_call 13; refine (SA.out B2 cap2 _ hR2).mono ?_; rintro e wh ⟨q2, rfl, hq2, hbh⟩; obtain rfl : q2 = true := hq2.2 (by simp)))
      all_goals clear a0 a1 a2 b0 b1 b2 b0' b1' b2'
      all_goals go_wp2
      all_goals go_ret
      all_goals exact ⟨rfl, mmore hBe (mmore hbg' hbh)⟩

theorem laid_met (os : Os) (args : Array Value) : laidMetH Tryz.prog Rows.eventParsesUptoRow.laid ((World.laidAll Tryz.prog os Rows.eventParsesUptoRow.laid).forCall (fun _ _ => 0) ⟨#[], args, []⟩).memory := by
  rw [MakeChecks.laidMetH_plain _ _ _ (by kernel_rfl)]
  exact laidMet_laidAll _ (by kernel_rfl) (by kernel_rfl)
def tzTab : List Int := [0, 1, 56, 2, 57, 49, 28, 3, 61, 58, 42, 50, 38, 29, 17, 4, 62, 47, 59, 36, 45, 43, 51, 22, 53, 39, 33, 30, 24, 18, 12, 5, 63, 55, 48, 27, 60, 41, 37, 16, 46, 35, 44, 21, 52, 32, 23, 11, 54, 26, 40, 15, 34, 20, 31, 10, 25, 14, 19, 9, 13, 8, 7, 6]
theorem gTz : Tryz.prog.globalNamed "math/bits.deBruijn64tab" = some 6 := by kernel_rfl
theorem tTz : (Tryz.prog.globals[6]?).map (·.type) = some 167 := by kernel_rfl
theorem of_laid {W : World} (h : laidMetH Tryz.prog Rows.eventParsesUptoRow.laid W) : TzCell W := by
  rw [MakeChecks.laidMetH_plain _ _ _ (by kernel_rfl)] at h
  have h2 : laidMet Tryz.prog (("math/bits.deBruijn64tab", Lib.tabData .u8 tzTab) :: Rows.eventParsesUptoRow.laid.drop 2) W := h.tail
  have h3 := Lib.tabIs_of_head gTz tTz Tryz.underlying167 Tryz.underlying5 (by kernel_rfl) (by kernel_rfl) h2
  unfold Lib.TabIs at h3
  have h4 := World.var?_cell gTz h3 15
  exact h4.trans (by kernel_rfl)

theorem gPow : Tryz.prog.globalNamed "internal/strconv.uint64pow10" = some 0 := by kernel_rfl
theorem tPow : (Tryz.prog.globals[0]?).map (·.type) = some 128 := by kernel_rfl
theorem of_laid3 {W : World} (h : laidMetH Tryz.prog Rows.eventParsesUptoRow.laid W) : Lib.TabIs Tryz.prog W "internal/strconv.uint64pow10" .u64 Lib.pow10Tab := by
  rw [MakeChecks.laidMetH_plain _ _ _ (by kernel_rfl)] at h
  have h2 : laidMet Tryz.prog (("internal/strconv.uint64pow10", Lib.tabData .u64 Lib.pow10Tab) :: Rows.eventParsesUptoRow.laid.drop 3) W := h.tail.tail
  exact Lib.tabIs_of_head gPow tPow Tryz.underlying128 Tryz.underlying59 (by kernel_rfl) (by kernel_rfl) h2
theorem gErr : Tryz.prog.globalNamed "strconv.ErrRange" = some 4 := by kernel_rfl
theorem tErr : (Tryz.prog.globals[4]?).map (·.type) = some 91 := by kernel_rfl
theorem gSyn : Tryz.prog.globalNamed "strconv.ErrSyntax" = some 3 := by kernel_rfl
theorem tSyn : (Tryz.prog.globals[3]?).map (·.type) = some 91 := by kernel_rfl
theorem star : "*" ++ "errors.errorString" = "*errors.errorString" := by decide
theorem rowErr (u : TypeId) (h : Tryz.prog.typeName? 3 u = some "*errors.errorString") : u = 169 :=
  typeName_ptr_named (nm := "errors.errorString") (by rw [star]; kernel_rfl) (by kernel_rfl) (by decide) u (by rw [star]; exact h)
theorem cellsErr : Tryz.prog.cellsOf 171 = 1 := by kernel_rfl
theorem cellsStr : Tryz.prog.cellsOf 9 = 1 := by kernel_rfl
theorem of_laid2 {W : World} (h : laidMetH Tryz.prog Rows.eventParsesUptoRow.laid W) : ErrCells W := by
  rw [MakeChecks.laidMetH_plain _ _ _ (by kernel_rfl)] at h
  have h2 : laidMet Tryz.prog (("strconv.ErrRange", .iface "*errors.errorString" (.ptr (.agg [.lit (.string [118, 97, 108, 117, 101, 32, 111, 117, 116, 32, 111, 102, 32, 114, 97, 110, 103, 101])]))) :: Rows.eventParsesUptoRow.laid.drop 4) W := h.tail.tail.tail
  have h3 : laidMet Tryz.prog (("strconv.ErrSyntax", .iface "*errors.errorString" (.ptr (.agg [.lit (.string [105, 110, 118, 97, 108, 105, 100, 32, 115, 121, 110, 116, 97, 120])]))) :: Rows.eventParsesUptoRow.laid.drop 5) W := h.tail.tail.tail.tail
  obtain ⟨a, s, hv, _, _, _⟩ := laid_sentinel h2 gErr tErr Tryz.underlying91 rowErr Tryz.underlying169 Tryz.underlying171 rfl rfl Tryz.underlying9 cellsErr cellsStr
  obtain ⟨a', s', hv', _, _, _⟩ := laid_sentinel h3 gSyn tSyn Tryz.underlying91 rowErr Tryz.underlying169 Tryz.underlying171 rfl rfl Tryz.underlying9 cellsErr cellsStr
  exact ⟨⟨_, by simpa using World.var?_cell gSyn hv' 0, .inr ⟨_, _, rfl⟩⟩, ⟨_, by simpa using World.var?_cell gErr hv 0, .inr ⟨_, _, rfl⟩⟩⟩

set_option maxRecDepth 100000 in
theorem contract (H : Type) (enc : TypeId × Value → H) (W : World) (base : Nat) (args : Array Value) (ds gs : List (DataW H)) (before : List MemPlace)
    (hval0 : ∀ (j : Nat) t v, Tryz.f4.params[j]? = some t → args[j]? = some v → Value.okWide Tryz.prog W .any base t v)
    (hW : DataW.Whole enc Tryz.prog Tryz.f4.params.toList Rows.eventParsesSpec.vars false W args.toList ds gs before) (hk0 : Rows.uptoSmall H (ds ++ gs) = true)
    (hsz0 : (DataW.weightsEach Tryz.prog (Tryz.f4.params.toList ++ Rows.eventParsesSpec.plain.varTypes Tryz.prog) (ds ++ gs)).all (· ≤ reachBytes) = true)
    (hL : laidMetH Tryz.prog Rows.eventParsesUptoRow.laid W) :
    Calls Tryz.prog 4 args W fun e W' => ∃ v, e = .returned v ∧ Rows.eventParsesSpec.post enc Tryz.prog Tryz.f4 false true false false W args v W' := by
  have hPow := of_laid3 hL
  have hTab := of_laid hL
  have hErr := of_laid2 hL
  clear hL
  have hsz : (DataW.weightsEach Tryz.prog (Tryz.f4.params.toList ++ Rows.eventParsesSpec.plain.varTypes Tryz.prog) (ds ++ gs)).all (· ≤ reachBytes) = true := hsz0
  clear hsz0
  have hval : ∀ (j : Nat) t v, Tryz.f4.params[j]? = some t → args[j]? = some v → Value.okWide Tryz.prog W .any base t v := hval0
  have hW' := hW
  obtain ⟨p, q, hA0, hV, rfl, hfz, hnd⟩ := hW
  have hA : DataW.TrodAll enc Tryz.prog W 0 (fun _ => true) true Tryz.f4.params.toList args.toList ds p := hA0
  rw [Tryz.params4] at hA hval hsz
  obtain ⟨v0, vs0, d0, ds0, p0, q0, hargs, rfl, rfl, h0, r0⟩ := trodAll_cons hA
  obtain ⟨v1, vs1, d1, ds1, p1, q1, rfl, rfl, rfl, h1, r1⟩ := trodAll_cons r0
  obtain ⟨rfl, rfl, rfl⟩ := trodAll_nil r1
  obtain rfl : args = #[v0, v1] := by cases args; simp_all
  obtain ⟨rfl, rfl⟩ := trodVars_none hV
  have kk0 := h0
  have lt0 : ∀ x ∈ p0, x.block < W.heap.size := by obtain ⟨m, hm⟩ := kk0; exact DataW.trod_lt m _ _ _ hm
  have kk1 := h1
  have lt1 : ∀ x ∈ p1, x.block < W.heap.size := by obtain ⟨m, hm⟩ := kk1; exact DataW.trod_lt m _ _ _ hm
  have hk1 := hk0
  simp only [List.append_nil] at hk1
  have hk := of_decide_eq_true hk1
  simp only [Rows.uptoBulkAll] at hk
  clear hk0 hk1
  obtain ⟨x0, y0, t0, s0, rfl, w0, u0, pp0, qq0, rr0⟩ := open_schema (hval 0 25 v0 rfl rfl) h0 (wb_each hsz (j := 0) (t := 25) rfl rfl)
  obtain ⟨s1, rfl, rfl, rfl, w1⟩ := Go.ChangeMaps.open_string Tryz.underlying9 (hval 1 9 v1 rfl rfl) h1
  have z1 : s1.size ≤ 1048576 := by
    simp only [Rows.uptoBulk, Array.length_toList] at hk
    have hz : s1.data.size = s1.size := rfl
    omega
  clear hA0 hval0
  refine (walk W hPow hTab hErr x0 y0 t0 s0 w0 u0 pp0 qq0 rr0 s1 z1).mono fun e W' ⟨he, bel⟩ => ?_
  subst he
  exact ⟨_, rfl, _, _, _, [], _, [], hW', trodAll_mk1 (shut_bool Tryz.underlying4 _), (trodAll_cons_mk (Below.trod laidOut (by kernel_rfl) (of_decide_eq_true (by kernel_rfl)) kk0 bel lt0) (trodAll_cons_mk (Below.trod laidOut (by kernel_rfl) (of_decide_eq_true (by kernel_rfl)) kk1 bel lt1) trodAll_mk0)), rfl, bel.frame _, fun h => by cases h⟩

set_option maxRecDepth 100000 in
theorem reads (os : Os) {H : Type} (enc : TypeId × Value → H) : ∃ x, DataW.whole enc Tryz.prog ((World.laidAll Tryz.prog os Rows.eventParsesUptoRow.laid).forCall (fun _ _ => 0) ⟨#[], #[.agg #[.slice none 0 0, .slice none 0 0], .string ⟨#[]⟩], []⟩).memory Tryz.f4.params.toList Rows.eventParsesSpec.vars false #[(.agg #[.slice none 0 0, .slice none 0 0] : Value), (.string ⟨#[]⟩ : Value)].toList 8 = some ([.agg [.nil, .nil], .lit (.string [])], [], x) :=
  ⟨[], by kernel_rfl⟩
set_option maxRecDepth 100000 in
theorem okw (os : Os) : Input.okWideB Tryz.checked.prog ((World.laidAll Tryz.prog os Rows.eventParsesUptoRow.laid).forCall (fun _ _ => 0) ⟨#[], #[.agg #[.slice none 0 0, .slice none 0 0], .string ⟨#[]⟩], []⟩) 4 ⟨#[], #[.agg #[.slice none 0 0, .slice none 0 0], .string ⟨#[]⟩], []⟩ = true := by kernel_rfl

set_option maxRecDepth 100000 in
theorem lifted (os : Os) (started : os.Started) (H : Type) (enc : TypeId × Value → H) (F : Stop.Interp) :
    ReturnsInHanded {} Tryz.checked os 4 .any ((Rows.OpenSpec.upto Rows.eventParsesSpec).preRow enc Tryz.prog Tryz.f4 Rows.eventParsesUptoRow.domain false Rows.eventParsesUptoRow.laid) (((Rows.OpenSpec.upto Rows.eventParsesSpec).at F).post enc Tryz.prog Tryz.f4 false true false false) := by
  obtain ⟨places, hx⟩ := reads os enc
  refine returnsInHanded_of_row (C := Tryz.checked) (s := Rows.OpenSpec.upto Rows.eventParsesSpec) own started (by kernel_rfl) Tryz.func4
    ⟨World.laidAll Tryz.prog os Rows.eventParsesUptoRow.laid, fun _ _ => 0, ⟨#[], #[.agg #[.slice none 0 0, .slice none 0 0], .string ⟨#[]⟩], []⟩, World.laidAll_os _ _ _, World.shaped_of_ZipB (by kernel_rfl) (by kernel_rfl), (Input.okWide_of_okWideB (base := 0) (okw os)).1, (Input.okWide_of_okWideB (okw os)).2,
      OpenSpec.preRow_of_cond 8 hx (by kernel_rfl) (fun k hk => by cases hk; kernel_rfl) (by kernel_rfl) (laid_met os _), by
        simp only [Assume.holds]
        exact ⟨by simp, by simp, fun _ => Modest.zero, by simp, by simp⟩⟩ ?_
  intro W base args ds gs before hval hW _ hcond hsz hL _ _
  exact contract H enc W base args ds gs before hval hW (hcond _ rfl) hsz hL

theorem over : Rows.eventParsesUptoRow.holds Tryz.pinned (Rows.OpenSpec.upto Rows.eventParsesSpec) :=
  OpenClaim.holds_of_cond 4 Tryz.f4 rfl rfl rfl rfl rfl rfl rfl ⟨rfl, rfl, rfl, rfl, rfl⟩ rfl rfl rfl rfl rfl (by kernel_rfl) Tryz.func4 (by kernel_rfl)
    (of_decide_eq_true (by kernel_rfl)) (by unfold Func.isWrapper; first | (rw [if_pos (by decide +kernel)]; kernel_rfl) | (rw [if_neg (by decide +kernel)]; exact ⟨rfl, rfl⟩))
    (fun os started H enc _ F => by rw [OpenClaim.pre_eq_preRow]; exact lifted os started H enc F)

/-- the statement -/
theorem proved : Rows.EventParsesUptoCardSaid :=
  Claim7.holds_tied_plain_at .later [] [.data, .data, .data, .sentinel, .sentinel] true (true, "74a99bdeb8becfb3f12fdeb60655eeca1110f6640b7dce38b08167f32ff96d88") true
    over (fun _ h => by cases h) (by kernel_rfl) (fun _ h => by cases h) eventParsesUpto_row_tie rfl ⟨rfl, rfl⟩ (by kernel_rfl) rfl
    (fun f fn hf hfn => by
      obtain rfl : f = 4 := Option.some.inj ((show Tryz.prog.funcNamed "auspice/auspicelaw04.EventParses" = some 4 by kernel_rfl).symm.trans hf) |>.symm
      obtain rfl : fn = Tryz.f4 := (Option.some.inj (Tryz.func4.symm.trans hfn)).symm
      exact ⟨by kernel_rfl, fun j t ht => by
        rw [Tryz.params4] at ht
        have hm : t ∈ [25, 9] := by simpa using Array.mem_of_getElem? ht
        have hall : ([25, 9].all fun u => !Tryz.prog.wantsStandIn u) = true := by kernel_rfl
        exact (show Tryz.prog.wantsStandIn t = false by simpa using List.all_eq_true.1 hall t hm)⟩)
    (by kernel_rfl)
#print axioms proved
end Go.Proofs.YtkmlbifhpkfinaaGreatDoor.eventParses
