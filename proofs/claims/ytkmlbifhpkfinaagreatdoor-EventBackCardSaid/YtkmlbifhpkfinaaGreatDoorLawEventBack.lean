/- EventBack: of any schema and any line: what is read of the line is a valid event, whose line it is; what isn't read is told as the event without anything. -/
import Derived.Test.YtkmlbifhpkfinaaGreatDoorRows
import Derived.Test.YtkmlbifhpkfinaaGreatDoorCards
import Derived.Test.YtkmlbifhpkfinaaGreatDoorTie
import Derived.LaidMore
import Derived.Lay
import Derived.LaidLaws
import Derived.ChangeVars
import Derived.SevenTiedAt
import Derived.Stop.Joined
import Derived.Stop.LaidErr
import Derived.Lib.LaidTab
import Derived.Lib.ItoaNum
import Derived.WalkKit
import Derived.ProofKit
import Derived.OpenShut
import Derived.ShutString
import Derived.ChangeOld
import Derived.Below
import Derived.Lib.SmallJoins
import Derived.SizedLaws
import Derived.Test.YtkmlbifhpkfinaaGreatDoorLnF
import Derived.Test.YtkmlbifhpkfinaaGreatDoorLnG
import Derived.Test.YtkmlbifhpkfinaaGreatDoorEvA
import Derived.Test.YtkmlbifhpkfinaaGreatDoorEvW
import Derived.Test.YtkmlbifhpkfinaaGreatDoorSchA
namespace Go.Proofs.YtkmlbifhpkfinaaGreatDoor.eventBack
open Go.ChangeShapes Go.WideShapes Go.ChangeAt Go.RowKit Go.Joins
set_option linter.unusedVariables false
set_option linter.unusedSimpArgs false

theorem own : ownKnob Tryz.prog.godebug = none := by kernel_rfl
theorem laidOut : laidOutB Tryz.prog = true := by kernel_rfl

set_option maxHeartbeats 8000000 in
set_option maxRecDepth 100000 in
theorem walk (w : World) (htab : Lib.TabIs Tryz.prog w "internal/strconv.uint64pow10" .u64 Lib.pow10Tab) (hT : TzCell w) (hE : ErrCells w) (x0 y0 : Value) (t0 : List ST) (s0 : List ByteArray) (w0 : TypesIn w x0 t0) (u0 : SymsIn w y0 s0) (p0 : t0.length * 40 ≤ 140737488351232) (q0 : ∀ t ∈ t0, t.2.length * 24 ≤ 140737488351232) (r0 : s0.length * 16 ≤ 140737488351232) (s1 : ByteArray) (w1 : s1.size ≤ 140737488351232) :
    Calls Tryz.prog 5 #[.agg #[x0, y0], .string s1] w fun e w' => e = .returned (.bool true) ∧ Below w.heap.size w w' := by
  have hE0 := hE
  go_enter Tryz.func5, Tryz.ntmps5
  go_wp2_with fail
  have hu := m1 w (.cells #[x0, y0] 25)
  refine (sto_any x0 y0 t0 s0 _ (w0.later hu) (u0.later hu) p0 q0 r0).mono ?_; rintro e wa ⟨v1, v2, rfl, hTy, hSy, hba⟩
  have hBa := mmore hu hba
  obtain ⟨A, cap, rfl, hA⟩ := hTy.slice
  obtain ⟨C, capC, rfl, hc1, hc2, hS⟩ := hSy.slice2
  have tab := Lib.hid (Lib.tabBelow_of_tabIs htab)
  have hTa := Lib.hid (hT.later hBa)
  have hEa := Lib.hid (hE.later hBa)
  clear hT hE hE0 htab hu hba w0 u0 hTy hSy
  go_upto_region 2 with (fail)
  have hwb := m1 wa (.cells #[.slice A t0.length cap, .slice C s0.length capC] 31)
  have Xb := Blk.made wa 31 #[.slice A t0.length cap, .slice C s0.length capC]
  have hBb := mmore hBa hwb
  have hAb := Lib.hid (hA.later hwb)
  have hSb := Lib.hid (hS.later hwb)
  have hTb := Lib.hid (hTa.out.later hwb)
  have hEb := Lib.hid (hEa.out.later hwb)
  clear hA hS hTa hEa hwb hBa
  generalize wa.heap.size = g5 at *
  generalize wa.alloc (.cells #[.slice A t0.length cap, .slice C s0.length capC] 31) = wb at *
  have d0 : wb.cell? ⟨g5, 0, none⟩ = some (.slice A t0.length cap) := Xb.cell 0
  have d1 : wb.cell? ⟨g5, 1, none⟩ = some (.slice C s0.length capC) := Xb.cell 1
  have PA := fun w h1 h2 h3 h4 h5 => evparse_any A C cap capC t0 s0 s1 w h1 h2 p0 q0 (by omega) hc1 hc2 (by omega) h3 h4 h5
  have VA := fun B capB ty tm vs w h1 h2 h3 h4 => evalid_any A C B cap capC capB t0 s0 ty tm vs w h1 h2 h3 p0 q0 hc1 hc2 h4
  have LA := fun B capB ty tm vs w h1 h2 h3 h4 h5 h6 => line_any A C B cap capC capB t0 s0 ty tm vs w h1 h2 h3 p0 q0 hc1 hc2 h4 h5 h6
  replace PA := Lib.hid PA
  replace VA := Lib.hid VA
  replace LA := Lib.hid LA
  go_wp2_with fail
  refine (PA.out _ hAb.out hSb.out hTb.out hEb.out (tab.out _ hBb)).mono ?_
  rintro e wc (⟨ty, tm, B, capB, vs, rfl, ⟨hIs, _⟩, hR, hl, hbc⟩ | ⟨rfl, hno, hbc⟩)
  · have Xc := Xb.kept hbc
    have hBc := mmore hBb hbc
    have hAc := hAb.out.later hbc
    have hSc := hSb.out.later hbc
    have hTc := hTb.out.later hbc
    clear hAb hSb hTb hEb d0 d1 Xb hBb hbc
    go_upto_region 3 with (fail)
    have hwd := m1 wc (.cells #[.int .i64 ty, .int .i64 tm, .slice B vs.length capB] 36)
    have Ed := Blk.made wc 36 #[.int .i64 ty, .int .i64 tm, .slice B vs.length capB]
    have Xd := Xc.kept hwd
    have hBd := mmore hBc hwd
    have hAd := Lib.hid (hAc.later hwd)
    have hSd := Lib.hid (hSc.later hwd)
    have hTd := Lib.hid (hTc.later hwd)
    have hRd := Lib.hid (hR.later hwd)
    clear hAc hSc hTc hR Xc hBc hwd
    generalize wc.heap.size = g6 at *
    generalize wc.alloc (.cells #[.int .i64 ty, .int .i64 tm, .slice B vs.length capB] 36) = wd at *
    replace hIs := Lib.hid hIs
    go_wp2_with fail
    refine (evawake_any _ (tab.out _ hBd)).mono ?_; rintro e we ⟨rfl, hbe⟩
    have hBe := mmore hBd hbe
    have Ee := Ed.kept hbe
    have Xe := Xd.kept hbe
    have d0 : we.cell? ⟨g5, 0, none⟩ = some (.slice A t0.length cap) := Xe.cell 0
    have d1 : we.cell? ⟨g5, 1, none⟩ = some (.slice C s0.length capC) := Xe.cell 1
    have e0 : we.cell? ⟨g6, 0, none⟩ = some (.int .i64 ty) := Ee.cell 0
    have e1 : we.cell? ⟨g6, 1, none⟩ = some (.int .i64 tm) := Ee.cell 1
    have e2 : we.cell? ⟨g6, 2, none⟩ = some (.slice B vs.length capB) := Ee.cell 2
    go_wp2_with fail
    refine (VA.out B capB ty tm vs _ (hAd.out.later hbe) (hSd.out.later hbe) (hRd.out.later hbe) (by omega)).mono ?_; rintro e wf ⟨q, rfl, hq, hbf⟩
    obtain rfl : q = true := hq.2 hIs.out.1
    clear hq
    have hBf := mmore hBe hbf
    have hdf := mmore hbe hbf
    replace d0 := cell_later hbf d0
    replace d1 := cell_later hbf d1
    replace e0 := cell_later hbf e0
    replace e1 := cell_later hbf e1
    replace e2 := cell_later hbf e2
    go_wp2_with fail
    refine (LA.out B capB ty tm vs _ (hAd.out.later hdf) (hSd.out.later hdf) (hRd.out.later hdf) hl (hTd.out.later hdf) (tab.out _ hBf)).mono ?_; rintro e wg ⟨x, rfl, hx, hbg⟩
    obtain rfl : x = s1 := by rw [hx.1 hIs.out.1]; exact (bl_ext hIs.out.2.2).symm
    have hBg := mmore hBf hbg
    have hxx : (x.toList == x.toList) = true := by simp
    clear hx
    go_wp2
    go_ret
    exact ⟨rfl, hBg⟩
  · have Xc := Xb.kept hbc
    have hBc := mmore hBb hbc
    clear hAb hSb hTb hEb d0 d1 Xb hBb hbc hno PA VA LA
    go_upto_region 3 with (fail)
    have hwd := m1 wc (.cells #[.int .i64 0, .int .i64 0, .slice none 0 0] 36)
    have Ed := Blk.made wc 36 #[.int .i64 0, .int .i64 0, .slice none 0 0]
    have hBd := mmore hBc hwd
    clear Xc hBc hwd
    generalize wc.heap.size = g6 at *
    generalize wc.alloc (.cells #[.int .i64 0, .int .i64 0, .slice none 0 0] 36) = wd at *
    go_wp2_with fail
    refine (evawake_any _ (tab.out _ hBd)).mono ?_; rintro e we ⟨rfl, hbe⟩
    have hBe := mmore hBd hbe
    have Ee := Ed.kept hbe
    have e0 : we.cell? ⟨g6, 0, none⟩ = some (.int .i64 0) := Ee.cell 0
    have e1 : we.cell? ⟨g6, 1, none⟩ = some (.int .i64 0) := Ee.cell 1
    have e2 : we.cell? ⟨g6, 2, none⟩ = some (.slice none 0 0) := Ee.cell 2
    have OF := fun w => evof_any none 0 0 0 [] w ⟨rfl, by simp, fun h => absurd h (by decide)⟩ (by decide)
    replace OF := Lib.hid OF
    go_wp2_with fail
    refine (OF.out _).mono ?_; rintro e wf ⟨B', cap', rfl, hR', hbf⟩
    have hBf := mmore hBe hbf
    have SA := fun w h => evsame_any B' none cap' 0 0 0 0 0 [] [] w h ⟨rfl, by simp, fun h => absurd h (by decide)⟩ (by decide) (by decide)
    replace SA := Lib.hid SA
    go_wp2_with fail
    refine (SA.out _ hR').mono ?_; rintro e wg ⟨q, rfl, hq, hbg⟩
    obtain rfl : q = true := hq.2 (by simp)
    have hBg := mmore hBf hbg
    clear hq
    go_wp2
    go_ret
    exact ⟨rfl, hBg⟩

theorem laid_met (os : Os) (args : Array Value) : laidMetH Tryz.prog Rows.eventBackRow.laid ((World.laidAll Tryz.prog os Rows.eventBackRow.laid).forCall (fun _ _ => 0) ⟨#[], args, []⟩).memory := by
  rw [MakeChecks.laidMetH_plain _ _ _ (by kernel_rfl)]
  exact laidMet_laidAll _ (by kernel_rfl) (by kernel_rfl)
def tzTab : List Int := [0, 1, 56, 2, 57, 49, 28, 3, 61, 58, 42, 50, 38, 29, 17, 4, 62, 47, 59, 36, 45, 43, 51, 22, 53, 39, 33, 30, 24, 18, 12, 5, 63, 55, 48, 27, 60, 41, 37, 16, 46, 35, 44, 21, 52, 32, 23, 11, 54, 26, 40, 15, 34, 20, 31, 10, 25, 14, 19, 9, 13, 8, 7, 6]
theorem gTz : Tryz.prog.globalNamed "math/bits.deBruijn64tab" = some 6 := by kernel_rfl
theorem tTz : (Tryz.prog.globals[6]?).map (·.type) = some 167 := by kernel_rfl
theorem of_laid {W : World} (h : laidMetH Tryz.prog Rows.eventBackRow.laid W) : TzCell W := by
  rw [MakeChecks.laidMetH_plain _ _ _ (by kernel_rfl)] at h
  have h2 : laidMet Tryz.prog (("math/bits.deBruijn64tab", Lib.tabData .u8 tzTab) :: Rows.eventBackRow.laid.drop 2) W := h.tail
  have h3 := Lib.tabIs_of_head gTz tTz Tryz.underlying167 Tryz.underlying5 (by kernel_rfl) (by kernel_rfl) h2
  unfold Lib.TabIs at h3
  have h4 := World.var?_cell gTz h3 15
  exact h4.trans (by kernel_rfl)

theorem gPow : Tryz.prog.globalNamed "internal/strconv.uint64pow10" = some 0 := by kernel_rfl
theorem tPow : (Tryz.prog.globals[0]?).map (·.type) = some 128 := by kernel_rfl
theorem of_laid3 {W : World} (h : laidMetH Tryz.prog Rows.eventBackRow.laid W) : Lib.TabIs Tryz.prog W "internal/strconv.uint64pow10" .u64 Lib.pow10Tab := by
  rw [MakeChecks.laidMetH_plain _ _ _ (by kernel_rfl)] at h
  have h2 : laidMet Tryz.prog (("internal/strconv.uint64pow10", Lib.tabData .u64 Lib.pow10Tab) :: Rows.eventBackRow.laid.drop 3) W := h.tail.tail
  exact Lib.tabIs_of_head gPow tPow Tryz.underlying128 Tryz.underlying59 (by kernel_rfl) (by kernel_rfl) h2
theorem gErr : Tryz.prog.globalNamed "strconv.ErrRange" = some 4 := by kernel_rfl
theorem tErr : (Tryz.prog.globals[4]?).map (·.type) = some 91 := by kernel_rfl
theorem gSyn : Tryz.prog.globalNamed "strconv.ErrSyntax" = some 3 := by kernel_rfl
theorem tSyn : (Tryz.prog.globals[3]?).map (·.type) = some 91 := by kernel_rfl
theorem star : "*" ++ "errors.errorString" = "*errors.errorString" := by decide
theorem rowErr (u : TypeId) (h : Tryz.prog.typeName? 3 u = some "*errors.errorString") : u = 169 :=
  typeName_ptr_named (nm := "errors.errorString") (by rw [star]; kernel_rfl) (by kernel_rfl) (by decide) u (by rw [star]; exact h)
theorem cellsErr : Tryz.prog.cellsOf 171 = 1 := by kernel_rfl
theorem cellsStr : Tryz.prog.cellsOf 9 = 1 := by kernel_rfl
theorem of_laid2 {W : World} (h : laidMetH Tryz.prog Rows.eventBackRow.laid W) : ErrCells W := by
  rw [MakeChecks.laidMetH_plain _ _ _ (by kernel_rfl)] at h
  have h2 : laidMet Tryz.prog (("strconv.ErrRange", .iface "*errors.errorString" (.ptr (.agg [.lit (.string [118, 97, 108, 117, 101, 32, 111, 117, 116, 32, 111, 102, 32, 114, 97, 110, 103, 101])]))) :: Rows.eventBackRow.laid.drop 4) W := h.tail.tail.tail
  have h3 : laidMet Tryz.prog (("strconv.ErrSyntax", .iface "*errors.errorString" (.ptr (.agg [.lit (.string [105, 110, 118, 97, 108, 105, 100, 32, 115, 121, 110, 116, 97, 120])]))) :: Rows.eventBackRow.laid.drop 5) W := h.tail.tail.tail.tail
  obtain ⟨a, s, hv, _, _, _⟩ := laid_sentinel h2 gErr tErr Tryz.underlying91 rowErr Tryz.underlying169 Tryz.underlying171 rfl rfl Tryz.underlying9 cellsErr cellsStr
  obtain ⟨a', s', hv', _, _, _⟩ := laid_sentinel h3 gSyn tSyn Tryz.underlying91 rowErr Tryz.underlying169 Tryz.underlying171 rfl rfl Tryz.underlying9 cellsErr cellsStr
  exact ⟨⟨_, by simpa using World.var?_cell gSyn hv' 0, .inr ⟨_, _, rfl⟩⟩, ⟨_, by simpa using World.var?_cell gErr hv 0, .inr ⟨_, _, rfl⟩⟩⟩

set_option maxRecDepth 100000 in
theorem lifted (os : Os) (started : os.Started) (H : Type) (enc : TypeId × Value → H) :
    ReturnsInHanded {} Tryz.checked os 5 .any (fun w args => (Rows.eventBackSpec.pre enc Tryz.prog Tryz.f5 [] false w args ∧ laidMetH Tryz.prog Rows.eventBackRow.laid w) ∧ sizedMet enc Tryz.prog Tryz.f5 (OpenSpec.ofChange Rows.eventBackSpec) false w args) (Rows.eventBackSpec.post enc Tryz.prog Tryz.f5 false true false false) := by
  refine returnsInHanded_of_change_and (C := Tryz.checked) (X := fun w _ => laidMetH Tryz.prog Rows.eventBackRow.laid w) (fun _ _ _ hh h => h.of_heap hh) own started (by kernel_rfl) Tryz.func5
    (ChangeSpec.witness_shaped (enc := enc) (C := Tryz.checked) (os := os) (X := fun w _ => laidMetH Tryz.prog Rows.eventBackRow.laid w) false (World.laidAll Tryz.prog os Rows.eventBackRow.laid) #[.agg #[.slice none 0 0, .slice none 0 0], .string ⟨#[]⟩] 8 (World.laidAll_os _ _ _) (World.shaped_of_ZipB (by kernel_rfl) (by kernel_rfl)) (by kernel_rfl) (by kernel_rfl) (by kernel_rfl) (laid_met os _)) ?_
  intro W base args ds gs before hval0 hW _ hsz0 hL _
  have hPow := of_laid3 hL
  have hTab := of_laid hL
  have hErr := of_laid2 hL
  clear hL
  have hsz : (DataW.weightsEach Tryz.prog (Tryz.f5.params.toList ++ Rows.eventBackSpec.plain.varTypes Tryz.prog) (ds ++ gs)).all (· ≤ reachBytes) = true := hsz0
  clear hsz0
  have hval : ∀ (j : Nat) t v, Tryz.f5.params[j]? = some t → args[j]? = some v → Value.okWide Tryz.prog W .any base t v := hval0
  have hW' := hW
  obtain ⟨p, q, hA0, hV, rfl, hfz, hnd⟩ := hW
  have hA : DataW.TrodAll enc Tryz.prog W 0 (fun _ => true) true Tryz.f5.params.toList args.toList ds p := hA0
  rw [Tryz.params5] at hA hval hsz
  obtain ⟨v0, vs0, d0, ds0, p0, q0, hargs, rfl, rfl, h0, r0⟩ := trodAll_cons hA
  obtain ⟨v1, vs1, d1, ds1, p1, q1, rfl, rfl, rfl, h1, r1⟩ := trodAll_cons r0
  obtain ⟨rfl, rfl, rfl⟩ := trodAll_nil r1
  obtain rfl : args = #[v0, v1] := by cases args; simp_all
  obtain ⟨rfl, rfl⟩ := trodVars_none hV
  have kk0 := h0
  have lt0 : ∀ x ∈ p0, x.block < W.heap.size := by obtain ⟨m, hm⟩ := kk0; exact DataW.trod_lt m _ _ _ hm
  have kk1 := h1
  have lt1 : ∀ x ∈ p1, x.block < W.heap.size := by obtain ⟨m, hm⟩ := kk1; exact DataW.trod_lt m _ _ _ hm
  obtain ⟨x0, y0, t0, s0, rfl, w0, u0, pp0, qq0, rr0⟩ := open_schema (hval 0 25 v0 rfl rfl) h0 (wb_each hsz (j := 0) (t := 25) rfl rfl)
  obtain ⟨s1, rfl, rfl, rfl, w1⟩ := Go.ChangeMaps.open_string Tryz.underlying9 (hval 1 9 v1 rfl rfl) h1
  have z1 : s1.size ≤ 140737488351232 := by
    have hz := sized_string hsz (j := 1) (t := 9) rfl rfl
    rw [Array.length_toList] at hz
    exact hz
  clear hA0 hval0
  refine (walk W hPow hTab hErr x0 y0 t0 s0 w0 u0 pp0 qq0 rr0 s1 z1).mono fun e W' ⟨he, bel⟩ => ?_
  subst he
  exact ⟨_, rfl, _, _, _, [], _, [], hW', trodAll_mk1 (shut_bool Tryz.underlying4 _), (trodAll_cons_mk (Below.trod laidOut (by kernel_rfl) (of_decide_eq_true (by kernel_rfl)) kk0 bel lt0) (trodAll_cons_mk (Below.trod laidOut (by kernel_rfl) (of_decide_eq_true (by kernel_rfl)) kk1 bel lt1) trodAll_mk0)), rfl, bel.frame _, fun h => by cases h⟩

theorem over : Rows.eventBackRow.holds Tryz.pinned (OpenSpec.ofChange Rows.eventBackSpec) :=
  OpenClaim.holds_of_wide 5 Tryz.f5 rfl rfl rfl rfl rfl rfl rfl ⟨rfl, rfl, rfl, rfl, rfl⟩ rfl rfl rfl rfl rfl (by kernel_rfl) Tryz.func5 (by kernel_rfl)
    (of_decide_eq_true (by kernel_rfl)) (by unfold Func.isWrapper; first | (rw [if_pos (by decide +kernel)]; kernel_rfl) | (rw [if_neg (by decide +kernel)]; exact ⟨rfl, rfl⟩))
    (fun os started H enc _ => lifted os started H enc)

/-- the statement -/
theorem proved : Rows.EventBackCardSaid :=
  Claim7.holds_tied_plain_at .later [] [.data, .data, .data, .sentinel, .sentinel] true (true, "74a99bdeb8becfb3f12fdeb60655eeca1110f6640b7dce38b08167f32ff96d88") true
    over (fun _ h => by cases h) (by kernel_rfl) (fun _ h => by cases h) eventBack_row_tie rfl ⟨rfl, rfl⟩ (by kernel_rfl) rfl
    (fun f fn hf hfn => by
      obtain rfl : f = 5 := Option.some.inj ((show Tryz.prog.funcNamed "auspice/auspicelaw04.EventBack" = some 5 by kernel_rfl).symm.trans hf) |>.symm
      obtain rfl : fn = Tryz.f5 := (Option.some.inj (Tryz.func5.symm.trans hfn)).symm
      exact ⟨by kernel_rfl, fun j t ht => by
        rw [Tryz.params5] at ht
        have hm : t ∈ [25, 9] := by simpa using Array.mem_of_getElem? ht
        have hall : ([25, 9].all fun u => !Tryz.prog.wantsStandIn u) = true := by kernel_rfl
        exact (show Tryz.prog.wantsStandIn t = false by simpa using List.all_eq_true.1 hall t hm)⟩)
    (by kernel_rfl)
#print axioms proved
end Go.Proofs.YtkmlbifhpkfinaaGreatDoor.eventBack
