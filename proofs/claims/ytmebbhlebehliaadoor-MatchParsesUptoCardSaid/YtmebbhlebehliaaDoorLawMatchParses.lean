/- MatchParses: a line that is read is the line of what was read, which is well made; what isn't read is the zero match (the second form: by size). -/
import Derived.Test.YtmebbhlebehliaaDoorRows
import Derived.Test.YtmebbhlebehliaaDoorCards
import Derived.Test.YtmebbhlebehliaaDoorTie
import Derived.LaidMore
import Derived.Deep.DeepHandedRow
import Derived.Lay
import Derived.LaidLaws
import Derived.ChangeVars
import Derived.SevenTiedAt
import Derived.Stop.Joined
import Derived.Stop.LaidErr
import Derived.Lib.LaidTab
import Derived.Lib.LaidU8
import Derived.Lib.ItoaNum
import Derived.WalkKit
import Derived.ProofKit
import Derived.OpenShut
import Derived.ShutString
import Derived.ChangeOld
import Derived.Below
import Derived.Lib.SmallJoins
import Derived.SizedLaws
import Derived.Test.YtmebbhlebehliaaDoorNwP
import Derived.Test.YtmebbhlebehliaaDoorMtU
namespace Go.Proofs.YtmebbhlebehliaaDoor.matchParses
open Go.ChangeShapes Go.WideShapes Go.ChangeAt Go.RowKit Go.Joins Go.Shelf
set_option linter.unusedVariables false
set_option linter.unusedSimpArgs false

theorem own : ownKnob Tryd.prog.godebug = none := by kernel_rfl
theorem laidOut : laidOutB Tryd.prog = true := by kernel_rfl

set_option maxRecDepth 100000 in
theorem spL_all : ∀ c : Nat, c < 256 → spL.getD c 0 = ((if spC c then 1 else 0 : Nat) : Int) := by decide +kernel
theorem spAll_of {W : World} (h : Lib.TabIs Tryd.prog W "strings.asciiSpace" .u8 spL) (hg : Tryd.prog.globalNamed "strings.asciiSpace" = some 0) : SpAll W := fun c hc => by
  have := h.cell hg c (by simp [spL]; omega)
  rw [spL_all c hc] at this
  exact ⟨_, by split <;> omega, this⟩
set_option maxHeartbeats 8000000 in
set_option maxRecDepth 100000 in
theorem walk (w : World) (htab : Lib.TabIs Tryd.prog w "internal/strconv.uint64pow10" .u64 Lib.pow10Tab) (hsp : SpTab w) (hz : 0 < w.heap.size) (hT : ScanTabs w) (hE : ErrC w) (s0 : ByteArray) (w0 : s0.size ≤ 1048576) :
    Calls Tryd.prog 3 #[.string s0] w fun e w' => e = .returned (.bool true) ∧ Below w.heap.size w w' := by
  have tab := Lib.hid (Lib.tabBelow_of_tabIs htab)
  have sp := Lib.hid (fun w' hb => SpTab.later (w := w) (w1 := w') hsp hb)
  have hzz := Lib.hid (fun (w' : World) (hb : Below w.heap.size w w') => (Nat.lt_of_lt_of_le hz hb.size : 0 < w'.heap.size))
  have P := Lib.hid (parse_all s0 w w0 hT hE htab)
  clear htab hsp hz hT hE w0
  go_enter Tryd.func3, Tryd.ntmps3
  go_wp2_with fail
  refine P.out.mono ?_; rintro e w1 ⟨st, br, A, pss, c, b, rfl, hb1, hR1, hx, hx2, hyes, hno⟩
  replace hyes := Lib.hid hyes
  replace hno := Lib.hid hno
  replace hx2 := Lib.hid hx2
  replace hx := Lib.hid hx
  have MX := Blk.made w1 24 #[.int .i64 st, .int .i64 br, .slice A pss.length c]
  have B2 := mmore hb1 (m1 w1 (matO st br A pss.length c))
  have R2 := hR1.later (m1 w1 (matO st br A pss.length c))
  clear hR1 hb1 P
  go_wp2_with fail
  generalize w1.alloc (matO st br A pss.length c) = w2 at *
  generalize w1.heap.size = g at *
  refine (awake_any w2 (sp.out _ B2) (hzz.out _ B2) (tab.out _ B2)).mono ?_; rintro e w3 ⟨rfl, hb3⟩
  have B3 := mmore B2 hb3
  have R3 := R2.later hb3
  have M3 := MX.kept hb3
  have x0 : w3.cell? ⟨g, 0, none⟩ = some (.int .i64 st) := M3.cell 0
  have x1 : w3.cell? ⟨g, 1, none⟩ = some (.int .i64 br) := M3.cell 1
  have x2 : w3.cell? ⟨g, 2, none⟩ = some (.slice A pss.length c) := M3.cell 2
  clear MX B2 R2 hb3
  cases b with
  | false =>
    obtain ⟨rfl, rfl, rfl⟩ := hno.out rfl
    have OR := Lib.hid (rorder_any A none c 0 0 0 0 0 [] [] w3 R3 (fun h => absurd h (by decide)) (by decide) (by decide) (fun _ h => by cases h) (fun _ h => by cases h))
    rw [ord_self] at OR
    clear hyes hno hx hx2 R3 M3 tab sp hzz
    go_wp2_with fail
    refine OR.out.mono ?_; rintro e w4 ⟨rfl, hb4⟩
    have B4 := mmore B3 hb4
    go_wp2_with fail
    go_ret
    exact ⟨rfl, B4⟩
  | true =>
    obtain ⟨hs0, hl, hst, hbr⟩ := hyes.out rfl
    have hg : goodP st br pss 9223372036854775807 = true := by
      cases hg : goodP st br pss 9223372036854775807 with
      | true => rfl
      | false =>
        exfalso
        have h0 : lineOf st br pss = ⟨#[]⟩ := by unfold lineOf; rw [if_neg (by rw [hg]; decide)]
        rw [h0] at hl
        rw [← hl] at hs0
        exact hs0 rfl
    have y1 : pss.length ≤ 9223372036854775806 := by have := hx.out; omega
    have y2 : ∀ l ∈ pss, l.length ≤ 9223372036854775806 := fun l h => by have := hx2.out l h; omega
    have rm := line_room hx.out hx2.out hst hbr hg
    have L1 := Lib.hid (fun (w' : World) (h : RowsAt w' A pss) (t) => line_all A c st br pss w' h hx.out hx2.out hst hbr t)
    have R1 := Lib.hid (fun (w' : World) (h : RowsAt w' A pss) => rline_any A c st br pss w' h y1 y2 rm.2 hst.1 hst.2 hbr.1 hbr.2 rm.1)
    have G1 := Lib.hid (fun (w' : World) (h : RowsAt w' A pss) => good_any A c st br pss 9223372036854775807 w' h y1 y2)
    rw [hl] at L1 R1
    rw [hg] at G1
    clear hyes hno hx hx2 sp hzz hs0 hl hst hbr hg y1 y2 rm
    go_wp2_with fail
    refine (L1.out w3 R3 (tab.out _ B3)).mono ?_; rintro e w4 ⟨rfl, hb4⟩
    have B4 := mmore B3 hb4
    have R4 := R3.later hb4
    have M4 := M3.kept hb4
    have z0 : w4.cell? ⟨g, 0, none⟩ = some (.int .i64 st) := M4.cell 0
    have z1 : w4.cell? ⟨g, 1, none⟩ = some (.int .i64 br) := M4.cell 1
    have z2 : w4.cell? ⟨g, 2, none⟩ = some (.slice A pss.length c) := M4.cell 2
    clear x0 x1 x2 M3 R3 B3 hb4 L1
    go_wp2_with fail
    refine (R1.out w4 R4).mono ?_; rintro e w5 ⟨rfl, hb5⟩
    have B5 := mmore B4 hb5
    have R5 := R4.later hb5
    have M5 := M4.kept hb5
    have x0 : w5.cell? ⟨g, 0, none⟩ = some (.int .i64 st) := M5.cell 0
    have x1 : w5.cell? ⟨g, 1, none⟩ = some (.int .i64 br) := M5.cell 1
    have x2 : w5.cell? ⟨g, 2, none⟩ = some (.slice A pss.length c) := M5.cell 2
    clear z0 z1 z2 M4 R4 B4 hb5 R1
    go_wp2_with fail
    refine (G1.out w5 R5).mono ?_; rintro e w6 ⟨rfl, hb6⟩
    have B6 := mmore B5 hb6
    clear x0 x1 x2 M5 R5 B5 hb6 G1
    go_wp2_with fail
    go_ret
    exact ⟨rfl, B6⟩

theorem laid_met (os : Os) (args : Array Value) : laidMetH Tryd.prog Rows.matchParsesUptoRow.laid ((World.laidAll Tryd.prog os Rows.matchParsesUptoRow.laid).forCall (fun _ _ => 0) ⟨#[], args, []⟩).memory := by
  rw [MakeChecks.laidMetH_plain _ _ _ (by kernel_rfl)]
  exact laidMet_laidAll _ (by kernel_rfl) (by kernel_rfl)
theorem gPow : Tryd.prog.globalNamed "internal/strconv.uint64pow10" = some 7 := by kernel_rfl
theorem tPow : (Tryd.prog.globals[7]?).map (·.type) = some 104 := by kernel_rfl
theorem of_laid {W : World} (h : laidMetH Tryd.prog Rows.matchParsesUptoRow.laid W) : Lib.TabIs Tryd.prog W "internal/strconv.uint64pow10" .u64 Lib.pow10Tab := by
  rw [MakeChecks.laidMetH_plain _ _ _ (by kernel_rfl)] at h
  have h2 : laidMet Tryd.prog (("internal/strconv.uint64pow10", Lib.tabData .u64 Lib.pow10Tab) :: Rows.matchParsesUptoRow.laid.drop 3) W := h.tail.tail
  exact Lib.tabIs_of_head gPow tPow Tryd.underlying104 Tryd.underlying54 (by kernel_rfl) (by kernel_rfl) h2

theorem gSp : Tryd.prog.globalNamed "strings.asciiSpace" = some 0 := by kernel_rfl
theorem tSp : (Tryd.prog.globals[0]?).map (·.type) = some 56 := by kernel_rfl
theorem spD : (Lib.tabData .u8 spL : DataW Unit) = Rows.laid_strings_asciiSpace := by kernel_rfl
theorem of_laid2 {W : World} (h : laidMetH Tryd.prog Rows.matchParsesUptoRow.laid W) : Lib.TabIs Tryd.prog W "strings.asciiSpace" .u8 spL := by
  rw [MakeChecks.laidMetH_plain _ _ _ (by kernel_rfl)] at h
  have h2 : laidMet Tryd.prog (("strings.asciiSpace", Lib.tabData .u8 spL) :: Rows.matchParsesUptoRow.laid.drop 8) W := by rw [spD]; exact h.tail.tail.tail.tail.tail.tail.tail
  exact Lib.tabIs_of_head gSp tSp Tryd.underlying56 Tryd.underlying5 (by kernel_rfl) (by kernel_rfl) h2

theorem gErr : Tryd.prog.globalNamed "strconv.ErrRange" = some 6 := by kernel_rfl
theorem tErr : (Tryd.prog.globals[6]?).map (·.type) = some 47 := by kernel_rfl
theorem gSyn : Tryd.prog.globalNamed "strconv.ErrSyntax" = some 5 := by kernel_rfl
theorem tSyn : (Tryd.prog.globals[5]?).map (·.type) = some 47 := by kernel_rfl
theorem star : "*" ++ "errors.errorString" = "*errors.errorString" := by decide
theorem rowErr (u : TypeId) (h : Tryd.prog.typeName? 3 u = some "*errors.errorString") : u = 111 :=
  typeName_ptr_named (nm := "errors.errorString") (by rw [star]; kernel_rfl) (by kernel_rfl) (by decide) u (by rw [star]; exact h)
theorem cellsErr : Tryd.prog.cellsOf 113 = 1 := by kernel_rfl
theorem cellsStr : Tryd.prog.cellsOf 9 = 1 := by kernel_rfl
theorem of_laid3 {W : World} (h : laidMetH Tryd.prog Rows.matchParsesUptoRow.laid W) : ErrC W := by
  rw [MakeChecks.laidMetH_plain _ _ _ (by kernel_rfl)] at h
  have h2 : laidMet Tryd.prog (("strconv.ErrRange", .iface "*errors.errorString" (.ptr (.agg [.lit (.string [118, 97, 108, 117, 101, 32, 111, 117, 116, 32, 111, 102, 32, 114, 97, 110, 103, 101])]))) :: Rows.matchParsesUptoRow.laid.drop 5) W := h.tail.tail.tail.tail
  have h3 : laidMet Tryd.prog (("strconv.ErrSyntax", .iface "*errors.errorString" (.ptr (.agg [.lit (.string [105, 110, 118, 97, 108, 105, 100, 32, 115, 121, 110, 116, 97, 120])]))) :: Rows.matchParsesUptoRow.laid.drop 6) W := h.tail.tail.tail.tail.tail
  obtain ⟨a, s, hv, _, _, _⟩ := laid_sentinel h2 gErr tErr Tryd.underlying47 rowErr Tryd.underlying111 Tryd.underlying113 rfl rfl Tryd.underlying9 cellsErr cellsStr
  obtain ⟨b, t, hu, _, _, _⟩ := laid_sentinel h3 gSyn tSyn Tryd.underlying47 rowErr Tryd.underlying111 Tryd.underlying113 rfl rfl Tryd.underlying9 cellsErr cellsStr
  exact ⟨⟨_, by simpa using World.var?_cell gSyn hu 0, .inr ⟨_, _, rfl⟩⟩, ⟨_, by simpa using World.var?_cell gErr hv 0, .inr ⟨_, _, rfl⟩⟩⟩
theorem u8x : U8Extra Tryd.prog Tryd.lays260_ren := ⟨by kernel_rfl, by kernel_rfl, by kernel_rfl, by kernel_rfl, by kernel_rfl, by kernel_rfl, by kernel_rfl⟩
theorem whx : WhiteExtra Tryd.prog Tryd.lays199_ren := ⟨by kernel_rfl, by kernel_rfl, by kernel_rfl, by kernel_rfl, by kernel_rfl, by kernel_rfl, by kernel_rfl, by kernel_rfl⟩
theorem dFirst : Lib.firstData = Rows.laid_unicode_utf8_first := by kernel_rfl
theorem dAcc : Lib.acceptData = Rows.laid_unicode_utf8_acceptRanges := by kernel_rfl
theorem dWhite : Lib.whiteData = Rows.laid_unicode_White_Space := by kernel_rfl
theorem of_laid4 {W : World} (h : laidMetH Tryd.prog Rows.matchParsesUptoRow.laid W) : ScanTabs W := by
  have hsp := of_laid2 h
  rw [MakeChecks.laidMetH_plain _ _ _ (by kernel_rfl)] at h
  have h1 := Lib.laidMet.reads h (n := "unicode/utf8.first") (d := Lib.firstData) (by rw [dFirst]; simp [Rows.matchParsesUptoRow])
  have h2 := Lib.laidMet.reads h (n := "unicode/utf8.acceptRanges") (d := Lib.acceptData) (by rw [dAcc]; simp [Rows.matchParsesUptoRow])
  have h3 := Lib.laidMet.reads h (n := "unicode.White_Space") (d := Lib.whiteData) (by rw [dWhite]; simp [Rows.matchParsesUptoRow])
  exact ⟨spAll_of hsp gSp, utf8Tabs_of_reads Tryd.lays260 u8x h1 h2, whiteTab_of_reads Tryd.lays199 whx h3⟩

set_option maxRecDepth 100000 in
theorem contract (H : Type) (enc : TypeId × Value → H) (W : World) (base : Nat) (args : Array Value) (ds gs : List (DataW H)) (before : List MemPlace)
    (hval0 : ∀ (j : Nat) t v, Tryd.f3.params[j]? = some t → args[j]? = some v → Value.okWide Tryd.prog W .any base t v)
    (hW : DataW.Whole enc Tryd.prog Tryd.f3.params.toList Rows.matchParsesSpec.vars false W args.toList ds gs before) (hk0 : Rows.uptoSmall H (ds ++ gs) = true)
    (hsz0 : (DataW.weightsEach Tryd.prog (Tryd.f3.params.toList ++ Rows.matchParsesSpec.plain.varTypes Tryd.prog) (ds ++ gs)).all (· ≤ reachBytes) = true)
    (hL : laidMetH Tryd.prog Rows.matchParsesUptoRow.laid W) :
    Calls Tryd.prog 3 args W fun e W' => ∃ v, e = .returned v ∧ Rows.matchParsesSpec.post enc Tryd.prog Tryd.f3 false true false false W args v W' := by
  have hTab := of_laid hL
  have hSpT := of_laid2 hL
  have hSp := spTab_of hSpT gSp
  have hZ : 0 < W.heap.size := mblock (hSp 0 (by decide))
  have hScan := of_laid4 hL
  have hErr := of_laid3 hL
  clear hL
  have hval : ∀ (j : Nat) t v, Tryd.f3.params[j]? = some t → args[j]? = some v → Value.okWide Tryd.prog W .any base t v := hval0
  have hW' := hW
  obtain ⟨p, q, hA0, hV, rfl, hfz, hnd⟩ := hW
  have hA : DataW.TrodAll enc Tryd.prog W 0 (fun _ => true) true Tryd.f3.params.toList args.toList ds p := hA0
  rw [Tryd.params3] at hA hval
  obtain ⟨v0, vs0, d0, ds0, p0, q0, hargs, rfl, rfl, h0, r0⟩ := trodAll_cons hA
  obtain ⟨rfl, rfl, rfl⟩ := trodAll_nil r0
  obtain rfl : args = #[v0] := by cases args; simp_all
  obtain ⟨rfl, rfl⟩ := trodVars_none hV
  have kk0 := h0
  have lt0 : ∀ x ∈ p0, x.block < W.heap.size := by obtain ⟨m, hm⟩ := kk0; exact DataW.trod_lt m _ _ _ hm
  have hk1 := hk0
  simp only [List.append_nil] at hk1
  have hk := of_decide_eq_true hk1
  simp only [Rows.uptoBulkAll] at hk
  clear hk0 hk1
  obtain ⟨s0, rfl, rfl, rfl, w0⟩ := Go.ChangeMaps.open_string Tryd.underlying9 (hval 0 9 v0 rfl rfl) h0
  have z0 : s0.size ≤ 1048576 := by
    simp only [Rows.uptoBulk, Array.length_toList] at hk
    have hz : s0.data.size = s0.size := rfl
    omega
  clear hA0 hval0
  refine (walk W hTab hSp hZ hScan hErr s0 z0).mono fun e W' ⟨he, bel⟩ => ?_
  subst he
  exact ⟨_, rfl, _, _, _, [], _, [], hW', trodAll_mk1 (shut_bool Tryd.underlying4 _), (trodAll_cons_mk (Below.trod laidOut (by kernel_rfl) (of_decide_eq_true (by kernel_rfl)) kk0 bel lt0) trodAll_mk0), rfl, bel.frame _, fun h => by cases h⟩

set_option maxRecDepth 100000 in
theorem reads (os : Os) {H : Type} (enc : TypeId × Value → H) : ∃ x, DataW.whole enc Tryd.prog ((World.laidAll Tryd.prog os Rows.matchParsesUptoRow.laid).forCall (fun _ _ => 0) ⟨#[], #[.string ⟨#[]⟩], []⟩).memory Tryd.f3.params.toList Rows.matchParsesSpec.vars false #[(.string ⟨#[]⟩ : Value)].toList 8 = some ([.lit (.string [])], [], x) :=
  ⟨[], by kernel_rfl⟩
set_option maxRecDepth 100000 in
theorem okw (os : Os) : Input.okWideB Tryd.checked.prog ((World.laidAll Tryd.prog os Rows.matchParsesUptoRow.laid).forCall (fun _ _ => 0) ⟨#[], #[.string ⟨#[]⟩], []⟩) 3 ⟨#[], #[.string ⟨#[]⟩], []⟩ = true := by kernel_rfl

set_option maxRecDepth 100000 in
theorem lifted (os : Os) (started : os.Started) (H : Type) (enc : TypeId × Value → H) (F : Stop.Interp) :
    ReturnsInHanded {} Tryd.checked os 3 .any ((Rows.OpenSpec.upto Rows.matchParsesSpec).preRow enc Tryd.prog Tryd.f3 Rows.matchParsesUptoRow.domain false Rows.matchParsesUptoRow.laid) (((Rows.OpenSpec.upto Rows.matchParsesSpec).at F).post enc Tryd.prog Tryd.f3 false true false false) := by
  obtain ⟨places, hx⟩ := reads os enc
  refine returnsInHanded_of_row (C := Tryd.checked) (s := Rows.OpenSpec.upto Rows.matchParsesSpec) own started (by kernel_rfl) Tryd.func3
    ⟨World.laidAll Tryd.prog os Rows.matchParsesUptoRow.laid, fun _ _ => 0, ⟨#[], #[.string ⟨#[]⟩], []⟩, World.laidAll_os _ _ _, World.shaped_of_ZipB (by kernel_rfl) (by kernel_rfl), (Input.okWide_of_okWideB (base := 0) (okw os)).1, (Input.okWide_of_okWideB (okw os)).2,
      OpenSpec.preRow_of_cond 8 hx (by kernel_rfl) (fun k hk => by cases hk; kernel_rfl) (by kernel_rfl) (laid_met os _), by
        simp only [Assume.holds]
        exact ⟨by simp, by simp, fun _ => Modest.zero, by simp, by simp⟩⟩ ?_
  intro W base args ds gs before hval hW _ hcond hsz hL _ _
  exact contract H enc W base args ds gs before hval hW (hcond _ rfl) hsz hL

theorem over : Rows.matchParsesUptoRow.holds Tryd.pinned (Rows.OpenSpec.upto Rows.matchParsesSpec) :=
  OpenClaim.holds_of_cond 3 Tryd.f3 rfl rfl rfl rfl rfl rfl rfl ⟨rfl, rfl, rfl, rfl, rfl⟩ rfl rfl rfl rfl rfl (by kernel_rfl) Tryd.func3 (by kernel_rfl)
    (of_decide_eq_true (by kernel_rfl)) (by unfold Func.isWrapper; first | (rw [if_pos (by decide +kernel)]; kernel_rfl) | (rw [if_neg (by decide +kernel)]; exact ⟨rfl, rfl⟩))
    (fun os started H enc _ F => by rw [OpenClaim.pre_eq_preRow]; exact lifted os started H enc F)

/-- the statement -/
theorem proved : Rows.MatchParsesUptoCardSaid :=
  Claim7.holds_tied_plain_at .later [] [.data, .data, .data, .data, .sentinel, .sentinel, .listed, .data, .pinned] true (true, "d0a3c01ee11df0956470c5484344a35b3aaead12ae892ac472383db9cff61a1e") true
    over (fun _ h => by cases h) (by kernel_rfl) (fun _ h => by cases h) matchParsesUpto_row_tie rfl ⟨rfl, rfl⟩ (by kernel_rfl) rfl
    (fun f fn hf hfn => by
      obtain rfl : f = 3 := Option.some.inj ((show Tryd.prog.funcNamed "auspice/auspicelaw10.MatchParses" = some 3 by kernel_rfl).symm.trans hf) |>.symm
      obtain rfl : fn = Tryd.f3 := (Option.some.inj (Tryd.func3.symm.trans hfn)).symm
      exact ⟨by kernel_rfl, fun j t ht => by
        rw [Tryd.params3] at ht
        have hm : t ∈ [9] := by simpa using Array.mem_of_getElem? ht
        have hall : ([9].all fun u => !Tryd.prog.wantsStandIn u) = true := by kernel_rfl
        exact (show Tryd.prog.wantsStandIn t = false by simpa using List.all_eq_true.1 hall t hm)⟩)
    (by kernel_rfl)
#print axioms proved
end Go.Proofs.YtmebbhlebehliaaDoor.matchParses
