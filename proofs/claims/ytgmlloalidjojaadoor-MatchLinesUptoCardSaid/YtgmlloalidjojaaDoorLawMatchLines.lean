/- MatchLines: the line of any match is the document's; read again it is the match (the second form: by size). -/
import Derived.Test.YtgmlloalidjojaaDoorRows
import Derived.Test.YtgmlloalidjojaaDoorCards
import Derived.Test.YtgmlloalidjojaaDoorTie
import Derived.LaidMore
import Derived.Deep.DeepHandedRow
import Derived.Lay
import Derived.LaidLaws
import Derived.ChangeVars
import Derived.SevenTiedAt
import Derived.Stop.Joined
import Derived.Stop.LaidErr
import Derived.Lib.LaidTab
import Derived.Lib.ItoaNum
import Derived.WalkKit
import Derived.ProofKit
import Derived.OpenShut
import Derived.ShutString
import Derived.ChangeOld
import Derived.Below
import Derived.Lib.SmallJoins
import Derived.SizedLaws
import Derived.Test.YtgmlloalidjojaaDoorMlB
import Derived.Test.YtgmlloalidjojaaDoorMtU
namespace Go.Proofs.YtgmlloalidjojaaDoor.matchLines
open Go.ChangeShapes Go.WideShapes Go.ChangeAt Go.RowKit Go.Joins
set_option linter.unusedVariables false
set_option linter.unusedSimpArgs false

theorem own : ownKnob Tryd.prog.godebug = none := by kernel_rfl
theorem laidOut : laidOutB Tryd.prog = true := by kernel_rfl

set_option maxHeartbeats 8000000 in
set_option maxRecDepth 100000 in
theorem walk (w : World) (htab : Lib.TabIs Tryd.prog w "internal/strconv.uint64pow10" .u64 Lib.pow10Tab) (hsp : SpTab w) (hz : 0 < w.heap.size) (st0 br0 : Int) (A0 : Option Addr) (c0 : Nat) (z0 : List (List Int)) (ws0 : (Lit.int .i64 st0).wf = true) (wb0 : (Lit.int .i64 br0).wf = true) (w0 : RowsAt w A0 z0) (s0 : z0.length * 24 ≤ 140737488351232) (y0 : ∀ l ∈ z0, l.length * 8 ≤ 140737488351232) (u0 : z0.flatten.length ≤ 1048576) :
    Calls Tryd.prog 3 #[.agg #[.int .i64 st0, .int .i64 br0, .slice A0 z0.length c0]] w fun e w' => e = .returned (.bool true) ∧ Below w.heap.size w w' := by
  obtain ⟨u, hu⟩ : ∃ u, (w.alloc (matO st0 br0 A0 z0.length c0)) = u := ⟨_, rfl⟩
  have bu : Below w.heap.size w u := by rw [← hu]; exact m1 w _
  have d0 : u.cell? ⟨w.heap.size, 0, none⟩ = some (.int .i64 st0) := by rw [← hu]; simp [go_sem]
  have d1 : u.cell? ⟨w.heap.size, 1, none⟩ = some (.int .i64 br0) := by rw [← hu]; simp [go_sem]
  have d2 : u.cell? ⟨w.heap.size, 2, none⟩ = some (.slice A0 z0.length c0) := by rw [← hu]; simp [go_sem]
  have hA := w0.later bu
  have l0 : z0.length ≤ 9223372036854775806 := by omega
  have q0 : ∀ l ∈ z0, l.length ≤ 9223372036854775806 := fun l h => by have := y0 l h; omega
  have u0' : z0.flatten.length * 8 ≤ 140737488355328 := by omega
  have st2 : -9223372036854775808 ≤ st0 ∧ st0 ≤ 9223372036854775807 := i64_wf ws0
  have br2 : -9223372036854775808 ≤ br0 ∧ br0 ≤ 9223372036854775807 := i64_wf wb0
  have tab := Lib.hid (Lib.tabBelow_of_tabIs htab)
  have sp := Lib.hid (fun w' hb => SpTab.later (w := w) (w1 := w') hsp hb)
  have hzz := Lib.hid (fun (w' : World) (hb : Below w.heap.size w w') => (Nat.lt_of_lt_of_le hz hb.size : 0 < w'.heap.size))
  have OR := Lib.hid (fun (w' : World) (A : Option Addr) (c : Nat) (h1 : RowsAt w' A z0) (h2 : RowsAt w' A0 z0) => rorder_any A A0 c c0 st0 br0 st0 br0 z0 z0 w' h1 h2 l0 l0 q0 q0)
  rw [ord_self] at OR
  cases hg : goodP st0 br0 z0 9223372036854775807 with
  | false =>
    have L1 := Lib.hid (fun (w' : World) (h : RowsAt w' A0 z0) => line_no A0 c0 st0 br0 z0 w' h l0 q0 hg)
    have R1 := Lib.hid (fun (w' : World) (h : RowsAt w' A0 z0) => rline_no A0 c0 st0 br0 z0 w' h l0 q0 u0' hg)
    clear w0 htab hsp hz q0 y0 u0 u0' l0 s0 hg OR st2 br2 ws0 wb0
    go_enter Tryd.func3, Tryd.ntmps3
    go_wp2_with fail
    clear hu
    refine (L1.out u hA).mono ?_; rintro e w1 ⟨rfl, hb1⟩
    have B1 := mmore bu hb1
    have A1 := hA.later hb1
    have e0 := cell_later hb1 d0
    have e1 := cell_later hb1 d1
    have e2 := cell_later hb1 d2
    clear d0 d1 d2 hA bu hb1
    go_wp2_with fail
    refine (awake_any w1 (sp.out _ B1) (hzz.out _ B1) (tab.out _ B1)).mono ?_; rintro e w2 ⟨rfl, hb2⟩
    have B2 := mmore B1 hb2
    have A2 := A1.later hb2
    have f0 := cell_later hb2 e0
    have f1 := cell_later hb2 e1
    have f2 := cell_later hb2 e2
    clear e0 e1 e2 A1 B1 hb2
    go_wp2_with fail
    refine (R1.out w2 A2).mono ?_; rintro e w3 ⟨rfl, hb3⟩
    have B3 := mmore B2 hb3
    clear f0 f1 f2 A2 B2 hb3
    go_wp2_with fail
    refine (parse_empty w3 (sp.out _ B3) (hzz.out _ B3)).mono ?_; rintro e w4 ⟨rfl, hb4⟩
    have B4 := mmore B3 hb4
    have B5 := mmore B4 (m1 w4 (.cells #[.int .i64 0, .int .i64 0, .slice none 0 0] 24))
    clear B3 hb4
    go_wp2_with fail
    go_ret
    exact ⟨rfl, B5⟩
  | true =>
    obtain ⟨lim, sz, p24, ne, k, hk, hh, hl, hp⟩ := line_read hg st2.2 br2.2 u0
    have L1 := Lib.hid (fun (w' : World) (h : RowsAt w' A0 z0) (t) => line_any A0 c0 st0 br0 z0 w' h l0 q0 st2.1 st2.2 br2.1 br2.2 lim t)
    have R1 := Lib.hid (fun (w' : World) (h : RowsAt w' A0 z0) => rline_any A0 c0 st0 br0 z0 w' h l0 q0 u0' st2.1 st2.2 br2.1 br2.2 lim)
    have P1 := Lib.hid (fun (w' : World) (hT) (h0) (t) => parse_any (lineOf st0 br0 z0) k st0 br0 z0 w' sz hk hh hl hp rfl lim st2 br2 p24 hT h0 t)
    have nem := some_text ne
    generalize lineOf st0 br0 z0 = S at *
    clear w0 htab hsp hz q0 y0 u0 u0' l0 s0 hg st2 br2 ws0 wb0 lim sz p24 ne hk hh hl hp
    go_enter Tryd.func3, Tryd.ntmps3
    go_wp2_with fail
    clear hu
    refine (L1.out u hA (tab.out _ bu)).mono ?_; rintro e w1 ⟨rfl, hb1⟩
    have B1 := mmore bu hb1
    have A1 := hA.later hb1
    have e0 := cell_later hb1 d0
    have e1 := cell_later hb1 d1
    have e2 := cell_later hb1 d2
    clear d0 d1 d2 hA bu hb1
    go_wp2_with fail
    refine (awake_any w1 (sp.out _ B1) (hzz.out _ B1) (tab.out _ B1)).mono ?_; rintro e w2 ⟨rfl, hb2⟩
    have B2 := mmore B1 hb2
    have A2 := A1.later hb2
    have f0 := cell_later hb2 e0
    have f1 := cell_later hb2 e1
    have f2 := cell_later hb2 e2
    clear e0 e1 e2 A1 B1 hb2
    go_wp2_with fail
    refine (R1.out w2 A2).mono ?_; rintro e w3 ⟨rfl, hb3⟩
    have B3 := mmore B2 hb3
    have A3 := A2.later hb3
    have g0 := cell_later hb3 f0
    have g1 := cell_later hb3 f1
    have g2 := cell_later hb3 f2
    clear f0 f1 f2 A2 B2 hb3
    go_wp2_with fail
    refine (P1.out w3 (sp.out _ B3) (hzz.out _ B3) (tab.out _ B3)).mono ?_; rintro e w4 ⟨AX, cX, rfl, hRX, hb4⟩
    have B4 := mmore B3 hb4
    have m5 := m1 w4 (matO st0 br0 AX z0.length cX)
    have B5 := mmore B4 m5
    have A5 := (A3.later hb4).later m5
    have X5 := hRX.later m5
    have MX := Blk.made w4 24 #[.int .i64 st0, .int .i64 br0, .slice AX z0.length cX]
    have h0 := cell_later m5 (cell_later hb4 g0)
    have h1 := cell_later m5 (cell_later hb4 g1)
    have h2 := cell_later m5 (cell_later hb4 g2)
    have x0 : (w4.alloc (matO st0 br0 AX z0.length cX)).cell? ⟨w4.heap.size, 0, none⟩ = some (.int .i64 st0) := MX.cell 0
    have x1 : (w4.alloc (matO st0 br0 AX z0.length cX)).cell? ⟨w4.heap.size, 1, none⟩ = some (.int .i64 br0) := MX.cell 1
    have x2 : (w4.alloc (matO st0 br0 AX z0.length cX)).cell? ⟨w4.heap.size, 2, none⟩ = some (.slice AX z0.length cX) := MX.cell 2
    clear g0 g1 g2 A3 B3 B4 hb4 m5 MX hRX
    go_wp2_with fail
    refine (OR.out _ AX cX X5 A5).mono ?_; rintro e w6 ⟨rfl, hb6⟩
    have B6 := mmore B5 hb6
    clear h0 h1 h2 x0 x1 x2 A5 X5 B5 hb6
    go_wp2_with fail
    go_ret
    exact ⟨rfl, B6⟩

theorem laid_met (os : Os) (args : Array Value) : laidMetH Tryd.prog Rows.matchLinesUptoRow.laid ((World.laidAll Tryd.prog os Rows.matchLinesUptoRow.laid).forCall (fun _ _ => 0) ⟨#[], args, []⟩).memory := by
  rw [MakeChecks.laidMetH_plain _ _ _ (by kernel_rfl)]
  exact laidMet_laidAll _ (by kernel_rfl) (by kernel_rfl)
theorem gPow : Tryd.prog.globalNamed "internal/strconv.uint64pow10" = some 3 := by kernel_rfl
theorem tPow : (Tryd.prog.globals[3]?).map (·.type) = some 83 := by kernel_rfl
theorem of_laid {W : World} (h : laidMetH Tryd.prog Rows.matchLinesUptoRow.laid W) : Lib.TabIs Tryd.prog W "internal/strconv.uint64pow10" .u64 Lib.pow10Tab := by
  rw [MakeChecks.laidMetH_plain _ _ _ (by kernel_rfl)] at h
  have h2 : laidMet Tryd.prog (("internal/strconv.uint64pow10", Lib.tabData .u64 Lib.pow10Tab) :: Rows.matchLinesUptoRow.laid.drop 3) W := h.tail.tail
  exact Lib.tabIs_of_head gPow tPow Tryd.underlying83 Tryd.underlying48 (by kernel_rfl) (by kernel_rfl) h2

theorem gSp : Tryd.prog.globalNamed "strings.asciiSpace" = some 0 := by kernel_rfl
theorem tSp : (Tryd.prog.globals[0]?).map (·.type) = some 59 := by kernel_rfl
theorem spD : (Lib.tabData .u8 spL : DataW Unit) = Rows.laid_strings_asciiSpace := by kernel_rfl
theorem of_laid2 {W : World} (h : laidMetH Tryd.prog Rows.matchLinesUptoRow.laid W) : Lib.TabIs Tryd.prog W "strings.asciiSpace" .u8 spL := by
  rw [MakeChecks.laidMetH_plain _ _ _ (by kernel_rfl)] at h
  have h2 : laidMet Tryd.prog (("strings.asciiSpace", Lib.tabData .u8 spL) :: Rows.matchLinesUptoRow.laid.drop 8) W := by rw [spD]; exact h.tail.tail.tail.tail.tail.tail.tail
  exact Lib.tabIs_of_head gSp tSp Tryd.underlying59 Tryd.underlying5 (by kernel_rfl) (by kernel_rfl) h2

set_option maxRecDepth 100000 in
theorem contract (H : Type) (enc : TypeId × Value → H) (W : World) (base : Nat) (args : Array Value) (ds gs : List (DataW H)) (before : List MemPlace)
    (hval0 : ∀ (j : Nat) t v, Tryd.f3.params[j]? = some t → args[j]? = some v → Value.okWide Tryd.prog W .any base t v)
    (hW : DataW.Whole enc Tryd.prog Tryd.f3.params.toList Rows.matchLinesSpec.vars false W args.toList ds gs before) (hk0 : Rows.uptoSmall H (ds ++ gs) = true)
    (hsz0 : (DataW.weightsEach Tryd.prog (Tryd.f3.params.toList ++ Rows.matchLinesSpec.plain.varTypes Tryd.prog) (ds ++ gs)).all (· ≤ reachBytes) = true)
    (hL : laidMetH Tryd.prog Rows.matchLinesUptoRow.laid W) :
    Calls Tryd.prog 3 args W fun e W' => ∃ v, e = .returned v ∧ Rows.matchLinesSpec.post enc Tryd.prog Tryd.f3 false true false false W args v W' := by
  have hTab := of_laid hL
  have hSpT := of_laid2 hL
  have hSp := spTab_of hSpT gSp
  have hZ : 0 < W.heap.size := mblock (hSp 0 (by decide))
  clear hL
  have hsz : (DataW.weightsEach Tryd.prog (Tryd.f3.params.toList ++ Rows.matchLinesSpec.plain.varTypes Tryd.prog) (ds ++ gs)).all (· ≤ reachBytes) = true := hsz0
  clear hsz0
  have hval : ∀ (j : Nat) t v, Tryd.f3.params[j]? = some t → args[j]? = some v → Value.okWide Tryd.prog W .any base t v := hval0
  have hW' := hW
  obtain ⟨p, q, hA0, hV, rfl, hfz, hnd⟩ := hW
  have hA : DataW.TrodAll enc Tryd.prog W 0 (fun _ => true) true Tryd.f3.params.toList args.toList ds p := hA0
  rw [Tryd.params3] at hA hval hsz
  obtain ⟨v0, vs0, d0, ds0, p0, q0, hargs, rfl, rfl, h0, r0⟩ := trodAll_cons hA
  obtain ⟨rfl, rfl, rfl⟩ := trodAll_nil r0
  obtain rfl : args = #[v0] := by cases args; simp_all
  obtain ⟨rfl, rfl⟩ := trodVars_none hV
  have kk0 := h0
  have lt0 : ∀ x ∈ p0, x.block < W.heap.size := by obtain ⟨m, hm⟩ := kk0; exact DataW.trod_lt m _ _ _ hm
  have hk1 := hk0
  simp only [List.append_nil] at hk1
  have hk := of_decide_eq_true hk1
  simp only [Rows.uptoBulkAll] at hk
  clear hk0 hk1
  obtain ⟨st0, br0, A0, c0, z0, rfl, ws0, wb0, w0, s0, y0, uu0⟩ := open_matchU (hval 0 24 v0 rfl rfl) h0 (wb_each hsz (j := 0) (t := 24) rfl rfl)
  clear hA0 hval0
  refine (walk W hTab hSp hZ st0 br0 A0 c0 z0 ws0 wb0 w0 s0 y0 (by omega)).mono fun e W' ⟨he, bel⟩ => ?_
  subst he
  exact ⟨_, rfl, _, _, _, [], _, [], hW', trodAll_mk1 (shut_bool Tryd.underlying4 _), (trodAll_cons_mk (Below.trod laidOut (by kernel_rfl) (of_decide_eq_true (by kernel_rfl)) kk0 bel lt0) trodAll_mk0), rfl, bel.frame _, fun h => by cases h⟩

set_option maxRecDepth 100000 in
theorem reads (os : Os) {H : Type} (enc : TypeId × Value → H) : ∃ x, DataW.whole enc Tryd.prog ((World.laidAll Tryd.prog os Rows.matchLinesUptoRow.laid).forCall (fun _ _ => 0) ⟨#[], #[.agg #[.int .i64 0, .int .i64 0, .slice none 0 0]], []⟩).memory Tryd.f3.params.toList Rows.matchLinesSpec.vars false #[(.agg #[.int .i64 0, .int .i64 0, .slice none 0 0] : Value)].toList 8 = some ([.agg [.lit (.int .i64 0), .lit (.int .i64 0), .nil]], [], x) :=
  ⟨[], by kernel_rfl⟩
set_option maxRecDepth 100000 in
theorem okw (os : Os) : Input.okWideB Tryd.checked.prog ((World.laidAll Tryd.prog os Rows.matchLinesUptoRow.laid).forCall (fun _ _ => 0) ⟨#[], #[.agg #[.int .i64 0, .int .i64 0, .slice none 0 0]], []⟩) 3 ⟨#[], #[.agg #[.int .i64 0, .int .i64 0, .slice none 0 0]], []⟩ = true := by kernel_rfl

set_option maxRecDepth 100000 in
theorem lifted (os : Os) (started : os.Started) (H : Type) (enc : TypeId × Value → H) (F : Stop.Interp) :
    ReturnsInHanded {} Tryd.checked os 3 .any ((Rows.OpenSpec.upto Rows.matchLinesSpec).preRow enc Tryd.prog Tryd.f3 Rows.matchLinesUptoRow.domain false Rows.matchLinesUptoRow.laid) (((Rows.OpenSpec.upto Rows.matchLinesSpec).at F).post enc Tryd.prog Tryd.f3 false true false false) := by
  obtain ⟨places, hx⟩ := reads os enc
  refine returnsInHanded_of_row (C := Tryd.checked) (s := Rows.OpenSpec.upto Rows.matchLinesSpec) own started (by kernel_rfl) Tryd.func3
    ⟨World.laidAll Tryd.prog os Rows.matchLinesUptoRow.laid, fun _ _ => 0, ⟨#[], #[.agg #[.int .i64 0, .int .i64 0, .slice none 0 0]], []⟩, World.laidAll_os _ _ _, World.shaped_of_ZipB (by kernel_rfl) (by kernel_rfl), (Input.okWide_of_okWideB (base := 0) (okw os)).1, (Input.okWide_of_okWideB (okw os)).2,
      OpenSpec.preRow_of_cond 8 hx (by kernel_rfl) (fun k hk => by cases hk; kernel_rfl) (by kernel_rfl) (laid_met os _), by
        simp only [Assume.holds]
        exact ⟨by simp, by simp, fun _ => Modest.zero, by simp, by simp⟩⟩ ?_
  intro W base args ds gs before hval hW _ hcond hsz hL _ _
  exact contract H enc W base args ds gs before hval hW (hcond _ rfl) hsz hL

theorem over : Rows.matchLinesUptoRow.holds Tryd.pinned (Rows.OpenSpec.upto Rows.matchLinesSpec) :=
  OpenClaim.holds_of_cond 3 Tryd.f3 rfl rfl rfl rfl rfl rfl rfl ⟨rfl, rfl, rfl, rfl, rfl⟩ rfl rfl rfl rfl rfl (by kernel_rfl) Tryd.func3 (by kernel_rfl)
    (of_decide_eq_true (by kernel_rfl)) (by unfold Func.isWrapper; first | (rw [if_pos (by decide +kernel)]; kernel_rfl) | (rw [if_neg (by decide +kernel)]; exact ⟨rfl, rfl⟩))
    (fun os started H enc _ F => by rw [OpenClaim.pre_eq_preRow]; exact lifted os started H enc F)

/-- the statement -/
theorem proved : Rows.MatchLinesUptoCardSaid :=
  Claim7.holds_tied_plain_at .later [] [.data, .data, .data, .data, .sentinel, .sentinel, .listed, .data, .pinned] true (true, "0eac59a8ba93b8092473b2a52b22e9f3c7cf309cb7e0eb8d2324b521ef23a6ab") true
    over (fun _ h => by cases h) (by kernel_rfl) (fun _ h => by cases h) matchLinesUpto_row_tie rfl ⟨rfl, rfl⟩ (by kernel_rfl) rfl
    (fun f fn hf hfn => by
      obtain rfl : f = 3 := Option.some.inj ((show Tryd.prog.funcNamed "auspice/auspicelaw10.MatchLines" = some 3 by kernel_rfl).symm.trans hf) |>.symm
      obtain rfl : fn = Tryd.f3 := (Option.some.inj (Tryd.func3.symm.trans hfn)).symm
      exact ⟨by kernel_rfl, fun j t ht => by
        rw [Tryd.params3] at ht
        have hm : t ∈ [24] := by simpa using Array.mem_of_getElem? ht
        have hall : ([24].all fun u => !Tryd.prog.wantsStandIn u) = true := by kernel_rfl
        exact (show Tryd.prog.wantsStandIn t = false by simpa using List.all_eq_true.1 hall t hm)⟩)
    (by kernel_rfl)
#print axioms proved
end Go.Proofs.YtgmlloalidjojaaDoor.matchLines
