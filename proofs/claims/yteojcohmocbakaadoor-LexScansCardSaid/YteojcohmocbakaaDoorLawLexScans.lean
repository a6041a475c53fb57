/- LexScans: of any text the scan tells the document's tokens, at their places, or where the first thing stands that is none, or that the text is too long. -/
import Derived.Test.YteojcohmocbakaaDoorRows
import Derived.Test.YteojcohmocbakaaDoorCards
import Derived.Test.YteojcohmocbakaaDoorTie
import Derived.LaidMore
import Derived.Lay
import Derived.LaidLaws
import Derived.ChangeVars
import Derived.SevenTiedAt
import Derived.Stop.Joined
import Derived.Stop.LaidErr
import Derived.Lib.LaidTab
import Derived.Lib.ItoaNum
import Derived.WalkKit
import Derived.ProofKit
import Derived.OpenShut
import Derived.ShutString
import Derived.ChangeOld
import Derived.Below
import Derived.Lib.SmallJoins
import Derived.SizedLaws
import Derived.Test.YteojcohmocbakaaDoorLexH
namespace Go.Proofs.YteojcohmocbakaaDoor.lexScans
open Go.ChangeShapes Go.WideShapes Go.ChangeAt Go.RowKit Go.Joins
set_option linter.unusedVariables false
set_option linter.unusedSimpArgs false

theorem own : ownKnob Tryd.prog.godebug = none := by kernel_rfl
theorem laidOut : laidOutB Tryd.prog = true := by kernel_rfl

set_option maxHeartbeats 8000000 in
set_option maxRecDepth 100000 in
theorem walk (w : World) (htab : Lib.TabIs Tryd.prog w "internal/strconv.uint64pow10" .u64 Lib.pow10Tab) (hE : ErrCell w) (s0 : ByteArray) (w0 : s0.size ≤ maxLen) :
    Calls Tryd.prog 3 #[.string s0] w fun e w' => e = .returned (.bool true) ∧ Below w.heap.size w w' := by
  obtain ⟨T, e, hS⟩ := ScanR.some_ s0.data.toList.length s0.data.toList 0 (Nat.le_refl _)
  by_cases hl : s0.size ≤ 4000
  · obtain ⟨ok, p⟩ := e
    cases ok
    · have CS := fun w hE => scan_bad s0 T p w hl hS hE
      have RS := fun w => rscan_bad s0 T p w hl hS
      replace CS := Lib.hid CS
      replace RS := Lib.hid RS
      clear hS hl htab w0
      go_enter Tryd.func3, Tryd.ntmps3
      go_wp2_with fail
      refine (CS.out _ hE).mono ?_; rintro e w1 ⟨rfl, hb1⟩
      have hE1 := hE.later hb1
      go_wp2_with fail
      refine (RS.out _).mono ?_; rintro e w2 ⟨rfl, hb2⟩
      have hE2 := hE1.later hb2
      have hB2 := mmore hb1 hb2
      go_wp2_with fail
      refine (awake5 _ hE2).mono ?_; rintro e w3 ⟨rfl, hb3⟩
      have hB3 := mmore hB2 hb3
      go_wp2_with fail
      refine (same_nil _).mono ?_; rintro e w4 ⟨rfl, rfl⟩
      go_wp2
      go_ret
      exact ⟨rfl, hB3⟩
    · have CS := fun w hE => scan_ok s0 T p w hl hS hE
      have RS := fun w => rscan_ok s0 T p w hl hS
      replace CS := Lib.hid CS
      replace RS := Lib.hid RS
      clear hS hl htab w0
      go_enter Tryd.func3, Tryd.ntmps3
      go_wp2_with fail
      refine (CS.out _ hE).mono ?_; rintro e w1 ⟨g, cap, rfl, hT1, hb1⟩
      have hE1 := hE.later hb1
      replace hT1 := Lib.hid hT1
      go_wp2_with fail
      refine (RS.out _).mono ?_; rintro e w2 ⟨g2, cap2, rfl, hT2, hb2⟩
      have hE2 := hE1.later hb2
      have hB2 := mmore hb1 hb2
      have hT1 := hT1.out.later hb2
      replace hT1 := Lib.hid hT1
      replace hT2 := Lib.hid hT2
      go_wp2_with fail
      refine (awake5 _ hE2).mono ?_; rintro e w3 ⟨rfl, hb3⟩
      have hB3 := mmore hB2 hb3
      have CM := Lib.hid (same_F w3 _ _ _ (hT1.out.later hb3) (hT2.out.later hb3))
      go_wp2_with fail
      refine CM.out.mono ?_; rintro e w4 ⟨rfl, hb4⟩
      have hB4 := mmore hB3 hb4
      go_wp2
      go_ret
      exact ⟨rfl, hB4⟩
  · have CS := fun w => scan_long s0 w hl
    have RS := fun w => rscan_long s0 w hl
    replace CS := Lib.hid CS
    replace RS := Lib.hid RS
    clear hS hl htab w0
    go_enter Tryd.func3, Tryd.ntmps3
    go_wp2_with fail
    refine (CS.out _).mono ?_; rintro e w1 ⟨rfl, rfl⟩
    go_wp2_with fail
    refine (RS.out _).mono ?_; rintro e w2 ⟨rfl, rfl⟩
    go_wp2_with fail
    refine (awake5 _ hE).mono ?_; rintro e w3 ⟨rfl, hb3⟩
    go_wp2_with fail
    refine (same_nil _).mono ?_; rintro e w4 ⟨rfl, rfl⟩
    go_wp2
    go_ret
    exact ⟨rfl, hb3⟩

theorem laid_met (os : Os) (args : Array Value) : laidMetH Tryd.prog Rows.lexScansRow.laid ((World.laidAll Tryd.prog os Rows.lexScansRow.laid).forCall (fun _ _ => 0) ⟨#[], args, []⟩).memory := by
  rw [MakeChecks.laidMetH_plain _ _ _ (by kernel_rfl)]
  exact laidMet_laidAll _ (by kernel_rfl) (by kernel_rfl)
theorem gPow : Tryd.prog.globalNamed "internal/strconv.uint64pow10" = some 0 := by kernel_rfl
theorem tPow : (Tryd.prog.globals[0]?).map (·.type) = some 85 := by kernel_rfl
theorem of_laid {W : World} (h : laidMetH Tryd.prog Rows.lexScansRow.laid W) : Lib.TabIs Tryd.prog W "internal/strconv.uint64pow10" .u64 Lib.pow10Tab := by
  rw [MakeChecks.laidMetH_plain _ _ _ (by kernel_rfl)] at h
  have h2 : laidMet Tryd.prog (("internal/strconv.uint64pow10", Lib.tabData .u64 Lib.pow10Tab) :: Rows.lexScansRow.laid.drop 3) W := h.tail.tail
  exact Lib.tabIs_of_head gPow tPow Tryd.underlying85 Tryd.underlying52 (by kernel_rfl) (by kernel_rfl) h2

theorem gErr : Tryd.prog.globalNamed "strconv.ErrRange" = some 2 := by kernel_rfl
theorem tErr : (Tryd.prog.globals[2]?).map (·.type) = some 55 := by kernel_rfl
theorem star : "*" ++ "errors.errorString" = "*errors.errorString" := by decide
theorem rowErr (u : TypeId) (h : Tryd.prog.typeName? 3 u = some "*errors.errorString") : u = 110 :=
  typeName_ptr_named (nm := "errors.errorString") (by rw [star]; kernel_rfl) (by kernel_rfl) (by decide) u (by rw [star]; exact h)
theorem cellsErr : Tryd.prog.cellsOf 112 = 1 := by kernel_rfl
theorem cellsStr : Tryd.prog.cellsOf 9 = 1 := by kernel_rfl
theorem of_laid2 {W : World} (h : laidMetH Tryd.prog Rows.lexScansRow.laid W) : ErrCell W := by
  rw [MakeChecks.laidMetH_plain _ _ _ (by kernel_rfl)] at h
  have h2 : laidMet Tryd.prog (("strconv.ErrRange", .iface "*errors.errorString" (.ptr (.agg [.lit (.string [118, 97, 108, 117, 101, 32, 111, 117, 116, 32, 111, 102, 32, 114, 97, 110, 103, 101])]))) :: Rows.lexScansRow.laid.drop 4) W := h.tail.tail.tail
  obtain ⟨a, s, hv, _, _, _⟩ := laid_sentinel h2 gErr tErr Tryd.underlying55 rowErr Tryd.underlying110 Tryd.underlying112 rfl rfl Tryd.underlying9 cellsErr cellsStr
  exact ⟨_, by simpa using World.var?_cell gErr hv 0, .inr ⟨_, _, rfl⟩⟩

set_option maxRecDepth 100000 in
theorem lifted (os : Os) (started : os.Started) (H : Type) (enc : TypeId × Value → H) :
    ReturnsInHanded {} Tryd.checked os 3 .any (fun w args => (Rows.lexScansSpec.pre enc Tryd.prog Tryd.f3 [] false w args ∧ laidMetH Tryd.prog Rows.lexScansRow.laid w) ∧ sizedMet enc Tryd.prog Tryd.f3 (OpenSpec.ofChange Rows.lexScansSpec) false w args) (Rows.lexScansSpec.post enc Tryd.prog Tryd.f3 false true false false) := by
  refine returnsInHanded_of_change_and (C := Tryd.checked) (X := fun w _ => laidMetH Tryd.prog Rows.lexScansRow.laid w) (fun _ _ _ hh h => h.of_heap hh) own started (by kernel_rfl) Tryd.func3
    (ChangeSpec.witness_shaped (enc := enc) (C := Tryd.checked) (os := os) (X := fun w _ => laidMetH Tryd.prog Rows.lexScansRow.laid w) false (World.laidAll Tryd.prog os Rows.lexScansRow.laid) #[.string ⟨#[]⟩] 8 (World.laidAll_os _ _ _) (World.shaped_of_ZipB (by kernel_rfl) (by kernel_rfl)) (by kernel_rfl) (by kernel_rfl) (by kernel_rfl) (laid_met os _)) ?_
  intro W base args ds gs before hval0 hW _ hsz0 hL _
  have hTab := of_laid hL
  have hErr := of_laid2 hL
  clear hL
  have hval : ∀ (j : Nat) t v, Tryd.f3.params[j]? = some t → args[j]? = some v → Value.okWide Tryd.prog W .any base t v := hval0
  have hW' := hW
  obtain ⟨p, q, hA0, hV, rfl, hfz, hnd⟩ := hW
  have hA : DataW.TrodAll enc Tryd.prog W 0 (fun _ => true) true Tryd.f3.params.toList args.toList ds p := hA0
  rw [Tryd.params3] at hA hval
  obtain ⟨v0, vs0, d0, ds0, p0, q0, hargs, rfl, rfl, h0, r0⟩ := trodAll_cons hA
  obtain ⟨rfl, rfl, rfl⟩ := trodAll_nil r0
  obtain rfl : args = #[v0] := by cases args; simp_all
  obtain ⟨rfl, rfl⟩ := trodVars_none hV
  have kk0 := h0
  have lt0 : ∀ x ∈ p0, x.block < W.heap.size := by obtain ⟨m, hm⟩ := kk0; exact DataW.trod_lt m _ _ _ hm
  obtain ⟨s0, rfl, rfl, rfl, w0⟩ := Go.ChangeMaps.open_string Tryd.underlying9 (hval 0 9 v0 rfl rfl) h0
  clear hA0 hval0
  refine (walk W hTab hErr s0 w0).mono fun e W' ⟨he, bel⟩ => ?_
  subst he
  exact ⟨_, rfl, _, _, _, [], _, [], hW', trodAll_mk1 (shut_bool Tryd.underlying4 _), (trodAll_cons_mk (Below.trod laidOut (by kernel_rfl) (of_decide_eq_true (by kernel_rfl)) kk0 bel lt0) trodAll_mk0), rfl, bel.frame _, fun h => by cases h⟩

theorem over : Rows.lexScansRow.holds Tryd.pinned (OpenSpec.ofChange Rows.lexScansSpec) :=
  OpenClaim.holds_of_wide 3 Tryd.f3 rfl rfl rfl rfl rfl rfl rfl ⟨rfl, rfl, rfl, rfl, rfl⟩ rfl rfl rfl rfl rfl (by kernel_rfl) Tryd.func3 (by kernel_rfl)
    (of_decide_eq_true (by kernel_rfl)) (by unfold Func.isWrapper; first | (rw [if_pos (by decide +kernel)]; kernel_rfl) | (rw [if_neg (by decide +kernel)]; exact ⟨rfl, rfl⟩))
    (fun os started H enc _ => lifted os started H enc)

/-- the statement -/
theorem proved : Rows.LexScansCardSaid :=
  Claim7.holds_tied_plain_at .later [] [.data, .data, .data, .sentinel, .sentinel] true (true, "a9755c1c0f88b364a01093ef6e9dee2a1cb3e8ed2faa419bde6e0218e56281e1") true
    over (fun _ h => by cases h) (by kernel_rfl) (fun _ h => by cases h) lexScans_row_tie rfl ⟨rfl, rfl⟩ (by kernel_rfl) rfl
    (fun f fn hf hfn => by
      obtain rfl : f = 3 := Option.some.inj ((show Tryd.prog.funcNamed "auspice/auspicelaw05.LexScans" = some 3 by kernel_rfl).symm.trans hf) |>.symm
      obtain rfl : fn = Tryd.f3 := (Option.some.inj (Tryd.func3.symm.trans hfn)).symm
      exact ⟨by kernel_rfl, fun j t ht => by
        rw [Tryd.params3] at ht
        have hm : t ∈ [9] := by simpa using Array.mem_of_getElem? ht
        have hall : ([9].all fun u => !Tryd.prog.wantsStandIn u) = true := by kernel_rfl
        exact (show Tryd.prog.wantsStandIn t = false by simpa using List.all_eq_true.1 hall t hm)⟩)
    (by kernel_rfl)
#print axioms proved
end Go.Proofs.YteojcohmocbakaaDoor.lexScans
