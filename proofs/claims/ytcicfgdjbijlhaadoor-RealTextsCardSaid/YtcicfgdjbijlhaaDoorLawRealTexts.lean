/- RealTexts: the text of any float is the document's; read again it is the float; of any text: what is read of it is told by that text and by no other, and what isn't read is no float's text. -/
import Derived.Test.YtcicfgdjbijlhaaDoorRows
import Derived.Test.YtcicfgdjbijlhaaDoorCards
import Derived.Test.YtcicfgdjbijlhaaDoorTie
import Derived.LaidMore
import Derived.Lay
import Derived.LaidLaws
import Derived.ChangeVars
import Derived.SevenTiedAt
import Derived.Stop.Joined
import Derived.Stop.LaidErr
import Derived.Lib.LaidTab
import Derived.Lib.ItoaNum
import Derived.WalkKit
import Derived.ProofKit
import Derived.OpenShut
import Derived.ShutString
import Derived.ChangeOld
import Derived.Below
import Derived.Lib.SmallJoins
import Derived.SizedLaws
import Derived.Test.YtcicfgdjbijlhaaDoorTxC
namespace Go.Proofs.YtcicfgdjbijlhaaDoor.realTexts
open Go.ChangeShapes Go.WideShapes Go.ChangeAt Go.RowKit Go.Joins
set_option linter.unusedVariables false
set_option linter.unusedSimpArgs false

theorem own : ownKnob Tryd.prog.godebug = none := by kernel_rfl
theorem laidOut : laidOutB Tryd.prog = true := by kernel_rfl

set_option maxHeartbeats 8000000 in
set_option maxRecDepth 100000 in
theorem walk (w : World) (hT : TzCell w) (hE : ErrCells w) (a0 : Int) (w0 : (Lit.int .u64 a0).wf = true) (s1 : ByteArray) (w1 : s1.size ≤ 140737488351232) :
    Calls Tryd.prog 3 #[.int .u64 a0, .string s1] w fun e w' => e = .returned (.bool true) ∧ Below w.heap.size w w' := by
  obtain ⟨n, rfl, hn⟩ := u64_of_wf w0
  have hs : s1.size ≤ 281474976710656 := by omega
  have T1 := fun w h => text_any n w hn h
  have R1 := fun w => rtext_any n w hn
  have P1 := fun w h h2 => parse_yes n w hn h h2
  have C1 := fun w => rcanon_any n w hn
  have hx := fun w => hex_any s1 w hs
  by_cases hy : ∃ m, m < 18446744073709551616 ∧ textOf m = s1
  · obtain ⟨m, hm, rfl⟩ := hy
    have T2 : ∀ w1, TzCell w1 → Calls Tryd.prog 4 #[.int .u64 ((cn m : Nat) : Int)] w1 fun e w' => e = .returned (.string (textOf m)) ∧ Below w1.heap.size w1 w' := fun w1 h => by
      have := text_any (cn m) w1 (cn_lt hm) h
      rw [textOf_cn] at this
      exact this
    have P2 := fun w h h2 => parse_yes m w hm h h2
    have C2 : ∀ w1, Calls Tryd.prog 7 #[.int .u64 ((cn m : Nat) : Int)] w1 fun e w' => e = .returned (.int .u64 ((cn m : Nat) : Int)) ∧ w1 = w' := fun w1 => by
      have := rcanon_any (cn m) w1 (cn_lt hm)
      rw [cn_cn] at this
      exact this
    generalize textOf m = S2 at *
    generalize textOf n = S1 at *
    generalize cn n = c1 at *
    generalize cn m = c2 at *
    replace T1 := Lib.hid T1
    replace R1 := Lib.hid R1
    replace P1 := Lib.hid P1
    replace C1 := Lib.hid C1
    replace T2 := Lib.hid T2
    replace P2 := Lib.hid P2
    replace C2 := Lib.hid C2
    clear hx hs w1
    go_enter Tryd.func3, Tryd.ntmps3
    go_wp2_with fail
    refine (T1.out _ hT).mono ?_; rintro e w1 ⟨rfl, hb1⟩
    have hT1 := hT.later hb1
    have hE1 := hE.later hb1
    go_wp2_with fail
    refine (P1.out _ hT1 hE1).mono ?_; rintro e w2 ⟨rfl, hb2⟩
    have hT2 := hT1.later hb2
    have hE2 := hE1.later hb2
    go_wp2_with (first | (go_at_call 6; refine (R1.out _).mono ?_; rintro e w3 ⟨rfl, rfl⟩) | (go_at_call 7; refine (C1.out _).mono ?_; rintro e w3 ⟨rfl, rfl⟩) | fail)
    refine (P2.out _ hT2 hE2).mono ?_; rintro e w3 ⟨rfl, hb3⟩
    have hT3 := hT2.later hb3
    go_wp2_with (first | (go_at_call 4; refine (T2.out _ hT3).mono ?_; rintro e w4 ⟨rfl, hb4⟩) | (go_at_call 7; refine (C2.out _).mono ?_; rintro e w5 ⟨rfl, rfl⟩) | fail)
    go_ret
    exact ⟨rfl, mmore (mmore (mmore hb1 hb2) hb3) hb4⟩
  · have hno : ∀ m, m < 18446744073709551616 → textOf m ≠ s1 := fun m hm h => hy ⟨m, hm, h⟩
    have P2 := fun w h h2 => parse_no s1 w hs hno h h2
    have R2 : ∀ m w1, m < 18446744073709551616 → Calls Tryd.prog 6 #[.int .u64 ((m : Nat) : Int)] w1 fun e w' => (∃ x, e = .returned (.string x) ∧ (s1.toList == x.toList) = false) ∧ w1 = w' := fun m w1 hm =>
      (rtext_any m w1 hm).mono fun e w' ⟨he, hb⟩ => ⟨⟨_, he, toList_ne (fun h => hno m hm h.symm)⟩, hb⟩
    generalize textOf n = S1 at *
    generalize cn n = c1 at *
    replace T1 := Lib.hid T1
    replace R1 := Lib.hid R1
    replace P1 := Lib.hid P1
    replace C1 := Lib.hid C1
    replace R2 := Lib.hid R2
    replace P2 := Lib.hid P2
    replace hx := Lib.hid hx
    clear hno hy hs w1
    go_enter Tryd.func3, Tryd.ntmps3
    go_wp2_with fail
    refine (T1.out _ hT).mono ?_; rintro e w1 ⟨rfl, hb1⟩
    have hT1 := hT.later hb1
    have hE1 := hE.later hb1
    go_wp2_with fail
    refine (P1.out _ hT1 hE1).mono ?_; rintro e w2 ⟨rfl, hb2⟩
    have hT2 := hT1.later hb2
    have hE2 := hE1.later hb2
    go_wp2_with (first | (go_at_call 6; refine (R1.out _).mono ?_; rintro e w3 ⟨rfl, rfl⟩) | (go_at_call 7; refine (C1.out _).mono ?_; rintro e w3 ⟨rfl, rfl⟩) | fail)
    refine (P2.out _ hT2 hE2).mono ?_; rintro e w3 ⟨rfl, hb3⟩
    by_cases h17 : (s1.size : Int) = 17
    · go_wp2_with (first | (go_at_call 8; refine (hx.out _).mono ?_; rintro e w4 ⟨⟨m, hm, rfl⟩, rfl⟩) | (go_at_call 6; refine (R2.out m _ hm).mono ?_; rintro e w5 ⟨⟨x, rfl, hxs⟩, rfl⟩) | fail)
      all_goals (go_ret; exact ⟨rfl, mmore (mmore hb1 hb2) hb3⟩)
    · go_wp2_with (first | (go_at_call 8; refine (hx.out _).mono ?_; rintro e w4 ⟨⟨m, hm, rfl⟩, rfl⟩) | (go_at_call 6; refine (R2.out m _ hm).mono ?_; rintro e w5 ⟨⟨x, rfl, hxs⟩, rfl⟩) | fail)
      all_goals (go_ret; exact ⟨rfl, mmore (mmore hb1 hb2) hb3⟩)

theorem laid_met (os : Os) (args : Array Value) : laidMetH Tryd.prog Rows.realTextsRow.laid ((World.laidAll Tryd.prog os Rows.realTextsRow.laid).forCall (fun _ _ => 0) ⟨#[], args, []⟩).memory := by
  rw [MakeChecks.laidMetH_plain _ _ _ (by kernel_rfl)]
  exact laidMet_laidAll _ (by kernel_rfl) (by kernel_rfl)
def tzTab : List Int := [0, 1, 56, 2, 57, 49, 28, 3, 61, 58, 42, 50, 38, 29, 17, 4, 62, 47, 59, 36, 45, 43, 51, 22, 53, 39, 33, 30, 24, 18, 12, 5, 63, 55, 48, 27, 60, 41, 37, 16, 46, 35, 44, 21, 52, 32, 23, 11, 54, 26, 40, 15, 34, 20, 31, 10, 25, 14, 19, 9, 13, 8, 7, 6]
theorem gTz : Tryd.prog.globalNamed "math/bits.deBruijn64tab" = some 6 := by kernel_rfl
theorem tTz : (Tryd.prog.globals[6]?).map (·.type) = some 90 := by kernel_rfl
theorem of_laid {W : World} (h : laidMetH Tryd.prog Rows.realTextsRow.laid W) : TzCell W := by
  rw [MakeChecks.laidMetH_plain _ _ _ (by kernel_rfl)] at h
  have h2 : laidMet Tryd.prog (("math/bits.deBruijn64tab", Lib.tabData .u8 tzTab) :: Rows.realTextsRow.laid.drop 2) W := h.tail
  have h3 := Lib.tabIs_of_head gTz tTz Tryd.underlying90 Tryd.underlying5 (by kernel_rfl) (by kernel_rfl) h2
  unfold Lib.TabIs at h3
  have h4 := World.var?_cell gTz h3 15
  exact h4.trans (by kernel_rfl)

theorem gErr : Tryd.prog.globalNamed "strconv.ErrRange" = some 3 := by kernel_rfl
theorem tErr : (Tryd.prog.globals[3]?).map (·.type) = some 32 := by kernel_rfl
theorem gSyn : Tryd.prog.globalNamed "strconv.ErrSyntax" = some 2 := by kernel_rfl
theorem tSyn : (Tryd.prog.globals[2]?).map (·.type) = some 32 := by kernel_rfl
theorem star : "*" ++ "errors.errorString" = "*errors.errorString" := by decide
theorem rowErr (u : TypeId) (h : Tryd.prog.typeName? 3 u = some "*errors.errorString") : u = 86 :=
  typeName_ptr_named (nm := "errors.errorString") (by rw [star]; kernel_rfl) (by kernel_rfl) (by decide) u (by rw [star]; exact h)
theorem cellsErr : Tryd.prog.cellsOf 88 = 1 := by kernel_rfl
theorem cellsStr : Tryd.prog.cellsOf 9 = 1 := by kernel_rfl
theorem of_laid2 {W : World} (h : laidMetH Tryd.prog Rows.realTextsRow.laid W) : ErrCells W := by
  rw [MakeChecks.laidMetH_plain _ _ _ (by kernel_rfl)] at h
  have h2 : laidMet Tryd.prog (("strconv.ErrRange", .iface "*errors.errorString" (.ptr (.agg [.lit (.string [118, 97, 108, 117, 101, 32, 111, 117, 116, 32, 111, 102, 32, 114, 97, 110, 103, 101])]))) :: Rows.realTextsRow.laid.drop 4) W := h.tail.tail.tail
  have h3 : laidMet Tryd.prog (("strconv.ErrSyntax", .iface "*errors.errorString" (.ptr (.agg [.lit (.string [105, 110, 118, 97, 108, 105, 100, 32, 115, 121, 110, 116, 97, 120])]))) :: Rows.realTextsRow.laid.drop 5) W := h.tail.tail.tail.tail
  obtain ⟨a, s, hv, _, _, _⟩ := laid_sentinel h2 gErr tErr Tryd.underlying32 rowErr Tryd.underlying86 Tryd.underlying88 rfl rfl Tryd.underlying9 cellsErr cellsStr
  obtain ⟨a', s', hv', _, _, _⟩ := laid_sentinel h3 gSyn tSyn Tryd.underlying32 rowErr Tryd.underlying86 Tryd.underlying88 rfl rfl Tryd.underlying9 cellsErr cellsStr
  exact ⟨⟨_, by simpa using World.var?_cell gSyn hv' 0, .inr ⟨_, _, rfl⟩⟩, ⟨_, by simpa using World.var?_cell gErr hv 0, .inr ⟨_, _, rfl⟩⟩⟩

set_option maxRecDepth 100000 in
theorem lifted (os : Os) (started : os.Started) (H : Type) (enc : TypeId × Value → H) :
    ReturnsInHanded {} Tryd.checked os 3 .any (fun w args => (Rows.realTextsSpec.pre enc Tryd.prog Tryd.f3 [] false w args ∧ laidMetH Tryd.prog Rows.realTextsRow.laid w) ∧ sizedMet enc Tryd.prog Tryd.f3 (OpenSpec.ofChange Rows.realTextsSpec) false w args) (Rows.realTextsSpec.post enc Tryd.prog Tryd.f3 false true false false) := by
  refine returnsInHanded_of_change_and (C := Tryd.checked) (X := fun w _ => laidMetH Tryd.prog Rows.realTextsRow.laid w) (fun _ _ _ hh h => h.of_heap hh) own started (by kernel_rfl) Tryd.func3
    (ChangeSpec.witness_shaped (enc := enc) (C := Tryd.checked) (os := os) (X := fun w _ => laidMetH Tryd.prog Rows.realTextsRow.laid w) false (World.laidAll Tryd.prog os Rows.realTextsRow.laid) #[.int .u64 0, .string ⟨#[]⟩] 8 (World.laidAll_os _ _ _) (World.shaped_of_ZipB (by kernel_rfl) (by kernel_rfl)) (by kernel_rfl) (by kernel_rfl) (by kernel_rfl) (laid_met os _)) ?_
  intro W base args ds gs before hval0 hW _ hsz0 hL _
  have hTab := of_laid hL
  have hErr := of_laid2 hL
  clear hL
  have hsz : (DataW.weightsEach Tryd.prog (Tryd.f3.params.toList ++ Rows.realTextsSpec.plain.varTypes Tryd.prog) (ds ++ gs)).all (· ≤ reachBytes) = true := hsz0
  clear hsz0
  have hval : ∀ (j : Nat) t v, Tryd.f3.params[j]? = some t → args[j]? = some v → Value.okWide Tryd.prog W .any base t v := hval0
  have hW' := hW
  obtain ⟨p, q, hA0, hV, rfl, hfz, hnd⟩ := hW
  have hA : DataW.TrodAll enc Tryd.prog W 0 (fun _ => true) true Tryd.f3.params.toList args.toList ds p := hA0
  rw [Tryd.params3] at hA hval hsz
  obtain ⟨v0, vs0, d0, ds0, p0, q0, hargs, rfl, rfl, h0, r0⟩ := trodAll_cons hA
  obtain ⟨v1, vs1, d1, ds1, p1, q1, rfl, rfl, rfl, h1, r1⟩ := trodAll_cons r0
  obtain ⟨rfl, rfl, rfl⟩ := trodAll_nil r1
  obtain rfl : args = #[v0, v1] := by cases args; simp_all
  obtain ⟨rfl, rfl⟩ := trodVars_none hV
  have kk0 := h0
  have lt0 : ∀ x ∈ p0, x.block < W.heap.size := by obtain ⟨m, hm⟩ := kk0; exact DataW.trod_lt m _ _ _ hm
  have kk1 := h1
  have lt1 : ∀ x ∈ p1, x.block < W.heap.size := by obtain ⟨m, hm⟩ := kk1; exact DataW.trod_lt m _ _ _ hm
  obtain ⟨a0, rfl, rfl, rfl, w0⟩ := open_int Tryd.underlying22 (hval 0 22 v0 rfl rfl) h0
  obtain ⟨s1, rfl, rfl, rfl, w1⟩ := Go.ChangeMaps.open_string Tryd.underlying9 (hval 1 9 v1 rfl rfl) h1
  have z1 : s1.size ≤ 140737488351232 := by
    have hz := sized_string hsz (j := 1) (t := 9) rfl rfl
    rw [Array.length_toList] at hz
    exact hz
  clear hA0 hval0
  refine (walk W hTab hErr a0 w0 s1 z1).mono fun e W' ⟨he, bel⟩ => ?_
  subst he
  exact ⟨_, rfl, _, _, _, [], _, [], hW', trodAll_mk1 (shut_bool Tryd.underlying4 _), (trodAll_cons_mk (Below.trod laidOut (by kernel_rfl) (of_decide_eq_true (by kernel_rfl)) kk0 bel lt0) (trodAll_cons_mk (Below.trod laidOut (by kernel_rfl) (of_decide_eq_true (by kernel_rfl)) kk1 bel lt1) trodAll_mk0)), rfl, bel.frame _, fun h => by cases h⟩

theorem over : Rows.realTextsRow.holds Tryd.pinned (OpenSpec.ofChange Rows.realTextsSpec) :=
  OpenClaim.holds_of_wide 3 Tryd.f3 rfl rfl rfl rfl rfl rfl rfl ⟨rfl, rfl, rfl, rfl, rfl⟩ rfl rfl rfl rfl rfl (by kernel_rfl) Tryd.func3 (by kernel_rfl)
    (of_decide_eq_true (by kernel_rfl)) (by unfold Func.isWrapper; first | (rw [if_pos (by decide +kernel)]; kernel_rfl) | (rw [if_neg (by decide +kernel)]; exact ⟨rfl, rfl⟩))
    (fun os started H enc _ => lifted os started H enc)

/-- the statement -/
theorem proved : Rows.RealTextsCardSaid :=
  Claim7.holds_tied_plain_at .later [] [.data, .data, .data, .sentinel, .sentinel] true (true, "d691b640b8cd9a8c9f0ff3630110598a999e6c5775d93cc3d5245271584b166b") true
    over (fun _ h => by cases h) (by kernel_rfl) (fun _ h => by cases h) realTexts_row_tie rfl ⟨rfl, rfl⟩ (by kernel_rfl) rfl
    (fun f fn hf hfn => by
      obtain rfl : f = 3 := Option.some.inj ((show Tryd.prog.funcNamed "auspice/auspicelaw01.RealTexts" = some 3 by kernel_rfl).symm.trans hf) |>.symm
      obtain rfl : fn = Tryd.f3 := (Option.some.inj (Tryd.func3.symm.trans hfn)).symm
      exact ⟨by kernel_rfl, fun j t ht => by
        rw [Tryd.params3] at ht
        have hm : t ∈ [22, 9] := by simpa using Array.mem_of_getElem? ht
        have hall : ([22, 9].all fun u => !Tryd.prog.wantsStandIn u) = true := by kernel_rfl
        exact (show Tryd.prog.wantsStandIn t = false by simpa using List.all_eq_true.1 hall t hm)⟩)
    (by kernel_rfl)
#print axioms proved
end Go.Proofs.YtcicfgdjbijlhaaDoor.realTexts
