/- LexBlanks: of any byte: both packages tell alike whether it is a blank; alone it is read as blanks, as one token, or as none, at its place. -/
import Derived.Test.YteojcohmocbakaaDoorRows
import Derived.Test.YteojcohmocbakaaDoorCards
import Derived.Test.YteojcohmocbakaaDoorTie
import Derived.LaidMore
import Derived.Lay
import Derived.LaidLaws
import Derived.ChangeVars
import Derived.SevenTiedAt
import Derived.Stop.Joined
import Derived.Stop.LaidErr
import Derived.Lib.LaidTab
import Derived.Lib.ItoaNum
import Derived.WalkKit
import Derived.ProofKit
import Derived.OpenShut
import Derived.ShutString
import Derived.ChangeOld
import Derived.Below
import Derived.Lib.SmallJoins
import Derived.SizedLaws
import Derived.Test.YteojcohmocbakaaDoorLexB
namespace Go.Proofs.YteojcohmocbakaaDoor.lexBlanks
open Go.ChangeShapes Go.WideShapes Go.ChangeAt Go.RowKit Go.Joins
set_option linter.unusedVariables false
set_option linter.unusedSimpArgs false

theorem own : ownKnob Tryd.prog.godebug = none := by kernel_rfl
theorem laidOut : laidOutB Tryd.prog = true := by kernel_rfl

set_option maxHeartbeats 8000000 in
set_option maxRecDepth 100000 in
theorem walk (w : World) (htab : Lib.TabIs Tryd.prog w "internal/strconv.uint64pow10" .u64 Lib.pow10Tab) (hE : ErrCell w) (a0 : Int) (w0 : (Lit.int .u8 a0).wf = true) :
    Calls Tryd.prog 5 #[.int .u8 a0] w fun e w' => e = .returned (.bool true) ∧ Below w.heap.size w w' := by
  obtain ⟨n, rfl, hn⟩ := byte_nat w0
  have cv := digit_text w n hn
  have hd : (UInt8.ofNat n).toNat = n := by simp; omega
  obtain ⟨d, hdd⟩ : ∃ d, UInt8.ofNat n = d := ⟨_, rfl⟩
  rw [hdd] at cv hd
  have hdl : (⟨#[d]⟩ : ByteArray).data.toList = [d] := rfl
  have hsz : (⟨#[d]⟩ : ByteArray).size = 1 := rfl
  obtain ⟨s, hs⟩ : ∃ s, (⟨#[d]⟩ : ByteArray) = s := ⟨_, rfl⟩
  rw [hs] at cv hdl hsz
  have hu := m1 w (.cells #[.int .u8 (n : Int)] 5)
  have hEu := hE.later hu
  have CB := fun w => blank_any (n : Int) w
  have RB := fun w => rblank_any (n : Int) w
  clear hs hdd
  by_cases hb : blkC (n : Int) = true
  · have hS : ScanR 0 [d] [] (true, 1) := .blank 0 d [] [] _ (by rw [hd]; exact hb) (.fin 1)
    rw [← hdl] at hS
    have CS := scan_ok s [] 1 _ (by omega) hS hEu
    rw [hb] at CB RB
    replace CS := Lib.hid CS
    replace CB := Lib.hid CB
    replace RB := Lib.hid RB
    replace hsz := Lib.hid hsz
    clear hS hdl hd hb w0 htab
    go_enter Tryd.func5, Tryd.ntmps5
    go_wp2_with (first
      | (go_at_call 8; refine CS.out.mono ?_; rintro e w1 ⟨g, cap, rfl, hT, hb1⟩; simp only [List.length_nil, Nat.zero_add, List.nil_append] at hT ⊢; obtain ⟨g', cap', e1, k1, k2, k3, k4⟩ := hT; obtain ⟨_, _, _, _, c4⟩ := k4 0 _ rfl; cases e1; simp only [hsz.out, Nat.zero_mul, Nat.zero_add] at c4; have hE1 := hEu.later hb1; have hB1 := mmore hu hb1)
      | (go_at_call 14; refine (CB.out _).mono ?_; rintro e w2 ⟨rfl, rfl⟩)
      | (go_at_call 15; refine (RB.out _).mono ?_; rintro e w2 ⟨rfl, rfl⟩)
      | (go_at_call 10; refine (awake5 _ hE1).mono ?_; rintro e w3 ⟨rfl, hb3⟩; have c4 := cell_later hb3 c4; have hB3 := mmore hB1 hb3))
    go_ret
    exact ⟨rfl, hB3⟩
  · have hb' : blkC (n : Int) = false := by simpa using hb
    rw [hb'] at CB RB
    have hle := firstF_le [d]
    replace CB := Lib.hid CB
    replace RB := Lib.hid RB
    rw [← hd] at hb'
    clear hd hb w0 htab
    by_cases h0 : (firstF [d]).2 = 0
    · have hS : ScanR 0 [d] [] (false, 0) := .bad 0 d [] hb' h0
      rw [← hdl] at hS
      have CS := scan_bad s [] 0 _ (by omega) hS hEu
      replace CS := Lib.hid CS
      clear hS hdl hsz hle h0 hb'
      go_enter Tryd.func5, Tryd.ntmps5
      go_wp2_with (first
        | (go_at_call 8; refine CS.out.mono ?_; rintro e w1 ⟨rfl, hb1⟩; have hE1 := hEu.later hb1; have hB1 := mmore hu hb1)
        | (go_at_call 14; refine (CB.out _).mono ?_; rintro e w2 ⟨rfl, rfl⟩)
        | (go_at_call 15; refine (RB.out _).mono ?_; rintro e w2 ⟨rfl, rfl⟩)
        | (go_at_call 10; refine (awake5 _ hE1).mono ?_; rintro e w3 ⟨rfl, hb3⟩; have hB3 := mmore hB1 hb3))
      go_ret
      exact ⟨rfl, hB3⟩
    · have h1 : (firstF [d]).2 = 1 := by simp at hle; omega
      have hS : ScanR 0 [d] [((firstF [d]).1, 0)] (true, 1) := .tok 0 d [] [] (true, 1) hb' h0 (by rw [h1]; exact .fin 1)
      rw [← hdl] at hS
      have CS := scan_ok s _ 1 _ (by omega) hS hEu
      generalize (firstF s.data.toList).1 = X at *
      replace CS := Lib.hid CS
      replace hsz := Lib.hid hsz
      clear hS hdl hle h0 h1 hb'
      go_enter Tryd.func5, Tryd.ntmps5
      go_wp2_with (first
        | (go_at_call 8; refine CS.out.mono ?_; rintro e w1 ⟨g, cap, rfl, hT, hb1⟩; simp only [List.length_cons, List.length_nil, Nat.zero_add, Nat.reduceAdd, List.cons_append, List.nil_append] at hT ⊢; obtain ⟨g', cap', e1, k1, k2, k3, k4⟩ := hT; obtain ⟨_, _, _, _, c4⟩ := k4 0 _ rfl; cases e1; simp only [Nat.zero_mul, Nat.zero_add] at c4; have hE1 := hEu.later hb1; have hB1 := mmore hu hb1)
        | (go_at_call 14; refine (CB.out _).mono ?_; rintro e w2 ⟨rfl, rfl⟩)
        | (go_at_call 15; refine (RB.out _).mono ?_; rintro e w2 ⟨rfl, rfl⟩)
        | (go_at_call 10; refine (awake5 _ hE1).mono ?_; rintro e w3 ⟨rfl, hb3⟩; have c4 := cell_later hb3 c4; have hB3 := mmore hB1 hb3))
      go_ret
      exact ⟨rfl, hB3⟩

theorem laid_met (os : Os) (args : Array Value) : laidMetH Tryd.prog Rows.lexBlanksRow.laid ((World.laidAll Tryd.prog os Rows.lexBlanksRow.laid).forCall (fun _ _ => 0) ⟨#[], args, []⟩).memory := by
  rw [MakeChecks.laidMetH_plain _ _ _ (by kernel_rfl)]
  exact laidMet_laidAll _ (by kernel_rfl) (by kernel_rfl)
theorem gPow : Tryd.prog.globalNamed "internal/strconv.uint64pow10" = some 0 := by kernel_rfl
theorem tPow : (Tryd.prog.globals[0]?).map (·.type) = some 85 := by kernel_rfl
theorem of_laid {W : World} (h : laidMetH Tryd.prog Rows.lexBlanksRow.laid W) : Lib.TabIs Tryd.prog W "internal/strconv.uint64pow10" .u64 Lib.pow10Tab := by
  rw [MakeChecks.laidMetH_plain _ _ _ (by kernel_rfl)] at h
  have h2 : laidMet Tryd.prog (("internal/strconv.uint64pow10", Lib.tabData .u64 Lib.pow10Tab) :: Rows.lexBlanksRow.laid.drop 3) W := h.tail.tail
  exact Lib.tabIs_of_head gPow tPow Tryd.underlying85 Tryd.underlying52 (by kernel_rfl) (by kernel_rfl) h2

theorem gErr : Tryd.prog.globalNamed "strconv.ErrRange" = some 2 := by kernel_rfl
theorem tErr : (Tryd.prog.globals[2]?).map (·.type) = some 55 := by kernel_rfl
theorem star : "*" ++ "errors.errorString" = "*errors.errorString" := by decide
theorem rowErr (u : TypeId) (h : Tryd.prog.typeName? 3 u = some "*errors.errorString") : u = 110 :=
  typeName_ptr_named (nm := "errors.errorString") (by rw [star]; kernel_rfl) (by kernel_rfl) (by decide) u (by rw [star]; exact h)
theorem cellsErr : Tryd.prog.cellsOf 112 = 1 := by kernel_rfl
theorem cellsStr : Tryd.prog.cellsOf 9 = 1 := by kernel_rfl
theorem of_laid2 {W : World} (h : laidMetH Tryd.prog Rows.lexBlanksRow.laid W) : ErrCell W := by
  rw [MakeChecks.laidMetH_plain _ _ _ (by kernel_rfl)] at h
  have h2 : laidMet Tryd.prog (("strconv.ErrRange", .iface "*errors.errorString" (.ptr (.agg [.lit (.string [118, 97, 108, 117, 101, 32, 111, 117, 116, 32, 111, 102, 32, 114, 97, 110, 103, 101])]))) :: Rows.lexBlanksRow.laid.drop 4) W := h.tail.tail.tail
  obtain ⟨a, s, hv, _, _, _⟩ := laid_sentinel h2 gErr tErr Tryd.underlying55 rowErr Tryd.underlying110 Tryd.underlying112 rfl rfl Tryd.underlying9 cellsErr cellsStr
  exact ⟨_, by simpa using World.var?_cell gErr hv 0, .inr ⟨_, _, rfl⟩⟩

set_option maxRecDepth 100000 in
theorem lifted (os : Os) (started : os.Started) (H : Type) (enc : TypeId × Value → H) :
    ReturnsInHanded {} Tryd.checked os 5 .any (fun w args => (Rows.lexBlanksSpec.pre enc Tryd.prog Tryd.f5 [] false w args ∧ laidMetH Tryd.prog Rows.lexBlanksRow.laid w) ∧ sizedMet enc Tryd.prog Tryd.f5 (OpenSpec.ofChange Rows.lexBlanksSpec) false w args) (Rows.lexBlanksSpec.post enc Tryd.prog Tryd.f5 false true false false) := by
  refine returnsInHanded_of_change_and (C := Tryd.checked) (X := fun w _ => laidMetH Tryd.prog Rows.lexBlanksRow.laid w) (fun _ _ _ hh h => h.of_heap hh) own started (by kernel_rfl) Tryd.func5
    (ChangeSpec.witness_shaped (enc := enc) (C := Tryd.checked) (os := os) (X := fun w _ => laidMetH Tryd.prog Rows.lexBlanksRow.laid w) false (World.laidAll Tryd.prog os Rows.lexBlanksRow.laid) #[.int .u8 0] 8 (World.laidAll_os _ _ _) (World.shaped_of_ZipB (by kernel_rfl) (by kernel_rfl)) (by kernel_rfl) (by kernel_rfl) (by kernel_rfl) (laid_met os _)) ?_
  intro W base args ds gs before hval0 hW _ hsz0 hL _
  have hTab := of_laid hL
  have hErr := of_laid2 hL
  clear hL
  have hval : ∀ (j : Nat) t v, Tryd.f5.params[j]? = some t → args[j]? = some v → Value.okWide Tryd.prog W .any base t v := hval0
  have hW' := hW
  obtain ⟨p, q, hA0, hV, rfl, hfz, hnd⟩ := hW
  have hA : DataW.TrodAll enc Tryd.prog W 0 (fun _ => true) true Tryd.f5.params.toList args.toList ds p := hA0
  rw [Tryd.params5] at hA hval
  obtain ⟨v0, vs0, d0, ds0, p0, q0, hargs, rfl, rfl, h0, r0⟩ := trodAll_cons hA
  obtain ⟨rfl, rfl, rfl⟩ := trodAll_nil r0
  obtain rfl : args = #[v0] := by cases args; simp_all
  obtain ⟨rfl, rfl⟩ := trodVars_none hV
  have kk0 := h0
  have lt0 : ∀ x ∈ p0, x.block < W.heap.size := by obtain ⟨m, hm⟩ := kk0; exact DataW.trod_lt m _ _ _ hm
  obtain ⟨a0, rfl, rfl, rfl, w0⟩ := open_int Tryd.underlying5 (hval 0 5 v0 rfl rfl) h0
  clear hA0 hval0
  refine (walk W hTab hErr a0 w0).mono fun e W' ⟨he, bel⟩ => ?_
  subst he
  exact ⟨_, rfl, _, _, _, [], _, [], hW', trodAll_mk1 (shut_bool Tryd.underlying4 _), (trodAll_cons_mk (Below.trod laidOut (by kernel_rfl) (of_decide_eq_true (by kernel_rfl)) kk0 bel lt0) trodAll_mk0), rfl, bel.frame _, fun h => by cases h⟩

theorem over : Rows.lexBlanksRow.holds Tryd.pinned (OpenSpec.ofChange Rows.lexBlanksSpec) :=
  OpenClaim.holds_of_wide 5 Tryd.f5 rfl rfl rfl rfl rfl rfl rfl ⟨rfl, rfl, rfl, rfl, rfl⟩ rfl rfl rfl rfl rfl (by kernel_rfl) Tryd.func5 (by kernel_rfl)
    (of_decide_eq_true (by kernel_rfl)) (by unfold Func.isWrapper; first | (rw [if_pos (by decide +kernel)]; kernel_rfl) | (rw [if_neg (by decide +kernel)]; exact ⟨rfl, rfl⟩))
    (fun os started H enc _ => lifted os started H enc)

/-- the statement -/
theorem proved : Rows.LexBlanksCardSaid :=
  Claim7.holds_tied_plain_at .later [] [.data, .data, .data, .sentinel, .sentinel] true (true, "a9755c1c0f88b364a01093ef6e9dee2a1cb3e8ed2faa419bde6e0218e56281e1") true
    over (fun _ h => by cases h) (by kernel_rfl) (fun _ h => by cases h) lexBlanks_row_tie rfl ⟨rfl, rfl⟩ (by kernel_rfl) rfl
    (fun f fn hf hfn => by
      obtain rfl : f = 5 := Option.some.inj ((show Tryd.prog.funcNamed "auspice/auspicelaw05.LexBlanks" = some 5 by kernel_rfl).symm.trans hf) |>.symm
      obtain rfl : fn = Tryd.f5 := (Option.some.inj (Tryd.func5.symm.trans hfn)).symm
      exact ⟨by kernel_rfl, fun j t ht => by
        rw [Tryd.params5] at ht
        have hm : t ∈ [5] := by simpa using Array.mem_of_getElem? ht
        have hall : ([5].all fun u => !Tryd.prog.wantsStandIn u) = true := by kernel_rfl
        exact (show Tryd.prog.wantsStandIn t = false by simpa using List.all_eq_true.1 hall t hm)⟩)
    (by kernel_rfl)
#print axioms proved
end Go.Proofs.YteojcohmocbakaaDoor.lexBlanks
