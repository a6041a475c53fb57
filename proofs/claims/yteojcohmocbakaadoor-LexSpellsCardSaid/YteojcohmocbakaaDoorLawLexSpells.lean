/- LexSpells: each token of any text is spelt as the document spells it, and its bytes stand at its place in the text; where the scan fails there are no tokens. -/
import Derived.Test.YteojcohmocbakaaDoorRows
import Derived.Test.YteojcohmocbakaaDoorCards
import Derived.Test.YteojcohmocbakaaDoorTie
import Derived.LaidMore
import Derived.Lay
import Derived.LaidLaws
import Derived.ChangeVars
import Derived.SevenTiedAt
import Derived.Stop.Joined
import Derived.Stop.LaidErr
import Derived.Lib.LaidTab
import Derived.Lib.ItoaNum
import Derived.WalkKit
import Derived.ProofKit
import Derived.OpenShut
import Derived.ShutString
import Derived.ChangeOld
import Derived.Below
import Derived.Lib.SmallJoins
import Derived.SizedLaws
import Derived.Test.YteojcohmocbakaaDoorLexL
namespace Go.Proofs.YteojcohmocbakaaDoor.lexSpells
open Go.ChangeShapes Go.WideShapes Go.ChangeAt Go.RowKit Go.Joins
set_option linter.unusedVariables false
set_option linter.unusedSimpArgs false

theorem own : ownKnob Tryd.prog.godebug = none := by kernel_rfl
theorem laidOut : laidOutB Tryd.prog = true := by kernel_rfl

set_option maxHeartbeats 8000000 in
set_option maxRecDepth 100000 in
theorem walk (w : World) (htab : Lib.TabIs Tryd.prog w "internal/strconv.uint64pow10" .u64 Lib.pow10Tab) (hE : ErrCell w) (s0 : ByteArray) (w0 : s0.size ≤ maxLen) :
    Calls Tryd.prog 4 #[.string s0] w fun e w' => e = .returned (.bool true) ∧ Below w.heap.size w w' := by
  obtain ⟨T, e, hS⟩ := ScanR.some_ s0.data.toList.length s0.data.toList 0 (Nat.le_refl _)
  by_cases hl : s0.size ≤ 4000
  · obtain ⟨ok, p⟩ := e
    cases ok
    · have CS := fun w hE => scan_bad s0 T p w hl hS hE
      have RS := fun w => rscan_bad s0 T p w hl hS
      replace CS := Lib.hid CS
      replace RS := Lib.hid RS
      clear hS hl htab w0
      go_enter Tryd.func4, Tryd.ntmps4
      go_wp2_with fail
      refine (CS.out _ hE).mono ?_; rintro e w1 ⟨rfl, hb1⟩
      have hE1 := hE.later hb1
      go_wp2_with fail
      refine (RS.out _).mono ?_; rintro e w2 ⟨rfl, hb2⟩
      have hE2 := hE1.later hb2
      have hB2 := mmore hb1 hb2
      go_wp2_with fail
      refine (awake5 _ hE2).mono ?_; rintro e w3 ⟨rfl, hb3⟩
      have hB3 := mmore hB2 hb3
      go_wp2
      go_ret
      exact ⟨rfl, hB3⟩
    · have CS := fun w hE => scan_ok s0 T p w hl hS hE
      have RS := fun w => rscan_ok s0 T p w hl hS
      have SP := spelt_at hS
      have hsz : (T ++ [((⟨0, [], 0, 0⟩ : Tok), s0.size)]).length = T.length + 1 := by simp
      generalize T ++ [((⟨0, [], 0, 0⟩ : Tok), s0.size)] = L at *
      simp only [← hsz] at CS RS
      have hL1 : 1 ≤ L.length := by omega
      replace CS := Lib.hid CS
      replace RS := Lib.hid RS
      replace SP := Lib.hid SP
      clear hS w0 hsz
      go_enter Tryd.func4, Tryd.ntmps4
      go_wp2_with fail
      refine (CS.out _ hE).mono ?_; rintro e w1 ⟨g, cap, rfl, hT1, hb1⟩
      have hE1 := hE.later hb1
      have ht1 := Tab.later htab hb1
      replace hT1 := Lib.hid hT1
      go_wp2_with fail
      refine (RS.out _).mono ?_; rintro e w2 ⟨g2, cap2, rfl, hT2, hb2⟩
      have hE2 := Lib.hid (hE1.later hb2)
      have ht2 := Lib.hid (ht1.later hb2)
      have hB2 := mmore hb1 hb2
      have hT1 := hT1.out.later hb2
      obtain ⟨ga, ca, e1, k1, k2, k3, k4⟩ := hT1
      obtain ⟨gb, cb, e2, l1, l2, l3, l4⟩ := hT2
      cases e1
      cases e2
      replace k4 := Lib.hid k4
      replace l4 := Lib.hid l4
      have n3 : cap ≤ 9223372036854775807 := by unfold maxLen at k2; omega
      have n4 : cap2 ≤ 9223372036854775807 := by unfold maxLen at l2; omega
      go_wp2_with fail
      go_loopw [39] (fun i wr => ∃ k : Nat, k ≤ L.length ∧ i = .int .i64 (k : Int) ∧ Below w2.heap.size w2 wr) (fun i _ => L.length - (intOf i).toNat)
      case atStart => exact ⟨0, Nat.zero_le _, rfl, Below.refl _ _⟩
      case round =>
        obtain ⟨k, hk, rfl, hB⟩ := hrel
        by_cases hlt : k < L.length
        · have hp : L[k]? = some L[k] := List.getElem?_eq_getElem hlt
          obtain ⟨a0, a1, a2, a3, a4⟩ := k4.out k _ hp
          obtain ⟨b0, b1, b2, b3, b4⟩ := l4.out k _ hp
          obtain ⟨z, hz1, hz2, hz3⟩ := SP.out _ (List.getElem_mem hlt)
          generalize L[k] = p at *
          obtain ⟨⟨kd, t, n, sc⟩, at_⟩ := p
          simp only at a0 a1 a2 a3 a4 b0 b1 b2 b3 b4 hz2 hz3
          obtain ⟨S1, S2⟩ := spelt_both hz1 (by omega)
          have S1 : ∀ w, Tab w → Calls Tryd.prog 12 #[.agg #[.int .i64 kd, .string (ba t), .int .i64 n, .int .i64 sc, .int .i64 (at_ : Int)]] w fun e w' => e = .returned (.string (ba z)) ∧ Below w.heap.size w w' := fun w h => S1 at_ w h
          have S2 : ∀ w, Calls Tryd.prog 13 #[.agg #[.int .i64 kd, .string (ba t), .int .i64 n, .int .i64 sc, .int .i64 (at_ : Int)]] w fun e w' => e = .returned (.string (ba z)) ∧ Below w.heap.size w w' := fun w => S2 at_ w
          have hyz := ba_size z
          obtain ⟨b, hb⟩ : ∃ b : Nat, b = at_ + z.length := ⟨_, rfl⟩
          rw [← hb] at hz3 hz2
          have hwb : IntKind.i64.wrap ((at_ : Int) + ((ba z).size : Int)) = (b : Int) := by rw [IntKind.wrap_i64]; omega
          have hws : IntKind.i64.wrap ((s0.size : Int) - ((ba z).size : Int)) = (s0.size : Int) - ((ba z).size : Int) := by rw [IntKind.wrap_i64]; omega
          have x1 : ¬ (at_ : Int) < 0 := by omega
          have x2 : ¬ (at_ : Int) > (s0.size : Int) - ((ba z).size : Int) := by omega
          have x3 : (0 : Int) ≤ (at_ : Int) := by omega
          have x4 : (at_ : Int) ≤ (b : Int) := by omega
          have x5 : (b : Int) ≤ (s0.size : Int) := by omega
          have x6 : ((s0.extract at_ b).toList == (ba z).toList) = true := by rw [hz3]; simp
          have x7 : ((s0.extract at_ b).toList != (ba z).toList) = false := by rw [hz3]; simp
          clear hz1 hz3 hb hyz hz2 hp
          replace S1 := Lib.hid S1
          replace S2 := Lib.hid S2
          have hz := (by omega : (k : Int) < (L.length : Int))
          have hz0 : (0 : Int) ≤ (k : Int) := by omega
          have a0 := cell_later hB a0
          have a1 := cell_later hB a1
          have a2 := cell_later hB a2
          have a3 := cell_later hB a3
          have a4 := cell_later hB a4
          have g1 := mblock a0
          go_upto_region 10 with (fail)
          have hu := m1 wr (.cells #[.int .i64 kd, .string (ba t), .int .i64 n, .int .i64 sc, .int .i64 (at_ : Int)] 33)
          have hB2' := mmore hB hu
          have c0 : (wr.alloc (.cells #[.int .i64 kd, .string (ba t), .int .i64 n, .int .i64 sc, .int .i64 (at_ : Int)] 33)).cell? ⟨wr.heap.size, 0, none⟩ = some (.int .i64 kd) := by simp [go_sem]
          have c1 : (wr.alloc (.cells #[.int .i64 kd, .string (ba t), .int .i64 n, .int .i64 sc, .int .i64 (at_ : Int)] 33)).cell? ⟨wr.heap.size, 1, none⟩ = some (.string (ba t)) := by simp [go_sem]
          have c2 : (wr.alloc (.cells #[.int .i64 kd, .string (ba t), .int .i64 n, .int .i64 sc, .int .i64 (at_ : Int)] 33)).cell? ⟨wr.heap.size, 2, none⟩ = some (.int .i64 n) := by simp [go_sem]
          have c3 : (wr.alloc (.cells #[.int .i64 kd, .string (ba t), .int .i64 n, .int .i64 sc, .int .i64 (at_ : Int)] 33)).cell? ⟨wr.heap.size, 3, none⟩ = some (.int .i64 sc) := by simp [go_sem]
          have c4 : (wr.alloc (.cells #[.int .i64 kd, .string (ba t), .int .i64 n, .int .i64 sc, .int .i64 (at_ : Int)] 33)).cell? ⟨wr.heap.size, 4, none⟩ = some (.int .i64 (at_ : Int)) := by simp [go_sem]
          have htu := ht2.out.later hB2'
          generalize wr.alloc (.cells #[.int .i64 kd, .string (ba t), .int .i64 n, .int .i64 sc, .int .i64 (at_ : Int)] 33) = u at *
          generalize wr.heap.size = q at *
          clear a0 a1 a2 a3 a4 hB hu g1
          generalize ba t = tt at *
          generalize ba z = y at *
          have C1 := Lib.hid (S1.out u htu)
          clear S1 htu
          go_wp2_with fail
          refine C1.out.mono ?_; rintro e w4 ⟨rfl, hb4⟩
          have hB4 := mmore hB2' hb4
          have c4 := cell_later hb4 c4
          have b0 := cell_later hB4 b0
          have b1 := cell_later hB4 b1
          have b2 := cell_later hB4 b2
          have b3 := cell_later hB4 b3
          have b4 := cell_later hB4 b4
          have g2' := mblock b0
          clear C1 c0 c1 c2 c3 hB2' hb4
          go_wp2_with fail
          refine (S2.out _).mono ?_; rintro e w5 ⟨rfl, hb5⟩
          have hB5 := mmore hB4 hb5
          have c4 := cell_later hb5 c4
          clear S2 b0 b1 b2 b3 b4 hB4 hb5
          go_wp2_with fail
          go_roundw
          case rel => exact ⟨k + 1, by omega, by go_num, hB5⟩
          case measure => simp [intOf]; omega
        · obtain rfl : k = L.length := by omega
          go_wp2_with fail
          refine (awake5 _ (hE2.out.later hB)).mono ?_; rintro e w3 ⟨rfl, hb3⟩
          have hB3 := (mmore hB2 hB).trans (hb3.mono (mmore hB2 hB).size)
          go_wp2
          go_ret
          exact ⟨rfl, hB3⟩
  · have CS := fun w => scan_long s0 w hl
    have RS := fun w => rscan_long s0 w hl
    replace CS := Lib.hid CS
    replace RS := Lib.hid RS
    clear hS hl htab w0
    go_enter Tryd.func4, Tryd.ntmps4
    go_wp2_with fail
    refine (CS.out _).mono ?_; rintro e w1 ⟨rfl, rfl⟩
    go_wp2_with fail
    refine (RS.out _).mono ?_; rintro e w2 ⟨rfl, rfl⟩
    go_wp2_with fail
    refine (awake5 _ hE).mono ?_; rintro e w3 ⟨rfl, hb3⟩
    go_wp2
    go_ret
    exact ⟨rfl, hb3⟩

theorem laid_met (os : Os) (args : Array Value) : laidMetH Tryd.prog Rows.lexSpellsRow.laid ((World.laidAll Tryd.prog os Rows.lexSpellsRow.laid).forCall (fun _ _ => 0) ⟨#[], args, []⟩).memory := by
  rw [MakeChecks.laidMetH_plain _ _ _ (by kernel_rfl)]
  exact laidMet_laidAll _ (by kernel_rfl) (by kernel_rfl)
theorem gPow : Tryd.prog.globalNamed "internal/strconv.uint64pow10" = some 0 := by kernel_rfl
theorem tPow : (Tryd.prog.globals[0]?).map (·.type) = some 85 := by kernel_rfl
theorem of_laid {W : World} (h : laidMetH Tryd.prog Rows.lexSpellsRow.laid W) : Lib.TabIs Tryd.prog W "internal/strconv.uint64pow10" .u64 Lib.pow10Tab := by
  rw [MakeChecks.laidMetH_plain _ _ _ (by kernel_rfl)] at h
  have h2 : laidMet Tryd.prog (("internal/strconv.uint64pow10", Lib.tabData .u64 Lib.pow10Tab) :: Rows.lexSpellsRow.laid.drop 3) W := h.tail.tail
  exact Lib.tabIs_of_head gPow tPow Tryd.underlying85 Tryd.underlying52 (by kernel_rfl) (by kernel_rfl) h2

theorem gErr : Tryd.prog.globalNamed "strconv.ErrRange" = some 2 := by kernel_rfl
theorem tErr : (Tryd.prog.globals[2]?).map (·.type) = some 55 := by kernel_rfl
theorem star : "*" ++ "errors.errorString" = "*errors.errorString" := by decide
theorem rowErr (u : TypeId) (h : Tryd.prog.typeName? 3 u = some "*errors.errorString") : u = 110 :=
  typeName_ptr_named (nm := "errors.errorString") (by rw [star]; kernel_rfl) (by kernel_rfl) (by decide) u (by rw [star]; exact h)
theorem cellsErr : Tryd.prog.cellsOf 112 = 1 := by kernel_rfl
theorem cellsStr : Tryd.prog.cellsOf 9 = 1 := by kernel_rfl
theorem of_laid2 {W : World} (h : laidMetH Tryd.prog Rows.lexSpellsRow.laid W) : ErrCell W := by
  rw [MakeChecks.laidMetH_plain _ _ _ (by kernel_rfl)] at h
  have h2 : laidMet Tryd.prog (("strconv.ErrRange", .iface "*errors.errorString" (.ptr (.agg [.lit (.string [118, 97, 108, 117, 101, 32, 111, 117, 116, 32, 111, 102, 32, 114, 97, 110, 103, 101])]))) :: Rows.lexSpellsRow.laid.drop 4) W := h.tail.tail.tail
  obtain ⟨a, s, hv, _, _, _⟩ := laid_sentinel h2 gErr tErr Tryd.underlying55 rowErr Tryd.underlying110 Tryd.underlying112 rfl rfl Tryd.underlying9 cellsErr cellsStr
  exact ⟨_, by simpa using World.var?_cell gErr hv 0, .inr ⟨_, _, rfl⟩⟩

set_option maxRecDepth 100000 in
theorem lifted (os : Os) (started : os.Started) (H : Type) (enc : TypeId × Value → H) :
    ReturnsInHanded {} Tryd.checked os 4 .any (fun w args => (Rows.lexSpellsSpec.pre enc Tryd.prog Tryd.f4 [] false w args ∧ laidMetH Tryd.prog Rows.lexSpellsRow.laid w) ∧ sizedMet enc Tryd.prog Tryd.f4 (OpenSpec.ofChange Rows.lexSpellsSpec) false w args) (Rows.lexSpellsSpec.post enc Tryd.prog Tryd.f4 false true false false) := by
  refine returnsInHanded_of_change_and (C := Tryd.checked) (X := fun w _ => laidMetH Tryd.prog Rows.lexSpellsRow.laid w) (fun _ _ _ hh h => h.of_heap hh) own started (by kernel_rfl) Tryd.func4
    (ChangeSpec.witness_shaped (enc := enc) (C := Tryd.checked) (os := os) (X := fun w _ => laidMetH Tryd.prog Rows.lexSpellsRow.laid w) false (World.laidAll Tryd.prog os Rows.lexSpellsRow.laid) #[.string ⟨#[]⟩] 8 (World.laidAll_os _ _ _) (World.shaped_of_ZipB (by kernel_rfl) (by kernel_rfl)) (by kernel_rfl) (by kernel_rfl) (by kernel_rfl) (laid_met os _)) ?_
  intro W base args ds gs before hval0 hW _ hsz0 hL _
  have hTab := of_laid hL
  have hErr := of_laid2 hL
  clear hL
  have hval : ∀ (j : Nat) t v, Tryd.f4.params[j]? = some t → args[j]? = some v → Value.okWide Tryd.prog W .any base t v := hval0
  have hW' := hW
  obtain ⟨p, q, hA0, hV, rfl, hfz, hnd⟩ := hW
  have hA : DataW.TrodAll enc Tryd.prog W 0 (fun _ => true) true Tryd.f4.params.toList args.toList ds p := hA0
  rw [Tryd.params4] at hA hval
  obtain ⟨v0, vs0, d0, ds0, p0, q0, hargs, rfl, rfl, h0, r0⟩ := trodAll_cons hA
  obtain ⟨rfl, rfl, rfl⟩ := trodAll_nil r0
  obtain rfl : args = #[v0] := by cases args; simp_all
  obtain ⟨rfl, rfl⟩ := trodVars_none hV
  have kk0 := h0
  have lt0 : ∀ x ∈ p0, x.block < W.heap.size := by obtain ⟨m, hm⟩ := kk0; exact DataW.trod_lt m _ _ _ hm
  obtain ⟨s0, rfl, rfl, rfl, w0⟩ := Go.ChangeMaps.open_string Tryd.underlying9 (hval 0 9 v0 rfl rfl) h0
  clear hA0 hval0
  refine (walk W hTab hErr s0 w0).mono fun e W' ⟨he, bel⟩ => ?_
  subst he
  exact ⟨_, rfl, _, _, _, [], _, [], hW', trodAll_mk1 (shut_bool Tryd.underlying4 _), (trodAll_cons_mk (Below.trod laidOut (by kernel_rfl) (of_decide_eq_true (by kernel_rfl)) kk0 bel lt0) trodAll_mk0), rfl, bel.frame _, fun h => by cases h⟩

theorem over : Rows.lexSpellsRow.holds Tryd.pinned (OpenSpec.ofChange Rows.lexSpellsSpec) :=
  OpenClaim.holds_of_wide 4 Tryd.f4 rfl rfl rfl rfl rfl rfl rfl ⟨rfl, rfl, rfl, rfl, rfl⟩ rfl rfl rfl rfl rfl (by kernel_rfl) Tryd.func4 (by kernel_rfl)
    (of_decide_eq_true (by kernel_rfl)) (by unfold Func.isWrapper; first | (rw [if_pos (by decide +kernel)]; kernel_rfl) | (rw [if_neg (by decide +kernel)]; exact ⟨rfl, rfl⟩))
    (fun os started H enc _ => lifted os started H enc)

/-- the statement -/
theorem proved : Rows.LexSpellsCardSaid :=
  Claim7.holds_tied_plain_at .later [] [.data, .data, .data, .sentinel, .sentinel] true (true, "a9755c1c0f88b364a01093ef6e9dee2a1cb3e8ed2faa419bde6e0218e56281e1") true
    over (fun _ h => by cases h) (by kernel_rfl) (fun _ h => by cases h) lexSpells_row_tie rfl ⟨rfl, rfl⟩ (by kernel_rfl) rfl
    (fun f fn hf hfn => by
      obtain rfl : f = 4 := Option.some.inj ((show Tryd.prog.funcNamed "auspice/auspicelaw05.LexSpells" = some 4 by kernel_rfl).symm.trans hf) |>.symm
      obtain rfl : fn = Tryd.f4 := (Option.some.inj (Tryd.func4.symm.trans hfn)).symm
      exact ⟨by kernel_rfl, fun j t ht => by
        rw [Tryd.params4] at ht
        have hm : t ∈ [9] := by simpa using Array.mem_of_getElem? ht
        have hall : ([9].all fun u => !Tryd.prog.wantsStandIn u) = true := by kernel_rfl
        exact (show Tryd.prog.wantsStandIn t = false by simpa using List.all_eq_true.1 hall t hm)⟩)
    (by kernel_rfl)
#print axioms proved
end Go.Proofs.YteojcohmocbakaaDoor.lexSpells
