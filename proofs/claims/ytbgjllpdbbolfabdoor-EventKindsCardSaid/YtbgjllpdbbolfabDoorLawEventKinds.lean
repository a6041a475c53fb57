/- EventKinds: the kinds of any schema's attributes, type by type: the program tells them as they stand in the schema. -/
import Derived.Test.YtbgjllpdbbolfabDoorRows
import Derived.Test.YtbgjllpdbbolfabDoorCards
import Derived.Test.YtbgjllpdbbolfabDoorTie
import Derived.LaidMore
import Derived.LaidLaws
import Derived.ChangeVars
import Derived.SevenTiedAt
import Derived.Stop.Joined
import Derived.Stop.LaidErr
import Derived.Lib.LaidTab
import Derived.Lib.ItoaNum
import Derived.WalkKit
import Derived.ProofKit
import Derived.OpenShut
import Derived.ShutString
import Derived.ChangeOld
import Derived.Below
import Derived.Lib.SmallJoins
import Derived.SizedLaws
import Derived.Test.YtbgjllpdbbolfabDoorEvA
import Derived.Test.YtbgjllpdbbolfabDoorEvK
import Derived.Test.YtbgjllpdbbolfabDoorSchO
namespace Go.Proofs.YtbgjllpdbbolfabDoor.eventKinds
open Go.ChangeShapes Go.WideShapes Go.ChangeAt Go.RowKit Go.Joins
set_option linter.unusedVariables false
set_option linter.unusedSimpArgs false

theorem own : ownKnob Tryd.prog.godebug = none := by kernel_rfl
theorem laidOut : laidOutB Tryd.prog = true := by kernel_rfl

set_option maxHeartbeats 4000000 in
theorem walk (w : World) (htab : Lib.TabIs Tryd.prog w "internal/strconv.uint64pow10" .u64 Lib.pow10Tab) (x0 y0 : Value) (t0 : List ST) (s0 : List ByteArray) (w0 : TypesIn w x0 t0) (u0 : SymsIn w y0 s0) (p0 : t0.length * 40 ≤ 140737488351232) (q0 : ∀ t ∈ t0, t.2.length * 24 ≤ 140737488351232) (r0 : s0.length * 16 ≤ 140737488351232) :
    Calls Tryd.prog 3 #[.agg #[x0, y0]] w fun e w' => e = .returned (.bool true) ∧ Below w.heap.size w w' := by
  have HW := Lib.hid (And.intro w0 u0)
  obtain ⟨A, cap, rfl, hTA⟩ := w0
  obtain ⟨B, capB, rfl, hB1, hSB⟩ := u0
  have hb0 := m1 w (.cells #[.slice A t0.length cap, .slice B s0.length capB] 25)
  have hTA1 := Lib.hid (TypesAt.later (A := A) (ts := t0) hTA hb0)
  have c0 : (w.alloc (.cells #[.slice A t0.length cap, .slice B s0.length capB] 25)).cell? ⟨w.heap.size, 0, none⟩ = some (.slice A t0.length cap) := by simp [go_sem]
  have c1 : (w.alloc (.cells #[.slice A t0.length cap, .slice B s0.length capB] 25)).cell? ⟨w.heap.size, 1, none⟩ = some (.slice B s0.length capB) := by simp [go_sem]
  have hp0 : t0.length * 40 ≤ 140737488351232 := p0
  have tab := Lib.hid (Lib.tabBelow_of_tabIs htab)
  replace q0 := Lib.hid q0
  replace r0 := Lib.hid r0
  clear hTA hSB hB1 htab
  go_enter Tryd.func3, Tryd.ntmps3
  go_wp2_with fail
  generalize w.alloc (.cells #[.slice A t0.length cap, .slice B s0.length capB] 25) = v at *
  refine (sto_any _ _ t0 s0 v (HW.out.1.later hb0) (HW.out.2.later hb0) p0 q0.out r0.out).mono ?_; rintro e w2 ⟨x1, x2, rfl, hT2, hS2, hb2⟩
  obtain ⟨A2, cap2, rfl, hTA2⟩ := hT2
  obtain ⟨B2, capB2, rfl, _, _⟩ := hS2
  have hB2 := mmore hb0 hb2
  go_wp2_with fail
  refine (evkinds_any A2 cap2 _ t0 w2 hTA2 p0 q0.out).mono ?_; rintro e w3 ⟨A3, cap3, rfl, hK, hb3⟩
  have hB3 := mmore hB2 hb3
  have hv3 := mmore hb2 hb3
  have d0 := cell_later hv3 c0
  have d1 := cell_later hv3 c1
  have hT3 := Lib.hid (hTA1.out.later hv3)
  replace hK := Lib.hid hK
  clear hTA1 hTA2 hb0 hb2 hb3 hB2 hv3 HW c0 c1
  go_wp2_with fail
  go_loopw [20] (fun i wr => ∃ k : Nat, k ≤ t0.length ∧ i = .int .i64 (k : Int) ∧ Below w3.heap.size w3 wr) (fun i _ => t0.length - (intOf i).toNat)
  case atStart => exact ⟨0, Nat.zero_le _, rfl, Below.refl _ _⟩
  case round =>
    obtain ⟨k, hk, rfl, hB⟩ := hrel
    by_cases hlt : k < t0.length
    · obtain ⟨b, off, rfl, hcell⟩ := hT3.out (by omega)
      obtain ⟨kb, koff, rfl, hkc⟩ := hK.out (by rw [ksOf_length]; omega)
      have hvk : t0[k]? = some t0[k] := List.getElem?_eq_getElem hlt
      have hkk : (ksOf t0)[k]? = some (ksT t0[k]) := by unfold ksOf; rw [List.getElem?_map, hvk]; rfl
      obtain ⟨uf, r0, r1, hF⟩ := hcell k _ hvk
      obtain ⟨ku, r2, KA, kcap, rfl, hI⟩ := hkc k _ hkk
      have hfb := q0.out _ (List.getElem_mem hlt)
      generalize t0[k] = t at *
      obtain ⟨nm, fs⟩ := t
      obtain ⟨FA, fcap, rfl, hfc⟩ := hF
      rw [ksT_length] at r2
      simp only at r0 r1 r2 hfc hfb
      have r0 := cell_later hB r0
      have r1 := cell_later hB r1
      have r2 := cell_later hB r2
      have hfc1 := Lib.hid (fun hp : 0 < fs.length => hfc hp)
      have ne5 : ¬ kb = wr.heap.size := Nat.ne_of_lt (mblock r2)
      have ne6 : ¬ wr.heap.size = kb := fun e => ne5 e.symm
      have k0 : (0 : Int) ≤ (k : Int) := by omega
      have k1 : (k : Int) < (t0.length : Int) := by omega
      replace hI := Lib.hid hI
      clear hcell hvk hkk hkc hfc
      go_upto_region 7 with (fail)
      have hw5 := m1 wr (.cells #[.string nm, .slice FA fs.length fcap] 34)
      have g0 : (wr.alloc (.cells #[.string nm, .slice FA fs.length fcap] 34)).cell? ⟨wr.heap.size, 1, none⟩ = some (.slice FA fs.length fcap) := by simp [go_sem]
      have r3 := cell_later hw5 r2
      have hBw := mmore hB hw5
      clear ne5 ne6 r0 r1 r2
      generalize wr.heap.size = g5 at *
      generalize wr.alloc (.cells #[.string nm, .slice FA fs.length fcap] 34) = wb at *
      go_quiet (fail)
      go_wp2_with fail
      go_loopw [37] (fun i wr' => ∃ j : Nat, j ≤ fs.length ∧ i = .int .i64 (j : Int) ∧ Below wb.heap.size wb wr') (fun i _ => fs.length - (intOf i).toNat)
      case atStart => exact ⟨0, Nat.zero_le _, rfl, Below.drewN' (Below.refl _ _) _⟩
      case round =>
        obtain ⟨j, hj, rfl, hB6⟩ := hrel
        by_cases hj3 : j < fs.length
        · obtain ⟨fb, foff, rfl, hfcell⟩ := hfc1.out (by omega)
          obtain ⟨ib, ioff, rfl, hic⟩ := hI.out (by rw [ksT_length]; exact Nat.lt_of_le_of_lt (Nat.zero_le _) hj3)
          have hfj : fs[j]? = some fs[j] := List.getElem?_eq_getElem hj3
          have hij : (ksT (nm, fs))[j]? = some fs[j].2 := by unfold ksT; rw [List.getElem?_map, hfj]; rfl
          obtain ⟨s0, s1⟩ := hfcell j _ hfj
          have s2 := hic j _ hij
          generalize fs[j] = f at *
          obtain ⟨fnm, fk⟩ := f
          simp only at s0 s1 s2
          have hB7 := mmore hBw hB6
          have s0 := cell_later hB7 s0
          have s1 := cell_later hB7 s1
          have s2 := cell_later hB7 s2
          have s3 := cell_later hB6 r3
          have j0 : (0 : Int) ≤ (j : Int) := by omega
          have j1 : (j : Int) < (fs.length : Int) := by omega
          clear hfcell hfj hic hij
          go_upto_region 12 with (fail)
          have hw7 := m1 wr (.cells #[.string fnm, .int .i64 fk] 37)
          have g7 : (wr.alloc (.cells #[.string fnm, .int .i64 fk] 37)).cell? ⟨wr.heap.size, 1, none⟩ = some (.int .i64 fk) := by simp [go_sem]
          have s2 := cell_later hw7 s2
          have s3 := cell_later hw7 s3
          have hB8 := mmore hB6 hw7
          clear s0 s1 hw7 hB7
          generalize wr.heap.size = g at *
          generalize wr.alloc (.cells #[.string fnm, .int .i64 fk] 37) = wc at *
          go_quiet (fail)
          go_wp2
          go_roundw
          case rel => exact ⟨j + 1, by omega, by go_num, Below.drewN' hB8 _⟩
          case measure => simp [intOf]; omega
        · obtain rfl : j = fs.length := by omega
          have hB9 := mmore hBw hB6
          go_wp2
          go_roundw
          case rel => exact ⟨k + 1, by omega, by go_num, hB9⟩
          case measure => simp [intOf]; omega
    · obtain rfl : k = t0.length := by omega
      have hBA := mmore hB3 hB
      go_wp2_with fail
      refine (evawake_any wr (tab.out wr hBA)).mono ?_; rintro e w4 ⟨rfl, hb4⟩
      go_wp2
      go_ret
      exact ⟨rfl, mmore hBA hb4⟩

theorem door_met (os : Os) (args : Array Value) : laidMetH Tryd.prog Rows.eventKindsRow.laid ((World.doorLaid Tryd.prog 400 os).forCall (fun _ _ => 0) ⟨#[], args, []⟩).memory :=
  laidMetH_of_parts3 (fuel := 8) (laidMet_of_run' 8 (by kernel_rfl) (by kernel_rfl)) (by kernel_rfl) (by kernel_rfl)
theorem gPow : Tryd.prog.globalNamed "internal/strconv.uint64pow10" = some 0 := by kernel_rfl
theorem tPow : (Tryd.prog.globals[0]?).map (·.type) = some 119 := by kernel_rfl
theorem of_laid {W : World} (h : laidMetH Tryd.prog Rows.eventKindsRow.laid W) : Lib.TabIs Tryd.prog W "internal/strconv.uint64pow10" .u64 Lib.pow10Tab := by
  rw [MakeChecks.laidMetH_plain _ _ _ (by kernel_rfl)] at h
  have h2 : laidMet Tryd.prog (("internal/strconv.uint64pow10", Lib.tabData .u64 Lib.pow10Tab) :: Rows.eventKindsRow.laid.drop 3) W := h.tail.tail
  exact Lib.tabIs_of_head gPow tPow Tryd.underlying119 Tryd.underlying66 (by kernel_rfl) (by kernel_rfl) h2

set_option maxRecDepth 100000 in
theorem lifted (os : Os) (started : os.Started) (H : Type) (enc : TypeId × Value → H) :
    ReturnsInHanded {} Tryd.checked os 3 .any (fun w args => (Rows.eventKindsSpec.pre enc Tryd.prog Tryd.f3 [] false w args ∧ laidMetH Tryd.prog Rows.eventKindsRow.laid w) ∧ sizedMet enc Tryd.prog Tryd.f3 (OpenSpec.ofChange Rows.eventKindsSpec) false w args) (Rows.eventKindsSpec.post enc Tryd.prog Tryd.f3 false true false false) := by
  refine returnsInHanded_of_change_and (C := Tryd.checked) (X := fun w _ => laidMetH Tryd.prog Rows.eventKindsRow.laid w) (fun _ _ _ hh h => h.of_heap hh) own started (by kernel_rfl) Tryd.func3
    (ChangeSpec.witness_shaped (enc := enc) (C := Tryd.checked) (os := os) (X := fun w _ => laidMetH Tryd.prog Rows.eventKindsRow.laid w) false (World.doorLaid Tryd.prog 400 os) #[.agg #[.slice none 0 0, .slice none 0 0]] 8 rfl (World.shaped_of_RefB (by kernel_rfl) (by kernel_rfl)) (by kernel_rfl) (by kernel_rfl) (by kernel_rfl) (door_met os _)) ?_
  intro W base args ds gs before hval0 hW _ hsz0 hL _
  have hTab := of_laid hL
  clear hL
  have hsz : (DataW.weightsEach Tryd.prog (Tryd.f3.params.toList ++ Rows.eventKindsSpec.plain.varTypes Tryd.prog) (ds ++ gs)).all (· ≤ reachBytes) = true := hsz0
  clear hsz0
  have hval : ∀ (j : Nat) t v, Tryd.f3.params[j]? = some t → args[j]? = some v → Value.okWide Tryd.prog W .any base t v := hval0
  have hW' := hW
  obtain ⟨p, q, hA0, hV, rfl, hfz, hnd⟩ := hW
  have hA : DataW.TrodAll enc Tryd.prog W 0 (fun _ => true) true Tryd.f3.params.toList args.toList ds p := hA0
  rw [Tryd.params3] at hA hval hsz
  obtain ⟨v0, vs0, d0, ds0, p0, q0, hargs, rfl, rfl, h0, r0⟩ := trodAll_cons hA
  obtain ⟨rfl, rfl, rfl⟩ := trodAll_nil r0
  obtain rfl : args = #[v0] := by cases args; simp_all
  obtain ⟨rfl, rfl⟩ := trodVars_none hV
  have kk0 := h0
  have lt0 : ∀ x ∈ p0, x.block < W.heap.size := by obtain ⟨m, hm⟩ := kk0; exact DataW.trod_lt m _ _ _ hm
  obtain ⟨x0, y0, t0, s0, rfl, w0, u0, pp0, qq0, rr0⟩ := open_schema (hval 0 25 v0 rfl rfl) h0 (wb_each hsz (j := 0) (t := 25) rfl rfl)
  clear hA0 hval0
  refine (walk W hTab x0 y0 t0 s0 w0 u0 pp0 qq0 rr0).mono fun e W' ⟨he, bel⟩ => ?_
  subst he
  exact ⟨_, rfl, _, _, _, [], _, [], hW', trodAll_mk1 (shut_bool Tryd.underlying4 _), (trodAll_cons_mk (Below.trod laidOut (by kernel_rfl) (of_decide_eq_true (by kernel_rfl)) kk0 bel lt0) trodAll_mk0), rfl, bel.frame _, fun h => by cases h⟩

theorem over : Rows.eventKindsRow.holds Tryd.pinned (OpenSpec.ofChange Rows.eventKindsSpec) :=
  OpenClaim.holds_of_wide 3 Tryd.f3 rfl rfl rfl rfl rfl rfl rfl ⟨rfl, rfl, rfl, rfl, rfl⟩ rfl rfl rfl rfl rfl (by kernel_rfl) Tryd.func3 (by kernel_rfl)
    (of_decide_eq_true (by kernel_rfl)) (by unfold Func.isWrapper; first | (rw [if_pos (by decide +kernel)]; kernel_rfl) | (rw [if_neg (by decide +kernel)]; exact ⟨rfl, rfl⟩))
    (fun os started H enc _ => lifted os started H enc)

/-- the statement -/
theorem proved : Rows.EventKindsCardSaid :=
  Claim7.holds_tied_plain_at .later [] [.data, .data, .data] true (true, "428467a3bcc97c58a795449468668db1a86208c4a5e6d5a750a7482daa4be0f0") false
    over (fun _ h => by cases h) (by kernel_rfl) (fun _ h => by cases h) eventKinds_row_tie rfl ⟨rfl, rfl⟩ (by kernel_rfl) rfl
    (fun f fn hf hfn => by
      obtain rfl : f = 3 := Option.some.inj ((show Tryd.prog.funcNamed "auspice/auspicelaw04.EventKinds" = some 3 by kernel_rfl).symm.trans hf) |>.symm
      obtain rfl : fn = Tryd.f3 := (Option.some.inj (Tryd.func3.symm.trans hfn)).symm
      exact ⟨by kernel_rfl, fun j t ht => by
        rw [Tryd.params3] at ht
        have hm : t ∈ [25] := by simpa using Array.mem_of_getElem? ht
        have hall : ([25].all fun u => !Tryd.prog.wantsStandIn u) = true := by kernel_rfl
        exact (show Tryd.prog.wantsStandIn t = false by simpa using List.all_eq_true.1 hall t hm)⟩)
    (by kernel_rfl)
#print axioms proved
end Go.Proofs.YtbgjllpdbbolfabDoor.eventKinds
