/- EventScripts: the first event of any script that is wrong, and why: the program tells as the document does. -/
import Derived.Test.YtbgjllpdbbolfabDoorRows
import Derived.Test.YtbgjllpdbbolfabDoorCards
import Derived.Test.YtbgjllpdbbolfabDoorTie
import Derived.LaidMore
import Derived.LaidLaws
import Derived.ChangeVars
import Derived.SevenTiedAt
import Derived.Stop.Joined
import Derived.Stop.LaidErr
import Derived.Lib.LaidTab
import Derived.Lib.ItoaNum
import Derived.WalkKit
import Derived.ProofKit
import Derived.OpenShut
import Derived.ShutString
import Derived.ChangeOld
import Derived.Below
import Derived.Lib.SmallJoins
import Derived.SizedLaws
import Derived.Test.YtbgjllpdbbolfabDoorEvA
import Derived.Test.YtbgjllpdbbolfabDoorEvD
import Derived.Test.YtbgjllpdbbolfabDoorEvO
namespace Go.Proofs.YtbgjllpdbbolfabDoor.eventScripts
open Go.ChangeShapes Go.WideShapes Go.ChangeAt Go.RowKit Go.Joins
set_option linter.unusedVariables false
set_option linter.unusedSimpArgs false

theorem own : ownKnob Tryd.prog.godebug = none := by kernel_rfl
theorem laidOut : laidOutB Tryd.prog = true := by kernel_rfl

set_option maxHeartbeats 4000000 in
theorem walk (w : World) (htab : Lib.TabIs Tryd.prog w "internal/strconv.uint64pow10" .u64 Lib.pow10Tab) (x0 y0 : Value) (t0 : List ST) (s0 : List ByteArray) (w0 : TypesIn w x0 t0) (u0 : SymsIn w y0 s0) (p0 : t0.length * 40 ≤ 140737488351232) (q0 : ∀ t ∈ t0, t.2.length * 24 ≤ 140737488351232) (r0 : s0.length * 16 ≤ 140737488351232) (A1 : Option Addr) (c1 : Nat) (z1 : List Ev) (w1 : EvsAt w A1 z1) (u1 : z1.length ≤ c1) (x1 : c1 ≤ maxLen) (s1 : z1.length * 40 ≤ 140737488351232) (y1 : ∀ e ∈ z1, e.2.2.length * 16 ≤ 140737488351232) :
    Calls Tryd.prog 6 #[.agg #[x0, y0], .slice A1 z1.length c1] w fun e w' => e = .returned (.bool true) ∧ Below w.heap.size w w' := by
  have HW := Lib.hid (And.intro w0 u0)
  obtain ⟨A, cap, rfl, hTA⟩ := w0
  obtain ⟨B, capB, rfl, ⟨hS1, hS2⟩, hSB⟩ := u0
  have hTA : TypesAt w A t0 := hTA
  have hSB : SymsAt w B s0 := hSB
  have hb0 := m1 w (.cells #[.slice A t0.length cap, .slice B s0.length capB] 25)
  have k0 := Blk.made w 25 #[.slice A t0.length cap, .slice B s0.length capB]
  have hTA1 := Lib.hid (hTA.later hb0)
  have hSB1 := Lib.hid (hSB.later hb0)
  have hE1 := Lib.hid (w1.later hb0)
  have tab := Lib.hid (Lib.tabBelow_of_tabIs htab)
  replace q0 := Lib.hid q0
  replace y1 := Lib.hid y1
  replace hS1 := Lib.hid hS1
  replace hS2 := Lib.hid hS2
  have e0 : (w.alloc (.cells #[.slice A t0.length cap, .slice B s0.length capB] 25)).cell? ⟨w.heap.size, 0, none⟩ = some (.slice A t0.length cap) := k0.cell 0
  have e1 : (w.alloc (.cells #[.slice A t0.length cap, .slice B s0.length capB] 25)).cell? ⟨w.heap.size, 1, none⟩ = some (.slice B s0.length capB) := k0.cell 1
  clear hTA hSB htab w1 k0
  go_enter Tryd.func6, Tryd.ntmps6
  go_wp2_with fail
  generalize w.alloc (.cells #[.slice A t0.length cap, .slice B s0.length capB] 25) = v at *
  refine (sto_any _ _ t0 s0 v (HW.out.1.later hb0) (HW.out.2.later hb0) p0 q0.out r0).mono ?_; rintro e w2 ⟨x1', x2', rfl, hT2, hS2', hb2⟩
  obtain ⟨A2, cap2, rfl, hTA2⟩ := hT2
  obtain ⟨B2, capB2, rfl, ⟨hS21, hS22⟩, hSB2⟩ := hS2'
  have hTA2 : TypesAt w2 A2 t0 := hTA2
  have hSB2 : SymsAt w2 B2 s0 := hSB2
  have e0 := cell_later hb2 e0
  have e1 := cell_later hb2 e1
  have hB2 := mmore hb0 hb2
  go_wp2_with fail
  refine (evall_any A1 c1 z1 w2 (hE1.out.later hb2) s1 y1.out).mono ?_; rintro e w3 ⟨A3, c3, rfl, hl31, hl32, hE3, hb3⟩
  have e0 := cell_later hb3 e0
  have e1 := cell_later hb3 e1
  have hB3 := mmore hB2 hb3
  have hb23 := mmore hb2 hb3
  go_wp2_with fail
  refine (script_any A2 B2 A3 cap2 capB2 c3 t0 s0 z1 w3 (hTA2.later hb3) (hSB2.later hb3) hE3 p0 q0.out hS21 hS22 s1 y1.out).mono ?_; rintro e w4 ⟨p, r, rfl, hP, hb4⟩
  have e0 := cell_later hb4 e0
  have e1 := cell_later hb4 e1
  have hB4 := mmore hB3 hb4
  have hb24 := mmore hb23 hb4
  replace hP := Lib.hid hP
  clear hb3 hb23 hb4 hE3 hTA2 hSB2
  go_wp2_with fail
  refine (rscript_any A B A1 cap capB c1 t0 s0 z1 w4 (hTA1.out.later hb24) (hSB1.out.later hb24) (hE1.out.later hb24) p0 q0.out hS1.out hS2.out s1 y1.out).mono ?_; rintro e w5 ⟨p', r', rfl, hP', hb5⟩
  have hB5 := mmore hB4 hb5
  obtain ⟨rfl, rfl⟩ := scr_one hP.out hP'
  clear hP' hb5 hb24
  go_wp2_with fail
  refine (evawake_any w5 (tab.out w5 hB5)).mono ?_; rintro e w6 ⟨rfl, hb6⟩
  have hB6 := mmore hB5 hb6
  go_wp2
  go_ret
  exact ⟨rfl, hB6⟩

theorem door_met (os : Os) (args : Array Value) : laidMetH Tryd.prog Rows.eventScriptsRow.laid ((World.doorLaid Tryd.prog 400 os).forCall (fun _ _ => 0) ⟨#[], args, []⟩).memory :=
  laidMetH_of_parts3 (fuel := 8) (laidMet_of_run' 8 (by kernel_rfl) (by kernel_rfl)) (by kernel_rfl) (by kernel_rfl)
theorem gPow : Tryd.prog.globalNamed "internal/strconv.uint64pow10" = some 0 := by kernel_rfl
theorem tPow : (Tryd.prog.globals[0]?).map (·.type) = some 119 := by kernel_rfl
theorem of_laid {W : World} (h : laidMetH Tryd.prog Rows.eventScriptsRow.laid W) : Lib.TabIs Tryd.prog W "internal/strconv.uint64pow10" .u64 Lib.pow10Tab := by
  rw [MakeChecks.laidMetH_plain _ _ _ (by kernel_rfl)] at h
  have h2 : laidMet Tryd.prog (("internal/strconv.uint64pow10", Lib.tabData .u64 Lib.pow10Tab) :: Rows.eventScriptsRow.laid.drop 3) W := h.tail.tail
  exact Lib.tabIs_of_head gPow tPow Tryd.underlying119 Tryd.underlying66 (by kernel_rfl) (by kernel_rfl) h2

set_option maxRecDepth 100000 in
theorem lifted (os : Os) (started : os.Started) (H : Type) (enc : TypeId × Value → H) :
    ReturnsInHanded {} Tryd.checked os 6 .any (fun w args => (Rows.eventScriptsSpec.pre enc Tryd.prog Tryd.f6 [] false w args ∧ laidMetH Tryd.prog Rows.eventScriptsRow.laid w) ∧ sizedMet enc Tryd.prog Tryd.f6 (OpenSpec.ofChange Rows.eventScriptsSpec) false w args) (Rows.eventScriptsSpec.post enc Tryd.prog Tryd.f6 false true false false) := by
  refine returnsInHanded_of_change_and (C := Tryd.checked) (X := fun w _ => laidMetH Tryd.prog Rows.eventScriptsRow.laid w) (fun _ _ _ hh h => h.of_heap hh) own started (by kernel_rfl) Tryd.func6
    (ChangeSpec.witness_shaped (enc := enc) (C := Tryd.checked) (os := os) (X := fun w _ => laidMetH Tryd.prog Rows.eventScriptsRow.laid w) false (World.doorLaid Tryd.prog 400 os) #[.agg #[.slice none 0 0, .slice none 0 0], .slice none 0 0] 8 rfl (World.shaped_of_RefB (by kernel_rfl) (by kernel_rfl)) (by kernel_rfl) (by kernel_rfl) (by kernel_rfl) (door_met os _)) ?_
  intro W base args ds gs before hval0 hW _ hsz0 hL _
  have hTab := of_laid hL
  clear hL
  have hsz : (DataW.weightsEach Tryd.prog (Tryd.f6.params.toList ++ Rows.eventScriptsSpec.plain.varTypes Tryd.prog) (ds ++ gs)).all (· ≤ reachBytes) = true := hsz0
  clear hsz0
  have hval : ∀ (j : Nat) t v, Tryd.f6.params[j]? = some t → args[j]? = some v → Value.okWide Tryd.prog W .any base t v := hval0
  have hW' := hW
  obtain ⟨p, q, hA0, hV, rfl, hfz, hnd⟩ := hW
  have hA : DataW.TrodAll enc Tryd.prog W 0 (fun _ => true) true Tryd.f6.params.toList args.toList ds p := hA0
  rw [Tryd.params6] at hA hval hsz
  obtain ⟨v0, vs0, d0, ds0, p0, q0, hargs, rfl, rfl, h0, r0⟩ := trodAll_cons hA
  obtain ⟨v1, vs1, d1, ds1, p1, q1, rfl, rfl, rfl, h1, r1⟩ := trodAll_cons r0
  obtain ⟨rfl, rfl, rfl⟩ := trodAll_nil r1
  obtain rfl : args = #[v0, v1] := by cases args; simp_all
  obtain ⟨rfl, rfl⟩ := trodVars_none hV
  have kk0 := h0
  have lt0 : ∀ x ∈ p0, x.block < W.heap.size := by obtain ⟨m, hm⟩ := kk0; exact DataW.trod_lt m _ _ _ hm
  have kk1 := h1
  have lt1 : ∀ x ∈ p1, x.block < W.heap.size := by obtain ⟨m, hm⟩ := kk1; exact DataW.trod_lt m _ _ _ hm
  obtain ⟨x0, y0, t0, s0, rfl, w0, u0, pp0, qq0, rr0⟩ := open_schema (hval 0 25 v0 rfl rfl) h0 (wb_each hsz (j := 0) (t := 25) rfl rfl)
  obtain ⟨A1, c1, z1, rfl, uu1, xx1, w1, ss1, yy1⟩ := open_events (hval 1 53 v1 rfl rfl) h1 (wb_each hsz (j := 1) (t := 53) rfl rfl)
  clear hA0 hval0
  refine (walk W hTab x0 y0 t0 s0 w0 u0 pp0 qq0 rr0 A1 c1 z1 w1 uu1 xx1 ss1 yy1).mono fun e W' ⟨he, bel⟩ => ?_
  subst he
  exact ⟨_, rfl, _, _, _, [], _, [], hW', trodAll_mk1 (shut_bool Tryd.underlying4 _), (trodAll_cons_mk (Below.trod laidOut (by kernel_rfl) (of_decide_eq_true (by kernel_rfl)) kk0 bel lt0) (trodAll_cons_mk (Below.trod laidOut (by kernel_rfl) (of_decide_eq_true (by kernel_rfl)) kk1 bel lt1) trodAll_mk0)), rfl, bel.frame _, fun h => by cases h⟩

theorem over : Rows.eventScriptsRow.holds Tryd.pinned (OpenSpec.ofChange Rows.eventScriptsSpec) :=
  OpenClaim.holds_of_wide 6 Tryd.f6 rfl rfl rfl rfl rfl rfl rfl ⟨rfl, rfl, rfl, rfl, rfl⟩ rfl rfl rfl rfl rfl (by kernel_rfl) Tryd.func6 (by kernel_rfl)
    (of_decide_eq_true (by kernel_rfl)) (by unfold Func.isWrapper; first | (rw [if_pos (by decide +kernel)]; kernel_rfl) | (rw [if_neg (by decide +kernel)]; exact ⟨rfl, rfl⟩))
    (fun os started H enc _ => lifted os started H enc)

/-- the statement -/
theorem proved : Rows.EventScriptsCardSaid :=
  Claim7.holds_tied_plain_at .later [] [.data, .data, .data] true (true, "428467a3bcc97c58a795449468668db1a86208c4a5e6d5a750a7482daa4be0f0") false
    over (fun _ h => by cases h) (by kernel_rfl) (fun _ h => by cases h) eventScripts_row_tie rfl ⟨rfl, rfl⟩ (by kernel_rfl) rfl
    (fun f fn hf hfn => by
      obtain rfl : f = 6 := Option.some.inj ((show Tryd.prog.funcNamed "auspice/auspicelaw04.EventScripts" = some 6 by kernel_rfl).symm.trans hf) |>.symm
      obtain rfl : fn = Tryd.f6 := (Option.some.inj (Tryd.func6.symm.trans hfn)).symm
      exact ⟨by kernel_rfl, fun j t ht => by
        rw [Tryd.params6] at ht
        have hm : t ∈ [25, 53] := by simpa using Array.mem_of_getElem? ht
        have hall : ([25, 53].all fun u => !Tryd.prog.wantsStandIn u) = true := by kernel_rfl
        exact (show Tryd.prog.wantsStandIn t = false by simpa using List.all_eq_true.1 hall t hm)⟩)
    (by kernel_rfl)
#print axioms proved
end Go.Proofs.YtbgjllpdbbolfabDoor.eventScripts
