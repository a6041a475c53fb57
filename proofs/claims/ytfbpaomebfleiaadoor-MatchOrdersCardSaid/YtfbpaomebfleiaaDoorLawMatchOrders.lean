/- MatchOrders: which of two matches is ahead, and whether they are the same: the program answers as the document does. -/
import Derived.Test.YtfbpaomebfleiaaDoorRows
import Derived.Test.YtfbpaomebfleiaaDoorCards
import Derived.Test.YtfbpaomebfleiaaDoorTie
import Derived.LaidMore
import Derived.Lay
import Derived.LaidLaws
import Derived.ChangeVars
import Derived.SevenTiedAt
import Derived.Stop.Joined
import Derived.Stop.LaidErr
import Derived.Lib.LaidTab
import Derived.Lib.ItoaNum
import Derived.WalkKit
import Derived.ProofKit
import Derived.OpenShut
import Derived.ShutString
import Derived.ChangeOld
import Derived.Below
import Derived.Lib.SmallJoins
import Derived.SizedLaws
import Derived.Test.YtfbpaomebfleiaaDoorMtA
import Derived.Test.YtfbpaomebfleiaaDoorMt
import Derived.Test.YtfbpaomebfleiaaDoorROrd
namespace Go.Proofs.YtfbpaomebfleiaaDoor.matchOrders
open Go.ChangeShapes Go.WideShapes Go.ChangeAt Go.RowKit Go.Joins
set_option linter.unusedVariables false
set_option linter.unusedSimpArgs false

theorem own : ownKnob Tryd.prog.godebug = none := by kernel_rfl
theorem laidOut : laidOutB Tryd.prog = true := by kernel_rfl

theorem beO {P1 P2 P3 P4 P5 P6 P7 P8 P9 : Prop} (h : P1 ∧ P2 ∧ P3 ∧ P4 ∧ P5 ∧ P6 ∧ P7 ∧ P8 ∧ P9) : P9 := h.2.2.2.2.2.2.2.2
theorem keepDrewO {w0 w1 : World} {A B : Option Addr} {p1 p2 : List (List Int)} {a0 a1 a2 a3 a4 a5 : Addr} {v0 v1 v2 v3 v4 v5 : Value}
    (h : w1.cell? a0 = some v0 ∧ w1.cell? a1 = some v1 ∧ w1.cell? a2 = some v2 ∧ w1.cell? a3 = some v3 ∧ w1.cell? a4 = some v4 ∧ w1.cell? a5 = some v5 ∧ RowsAt w1 A p1 ∧ RowsAt w1 B p2 ∧ Below w0.heap.size w0 w1) :
    w1.drew.cell? a0 = some v0 ∧ w1.drew.cell? a1 = some v1 ∧ w1.drew.cell? a2 = some v2 ∧ w1.drew.cell? a3 = some v3 ∧ w1.drew.cell? a4 = some v4 ∧ w1.drew.cell? a5 = some v5 ∧ RowsAt w1.drew A p1 ∧ RowsAt w1.drew B p2 ∧ Below w0.heap.size w0 w1.drew :=
  ordKeep (Below.refl _ _).drew h
set_option maxHeartbeats 8000000 in
set_option maxRecDepth 100000 in
theorem walk (w : World) (htab : Lib.TabIs Tryd.prog w "internal/strconv.uint64pow10" .u64 Lib.pow10Tab) (hsp : SpTab w) (hz : 0 < w.heap.size) (st0 br0 : Int) (A0 : Option Addr) (c0 : Nat) (z0 : List (List Int)) (ws0 : (Lit.int .i64 st0).wf = true) (wb0 : (Lit.int .i64 br0).wf = true) (w0 : RowsAt w A0 z0) (s0 : z0.length * 24 ≤ 140737488351232) (y0 : ∀ l ∈ z0, l.length * 8 ≤ 140737488351232) (st1 br1 : Int) (A1 : Option Addr) (c1 : Nat) (z1 : List (List Int)) (ws1 : (Lit.int .i64 st1).wf = true) (wb1 : (Lit.int .i64 br1).wf = true) (w1 : RowsAt w A1 z1) (s1 : z1.length * 24 ≤ 140737488351232) (y1 : ∀ l ∈ z1, l.length * 8 ≤ 140737488351232) :
    Calls Tryd.prog 3 #[.agg #[.int .i64 st0, .int .i64 br0, .slice A0 z0.length c0], .agg #[.int .i64 st1, .int .i64 br1, .slice A1 z1.length c1]] w fun e w' => e = .returned (.bool true) ∧ Below w.heap.size w w' := by
  obtain ⟨u, hu⟩ : ∃ u, (w.alloc (matO st0 br0 A0 z0.length c0)).alloc (matO st1 br1 A1 z1.length c1) = u := ⟨_, rfl⟩
  have bu : Below w.heap.size w u := by rw [← hu]; exact m2 w _ _
  have base : u.cell? ⟨w.heap.size, 0, none⟩ = some (.int .i64 st0) ∧ u.cell? ⟨w.heap.size, 1, none⟩ = some (.int .i64 br0) ∧ u.cell? ⟨w.heap.size, 2, none⟩ = some (.slice A0 z0.length c0) ∧
      u.cell? ⟨w.heap.size + 1, 0, none⟩ = some (.int .i64 st1) ∧ u.cell? ⟨w.heap.size + 1, 1, none⟩ = some (.int .i64 br1) ∧ u.cell? ⟨w.heap.size + 1, 2, none⟩ = some (.slice A1 z1.length c1) ∧
      RowsAt u A0 z0 ∧ RowsAt u A1 z1 ∧ Below w.heap.size w u :=
    ⟨by rw [← hu]; simp [go_sem], by rw [← hu]; simp [go_sem], by rw [← hu]; simp [go_sem], by rw [← hu]; simp [go_sem], by rw [← hu]; simp [go_sem], by rw [← hu]; simp [go_sem], w0.later bu, w1.later bu, bu⟩
  have l0 : z0.length ≤ 9223372036854775806 := by omega
  have l1 : z1.length ≤ 9223372036854775806 := by omega
  have q0 : ∀ l ∈ z0, l.length ≤ 9223372036854775806 := fun l h => by have := y0 l h; omega
  have q1 : ∀ l ∈ z1, l.length ≤ 9223372036854775806 := fun l h => by have := y1 l h; omega
  have tab := Lib.hid (Lib.tabBelow_of_tabIs htab)
  have sp := Lib.hid (fun w' hb => SpTab.later (w := w) (w1 := w') hsp hb)
  have hzz := Lib.hid (fun (w' : World) (hb : Below w.heap.size w w') => (Nat.lt_of_lt_of_le hz hb.size : 0 < w'.heap.size))
  replace q0 := Lib.hid q0
  replace q1 := Lib.hid q1
  replace y0 := Lib.hid y0
  replace y1 := Lib.hid y1
  clear w0 w1 bu htab hsp hz
  go_enter Tryd.func3, Tryd.ntmps3
  go_wp2_with fail
  clear hu
  have base' := base
  obtain ⟨d0, d1, d2, d3, d4, d5, dA, dB, dW⟩ := base'
  go_region_held3 (fun w' => w'.cell? ⟨w.heap.size, 0, none⟩ = some (.int .i64 st0) ∧ w'.cell? ⟨w.heap.size, 1, none⟩ = some (.int .i64 br0) ∧ w'.cell? ⟨w.heap.size, 2, none⟩ = some (.slice A0 z0.length c0) ∧
      w'.cell? ⟨w.heap.size + 1, 0, none⟩ = some (.int .i64 st1) ∧ w'.cell? ⟨w.heap.size + 1, 1, none⟩ = some (.int .i64 br1) ∧ w'.cell? ⟨w.heap.size + 1, 2, none⟩ = some (.slice A1 z1.length c1) ∧
      RowsAt w' A0 z0 ∧ RowsAt w' A1 z1 ∧ Below w.heap.size w w')
    (first | exact keepDrewO base | go_keep | exact ordKeep hb1 (by first | assumption | exact ⟨by assumption, by assumption, by assumption, by assumption, by assumption, by assumption, by assumption, by assumption, by assumption⟩))
    (first
      | (go_at_call 10; refine (awake_any _ (sp.out _ (by first | assumption | exact dW.drew | exact beO (by assumption))) (hzz.out _ (by first | assumption | exact dW.drew | exact beO (by assumption))) (tab.out _ (by first | assumption | exact dW.drew | exact beO (by assumption)))).mono ?_; rintro e w1 ⟨rfl, hb1⟩)
      | (go_at_call 11; refine (order_any _ _ _ _ _ _ _ _ _ _ _ (by first | assumption | exact rowsL (by assumption)) (by first | assumption | exact rowsR (by assumption)) l0 l1 q0.out q1.out).mono ?_; rintro e w1 ⟨rfl, hb1⟩)
      | (go_at_call 12; refine (rorder_any _ _ _ _ _ _ _ _ _ _ _ (by first | assumption | exact rowsL (by assumption)) (by first | assumption | exact rowsR (by assumption)) l0 l1 q0.out q1.out).mono ?_; rintro e w1 ⟨rfl, hb1⟩)
      | (go_at_call 13; refine (same_any _ _ _ _ _ _ _ _ _ _ _ (by first | assumption | exact rowsL (by assumption)) (by first | assumption | exact rowsR (by assumption)) l0 l1 q0.out q1.out).mono ?_; rintro e w1 ⟨rfl, hb1⟩))
  rename_i hS
  have hBz := beO hS
  replace hBz := Lib.hid hBz
  clear hS base d0 d1 d2 d3 d4 d5 dA dB dW
  go_wp2
  go_ret
  exact ⟨rfl, hBz.out⟩

theorem laid_met (os : Os) (args : Array Value) : laidMetH Tryd.prog Rows.matchOrdersRow.laid ((World.laidAll Tryd.prog os Rows.matchOrdersRow.laid).forCall (fun _ _ => 0) ⟨#[], args, []⟩).memory := by
  rw [MakeChecks.laidMetH_plain _ _ _ (by kernel_rfl)]
  exact laidMet_laidAll _ (by kernel_rfl) (by kernel_rfl)
theorem gPow : Tryd.prog.globalNamed "internal/strconv.uint64pow10" = some 3 := by kernel_rfl
theorem tPow : (Tryd.prog.globals[3]?).map (·.type) = some 111 := by kernel_rfl
theorem of_laid {W : World} (h : laidMetH Tryd.prog Rows.matchOrdersRow.laid W) : Lib.TabIs Tryd.prog W "internal/strconv.uint64pow10" .u64 Lib.pow10Tab := by
  rw [MakeChecks.laidMetH_plain _ _ _ (by kernel_rfl)] at h
  have h2 : laidMet Tryd.prog (("internal/strconv.uint64pow10", Lib.tabData .u64 Lib.pow10Tab) :: Rows.matchOrdersRow.laid.drop 3) W := h.tail.tail
  exact Lib.tabIs_of_head gPow tPow Tryd.underlying111 Tryd.underlying61 (by kernel_rfl) (by kernel_rfl) h2

theorem gSp : Tryd.prog.globalNamed "strings.asciiSpace" = some 0 := by kernel_rfl
theorem tSp : (Tryd.prog.globals[0]?).map (·.type) = some 81 := by kernel_rfl
theorem spD : (Lib.tabData .u8 spL : DataW Unit) = Rows.laid_strings_asciiSpace := by kernel_rfl
theorem of_laid2 {W : World} (h : laidMetH Tryd.prog Rows.matchOrdersRow.laid W) : Lib.TabIs Tryd.prog W "strings.asciiSpace" .u8 spL := by
  rw [MakeChecks.laidMetH_plain _ _ _ (by kernel_rfl)] at h
  have h2 : laidMet Tryd.prog (("strings.asciiSpace", Lib.tabData .u8 spL) :: Rows.matchOrdersRow.laid.drop 8) W := by rw [spD]; exact h.tail.tail.tail.tail.tail.tail.tail
  exact Lib.tabIs_of_head gSp tSp Tryd.underlying81 Tryd.underlying5 (by kernel_rfl) (by kernel_rfl) h2

set_option maxRecDepth 100000 in
theorem lifted (os : Os) (started : os.Started) (H : Type) (enc : TypeId × Value → H) :
    ReturnsInHanded {} Tryd.checked os 3 .any (fun w args => (Rows.matchOrdersSpec.pre enc Tryd.prog Tryd.f3 [] false w args ∧ laidMetH Tryd.prog Rows.matchOrdersRow.laid w) ∧ sizedMet enc Tryd.prog Tryd.f3 (OpenSpec.ofChange Rows.matchOrdersSpec) false w args) (Rows.matchOrdersSpec.post enc Tryd.prog Tryd.f3 false true false false) := by
  refine returnsInHanded_of_change_and (C := Tryd.checked) (X := fun w _ => laidMetH Tryd.prog Rows.matchOrdersRow.laid w) (fun _ _ _ hh h => h.of_heap hh) own started (by kernel_rfl) Tryd.func3
    (ChangeSpec.witness_shaped (enc := enc) (C := Tryd.checked) (os := os) (X := fun w _ => laidMetH Tryd.prog Rows.matchOrdersRow.laid w) false (World.laidAll Tryd.prog os Rows.matchOrdersRow.laid) #[.agg #[.int .i64 0, .int .i64 0, .slice none 0 0], .agg #[.int .i64 0, .int .i64 0, .slice none 0 0]] 8 (World.laidAll_os _ _ _) (World.shaped_of_ZipB (by kernel_rfl) (by kernel_rfl)) (by kernel_rfl) (by kernel_rfl) (by kernel_rfl) (laid_met os _)) ?_
  intro W base args ds gs before hval0 hW _ hsz0 hL _
  have hTab := of_laid hL
  have hSpT := of_laid2 hL
  have hSp := spTab_of hSpT gSp
  have hZ : 0 < W.heap.size := mblock (hSp 0 (by decide))
  clear hL
  have hsz : (DataW.weightsEach Tryd.prog (Tryd.f3.params.toList ++ Rows.matchOrdersSpec.plain.varTypes Tryd.prog) (ds ++ gs)).all (· ≤ reachBytes) = true := hsz0
  clear hsz0
  have hval : ∀ (j : Nat) t v, Tryd.f3.params[j]? = some t → args[j]? = some v → Value.okWide Tryd.prog W .any base t v := hval0
  have hW' := hW
  obtain ⟨p, q, hA0, hV, rfl, hfz, hnd⟩ := hW
  have hA : DataW.TrodAll enc Tryd.prog W 0 (fun _ => true) true Tryd.f3.params.toList args.toList ds p := hA0
  rw [Tryd.params3] at hA hval hsz
  obtain ⟨v0, vs0, d0, ds0, p0, q0, hargs, rfl, rfl, h0, r0⟩ := trodAll_cons hA
  obtain ⟨v1, vs1, d1, ds1, p1, q1, rfl, rfl, rfl, h1, r1⟩ := trodAll_cons r0
  obtain ⟨rfl, rfl, rfl⟩ := trodAll_nil r1
  obtain rfl : args = #[v0, v1] := by cases args; simp_all
  obtain ⟨rfl, rfl⟩ := trodVars_none hV
  have kk0 := h0
  have lt0 : ∀ x ∈ p0, x.block < W.heap.size := by obtain ⟨m, hm⟩ := kk0; exact DataW.trod_lt m _ _ _ hm
  have kk1 := h1
  have lt1 : ∀ x ∈ p1, x.block < W.heap.size := by obtain ⟨m, hm⟩ := kk1; exact DataW.trod_lt m _ _ _ hm
  obtain ⟨st0, br0, A0, c0, z0, rfl, ws0, wb0, w0, s0, y0⟩ := open_match (hval 0 24 v0 rfl rfl) h0 (wb_each hsz (j := 0) (t := 24) rfl rfl)
  obtain ⟨st1, br1, A1, c1, z1, rfl, ws1, wb1, w1, s1, y1⟩ := open_match (hval 1 24 v1 rfl rfl) h1 (wb_each hsz (j := 1) (t := 24) rfl rfl)
  clear hA0 hval0
  refine (walk W hTab hSp hZ st0 br0 A0 c0 z0 ws0 wb0 w0 s0 y0 st1 br1 A1 c1 z1 ws1 wb1 w1 s1 y1).mono fun e W' ⟨he, bel⟩ => ?_
  subst he
  exact ⟨_, rfl, _, _, _, [], _, [], hW', trodAll_mk1 (shut_bool Tryd.underlying4 _), (trodAll_cons_mk (Below.trod laidOut (by kernel_rfl) (of_decide_eq_true (by kernel_rfl)) kk0 bel lt0) (trodAll_cons_mk (Below.trod laidOut (by kernel_rfl) (of_decide_eq_true (by kernel_rfl)) kk1 bel lt1) trodAll_mk0)), rfl, bel.frame _, fun h => by cases h⟩

theorem over : Rows.matchOrdersRow.holds Tryd.pinned (OpenSpec.ofChange Rows.matchOrdersSpec) :=
  OpenClaim.holds_of_wide 3 Tryd.f3 rfl rfl rfl rfl rfl rfl rfl ⟨rfl, rfl, rfl, rfl, rfl⟩ rfl rfl rfl rfl rfl (by kernel_rfl) Tryd.func3 (by kernel_rfl)
    (of_decide_eq_true (by kernel_rfl)) (by unfold Func.isWrapper; first | (rw [if_pos (by decide +kernel)]; kernel_rfl) | (rw [if_neg (by decide +kernel)]; exact ⟨rfl, rfl⟩))
    (fun os started H enc _ => lifted os started H enc)

/-- the statement -/
theorem proved : Rows.MatchOrdersCardSaid :=
  Claim7.holds_tied_plain_at .later [] [.data, .data, .data, .data, .sentinel, .sentinel, .listed, .data, .pinned] true (true, "adcc2ad523869b1080a35ead8d8a9f8851c72ee131aff97a222f6ecc579e3911") true
    over (fun _ h => by cases h) (by kernel_rfl) (fun _ h => by cases h) matchOrders_row_tie rfl ⟨rfl, rfl⟩ (by kernel_rfl) rfl
    (fun f fn hf hfn => by
      obtain rfl : f = 3 := Option.some.inj ((show Tryd.prog.funcNamed "auspice/auspicelaw10.MatchOrders" = some 3 by kernel_rfl).symm.trans hf) |>.symm
      obtain rfl : fn = Tryd.f3 := (Option.some.inj (Tryd.func3.symm.trans hfn)).symm
      exact ⟨by kernel_rfl, fun j t ht => by
        rw [Tryd.params3] at ht
        have hm : t ∈ [24, 24] := by simpa using Array.mem_of_getElem? ht
        have hall : ([24, 24].all fun u => !Tryd.prog.wantsStandIn u) = true := by kernel_rfl
        exact (show Tryd.prog.wantsStandIn t = false by simpa using List.all_eq_true.1 hall t hm)⟩)
    (by kernel_rfl)
#print axioms proved
end Go.Proofs.YtfbpaomebfleiaaDoor.matchOrders
