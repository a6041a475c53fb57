/- MatchGoods: which matches are well made for a script of so many events: the program answers as the document does (the second form: by size). -/
import Derived.Test.YtfbpaomebfleiaaDoorRows
import Derived.Test.YtfbpaomebfleiaaDoorCards
import Derived.Test.YtfbpaomebfleiaaDoorTie
import Derived.LaidMore
import Derived.Deep.DeepHandedRow
import Derived.Lay
import Derived.LaidLaws
import Derived.ChangeVars
import Derived.SevenTiedAt
import Derived.Stop.Joined
import Derived.Stop.LaidErr
import Derived.Lib.LaidTab
import Derived.Lib.ItoaNum
import Derived.WalkKit
import Derived.ProofKit
import Derived.OpenShut
import Derived.ShutString
import Derived.ChangeOld
import Derived.Below
import Derived.Lib.SmallJoins
import Derived.SizedLaws
import Derived.Test.YtfbpaomebfleiaaDoorMtA
import Derived.Test.YtfbpaomebfleiaaDoorMtU
import Derived.Test.YtfbpaomebfleiaaDoorGood
import Derived.Test.YtfbpaomebfleiaaDoorRGood
namespace Go.Proofs.YtfbpaomebfleiaaDoor.matchGoods
open Go.ChangeShapes Go.WideShapes Go.ChangeAt Go.RowKit Go.Joins
set_option linter.unusedVariables false
set_option linter.unusedSimpArgs false

theorem own : ownKnob Tryd.prog.godebug = none := by kernel_rfl
theorem laidOut : laidOutB Tryd.prog = true := by kernel_rfl

theorem goodKeep {w0 w1 w2 : World} {A : Option Addr} {p1 : List (List Int)} {a0 a1 a2 : Addr} {v0 v1 v2 : Value} (hb : Below w1.heap.size w1 w2)
    (h : w1.cell? a0 = some v0 ∧ w1.cell? a1 = some v1 ∧ w1.cell? a2 = some v2 ∧ RowsAt w1 A p1 ∧ Below w0.heap.size w0 w1) :
    w2.cell? a0 = some v0 ∧ w2.cell? a1 = some v1 ∧ w2.cell? a2 = some v2 ∧ RowsAt w2 A p1 ∧ Below w0.heap.size w0 w2 :=
  ⟨cell_later hb h.1, cell_later hb h.2.1, cell_later hb h.2.2.1, h.2.2.2.1.later hb, mmore h.2.2.2.2 hb⟩
theorem beG {P1 P2 P3 P4 P5 : Prop} (h : P1 ∧ P2 ∧ P3 ∧ P4 ∧ P5) : P5 := h.2.2.2.2
theorem rowsG {P1 P2 P3 P4 P5 : Prop} (h : P1 ∧ P2 ∧ P3 ∧ P4 ∧ P5) : P4 := h.2.2.2.1
theorem keepDrewG {w0 w1 : World} {A : Option Addr} {p1 : List (List Int)} {a0 a1 a2 : Addr} {v0 v1 v2 : Value}
    (h : w1.cell? a0 = some v0 ∧ w1.cell? a1 = some v1 ∧ w1.cell? a2 = some v2 ∧ RowsAt w1 A p1 ∧ Below w0.heap.size w0 w1) :
    w1.drew.cell? a0 = some v0 ∧ w1.drew.cell? a1 = some v1 ∧ w1.drew.cell? a2 = some v2 ∧ RowsAt w1.drew A p1 ∧ Below w0.heap.size w0 w1.drew :=
  goodKeep (Below.refl _ _).drew h
set_option maxHeartbeats 8000000 in
set_option maxRecDepth 100000 in
theorem walk (w : World) (htab : Lib.TabIs Tryd.prog w "internal/strconv.uint64pow10" .u64 Lib.pow10Tab) (hsp : SpTab w) (hz : 0 < w.heap.size) (st0 br0 : Int) (A0 : Option Addr) (c0 : Nat) (z0 : List (List Int)) (ws0 : (Lit.int .i64 st0).wf = true) (wb0 : (Lit.int .i64 br0).wf = true) (w0 : RowsAt w A0 z0) (s0 : z0.length * 24 ≤ 140737488351232) (y0 : ∀ l ∈ z0, l.length * 8 ≤ 140737488351232) (u0 : z0.flatten.length ≤ 1048576) (a1 : Int) (w1 : (Lit.int .i64 a1).wf = true) :
    Calls Tryd.prog 5 #[.agg #[.int .i64 st0, .int .i64 br0, .slice A0 z0.length c0], .int .i64 a1] w fun e w' => e = .returned (.bool true) ∧ Below w.heap.size w w' := by
  obtain ⟨u, hu⟩ : ∃ u, (w.alloc (matO st0 br0 A0 z0.length c0)) = u := ⟨_, rfl⟩
  have bu : Below w.heap.size w u := by rw [← hu]; exact m1 w _
  have base : u.cell? ⟨w.heap.size, 0, none⟩ = some (.int .i64 st0) ∧ u.cell? ⟨w.heap.size, 1, none⟩ = some (.int .i64 br0) ∧ u.cell? ⟨w.heap.size, 2, none⟩ = some (.slice A0 z0.length c0) ∧
      RowsAt u A0 z0 ∧ Below w.heap.size w u :=
    ⟨by rw [← hu]; simp [go_sem], by rw [← hu]; simp [go_sem], by rw [← hu]; simp [go_sem], w0.later bu, bu⟩
  have l0 : z0.length ≤ 9223372036854775806 := by omega
  have q0 : ∀ l ∈ z0, l.length ≤ 9223372036854775806 := fun l h => by have := y0 l h; omega
  have u0' : z0.flatten.length * 8 ≤ 140737488355328 := by omega
  have tab := Lib.hid (Lib.tabBelow_of_tabIs htab)
  have sp := Lib.hid (fun w' hb => SpTab.later (w := w) (w1 := w') hsp hb)
  have hzz := Lib.hid (fun (w' : World) (hb : Below w.heap.size w w') => (Nat.lt_of_lt_of_le hz hb.size : 0 < w'.heap.size))
  have GP := Lib.hid (fun (w' : World) (h : RowsAt w' A0 z0) => good_any A0 c0 st0 br0 z0 a1 w' h l0 q0)
  have GR := Lib.hid (fun (w' : World) (h : RowsAt w' A0 z0) => rgood_any A0 c0 st0 br0 z0 a1 w' h l0 q0 u0')
  generalize goodP st0 br0 z0 a1 = gg at *
  clear w0 bu htab hsp hz q0 y0 u0 u0' l0 s0 w1
  go_enter Tryd.func5, Tryd.ntmps5
  go_wp2_with fail
  clear hu
  have base' := base
  obtain ⟨d0, d1, d2, dA, dW⟩ := base'
  go_region_held3 (fun w' => w'.cell? ⟨w.heap.size, 0, none⟩ = some (.int .i64 st0) ∧ w'.cell? ⟨w.heap.size, 1, none⟩ = some (.int .i64 br0) ∧ w'.cell? ⟨w.heap.size, 2, none⟩ = some (.slice A0 z0.length c0) ∧
      RowsAt w' A0 z0 ∧ Below w.heap.size w w')
    (first | exact keepDrewG base | go_keep | exact goodKeep hb1 (by first | assumption | exact ⟨by assumption, by assumption, by assumption, by assumption, by assumption⟩))
    (first
      | (go_at_call 10; refine (awake_any _ (sp.out _ (by first | assumption | exact dW.drew | exact beG (by assumption))) (hzz.out _ (by first | assumption | exact dW.drew | exact beG (by assumption))) (tab.out _ (by first | assumption | exact dW.drew | exact beG (by assumption)))).mono ?_; rintro e w1 ⟨rfl, hb1⟩)
      | (go_at_call 18; refine (GP.out _ (by first | assumption | exact rowsG (by assumption))).mono ?_; rintro e w1 ⟨rfl, hb1⟩)
      | (go_at_call 19; refine (GR.out _ (by first | assumption | exact rowsG (by assumption))).mono ?_; rintro e w1 ⟨rfl, hb1⟩))
  rename_i hS
  have hBz := beG hS
  replace hBz := Lib.hid hBz
  clear hS base d0 d1 d2 dA dW
  go_wp2
  go_ret
  exact ⟨by simp, hBz.out⟩

theorem laid_met (os : Os) (args : Array Value) : laidMetH Tryd.prog Rows.matchGoodsUptoRow.laid ((World.laidAll Tryd.prog os Rows.matchGoodsUptoRow.laid).forCall (fun _ _ => 0) ⟨#[], args, []⟩).memory := by
  rw [MakeChecks.laidMetH_plain _ _ _ (by kernel_rfl)]
  exact laidMet_laidAll _ (by kernel_rfl) (by kernel_rfl)
theorem gPow : Tryd.prog.globalNamed "internal/strconv.uint64pow10" = some 3 := by kernel_rfl
theorem tPow : (Tryd.prog.globals[3]?).map (·.type) = some 111 := by kernel_rfl
theorem of_laid {W : World} (h : laidMetH Tryd.prog Rows.matchGoodsUptoRow.laid W) : Lib.TabIs Tryd.prog W "internal/strconv.uint64pow10" .u64 Lib.pow10Tab := by
  rw [MakeChecks.laidMetH_plain _ _ _ (by kernel_rfl)] at h
  have h2 : laidMet Tryd.prog (("internal/strconv.uint64pow10", Lib.tabData .u64 Lib.pow10Tab) :: Rows.matchGoodsUptoRow.laid.drop 3) W := h.tail.tail
  exact Lib.tabIs_of_head gPow tPow Tryd.underlying111 Tryd.underlying61 (by kernel_rfl) (by kernel_rfl) h2

theorem gSp : Tryd.prog.globalNamed "strings.asciiSpace" = some 0 := by kernel_rfl
theorem tSp : (Tryd.prog.globals[0]?).map (·.type) = some 81 := by kernel_rfl
theorem spD : (Lib.tabData .u8 spL : DataW Unit) = Rows.laid_strings_asciiSpace := by kernel_rfl
theorem of_laid2 {W : World} (h : laidMetH Tryd.prog Rows.matchGoodsUptoRow.laid W) : Lib.TabIs Tryd.prog W "strings.asciiSpace" .u8 spL := by
  rw [MakeChecks.laidMetH_plain _ _ _ (by kernel_rfl)] at h
  have h2 : laidMet Tryd.prog (("strings.asciiSpace", Lib.tabData .u8 spL) :: Rows.matchGoodsUptoRow.laid.drop 8) W := by rw [spD]; exact h.tail.tail.tail.tail.tail.tail.tail
  exact Lib.tabIs_of_head gSp tSp Tryd.underlying81 Tryd.underlying5 (by kernel_rfl) (by kernel_rfl) h2

set_option maxRecDepth 100000 in
theorem contract (H : Type) (enc : TypeId × Value → H) (W : World) (base : Nat) (args : Array Value) (ds gs : List (DataW H)) (before : List MemPlace)
    (hval0 : ∀ (j : Nat) t v, Tryd.f5.params[j]? = some t → args[j]? = some v → Value.okWide Tryd.prog W .any base t v)
    (hW : DataW.Whole enc Tryd.prog Tryd.f5.params.toList Rows.matchGoodsSpec.vars false W args.toList ds gs before) (hk0 : Rows.uptoSmall H (ds ++ gs) = true)
    (hsz0 : (DataW.weightsEach Tryd.prog (Tryd.f5.params.toList ++ Rows.matchGoodsSpec.plain.varTypes Tryd.prog) (ds ++ gs)).all (· ≤ reachBytes) = true)
    (hL : laidMetH Tryd.prog Rows.matchGoodsUptoRow.laid W) :
    Calls Tryd.prog 5 args W fun e W' => ∃ v, e = .returned v ∧ Rows.matchGoodsSpec.post enc Tryd.prog Tryd.f5 false true false false W args v W' := by
  have hTab := of_laid hL
  have hSpT := of_laid2 hL
  have hSp := spTab_of hSpT gSp
  have hZ : 0 < W.heap.size := mblock (hSp 0 (by decide))
  clear hL
  have hsz : (DataW.weightsEach Tryd.prog (Tryd.f5.params.toList ++ Rows.matchGoodsSpec.plain.varTypes Tryd.prog) (ds ++ gs)).all (· ≤ reachBytes) = true := hsz0
  clear hsz0
  have hval : ∀ (j : Nat) t v, Tryd.f5.params[j]? = some t → args[j]? = some v → Value.okWide Tryd.prog W .any base t v := hval0
  have hW' := hW
  obtain ⟨p, q, hA0, hV, rfl, hfz, hnd⟩ := hW
  have hA : DataW.TrodAll enc Tryd.prog W 0 (fun _ => true) true Tryd.f5.params.toList args.toList ds p := hA0
  rw [Tryd.params5] at hA hval hsz
  obtain ⟨v0, vs0, d0, ds0, p0, q0, hargs, rfl, rfl, h0, r0⟩ := trodAll_cons hA
  obtain ⟨v1, vs1, d1, ds1, p1, q1, rfl, rfl, rfl, h1, r1⟩ := trodAll_cons r0
  obtain ⟨rfl, rfl, rfl⟩ := trodAll_nil r1
  obtain rfl : args = #[v0, v1] := by cases args; simp_all
  obtain ⟨rfl, rfl⟩ := trodVars_none hV
  have kk0 := h0
  have lt0 : ∀ x ∈ p0, x.block < W.heap.size := by obtain ⟨m, hm⟩ := kk0; exact DataW.trod_lt m _ _ _ hm
  have kk1 := h1
  have lt1 : ∀ x ∈ p1, x.block < W.heap.size := by obtain ⟨m, hm⟩ := kk1; exact DataW.trod_lt m _ _ _ hm
  have hk1 := hk0
  simp only [List.append_nil] at hk1
  have hk := of_decide_eq_true hk1
  simp only [Rows.uptoBulkAll] at hk
  clear hk0 hk1
  obtain ⟨st0, br0, A0, c0, z0, rfl, ws0, wb0, w0, s0, y0, uu0⟩ := open_matchU (hval 0 24 v0 rfl rfl) h0 (wb_each hsz (j := 0) (t := 24) rfl rfl)
  obtain ⟨a1, rfl, rfl, rfl, w1⟩ := open_int Tryd.underlying3 (hval 1 3 v1 rfl rfl) h1
  clear hA0 hval0
  refine (walk W hTab hSp hZ st0 br0 A0 c0 z0 ws0 wb0 w0 s0 y0 (by omega) a1 w1).mono fun e W' ⟨he, bel⟩ => ?_
  subst he
  exact ⟨_, rfl, _, _, _, [], _, [], hW', trodAll_mk1 (shut_bool Tryd.underlying4 _), (trodAll_cons_mk (Below.trod laidOut (by kernel_rfl) (of_decide_eq_true (by kernel_rfl)) kk0 bel lt0) (trodAll_cons_mk (Below.trod laidOut (by kernel_rfl) (of_decide_eq_true (by kernel_rfl)) kk1 bel lt1) trodAll_mk0)), rfl, bel.frame _, fun h => by cases h⟩

set_option maxRecDepth 100000 in
theorem reads (os : Os) {H : Type} (enc : TypeId × Value → H) : ∃ x, DataW.whole enc Tryd.prog ((World.laidAll Tryd.prog os Rows.matchGoodsUptoRow.laid).forCall (fun _ _ => 0) ⟨#[], #[.agg #[.int .i64 0, .int .i64 0, .slice none 0 0], .int .i64 0], []⟩).memory Tryd.f5.params.toList Rows.matchGoodsSpec.vars false #[(.agg #[.int .i64 0, .int .i64 0, .slice none 0 0] : Value), (.int .i64 0 : Value)].toList 8 = some ([.agg [.lit (.int .i64 0), .lit (.int .i64 0), .nil], .lit (.int .i64 0)], [], x) :=
  ⟨[], by kernel_rfl⟩
set_option maxRecDepth 100000 in
theorem okw (os : Os) : Input.okWideB Tryd.checked.prog ((World.laidAll Tryd.prog os Rows.matchGoodsUptoRow.laid).forCall (fun _ _ => 0) ⟨#[], #[.agg #[.int .i64 0, .int .i64 0, .slice none 0 0], .int .i64 0], []⟩) 5 ⟨#[], #[.agg #[.int .i64 0, .int .i64 0, .slice none 0 0], .int .i64 0], []⟩ = true := by kernel_rfl

set_option maxRecDepth 100000 in
theorem lifted (os : Os) (started : os.Started) (H : Type) (enc : TypeId × Value → H) (F : Stop.Interp) :
    ReturnsInHanded {} Tryd.checked os 5 .any ((Rows.OpenSpec.upto Rows.matchGoodsSpec).preRow enc Tryd.prog Tryd.f5 Rows.matchGoodsUptoRow.domain false Rows.matchGoodsUptoRow.laid) (((Rows.OpenSpec.upto Rows.matchGoodsSpec).at F).post enc Tryd.prog Tryd.f5 false true false false) := by
  obtain ⟨places, hx⟩ := reads os enc
  refine returnsInHanded_of_row (C := Tryd.checked) (s := Rows.OpenSpec.upto Rows.matchGoodsSpec) own started (by kernel_rfl) Tryd.func5
    ⟨World.laidAll Tryd.prog os Rows.matchGoodsUptoRow.laid, fun _ _ => 0, ⟨#[], #[.agg #[.int .i64 0, .int .i64 0, .slice none 0 0], .int .i64 0], []⟩, World.laidAll_os _ _ _, World.shaped_of_ZipB (by kernel_rfl) (by kernel_rfl), (Input.okWide_of_okWideB (base := 0) (okw os)).1, (Input.okWide_of_okWideB (okw os)).2,
      OpenSpec.preRow_of_cond 8 hx (by kernel_rfl) (fun k hk => by cases hk; kernel_rfl) (by kernel_rfl) (laid_met os _), by
        simp only [Assume.holds]
        exact ⟨by simp, by simp, fun _ => Modest.zero, by simp, by simp⟩⟩ ?_
  intro W base args ds gs before hval hW _ hcond hsz hL _ _
  exact contract H enc W base args ds gs before hval hW (hcond _ rfl) hsz hL

theorem over : Rows.matchGoodsUptoRow.holds Tryd.pinned (Rows.OpenSpec.upto Rows.matchGoodsSpec) :=
  OpenClaim.holds_of_cond 5 Tryd.f5 rfl rfl rfl rfl rfl rfl rfl ⟨rfl, rfl, rfl, rfl, rfl⟩ rfl rfl rfl rfl rfl (by kernel_rfl) Tryd.func5 (by kernel_rfl)
    (of_decide_eq_true (by kernel_rfl)) (by unfold Func.isWrapper; first | (rw [if_pos (by decide +kernel)]; kernel_rfl) | (rw [if_neg (by decide +kernel)]; exact ⟨rfl, rfl⟩))
    (fun os started H enc _ F => by rw [OpenClaim.pre_eq_preRow]; exact lifted os started H enc F)

/-- the statement -/
theorem proved : Rows.MatchGoodsUptoCardSaid :=
  Claim7.holds_tied_plain_at .later [] [.data, .data, .data, .data, .sentinel, .sentinel, .listed, .data, .pinned] true (true, "adcc2ad523869b1080a35ead8d8a9f8851c72ee131aff97a222f6ecc579e3911") true
    over (fun _ h => by cases h) (by kernel_rfl) (fun _ h => by cases h) matchGoodsUpto_row_tie rfl ⟨rfl, rfl⟩ (by kernel_rfl) rfl
    (fun f fn hf hfn => by
      obtain rfl : f = 5 := Option.some.inj ((show Tryd.prog.funcNamed "auspice/auspicelaw10.MatchGoods" = some 5 by kernel_rfl).symm.trans hf) |>.symm
      obtain rfl : fn = Tryd.f5 := (Option.some.inj (Tryd.func5.symm.trans hfn)).symm
      exact ⟨by kernel_rfl, fun j t ht => by
        rw [Tryd.params5] at ht
        have hm : t ∈ [24, 3] := by simpa using Array.mem_of_getElem? ht
        have hall : ([24, 3].all fun u => !Tryd.prog.wantsStandIn u) = true := by kernel_rfl
        exact (show Tryd.prog.wantsStandIn t = false by simpa using List.all_eq_true.1 hall t hm)⟩)
    (by kernel_rfl)
#print axioms proved
end Go.Proofs.YtfbpaomebfleiaaDoor.matchGoods
