/- ValueStrict: an operator (but AND and OR) with poison among its operands makes poison. -/
import Derived.Test.YtpcdeofjadnpbabRows
import Derived.WalkKit
import Derived.ProofKit
import Derived.OpenShut
import Derived.ShutString
import Derived.ChangeOld
import Derived.Below
import Derived.Lib.SmallJoins
import Derived.SizedLaws
import Derived.Test.YtpcdeofjadnpbabAwake
import Derived.Test.YtpcdeofjadnpbabLogic
namespace Go.Proofs.Ytpcdeofjadnpbab.valueStrict
open Go.ChangeShapes Go.WideShapes Go.ChangeAt Go.RowKit Go.Fl Go.Joins
set_option linter.unusedVariables false

theorem own : ownKnob Try.prog.godebug = none := by kernel_rfl
theorem laidOut : laidOutB Try.prog = true := by kernel_rfl
theorem cells28 : Try.prog.cellsOf 28 = 2 := by kernel_rfl

theorem strict13 (A : Option Addr) (cap : Nat) (w : World) (hv : RowV w A 2 [(0, 0), (0, 0)]) :
    Calls Try.prog 28 #[.int .i64 13, .slice A 2 cap] w fun e w' => e = .returned (.agg #[.int .i64 0, .int .u64 0]) ∧ Below w.heap.size w w' :=
  apply_two 13 A cap 0 0 0 0 0 0 w hv fun w => two_and 0 0 0 0 w
theorem strict14 (A : Option Addr) (cap : Nat) (w : World) (hv : RowV w A 2 [(0, 0), (0, 0)]) :
    Calls Try.prog 28 #[.int .i64 14, .slice A 2 cap] w fun e w' => e = .returned (.agg #[.int .i64 0, .int .u64 0]) ∧ Below w.heap.size w w' :=
  apply_two 14 A cap 0 0 0 0 0 0 w hv fun w => two_or 0 0 0 0 w
theorem strictL (op : Int) (h13 : op ≠ 13) (h14 : op ≠ 14) (k : Int) (b : Nat) (A : Option Addr) (cap : Nat) (w : World) (hv : RowV w A 2 [(0, 0), (k, b)]) :
    Calls Try.prog 28 #[.int .i64 op, .slice A 2 cap] w fun e w' => e = .returned (.agg #[.int .i64 0, .int .u64 0]) ∧ Below w.heap.size w w' :=
  apply_two op A cap 0 k 0 b 0 0 w hv fun w => two_unlike op _ _ _ _ w h13 h14 (by rw [show clK 0 0 = 0 by decide]; omega)
theorem strictR (op : Int) (h13 : op ≠ 13) (h14 : op ≠ 14) (k : Int) (b : Nat) (A : Option Addr) (cap : Nat) (w : World) (hv : RowV w A 2 [(k, b), (0, 0)]) :
    Calls Try.prog 28 #[.int .i64 op, .slice A 2 cap] w fun e w' => e = .returned (.agg #[.int .i64 0, .int .u64 0]) ∧ Below w.heap.size w w' :=
  apply_two op A cap k 0 b 0 0 0 w hv fun w => two_unlike op _ _ _ _ w h13 h14 (by rw [show clK 0 0 = 0 by decide]; omega)
theorem strict1 (op : Int) (A : Option Addr) (cap : Nat) (w : World) (hv : RowV w A 1 [(0, 0)]) :
    Calls Try.prog 28 #[.int .i64 op, .slice A 1 cap] w fun e w' => e = .returned (.agg #[.int .i64 0, .int .u64 0]) ∧ Below w.heap.size w w' :=
  apply_one op A cap 0 0 0 0 w hv fun w => one_poison op _ w

set_option maxHeartbeats 4000000 in
theorem walk (w : World) (a0 : Int) (w0 : (Lit.int .i64 a0).wf = true) (k1 : Int) (b1 : Nat) (x1 : (Lit.int .i64 k1).wf = true) (w1 : b1 < 18446744073709551616) (a2 : Bool) :
    Calls Try.prog 10 #[.int .i64 a0, .agg #[.int .i64 k1, .int .u64 (b1 : Int)], .bool a2] w fun e w' => e = .returned (.bool true) ∧ Below w.heap.size w w' := by
  have he := eqR
  by_cases h13 : a0 = 13
  · subst h13
    go_enter Try.func10, Try.ntmps10
    go_wp2_with fail
    refine (awake_any _).mono ?_; rintro e u1 ⟨rfl, hb1⟩
    go_wp2_with fail
    refine (do_of 13 (some ⟨u1.heap.size, 0, none⟩) 2 2 [(0, 0), (0, 0)] 0 0 _ ⟨rfl, by simp, fun _ => ⟨u1.heap.size, 0, rfl, fun i k c h => ?_⟩⟩ (by decide) (fun A' cap' w hv => strict13 A' cap' w hv)).mono ?_
    · match i, h with
      | 0, h => simp at h; obtain ⟨rfl, rfl⟩ := h; simp
      | 1, h => simp at h; obtain ⟨rfl, rfl⟩ := h; simp
    rintro e u2 ⟨rfl, hb2⟩
    have hB := below_more (below_more (below_more (below1 w _) hb1) (below1 u1 _)) hb2
    clear hb1 hb2
    go_wp2
    go_ret
    exact ⟨rfl, hB⟩
  by_cases h14 : a0 = 14
  · subst h14
    go_enter Try.func10, Try.ntmps10
    go_wp2_with fail
    refine (awake_any _).mono ?_; rintro e u1 ⟨rfl, hb1⟩
    go_wp2_with fail
    refine (do_of 14 (some ⟨u1.heap.size, 0, none⟩) 2 2 [(0, 0), (0, 0)] 0 0 _ ⟨rfl, by simp, fun _ => ⟨u1.heap.size, 0, rfl, fun i k c h => ?_⟩⟩ (by decide) (fun A' cap' w hv => strict14 A' cap' w hv)).mono ?_
    · match i, h with
      | 0, h => simp at h; obtain ⟨rfl, rfl⟩ := h; simp
      | 1, h => simp at h; obtain ⟨rfl, rfl⟩ := h; simp
    rintro e u2 ⟨rfl, hb2⟩
    have hB := below_more (below_more (below_more (below1 w _) hb1) (below1 u1 _)) hb2
    clear hb1 hb2
    go_wp2
    go_ret
    exact ⟨rfl, hB⟩
  have f13 : (a0 == 13) = false := by simpa using h13
  have f14 : (a0 == 14) = false := by simpa using h14
  cases a2
  · go_enter Try.func10, Try.ntmps10
    go_wp2_with fail
    refine (awake_any _).mono ?_; rintro e u1 ⟨rfl, hb1⟩
    have r0 : u1.cell? ⟨w.heap.size, 0, none⟩ = some (.int .i64 k1) := cell_later hb1 (by simp)
    have r1 : u1.cell? ⟨w.heap.size, 1, none⟩ = some (.int .u64 (b1 : Int)) := cell_later hb1 (by simp)
    go_wp2_with fail
    refine (do_of a0 (some ⟨u1.heap.size, 0, none⟩) 2 2 [(k1, b1), (0, 0)] 0 0 _ ⟨rfl, by simp; exact w1, fun _ => ⟨u1.heap.size, 0, rfl, fun i k c h => ?_⟩⟩ (by decide) (fun A' cap' w hv => strictR a0 h13 h14 k1 b1 A' cap' w hv)).mono ?_
    · match i, h with
      | 0, h => simp at h; obtain ⟨rfl, rfl⟩ := h; simp
      | 1, h => simp at h; obtain ⟨rfl, rfl⟩ := h; simp
    rintro e u2 ⟨rfl, hb2⟩
    go_wp2_with fail
    refine (do_of a0 none 0 0 [] 0 0 _ ⟨rfl, by simp, fun h => absurd h (by decide)⟩ (by decide) (fun A' cap' w hv => apply_none a0 A' 0 cap' w (by decide) (by decide))).mono ?_
    rintro e u3 ⟨rfl, hb3⟩
    have hB := below_more (below_more (below_more (below_more (below1 w _) hb1) (below1 u1 _)) hb2) hb3
    clear hb1 hb2 hb3
    go_wp2
    go_ret
    exact ⟨rfl, hB⟩
  · go_enter Try.func10, Try.ntmps10
    go_wp2_with fail
    refine (awake_any _).mono ?_; rintro e u1 ⟨rfl, hb1⟩
    have r0 : u1.cell? ⟨w.heap.size, 0, none⟩ = some (.int .i64 k1) := cell_later hb1 (by simp)
    have r1 : u1.cell? ⟨w.heap.size, 1, none⟩ = some (.int .u64 (b1 : Int)) := cell_later hb1 (by simp)
    go_wp2_with fail
    refine (do_of a0 (some ⟨u1.heap.size, 0, none⟩) 2 2 [(0, 0), (k1, b1)] 0 0 _ ⟨rfl, by simp; exact w1, fun _ => ⟨u1.heap.size, 0, rfl, fun i k c h => ?_⟩⟩ (by decide) (fun A' cap' w hv => strictL a0 h13 h14 k1 b1 A' cap' w hv)).mono ?_
    · match i, h with
      | 0, h => simp at h; obtain ⟨rfl, rfl⟩ := h; simp
      | 1, h => simp at h; obtain ⟨rfl, rfl⟩ := h; simp
    rintro e u2 ⟨rfl, hb2⟩
    go_wp2_with fail
    refine (do_of a0 (some ⟨u2.heap.size, 0, none⟩) 1 1 [(0, 0)] 0 0 _ ⟨rfl, by simp, fun _ => ⟨u2.heap.size, 0, rfl, fun i k c h => ?_⟩⟩ (by decide) (fun A' cap' w hv => strict1 a0 A' cap' w hv)).mono ?_
    · match i, h with
      | 0, h => simp at h; obtain ⟨rfl, rfl⟩ := h; simp
    rintro e u3 ⟨rfl, hb3⟩
    have hB := below_more (below_more (below_more (below_more (below_more (below1 w _) hb1) (below1 u1 _)) hb2) (below1 u2 _)) hb3
    clear hb1 hb2 hb3
    go_wp2
    go_ret
    exact ⟨rfl, hB⟩

set_option maxRecDepth 100000 in
theorem lifted (os : Os) (started : os.Started) (H : Type) (enc : TypeId × Value → H) :
    ReturnsInHanded {} Try.checked os 10 .any (Rows.valueStrictSpec.pre6 enc Try.prog Try.f10 Rows.valueStrictRow.domain false) (Rows.valueStrictSpec.post enc Try.prog Try.f10 false true false false) := by
  refine returnsInHanded_of_change (C := Try.checked) own started (by kernel_rfl) Try.func10
    (ChangeSpec.witness6 (enc := enc) (C := Try.checked) false ⟨#[], #[.int .i64 0, .agg #[.int .i64 0, .int .u64 0], .bool false], []⟩ 8 (by kernel_rfl) (by kernel_rfl) (by kernel_rfl) (by kernel_rfl)) ?_
  intro W base args ds gs before hval0 hW hcnd _
  have hval : ∀ (j : Nat) t v, Try.f10.params[j]? = some t → args[j]? = some v → Value.okWide Try.prog W .any base t v := hval0
  have hW' := hW
  obtain ⟨p, q, hA0, hV, rfl, hfz, hnd⟩ := hW
  have hA : DataW.TrodAll enc Try.prog W 0 (fun _ => true) true Try.f10.params.toList args.toList ds p := hA0
  rw [Try.params10] at hA hval
  obtain ⟨v0, vs0, d0, ds0, p0, q0, hargs, rfl, rfl, h0, r0⟩ := trodAll_cons hA
  obtain ⟨v1, vs1, d1, ds1, p1, q1, rfl, rfl, rfl, h1, r1⟩ := trodAll_cons r0
  obtain ⟨v2, vs2, d2, ds2, p2, q2, rfl, rfl, rfl, h2, r2⟩ := trodAll_cons r1
  obtain ⟨rfl, rfl, rfl⟩ := trodAll_nil r2
  obtain rfl : args = #[v0, v1, v2] := by cases args; simp_all
  obtain ⟨rfl, rfl⟩ := trodVars_none hV
  have kk0 := h0
  have lt0 : ∀ x ∈ p0, x.block < W.heap.size := by obtain ⟨m, hm⟩ := kk0; exact DataW.trod_lt m _ _ _ hm
  have kk1 := h1
  have lt1 : ∀ x ∈ p1, x.block < W.heap.size := by obtain ⟨m, hm⟩ := kk1; exact DataW.trod_lt m _ _ _ hm
  have kk2 := h2
  have lt2 : ∀ x ∈ p2, x.block < W.heap.size := by obtain ⟨m, hm⟩ := kk2; exact DataW.trod_lt m _ _ _ hm
  obtain ⟨a0, rfl, rfl, rfl, w0⟩ := open_int Try.underlying3 (hval 0 3 v0 rfl rfl) h0
  obtain ⟨k1, b1, rfl, x1, w1⟩ : ∃ (k : Int) (b : Nat), v1 = .agg #[.int .i64 k, .int .u64 (b : Int)] ∧ (Lit.int .i64 k).wf = true ∧ b < 18446744073709551616 := by
    obtain ⟨c0, c1, y0, y1, m, rfl, _, _, hy0, hy1⟩ := open_agg2 Try.underlying28 (by kernel_rfl) cells28 (hval 1 28 v1 rfl rfl) h1
    obtain ⟨a, e0, _, wa⟩ := DataW.trod_int Try.underlying3 hy0
    obtain ⟨b, e1, _, wb⟩ := DataW.trod_int Try.underlying22 hy1
    simp at e0 e1
    subst e0 e1
    obtain ⟨n, rfl, hn⟩ := nat_of_wf wb
    exact ⟨a, n, rfl, wa, hn⟩
  obtain ⟨a2, rfl, rfl, rfl⟩ := open_bool Try.underlying4 (hval 2 4 v2 rfl rfl) h2
  clear hA0 hval0
  refine (walk W a0 w0 k1 b1 x1 w1 a2).mono fun e W' ⟨he, bel⟩ => ?_
  subst he
  exact ⟨_, rfl, _, _, _, [], _, [], hW', trodAll_mk1 (shut_bool Try.underlying4 _), (trodAll_cons_mk (Below.trod laidOut (by kernel_rfl) (of_decide_eq_true (by kernel_rfl)) kk0 bel lt0) (trodAll_cons_mk (Below.trod laidOut (by kernel_rfl) (of_decide_eq_true (by kernel_rfl)) kk1 bel lt1) (trodAll_cons_mk (Below.trod laidOut (by kernel_rfl) (of_decide_eq_true (by kernel_rfl)) kk2 bel lt2) trodAll_mk0))), rfl, bel.frame _, fun h => by cases h⟩

theorem over : Rows.valueStrictRow.holds Try.pinned (OpenSpec.ofChange Rows.valueStrictSpec) :=
  OpenClaim.holds_of_wide 10 Try.f10 rfl rfl rfl rfl rfl rfl rfl ⟨rfl, rfl, rfl, rfl, rfl⟩ rfl rfl rfl rfl rfl (by kernel_rfl) Try.func10 (by kernel_rfl)
    (of_decide_eq_true (by kernel_rfl)) (by unfold Func.isWrapper; first | (rw [if_pos (by decide +kernel)]; kernel_rfl) | (rw [if_neg (by decide +kernel)]; exact ⟨rfl, rfl⟩))
    (fun os started H enc _ => lifted os started H enc)

/-- the statement -/
theorem proved : Rows.ValueStrictSaid :=
  over
#print axioms proved
end Go.Proofs.Ytpcdeofjadnpbab.valueStrict
