/- ValueTruths: AND and OR don't hang on the order, NOT turns the one into the other, brackets of three don't matter. -/
import Derived.Test.YtocciehjpgkceaaRows
import Derived.WalkKit
import Derived.ProofKit
import Derived.OpenShut
import Derived.ShutString
import Derived.ChangeOld
import Derived.Below
import Derived.Lib.SmallJoins
import Derived.SizedLaws
import Derived.Test.YtocciehjpgkceaaAwake
import Derived.Test.YtocciehjpgkceaaTri
import Derived.Test.YtocciehjpgkceaaInvV
namespace Go.Proofs.Ytocciehjpgkceaa.valueTruths
open Go.ChangeShapes Go.WideShapes Go.ChangeAt Go.RowKit Go.Fl Go.Joins
set_option linter.unusedVariables false

theorem own : ownKnob Try.prog.godebug = none := by kernel_rfl
theorem laidOut : laidOutB Try.prog = true := by kernel_rfl
theorem cells29 : Try.prog.cellsOf 29 = 2 := by kernel_rfl

theorem all3 (p : Nat → Nat → Nat → Bool) (h : ((List.range 3).all fun x => (List.range 3).all fun y => (List.range 3).all fun z => p x y z) = true) (x y z : Nat) (hx : x < 3) (hy : y < 3) (hz : z < 3) : p x y z = true :=
  List.all_eq_true.1 (List.all_eq_true.1 (List.all_eq_true.1 h x (List.mem_range.2 hx)) y (List.mem_range.2 hy)) z (List.mem_range.2 hz)
theorem keepV7 {w0 w w1 : World} {a0 a1 a2 a3 a4 a5 : Addr} {v0 v1 v2 v3 v4 v5 : Value} (hb : Below w.heap.size w w1) (h : w.cell? a0 = some v0 ∧ w.cell? a1 = some v1 ∧ w.cell? a2 = some v2 ∧ w.cell? a3 = some v3 ∧ w.cell? a4 = some v4 ∧ w.cell? a5 = some v5 ∧ Below w0.heap.size w0 w) :
    w1.cell? a0 = some v0 ∧ w1.cell? a1 = some v1 ∧ w1.cell? a2 = some v2 ∧ w1.cell? a3 = some v3 ∧ w1.cell? a4 = some v4 ∧ w1.cell? a5 = some v5 ∧ Below w0.heap.size w0 w1 :=
  ⟨cell_later hb h.1, cell_later hb h.2.1, cell_later hb h.2.2.1, cell_later hb h.2.2.2.1, cell_later hb h.2.2.2.2.1, cell_later hb h.2.2.2.2.2.1, h.2.2.2.2.2.2.trans (hb.mono h.2.2.2.2.2.2.size)⟩
theorem do_and' (k l : Int) (b c : Nat) (A : Option Addr) (cap : Nat) (x y n : Nat) (w : World) (hx : tri k b = x) (hy : tri l c = y) (hn : bt 0 x y = n) (hv : RowV w A 2 [(k, b), (l, c)]) :
    Calls Try.prog 17 #[.int .i64 13, .slice A 2 cap] w fun e w' => e = .returned (.agg #[.int .i64 (tvK n), .int .u64 ((tvB n : Nat) : Int)]) ∧ Below w.heap.size w w' := by
  subst hx hy hn
  exact do_and k l b c A cap w hv
theorem do_or' (k l : Int) (b c : Nat) (A : Option Addr) (cap : Nat) (x y n : Nat) (w : World) (hx : tri k b = x) (hy : tri l c = y) (hn : bt 1 x y = n) (hv : RowV w A 2 [(k, b), (l, c)]) :
    Calls Try.prog 17 #[.int .i64 14, .slice A 2 cap] w fun e w' => e = .returned (.agg #[.int .i64 (tvK n), .int .u64 ((tvB n : Nat) : Int)]) ∧ Below w.heap.size w w' := by
  subst hx hy hn
  exact do_or k l b c A cap w hv
theorem do_not' (k : Int) (b : Nat) (A : Option Addr) (cap : Nat) (x n : Nat) (w : World) (hx : tri k b = x) (hn : nt x = n) (hv : RowV w A 1 [(k, b)]) :
    Calls Try.prog 17 #[.int .i64 15, .slice A 1 cap] w fun e w' => e = .returned (.agg #[.int .i64 (tvK n), .int .u64 ((tvB n : Nat) : Int)]) ∧ Below w.heap.size w w' := by
  subst hx hn
  exact do_not k b A cap w hv
set_option maxHeartbeats 4000000 in
theorem walk (w : World) (k0 : Int) (b0 : Nat) (x0 : (Lit.int .i64 k0).wf = true) (w0 : b0 < 18446744073709551616) (k1 : Int) (b1 : Nat) (x1 : (Lit.int .i64 k1).wf = true) (w1 : b1 < 18446744073709551616) (k2 : Int) (b2 : Nat) (x2 : (Lit.int .i64 k2).wf = true) (w2 : b2 < 18446744073709551616) :
    Calls Try.prog 5 #[.agg #[.int .i64 k0, .int .u64 (b0 : Int)], .agg #[.int .i64 k1, .int .u64 (b1 : Int)], .agg #[.int .i64 k2, .int .u64 (b2 : Int)]] w fun e w' => e = .returned (.bool true) ∧ Below w.heap.size w w' := by
  have he := eqR
  have hneq : ∀ (k b : Int) (w : World), (binOp .neq 29 (.agg #[.int .i64 k, .int .u64 b]) (.agg #[.int .i64 k, .int .u64 b])).run Try.prog w = .ok (.bool false) w := fun k b w => by simp [go_sem]
  have heql : ∀ (k b : Int) (w : World), (binOp .eql 29 (.agg #[.int .i64 k, .int .u64 b]) (.agg #[.int .i64 k, .int .u64 b])).run Try.prog w = .ok (.bool true) w := fun k b w => by simp [go_sem]
  obtain ⟨xa, ta⟩ : ∃ x, tri k0 b0 = x := ⟨_, rfl⟩
  obtain ⟨xb, tb⟩ : ∃ x, tri k1 b1 = x := ⟨_, rfl⟩
  obtain ⟨xc, tc⟩ : ∃ x, tri k2 b2 = x := ⟨_, rfl⟩
  have hxa : xa < 3 := ta ▸ tri_lt k0 b0
  have hxb : xb < 3 := tb ▸ tri_lt k1 b1
  have hxc : xc < 3 := tc ▸ tri_lt k2 b2
  have q0 : bt 0 (xa) (xb) < 3 := of_decide_eq_true (all3 (fun xa xb xc => decide (bt 0 (xa) (xb) < 3)) (by decide) xa xb xc hxa hxb hxc)
  have q1 : bt 0 (xb) (xa) = bt 0 (xa) (xb) := of_decide_eq_true (all3 (fun xa xb xc => decide (bt 0 (xb) (xa) = bt 0 (xa) (xb))) (by decide) xa xb xc hxa hxb hxc)
  have q2 : bt 1 (xa) (xb) < 3 := of_decide_eq_true (all3 (fun xa xb xc => decide (bt 1 (xa) (xb) < 3)) (by decide) xa xb xc hxa hxb hxc)
  have q3 : bt 1 (xb) (xa) = bt 1 (xa) (xb) := of_decide_eq_true (all3 (fun xa xb xc => decide (bt 1 (xb) (xa) = bt 1 (xa) (xb))) (by decide) xa xb xc hxa hxb hxc)
  have q4 : bt 0 (bt 0 (xa) (xb)) (xc) < 3 := of_decide_eq_true (all3 (fun xa xb xc => decide (bt 0 (bt 0 (xa) (xb)) (xc) < 3)) (by decide) xa xb xc hxa hxb hxc)
  have q5 : bt 0 (xb) (xc) < 3 := of_decide_eq_true (all3 (fun xa xb xc => decide (bt 0 (xb) (xc) < 3)) (by decide) xa xb xc hxa hxb hxc)
  have q6 : bt 0 (xa) (bt 0 (xb) (xc)) = bt 0 (bt 0 (xa) (xb)) (xc) := of_decide_eq_true (all3 (fun xa xb xc => decide (bt 0 (xa) (bt 0 (xb) (xc)) = bt 0 (bt 0 (xa) (xb)) (xc))) (by decide) xa xb xc hxa hxb hxc)
  have q7 : bt 1 (bt 1 (xa) (xb)) (xc) < 3 := of_decide_eq_true (all3 (fun xa xb xc => decide (bt 1 (bt 1 (xa) (xb)) (xc) < 3)) (by decide) xa xb xc hxa hxb hxc)
  have q8 : bt 1 (xb) (xc) < 3 := of_decide_eq_true (all3 (fun xa xb xc => decide (bt 1 (xb) (xc) < 3)) (by decide) xa xb xc hxa hxb hxc)
  have q9 : bt 1 (xa) (bt 1 (xb) (xc)) = bt 1 (bt 1 (xa) (xb)) (xc) := of_decide_eq_true (all3 (fun xa xb xc => decide (bt 1 (xa) (bt 1 (xb) (xc)) = bt 1 (bt 1 (xa) (xb)) (xc))) (by decide) xa xb xc hxa hxb hxc)
  have q10 : nt (bt 0 (xa) (xb)) < 3 := of_decide_eq_true (all3 (fun xa xb xc => decide (nt (bt 0 (xa) (xb)) < 3)) (by decide) xa xb xc hxa hxb hxc)
  have q11 : nt (xa) < 3 := of_decide_eq_true (all3 (fun xa xb xc => decide (nt (xa) < 3)) (by decide) xa xb xc hxa hxb hxc)
  have q12 : nt (xb) < 3 := of_decide_eq_true (all3 (fun xa xb xc => decide (nt (xb) < 3)) (by decide) xa xb xc hxa hxb hxc)
  have q13 : bt 1 (nt (xa)) (nt (xb)) = nt (bt 0 (xa) (xb)) := of_decide_eq_true (all3 (fun xa xb xc => decide (bt 1 (nt (xa)) (nt (xb)) = nt (bt 0 (xa) (xb)))) (by decide) xa xb xc hxa hxb hxc)
  clear he
  go_enter Try.func5, Try.ntmps5
  go_wp2_with fail
  refine region_words (fun w' => w'.cell? ⟨w.heap.size, 0, none⟩ = some (.int .i64 k0) ∧ w'.cell? ⟨w.heap.size, 1, none⟩ = some (.int .u64 (b0 : Int)) ∧ w'.cell? ⟨w.heap.size + 1, 0, none⟩ = some (.int .i64 k1) ∧ w'.cell? ⟨w.heap.size + 1, 1, none⟩ = some (.int .u64 (b1 : Int)) ∧ w'.cell? ⟨w.heap.size + 1 + 1, 0, none⟩ = some (.int .i64 k2) ∧ w'.cell? ⟨w.heap.size + 1 + 1, 1, none⟩ = some (.int .u64 (b2 : Int)) ∧ Below w.heap.size w w') [isW (.bool true), isW (.bool false), isW (.bool false), isW (.agg #[.int .i64 (k0), .int .u64 ((b0 : Nat) : Int)]), isW (.agg #[.int .i64 (k1), .int .u64 ((b1 : Nat) : Int)]), rowW [(k0, b0), (k1, b1)], isW (.agg #[.int .i64 (tvK (bt 0 (xa) (xb))), .int .u64 ((tvB (bt 0 (xa) (xb)) : Nat) : Int)]), isW (.agg #[.int .i64 (k1), .int .u64 ((b1 : Nat) : Int)]), isW (.agg #[.int .i64 (k0), .int .u64 ((b0 : Nat) : Int)]), rowW [(k1, b1), (k0, b0)], isW (.agg #[.int .i64 (tvK (bt 0 (xa) (xb))), .int .u64 ((tvB (bt 0 (xa) (xb)) : Nat) : Int)]), isW (.bool false), isW (.bool false), isW (.bool false), isW (.agg #[.int .i64 (k0), .int .u64 ((b0 : Nat) : Int)]), isW (.agg #[.int .i64 (k1), .int .u64 ((b1 : Nat) : Int)]), rowW [(k0, b0), (k1, b1)], isW (.agg #[.int .i64 (tvK (bt 1 (xa) (xb))), .int .u64 ((tvB (bt 1 (xa) (xb)) : Nat) : Int)]), isW (.agg #[.int .i64 (k1), .int .u64 ((b1 : Nat) : Int)]), isW (.agg #[.int .i64 (k0), .int .u64 ((b0 : Nat) : Int)]), rowW [(k1, b1), (k0, b0)], isW (.agg #[.int .i64 (tvK (bt 1 (xa) (xb))), .int .u64 ((tvB (bt 1 (xa) (xb)) : Nat) : Int)]), isW (.bool false), isW (.bool false)] (by kernel_rfl) (by repeat' (first | exact monoL_nil | exact is_mono _ | exact row_mono _ | exact any_mono | refine monoL_cons ?_ ?_)) (by kernel_rfl) (by kernel_rfl) (fun _ _ h hb => keepV7 hb h) (⟨by simp [go_sem], by simp [go_sem], by simp [go_sem], by simp [go_sem], by simp [go_sem], by simp [go_sem], (below3 _ _ _ _).drew⟩) ?_ ?_
  · refine stepsL_cons (fun a u hc hd hk hdep => ?_) ?_
    ·
      refine step_call 12 #[] (wanted_plain rfl) (by go_simp) ?_
      exact (awake_any u).mono (by rintro e w' ⟨rfl, hb⟩; exact ⟨_, rfl, rfl, hb⟩)
    refine stepsL_cons (fun a u hc hd hk hdep => ?_) ?_
    ·
      have d7 : (a.tmps[7]?).getD undef = (.bool true) := hdep ⟨0, .data⟩ (by simp) rfl
      refine step_val (.bool false) u (wanted_plain rfl) ?_ rfl (Below.refl _ _)
      go_simp
    refine stepsL_cons (fun a u hc hd hk hdep => ?_) ?_
    ·
      have d8 : (a.tmps[8]?).getD undef = (.bool false) := hdep ⟨1, .data⟩ (by simp) rfl
      refine step_val (.bool false) u (wanted_plain rfl) ?_ rfl (Below.refl _ _)
      first | (go_simp; done) | rfl
    refine stepsL_cons (fun a u hc hd hk hdep => ?_) ?_
    ·
      have d3 : (a.tmps[3]?).getD undef = (.pointer (some ⟨w.heap.size, 0, none⟩)) := hk 3 (by kernel_rfl)
      refine step_val (.agg #[.int .i64 (k0), .int .u64 ((b0 : Nat) : Int)]) u ((wanted_guard (j := 2) (b := false) (c := false) rfl (hdep ⟨2, .guard⟩ (by simp) rfl)).trans rfl) ?_ rfl (Below.refl _ _)
      obtain ⟨s0, s1, s2, s3, s4, s5, s6⟩ := hc
      go_simp
    refine stepsL_cons (fun a u hc hd hk hdep => ?_) ?_
    ·
      have d4 : (a.tmps[4]?).getD undef = (.pointer (some ⟨w.heap.size + 1, 0, none⟩)) := hk 4 (by kernel_rfl)
      refine step_val (.agg #[.int .i64 (k1), .int .u64 ((b1 : Nat) : Int)]) u ((wanted_guard (j := 2) (b := false) (c := false) rfl (hdep ⟨2, .guard⟩ (by simp) rfl)).trans rfl) ?_ rfl (Below.refl _ _)
      obtain ⟨s0, s1, s2, s3, s4, s5, s6⟩ := hc
      go_simp
    refine stepsL_cons (fun a u hc hd hk hdep => ?_) ?_
    ·
      have d10 : (a.tmps[10]?).getD undef = (.agg #[.int .i64 (k0), .int .u64 ((b0 : Nat) : Int)]) := hdep ⟨3, .data⟩ (by simp) rfl
      have d11 : (a.tmps[11]?).getD undef = (.agg #[.int .i64 (k1), .int .u64 ((b1 : Nat) : Int)]) := hdep ⟨4, .data⟩ (by simp) rfl
      refine step_val (.slice (some ⟨u.heap.size, 0, none⟩) 2 2) (u.alloc (.cells #[.int .i64 (k0), .int .u64 ((b0 : Nat) : Int), .int .i64 (k1), .int .u64 ((b1 : Nat) : Int)] 29)) ((wanted_guard (j := 2) (b := false) (c := false) rfl (hdep ⟨2, .guard⟩ (by simp) rfl)).trans rfl) ?_ ⟨_, 2, rfl, row_two (by first | assumption | exact tvB_lt _) (by first | assumption | exact tvB_lt _) (by simp) (by simp) (by simp) (by simp)⟩ (below1 _ _)
      go_simp
    refine stepsL_cons (fun a u hc hd hk hdep => ?_) ?_
    ·
      obtain ⟨A12, c12, d12, r12⟩ : rowW [(k0, b0), (k1, b1)] ((a.tmps[12]?).getD undef) u := hdep ⟨5, .data⟩ (by simp) rfl
      refine step_call 17 #[.int .i64 13, .slice A12 2 c12] ((wanted_guard (j := 2) (b := false) (c := false) rfl (hdep ⟨2, .chain⟩ (by simp) rfl)).trans rfl) (by go_simp) ?_
      exact (do_and' _ _ _ _ _ _ _ _ _ u (ta) (tb) rfl r12).mono (by rintro e w' ⟨rfl, hb⟩; exact ⟨_, rfl, rfl, hb⟩)
    refine stepsL_cons (fun a u hc hd hk hdep => ?_) ?_
    ·
      have d4 : (a.tmps[4]?).getD undef = (.pointer (some ⟨w.heap.size + 1, 0, none⟩)) := hk 4 (by kernel_rfl)
      refine step_val (.agg #[.int .i64 (k1), .int .u64 ((b1 : Nat) : Int)]) u ((wanted_guard (j := 2) (b := false) (c := false) rfl (hdep ⟨2, .guard⟩ (by simp) rfl)).trans rfl) ?_ rfl (Below.refl _ _)
      obtain ⟨s0, s1, s2, s3, s4, s5, s6⟩ := hc
      go_simp
    refine stepsL_cons (fun a u hc hd hk hdep => ?_) ?_
    ·
      have d3 : (a.tmps[3]?).getD undef = (.pointer (some ⟨w.heap.size, 0, none⟩)) := hk 3 (by kernel_rfl)
      refine step_val (.agg #[.int .i64 (k0), .int .u64 ((b0 : Nat) : Int)]) u ((wanted_guard (j := 2) (b := false) (c := false) rfl (hdep ⟨2, .guard⟩ (by simp) rfl)).trans rfl) ?_ rfl (Below.refl _ _)
      obtain ⟨s0, s1, s2, s3, s4, s5, s6⟩ := hc
      go_simp
    refine stepsL_cons (fun a u hc hd hk hdep => ?_) ?_
    ·
      have d14 : (a.tmps[14]?).getD undef = (.agg #[.int .i64 (k1), .int .u64 ((b1 : Nat) : Int)]) := hdep ⟨7, .data⟩ (by simp) rfl
      have d15 : (a.tmps[15]?).getD undef = (.agg #[.int .i64 (k0), .int .u64 ((b0 : Nat) : Int)]) := hdep ⟨8, .data⟩ (by simp) rfl
      refine step_val (.slice (some ⟨u.heap.size, 0, none⟩) 2 2) (u.alloc (.cells #[.int .i64 (k1), .int .u64 ((b1 : Nat) : Int), .int .i64 (k0), .int .u64 ((b0 : Nat) : Int)] 29)) ((wanted_guard (j := 2) (b := false) (c := false) rfl (hdep ⟨2, .guard⟩ (by simp) rfl)).trans rfl) ?_ ⟨_, 2, rfl, row_two (by first | assumption | exact tvB_lt _) (by first | assumption | exact tvB_lt _) (by simp) (by simp) (by simp) (by simp)⟩ (below1 _ _)
      go_simp
    refine stepsL_cons (fun a u hc hd hk hdep => ?_) ?_
    ·
      obtain ⟨A16, c16, d16, r16⟩ : rowW [(k1, b1), (k0, b0)] ((a.tmps[16]?).getD undef) u := hdep ⟨9, .data⟩ (by simp) rfl
      refine step_call 17 #[.int .i64 13, .slice A16 2 c16] ((wanted_guard (j := 2) (b := false) (c := false) rfl (hdep ⟨2, .guard⟩ (by simp) rfl)).trans rfl) (by go_simp) ?_
      exact (do_and' _ _ _ _ _ _ _ _ _ u (tb) (ta) q1 r16).mono (by rintro e w' ⟨rfl, hb⟩; exact ⟨_, rfl, rfl, hb⟩)
    refine stepsL_cons (fun a u hc hd hk hdep => ?_) ?_
    ·
      have d13 : (a.tmps[13]?).getD undef = (.agg #[.int .i64 (tvK (bt 0 (xa) (xb))), .int .u64 ((tvB (bt 0 (xa) (xb)) : Nat) : Int)]) := hdep ⟨6, .data⟩ (by simp) rfl
      have d17 : (a.tmps[17]?).getD undef = (.agg #[.int .i64 (tvK (bt 0 (xa) (xb))), .int .u64 ((tvB (bt 0 (xa) (xb)) : Nat) : Int)]) := hdep ⟨10, .data⟩ (by simp) rfl
      refine step_val (.bool false) u ((wanted_guard (j := 2) (b := false) (c := false) rfl (hdep ⟨2, .guard⟩ (by simp) rfl)).trans rfl) ?_ rfl (Below.refl _ _)
      go_simp
    refine stepsL_cons (fun a u hc hd hk hdep => ?_) ?_
    ·
      have d9 : (a.tmps[9]?).getD undef = (.bool false) := hdep ⟨2, .data⟩ (by simp) rfl
      have d18 : (a.tmps[18]?).getD undef = (.bool false) := hdep ⟨11, .data⟩ (by simp) rfl
      refine step_val (.bool false) u (wanted_plain rfl) ?_ rfl (Below.refl _ _)
      first | (go_simp; done) | rfl
    refine stepsL_cons (fun a u hc hd hk hdep => ?_) ?_
    ·
      have d19 : (a.tmps[19]?).getD undef = (.bool false) := hdep ⟨12, .data⟩ (by simp) rfl
      refine step_val (.bool false) u (wanted_plain rfl) ?_ rfl (Below.refl _ _)
      first | (go_simp; done) | rfl
    refine stepsL_cons (fun a u hc hd hk hdep => ?_) ?_
    ·
      have d3 : (a.tmps[3]?).getD undef = (.pointer (some ⟨w.heap.size, 0, none⟩)) := hk 3 (by kernel_rfl)
      refine step_val (.agg #[.int .i64 (k0), .int .u64 ((b0 : Nat) : Int)]) u ((wanted_guard (j := 13) (b := false) (c := false) rfl (hdep ⟨13, .guard⟩ (by simp) rfl)).trans rfl) ?_ rfl (Below.refl _ _)
      obtain ⟨s0, s1, s2, s3, s4, s5, s6⟩ := hc
      go_simp
    refine stepsL_cons (fun a u hc hd hk hdep => ?_) ?_
    ·
      have d4 : (a.tmps[4]?).getD undef = (.pointer (some ⟨w.heap.size + 1, 0, none⟩)) := hk 4 (by kernel_rfl)
      refine step_val (.agg #[.int .i64 (k1), .int .u64 ((b1 : Nat) : Int)]) u ((wanted_guard (j := 13) (b := false) (c := false) rfl (hdep ⟨13, .guard⟩ (by simp) rfl)).trans rfl) ?_ rfl (Below.refl _ _)
      obtain ⟨s0, s1, s2, s3, s4, s5, s6⟩ := hc
      go_simp
    refine stepsL_cons (fun a u hc hd hk hdep => ?_) ?_
    ·
      have d21 : (a.tmps[21]?).getD undef = (.agg #[.int .i64 (k0), .int .u64 ((b0 : Nat) : Int)]) := hdep ⟨14, .data⟩ (by simp) rfl
      have d22 : (a.tmps[22]?).getD undef = (.agg #[.int .i64 (k1), .int .u64 ((b1 : Nat) : Int)]) := hdep ⟨15, .data⟩ (by simp) rfl
      refine step_val (.slice (some ⟨u.heap.size, 0, none⟩) 2 2) (u.alloc (.cells #[.int .i64 (k0), .int .u64 ((b0 : Nat) : Int), .int .i64 (k1), .int .u64 ((b1 : Nat) : Int)] 29)) ((wanted_guard (j := 13) (b := false) (c := false) rfl (hdep ⟨13, .guard⟩ (by simp) rfl)).trans rfl) ?_ ⟨_, 2, rfl, row_two (by first | assumption | exact tvB_lt _) (by first | assumption | exact tvB_lt _) (by simp) (by simp) (by simp) (by simp)⟩ (below1 _ _)
      go_simp
    refine stepsL_cons (fun a u hc hd hk hdep => ?_) ?_
    ·
      obtain ⟨A23, c23, d23, r23⟩ : rowW [(k0, b0), (k1, b1)] ((a.tmps[23]?).getD undef) u := hdep ⟨16, .data⟩ (by simp) rfl
      refine step_call 17 #[.int .i64 14, .slice A23 2 c23] ((wanted_guard (j := 13) (b := false) (c := false) rfl (hdep ⟨13, .chain⟩ (by simp) rfl)).trans rfl) (by go_simp) ?_
      exact (do_or' _ _ _ _ _ _ _ _ _ u (ta) (tb) rfl r23).mono (by rintro e w' ⟨rfl, hb⟩; exact ⟨_, rfl, rfl, hb⟩)
    refine stepsL_cons (fun a u hc hd hk hdep => ?_) ?_
    ·
      have d4 : (a.tmps[4]?).getD undef = (.pointer (some ⟨w.heap.size + 1, 0, none⟩)) := hk 4 (by kernel_rfl)
      refine step_val (.agg #[.int .i64 (k1), .int .u64 ((b1 : Nat) : Int)]) u ((wanted_guard (j := 13) (b := false) (c := false) rfl (hdep ⟨13, .guard⟩ (by simp) rfl)).trans rfl) ?_ rfl (Below.refl _ _)
      obtain ⟨s0, s1, s2, s3, s4, s5, s6⟩ := hc
      go_simp
    refine stepsL_cons (fun a u hc hd hk hdep => ?_) ?_
    ·
      have d3 : (a.tmps[3]?).getD undef = (.pointer (some ⟨w.heap.size, 0, none⟩)) := hk 3 (by kernel_rfl)
      refine step_val (.agg #[.int .i64 (k0), .int .u64 ((b0 : Nat) : Int)]) u ((wanted_guard (j := 13) (b := false) (c := false) rfl (hdep ⟨13, .guard⟩ (by simp) rfl)).trans rfl) ?_ rfl (Below.refl _ _)
      obtain ⟨s0, s1, s2, s3, s4, s5, s6⟩ := hc
      go_simp
    refine stepsL_cons (fun a u hc hd hk hdep => ?_) ?_
    ·
      have d25 : (a.tmps[25]?).getD undef = (.agg #[.int .i64 (k1), .int .u64 ((b1 : Nat) : Int)]) := hdep ⟨18, .data⟩ (by simp) rfl
      have d26 : (a.tmps[26]?).getD undef = (.agg #[.int .i64 (k0), .int .u64 ((b0 : Nat) : Int)]) := hdep ⟨19, .data⟩ (by simp) rfl
      refine step_val (.slice (some ⟨u.heap.size, 0, none⟩) 2 2) (u.alloc (.cells #[.int .i64 (k1), .int .u64 ((b1 : Nat) : Int), .int .i64 (k0), .int .u64 ((b0 : Nat) : Int)] 29)) ((wanted_guard (j := 13) (b := false) (c := false) rfl (hdep ⟨13, .guard⟩ (by simp) rfl)).trans rfl) ?_ ⟨_, 2, rfl, row_two (by first | assumption | exact tvB_lt _) (by first | assumption | exact tvB_lt _) (by simp) (by simp) (by simp) (by simp)⟩ (below1 _ _)
      go_simp
    refine stepsL_cons (fun a u hc hd hk hdep => ?_) ?_
    ·
      obtain ⟨A27, c27, d27, r27⟩ : rowW [(k1, b1), (k0, b0)] ((a.tmps[27]?).getD undef) u := hdep ⟨20, .data⟩ (by simp) rfl
      refine step_call 17 #[.int .i64 14, .slice A27 2 c27] ((wanted_guard (j := 13) (b := false) (c := false) rfl (hdep ⟨13, .guard⟩ (by simp) rfl)).trans rfl) (by go_simp) ?_
      exact (do_or' _ _ _ _ _ _ _ _ _ u (tb) (ta) q3 r27).mono (by rintro e w' ⟨rfl, hb⟩; exact ⟨_, rfl, rfl, hb⟩)
    refine stepsL_cons (fun a u hc hd hk hdep => ?_) ?_
    ·
      have d24 : (a.tmps[24]?).getD undef = (.agg #[.int .i64 (tvK (bt 1 (xa) (xb))), .int .u64 ((tvB (bt 1 (xa) (xb)) : Nat) : Int)]) := hdep ⟨17, .data⟩ (by simp) rfl
      have d28 : (a.tmps[28]?).getD undef = (.agg #[.int .i64 (tvK (bt 1 (xa) (xb))), .int .u64 ((tvB (bt 1 (xa) (xb)) : Nat) : Int)]) := hdep ⟨21, .data⟩ (by simp) rfl
      refine step_val (.bool false) u ((wanted_guard (j := 13) (b := false) (c := false) rfl (hdep ⟨13, .guard⟩ (by simp) rfl)).trans rfl) ?_ rfl (Below.refl _ _)
      go_simp
    refine stepsL_cons (fun a u hc hd hk hdep => ?_) ?_
    ·
      have d20 : (a.tmps[20]?).getD undef = (.bool false) := hdep ⟨13, .data⟩ (by simp) rfl
      have d29 : (a.tmps[29]?).getD undef = (.bool false) := hdep ⟨22, .data⟩ (by simp) rfl
      refine step_val (.bool false) u (wanted_plain rfl) ?_ rfl (Below.refl _ _)
      first | (go_simp; done) | rfl
    exact stepsL_nil
  intro vs wN0 hN hh
  obtain ⟨e0, e1, e2, e3, e4, e5, e6, e7, e8, e9, e10, e11, e12, e13, e14, e15, e16, e17, e18, e19, e20, e21, e22, e23, -⟩ := hh
  have eL : vs 23 = (.bool false) := e23
  clear e0 e1 e2 e3 e4 e5 e6 e7 e8 e9 e10 e11 e12 e13 e14 e15 e16 e17 e18 e19 e20 e21 e22 e23
  simp only [putAll, Act.put, List.setIfInBounds_toArray, List.set_cons_zero, List.set_cons_succ, eL]
  have hC1 := hN
  obtain ⟨s0, s1, s2, s3, s4, s5, hB1⟩ := hN
  go_wp2_with fail
  refine region_words (fun w' => w'.cell? ⟨w.heap.size, 0, none⟩ = some (.int .i64 k0) ∧ w'.cell? ⟨w.heap.size, 1, none⟩ = some (.int .u64 (b0 : Int)) ∧ w'.cell? ⟨w.heap.size + 1, 0, none⟩ = some (.int .i64 k1) ∧ w'.cell? ⟨w.heap.size + 1, 1, none⟩ = some (.int .u64 (b1 : Int)) ∧ w'.cell? ⟨w.heap.size + 1 + 1, 0, none⟩ = some (.int .i64 k2) ∧ w'.cell? ⟨w.heap.size + 1 + 1, 1, none⟩ = some (.int .u64 (b2 : Int)) ∧ Below w.heap.size w w') [isW (.agg #[.int .i64 (k0), .int .u64 ((b0 : Nat) : Int)]), isW (.agg #[.int .i64 (k1), .int .u64 ((b1 : Nat) : Int)]), rowW [(k0, b0), (k1, b1)], isW (.agg #[.int .i64 (tvK (bt 0 (xa) (xb))), .int .u64 ((tvB (bt 0 (xa) (xb)) : Nat) : Int)]), isW (.agg #[.int .i64 (k2), .int .u64 ((b2 : Nat) : Int)]), rowW [(tvK (bt 0 (xa) (xb)), tvB (bt 0 (xa) (xb))), (k2, b2)], isW (.agg #[.int .i64 (tvK (bt 0 (bt 0 (xa) (xb)) (xc))), .int .u64 ((tvB (bt 0 (bt 0 (xa) (xb)) (xc)) : Nat) : Int)]), isW (.agg #[.int .i64 (k0), .int .u64 ((b0 : Nat) : Int)]), isW (.agg #[.int .i64 (k1), .int .u64 ((b1 : Nat) : Int)]), isW (.agg #[.int .i64 (k2), .int .u64 ((b2 : Nat) : Int)]), rowW [(k1, b1), (k2, b2)], isW (.agg #[.int .i64 (tvK (bt 0 (xb) (xc))), .int .u64 ((tvB (bt 0 (xb) (xc)) : Nat) : Int)]), rowW [(k0, b0), (tvK (bt 0 (xb) (xc)), tvB (bt 0 (xb) (xc)))], isW (.agg #[.int .i64 (tvK (bt 0 (bt 0 (xa) (xb)) (xc))), .int .u64 ((tvB (bt 0 (bt 0 (xa) (xb)) (xc)) : Nat) : Int)]), isW (.bool false), isW (.bool false), isW (.agg #[.int .i64 (k0), .int .u64 ((b0 : Nat) : Int)]), isW (.agg #[.int .i64 (k1), .int .u64 ((b1 : Nat) : Int)]), rowW [(k0, b0), (k1, b1)], isW (.agg #[.int .i64 (tvK (bt 1 (xa) (xb))), .int .u64 ((tvB (bt 1 (xa) (xb)) : Nat) : Int)]), isW (.agg #[.int .i64 (k2), .int .u64 ((b2 : Nat) : Int)]), rowW [(tvK (bt 1 (xa) (xb)), tvB (bt 1 (xa) (xb))), (k2, b2)], isW (.agg #[.int .i64 (tvK (bt 1 (bt 1 (xa) (xb)) (xc))), .int .u64 ((tvB (bt 1 (bt 1 (xa) (xb)) (xc)) : Nat) : Int)]), isW (.agg #[.int .i64 (k0), .int .u64 ((b0 : Nat) : Int)]), isW (.agg #[.int .i64 (k1), .int .u64 ((b1 : Nat) : Int)]), isW (.agg #[.int .i64 (k2), .int .u64 ((b2 : Nat) : Int)]), rowW [(k1, b1), (k2, b2)], isW (.agg #[.int .i64 (tvK (bt 1 (xb) (xc))), .int .u64 ((tvB (bt 1 (xb) (xc)) : Nat) : Int)]), rowW [(k0, b0), (tvK (bt 1 (xb) (xc)), tvB (bt 1 (xb) (xc)))], isW (.agg #[.int .i64 (tvK (bt 1 (bt 1 (xa) (xb)) (xc))), .int .u64 ((tvB (bt 1 (bt 1 (xa) (xb)) (xc)) : Nat) : Int)]), isW (.bool false), isW (.bool false)] (by kernel_rfl) (by repeat' (first | exact monoL_nil | exact is_mono _ | exact row_mono _ | exact any_mono | refine monoL_cons ?_ ?_)) (by kernel_rfl) (by kernel_rfl) (fun _ _ h hb => keepV7 hb h) (⟨s0, s1, s2, s3, s4, s5, hB1.drew⟩) ?_ ?_
  · refine stepsL_cons (fun a u hc hd hk hdep => ?_) ?_
    ·
      have d3 : (a.tmps[3]?).getD undef = (.pointer (some ⟨w.heap.size, 0, none⟩)) := hk 3 (by kernel_rfl)
      refine step_val (.agg #[.int .i64 (k0), .int .u64 ((b0 : Nat) : Int)]) u (wanted_plain rfl) ?_ rfl (Below.refl _ _)
      obtain ⟨s0, s1, s2, s3, s4, s5, s6⟩ := hc
      go_simp
    refine stepsL_cons (fun a u hc hd hk hdep => ?_) ?_
    ·
      have d4 : (a.tmps[4]?).getD undef = (.pointer (some ⟨w.heap.size + 1, 0, none⟩)) := hk 4 (by kernel_rfl)
      refine step_val (.agg #[.int .i64 (k1), .int .u64 ((b1 : Nat) : Int)]) u (wanted_plain rfl) ?_ rfl (Below.refl _ _)
      obtain ⟨s0, s1, s2, s3, s4, s5, s6⟩ := hc
      go_simp
    refine stepsL_cons (fun a u hc hd hk hdep => ?_) ?_
    ·
      have d31 : (a.tmps[31]?).getD undef = (.agg #[.int .i64 (k0), .int .u64 ((b0 : Nat) : Int)]) := hdep ⟨0, .data⟩ (by simp) rfl
      have d32 : (a.tmps[32]?).getD undef = (.agg #[.int .i64 (k1), .int .u64 ((b1 : Nat) : Int)]) := hdep ⟨1, .data⟩ (by simp) rfl
      refine step_val (.slice (some ⟨u.heap.size, 0, none⟩) 2 2) (u.alloc (.cells #[.int .i64 (k0), .int .u64 ((b0 : Nat) : Int), .int .i64 (k1), .int .u64 ((b1 : Nat) : Int)] 29)) (wanted_plain rfl) ?_ ⟨_, 2, rfl, row_two (by first | assumption | exact tvB_lt _) (by first | assumption | exact tvB_lt _) (by simp) (by simp) (by simp) (by simp)⟩ (below1 _ _)
      go_simp
    refine stepsL_cons (fun a u hc hd hk hdep => ?_) ?_
    ·
      obtain ⟨A33, c33, d33, r33⟩ : rowW [(k0, b0), (k1, b1)] ((a.tmps[33]?).getD undef) u := hdep ⟨2, .data⟩ (by simp) rfl
      refine step_call 17 #[.int .i64 13, .slice A33 2 c33] (wanted_plain rfl) (by go_simp) ?_
      exact (do_and' _ _ _ _ _ _ _ _ _ u (ta) (tb) rfl r33).mono (by rintro e w' ⟨rfl, hb⟩; exact ⟨_, rfl, rfl, hb⟩)
    refine stepsL_cons (fun a u hc hd hk hdep => ?_) ?_
    ·
      have d5 : (a.tmps[5]?).getD undef = (.pointer (some ⟨w.heap.size + 1 + 1, 0, none⟩)) := hk 5 (by kernel_rfl)
      refine step_val (.agg #[.int .i64 (k2), .int .u64 ((b2 : Nat) : Int)]) u (wanted_plain rfl) ?_ rfl (Below.refl _ _)
      obtain ⟨s0, s1, s2, s3, s4, s5, s6⟩ := hc
      go_simp
    refine stepsL_cons (fun a u hc hd hk hdep => ?_) ?_
    ·
      have d34 : (a.tmps[34]?).getD undef = (.agg #[.int .i64 (tvK (bt 0 (xa) (xb))), .int .u64 ((tvB (bt 0 (xa) (xb)) : Nat) : Int)]) := hdep ⟨3, .data⟩ (by simp) rfl
      have d35 : (a.tmps[35]?).getD undef = (.agg #[.int .i64 (k2), .int .u64 ((b2 : Nat) : Int)]) := hdep ⟨4, .data⟩ (by simp) rfl
      refine step_val (.slice (some ⟨u.heap.size, 0, none⟩) 2 2) (u.alloc (.cells #[.int .i64 (tvK (bt 0 (xa) (xb))), .int .u64 ((tvB (bt 0 (xa) (xb)) : Nat) : Int), .int .i64 (k2), .int .u64 ((b2 : Nat) : Int)] 29)) (wanted_plain rfl) ?_ ⟨_, 2, rfl, row_two (by first | assumption | exact tvB_lt _) (by first | assumption | exact tvB_lt _) (by simp) (by simp) (by simp) (by simp)⟩ (below1 _ _)
      go_simp
    refine stepsL_cons (fun a u hc hd hk hdep => ?_) ?_
    ·
      obtain ⟨A36, c36, d36, r36⟩ : rowW [(tvK (bt 0 (xa) (xb)), tvB (bt 0 (xa) (xb))), (k2, b2)] ((a.tmps[36]?).getD undef) u := hdep ⟨5, .data⟩ (by simp) rfl
      refine step_call 17 #[.int .i64 13, .slice A36 2 c36] (wanted_plain rfl) (by go_simp) ?_
      exact (do_and' _ _ _ _ _ _ _ _ _ u (tri_tv _ q0) (tc) rfl r36).mono (by rintro e w' ⟨rfl, hb⟩; exact ⟨_, rfl, rfl, hb⟩)
    refine stepsL_cons (fun a u hc hd hk hdep => ?_) ?_
    ·
      have d3 : (a.tmps[3]?).getD undef = (.pointer (some ⟨w.heap.size, 0, none⟩)) := hk 3 (by kernel_rfl)
      refine step_val (.agg #[.int .i64 (k0), .int .u64 ((b0 : Nat) : Int)]) u (wanted_plain rfl) ?_ rfl (Below.refl _ _)
      obtain ⟨s0, s1, s2, s3, s4, s5, s6⟩ := hc
      go_simp
    refine stepsL_cons (fun a u hc hd hk hdep => ?_) ?_
    ·
      have d4 : (a.tmps[4]?).getD undef = (.pointer (some ⟨w.heap.size + 1, 0, none⟩)) := hk 4 (by kernel_rfl)
      refine step_val (.agg #[.int .i64 (k1), .int .u64 ((b1 : Nat) : Int)]) u (wanted_plain rfl) ?_ rfl (Below.refl _ _)
      obtain ⟨s0, s1, s2, s3, s4, s5, s6⟩ := hc
      go_simp
    refine stepsL_cons (fun a u hc hd hk hdep => ?_) ?_
    ·
      have d5 : (a.tmps[5]?).getD undef = (.pointer (some ⟨w.heap.size + 1 + 1, 0, none⟩)) := hk 5 (by kernel_rfl)
      refine step_val (.agg #[.int .i64 (k2), .int .u64 ((b2 : Nat) : Int)]) u (wanted_plain rfl) ?_ rfl (Below.refl _ _)
      obtain ⟨s0, s1, s2, s3, s4, s5, s6⟩ := hc
      go_simp
    refine stepsL_cons (fun a u hc hd hk hdep => ?_) ?_
    ·
      have d39 : (a.tmps[39]?).getD undef = (.agg #[.int .i64 (k1), .int .u64 ((b1 : Nat) : Int)]) := hdep ⟨8, .data⟩ (by simp) rfl
      have d40 : (a.tmps[40]?).getD undef = (.agg #[.int .i64 (k2), .int .u64 ((b2 : Nat) : Int)]) := hdep ⟨9, .data⟩ (by simp) rfl
      refine step_val (.slice (some ⟨u.heap.size, 0, none⟩) 2 2) (u.alloc (.cells #[.int .i64 (k1), .int .u64 ((b1 : Nat) : Int), .int .i64 (k2), .int .u64 ((b2 : Nat) : Int)] 29)) (wanted_plain rfl) ?_ ⟨_, 2, rfl, row_two (by first | assumption | exact tvB_lt _) (by first | assumption | exact tvB_lt _) (by simp) (by simp) (by simp) (by simp)⟩ (below1 _ _)
      go_simp
    refine stepsL_cons (fun a u hc hd hk hdep => ?_) ?_
    ·
      obtain ⟨A41, c41, d41, r41⟩ : rowW [(k1, b1), (k2, b2)] ((a.tmps[41]?).getD undef) u := hdep ⟨10, .data⟩ (by simp) rfl
      refine step_call 17 #[.int .i64 13, .slice A41 2 c41] (wanted_plain rfl) (by go_simp) ?_
      exact (do_and' _ _ _ _ _ _ _ _ _ u (tb) (tc) rfl r41).mono (by rintro e w' ⟨rfl, hb⟩; exact ⟨_, rfl, rfl, hb⟩)
    refine stepsL_cons (fun a u hc hd hk hdep => ?_) ?_
    ·
      have d38 : (a.tmps[38]?).getD undef = (.agg #[.int .i64 (k0), .int .u64 ((b0 : Nat) : Int)]) := hdep ⟨7, .data⟩ (by simp) rfl
      have d42 : (a.tmps[42]?).getD undef = (.agg #[.int .i64 (tvK (bt 0 (xb) (xc))), .int .u64 ((tvB (bt 0 (xb) (xc)) : Nat) : Int)]) := hdep ⟨11, .data⟩ (by simp) rfl
      refine step_val (.slice (some ⟨u.heap.size, 0, none⟩) 2 2) (u.alloc (.cells #[.int .i64 (k0), .int .u64 ((b0 : Nat) : Int), .int .i64 (tvK (bt 0 (xb) (xc))), .int .u64 ((tvB (bt 0 (xb) (xc)) : Nat) : Int)] 29)) (wanted_plain rfl) ?_ ⟨_, 2, rfl, row_two (by first | assumption | exact tvB_lt _) (by first | assumption | exact tvB_lt _) (by simp) (by simp) (by simp) (by simp)⟩ (below1 _ _)
      go_simp
    refine stepsL_cons (fun a u hc hd hk hdep => ?_) ?_
    ·
      obtain ⟨A43, c43, d43, r43⟩ : rowW [(k0, b0), (tvK (bt 0 (xb) (xc)), tvB (bt 0 (xb) (xc)))] ((a.tmps[43]?).getD undef) u := hdep ⟨12, .data⟩ (by simp) rfl
      refine step_call 17 #[.int .i64 13, .slice A43 2 c43] (wanted_plain rfl) (by go_simp) ?_
      exact (do_and' _ _ _ _ _ _ _ _ _ u (ta) (tri_tv _ q5) q6 r43).mono (by rintro e w' ⟨rfl, hb⟩; exact ⟨_, rfl, rfl, hb⟩)
    refine stepsL_cons (fun a u hc hd hk hdep => ?_) ?_
    ·
      have d37 : (a.tmps[37]?).getD undef = (.agg #[.int .i64 (tvK (bt 0 (bt 0 (xa) (xb)) (xc))), .int .u64 ((tvB (bt 0 (bt 0 (xa) (xb)) (xc)) : Nat) : Int)]) := hdep ⟨6, .data⟩ (by simp) rfl
      have d44 : (a.tmps[44]?).getD undef = (.agg #[.int .i64 (tvK (bt 0 (bt 0 (xa) (xb)) (xc))), .int .u64 ((tvB (bt 0 (bt 0 (xa) (xb)) (xc)) : Nat) : Int)]) := hdep ⟨13, .data⟩ (by simp) rfl
      refine step_val (.bool false) u (wanted_plain rfl) ?_ rfl (Below.refl _ _)
      go_simp
    refine stepsL_cons (fun a u hc hd hk hdep => ?_) ?_
    ·
      have d45 : (a.tmps[45]?).getD undef = (.bool false) := hdep ⟨14, .data⟩ (by simp) rfl
      refine step_val (.bool false) u (wanted_plain rfl) ?_ rfl (Below.refl _ _)
      first | (go_simp; done) | rfl
    refine stepsL_cons (fun a u hc hd hk hdep => ?_) ?_
    ·
      have d3 : (a.tmps[3]?).getD undef = (.pointer (some ⟨w.heap.size, 0, none⟩)) := hk 3 (by kernel_rfl)
      refine step_val (.agg #[.int .i64 (k0), .int .u64 ((b0 : Nat) : Int)]) u ((wanted_guard (j := 15) (b := false) (c := false) rfl (hdep ⟨15, .guard⟩ (by simp) rfl)).trans rfl) ?_ rfl (Below.refl _ _)
      obtain ⟨s0, s1, s2, s3, s4, s5, s6⟩ := hc
      go_simp
    refine stepsL_cons (fun a u hc hd hk hdep => ?_) ?_
    ·
      have d4 : (a.tmps[4]?).getD undef = (.pointer (some ⟨w.heap.size + 1, 0, none⟩)) := hk 4 (by kernel_rfl)
      refine step_val (.agg #[.int .i64 (k1), .int .u64 ((b1 : Nat) : Int)]) u ((wanted_guard (j := 15) (b := false) (c := false) rfl (hdep ⟨15, .guard⟩ (by simp) rfl)).trans rfl) ?_ rfl (Below.refl _ _)
      obtain ⟨s0, s1, s2, s3, s4, s5, s6⟩ := hc
      go_simp
    refine stepsL_cons (fun a u hc hd hk hdep => ?_) ?_
    ·
      have d47 : (a.tmps[47]?).getD undef = (.agg #[.int .i64 (k0), .int .u64 ((b0 : Nat) : Int)]) := hdep ⟨16, .data⟩ (by simp) rfl
      have d48 : (a.tmps[48]?).getD undef = (.agg #[.int .i64 (k1), .int .u64 ((b1 : Nat) : Int)]) := hdep ⟨17, .data⟩ (by simp) rfl
      refine step_val (.slice (some ⟨u.heap.size, 0, none⟩) 2 2) (u.alloc (.cells #[.int .i64 (k0), .int .u64 ((b0 : Nat) : Int), .int .i64 (k1), .int .u64 ((b1 : Nat) : Int)] 29)) ((wanted_guard (j := 15) (b := false) (c := false) rfl (hdep ⟨15, .guard⟩ (by simp) rfl)).trans rfl) ?_ ⟨_, 2, rfl, row_two (by first | assumption | exact tvB_lt _) (by first | assumption | exact tvB_lt _) (by simp) (by simp) (by simp) (by simp)⟩ (below1 _ _)
      go_simp
    refine stepsL_cons (fun a u hc hd hk hdep => ?_) ?_
    ·
      obtain ⟨A49, c49, d49, r49⟩ : rowW [(k0, b0), (k1, b1)] ((a.tmps[49]?).getD undef) u := hdep ⟨18, .data⟩ (by simp) rfl
      refine step_call 17 #[.int .i64 14, .slice A49 2 c49] ((wanted_guard (j := 15) (b := false) (c := false) rfl (hdep ⟨15, .chain⟩ (by simp) rfl)).trans rfl) (by go_simp) ?_
      exact (do_or' _ _ _ _ _ _ _ _ _ u (ta) (tb) rfl r49).mono (by rintro e w' ⟨rfl, hb⟩; exact ⟨_, rfl, rfl, hb⟩)
    refine stepsL_cons (fun a u hc hd hk hdep => ?_) ?_
    ·
      have d5 : (a.tmps[5]?).getD undef = (.pointer (some ⟨w.heap.size + 1 + 1, 0, none⟩)) := hk 5 (by kernel_rfl)
      refine step_val (.agg #[.int .i64 (k2), .int .u64 ((b2 : Nat) : Int)]) u ((wanted_guard (j := 15) (b := false) (c := false) rfl (hdep ⟨15, .guard⟩ (by simp) rfl)).trans rfl) ?_ rfl (Below.refl _ _)
      obtain ⟨s0, s1, s2, s3, s4, s5, s6⟩ := hc
      go_simp
    refine stepsL_cons (fun a u hc hd hk hdep => ?_) ?_
    ·
      have d50 : (a.tmps[50]?).getD undef = (.agg #[.int .i64 (tvK (bt 1 (xa) (xb))), .int .u64 ((tvB (bt 1 (xa) (xb)) : Nat) : Int)]) := hdep ⟨19, .data⟩ (by simp) rfl
      have d51 : (a.tmps[51]?).getD undef = (.agg #[.int .i64 (k2), .int .u64 ((b2 : Nat) : Int)]) := hdep ⟨20, .data⟩ (by simp) rfl
      refine step_val (.slice (some ⟨u.heap.size, 0, none⟩) 2 2) (u.alloc (.cells #[.int .i64 (tvK (bt 1 (xa) (xb))), .int .u64 ((tvB (bt 1 (xa) (xb)) : Nat) : Int), .int .i64 (k2), .int .u64 ((b2 : Nat) : Int)] 29)) ((wanted_guard (j := 15) (b := false) (c := false) rfl (hdep ⟨15, .guard⟩ (by simp) rfl)).trans rfl) ?_ ⟨_, 2, rfl, row_two (by first | assumption | exact tvB_lt _) (by first | assumption | exact tvB_lt _) (by simp) (by simp) (by simp) (by simp)⟩ (below1 _ _)
      go_simp
    refine stepsL_cons (fun a u hc hd hk hdep => ?_) ?_
    ·
      obtain ⟨A52, c52, d52, r52⟩ : rowW [(tvK (bt 1 (xa) (xb)), tvB (bt 1 (xa) (xb))), (k2, b2)] ((a.tmps[52]?).getD undef) u := hdep ⟨21, .data⟩ (by simp) rfl
      refine step_call 17 #[.int .i64 14, .slice A52 2 c52] ((wanted_guard (j := 15) (b := false) (c := false) rfl (hdep ⟨15, .guard⟩ (by simp) rfl)).trans rfl) (by go_simp) ?_
      exact (do_or' _ _ _ _ _ _ _ _ _ u (tri_tv _ q2) (tc) rfl r52).mono (by rintro e w' ⟨rfl, hb⟩; exact ⟨_, rfl, rfl, hb⟩)
    refine stepsL_cons (fun a u hc hd hk hdep => ?_) ?_
    ·
      have d3 : (a.tmps[3]?).getD undef = (.pointer (some ⟨w.heap.size, 0, none⟩)) := hk 3 (by kernel_rfl)
      refine step_val (.agg #[.int .i64 (k0), .int .u64 ((b0 : Nat) : Int)]) u ((wanted_guard (j := 15) (b := false) (c := false) rfl (hdep ⟨15, .guard⟩ (by simp) rfl)).trans rfl) ?_ rfl (Below.refl _ _)
      obtain ⟨s0, s1, s2, s3, s4, s5, s6⟩ := hc
      go_simp
    refine stepsL_cons (fun a u hc hd hk hdep => ?_) ?_
    ·
      have d4 : (a.tmps[4]?).getD undef = (.pointer (some ⟨w.heap.size + 1, 0, none⟩)) := hk 4 (by kernel_rfl)
      refine step_val (.agg #[.int .i64 (k1), .int .u64 ((b1 : Nat) : Int)]) u ((wanted_guard (j := 15) (b := false) (c := false) rfl (hdep ⟨15, .guard⟩ (by simp) rfl)).trans rfl) ?_ rfl (Below.refl _ _)
      obtain ⟨s0, s1, s2, s3, s4, s5, s6⟩ := hc
      go_simp
    refine stepsL_cons (fun a u hc hd hk hdep => ?_) ?_
    ·
      have d5 : (a.tmps[5]?).getD undef = (.pointer (some ⟨w.heap.size + 1 + 1, 0, none⟩)) := hk 5 (by kernel_rfl)
      refine step_val (.agg #[.int .i64 (k2), .int .u64 ((b2 : Nat) : Int)]) u ((wanted_guard (j := 15) (b := false) (c := false) rfl (hdep ⟨15, .guard⟩ (by simp) rfl)).trans rfl) ?_ rfl (Below.refl _ _)
      obtain ⟨s0, s1, s2, s3, s4, s5, s6⟩ := hc
      go_simp
    refine stepsL_cons (fun a u hc hd hk hdep => ?_) ?_
    ·
      have d55 : (a.tmps[55]?).getD undef = (.agg #[.int .i64 (k1), .int .u64 ((b1 : Nat) : Int)]) := hdep ⟨24, .data⟩ (by simp) rfl
      have d56 : (a.tmps[56]?).getD undef = (.agg #[.int .i64 (k2), .int .u64 ((b2 : Nat) : Int)]) := hdep ⟨25, .data⟩ (by simp) rfl
      refine step_val (.slice (some ⟨u.heap.size, 0, none⟩) 2 2) (u.alloc (.cells #[.int .i64 (k1), .int .u64 ((b1 : Nat) : Int), .int .i64 (k2), .int .u64 ((b2 : Nat) : Int)] 29)) ((wanted_guard (j := 15) (b := false) (c := false) rfl (hdep ⟨15, .guard⟩ (by simp) rfl)).trans rfl) ?_ ⟨_, 2, rfl, row_two (by first | assumption | exact tvB_lt _) (by first | assumption | exact tvB_lt _) (by simp) (by simp) (by simp) (by simp)⟩ (below1 _ _)
      go_simp
    refine stepsL_cons (fun a u hc hd hk hdep => ?_) ?_
    ·
      obtain ⟨A57, c57, d57, r57⟩ : rowW [(k1, b1), (k2, b2)] ((a.tmps[57]?).getD undef) u := hdep ⟨26, .data⟩ (by simp) rfl
      refine step_call 17 #[.int .i64 14, .slice A57 2 c57] ((wanted_guard (j := 15) (b := false) (c := false) rfl (hdep ⟨15, .guard⟩ (by simp) rfl)).trans rfl) (by go_simp) ?_
      exact (do_or' _ _ _ _ _ _ _ _ _ u (tb) (tc) rfl r57).mono (by rintro e w' ⟨rfl, hb⟩; exact ⟨_, rfl, rfl, hb⟩)
    refine stepsL_cons (fun a u hc hd hk hdep => ?_) ?_
    ·
      have d54 : (a.tmps[54]?).getD undef = (.agg #[.int .i64 (k0), .int .u64 ((b0 : Nat) : Int)]) := hdep ⟨23, .data⟩ (by simp) rfl
      have d58 : (a.tmps[58]?).getD undef = (.agg #[.int .i64 (tvK (bt 1 (xb) (xc))), .int .u64 ((tvB (bt 1 (xb) (xc)) : Nat) : Int)]) := hdep ⟨27, .data⟩ (by simp) rfl
      refine step_val (.slice (some ⟨u.heap.size, 0, none⟩) 2 2) (u.alloc (.cells #[.int .i64 (k0), .int .u64 ((b0 : Nat) : Int), .int .i64 (tvK (bt 1 (xb) (xc))), .int .u64 ((tvB (bt 1 (xb) (xc)) : Nat) : Int)] 29)) ((wanted_guard (j := 15) (b := false) (c := false) rfl (hdep ⟨15, .guard⟩ (by simp) rfl)).trans rfl) ?_ ⟨_, 2, rfl, row_two (by first | assumption | exact tvB_lt _) (by first | assumption | exact tvB_lt _) (by simp) (by simp) (by simp) (by simp)⟩ (below1 _ _)
      go_simp
    refine stepsL_cons (fun a u hc hd hk hdep => ?_) ?_
    ·
      obtain ⟨A59, c59, d59, r59⟩ : rowW [(k0, b0), (tvK (bt 1 (xb) (xc)), tvB (bt 1 (xb) (xc)))] ((a.tmps[59]?).getD undef) u := hdep ⟨28, .data⟩ (by simp) rfl
      refine step_call 17 #[.int .i64 14, .slice A59 2 c59] ((wanted_guard (j := 15) (b := false) (c := false) rfl (hdep ⟨15, .guard⟩ (by simp) rfl)).trans rfl) (by go_simp) ?_
      exact (do_or' _ _ _ _ _ _ _ _ _ u (ta) (tri_tv _ q8) q9 r59).mono (by rintro e w' ⟨rfl, hb⟩; exact ⟨_, rfl, rfl, hb⟩)
    refine stepsL_cons (fun a u hc hd hk hdep => ?_) ?_
    ·
      have d53 : (a.tmps[53]?).getD undef = (.agg #[.int .i64 (tvK (bt 1 (bt 1 (xa) (xb)) (xc))), .int .u64 ((tvB (bt 1 (bt 1 (xa) (xb)) (xc)) : Nat) : Int)]) := hdep ⟨22, .data⟩ (by simp) rfl
      have d60 : (a.tmps[60]?).getD undef = (.agg #[.int .i64 (tvK (bt 1 (bt 1 (xa) (xb)) (xc))), .int .u64 ((tvB (bt 1 (bt 1 (xa) (xb)) (xc)) : Nat) : Int)]) := hdep ⟨29, .data⟩ (by simp) rfl
      refine step_val (.bool false) u ((wanted_guard (j := 15) (b := false) (c := false) rfl (hdep ⟨15, .guard⟩ (by simp) rfl)).trans rfl) ?_ rfl (Below.refl _ _)
      go_simp
    refine stepsL_cons (fun a u hc hd hk hdep => ?_) ?_
    ·
      have d46 : (a.tmps[46]?).getD undef = (.bool false) := hdep ⟨15, .data⟩ (by simp) rfl
      have d61 : (a.tmps[61]?).getD undef = (.bool false) := hdep ⟨30, .data⟩ (by simp) rfl
      refine step_val (.bool false) u (wanted_plain rfl) ?_ rfl (Below.refl _ _)
      first | (go_simp; done) | rfl
    exact stepsL_nil
  intro vs wN1 hN hh
  obtain ⟨e0, e1, e2, e3, e4, e5, e6, e7, e8, e9, e10, e11, e12, e13, e14, e15, e16, e17, e18, e19, e20, e21, e22, e23, e24, e25, e26, e27, e28, e29, e30, e31, -⟩ := hh
  have eL : vs 31 = (.bool false) := e31
  clear e0 e1 e2 e3 e4 e5 e6 e7 e8 e9 e10 e11 e12 e13 e14 e15 e16 e17 e18 e19 e20 e21 e22 e23 e24 e25 e26 e27 e28 e29 e30 e31
  simp only [putAll, Act.put, List.setIfInBounds_toArray, List.set_cons_zero, List.set_cons_succ, eL]
  have hC2 := hN
  obtain ⟨s0, s1, s2, s3, s4, s5, hB2⟩ := hN
  go_wp2_with fail
  refine region_words (fun w' => w'.cell? ⟨w.heap.size, 0, none⟩ = some (.int .i64 k0) ∧ w'.cell? ⟨w.heap.size, 1, none⟩ = some (.int .u64 (b0 : Int)) ∧ w'.cell? ⟨w.heap.size + 1, 0, none⟩ = some (.int .i64 k1) ∧ w'.cell? ⟨w.heap.size + 1, 1, none⟩ = some (.int .u64 (b1 : Int)) ∧ w'.cell? ⟨w.heap.size + 1 + 1, 0, none⟩ = some (.int .i64 k2) ∧ w'.cell? ⟨w.heap.size + 1 + 1, 1, none⟩ = some (.int .u64 (b2 : Int)) ∧ Below w.heap.size w w') [isW (.agg #[.int .i64 (k0), .int .u64 ((b0 : Nat) : Int)]), isW (.agg #[.int .i64 (k1), .int .u64 ((b1 : Nat) : Int)]), rowW [(k0, b0), (k1, b1)], isW (.agg #[.int .i64 (tvK (bt 0 (xa) (xb))), .int .u64 ((tvB (bt 0 (xa) (xb)) : Nat) : Int)]), rowW [(tvK (bt 0 (xa) (xb)), tvB (bt 0 (xa) (xb)))], isW (.agg #[.int .i64 (tvK (nt (bt 0 (xa) (xb)))), .int .u64 ((tvB (nt (bt 0 (xa) (xb))) : Nat) : Int)]), isW (.agg #[.int .i64 (k0), .int .u64 ((b0 : Nat) : Int)]), rowW [(k0, b0)], isW (.agg #[.int .i64 (tvK (nt (xa))), .int .u64 ((tvB (nt (xa)) : Nat) : Int)]), isW (.agg #[.int .i64 (k1), .int .u64 ((b1 : Nat) : Int)]), rowW [(k1, b1)], isW (.agg #[.int .i64 (tvK (nt (xb))), .int .u64 ((tvB (nt (xb)) : Nat) : Int)]), rowW [(tvK (nt (xa)), tvB (nt (xa))), (tvK (nt (xb)), tvB (nt (xb)))], isW (.agg #[.int .i64 (tvK (nt (bt 0 (xa) (xb)))), .int .u64 ((tvB (nt (bt 0 (xa) (xb))) : Nat) : Int)]), isW (.bool true), isW (.bool true)] (by kernel_rfl) (by repeat' (first | exact monoL_nil | exact is_mono _ | exact row_mono _ | exact any_mono | refine monoL_cons ?_ ?_)) (by kernel_rfl) (by kernel_rfl) (fun _ _ h hb => keepV7 hb h) (⟨s0, s1, s2, s3, s4, s5, hB2.drew⟩) ?_ ?_
  · refine stepsL_cons (fun a u hc hd hk hdep => ?_) ?_
    ·
      have d3 : (a.tmps[3]?).getD undef = (.pointer (some ⟨w.heap.size, 0, none⟩)) := hk 3 (by kernel_rfl)
      refine step_val (.agg #[.int .i64 (k0), .int .u64 ((b0 : Nat) : Int)]) u (wanted_plain rfl) ?_ rfl (Below.refl _ _)
      obtain ⟨s0, s1, s2, s3, s4, s5, s6⟩ := hc
      go_simp
    refine stepsL_cons (fun a u hc hd hk hdep => ?_) ?_
    ·
      have d4 : (a.tmps[4]?).getD undef = (.pointer (some ⟨w.heap.size + 1, 0, none⟩)) := hk 4 (by kernel_rfl)
      refine step_val (.agg #[.int .i64 (k1), .int .u64 ((b1 : Nat) : Int)]) u (wanted_plain rfl) ?_ rfl (Below.refl _ _)
      obtain ⟨s0, s1, s2, s3, s4, s5, s6⟩ := hc
      go_simp
    refine stepsL_cons (fun a u hc hd hk hdep => ?_) ?_
    ·
      have d63 : (a.tmps[63]?).getD undef = (.agg #[.int .i64 (k0), .int .u64 ((b0 : Nat) : Int)]) := hdep ⟨0, .data⟩ (by simp) rfl
      have d64 : (a.tmps[64]?).getD undef = (.agg #[.int .i64 (k1), .int .u64 ((b1 : Nat) : Int)]) := hdep ⟨1, .data⟩ (by simp) rfl
      refine step_val (.slice (some ⟨u.heap.size, 0, none⟩) 2 2) (u.alloc (.cells #[.int .i64 (k0), .int .u64 ((b0 : Nat) : Int), .int .i64 (k1), .int .u64 ((b1 : Nat) : Int)] 29)) (wanted_plain rfl) ?_ ⟨_, 2, rfl, row_two (by first | assumption | exact tvB_lt _) (by first | assumption | exact tvB_lt _) (by simp) (by simp) (by simp) (by simp)⟩ (below1 _ _)
      go_simp
    refine stepsL_cons (fun a u hc hd hk hdep => ?_) ?_
    ·
      obtain ⟨A65, c65, d65, r65⟩ : rowW [(k0, b0), (k1, b1)] ((a.tmps[65]?).getD undef) u := hdep ⟨2, .data⟩ (by simp) rfl
      refine step_call 17 #[.int .i64 13, .slice A65 2 c65] (wanted_plain rfl) (by go_simp) ?_
      exact (do_and' _ _ _ _ _ _ _ _ _ u (ta) (tb) rfl r65).mono (by rintro e w' ⟨rfl, hb⟩; exact ⟨_, rfl, rfl, hb⟩)
    refine stepsL_cons (fun a u hc hd hk hdep => ?_) ?_
    ·
      have d66 : (a.tmps[66]?).getD undef = (.agg #[.int .i64 (tvK (bt 0 (xa) (xb))), .int .u64 ((tvB (bt 0 (xa) (xb)) : Nat) : Int)]) := hdep ⟨3, .data⟩ (by simp) rfl
      refine step_val (.slice (some ⟨u.heap.size, 0, none⟩) 1 1) (u.alloc (.cells #[.int .i64 (tvK (bt 0 (xa) (xb))), .int .u64 ((tvB (bt 0 (xa) (xb)) : Nat) : Int)] 29)) (wanted_plain rfl) ?_ ⟨_, 1, rfl, row_one (by first | assumption | exact tvB_lt _) (by simp) (by simp)⟩ (below1 _ _)
      go_simp
    refine stepsL_cons (fun a u hc hd hk hdep => ?_) ?_
    ·
      obtain ⟨A67, c67, d67, r67⟩ : rowW [(tvK (bt 0 (xa) (xb)), tvB (bt 0 (xa) (xb)))] ((a.tmps[67]?).getD undef) u := hdep ⟨4, .data⟩ (by simp) rfl
      refine step_call 17 #[.int .i64 15, .slice A67 1 c67] (wanted_plain rfl) (by go_simp) ?_
      exact (do_not' _ _ _ _ _ _ u (tri_tv _ q0) rfl r67).mono (by rintro e w' ⟨rfl, hb⟩; exact ⟨_, rfl, rfl, hb⟩)
    refine stepsL_cons (fun a u hc hd hk hdep => ?_) ?_
    ·
      have d3 : (a.tmps[3]?).getD undef = (.pointer (some ⟨w.heap.size, 0, none⟩)) := hk 3 (by kernel_rfl)
      refine step_val (.agg #[.int .i64 (k0), .int .u64 ((b0 : Nat) : Int)]) u (wanted_plain rfl) ?_ rfl (Below.refl _ _)
      obtain ⟨s0, s1, s2, s3, s4, s5, s6⟩ := hc
      go_simp
    refine stepsL_cons (fun a u hc hd hk hdep => ?_) ?_
    ·
      have d69 : (a.tmps[69]?).getD undef = (.agg #[.int .i64 (k0), .int .u64 ((b0 : Nat) : Int)]) := hdep ⟨6, .data⟩ (by simp) rfl
      refine step_val (.slice (some ⟨u.heap.size, 0, none⟩) 1 1) (u.alloc (.cells #[.int .i64 (k0), .int .u64 ((b0 : Nat) : Int)] 29)) (wanted_plain rfl) ?_ ⟨_, 1, rfl, row_one (by first | assumption | exact tvB_lt _) (by simp) (by simp)⟩ (below1 _ _)
      go_simp
    refine stepsL_cons (fun a u hc hd hk hdep => ?_) ?_
    ·
      obtain ⟨A70, c70, d70, r70⟩ : rowW [(k0, b0)] ((a.tmps[70]?).getD undef) u := hdep ⟨7, .data⟩ (by simp) rfl
      refine step_call 17 #[.int .i64 15, .slice A70 1 c70] (wanted_plain rfl) (by go_simp) ?_
      exact (do_not' _ _ _ _ _ _ u (ta) rfl r70).mono (by rintro e w' ⟨rfl, hb⟩; exact ⟨_, rfl, rfl, hb⟩)
    refine stepsL_cons (fun a u hc hd hk hdep => ?_) ?_
    ·
      have d4 : (a.tmps[4]?).getD undef = (.pointer (some ⟨w.heap.size + 1, 0, none⟩)) := hk 4 (by kernel_rfl)
      refine step_val (.agg #[.int .i64 (k1), .int .u64 ((b1 : Nat) : Int)]) u (wanted_plain rfl) ?_ rfl (Below.refl _ _)
      obtain ⟨s0, s1, s2, s3, s4, s5, s6⟩ := hc
      go_simp
    refine stepsL_cons (fun a u hc hd hk hdep => ?_) ?_
    ·
      have d72 : (a.tmps[72]?).getD undef = (.agg #[.int .i64 (k1), .int .u64 ((b1 : Nat) : Int)]) := hdep ⟨9, .data⟩ (by simp) rfl
      refine step_val (.slice (some ⟨u.heap.size, 0, none⟩) 1 1) (u.alloc (.cells #[.int .i64 (k1), .int .u64 ((b1 : Nat) : Int)] 29)) (wanted_plain rfl) ?_ ⟨_, 1, rfl, row_one (by first | assumption | exact tvB_lt _) (by simp) (by simp)⟩ (below1 _ _)
      go_simp
    refine stepsL_cons (fun a u hc hd hk hdep => ?_) ?_
    ·
      obtain ⟨A73, c73, d73, r73⟩ : rowW [(k1, b1)] ((a.tmps[73]?).getD undef) u := hdep ⟨10, .data⟩ (by simp) rfl
      refine step_call 17 #[.int .i64 15, .slice A73 1 c73] (wanted_plain rfl) (by go_simp) ?_
      exact (do_not' _ _ _ _ _ _ u (tb) rfl r73).mono (by rintro e w' ⟨rfl, hb⟩; exact ⟨_, rfl, rfl, hb⟩)
    refine stepsL_cons (fun a u hc hd hk hdep => ?_) ?_
    ·
      have d71 : (a.tmps[71]?).getD undef = (.agg #[.int .i64 (tvK (nt (xa))), .int .u64 ((tvB (nt (xa)) : Nat) : Int)]) := hdep ⟨8, .data⟩ (by simp) rfl
      have d74 : (a.tmps[74]?).getD undef = (.agg #[.int .i64 (tvK (nt (xb))), .int .u64 ((tvB (nt (xb)) : Nat) : Int)]) := hdep ⟨11, .data⟩ (by simp) rfl
      refine step_val (.slice (some ⟨u.heap.size, 0, none⟩) 2 2) (u.alloc (.cells #[.int .i64 (tvK (nt (xa))), .int .u64 ((tvB (nt (xa)) : Nat) : Int), .int .i64 (tvK (nt (xb))), .int .u64 ((tvB (nt (xb)) : Nat) : Int)] 29)) (wanted_plain rfl) ?_ ⟨_, 2, rfl, row_two (by first | assumption | exact tvB_lt _) (by first | assumption | exact tvB_lt _) (by simp) (by simp) (by simp) (by simp)⟩ (below1 _ _)
      go_simp
    refine stepsL_cons (fun a u hc hd hk hdep => ?_) ?_
    ·
      obtain ⟨A75, c75, d75, r75⟩ : rowW [(tvK (nt (xa)), tvB (nt (xa))), (tvK (nt (xb)), tvB (nt (xb)))] ((a.tmps[75]?).getD undef) u := hdep ⟨12, .data⟩ (by simp) rfl
      refine step_call 17 #[.int .i64 14, .slice A75 2 c75] (wanted_plain rfl) (by go_simp) ?_
      exact (do_or' _ _ _ _ _ _ _ _ _ u (tri_tv _ q11) (tri_tv _ q12) q13 r75).mono (by rintro e w' ⟨rfl, hb⟩; exact ⟨_, rfl, rfl, hb⟩)
    refine stepsL_cons (fun a u hc hd hk hdep => ?_) ?_
    ·
      have d68 : (a.tmps[68]?).getD undef = (.agg #[.int .i64 (tvK (nt (bt 0 (xa) (xb)))), .int .u64 ((tvB (nt (bt 0 (xa) (xb))) : Nat) : Int)]) := hdep ⟨5, .data⟩ (by simp) rfl
      have d76 : (a.tmps[76]?).getD undef = (.agg #[.int .i64 (tvK (nt (bt 0 (xa) (xb)))), .int .u64 ((tvB (nt (bt 0 (xa) (xb))) : Nat) : Int)]) := hdep ⟨13, .data⟩ (by simp) rfl
      refine step_val (.bool true) u (wanted_plain rfl) ?_ rfl (Below.refl _ _)
      go_simp
    refine stepsL_cons (fun a u hc hd hk hdep => ?_) ?_
    ·
      have d77 : (a.tmps[77]?).getD undef = (.bool true) := hdep ⟨14, .data⟩ (by simp) rfl
      refine step_val (.bool true) u (wanted_plain rfl) ?_ rfl (Below.refl _ _)
      first | (go_simp; done) | rfl
    exact stepsL_nil
  intro vs wN2 hN hh
  obtain ⟨e0, e1, e2, e3, e4, e5, e6, e7, e8, e9, e10, e11, e12, e13, e14, e15, -⟩ := hh
  have eL : vs 15 = (.bool true) := e15
  clear e0 e1 e2 e3 e4 e5 e6 e7 e8 e9 e10 e11 e12 e13 e14 e15
  simp only [putAll, Act.put, List.setIfInBounds_toArray, List.set_cons_zero, List.set_cons_succ, eL]
  obtain ⟨s0, s1, s2, s3, s4, s5, hB9⟩ := hN
  go_wp2
  go_ret
  exact ⟨rfl, hB9⟩

set_option maxRecDepth 100000 in
theorem lifted (os : Os) (started : os.Started) (H : Type) (enc : TypeId × Value → H) :
    ReturnsInHanded {} Try.checked os 5 .any (Rows.valueTruthsSpec.pre6 enc Try.prog Try.f5 Rows.valueTruthsRow.domain false) (Rows.valueTruthsSpec.post enc Try.prog Try.f5 false true false false) := by
  refine returnsInHanded_of_change (C := Try.checked) own started (by kernel_rfl) Try.func5
    (ChangeSpec.witness6 (enc := enc) (C := Try.checked) false ⟨#[], #[.agg #[.int .i64 0, .int .u64 0], .agg #[.int .i64 0, .int .u64 0], .agg #[.int .i64 0, .int .u64 0]], []⟩ 8 (by kernel_rfl) (by kernel_rfl) (by kernel_rfl) (by kernel_rfl)) ?_
  intro W base args ds gs before hval0 hW hcnd _
  have hval : ∀ (j : Nat) t v, Try.f5.params[j]? = some t → args[j]? = some v → Value.okWide Try.prog W .any base t v := hval0
  have hW' := hW
  obtain ⟨p, q, hA0, hV, rfl, hfz, hnd⟩ := hW
  have hA : DataW.TrodAll enc Try.prog W 0 (fun _ => true) true Try.f5.params.toList args.toList ds p := hA0
  rw [Try.params5] at hA hval
  obtain ⟨v0, vs0, d0, ds0, p0, q0, hargs, rfl, rfl, h0, r0⟩ := trodAll_cons hA
  obtain ⟨v1, vs1, d1, ds1, p1, q1, rfl, rfl, rfl, h1, r1⟩ := trodAll_cons r0
  obtain ⟨v2, vs2, d2, ds2, p2, q2, rfl, rfl, rfl, h2, r2⟩ := trodAll_cons r1
  obtain ⟨rfl, rfl, rfl⟩ := trodAll_nil r2
  obtain rfl : args = #[v0, v1, v2] := by cases args; simp_all
  obtain ⟨rfl, rfl⟩ := trodVars_none hV
  have kk0 := h0
  have lt0 : ∀ x ∈ p0, x.block < W.heap.size := by obtain ⟨m, hm⟩ := kk0; exact DataW.trod_lt m _ _ _ hm
  have kk1 := h1
  have lt1 : ∀ x ∈ p1, x.block < W.heap.size := by obtain ⟨m, hm⟩ := kk1; exact DataW.trod_lt m _ _ _ hm
  have kk2 := h2
  have lt2 : ∀ x ∈ p2, x.block < W.heap.size := by obtain ⟨m, hm⟩ := kk2; exact DataW.trod_lt m _ _ _ hm
  obtain ⟨k0, b0, rfl, x0, w0⟩ : ∃ (k : Int) (b : Nat), v0 = .agg #[.int .i64 k, .int .u64 (b : Int)] ∧ (Lit.int .i64 k).wf = true ∧ b < 18446744073709551616 := by
    obtain ⟨c0, c1, y0, y1, m, rfl, _, _, hy0, hy1⟩ := open_agg2 Try.underlying29 (by kernel_rfl) cells29 (hval 0 29 v0 rfl rfl) h0
    obtain ⟨a, e0, _, wa⟩ := DataW.trod_int Try.underlying3 hy0
    obtain ⟨b, e1, _, wb⟩ := DataW.trod_int Try.underlying25 hy1
    simp at e0 e1
    subst e0 e1
    obtain ⟨n, rfl, hn⟩ := nat_of_wf wb
    exact ⟨a, n, rfl, wa, hn⟩
  obtain ⟨k1, b1, rfl, x1, w1⟩ : ∃ (k : Int) (b : Nat), v1 = .agg #[.int .i64 k, .int .u64 (b : Int)] ∧ (Lit.int .i64 k).wf = true ∧ b < 18446744073709551616 := by
    obtain ⟨c0, c1, y0, y1, m, rfl, _, _, hy0, hy1⟩ := open_agg2 Try.underlying29 (by kernel_rfl) cells29 (hval 1 29 v1 rfl rfl) h1
    obtain ⟨a, e0, _, wa⟩ := DataW.trod_int Try.underlying3 hy0
    obtain ⟨b, e1, _, wb⟩ := DataW.trod_int Try.underlying25 hy1
    simp at e0 e1
    subst e0 e1
    obtain ⟨n, rfl, hn⟩ := nat_of_wf wb
    exact ⟨a, n, rfl, wa, hn⟩
  obtain ⟨k2, b2, rfl, x2, w2⟩ : ∃ (k : Int) (b : Nat), v2 = .agg #[.int .i64 k, .int .u64 (b : Int)] ∧ (Lit.int .i64 k).wf = true ∧ b < 18446744073709551616 := by
    obtain ⟨c0, c1, y0, y1, m, rfl, _, _, hy0, hy1⟩ := open_agg2 Try.underlying29 (by kernel_rfl) cells29 (hval 2 29 v2 rfl rfl) h2
    obtain ⟨a, e0, _, wa⟩ := DataW.trod_int Try.underlying3 hy0
    obtain ⟨b, e1, _, wb⟩ := DataW.trod_int Try.underlying25 hy1
    simp at e0 e1
    subst e0 e1
    obtain ⟨n, rfl, hn⟩ := nat_of_wf wb
    exact ⟨a, n, rfl, wa, hn⟩
  clear hA0 hval0
  refine (walk W k0 b0 x0 w0 k1 b1 x1 w1 k2 b2 x2 w2).mono fun e W' ⟨he, bel⟩ => ?_
  subst he
  exact ⟨_, rfl, _, _, _, [], _, [], hW', trodAll_mk1 (shut_bool Try.underlying4 _), (trodAll_cons_mk (Below.trod laidOut (by kernel_rfl) (of_decide_eq_true (by kernel_rfl)) kk0 bel lt0) (trodAll_cons_mk (Below.trod laidOut (by kernel_rfl) (of_decide_eq_true (by kernel_rfl)) kk1 bel lt1) (trodAll_cons_mk (Below.trod laidOut (by kernel_rfl) (of_decide_eq_true (by kernel_rfl)) kk2 bel lt2) trodAll_mk0))), rfl, bel.frame _, fun h => by cases h⟩

theorem over : Rows.valueTruthsRow.holds Try.pinned (OpenSpec.ofChange Rows.valueTruthsSpec) :=
  OpenClaim.holds_of_wide 5 Try.f5 rfl rfl rfl rfl rfl rfl rfl ⟨rfl, rfl, rfl, rfl, rfl⟩ rfl rfl rfl rfl rfl (by kernel_rfl) Try.func5 (by kernel_rfl)
    (of_decide_eq_true (by kernel_rfl)) (by unfold Func.isWrapper; first | (rw [if_pos (by decide +kernel)]; kernel_rfl) | (rw [if_neg (by decide +kernel)]; exact ⟨rfl, rfl⟩))
    (fun os started H enc _ => lifted os started H enc)

/-- the statement -/
theorem proved : Rows.ValueTruthsSaid :=
  over
#print axioms proved
end Go.Proofs.Ytocciehjpgkceaa.valueTruths
