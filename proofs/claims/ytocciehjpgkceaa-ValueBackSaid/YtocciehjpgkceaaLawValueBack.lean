/- ValueBack: what is added can be taken off, what is multiplied divided, where nothing leaves the numbers. -/
import Derived.Test.YtocciehjpgkceaaRows
import Derived.WalkKit
import Derived.ProofKit
import Derived.OpenShut
import Derived.ShutString
import Derived.ChangeOld
import Derived.Below
import Derived.Lib.SmallJoins
import Derived.SizedLaws
import Derived.Test.YtocciehjpgkceaaAwake
import Derived.Test.YtocciehjpgkceaaAplI
import Derived.Test.YtocciehjpgkceaaInvV
namespace Go.Proofs.Ytocciehjpgkceaa.valueBack
open Go.ChangeShapes Go.WideShapes Go.ChangeAt Go.RowKit Go.Fl Go.Joins
set_option linter.unusedVariables false

theorem own : ownKnob Try.prog.godebug = none := by kernel_rfl
theorem laidOut : laidOutB Try.prog = true := by kernel_rfl

theorem back_add (a b z : Int) (ha : I64 a) (h : ansI 1 a b = some z) : I64 z ∧ ansI 2 z b = some a := by
  simp [ansI, chk] at h
  obtain ⟨h1, rfl⟩ := h
  refine ⟨h1, ?_⟩
  simp [ansI, chk, show a + b - b = a by omega, ha]
theorem back_mul (a b z : Int) (ha : I64 a) (hb0 : b ≠ 0) (h : ansI 3 a b = some z) : I64 z ∧ ansI 4 z b = some a ∧ ansI 5 z b = some 0 := by
  simp [ansI, chk] at h
  obtain ⟨h1, rfl⟩ := h
  refine ⟨h1, ?_, ?_⟩
  · simp [ansI, quoP, chk, hb0, ha, Int.mul_tdiv_cancel]
  · simp [ansI, remP, hb0]

set_option maxHeartbeats 4000000 in
theorem walk (w : World) (a0 : Int) (w0 : (Lit.int .i64 a0).wf = true) (a1 : Int) (w1 : (Lit.int .i64 a1).wf = true) :
    Calls Try.prog 6 #[.int .i64 a0, .int .i64 a1] w fun e w' => e = .returned (.bool true) ∧ Below w.heap.size w w' := by
  have he := eqR
  have hf0 : ∀ (x y : Value) (w : World), (Instr.field 29 (.agg #[x, y]) 0).run Try.prog w = .ok x w := fun _ _ _ => rfl
  have ha : I64 a0 := i64_of_wf w0
  have hb : I64 a1 := i64_of_wf w1
  have D1 := Lib.hid (fun A cap w hv => do_i 1 a0 a1 A cap w ha hb hv (by decide) (by decide))
  have D3 := Lib.hid (fun A cap w hv => do_i 3 a0 a1 A cap w ha hb hv (by decide) (by decide))
  have hadd := fun z => back_add a0 a1 z ha
  have hmul := fun z => back_mul a0 a1 z ha
  generalize ansI 1 a0 a1 = s at *
  generalize ansI 3 a0 a1 = p at *
  go_enter Try.func6, Try.ntmps6
  go_wp2_with fail
  refine (awake_any _).mono ?_; rintro e u1 ⟨rfl, hb1⟩
  go_wp2_with fail
  refine (num_v _ _).mono ?_; rintro e u2 ⟨rfl, hb2⟩
  go_wp2_with fail
  refine (num_v _ _).mono ?_; rintro e u3 ⟨rfl, hb3⟩
  go_wp2_with fail
  refine (D1.out _ _ _ (row_two (nb_lt _) (nb_lt _) (by simp) (by simp) (by simp) (by simp))).mono ?_; rintro e u4 ⟨rfl, hb4⟩
  go_wp2_with fail
  refine (num_v _ _).mono ?_; rintro e u5 ⟨rfl, hb5⟩
  go_wp2_with fail
  refine (num_v _ _).mono ?_; rintro e u6 ⟨rfl, hb6⟩
  go_wp2_with fail
  refine (D3.out _ _ _ (row_two (nb_lt _) (nb_lt _) (by simp) (by simp) (by simp) (by simp))).mono ?_; rintro e u7 ⟨rfl, hb7⟩
  have hB := below_more (below_more (below_more (below_more (below_more (below_more (below_more (below_more hb1 hb2) hb3) (below1 _ _)) hb4) hb5) hb6) (below1 _ _)) hb7
  clear hb1 hb2 hb3 hb4 hb5 hb6 hb7 D1 D3
  have hp : (p = none ∧ resK p = 0 ∧ resN p = 0) ∨ ∃ z, p = some z ∧ resK p = 1 ∧ resN p = nb z := by
    cases p with
    | none => exact .inl ⟨rfl, rfl, rfl⟩
    | some z => exact .inr ⟨z, rfl, rfl, rfl⟩
  generalize resK p = pk at *
  generalize resN p = pn at *
  replace hp := Lib.hid hp
  replace hmul := Lib.hid hmul
  have A0 := Lib.hid ha
  have B0 := Lib.hid hb
  clear ha hb w0 w1
  rcases s with _ | z
  · have D2 := Lib.hid (fun A cap w hv => do_strictL 2 (by decide) (by decide) 1 (nb a1) A cap w hv)
    clear hadd
    simp only [resK, resN]
    go_wp2_with fail
    refine region_words (fun w' => w'.cell? ⟨u7.heap.size, 0, none⟩ = some (.int .i64 (0)) ∧ w'.cell? ⟨u7.heap.size, 1, none⟩ = some (.int .u64 ((0 : Nat) : Int)) ∧ w'.cell? ⟨u7.heap.size + 1, 0, none⟩ = some (.int .i64 (pk)) ∧ w'.cell? ⟨u7.heap.size + 1, 1, none⟩ = some (.int .u64 ((pn : Nat) : Int)) ∧ Below w.heap.size w w') [isW (.pointer (some ⟨u7.heap.size, 0, none⟩)), isW (.int .i64 (0)), isW (.bool false), isW (.bool false), isW undef, isW undef, isW undef, isW undef, isW undef, isW undef, isW undef, isW undef, isW (.bool false), isW (.bool false), isW (.pointer (some ⟨u7.heap.size, 0, none⟩)), isW (.int .i64 (0)), isW (.bool true), isW (.bool true), isW (.agg #[.int .i64 (0), .int .u64 ((0 : Nat) : Int)]), isW (.int .i64 (a1)), isW (.agg #[.int .i64 (1), .int .u64 ((nb a1 : Nat) : Int)]), rowW [(0, 0), (1, nb a1)], isW (.agg #[.int .i64 (0), .int .u64 ((0 : Nat) : Int)]), isW (.int .i64 (0)), isW (.bool false), isW (.bool false), isW (.bool false)] (by kernel_rfl) (by repeat' (first | exact monoL_nil | exact is_mono _ | exact row_mono _ | exact any_mono | refine monoL_cons ?_ ?_)) (by kernel_rfl) (by kernel_rfl) (fun _ _ h hb => keepF hb h) (⟨by simp [go_sem], by simp [go_sem], by simp [go_sem], by simp [go_sem], ((hB.alloc hB.size _).alloc (by simp; have := hB.size; omega) _).drew⟩) ?_ ?_
    · refine stepsL_cons (fun a u hc hd hk hdep => ?_) ?_
      ·
        have d5 : (a.tmps[5]?).getD undef = (.pointer (some ⟨u7.heap.size, 0, none⟩)) := hk 5 (by kernel_rfl)
        refine step_val (.pointer (some ⟨u7.heap.size, 0, none⟩)) u (wanted_plain rfl) ?_ rfl (Below.refl _ _)
        go_simp
      refine stepsL_cons (fun a u hc hd hk hdep => ?_) ?_
      ·
        have d21 : (a.tmps[21]?).getD undef = (.pointer (some ⟨u7.heap.size, 0, none⟩)) := hdep ⟨0, .data⟩ (by simp) rfl
        refine step_val (.int .i64 (0)) u (wanted_plain rfl) ?_ rfl (Below.refl _ _)
        obtain ⟨s0, s1, s2, s3, s4⟩ := hc
        go_simp
      refine stepsL_cons (fun a u hc hd hk hdep => ?_) ?_
      ·
        have d22 : (a.tmps[22]?).getD undef = (.int .i64 (0)) := hdep ⟨1, .data⟩ (by simp) rfl
        refine step_val (.bool false) u (wanted_plain rfl) ?_ rfl (Below.refl _ _)
        go_simp
      refine stepsL_cons (fun a u hc hd hk hdep => ?_) ?_
      ·
        have d23 : (a.tmps[23]?).getD undef = (.bool false) := hdep ⟨2, .data⟩ (by simp) rfl
        refine step_val (.bool false) u (wanted_plain rfl) ?_ rfl (Below.refl _ _)
        first | (go_simp; done) | rfl
      refine stepsL_cons (fun a u hc hd hk hdep => ?_) ?_
      · exact step_skip ((wanted_guard (j := 3) (b := true) (c := false) rfl (hdep ⟨3, .guard⟩ (by simp) rfl)).trans rfl) rfl
      refine stepsL_cons (fun a u hc hd hk hdep => ?_) ?_
      · exact step_skip ((wanted_guard (j := 3) (b := true) (c := false) rfl (hdep ⟨3, .guard⟩ (by simp) rfl)).trans rfl) rfl
      refine stepsL_cons (fun a u hc hd hk hdep => ?_) ?_
      · exact step_skip ((wanted_guard (j := 3) (b := true) (c := false) rfl (hdep ⟨3, .chain⟩ (by simp) rfl)).trans rfl) rfl
      refine stepsL_cons (fun a u hc hd hk hdep => ?_) ?_
      · exact step_skip ((wanted_guard (j := 3) (b := true) (c := false) rfl (hdep ⟨3, .guard⟩ (by simp) rfl)).trans rfl) rfl
      refine stepsL_cons (fun a u hc hd hk hdep => ?_) ?_
      · exact step_skip ((wanted_guard (j := 3) (b := true) (c := false) rfl (hdep ⟨3, .guard⟩ (by simp) rfl)).trans rfl) rfl
      refine stepsL_cons (fun a u hc hd hk hdep => ?_) ?_
      · exact step_skip ((wanted_guard (j := 3) (b := true) (c := false) rfl (hdep ⟨3, .guard⟩ (by simp) rfl)).trans rfl) rfl
      refine stepsL_cons (fun a u hc hd hk hdep => ?_) ?_
      · exact step_skip ((wanted_guard (j := 3) (b := true) (c := false) rfl (hdep ⟨3, .guard⟩ (by simp) rfl)).trans rfl) rfl
      refine stepsL_cons (fun a u hc hd hk hdep => ?_) ?_
      · exact step_skip ((wanted_guard (j := 3) (b := true) (c := false) rfl (hdep ⟨3, .guard⟩ (by simp) rfl)).trans rfl) rfl
      refine stepsL_cons (fun a u hc hd hk hdep => ?_) ?_
      ·
        have d24 : (a.tmps[24]?).getD undef = (.bool false) := hdep ⟨3, .data⟩ (by simp) rfl
        have d32 : (a.tmps[32]?).getD undef = undef := hdep ⟨11, .data⟩ (by simp) rfl
        refine step_val (.bool false) u (wanted_plain rfl) ?_ rfl (Below.refl _ _)
        first | (go_simp; done) | rfl
      refine stepsL_cons (fun a u hc hd hk hdep => ?_) ?_
      ·
        have d33 : (a.tmps[33]?).getD undef = (.bool false) := hdep ⟨12, .data⟩ (by simp) rfl
        refine step_val (.bool false) u (wanted_plain rfl) ?_ rfl (Below.refl _ _)
        first | (go_simp; done) | rfl
      refine stepsL_cons (fun a u hc hd hk hdep => ?_) ?_
      ·
        have d5 : (a.tmps[5]?).getD undef = (.pointer (some ⟨u7.heap.size, 0, none⟩)) := hk 5 (by kernel_rfl)
        refine step_val (.pointer (some ⟨u7.heap.size, 0, none⟩)) u ((wanted_guard (j := 13) (b := false) (c := false) rfl (hdep ⟨13, .guard⟩ (by simp) rfl)).trans rfl) ?_ rfl (Below.refl _ _)
        go_simp
      refine stepsL_cons (fun a u hc hd hk hdep => ?_) ?_
      ·
        have d35 : (a.tmps[35]?).getD undef = (.pointer (some ⟨u7.heap.size, 0, none⟩)) := hdep ⟨14, .data⟩ (by simp) rfl
        refine step_val (.int .i64 (0)) u ((wanted_guard (j := 13) (b := false) (c := false) rfl (hdep ⟨13, .guard⟩ (by simp) rfl)).trans rfl) ?_ rfl (Below.refl _ _)
        obtain ⟨s0, s1, s2, s3, s4⟩ := hc
        go_simp
      refine stepsL_cons (fun a u hc hd hk hdep => ?_) ?_
      ·
        have d36 : (a.tmps[36]?).getD undef = (.int .i64 (0)) := hdep ⟨15, .data⟩ (by simp) rfl
        refine step_val (.bool true) u ((wanted_guard (j := 13) (b := false) (c := false) rfl (hdep ⟨13, .guard⟩ (by simp) rfl)).trans rfl) ?_ rfl (Below.refl _ _)
        go_simp
      refine stepsL_cons (fun a u hc hd hk hdep => ?_) ?_
      ·
        have d37 : (a.tmps[37]?).getD undef = (.bool true) := hdep ⟨16, .data⟩ (by simp) rfl
        refine step_val (.bool true) u ((wanted_guard (j := 13) (b := false) (c := false) rfl (hdep ⟨13, .chain⟩ (by simp) rfl)).trans rfl) ?_ rfl (Below.refl _ _)
        first | (go_simp; done) | rfl
      refine stepsL_cons (fun a u hc hd hk hdep => ?_) ?_
      ·
        refine step_val (.agg #[.int .i64 (0), .int .u64 ((0 : Nat) : Int)]) u ((wanted_guard (j := 17) (b := true) (c := true) rfl (hdep ⟨17, .guard⟩ (by simp) rfl)).trans rfl) ?_ rfl (Below.refl _ _)
        go_simp
      refine stepsL_cons (fun a u hc hd hk hdep => ?_) ?_
      ·
        have d1 : (a.tmps[1]?).getD undef = (.int .i64 (a1)) := hk 1 (by kernel_rfl)
        refine step_val (.int .i64 (a1)) u ((wanted_guard (j := 17) (b := true) (c := true) rfl (hdep ⟨17, .guard⟩ (by simp) rfl)).trans rfl) ?_ rfl (Below.refl _ _)
        first | (go_simp; done) | rfl
      refine stepsL_cons (fun a u hc hd hk hdep => ?_) ?_
      ·
        have d40 : (a.tmps[40]?).getD undef = (.int .i64 (a1)) := hdep ⟨19, .data⟩ (by simp) rfl
        refine step_call 18 #[.int .i64 a1] ((wanted_guard (j := 17) (b := true) (c := true) rfl (hdep ⟨17, .chain⟩ (by simp) rfl)).trans rfl) (by go_simp) ?_
        exact (num_v a1 u).mono (by rintro e w' ⟨rfl, hb⟩; exact ⟨_, rfl, rfl, hb⟩)
      refine stepsL_cons (fun a u hc hd hk hdep => ?_) ?_
      ·
        have d39 : (a.tmps[39]?).getD undef = (.agg #[.int .i64 (0), .int .u64 ((0 : Nat) : Int)]) := hdep ⟨18, .data⟩ (by simp) rfl
        have d41 : (a.tmps[41]?).getD undef = (.agg #[.int .i64 (1), .int .u64 ((nb a1 : Nat) : Int)]) := hdep ⟨20, .data⟩ (by simp) rfl
        refine step_val (.slice (some ⟨u.heap.size, 0, none⟩) 2 2) (u.alloc (.cells #[.int .i64 (0), .int .u64 ((0 : Nat) : Int), .int .i64 (1), .int .u64 ((nb a1 : Nat) : Int)] 29)) ((wanted_guard (j := 17) (b := true) (c := true) rfl (hdep ⟨17, .guard⟩ (by simp) rfl)).trans rfl) ?_ ⟨_, 2, rfl, row_two (by first | exact nb_lt _ | decide) (by first | exact nb_lt _ | decide) (by simp) (by simp) (by simp) (by simp)⟩ (below1 _ _)
        go_simp
      refine stepsL_cons (fun a u hc hd hk hdep => ?_) ?_
      ·
        obtain ⟨A42, c42, d42, r42⟩ : rowW [(0, 0), (1, nb a1)] ((a.tmps[42]?).getD undef) u := hdep ⟨21, .data⟩ (by simp) rfl
        refine step_call 17 #[.int .i64 2, .slice A42 2 c42] ((wanted_guard (j := 17) (b := true) (c := true) rfl (hdep ⟨17, .guard⟩ (by simp) rfl)).trans rfl) (by go_simp) ?_
        exact (D2.out _ _ u r42).mono (by rintro e w' ⟨rfl, hb⟩; exact ⟨_, rfl, rfl, hb⟩)
      refine stepsL_cons (fun a u hc hd hk hdep => ?_) ?_
      ·
        have d43 : (a.tmps[43]?).getD undef = (.agg #[.int .i64 (0), .int .u64 ((0 : Nat) : Int)]) := hdep ⟨22, .data⟩ (by simp) rfl
        refine step_val (.int .i64 (0)) u ((wanted_guard (j := 17) (b := true) (c := true) rfl (hdep ⟨17, .guard⟩ (by simp) rfl)).trans rfl) ?_ rfl (Below.refl _ _)
        go_simp
      refine stepsL_cons (fun a u hc hd hk hdep => ?_) ?_
      ·
        have d44 : (a.tmps[44]?).getD undef = (.int .i64 (0)) := hdep ⟨23, .data⟩ (by simp) rfl
        refine step_val (.bool false) u ((wanted_guard (j := 17) (b := true) (c := true) rfl (hdep ⟨17, .guard⟩ (by simp) rfl)).trans rfl) ?_ rfl (Below.refl _ _)
        go_simp
      refine stepsL_cons (fun a u hc hd hk hdep => ?_) ?_
      ·
        have d38 : (a.tmps[38]?).getD undef = (.bool true) := hdep ⟨17, .data⟩ (by simp) rfl
        have d45 : (a.tmps[45]?).getD undef = (.bool false) := hdep ⟨24, .data⟩ (by simp) rfl
        refine step_val (.bool false) u ((wanted_guard (j := 13) (b := false) (c := false) rfl (hdep ⟨13, .guard⟩ (by simp) rfl)).trans rfl) ?_ rfl (Below.refl _ _)
        first | (go_simp; done) | rfl
      refine stepsL_cons (fun a u hc hd hk hdep => ?_) ?_
      ·
        have d34 : (a.tmps[34]?).getD undef = (.bool false) := hdep ⟨13, .data⟩ (by simp) rfl
        have d46 : (a.tmps[46]?).getD undef = (.bool false) := hdep ⟨25, .data⟩ (by simp) rfl
        refine step_val (.bool false) u (wanted_plain rfl) ?_ rfl (Below.refl _ _)
        first | (go_simp; done) | rfl
      exact stepsL_nil
    intro vs wN1 hN hh
    obtain ⟨e0, e1, e2, e3, e4, e5, e6, e7, e8, e9, e10, e11, e12, e13, e14, e15, e16, e17, e18, e19, e20, e21, e22, e23, e24, e25, e26, -⟩ := hh
    have eL : vs 26 = (.bool false) := e26
    clear e0 e1 e2 e3 e4 e5 e6 e7 e8 e9 e10 e11 e12 e13 e14 e15 e16 e17 e18 e19 e20 e21 e22 e23 e24 e25 e26
    simp only [putAll, Act.put, List.setIfInBounds_toArray, List.set_cons_zero, List.set_cons_succ, eL]
    obtain ⟨s0, s1, s2, s3, hB1⟩ := hN
    rcases hp.out with ⟨rfl, rfl, rfl⟩ | ⟨z6, rfl, rfl, rfl⟩
    · skip
      go_wp2_with fail
      refine region_words (fun w' => w'.cell? ⟨u7.heap.size, 0, none⟩ = some (.int .i64 (0)) ∧ w'.cell? ⟨u7.heap.size, 1, none⟩ = some (.int .u64 ((0 : Nat) : Int)) ∧ w'.cell? ⟨u7.heap.size + 1, 0, none⟩ = some (.int .i64 (0)) ∧ w'.cell? ⟨u7.heap.size + 1, 1, none⟩ = some (.int .u64 ((0 : Nat) : Int)) ∧ Below w.heap.size w w') [isW (.pointer (some ⟨u7.heap.size + 1, 0, none⟩)), isW (.int .i64 (0)), isW (.bool true), isW (.bool true), isW undef, isW undef, isW (.bool true), isW (.bool true), isW undef, isW undef, isW undef, isW undef, isW undef, isW undef, isW undef, isW undef, isW undef, isW undef, isW undef, isW undef, isW undef, isW undef, isW undef, isW undef, isW undef, isW (.bool true), isW (.bool true)] (by kernel_rfl) (by repeat' (first | exact monoL_nil | exact is_mono _ | exact row_mono _ | exact any_mono | refine monoL_cons ?_ ?_)) (by kernel_rfl) (by kernel_rfl) (fun _ _ h hb => keepF hb h) (⟨s0, s1, s2, s3, hB1.drew⟩) ?_ ?_
      · refine stepsL_cons (fun a u hc hd hk hdep => ?_) ?_
        ·
          have d6 : (a.tmps[6]?).getD undef = (.pointer (some ⟨u7.heap.size + 1, 0, none⟩)) := hk 6 (by kernel_rfl)
          refine step_val (.pointer (some ⟨u7.heap.size + 1, 0, none⟩)) u (wanted_plain rfl) ?_ rfl (Below.refl _ _)
          go_simp
        refine stepsL_cons (fun a u hc hd hk hdep => ?_) ?_
        ·
          have d48 : (a.tmps[48]?).getD undef = (.pointer (some ⟨u7.heap.size + 1, 0, none⟩)) := hdep ⟨0, .data⟩ (by simp) rfl
          refine step_val (.int .i64 (0)) u (wanted_plain rfl) ?_ rfl (Below.refl _ _)
          obtain ⟨s0, s1, s2, s3, s4⟩ := hc
          go_simp
        refine stepsL_cons (fun a u hc hd hk hdep => ?_) ?_
        ·
          have d49 : (a.tmps[49]?).getD undef = (.int .i64 (0)) := hdep ⟨1, .data⟩ (by simp) rfl
          refine step_val (.bool true) u (wanted_plain rfl) ?_ rfl (Below.refl _ _)
          go_simp
        refine stepsL_cons (fun a u hc hd hk hdep => ?_) ?_
        ·
          have d50 : (a.tmps[50]?).getD undef = (.bool true) := hdep ⟨2, .data⟩ (by simp) rfl
          refine step_val (.bool true) u (wanted_plain rfl) ?_ rfl (Below.refl _ _)
          first | (go_simp; done) | rfl
        refine stepsL_cons (fun a u hc hd hk hdep => ?_) ?_
        · exact step_skip ((wanted_guard (j := 3) (b := false) (c := true) rfl (hdep ⟨3, .guard⟩ (by simp) rfl)).trans rfl) rfl
        refine stepsL_cons (fun a u hc hd hk hdep => ?_) ?_
        · exact step_skip ((wanted_guard (j := 3) (b := false) (c := true) rfl (hdep ⟨3, .guard⟩ (by simp) rfl)).trans rfl) rfl
        refine stepsL_cons (fun a u hc hd hk hdep => ?_) ?_
        ·
          have d51 : (a.tmps[51]?).getD undef = (.bool true) := hdep ⟨3, .data⟩ (by simp) rfl
          have d53 : (a.tmps[53]?).getD undef = undef := hdep ⟨5, .data⟩ (by simp) rfl
          refine step_val (.bool true) u (wanted_plain rfl) ?_ rfl (Below.refl _ _)
          first | (go_simp; done) | rfl
        refine stepsL_cons (fun a u hc hd hk hdep => ?_) ?_
        ·
          have d54 : (a.tmps[54]?).getD undef = (.bool true) := hdep ⟨6, .data⟩ (by simp) rfl
          refine step_val (.bool true) u (wanted_plain rfl) ?_ rfl (Below.refl _ _)
          first | (go_simp; done) | rfl
        refine stepsL_cons (fun a u hc hd hk hdep => ?_) ?_
        · exact step_skip ((wanted_guard (j := 7) (b := false) (c := true) rfl (hdep ⟨7, .guard⟩ (by simp) rfl)).trans rfl) rfl
        refine stepsL_cons (fun a u hc hd hk hdep => ?_) ?_
        · exact step_skip ((wanted_guard (j := 7) (b := false) (c := true) rfl (hdep ⟨7, .guard⟩ (by simp) rfl)).trans rfl) rfl
        refine stepsL_cons (fun a u hc hd hk hdep => ?_) ?_
        · exact step_skip ((wanted_guard (j := 7) (b := false) (c := true) rfl (hdep ⟨7, .chain⟩ (by simp) rfl)).trans rfl) rfl
        refine stepsL_cons (fun a u hc hd hk hdep => ?_) ?_
        · exact step_skip ((wanted_guard (j := 7) (b := false) (c := true) rfl (hdep ⟨7, .guard⟩ (by simp) rfl)).trans rfl) rfl
        refine stepsL_cons (fun a u hc hd hk hdep => ?_) ?_
        · exact step_skip ((wanted_guard (j := 7) (b := false) (c := true) rfl (hdep ⟨7, .guard⟩ (by simp) rfl)).trans rfl) rfl
        refine stepsL_cons (fun a u hc hd hk hdep => ?_) ?_
        · exact step_skip ((wanted_guard (j := 7) (b := false) (c := true) rfl (hdep ⟨7, .guard⟩ (by simp) rfl)).trans rfl) rfl
        refine stepsL_cons (fun a u hc hd hk hdep => ?_) ?_
        · exact step_skip ((wanted_guard (j := 7) (b := false) (c := true) rfl (hdep ⟨7, .guard⟩ (by simp) rfl)).trans rfl) rfl
        refine stepsL_cons (fun a u hc hd hk hdep => ?_) ?_
        · exact step_skip ((wanted_guard (j := 7) (b := false) (c := true) rfl (hdep ⟨7, .guard⟩ (by simp) rfl)).trans rfl) rfl
        refine stepsL_cons (fun a u hc hd hk hdep => ?_) ?_
        · exact step_skip ((wanted_guard (j := 7) (b := false) (c := true) rfl (hdep ⟨7, .guard⟩ (by simp) rfl)).trans rfl) rfl
        refine stepsL_cons (fun a u hc hd hk hdep => ?_) ?_
        · exact step_skip (wanted_undef (j := 16) (b := true) rfl (hdep ⟨16, .guard⟩ (by simp) rfl)) rfl
        refine stepsL_cons (fun a u hc hd hk hdep => ?_) ?_
        · exact step_skip (wanted_undef (j := 16) (b := true) rfl (hdep ⟨16, .guard⟩ (by simp) rfl)) rfl
        refine stepsL_cons (fun a u hc hd hk hdep => ?_) ?_
        · exact step_skip (wanted_undef (j := 16) (b := true) rfl (hdep ⟨16, .chain⟩ (by simp) rfl)) rfl
        refine stepsL_cons (fun a u hc hd hk hdep => ?_) ?_
        · exact step_skip (wanted_undef (j := 16) (b := true) rfl (hdep ⟨16, .guard⟩ (by simp) rfl)) rfl
        refine stepsL_cons (fun a u hc hd hk hdep => ?_) ?_
        · exact step_skip (wanted_undef (j := 16) (b := true) rfl (hdep ⟨16, .guard⟩ (by simp) rfl)) rfl
        refine stepsL_cons (fun a u hc hd hk hdep => ?_) ?_
        · exact step_skip (wanted_undef (j := 16) (b := true) rfl (hdep ⟨16, .guard⟩ (by simp) rfl)) rfl
        refine stepsL_cons (fun a u hc hd hk hdep => ?_) ?_
        · exact step_skip (wanted_undef (j := 16) (b := true) rfl (hdep ⟨16, .guard⟩ (by simp) rfl)) rfl
        refine stepsL_cons (fun a u hc hd hk hdep => ?_) ?_
        · exact step_skip ((wanted_guard (j := 7) (b := false) (c := true) rfl (hdep ⟨7, .guard⟩ (by simp) rfl)).trans rfl) rfl
        refine stepsL_cons (fun a u hc hd hk hdep => ?_) ?_
        ·
          have d55 : (a.tmps[55]?).getD undef = (.bool true) := hdep ⟨7, .data⟩ (by simp) rfl
          have d72 : (a.tmps[72]?).getD undef = undef := hdep ⟨24, .data⟩ (by simp) rfl
          refine step_val (.bool true) u (wanted_plain rfl) ?_ rfl (Below.refl _ _)
          first | (go_simp; done) | rfl
        refine stepsL_cons (fun a u hc hd hk hdep => ?_) ?_
        ·
          have d73 : (a.tmps[73]?).getD undef = (.bool true) := hdep ⟨25, .data⟩ (by simp) rfl
          refine step_val (.bool true) u (wanted_plain rfl) ?_ rfl (Below.refl _ _)
          first | (go_simp; done) | rfl
        exact stepsL_nil
      intro vs wN2 hN hh
      obtain ⟨e0, e1, e2, e3, e4, e5, e6, e7, e8, e9, e10, e11, e12, e13, e14, e15, e16, e17, e18, e19, e20, e21, e22, e23, e24, e25, e26, -⟩ := hh
      have eL : vs 26 = (.bool true) := e26
      clear e0 e1 e2 e3 e4 e5 e6 e7 e8 e9 e10 e11 e12 e13 e14 e15 e16 e17 e18 e19 e20 e21 e22 e23 e24 e25 e26
      simp only [putAll, Act.put, List.setIfInBounds_toArray, List.set_cons_zero, List.set_cons_succ, eL]
      obtain ⟨s0, s1, s2, s3, hB2⟩ := hN
      go_wp2
      go_ret
      exact ⟨rfl, hB2⟩
    · by_cases z0 : a1 = 0
      · subst z0
        go_wp2_with fail
        refine region_words (fun w' => w'.cell? ⟨u7.heap.size, 0, none⟩ = some (.int .i64 (0)) ∧ w'.cell? ⟨u7.heap.size, 1, none⟩ = some (.int .u64 ((0 : Nat) : Int)) ∧ w'.cell? ⟨u7.heap.size + 1, 0, none⟩ = some (.int .i64 (1)) ∧ w'.cell? ⟨u7.heap.size + 1, 1, none⟩ = some (.int .u64 ((nb z6 : Nat) : Int)) ∧ Below w.heap.size w w') [isW (.pointer (some ⟨u7.heap.size + 1, 0, none⟩)), isW (.int .i64 (1)), isW (.bool false), isW (.bool false), isW (.int .i64 (0)), isW (.bool true), isW (.bool true), isW (.bool true), isW undef, isW undef, isW undef, isW undef, isW undef, isW undef, isW undef, isW undef, isW undef, isW undef, isW undef, isW undef, isW undef, isW undef, isW undef, isW undef, isW undef, isW (.bool true), isW (.bool true)] (by kernel_rfl) (by repeat' (first | exact monoL_nil | exact is_mono _ | exact row_mono _ | exact any_mono | refine monoL_cons ?_ ?_)) (by kernel_rfl) (by kernel_rfl) (fun _ _ h hb => keepF hb h) (⟨s0, s1, s2, s3, hB1.drew⟩) ?_ ?_
        · refine stepsL_cons (fun a u hc hd hk hdep => ?_) ?_
          ·
            have d6 : (a.tmps[6]?).getD undef = (.pointer (some ⟨u7.heap.size + 1, 0, none⟩)) := hk 6 (by kernel_rfl)
            refine step_val (.pointer (some ⟨u7.heap.size + 1, 0, none⟩)) u (wanted_plain rfl) ?_ rfl (Below.refl _ _)
            go_simp
          refine stepsL_cons (fun a u hc hd hk hdep => ?_) ?_
          ·
            have d48 : (a.tmps[48]?).getD undef = (.pointer (some ⟨u7.heap.size + 1, 0, none⟩)) := hdep ⟨0, .data⟩ (by simp) rfl
            refine step_val (.int .i64 (1)) u (wanted_plain rfl) ?_ rfl (Below.refl _ _)
            obtain ⟨s0, s1, s2, s3, s4⟩ := hc
            go_simp
          refine stepsL_cons (fun a u hc hd hk hdep => ?_) ?_
          ·
            have d49 : (a.tmps[49]?).getD undef = (.int .i64 (1)) := hdep ⟨1, .data⟩ (by simp) rfl
            refine step_val (.bool false) u (wanted_plain rfl) ?_ rfl (Below.refl _ _)
            go_simp
          refine stepsL_cons (fun a u hc hd hk hdep => ?_) ?_
          ·
            have d50 : (a.tmps[50]?).getD undef = (.bool false) := hdep ⟨2, .data⟩ (by simp) rfl
            refine step_val (.bool false) u (wanted_plain rfl) ?_ rfl (Below.refl _ _)
            first | (go_simp; done) | rfl
          refine stepsL_cons (fun a u hc hd hk hdep => ?_) ?_
          ·
            have d1 : (a.tmps[1]?).getD undef = (.int .i64 (0)) := hk 1 (by kernel_rfl)
            refine step_val (.int .i64 (0)) u ((wanted_guard (j := 3) (b := false) (c := false) rfl (hdep ⟨3, .guard⟩ (by simp) rfl)).trans rfl) ?_ rfl (Below.refl _ _)
            first | (go_simp; done) | rfl
          refine stepsL_cons (fun a u hc hd hk hdep => ?_) ?_
          ·
            have d52 : (a.tmps[52]?).getD undef = (.int .i64 (0)) := hdep ⟨4, .data⟩ (by simp) rfl
            refine step_val (.bool true) u ((wanted_guard (j := 3) (b := false) (c := false) rfl (hdep ⟨3, .guard⟩ (by simp) rfl)).trans rfl) ?_ rfl (Below.refl _ _)
            go_simp
          refine stepsL_cons (fun a u hc hd hk hdep => ?_) ?_
          ·
            have d51 : (a.tmps[51]?).getD undef = (.bool false) := hdep ⟨3, .data⟩ (by simp) rfl
            have d53 : (a.tmps[53]?).getD undef = (.bool true) := hdep ⟨5, .data⟩ (by simp) rfl
            refine step_val (.bool true) u (wanted_plain rfl) ?_ rfl (Below.refl _ _)
            first | (go_simp; done) | rfl
          refine stepsL_cons (fun a u hc hd hk hdep => ?_) ?_
          ·
            have d54 : (a.tmps[54]?).getD undef = (.bool true) := hdep ⟨6, .data⟩ (by simp) rfl
            refine step_val (.bool true) u (wanted_plain rfl) ?_ rfl (Below.refl _ _)
            first | (go_simp; done) | rfl
          refine stepsL_cons (fun a u hc hd hk hdep => ?_) ?_
          · exact step_skip ((wanted_guard (j := 7) (b := false) (c := true) rfl (hdep ⟨7, .guard⟩ (by simp) rfl)).trans rfl) rfl
          refine stepsL_cons (fun a u hc hd hk hdep => ?_) ?_
          · exact step_skip ((wanted_guard (j := 7) (b := false) (c := true) rfl (hdep ⟨7, .guard⟩ (by simp) rfl)).trans rfl) rfl
          refine stepsL_cons (fun a u hc hd hk hdep => ?_) ?_
          · exact step_skip ((wanted_guard (j := 7) (b := false) (c := true) rfl (hdep ⟨7, .chain⟩ (by simp) rfl)).trans rfl) rfl
          refine stepsL_cons (fun a u hc hd hk hdep => ?_) ?_
          · exact step_skip ((wanted_guard (j := 7) (b := false) (c := true) rfl (hdep ⟨7, .guard⟩ (by simp) rfl)).trans rfl) rfl
          refine stepsL_cons (fun a u hc hd hk hdep => ?_) ?_
          · exact step_skip ((wanted_guard (j := 7) (b := false) (c := true) rfl (hdep ⟨7, .guard⟩ (by simp) rfl)).trans rfl) rfl
          refine stepsL_cons (fun a u hc hd hk hdep => ?_) ?_
          · exact step_skip ((wanted_guard (j := 7) (b := false) (c := true) rfl (hdep ⟨7, .guard⟩ (by simp) rfl)).trans rfl) rfl
          refine stepsL_cons (fun a u hc hd hk hdep => ?_) ?_
          · exact step_skip ((wanted_guard (j := 7) (b := false) (c := true) rfl (hdep ⟨7, .guard⟩ (by simp) rfl)).trans rfl) rfl
          refine stepsL_cons (fun a u hc hd hk hdep => ?_) ?_
          · exact step_skip ((wanted_guard (j := 7) (b := false) (c := true) rfl (hdep ⟨7, .guard⟩ (by simp) rfl)).trans rfl) rfl
          refine stepsL_cons (fun a u hc hd hk hdep => ?_) ?_
          · exact step_skip ((wanted_guard (j := 7) (b := false) (c := true) rfl (hdep ⟨7, .guard⟩ (by simp) rfl)).trans rfl) rfl
          refine stepsL_cons (fun a u hc hd hk hdep => ?_) ?_
          · exact step_skip (wanted_undef (j := 16) (b := true) rfl (hdep ⟨16, .guard⟩ (by simp) rfl)) rfl
          refine stepsL_cons (fun a u hc hd hk hdep => ?_) ?_
          · exact step_skip (wanted_undef (j := 16) (b := true) rfl (hdep ⟨16, .guard⟩ (by simp) rfl)) rfl
          refine stepsL_cons (fun a u hc hd hk hdep => ?_) ?_
          · exact step_skip (wanted_undef (j := 16) (b := true) rfl (hdep ⟨16, .chain⟩ (by simp) rfl)) rfl
          refine stepsL_cons (fun a u hc hd hk hdep => ?_) ?_
          · exact step_skip (wanted_undef (j := 16) (b := true) rfl (hdep ⟨16, .guard⟩ (by simp) rfl)) rfl
          refine stepsL_cons (fun a u hc hd hk hdep => ?_) ?_
          · exact step_skip (wanted_undef (j := 16) (b := true) rfl (hdep ⟨16, .guard⟩ (by simp) rfl)) rfl
          refine stepsL_cons (fun a u hc hd hk hdep => ?_) ?_
          · exact step_skip (wanted_undef (j := 16) (b := true) rfl (hdep ⟨16, .guard⟩ (by simp) rfl)) rfl
          refine stepsL_cons (fun a u hc hd hk hdep => ?_) ?_
          · exact step_skip (wanted_undef (j := 16) (b := true) rfl (hdep ⟨16, .guard⟩ (by simp) rfl)) rfl
          refine stepsL_cons (fun a u hc hd hk hdep => ?_) ?_
          · exact step_skip ((wanted_guard (j := 7) (b := false) (c := true) rfl (hdep ⟨7, .guard⟩ (by simp) rfl)).trans rfl) rfl
          refine stepsL_cons (fun a u hc hd hk hdep => ?_) ?_
          ·
            have d55 : (a.tmps[55]?).getD undef = (.bool true) := hdep ⟨7, .data⟩ (by simp) rfl
            have d72 : (a.tmps[72]?).getD undef = undef := hdep ⟨24, .data⟩ (by simp) rfl
            refine step_val (.bool true) u (wanted_plain rfl) ?_ rfl (Below.refl _ _)
            first | (go_simp; done) | rfl
          refine stepsL_cons (fun a u hc hd hk hdep => ?_) ?_
          ·
            have d73 : (a.tmps[73]?).getD undef = (.bool true) := hdep ⟨25, .data⟩ (by simp) rfl
            refine step_val (.bool true) u (wanted_plain rfl) ?_ rfl (Below.refl _ _)
            first | (go_simp; done) | rfl
          exact stepsL_nil
        intro vs wN2 hN hh
        obtain ⟨e0, e1, e2, e3, e4, e5, e6, e7, e8, e9, e10, e11, e12, e13, e14, e15, e16, e17, e18, e19, e20, e21, e22, e23, e24, e25, e26, -⟩ := hh
        have eL : vs 26 = (.bool true) := e26
        clear e0 e1 e2 e3 e4 e5 e6 e7 e8 e9 e10 e11 e12 e13 e14 e15 e16 e17 e18 e19 e20 e21 e22 e23 e24 e25 e26
        simp only [putAll, Act.put, List.setIfInBounds_toArray, List.set_cons_zero, List.set_cons_succ, eL]
        obtain ⟨s0, s1, s2, s3, hB2⟩ := hN
        go_wp2
        go_ret
        exact ⟨rfl, hB2⟩
      · have f0 : (a1 == 0) = false := by simpa using z0
        obtain ⟨hz6, h4, h5⟩ := hmul.out z6 z0 rfl
        have D4 := Lib.hid (fun A cap w hv => do_i 4 z6 a1 A cap w hz6 B0.out hv (by decide) (by decide))
        rw [h4] at D4
        have D5 := Lib.hid (fun A cap w hv => do_i 5 z6 a1 A cap w hz6 B0.out hv (by decide) (by decide))
        rw [h5] at D5
        simp only [resK, resN] at D4 D5
        clear z0 hz6 h4 h5
        go_wp2_with fail
        refine region_words (fun w' => w'.cell? ⟨u7.heap.size, 0, none⟩ = some (.int .i64 (0)) ∧ w'.cell? ⟨u7.heap.size, 1, none⟩ = some (.int .u64 ((0 : Nat) : Int)) ∧ w'.cell? ⟨u7.heap.size + 1, 0, none⟩ = some (.int .i64 (1)) ∧ w'.cell? ⟨u7.heap.size + 1, 1, none⟩ = some (.int .u64 ((nb z6 : Nat) : Int)) ∧ Below w.heap.size w w') [isW (.pointer (some ⟨u7.heap.size + 1, 0, none⟩)), isW (.int .i64 (1)), isW (.bool false), isW (.bool false), isW (.int .i64 (a1)), isW (.bool false), isW (.bool false), isW (.bool false), isW (.agg #[.int .i64 (1), .int .u64 ((nb z6 : Nat) : Int)]), isW (.int .i64 (a1)), isW (.agg #[.int .i64 (1), .int .u64 ((nb a1 : Nat) : Int)]), rowW [(1, nb z6), (1, nb a1)], isW (.agg #[.int .i64 (1), .int .u64 ((nb a0 : Nat) : Int)]), isW (.int .i64 (a0)), isW (.agg #[.int .i64 (1), .int .u64 ((nb a0 : Nat) : Int)]), isW (.bool true), isW (.bool true), isW (.agg #[.int .i64 (1), .int .u64 ((nb z6 : Nat) : Int)]), isW (.int .i64 (a1)), isW (.agg #[.int .i64 (1), .int .u64 ((nb a1 : Nat) : Int)]), rowW [(1, nb z6), (1, nb a1)], isW (.agg #[.int .i64 (1), .int .u64 ((nb 0 : Nat) : Int)]), isW (.agg #[.int .i64 (1), .int .u64 ((nb 0 : Nat) : Int)]), isW (.bool true), isW (.bool true), isW (.bool true), isW (.bool true)] (by kernel_rfl) (by repeat' (first | exact monoL_nil | exact is_mono _ | exact row_mono _ | exact any_mono | refine monoL_cons ?_ ?_)) (by kernel_rfl) (by kernel_rfl) (fun _ _ h hb => keepF hb h) (⟨s0, s1, s2, s3, hB1.drew⟩) ?_ ?_
        · refine stepsL_cons (fun a u hc hd hk hdep => ?_) ?_
          ·
            have d6 : (a.tmps[6]?).getD undef = (.pointer (some ⟨u7.heap.size + 1, 0, none⟩)) := hk 6 (by kernel_rfl)
            refine step_val (.pointer (some ⟨u7.heap.size + 1, 0, none⟩)) u (wanted_plain rfl) ?_ rfl (Below.refl _ _)
            go_simp
          refine stepsL_cons (fun a u hc hd hk hdep => ?_) ?_
          ·
            have d48 : (a.tmps[48]?).getD undef = (.pointer (some ⟨u7.heap.size + 1, 0, none⟩)) := hdep ⟨0, .data⟩ (by simp) rfl
            refine step_val (.int .i64 (1)) u (wanted_plain rfl) ?_ rfl (Below.refl _ _)
            obtain ⟨s0, s1, s2, s3, s4⟩ := hc
            go_simp
          refine stepsL_cons (fun a u hc hd hk hdep => ?_) ?_
          ·
            have d49 : (a.tmps[49]?).getD undef = (.int .i64 (1)) := hdep ⟨1, .data⟩ (by simp) rfl
            refine step_val (.bool false) u (wanted_plain rfl) ?_ rfl (Below.refl _ _)
            go_simp
          refine stepsL_cons (fun a u hc hd hk hdep => ?_) ?_
          ·
            have d50 : (a.tmps[50]?).getD undef = (.bool false) := hdep ⟨2, .data⟩ (by simp) rfl
            refine step_val (.bool false) u (wanted_plain rfl) ?_ rfl (Below.refl _ _)
            first | (go_simp; done) | rfl
          refine stepsL_cons (fun a u hc hd hk hdep => ?_) ?_
          ·
            have d1 : (a.tmps[1]?).getD undef = (.int .i64 (a1)) := hk 1 (by kernel_rfl)
            refine step_val (.int .i64 (a1)) u ((wanted_guard (j := 3) (b := false) (c := false) rfl (hdep ⟨3, .guard⟩ (by simp) rfl)).trans rfl) ?_ rfl (Below.refl _ _)
            first | (go_simp; done) | rfl
          refine stepsL_cons (fun a u hc hd hk hdep => ?_) ?_
          ·
            have d52 : (a.tmps[52]?).getD undef = (.int .i64 (a1)) := hdep ⟨4, .data⟩ (by simp) rfl
            refine step_val (.bool false) u ((wanted_guard (j := 3) (b := false) (c := false) rfl (hdep ⟨3, .guard⟩ (by simp) rfl)).trans rfl) ?_ rfl (Below.refl _ _)
            go_simp
          refine stepsL_cons (fun a u hc hd hk hdep => ?_) ?_
          ·
            have d51 : (a.tmps[51]?).getD undef = (.bool false) := hdep ⟨3, .data⟩ (by simp) rfl
            have d53 : (a.tmps[53]?).getD undef = (.bool false) := hdep ⟨5, .data⟩ (by simp) rfl
            refine step_val (.bool false) u (wanted_plain rfl) ?_ rfl (Below.refl _ _)
            first | (go_simp; done) | rfl
          refine stepsL_cons (fun a u hc hd hk hdep => ?_) ?_
          ·
            have d54 : (a.tmps[54]?).getD undef = (.bool false) := hdep ⟨6, .data⟩ (by simp) rfl
            refine step_val (.bool false) u (wanted_plain rfl) ?_ rfl (Below.refl _ _)
            first | (go_simp; done) | rfl
          refine stepsL_cons (fun a u hc hd hk hdep => ?_) ?_
          ·
            have d6 : (a.tmps[6]?).getD undef = (.pointer (some ⟨u7.heap.size + 1, 0, none⟩)) := hk 6 (by kernel_rfl)
            refine step_val (.agg #[.int .i64 (1), .int .u64 ((nb z6 : Nat) : Int)]) u ((wanted_guard (j := 7) (b := false) (c := false) rfl (hdep ⟨7, .guard⟩ (by simp) rfl)).trans rfl) ?_ rfl (Below.refl _ _)
            obtain ⟨s0, s1, s2, s3, s4⟩ := hc
            go_simp
          refine stepsL_cons (fun a u hc hd hk hdep => ?_) ?_
          ·
            have d1 : (a.tmps[1]?).getD undef = (.int .i64 (a1)) := hk 1 (by kernel_rfl)
            refine step_val (.int .i64 (a1)) u ((wanted_guard (j := 7) (b := false) (c := false) rfl (hdep ⟨7, .guard⟩ (by simp) rfl)).trans rfl) ?_ rfl (Below.refl _ _)
            first | (go_simp; done) | rfl
          refine stepsL_cons (fun a u hc hd hk hdep => ?_) ?_
          ·
            have d57 : (a.tmps[57]?).getD undef = (.int .i64 (a1)) := hdep ⟨9, .data⟩ (by simp) rfl
            refine step_call 18 #[.int .i64 a1] ((wanted_guard (j := 7) (b := false) (c := false) rfl (hdep ⟨7, .chain⟩ (by simp) rfl)).trans rfl) (by go_simp) ?_
            exact (num_v a1 u).mono (by rintro e w' ⟨rfl, hb⟩; exact ⟨_, rfl, rfl, hb⟩)
          refine stepsL_cons (fun a u hc hd hk hdep => ?_) ?_
          ·
            have d56 : (a.tmps[56]?).getD undef = (.agg #[.int .i64 (1), .int .u64 ((nb z6 : Nat) : Int)]) := hdep ⟨8, .data⟩ (by simp) rfl
            have d58 : (a.tmps[58]?).getD undef = (.agg #[.int .i64 (1), .int .u64 ((nb a1 : Nat) : Int)]) := hdep ⟨10, .data⟩ (by simp) rfl
            refine step_val (.slice (some ⟨u.heap.size, 0, none⟩) 2 2) (u.alloc (.cells #[.int .i64 (1), .int .u64 ((nb z6 : Nat) : Int), .int .i64 (1), .int .u64 ((nb a1 : Nat) : Int)] 29)) ((wanted_guard (j := 7) (b := false) (c := false) rfl (hdep ⟨7, .guard⟩ (by simp) rfl)).trans rfl) ?_ ⟨_, 2, rfl, row_two (by first | exact nb_lt _ | decide) (by first | exact nb_lt _ | decide) (by simp) (by simp) (by simp) (by simp)⟩ (below1 _ _)
            go_simp
          refine stepsL_cons (fun a u hc hd hk hdep => ?_) ?_
          ·
            obtain ⟨A59, c59, d59, r59⟩ : rowW [(1, nb z6), (1, nb a1)] ((a.tmps[59]?).getD undef) u := hdep ⟨11, .data⟩ (by simp) rfl
            refine step_call 17 #[.int .i64 4, .slice A59 2 c59] ((wanted_guard (j := 7) (b := false) (c := false) rfl (hdep ⟨7, .guard⟩ (by simp) rfl)).trans rfl) (by go_simp) ?_
            exact (D4.out _ _ u r59).mono (by rintro e w' ⟨rfl, hb⟩; exact ⟨_, rfl, rfl, hb⟩)
          refine stepsL_cons (fun a u hc hd hk hdep => ?_) ?_
          ·
            have d0 : (a.tmps[0]?).getD undef = (.int .i64 (a0)) := hk 0 (by kernel_rfl)
            refine step_val (.int .i64 (a0)) u ((wanted_guard (j := 7) (b := false) (c := false) rfl (hdep ⟨7, .guard⟩ (by simp) rfl)).trans rfl) ?_ rfl (Below.refl _ _)
            first | (go_simp; done) | rfl
          refine stepsL_cons (fun a u hc hd hk hdep => ?_) ?_
          ·
            have d61 : (a.tmps[61]?).getD undef = (.int .i64 (a0)) := hdep ⟨13, .data⟩ (by simp) rfl
            refine step_call 18 #[.int .i64 a0] ((wanted_guard (j := 7) (b := false) (c := false) rfl (hdep ⟨7, .guard⟩ (by simp) rfl)).trans rfl) (by go_simp) ?_
            exact (num_v a0 u).mono (by rintro e w' ⟨rfl, hb⟩; exact ⟨_, rfl, rfl, hb⟩)
          refine stepsL_cons (fun a u hc hd hk hdep => ?_) ?_
          ·
            have d60 : (a.tmps[60]?).getD undef = (.agg #[.int .i64 (1), .int .u64 ((nb a0 : Nat) : Int)]) := hdep ⟨12, .data⟩ (by simp) rfl
            have d62 : (a.tmps[62]?).getD undef = (.agg #[.int .i64 (1), .int .u64 ((nb a0 : Nat) : Int)]) := hdep ⟨14, .data⟩ (by simp) rfl
            refine step_val (.bool true) u ((wanted_guard (j := 7) (b := false) (c := false) rfl (hdep ⟨7, .guard⟩ (by simp) rfl)).trans rfl) ?_ rfl (Below.refl _ _)
            go_simp
          refine stepsL_cons (fun a u hc hd hk hdep => ?_) ?_
          ·
            have d63 : (a.tmps[63]?).getD undef = (.bool true) := hdep ⟨15, .data⟩ (by simp) rfl
            refine step_val (.bool true) u ((wanted_guard (j := 7) (b := false) (c := false) rfl (hdep ⟨7, .guard⟩ (by simp) rfl)).trans rfl) ?_ rfl (Below.refl _ _)
            first | (go_simp; done) | rfl
          refine stepsL_cons (fun a u hc hd hk hdep => ?_) ?_
          ·
            have d6 : (a.tmps[6]?).getD undef = (.pointer (some ⟨u7.heap.size + 1, 0, none⟩)) := hk 6 (by kernel_rfl)
            refine step_val (.agg #[.int .i64 (1), .int .u64 ((nb z6 : Nat) : Int)]) u ((wanted_guard (j := 16) (b := true) (c := true) rfl (hdep ⟨16, .guard⟩ (by simp) rfl)).trans rfl) ?_ rfl (Below.refl _ _)
            obtain ⟨s0, s1, s2, s3, s4⟩ := hc
            go_simp
          refine stepsL_cons (fun a u hc hd hk hdep => ?_) ?_
          ·
            have d1 : (a.tmps[1]?).getD undef = (.int .i64 (a1)) := hk 1 (by kernel_rfl)
            refine step_val (.int .i64 (a1)) u ((wanted_guard (j := 16) (b := true) (c := true) rfl (hdep ⟨16, .guard⟩ (by simp) rfl)).trans rfl) ?_ rfl (Below.refl _ _)
            first | (go_simp; done) | rfl
          refine stepsL_cons (fun a u hc hd hk hdep => ?_) ?_
          ·
            have d66 : (a.tmps[66]?).getD undef = (.int .i64 (a1)) := hdep ⟨18, .data⟩ (by simp) rfl
            refine step_call 18 #[.int .i64 a1] ((wanted_guard (j := 16) (b := true) (c := true) rfl (hdep ⟨16, .chain⟩ (by simp) rfl)).trans rfl) (by go_simp) ?_
            exact (num_v a1 u).mono (by rintro e w' ⟨rfl, hb⟩; exact ⟨_, rfl, rfl, hb⟩)
          refine stepsL_cons (fun a u hc hd hk hdep => ?_) ?_
          ·
            have d65 : (a.tmps[65]?).getD undef = (.agg #[.int .i64 (1), .int .u64 ((nb z6 : Nat) : Int)]) := hdep ⟨17, .data⟩ (by simp) rfl
            have d67 : (a.tmps[67]?).getD undef = (.agg #[.int .i64 (1), .int .u64 ((nb a1 : Nat) : Int)]) := hdep ⟨19, .data⟩ (by simp) rfl
            refine step_val (.slice (some ⟨u.heap.size, 0, none⟩) 2 2) (u.alloc (.cells #[.int .i64 (1), .int .u64 ((nb z6 : Nat) : Int), .int .i64 (1), .int .u64 ((nb a1 : Nat) : Int)] 29)) ((wanted_guard (j := 16) (b := true) (c := true) rfl (hdep ⟨16, .guard⟩ (by simp) rfl)).trans rfl) ?_ ⟨_, 2, rfl, row_two (by first | exact nb_lt _ | decide) (by first | exact nb_lt _ | decide) (by simp) (by simp) (by simp) (by simp)⟩ (below1 _ _)
            go_simp
          refine stepsL_cons (fun a u hc hd hk hdep => ?_) ?_
          ·
            obtain ⟨A68, c68, d68, r68⟩ : rowW [(1, nb z6), (1, nb a1)] ((a.tmps[68]?).getD undef) u := hdep ⟨20, .data⟩ (by simp) rfl
            refine step_call 17 #[.int .i64 5, .slice A68 2 c68] ((wanted_guard (j := 16) (b := true) (c := true) rfl (hdep ⟨16, .guard⟩ (by simp) rfl)).trans rfl) (by go_simp) ?_
            exact (D5.out _ _ u r68).mono (by rintro e w' ⟨rfl, hb⟩; exact ⟨_, rfl, rfl, hb⟩)
          refine stepsL_cons (fun a u hc hd hk hdep => ?_) ?_
          ·
            refine step_call 18 #[.int .i64 0] ((wanted_guard (j := 16) (b := true) (c := true) rfl (hdep ⟨16, .guard⟩ (by simp) rfl)).trans rfl) (by go_simp) ?_
            exact (num_v 0 u).mono (by rintro e w' ⟨rfl, hb⟩; exact ⟨_, rfl, rfl, hb⟩)
          refine stepsL_cons (fun a u hc hd hk hdep => ?_) ?_
          ·
            have d69 : (a.tmps[69]?).getD undef = (.agg #[.int .i64 (1), .int .u64 ((nb 0 : Nat) : Int)]) := hdep ⟨21, .data⟩ (by simp) rfl
            have d70 : (a.tmps[70]?).getD undef = (.agg #[.int .i64 (1), .int .u64 ((nb 0 : Nat) : Int)]) := hdep ⟨22, .data⟩ (by simp) rfl
            refine step_val (.bool true) u ((wanted_guard (j := 16) (b := true) (c := true) rfl (hdep ⟨16, .guard⟩ (by simp) rfl)).trans rfl) ?_ rfl (Below.refl _ _)
            go_simp
          refine stepsL_cons (fun a u hc hd hk hdep => ?_) ?_
          ·
            have d64 : (a.tmps[64]?).getD undef = (.bool true) := hdep ⟨16, .data⟩ (by simp) rfl
            have d71 : (a.tmps[71]?).getD undef = (.bool true) := hdep ⟨23, .data⟩ (by simp) rfl
            refine step_val (.bool true) u ((wanted_guard (j := 7) (b := false) (c := false) rfl (hdep ⟨7, .guard⟩ (by simp) rfl)).trans rfl) ?_ rfl (Below.refl _ _)
            first | (go_simp; done) | rfl
          refine stepsL_cons (fun a u hc hd hk hdep => ?_) ?_
          ·
            have d55 : (a.tmps[55]?).getD undef = (.bool false) := hdep ⟨7, .data⟩ (by simp) rfl
            have d72 : (a.tmps[72]?).getD undef = (.bool true) := hdep ⟨24, .data⟩ (by simp) rfl
            refine step_val (.bool true) u (wanted_plain rfl) ?_ rfl (Below.refl _ _)
            first | (go_simp; done) | rfl
          refine stepsL_cons (fun a u hc hd hk hdep => ?_) ?_
          ·
            have d73 : (a.tmps[73]?).getD undef = (.bool true) := hdep ⟨25, .data⟩ (by simp) rfl
            refine step_val (.bool true) u (wanted_plain rfl) ?_ rfl (Below.refl _ _)
            first | (go_simp; done) | rfl
          exact stepsL_nil
        intro vs wN2 hN hh
        obtain ⟨e0, e1, e2, e3, e4, e5, e6, e7, e8, e9, e10, e11, e12, e13, e14, e15, e16, e17, e18, e19, e20, e21, e22, e23, e24, e25, e26, -⟩ := hh
        have eL : vs 26 = (.bool true) := e26
        clear e0 e1 e2 e3 e4 e5 e6 e7 e8 e9 e10 e11 e12 e13 e14 e15 e16 e17 e18 e19 e20 e21 e22 e23 e24 e25 e26
        simp only [putAll, Act.put, List.setIfInBounds_toArray, List.set_cons_zero, List.set_cons_succ, eL]
        obtain ⟨s0, s1, s2, s3, hB2⟩ := hN
        go_wp2
        go_ret
        exact ⟨rfl, hB2⟩
  · obtain ⟨hz, h2⟩ := hadd z rfl
    have D2 := Lib.hid (fun A cap w hv => do_i 2 z a1 A cap w hz B0.out hv (by decide) (by decide))
    rw [h2] at D2
    clear hadd hz h2
    simp only [resK, resN] at D2 ⊢
    go_wp2_with fail
    refine region_words (fun w' => w'.cell? ⟨u7.heap.size, 0, none⟩ = some (.int .i64 (1)) ∧ w'.cell? ⟨u7.heap.size, 1, none⟩ = some (.int .u64 ((nb z : Nat) : Int)) ∧ w'.cell? ⟨u7.heap.size + 1, 0, none⟩ = some (.int .i64 (pk)) ∧ w'.cell? ⟨u7.heap.size + 1, 1, none⟩ = some (.int .u64 ((pn : Nat) : Int)) ∧ Below w.heap.size w w') [isW (.pointer (some ⟨u7.heap.size, 0, none⟩)), isW (.int .i64 (1)), isW (.bool true), isW (.bool true), isW (.agg #[.int .i64 (1), .int .u64 ((nb z : Nat) : Int)]), isW (.int .i64 (a1)), isW (.agg #[.int .i64 (1), .int .u64 ((nb a1 : Nat) : Int)]), rowW [(1, nb z), (1, nb a1)], isW (.agg #[.int .i64 (1), .int .u64 ((nb a0 : Nat) : Int)]), isW (.int .i64 (a0)), isW (.agg #[.int .i64 (1), .int .u64 ((nb a0 : Nat) : Int)]), isW (.bool false), isW (.bool false), isW (.bool false), isW (.pointer (some ⟨u7.heap.size, 0, none⟩)), isW (.int .i64 (1)), isW (.bool false), isW (.bool false), isW undef, isW undef, isW undef, isW undef, isW undef, isW undef, isW undef, isW (.bool false), isW (.bool false)] (by kernel_rfl) (by repeat' (first | exact monoL_nil | exact is_mono _ | exact row_mono _ | exact any_mono | refine monoL_cons ?_ ?_)) (by kernel_rfl) (by kernel_rfl) (fun _ _ h hb => keepF hb h) (⟨by simp [go_sem], by simp [go_sem], by simp [go_sem], by simp [go_sem], ((hB.alloc hB.size _).alloc (by simp; have := hB.size; omega) _).drew⟩) ?_ ?_
    · refine stepsL_cons (fun a u hc hd hk hdep => ?_) ?_
      ·
        have d5 : (a.tmps[5]?).getD undef = (.pointer (some ⟨u7.heap.size, 0, none⟩)) := hk 5 (by kernel_rfl)
        refine step_val (.pointer (some ⟨u7.heap.size, 0, none⟩)) u (wanted_plain rfl) ?_ rfl (Below.refl _ _)
        go_simp
      refine stepsL_cons (fun a u hc hd hk hdep => ?_) ?_
      ·
        have d21 : (a.tmps[21]?).getD undef = (.pointer (some ⟨u7.heap.size, 0, none⟩)) := hdep ⟨0, .data⟩ (by simp) rfl
        refine step_val (.int .i64 (1)) u (wanted_plain rfl) ?_ rfl (Below.refl _ _)
        obtain ⟨s0, s1, s2, s3, s4⟩ := hc
        go_simp
      refine stepsL_cons (fun a u hc hd hk hdep => ?_) ?_
      ·
        have d22 : (a.tmps[22]?).getD undef = (.int .i64 (1)) := hdep ⟨1, .data⟩ (by simp) rfl
        refine step_val (.bool true) u (wanted_plain rfl) ?_ rfl (Below.refl _ _)
        go_simp
      refine stepsL_cons (fun a u hc hd hk hdep => ?_) ?_
      ·
        have d23 : (a.tmps[23]?).getD undef = (.bool true) := hdep ⟨2, .data⟩ (by simp) rfl
        refine step_val (.bool true) u (wanted_plain rfl) ?_ rfl (Below.refl _ _)
        first | (go_simp; done) | rfl
      refine stepsL_cons (fun a u hc hd hk hdep => ?_) ?_
      ·
        have d5 : (a.tmps[5]?).getD undef = (.pointer (some ⟨u7.heap.size, 0, none⟩)) := hk 5 (by kernel_rfl)
        refine step_val (.agg #[.int .i64 (1), .int .u64 ((nb z : Nat) : Int)]) u ((wanted_guard (j := 3) (b := true) (c := true) rfl (hdep ⟨3, .guard⟩ (by simp) rfl)).trans rfl) ?_ rfl (Below.refl _ _)
        obtain ⟨s0, s1, s2, s3, s4⟩ := hc
        go_simp
      refine stepsL_cons (fun a u hc hd hk hdep => ?_) ?_
      ·
        have d1 : (a.tmps[1]?).getD undef = (.int .i64 (a1)) := hk 1 (by kernel_rfl)
        refine step_val (.int .i64 (a1)) u ((wanted_guard (j := 3) (b := true) (c := true) rfl (hdep ⟨3, .guard⟩ (by simp) rfl)).trans rfl) ?_ rfl (Below.refl _ _)
        first | (go_simp; done) | rfl
      refine stepsL_cons (fun a u hc hd hk hdep => ?_) ?_
      ·
        have d26 : (a.tmps[26]?).getD undef = (.int .i64 (a1)) := hdep ⟨5, .data⟩ (by simp) rfl
        refine step_call 18 #[.int .i64 a1] ((wanted_guard (j := 3) (b := true) (c := true) rfl (hdep ⟨3, .chain⟩ (by simp) rfl)).trans rfl) (by go_simp) ?_
        exact (num_v a1 u).mono (by rintro e w' ⟨rfl, hb⟩; exact ⟨_, rfl, rfl, hb⟩)
      refine stepsL_cons (fun a u hc hd hk hdep => ?_) ?_
      ·
        have d25 : (a.tmps[25]?).getD undef = (.agg #[.int .i64 (1), .int .u64 ((nb z : Nat) : Int)]) := hdep ⟨4, .data⟩ (by simp) rfl
        have d27 : (a.tmps[27]?).getD undef = (.agg #[.int .i64 (1), .int .u64 ((nb a1 : Nat) : Int)]) := hdep ⟨6, .data⟩ (by simp) rfl
        refine step_val (.slice (some ⟨u.heap.size, 0, none⟩) 2 2) (u.alloc (.cells #[.int .i64 (1), .int .u64 ((nb z : Nat) : Int), .int .i64 (1), .int .u64 ((nb a1 : Nat) : Int)] 29)) ((wanted_guard (j := 3) (b := true) (c := true) rfl (hdep ⟨3, .guard⟩ (by simp) rfl)).trans rfl) ?_ ⟨_, 2, rfl, row_two (by first | exact nb_lt _ | decide) (by first | exact nb_lt _ | decide) (by simp) (by simp) (by simp) (by simp)⟩ (below1 _ _)
        go_simp
      refine stepsL_cons (fun a u hc hd hk hdep => ?_) ?_
      ·
        obtain ⟨A28, c28, d28, r28⟩ : rowW [(1, nb z), (1, nb a1)] ((a.tmps[28]?).getD undef) u := hdep ⟨7, .data⟩ (by simp) rfl
        refine step_call 17 #[.int .i64 2, .slice A28 2 c28] ((wanted_guard (j := 3) (b := true) (c := true) rfl (hdep ⟨3, .guard⟩ (by simp) rfl)).trans rfl) (by go_simp) ?_
        exact (D2.out _ _ u r28).mono (by rintro e w' ⟨rfl, hb⟩; exact ⟨_, rfl, rfl, hb⟩)
      refine stepsL_cons (fun a u hc hd hk hdep => ?_) ?_
      ·
        have d0 : (a.tmps[0]?).getD undef = (.int .i64 (a0)) := hk 0 (by kernel_rfl)
        refine step_val (.int .i64 (a0)) u ((wanted_guard (j := 3) (b := true) (c := true) rfl (hdep ⟨3, .guard⟩ (by simp) rfl)).trans rfl) ?_ rfl (Below.refl _ _)
        first | (go_simp; done) | rfl
      refine stepsL_cons (fun a u hc hd hk hdep => ?_) ?_
      ·
        have d30 : (a.tmps[30]?).getD undef = (.int .i64 (a0)) := hdep ⟨9, .data⟩ (by simp) rfl
        refine step_call 18 #[.int .i64 a0] ((wanted_guard (j := 3) (b := true) (c := true) rfl (hdep ⟨3, .guard⟩ (by simp) rfl)).trans rfl) (by go_simp) ?_
        exact (num_v a0 u).mono (by rintro e w' ⟨rfl, hb⟩; exact ⟨_, rfl, rfl, hb⟩)
      refine stepsL_cons (fun a u hc hd hk hdep => ?_) ?_
      ·
        have d29 : (a.tmps[29]?).getD undef = (.agg #[.int .i64 (1), .int .u64 ((nb a0 : Nat) : Int)]) := hdep ⟨8, .data⟩ (by simp) rfl
        have d31 : (a.tmps[31]?).getD undef = (.agg #[.int .i64 (1), .int .u64 ((nb a0 : Nat) : Int)]) := hdep ⟨10, .data⟩ (by simp) rfl
        refine step_val (.bool false) u ((wanted_guard (j := 3) (b := true) (c := true) rfl (hdep ⟨3, .guard⟩ (by simp) rfl)).trans rfl) ?_ rfl (Below.refl _ _)
        go_simp
      refine stepsL_cons (fun a u hc hd hk hdep => ?_) ?_
      ·
        have d24 : (a.tmps[24]?).getD undef = (.bool true) := hdep ⟨3, .data⟩ (by simp) rfl
        have d32 : (a.tmps[32]?).getD undef = (.bool false) := hdep ⟨11, .data⟩ (by simp) rfl
        refine step_val (.bool false) u (wanted_plain rfl) ?_ rfl (Below.refl _ _)
        first | (go_simp; done) | rfl
      refine stepsL_cons (fun a u hc hd hk hdep => ?_) ?_
      ·
        have d33 : (a.tmps[33]?).getD undef = (.bool false) := hdep ⟨12, .data⟩ (by simp) rfl
        refine step_val (.bool false) u (wanted_plain rfl) ?_ rfl (Below.refl _ _)
        first | (go_simp; done) | rfl
      refine stepsL_cons (fun a u hc hd hk hdep => ?_) ?_
      ·
        have d5 : (a.tmps[5]?).getD undef = (.pointer (some ⟨u7.heap.size, 0, none⟩)) := hk 5 (by kernel_rfl)
        refine step_val (.pointer (some ⟨u7.heap.size, 0, none⟩)) u ((wanted_guard (j := 13) (b := false) (c := false) rfl (hdep ⟨13, .guard⟩ (by simp) rfl)).trans rfl) ?_ rfl (Below.refl _ _)
        go_simp
      refine stepsL_cons (fun a u hc hd hk hdep => ?_) ?_
      ·
        have d35 : (a.tmps[35]?).getD undef = (.pointer (some ⟨u7.heap.size, 0, none⟩)) := hdep ⟨14, .data⟩ (by simp) rfl
        refine step_val (.int .i64 (1)) u ((wanted_guard (j := 13) (b := false) (c := false) rfl (hdep ⟨13, .guard⟩ (by simp) rfl)).trans rfl) ?_ rfl (Below.refl _ _)
        obtain ⟨s0, s1, s2, s3, s4⟩ := hc
        go_simp
      refine stepsL_cons (fun a u hc hd hk hdep => ?_) ?_
      ·
        have d36 : (a.tmps[36]?).getD undef = (.int .i64 (1)) := hdep ⟨15, .data⟩ (by simp) rfl
        refine step_val (.bool false) u ((wanted_guard (j := 13) (b := false) (c := false) rfl (hdep ⟨13, .guard⟩ (by simp) rfl)).trans rfl) ?_ rfl (Below.refl _ _)
        go_simp
      refine stepsL_cons (fun a u hc hd hk hdep => ?_) ?_
      ·
        have d37 : (a.tmps[37]?).getD undef = (.bool false) := hdep ⟨16, .data⟩ (by simp) rfl
        refine step_val (.bool false) u ((wanted_guard (j := 13) (b := false) (c := false) rfl (hdep ⟨13, .chain⟩ (by simp) rfl)).trans rfl) ?_ rfl (Below.refl _ _)
        first | (go_simp; done) | rfl
      refine stepsL_cons (fun a u hc hd hk hdep => ?_) ?_
      · exact step_skip ((wanted_guard (j := 17) (b := true) (c := false) rfl (hdep ⟨17, .guard⟩ (by simp) rfl)).trans rfl) rfl
      refine stepsL_cons (fun a u hc hd hk hdep => ?_) ?_
      · exact step_skip ((wanted_guard (j := 17) (b := true) (c := false) rfl (hdep ⟨17, .guard⟩ (by simp) rfl)).trans rfl) rfl
      refine stepsL_cons (fun a u hc hd hk hdep => ?_) ?_
      · exact step_skip ((wanted_guard (j := 17) (b := true) (c := false) rfl (hdep ⟨17, .chain⟩ (by simp) rfl)).trans rfl) rfl
      refine stepsL_cons (fun a u hc hd hk hdep => ?_) ?_
      · exact step_skip ((wanted_guard (j := 17) (b := true) (c := false) rfl (hdep ⟨17, .guard⟩ (by simp) rfl)).trans rfl) rfl
      refine stepsL_cons (fun a u hc hd hk hdep => ?_) ?_
      · exact step_skip ((wanted_guard (j := 17) (b := true) (c := false) rfl (hdep ⟨17, .guard⟩ (by simp) rfl)).trans rfl) rfl
      refine stepsL_cons (fun a u hc hd hk hdep => ?_) ?_
      · exact step_skip ((wanted_guard (j := 17) (b := true) (c := false) rfl (hdep ⟨17, .guard⟩ (by simp) rfl)).trans rfl) rfl
      refine stepsL_cons (fun a u hc hd hk hdep => ?_) ?_
      · exact step_skip ((wanted_guard (j := 17) (b := true) (c := false) rfl (hdep ⟨17, .guard⟩ (by simp) rfl)).trans rfl) rfl
      refine stepsL_cons (fun a u hc hd hk hdep => ?_) ?_
      ·
        have d38 : (a.tmps[38]?).getD undef = (.bool false) := hdep ⟨17, .data⟩ (by simp) rfl
        have d45 : (a.tmps[45]?).getD undef = undef := hdep ⟨24, .data⟩ (by simp) rfl
        refine step_val (.bool false) u ((wanted_guard (j := 13) (b := false) (c := false) rfl (hdep ⟨13, .guard⟩ (by simp) rfl)).trans rfl) ?_ rfl (Below.refl _ _)
        first | (go_simp; done) | rfl
      refine stepsL_cons (fun a u hc hd hk hdep => ?_) ?_
      ·
        have d34 : (a.tmps[34]?).getD undef = (.bool false) := hdep ⟨13, .data⟩ (by simp) rfl
        have d46 : (a.tmps[46]?).getD undef = (.bool false) := hdep ⟨25, .data⟩ (by simp) rfl
        refine step_val (.bool false) u (wanted_plain rfl) ?_ rfl (Below.refl _ _)
        first | (go_simp; done) | rfl
      exact stepsL_nil
    intro vs wN1 hN hh
    obtain ⟨e0, e1, e2, e3, e4, e5, e6, e7, e8, e9, e10, e11, e12, e13, e14, e15, e16, e17, e18, e19, e20, e21, e22, e23, e24, e25, e26, -⟩ := hh
    have eL : vs 26 = (.bool false) := e26
    clear e0 e1 e2 e3 e4 e5 e6 e7 e8 e9 e10 e11 e12 e13 e14 e15 e16 e17 e18 e19 e20 e21 e22 e23 e24 e25 e26
    simp only [putAll, Act.put, List.setIfInBounds_toArray, List.set_cons_zero, List.set_cons_succ, eL]
    obtain ⟨s0, s1, s2, s3, hB1⟩ := hN
    rcases hp.out with ⟨rfl, rfl, rfl⟩ | ⟨z6, rfl, rfl, rfl⟩
    · skip
      go_wp2_with fail
      refine region_words (fun w' => w'.cell? ⟨u7.heap.size, 0, none⟩ = some (.int .i64 (1)) ∧ w'.cell? ⟨u7.heap.size, 1, none⟩ = some (.int .u64 ((nb z : Nat) : Int)) ∧ w'.cell? ⟨u7.heap.size + 1, 0, none⟩ = some (.int .i64 (0)) ∧ w'.cell? ⟨u7.heap.size + 1, 1, none⟩ = some (.int .u64 ((0 : Nat) : Int)) ∧ Below w.heap.size w w') [isW (.pointer (some ⟨u7.heap.size + 1, 0, none⟩)), isW (.int .i64 (0)), isW (.bool true), isW (.bool true), isW undef, isW undef, isW (.bool true), isW (.bool true), isW undef, isW undef, isW undef, isW undef, isW undef, isW undef, isW undef, isW undef, isW undef, isW undef, isW undef, isW undef, isW undef, isW undef, isW undef, isW undef, isW undef, isW (.bool true), isW (.bool true)] (by kernel_rfl) (by repeat' (first | exact monoL_nil | exact is_mono _ | exact row_mono _ | exact any_mono | refine monoL_cons ?_ ?_)) (by kernel_rfl) (by kernel_rfl) (fun _ _ h hb => keepF hb h) (⟨s0, s1, s2, s3, hB1.drew⟩) ?_ ?_
      · refine stepsL_cons (fun a u hc hd hk hdep => ?_) ?_
        ·
          have d6 : (a.tmps[6]?).getD undef = (.pointer (some ⟨u7.heap.size + 1, 0, none⟩)) := hk 6 (by kernel_rfl)
          refine step_val (.pointer (some ⟨u7.heap.size + 1, 0, none⟩)) u (wanted_plain rfl) ?_ rfl (Below.refl _ _)
          go_simp
        refine stepsL_cons (fun a u hc hd hk hdep => ?_) ?_
        ·
          have d48 : (a.tmps[48]?).getD undef = (.pointer (some ⟨u7.heap.size + 1, 0, none⟩)) := hdep ⟨0, .data⟩ (by simp) rfl
          refine step_val (.int .i64 (0)) u (wanted_plain rfl) ?_ rfl (Below.refl _ _)
          obtain ⟨s0, s1, s2, s3, s4⟩ := hc
          go_simp
        refine stepsL_cons (fun a u hc hd hk hdep => ?_) ?_
        ·
          have d49 : (a.tmps[49]?).getD undef = (.int .i64 (0)) := hdep ⟨1, .data⟩ (by simp) rfl
          refine step_val (.bool true) u (wanted_plain rfl) ?_ rfl (Below.refl _ _)
          go_simp
        refine stepsL_cons (fun a u hc hd hk hdep => ?_) ?_
        ·
          have d50 : (a.tmps[50]?).getD undef = (.bool true) := hdep ⟨2, .data⟩ (by simp) rfl
          refine step_val (.bool true) u (wanted_plain rfl) ?_ rfl (Below.refl _ _)
          first | (go_simp; done) | rfl
        refine stepsL_cons (fun a u hc hd hk hdep => ?_) ?_
        · exact step_skip ((wanted_guard (j := 3) (b := false) (c := true) rfl (hdep ⟨3, .guard⟩ (by simp) rfl)).trans rfl) rfl
        refine stepsL_cons (fun a u hc hd hk hdep => ?_) ?_
        · exact step_skip ((wanted_guard (j := 3) (b := false) (c := true) rfl (hdep ⟨3, .guard⟩ (by simp) rfl)).trans rfl) rfl
        refine stepsL_cons (fun a u hc hd hk hdep => ?_) ?_
        ·
          have d51 : (a.tmps[51]?).getD undef = (.bool true) := hdep ⟨3, .data⟩ (by simp) rfl
          have d53 : (a.tmps[53]?).getD undef = undef := hdep ⟨5, .data⟩ (by simp) rfl
          refine step_val (.bool true) u (wanted_plain rfl) ?_ rfl (Below.refl _ _)
          first | (go_simp; done) | rfl
        refine stepsL_cons (fun a u hc hd hk hdep => ?_) ?_
        ·
          have d54 : (a.tmps[54]?).getD undef = (.bool true) := hdep ⟨6, .data⟩ (by simp) rfl
          refine step_val (.bool true) u (wanted_plain rfl) ?_ rfl (Below.refl _ _)
          first | (go_simp; done) | rfl
        refine stepsL_cons (fun a u hc hd hk hdep => ?_) ?_
        · exact step_skip ((wanted_guard (j := 7) (b := false) (c := true) rfl (hdep ⟨7, .guard⟩ (by simp) rfl)).trans rfl) rfl
        refine stepsL_cons (fun a u hc hd hk hdep => ?_) ?_
        · exact step_skip ((wanted_guard (j := 7) (b := false) (c := true) rfl (hdep ⟨7, .guard⟩ (by simp) rfl)).trans rfl) rfl
        refine stepsL_cons (fun a u hc hd hk hdep => ?_) ?_
        · exact step_skip ((wanted_guard (j := 7) (b := false) (c := true) rfl (hdep ⟨7, .chain⟩ (by simp) rfl)).trans rfl) rfl
        refine stepsL_cons (fun a u hc hd hk hdep => ?_) ?_
        · exact step_skip ((wanted_guard (j := 7) (b := false) (c := true) rfl (hdep ⟨7, .guard⟩ (by simp) rfl)).trans rfl) rfl
        refine stepsL_cons (fun a u hc hd hk hdep => ?_) ?_
        · exact step_skip ((wanted_guard (j := 7) (b := false) (c := true) rfl (hdep ⟨7, .guard⟩ (by simp) rfl)).trans rfl) rfl
        refine stepsL_cons (fun a u hc hd hk hdep => ?_) ?_
        · exact step_skip ((wanted_guard (j := 7) (b := false) (c := true) rfl (hdep ⟨7, .guard⟩ (by simp) rfl)).trans rfl) rfl
        refine stepsL_cons (fun a u hc hd hk hdep => ?_) ?_
        · exact step_skip ((wanted_guard (j := 7) (b := false) (c := true) rfl (hdep ⟨7, .guard⟩ (by simp) rfl)).trans rfl) rfl
        refine stepsL_cons (fun a u hc hd hk hdep => ?_) ?_
        · exact step_skip ((wanted_guard (j := 7) (b := false) (c := true) rfl (hdep ⟨7, .guard⟩ (by simp) rfl)).trans rfl) rfl
        refine stepsL_cons (fun a u hc hd hk hdep => ?_) ?_
        · exact step_skip ((wanted_guard (j := 7) (b := false) (c := true) rfl (hdep ⟨7, .guard⟩ (by simp) rfl)).trans rfl) rfl
        refine stepsL_cons (fun a u hc hd hk hdep => ?_) ?_
        · exact step_skip (wanted_undef (j := 16) (b := true) rfl (hdep ⟨16, .guard⟩ (by simp) rfl)) rfl
        refine stepsL_cons (fun a u hc hd hk hdep => ?_) ?_
        · exact step_skip (wanted_undef (j := 16) (b := true) rfl (hdep ⟨16, .guard⟩ (by simp) rfl)) rfl
        refine stepsL_cons (fun a u hc hd hk hdep => ?_) ?_
        · exact step_skip (wanted_undef (j := 16) (b := true) rfl (hdep ⟨16, .chain⟩ (by simp) rfl)) rfl
        refine stepsL_cons (fun a u hc hd hk hdep => ?_) ?_
        · exact step_skip (wanted_undef (j := 16) (b := true) rfl (hdep ⟨16, .guard⟩ (by simp) rfl)) rfl
        refine stepsL_cons (fun a u hc hd hk hdep => ?_) ?_
        · exact step_skip (wanted_undef (j := 16) (b := true) rfl (hdep ⟨16, .guard⟩ (by simp) rfl)) rfl
        refine stepsL_cons (fun a u hc hd hk hdep => ?_) ?_
        · exact step_skip (wanted_undef (j := 16) (b := true) rfl (hdep ⟨16, .guard⟩ (by simp) rfl)) rfl
        refine stepsL_cons (fun a u hc hd hk hdep => ?_) ?_
        · exact step_skip (wanted_undef (j := 16) (b := true) rfl (hdep ⟨16, .guard⟩ (by simp) rfl)) rfl
        refine stepsL_cons (fun a u hc hd hk hdep => ?_) ?_
        · exact step_skip ((wanted_guard (j := 7) (b := false) (c := true) rfl (hdep ⟨7, .guard⟩ (by simp) rfl)).trans rfl) rfl
        refine stepsL_cons (fun a u hc hd hk hdep => ?_) ?_
        ·
          have d55 : (a.tmps[55]?).getD undef = (.bool true) := hdep ⟨7, .data⟩ (by simp) rfl
          have d72 : (a.tmps[72]?).getD undef = undef := hdep ⟨24, .data⟩ (by simp) rfl
          refine step_val (.bool true) u (wanted_plain rfl) ?_ rfl (Below.refl _ _)
          first | (go_simp; done) | rfl
        refine stepsL_cons (fun a u hc hd hk hdep => ?_) ?_
        ·
          have d73 : (a.tmps[73]?).getD undef = (.bool true) := hdep ⟨25, .data⟩ (by simp) rfl
          refine step_val (.bool true) u (wanted_plain rfl) ?_ rfl (Below.refl _ _)
          first | (go_simp; done) | rfl
        exact stepsL_nil
      intro vs wN2 hN hh
      obtain ⟨e0, e1, e2, e3, e4, e5, e6, e7, e8, e9, e10, e11, e12, e13, e14, e15, e16, e17, e18, e19, e20, e21, e22, e23, e24, e25, e26, -⟩ := hh
      have eL : vs 26 = (.bool true) := e26
      clear e0 e1 e2 e3 e4 e5 e6 e7 e8 e9 e10 e11 e12 e13 e14 e15 e16 e17 e18 e19 e20 e21 e22 e23 e24 e25 e26
      simp only [putAll, Act.put, List.setIfInBounds_toArray, List.set_cons_zero, List.set_cons_succ, eL]
      obtain ⟨s0, s1, s2, s3, hB2⟩ := hN
      go_wp2
      go_ret
      exact ⟨rfl, hB2⟩
    · by_cases z0 : a1 = 0
      · subst z0
        go_wp2_with fail
        refine region_words (fun w' => w'.cell? ⟨u7.heap.size, 0, none⟩ = some (.int .i64 (1)) ∧ w'.cell? ⟨u7.heap.size, 1, none⟩ = some (.int .u64 ((nb z : Nat) : Int)) ∧ w'.cell? ⟨u7.heap.size + 1, 0, none⟩ = some (.int .i64 (1)) ∧ w'.cell? ⟨u7.heap.size + 1, 1, none⟩ = some (.int .u64 ((nb z6 : Nat) : Int)) ∧ Below w.heap.size w w') [isW (.pointer (some ⟨u7.heap.size + 1, 0, none⟩)), isW (.int .i64 (1)), isW (.bool false), isW (.bool false), isW (.int .i64 (0)), isW (.bool true), isW (.bool true), isW (.bool true), isW undef, isW undef, isW undef, isW undef, isW undef, isW undef, isW undef, isW undef, isW undef, isW undef, isW undef, isW undef, isW undef, isW undef, isW undef, isW undef, isW undef, isW (.bool true), isW (.bool true)] (by kernel_rfl) (by repeat' (first | exact monoL_nil | exact is_mono _ | exact row_mono _ | exact any_mono | refine monoL_cons ?_ ?_)) (by kernel_rfl) (by kernel_rfl) (fun _ _ h hb => keepF hb h) (⟨s0, s1, s2, s3, hB1.drew⟩) ?_ ?_
        · refine stepsL_cons (fun a u hc hd hk hdep => ?_) ?_
          ·
            have d6 : (a.tmps[6]?).getD undef = (.pointer (some ⟨u7.heap.size + 1, 0, none⟩)) := hk 6 (by kernel_rfl)
            refine step_val (.pointer (some ⟨u7.heap.size + 1, 0, none⟩)) u (wanted_plain rfl) ?_ rfl (Below.refl _ _)
            go_simp
          refine stepsL_cons (fun a u hc hd hk hdep => ?_) ?_
          ·
            have d48 : (a.tmps[48]?).getD undef = (.pointer (some ⟨u7.heap.size + 1, 0, none⟩)) := hdep ⟨0, .data⟩ (by simp) rfl
            refine step_val (.int .i64 (1)) u (wanted_plain rfl) ?_ rfl (Below.refl _ _)
            obtain ⟨s0, s1, s2, s3, s4⟩ := hc
            go_simp
          refine stepsL_cons (fun a u hc hd hk hdep => ?_) ?_
          ·
            have d49 : (a.tmps[49]?).getD undef = (.int .i64 (1)) := hdep ⟨1, .data⟩ (by simp) rfl
            refine step_val (.bool false) u (wanted_plain rfl) ?_ rfl (Below.refl _ _)
            go_simp
          refine stepsL_cons (fun a u hc hd hk hdep => ?_) ?_
          ·
            have d50 : (a.tmps[50]?).getD undef = (.bool false) := hdep ⟨2, .data⟩ (by simp) rfl
            refine step_val (.bool false) u (wanted_plain rfl) ?_ rfl (Below.refl _ _)
            first | (go_simp; done) | rfl
          refine stepsL_cons (fun a u hc hd hk hdep => ?_) ?_
          ·
            have d1 : (a.tmps[1]?).getD undef = (.int .i64 (0)) := hk 1 (by kernel_rfl)
            refine step_val (.int .i64 (0)) u ((wanted_guard (j := 3) (b := false) (c := false) rfl (hdep ⟨3, .guard⟩ (by simp) rfl)).trans rfl) ?_ rfl (Below.refl _ _)
            first | (go_simp; done) | rfl
          refine stepsL_cons (fun a u hc hd hk hdep => ?_) ?_
          ·
            have d52 : (a.tmps[52]?).getD undef = (.int .i64 (0)) := hdep ⟨4, .data⟩ (by simp) rfl
            refine step_val (.bool true) u ((wanted_guard (j := 3) (b := false) (c := false) rfl (hdep ⟨3, .guard⟩ (by simp) rfl)).trans rfl) ?_ rfl (Below.refl _ _)
            go_simp
          refine stepsL_cons (fun a u hc hd hk hdep => ?_) ?_
          ·
            have d51 : (a.tmps[51]?).getD undef = (.bool false) := hdep ⟨3, .data⟩ (by simp) rfl
            have d53 : (a.tmps[53]?).getD undef = (.bool true) := hdep ⟨5, .data⟩ (by simp) rfl
            refine step_val (.bool true) u (wanted_plain rfl) ?_ rfl (Below.refl _ _)
            first | (go_simp; done) | rfl
          refine stepsL_cons (fun a u hc hd hk hdep => ?_) ?_
          ·
            have d54 : (a.tmps[54]?).getD undef = (.bool true) := hdep ⟨6, .data⟩ (by simp) rfl
            refine step_val (.bool true) u (wanted_plain rfl) ?_ rfl (Below.refl _ _)
            first | (go_simp; done) | rfl
          refine stepsL_cons (fun a u hc hd hk hdep => ?_) ?_
          · exact step_skip ((wanted_guard (j := 7) (b := false) (c := true) rfl (hdep ⟨7, .guard⟩ (by simp) rfl)).trans rfl) rfl
          refine stepsL_cons (fun a u hc hd hk hdep => ?_) ?_
          · exact step_skip ((wanted_guard (j := 7) (b := false) (c := true) rfl (hdep ⟨7, .guard⟩ (by simp) rfl)).trans rfl) rfl
          refine stepsL_cons (fun a u hc hd hk hdep => ?_) ?_
          · exact step_skip ((wanted_guard (j := 7) (b := false) (c := true) rfl (hdep ⟨7, .chain⟩ (by simp) rfl)).trans rfl) rfl
          refine stepsL_cons (fun a u hc hd hk hdep => ?_) ?_
          · exact step_skip ((wanted_guard (j := 7) (b := false) (c := true) rfl (hdep ⟨7, .guard⟩ (by simp) rfl)).trans rfl) rfl
          refine stepsL_cons (fun a u hc hd hk hdep => ?_) ?_
          · exact step_skip ((wanted_guard (j := 7) (b := false) (c := true) rfl (hdep ⟨7, .guard⟩ (by simp) rfl)).trans rfl) rfl
          refine stepsL_cons (fun a u hc hd hk hdep => ?_) ?_
          · exact step_skip ((wanted_guard (j := 7) (b := false) (c := true) rfl (hdep ⟨7, .guard⟩ (by simp) rfl)).trans rfl) rfl
          refine stepsL_cons (fun a u hc hd hk hdep => ?_) ?_
          · exact step_skip ((wanted_guard (j := 7) (b := false) (c := true) rfl (hdep ⟨7, .guard⟩ (by simp) rfl)).trans rfl) rfl
          refine stepsL_cons (fun a u hc hd hk hdep => ?_) ?_
          · exact step_skip ((wanted_guard (j := 7) (b := false) (c := true) rfl (hdep ⟨7, .guard⟩ (by simp) rfl)).trans rfl) rfl
          refine stepsL_cons (fun a u hc hd hk hdep => ?_) ?_
          · exact step_skip ((wanted_guard (j := 7) (b := false) (c := true) rfl (hdep ⟨7, .guard⟩ (by simp) rfl)).trans rfl) rfl
          refine stepsL_cons (fun a u hc hd hk hdep => ?_) ?_
          · exact step_skip (wanted_undef (j := 16) (b := true) rfl (hdep ⟨16, .guard⟩ (by simp) rfl)) rfl
          refine stepsL_cons (fun a u hc hd hk hdep => ?_) ?_
          · exact step_skip (wanted_undef (j := 16) (b := true) rfl (hdep ⟨16, .guard⟩ (by simp) rfl)) rfl
          refine stepsL_cons (fun a u hc hd hk hdep => ?_) ?_
          · exact step_skip (wanted_undef (j := 16) (b := true) rfl (hdep ⟨16, .chain⟩ (by simp) rfl)) rfl
          refine stepsL_cons (fun a u hc hd hk hdep => ?_) ?_
          · exact step_skip (wanted_undef (j := 16) (b := true) rfl (hdep ⟨16, .guard⟩ (by simp) rfl)) rfl
          refine stepsL_cons (fun a u hc hd hk hdep => ?_) ?_
          · exact step_skip (wanted_undef (j := 16) (b := true) rfl (hdep ⟨16, .guard⟩ (by simp) rfl)) rfl
          refine stepsL_cons (fun a u hc hd hk hdep => ?_) ?_
          · exact step_skip (wanted_undef (j := 16) (b := true) rfl (hdep ⟨16, .guard⟩ (by simp) rfl)) rfl
          refine stepsL_cons (fun a u hc hd hk hdep => ?_) ?_
          · exact step_skip (wanted_undef (j := 16) (b := true) rfl (hdep ⟨16, .guard⟩ (by simp) rfl)) rfl
          refine stepsL_cons (fun a u hc hd hk hdep => ?_) ?_
          · exact step_skip ((wanted_guard (j := 7) (b := false) (c := true) rfl (hdep ⟨7, .guard⟩ (by simp) rfl)).trans rfl) rfl
          refine stepsL_cons (fun a u hc hd hk hdep => ?_) ?_
          ·
            have d55 : (a.tmps[55]?).getD undef = (.bool true) := hdep ⟨7, .data⟩ (by simp) rfl
            have d72 : (a.tmps[72]?).getD undef = undef := hdep ⟨24, .data⟩ (by simp) rfl
            refine step_val (.bool true) u (wanted_plain rfl) ?_ rfl (Below.refl _ _)
            first | (go_simp; done) | rfl
          refine stepsL_cons (fun a u hc hd hk hdep => ?_) ?_
          ·
            have d73 : (a.tmps[73]?).getD undef = (.bool true) := hdep ⟨25, .data⟩ (by simp) rfl
            refine step_val (.bool true) u (wanted_plain rfl) ?_ rfl (Below.refl _ _)
            first | (go_simp; done) | rfl
          exact stepsL_nil
        intro vs wN2 hN hh
        obtain ⟨e0, e1, e2, e3, e4, e5, e6, e7, e8, e9, e10, e11, e12, e13, e14, e15, e16, e17, e18, e19, e20, e21, e22, e23, e24, e25, e26, -⟩ := hh
        have eL : vs 26 = (.bool true) := e26
        clear e0 e1 e2 e3 e4 e5 e6 e7 e8 e9 e10 e11 e12 e13 e14 e15 e16 e17 e18 e19 e20 e21 e22 e23 e24 e25 e26
        simp only [putAll, Act.put, List.setIfInBounds_toArray, List.set_cons_zero, List.set_cons_succ, eL]
        obtain ⟨s0, s1, s2, s3, hB2⟩ := hN
        go_wp2
        go_ret
        exact ⟨rfl, hB2⟩
      · have f0 : (a1 == 0) = false := by simpa using z0
        obtain ⟨hz6, h4, h5⟩ := hmul.out z6 z0 rfl
        have D4 := Lib.hid (fun A cap w hv => do_i 4 z6 a1 A cap w hz6 B0.out hv (by decide) (by decide))
        rw [h4] at D4
        have D5 := Lib.hid (fun A cap w hv => do_i 5 z6 a1 A cap w hz6 B0.out hv (by decide) (by decide))
        rw [h5] at D5
        simp only [resK, resN] at D4 D5
        clear z0 hz6 h4 h5
        go_wp2_with fail
        refine region_words (fun w' => w'.cell? ⟨u7.heap.size, 0, none⟩ = some (.int .i64 (1)) ∧ w'.cell? ⟨u7.heap.size, 1, none⟩ = some (.int .u64 ((nb z : Nat) : Int)) ∧ w'.cell? ⟨u7.heap.size + 1, 0, none⟩ = some (.int .i64 (1)) ∧ w'.cell? ⟨u7.heap.size + 1, 1, none⟩ = some (.int .u64 ((nb z6 : Nat) : Int)) ∧ Below w.heap.size w w') [isW (.pointer (some ⟨u7.heap.size + 1, 0, none⟩)), isW (.int .i64 (1)), isW (.bool false), isW (.bool false), isW (.int .i64 (a1)), isW (.bool false), isW (.bool false), isW (.bool false), isW (.agg #[.int .i64 (1), .int .u64 ((nb z6 : Nat) : Int)]), isW (.int .i64 (a1)), isW (.agg #[.int .i64 (1), .int .u64 ((nb a1 : Nat) : Int)]), rowW [(1, nb z6), (1, nb a1)], isW (.agg #[.int .i64 (1), .int .u64 ((nb a0 : Nat) : Int)]), isW (.int .i64 (a0)), isW (.agg #[.int .i64 (1), .int .u64 ((nb a0 : Nat) : Int)]), isW (.bool true), isW (.bool true), isW (.agg #[.int .i64 (1), .int .u64 ((nb z6 : Nat) : Int)]), isW (.int .i64 (a1)), isW (.agg #[.int .i64 (1), .int .u64 ((nb a1 : Nat) : Int)]), rowW [(1, nb z6), (1, nb a1)], isW (.agg #[.int .i64 (1), .int .u64 ((nb 0 : Nat) : Int)]), isW (.agg #[.int .i64 (1), .int .u64 ((nb 0 : Nat) : Int)]), isW (.bool true), isW (.bool true), isW (.bool true), isW (.bool true)] (by kernel_rfl) (by repeat' (first | exact monoL_nil | exact is_mono _ | exact row_mono _ | exact any_mono | refine monoL_cons ?_ ?_)) (by kernel_rfl) (by kernel_rfl) (fun _ _ h hb => keepF hb h) (⟨s0, s1, s2, s3, hB1.drew⟩) ?_ ?_
        · refine stepsL_cons (fun a u hc hd hk hdep => ?_) ?_
          ·
            have d6 : (a.tmps[6]?).getD undef = (.pointer (some ⟨u7.heap.size + 1, 0, none⟩)) := hk 6 (by kernel_rfl)
            refine step_val (.pointer (some ⟨u7.heap.size + 1, 0, none⟩)) u (wanted_plain rfl) ?_ rfl (Below.refl _ _)
            go_simp
          refine stepsL_cons (fun a u hc hd hk hdep => ?_) ?_
          ·
            have d48 : (a.tmps[48]?).getD undef = (.pointer (some ⟨u7.heap.size + 1, 0, none⟩)) := hdep ⟨0, .data⟩ (by simp) rfl
            refine step_val (.int .i64 (1)) u (wanted_plain rfl) ?_ rfl (Below.refl _ _)
            obtain ⟨s0, s1, s2, s3, s4⟩ := hc
            go_simp
          refine stepsL_cons (fun a u hc hd hk hdep => ?_) ?_
          ·
            have d49 : (a.tmps[49]?).getD undef = (.int .i64 (1)) := hdep ⟨1, .data⟩ (by simp) rfl
            refine step_val (.bool false) u (wanted_plain rfl) ?_ rfl (Below.refl _ _)
            go_simp
          refine stepsL_cons (fun a u hc hd hk hdep => ?_) ?_
          ·
            have d50 : (a.tmps[50]?).getD undef = (.bool false) := hdep ⟨2, .data⟩ (by simp) rfl
            refine step_val (.bool false) u (wanted_plain rfl) ?_ rfl (Below.refl _ _)
            first | (go_simp; done) | rfl
          refine stepsL_cons (fun a u hc hd hk hdep => ?_) ?_
          ·
            have d1 : (a.tmps[1]?).getD undef = (.int .i64 (a1)) := hk 1 (by kernel_rfl)
            refine step_val (.int .i64 (a1)) u ((wanted_guard (j := 3) (b := false) (c := false) rfl (hdep ⟨3, .guard⟩ (by simp) rfl)).trans rfl) ?_ rfl (Below.refl _ _)
            first | (go_simp; done) | rfl
          refine stepsL_cons (fun a u hc hd hk hdep => ?_) ?_
          ·
            have d52 : (a.tmps[52]?).getD undef = (.int .i64 (a1)) := hdep ⟨4, .data⟩ (by simp) rfl
            refine step_val (.bool false) u ((wanted_guard (j := 3) (b := false) (c := false) rfl (hdep ⟨3, .guard⟩ (by simp) rfl)).trans rfl) ?_ rfl (Below.refl _ _)
            go_simp
          refine stepsL_cons (fun a u hc hd hk hdep => ?_) ?_
          ·
            have d51 : (a.tmps[51]?).getD undef = (.bool false) := hdep ⟨3, .data⟩ (by simp) rfl
            have d53 : (a.tmps[53]?).getD undef = (.bool false) := hdep ⟨5, .data⟩ (by simp) rfl
            refine step_val (.bool false) u (wanted_plain rfl) ?_ rfl (Below.refl _ _)
            first | (go_simp; done) | rfl
          refine stepsL_cons (fun a u hc hd hk hdep => ?_) ?_
          ·
            have d54 : (a.tmps[54]?).getD undef = (.bool false) := hdep ⟨6, .data⟩ (by simp) rfl
            refine step_val (.bool false) u (wanted_plain rfl) ?_ rfl (Below.refl _ _)
            first | (go_simp; done) | rfl
          refine stepsL_cons (fun a u hc hd hk hdep => ?_) ?_
          ·
            have d6 : (a.tmps[6]?).getD undef = (.pointer (some ⟨u7.heap.size + 1, 0, none⟩)) := hk 6 (by kernel_rfl)
            refine step_val (.agg #[.int .i64 (1), .int .u64 ((nb z6 : Nat) : Int)]) u ((wanted_guard (j := 7) (b := false) (c := false) rfl (hdep ⟨7, .guard⟩ (by simp) rfl)).trans rfl) ?_ rfl (Below.refl _ _)
            obtain ⟨s0, s1, s2, s3, s4⟩ := hc
            go_simp
          refine stepsL_cons (fun a u hc hd hk hdep => ?_) ?_
          ·
            have d1 : (a.tmps[1]?).getD undef = (.int .i64 (a1)) := hk 1 (by kernel_rfl)
            refine step_val (.int .i64 (a1)) u ((wanted_guard (j := 7) (b := false) (c := false) rfl (hdep ⟨7, .guard⟩ (by simp) rfl)).trans rfl) ?_ rfl (Below.refl _ _)
            first | (go_simp; done) | rfl
          refine stepsL_cons (fun a u hc hd hk hdep => ?_) ?_
          ·
            have d57 : (a.tmps[57]?).getD undef = (.int .i64 (a1)) := hdep ⟨9, .data⟩ (by simp) rfl
            refine step_call 18 #[.int .i64 a1] ((wanted_guard (j := 7) (b := false) (c := false) rfl (hdep ⟨7, .chain⟩ (by simp) rfl)).trans rfl) (by go_simp) ?_
            exact (num_v a1 u).mono (by rintro e w' ⟨rfl, hb⟩; exact ⟨_, rfl, rfl, hb⟩)
          refine stepsL_cons (fun a u hc hd hk hdep => ?_) ?_
          ·
            have d56 : (a.tmps[56]?).getD undef = (.agg #[.int .i64 (1), .int .u64 ((nb z6 : Nat) : Int)]) := hdep ⟨8, .data⟩ (by simp) rfl
            have d58 : (a.tmps[58]?).getD undef = (.agg #[.int .i64 (1), .int .u64 ((nb a1 : Nat) : Int)]) := hdep ⟨10, .data⟩ (by simp) rfl
            refine step_val (.slice (some ⟨u.heap.size, 0, none⟩) 2 2) (u.alloc (.cells #[.int .i64 (1), .int .u64 ((nb z6 : Nat) : Int), .int .i64 (1), .int .u64 ((nb a1 : Nat) : Int)] 29)) ((wanted_guard (j := 7) (b := false) (c := false) rfl (hdep ⟨7, .guard⟩ (by simp) rfl)).trans rfl) ?_ ⟨_, 2, rfl, row_two (by first | exact nb_lt _ | decide) (by first | exact nb_lt _ | decide) (by simp) (by simp) (by simp) (by simp)⟩ (below1 _ _)
            go_simp
          refine stepsL_cons (fun a u hc hd hk hdep => ?_) ?_
          ·
            obtain ⟨A59, c59, d59, r59⟩ : rowW [(1, nb z6), (1, nb a1)] ((a.tmps[59]?).getD undef) u := hdep ⟨11, .data⟩ (by simp) rfl
            refine step_call 17 #[.int .i64 4, .slice A59 2 c59] ((wanted_guard (j := 7) (b := false) (c := false) rfl (hdep ⟨7, .guard⟩ (by simp) rfl)).trans rfl) (by go_simp) ?_
            exact (D4.out _ _ u r59).mono (by rintro e w' ⟨rfl, hb⟩; exact ⟨_, rfl, rfl, hb⟩)
          refine stepsL_cons (fun a u hc hd hk hdep => ?_) ?_
          ·
            have d0 : (a.tmps[0]?).getD undef = (.int .i64 (a0)) := hk 0 (by kernel_rfl)
            refine step_val (.int .i64 (a0)) u ((wanted_guard (j := 7) (b := false) (c := false) rfl (hdep ⟨7, .guard⟩ (by simp) rfl)).trans rfl) ?_ rfl (Below.refl _ _)
            first | (go_simp; done) | rfl
          refine stepsL_cons (fun a u hc hd hk hdep => ?_) ?_
          ·
            have d61 : (a.tmps[61]?).getD undef = (.int .i64 (a0)) := hdep ⟨13, .data⟩ (by simp) rfl
            refine step_call 18 #[.int .i64 a0] ((wanted_guard (j := 7) (b := false) (c := false) rfl (hdep ⟨7, .guard⟩ (by simp) rfl)).trans rfl) (by go_simp) ?_
            exact (num_v a0 u).mono (by rintro e w' ⟨rfl, hb⟩; exact ⟨_, rfl, rfl, hb⟩)
          refine stepsL_cons (fun a u hc hd hk hdep => ?_) ?_
          ·
            have d60 : (a.tmps[60]?).getD undef = (.agg #[.int .i64 (1), .int .u64 ((nb a0 : Nat) : Int)]) := hdep ⟨12, .data⟩ (by simp) rfl
            have d62 : (a.tmps[62]?).getD undef = (.agg #[.int .i64 (1), .int .u64 ((nb a0 : Nat) : Int)]) := hdep ⟨14, .data⟩ (by simp) rfl
            refine step_val (.bool true) u ((wanted_guard (j := 7) (b := false) (c := false) rfl (hdep ⟨7, .guard⟩ (by simp) rfl)).trans rfl) ?_ rfl (Below.refl _ _)
            go_simp
          refine stepsL_cons (fun a u hc hd hk hdep => ?_) ?_
          ·
            have d63 : (a.tmps[63]?).getD undef = (.bool true) := hdep ⟨15, .data⟩ (by simp) rfl
            refine step_val (.bool true) u ((wanted_guard (j := 7) (b := false) (c := false) rfl (hdep ⟨7, .guard⟩ (by simp) rfl)).trans rfl) ?_ rfl (Below.refl _ _)
            first | (go_simp; done) | rfl
          refine stepsL_cons (fun a u hc hd hk hdep => ?_) ?_
          ·
            have d6 : (a.tmps[6]?).getD undef = (.pointer (some ⟨u7.heap.size + 1, 0, none⟩)) := hk 6 (by kernel_rfl)
            refine step_val (.agg #[.int .i64 (1), .int .u64 ((nb z6 : Nat) : Int)]) u ((wanted_guard (j := 16) (b := true) (c := true) rfl (hdep ⟨16, .guard⟩ (by simp) rfl)).trans rfl) ?_ rfl (Below.refl _ _)
            obtain ⟨s0, s1, s2, s3, s4⟩ := hc
            go_simp
          refine stepsL_cons (fun a u hc hd hk hdep => ?_) ?_
          ·
            have d1 : (a.tmps[1]?).getD undef = (.int .i64 (a1)) := hk 1 (by kernel_rfl)
            refine step_val (.int .i64 (a1)) u ((wanted_guard (j := 16) (b := true) (c := true) rfl (hdep ⟨16, .guard⟩ (by simp) rfl)).trans rfl) ?_ rfl (Below.refl _ _)
            first | (go_simp; done) | rfl
          refine stepsL_cons (fun a u hc hd hk hdep => ?_) ?_
          ·
            have d66 : (a.tmps[66]?).getD undef = (.int .i64 (a1)) := hdep ⟨18, .data⟩ (by simp) rfl
            refine step_call 18 #[.int .i64 a1] ((wanted_guard (j := 16) (b := true) (c := true) rfl (hdep ⟨16, .chain⟩ (by simp) rfl)).trans rfl) (by go_simp) ?_
            exact (num_v a1 u).mono (by rintro e w' ⟨rfl, hb⟩; exact ⟨_, rfl, rfl, hb⟩)
          refine stepsL_cons (fun a u hc hd hk hdep => ?_) ?_
          ·
            have d65 : (a.tmps[65]?).getD undef = (.agg #[.int .i64 (1), .int .u64 ((nb z6 : Nat) : Int)]) := hdep ⟨17, .data⟩ (by simp) rfl
            have d67 : (a.tmps[67]?).getD undef = (.agg #[.int .i64 (1), .int .u64 ((nb a1 : Nat) : Int)]) := hdep ⟨19, .data⟩ (by simp) rfl
            refine step_val (.slice (some ⟨u.heap.size, 0, none⟩) 2 2) (u.alloc (.cells #[.int .i64 (1), .int .u64 ((nb z6 : Nat) : Int), .int .i64 (1), .int .u64 ((nb a1 : Nat) : Int)] 29)) ((wanted_guard (j := 16) (b := true) (c := true) rfl (hdep ⟨16, .guard⟩ (by simp) rfl)).trans rfl) ?_ ⟨_, 2, rfl, row_two (by first | exact nb_lt _ | decide) (by first | exact nb_lt _ | decide) (by simp) (by simp) (by simp) (by simp)⟩ (below1 _ _)
            go_simp
          refine stepsL_cons (fun a u hc hd hk hdep => ?_) ?_
          ·
            obtain ⟨A68, c68, d68, r68⟩ : rowW [(1, nb z6), (1, nb a1)] ((a.tmps[68]?).getD undef) u := hdep ⟨20, .data⟩ (by simp) rfl
            refine step_call 17 #[.int .i64 5, .slice A68 2 c68] ((wanted_guard (j := 16) (b := true) (c := true) rfl (hdep ⟨16, .guard⟩ (by simp) rfl)).trans rfl) (by go_simp) ?_
            exact (D5.out _ _ u r68).mono (by rintro e w' ⟨rfl, hb⟩; exact ⟨_, rfl, rfl, hb⟩)
          refine stepsL_cons (fun a u hc hd hk hdep => ?_) ?_
          ·
            refine step_call 18 #[.int .i64 0] ((wanted_guard (j := 16) (b := true) (c := true) rfl (hdep ⟨16, .guard⟩ (by simp) rfl)).trans rfl) (by go_simp) ?_
            exact (num_v 0 u).mono (by rintro e w' ⟨rfl, hb⟩; exact ⟨_, rfl, rfl, hb⟩)
          refine stepsL_cons (fun a u hc hd hk hdep => ?_) ?_
          ·
            have d69 : (a.tmps[69]?).getD undef = (.agg #[.int .i64 (1), .int .u64 ((nb 0 : Nat) : Int)]) := hdep ⟨21, .data⟩ (by simp) rfl
            have d70 : (a.tmps[70]?).getD undef = (.agg #[.int .i64 (1), .int .u64 ((nb 0 : Nat) : Int)]) := hdep ⟨22, .data⟩ (by simp) rfl
            refine step_val (.bool true) u ((wanted_guard (j := 16) (b := true) (c := true) rfl (hdep ⟨16, .guard⟩ (by simp) rfl)).trans rfl) ?_ rfl (Below.refl _ _)
            go_simp
          refine stepsL_cons (fun a u hc hd hk hdep => ?_) ?_
          ·
            have d64 : (a.tmps[64]?).getD undef = (.bool true) := hdep ⟨16, .data⟩ (by simp) rfl
            have d71 : (a.tmps[71]?).getD undef = (.bool true) := hdep ⟨23, .data⟩ (by simp) rfl
            refine step_val (.bool true) u ((wanted_guard (j := 7) (b := false) (c := false) rfl (hdep ⟨7, .guard⟩ (by simp) rfl)).trans rfl) ?_ rfl (Below.refl _ _)
            first | (go_simp; done) | rfl
          refine stepsL_cons (fun a u hc hd hk hdep => ?_) ?_
          ·
            have d55 : (a.tmps[55]?).getD undef = (.bool false) := hdep ⟨7, .data⟩ (by simp) rfl
            have d72 : (a.tmps[72]?).getD undef = (.bool true) := hdep ⟨24, .data⟩ (by simp) rfl
            refine step_val (.bool true) u (wanted_plain rfl) ?_ rfl (Below.refl _ _)
            first | (go_simp; done) | rfl
          refine stepsL_cons (fun a u hc hd hk hdep => ?_) ?_
          ·
            have d73 : (a.tmps[73]?).getD undef = (.bool true) := hdep ⟨25, .data⟩ (by simp) rfl
            refine step_val (.bool true) u (wanted_plain rfl) ?_ rfl (Below.refl _ _)
            first | (go_simp; done) | rfl
          exact stepsL_nil
        intro vs wN2 hN hh
        obtain ⟨e0, e1, e2, e3, e4, e5, e6, e7, e8, e9, e10, e11, e12, e13, e14, e15, e16, e17, e18, e19, e20, e21, e22, e23, e24, e25, e26, -⟩ := hh
        have eL : vs 26 = (.bool true) := e26
        clear e0 e1 e2 e3 e4 e5 e6 e7 e8 e9 e10 e11 e12 e13 e14 e15 e16 e17 e18 e19 e20 e21 e22 e23 e24 e25 e26
        simp only [putAll, Act.put, List.setIfInBounds_toArray, List.set_cons_zero, List.set_cons_succ, eL]
        obtain ⟨s0, s1, s2, s3, hB2⟩ := hN
        go_wp2
        go_ret
        exact ⟨rfl, hB2⟩

set_option maxRecDepth 100000 in
theorem lifted (os : Os) (started : os.Started) (H : Type) (enc : TypeId × Value → H) :
    ReturnsInHanded {} Try.checked os 6 .any (Rows.valueBackSpec.pre6 enc Try.prog Try.f6 Rows.valueBackRow.domain false) (Rows.valueBackSpec.post enc Try.prog Try.f6 false true false false) := by
  refine returnsInHanded_of_change (C := Try.checked) own started (by kernel_rfl) Try.func6
    (ChangeSpec.witness6 (enc := enc) (C := Try.checked) false ⟨#[], #[.int .i64 0, .int .i64 0], []⟩ 8 (by kernel_rfl) (by kernel_rfl) (by kernel_rfl) (by kernel_rfl)) ?_
  intro W base args ds gs before hval0 hW hcnd _
  have hval : ∀ (j : Nat) t v, Try.f6.params[j]? = some t → args[j]? = some v → Value.okWide Try.prog W .any base t v := hval0
  have hW' := hW
  obtain ⟨p, q, hA0, hV, rfl, hfz, hnd⟩ := hW
  have hA : DataW.TrodAll enc Try.prog W 0 (fun _ => true) true Try.f6.params.toList args.toList ds p := hA0
  rw [Try.params6] at hA hval
  obtain ⟨v0, vs0, d0, ds0, p0, q0, hargs, rfl, rfl, h0, r0⟩ := trodAll_cons hA
  obtain ⟨v1, vs1, d1, ds1, p1, q1, rfl, rfl, rfl, h1, r1⟩ := trodAll_cons r0
  obtain ⟨rfl, rfl, rfl⟩ := trodAll_nil r1
  obtain rfl : args = #[v0, v1] := by cases args; simp_all
  obtain ⟨rfl, rfl⟩ := trodVars_none hV
  have kk0 := h0
  have lt0 : ∀ x ∈ p0, x.block < W.heap.size := by obtain ⟨m, hm⟩ := kk0; exact DataW.trod_lt m _ _ _ hm
  have kk1 := h1
  have lt1 : ∀ x ∈ p1, x.block < W.heap.size := by obtain ⟨m, hm⟩ := kk1; exact DataW.trod_lt m _ _ _ hm
  obtain ⟨a0, rfl, rfl, rfl, w0⟩ := open_int Try.underlying2 (hval 0 2 v0 rfl rfl) h0
  obtain ⟨a1, rfl, rfl, rfl, w1⟩ := open_int Try.underlying2 (hval 1 2 v1 rfl rfl) h1
  clear hA0 hval0
  refine (walk W a0 w0 a1 w1).mono fun e W' ⟨he, bel⟩ => ?_
  subst he
  exact ⟨_, rfl, _, _, _, [], _, [], hW', trodAll_mk1 (shut_bool Try.underlying4 _), (trodAll_cons_mk (Below.trod laidOut (by kernel_rfl) (of_decide_eq_true (by kernel_rfl)) kk0 bel lt0) (trodAll_cons_mk (Below.trod laidOut (by kernel_rfl) (of_decide_eq_true (by kernel_rfl)) kk1 bel lt1) trodAll_mk0)), rfl, bel.frame _, fun h => by cases h⟩

theorem over : Rows.valueBackRow.holds Try.pinned (OpenSpec.ofChange Rows.valueBackSpec) :=
  OpenClaim.holds_of_wide 6 Try.f6 rfl rfl rfl rfl rfl rfl rfl ⟨rfl, rfl, rfl, rfl, rfl⟩ rfl rfl rfl rfl rfl (by kernel_rfl) Try.func6 (by kernel_rfl)
    (of_decide_eq_true (by kernel_rfl)) (by unfold Func.isWrapper; first | (rw [if_pos (by decide +kernel)]; kernel_rfl) | (rw [if_neg (by decide +kernel)]; exact ⟨rfl, rfl⟩))
    (fun os started H enc _ => lifted os started H enc)

/-- the statement -/
theorem proved : Rows.ValueBackSaid :=
  over
#print axioms proved
end Go.Proofs.Ytocciehjpgkceaa.valueBack
