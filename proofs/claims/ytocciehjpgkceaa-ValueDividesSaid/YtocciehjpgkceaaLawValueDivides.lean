/- ValueDivides: quotient times divisor, and the rest, make the dividend; the rest is less than the divisor, and has the dividend's sign. -/
import Derived.Test.YtocciehjpgkceaaRows
import Derived.WalkKit
import Derived.ProofKit
import Derived.OpenShut
import Derived.ShutString
import Derived.ChangeOld
import Derived.Below
import Derived.Lib.SmallJoins
import Derived.SizedLaws
import Derived.Test.YtocciehjpgkceaaAwake
import Derived.Test.YtocciehjpgkceaaAplI
import Derived.Test.YtocciehjpgkceaaInvV
import Derived.Test.YtocciehjpgkceaaUna
namespace Go.Proofs.Ytocciehjpgkceaa.valueDivides
open Go.ChangeShapes Go.WideShapes Go.ChangeAt Go.RowKit Go.Fl Go.Joins
set_option linter.unusedVariables false

theorem own : ownKnob Try.prog.godebug = none := by kernel_rfl
theorem laidOut : laidOutB Try.prog = true := by kernel_rfl

theorem div_facts (a b : Int) (ha : I64 a) (hb : I64 b) (h0 : b ≠ 0) (hm : ¬ (a = -9223372036854775808 ∧ b = -1)) :
    ∃ z m, ansI 4 a b = some z ∧ ansI 5 a b = some m ∧ I64 z ∧ I64 m ∧ I64 (z * b) ∧ ansI 3 z b = some (z * b) ∧ ansI 1 (z * b) m = some a ∧ m.natAbs < b.natAbs ∧ (m < 0 → a < 0) ∧ (0 < m → 0 < a) := by
  have hz := tdiv_i64 a b ha h0 hm
  have hmo := tmod_i64 a b ha
  have e := Int.tmod_add_mul_tdiv a b
  have hlt : (a.tmod b).natAbs < b.natAbs := by
    rw [Int.natAbs_tmod]
    exact Nat.mod_lt _ (by omega)
  have hs1 : 0 ≤ a → 0 ≤ a.tmod b := fun h => Int.tmod_nonneg b h
  have hs2 : a ≤ 0 → a.tmod b ≤ 0 := fun h => by
    have := Int.tmod_nonneg b (show 0 ≤ -a by omega)
    rw [Int.neg_tmod] at this
    omega
  have hc : b * a.tdiv b = a.tdiv b * b := Int.mul_comm _ _
  have hzb : I64 (a.tdiv b * b) := by
    unfold I64 at *
    rw [← hc]
    have : b * a.tdiv b = a - a.tmod b := by omega
    rw [this]
    by_cases h : 0 ≤ a
    · have h1 := hs1 h
      have h2 : a.tmod b ≤ a := by
        have : (a.tmod b).natAbs ≤ a.natAbs := by rw [Int.natAbs_tmod]; exact Nat.mod_le _ _
        omega
      omega
    · have h1 := hs2 (by omega)
      have h2 : a ≤ a.tmod b := by
        have : (a.tmod b).natAbs ≤ a.natAbs := by rw [Int.natAbs_tmod]; exact Nat.mod_le _ _
        omega
      omega
  refine ⟨a.tdiv b, a.tmod b, ?_, ?_, hz, hmo, hzb, ?_, ?_, hlt, fun h => ?_, fun h => ?_⟩
  · simp [ansI, quoP, h0, chk, hz]
  · simp [ansI, remP, h0]
  · simp [ansI, chk, hzb]
  · have : a.tdiv b * b + a.tmod b = a := by omega
    simp [ansI, chk, this, ha]
  · apply Classical.byContradiction; intro h'; have := hs1 (by omega); omega
  · apply Classical.byContradiction; intro h'; have := hs2 (by omega); omega

theorem do_9 (a b : Int) (A : Option Addr) (cap : Nat) (w : World) (ha : I64 a) (hb : I64 b) (hv : RowV w A 2 [(1, nb a), (1, nb b)]) :
    Calls Try.prog 17 #[.int .i64 9, .slice A 2 cap] w fun e w' => e = .returned (.agg #[.int .i64 2, .int .u64 ((b2n (decide (a < b)) : Nat) : Int)]) ∧ Below w.heap.size w w' := by
  have h := do_any 9 A 2 cap _ w hv (by decide)
  have e : appP 9 [(1, nb a), (1, nb b)] = (2, b2n (decide (a < b))) := by
    have e1 : clK 1 (nb a) = 1 := by unfold clK; rw [if_pos (by omega)]
    have e2 : clB 1 (nb a) = nb a := by unfold clB; rw [if_neg (by omega), if_pos (by omega)]
    have e3 : clK 1 (nb b) = 1 := by unfold clK; rw [if_pos (by omega)]
    have e4 : clB 1 (nb b) = nb b := by unfold clB; rw [if_neg (by omega), if_pos (by omega)]
    simp only [appP, appTwo, e1, e2, e3, e4]
    simp [r2P, cmpB, cmpS, ltV, w64_nb a ha, w64_nb b hb]
  rw [e] at h
  exact h

theorem do_9' (a b n : Int) (A : Option Addr) (cap : Nat) (w : World) (ha : I64 a) (hb : I64 b) (hn : ((b2n (decide (a < b)) : Nat) : Int) = n) (hv : RowV w A 2 [(1, nb a), (1, nb b)]) :
    Calls Try.prog 17 #[.int .i64 9, .slice A 2 cap] w fun e w' => e = .returned (.agg #[.int .i64 2, .int .u64 n]) ∧ Below w.heap.size w w' := by
  subst hn
  exact do_9 a b A cap w ha hb hv

set_option maxHeartbeats 4000000 in
theorem walk (w : World) (a0 : Int) (w0 : (Lit.int .i64 a0).wf = true) (a1 : Int) (w1 : (Lit.int .i64 a1).wf = true) :
    Calls Try.prog 7 #[.int .i64 a0, .int .i64 a1] w fun e w' => e = .returned (.bool true) ∧ Below w.heap.size w w' := by
  have he := eqR
  have ha : I64 a0 := i64_of_wf w0
  have hb : I64 a1 := i64_of_wf w1
  have D1 := Lib.hid (fun A cap w hv => do_i 4 a0 a1 A cap w ha hb hv (by decide) (by decide))
  have D3 := Lib.hid (fun A cap w hv => do_i 5 a0 a1 A cap w ha hb hv (by decide) (by decide))
  have hcase : (a1 = 0 ∧ ansI 4 a0 a1 = none ∧ ansI 5 a0 a1 = none) ∨ (a0 = -9223372036854775808 ∧ a1 = -1 ∧ ansI 4 a0 a1 = none ∧ ansI 5 a0 a1 = some 0) ∨
      (a1 ≠ 0 ∧ ∃ z m, ansI 4 a0 a1 = some z ∧ ansI 5 a0 a1 = some m ∧ I64 z ∧ I64 m ∧ I64 (z * a1) ∧ ansI 3 z a1 = some (z * a1) ∧ ansI 1 (z * a1) m = some a0 ∧ m.natAbs < a1.natAbs ∧ (m < 0 → a0 < 0) ∧ (0 < m → 0 < a0)) := by
    by_cases h0 : a1 = 0
    · left; subst h0; exact ⟨rfl, by simp [ansI, quoP], by simp [ansI, remP]⟩
    · right
      by_cases hm : a0 = -9223372036854775808 ∧ a1 = -1
      · left; obtain ⟨rfl, rfl⟩ := hm; exact ⟨rfl, rfl, by decide, by decide⟩
      · right; exact ⟨h0, div_facts a0 a1 ha hb h0 hm⟩
  generalize ansI 4 a0 a1 = s at *
  generalize ansI 5 a0 a1 = p at *
  go_enter Try.func7, Try.ntmps7
  go_wp2_with fail
  refine (awake_any _).mono ?_; rintro e u1 ⟨rfl, hb1⟩
  go_wp2_with fail
  refine (num_v _ _).mono ?_; rintro e u2 ⟨rfl, hb2⟩
  go_wp2_with fail
  refine (num_v _ _).mono ?_; rintro e u3 ⟨rfl, hb3⟩
  go_wp2_with fail
  refine (D1.out _ _ _ (row_two (nb_lt _) (nb_lt _) (by simp) (by simp) (by simp) (by simp))).mono ?_; rintro e u4 ⟨rfl, hb4⟩
  go_wp2_with fail
  refine (num_v _ _).mono ?_; rintro e u5 ⟨rfl, hb5⟩
  go_wp2_with fail
  refine (num_v _ _).mono ?_; rintro e u6 ⟨rfl, hb6⟩
  go_wp2_with fail
  refine (D3.out _ _ _ (row_two (nb_lt _) (nb_lt _) (by simp) (by simp) (by simp) (by simp))).mono ?_; rintro e u7 ⟨rfl, hb7⟩
  have hB := below_more (below_more (below_more (below_more (below_more (below_more (below_more (below_more hb1 hb2) hb3) (below1 _ _)) hb4) hb5) hb6) (below1 _ _)) hb7
  clear hb1 hb2 hb3 hb4 hb5 hb6 hb7 D1 D3
  have A0 := Lib.hid ha
  have B0 := Lib.hid hb
  clear ha hb w0 w1
  have hBB : Below w.heap.size w ((u7.alloc (.cells #[.int .i64 0, .int .u64 0] 29)).alloc (.cells #[.int .i64 0, .int .u64 0] 29)) := (hB.alloc hB.size _).alloc (by simp; have := hB.size; omega) _
  rcases hcase with ⟨rfl, rfl, rfl⟩ | ⟨rfl, rfl, rfl, rfl⟩ | ⟨h0, z, m, rfl, rfl, hz, hmm, hzb, h3, h1, hlt, hneg, hpos⟩
  · simp only [resK, resN]
    go_wp2
    all_goals go_ret
    all_goals exact ⟨rfl, (hB.alloc hB.size _).alloc (by simp; have := hB.size; omega) _⟩
  · simp only [resK, resN]
    go_wp2_with fail
    refine region_words (fun w' => w'.cell? ⟨u7.heap.size, 0, none⟩ = some (.int .i64 (0)) ∧ w'.cell? ⟨u7.heap.size, 1, none⟩ = some (.int .u64 ((0 : Nat) : Int)) ∧ w'.cell? ⟨u7.heap.size + 1, 0, none⟩ = some (.int .i64 (1)) ∧ w'.cell? ⟨u7.heap.size + 1, 1, none⟩ = some (.int .u64 ((nb 0 : Nat) : Int)) ∧ Below w.heap.size w w') [isW (.int .i64 (-9223372036854775808)), isW (.bool true), isW (.bool true), isW (.int .i64 (-1)), isW (.bool true), isW (.bool true), isW (.bool true), isW (.agg #[.int .i64 (1), .int .u64 ((nb 0 : Nat) : Int)]), isW (.agg #[.int .i64 (1), .int .u64 ((nb 0 : Nat) : Int)]), isW (.bool true), isW (.bool true), isW (.bool true)] (by kernel_rfl) (by repeat' (first | exact monoL_nil | exact is_mono _ | exact row_mono _ | exact any_mono | refine monoL_cons ?_ ?_)) (by kernel_rfl) (by kernel_rfl) (fun _ _ h hb => keepF hb h) (⟨by simp [go_sem], by simp [go_sem], by simp [go_sem], by simp [go_sem], ((hB.alloc hB.size _).alloc (by simp; have := hB.size; omega) _).drew⟩) ?_ ?_
    · refine stepsL_cons (fun a u hc hd hk hdep => ?_) ?_
      ·
        have d0 : (a.tmps[0]?).getD undef = (.int .i64 (-9223372036854775808)) := hk 0 (by kernel_rfl)
        refine step_val (.int .i64 (-9223372036854775808)) u (wanted_plain rfl) ?_ rfl (Below.refl _ _)
        first | (go_simp; done) | rfl
      refine stepsL_cons (fun a u hc hd hk hdep => ?_) ?_
      ·
        have d35 : (a.tmps[35]?).getD undef = (.int .i64 (-9223372036854775808)) := hdep ⟨0, .data⟩ (by simp) rfl
        refine step_val (.bool true) u (wanted_plain rfl) ?_ rfl (Below.refl _ _)
        go_simp
      refine stepsL_cons (fun a u hc hd hk hdep => ?_) ?_
      ·
        have d36 : (a.tmps[36]?).getD undef = (.bool true) := hdep ⟨1, .data⟩ (by simp) rfl
        refine step_val (.bool true) u (wanted_plain rfl) ?_ rfl (Below.refl _ _)
        first | (go_simp; done) | rfl
      refine stepsL_cons (fun a u hc hd hk hdep => ?_) ?_
      ·
        have d1 : (a.tmps[1]?).getD undef = (.int .i64 (-1)) := hk 1 (by kernel_rfl)
        refine step_val (.int .i64 (-1)) u ((wanted_guard (j := 2) (b := true) (c := true) rfl (hdep ⟨2, .guard⟩ (by simp) rfl)).trans rfl) ?_ rfl (Below.refl _ _)
        first | (go_simp; done) | rfl
      refine stepsL_cons (fun a u hc hd hk hdep => ?_) ?_
      ·
        have d38 : (a.tmps[38]?).getD undef = (.int .i64 (-1)) := hdep ⟨3, .data⟩ (by simp) rfl
        refine step_val (.bool true) u ((wanted_guard (j := 2) (b := true) (c := true) rfl (hdep ⟨2, .guard⟩ (by simp) rfl)).trans rfl) ?_ rfl (Below.refl _ _)
        go_simp
      refine stepsL_cons (fun a u hc hd hk hdep => ?_) ?_
      ·
        have d37 : (a.tmps[37]?).getD undef = (.bool true) := hdep ⟨2, .data⟩ (by simp) rfl
        have d39 : (a.tmps[39]?).getD undef = (.bool true) := hdep ⟨4, .data⟩ (by simp) rfl
        refine step_val (.bool true) u (wanted_plain rfl) ?_ rfl (Below.refl _ _)
        first | (go_simp; done) | rfl
      refine stepsL_cons (fun a u hc hd hk hdep => ?_) ?_
      ·
        have d40 : (a.tmps[40]?).getD undef = (.bool true) := hdep ⟨5, .data⟩ (by simp) rfl
        refine step_val (.bool true) u (wanted_plain rfl) ?_ rfl (Below.refl _ _)
        first | (go_simp; done) | rfl
      refine stepsL_cons (fun a u hc hd hk hdep => ?_) ?_
      ·
        have d6 : (a.tmps[6]?).getD undef = (.pointer (some ⟨u7.heap.size + 1, 0, none⟩)) := hk 6 (by kernel_rfl)
        refine step_val (.agg #[.int .i64 (1), .int .u64 ((nb 0 : Nat) : Int)]) u ((wanted_guard (j := 6) (b := true) (c := true) rfl (hdep ⟨6, .guard⟩ (by simp) rfl)).trans rfl) ?_ rfl (Below.refl _ _)
        obtain ⟨s0, s1, s2, s3, s4⟩ := hc
        go_simp
      refine stepsL_cons (fun a u hc hd hk hdep => ?_) ?_
      ·
        refine step_call 18 #[.int .i64 0] ((wanted_guard (j := 6) (b := true) (c := true) rfl (hdep ⟨6, .chain⟩ (by simp) rfl)).trans rfl) (by go_simp) ?_
        exact (num_v 0 u).mono (by rintro e w' ⟨rfl, hb⟩; exact ⟨_, rfl, rfl, hb⟩)
      refine stepsL_cons (fun a u hc hd hk hdep => ?_) ?_
      ·
        have d42 : (a.tmps[42]?).getD undef = (.agg #[.int .i64 (1), .int .u64 ((nb 0 : Nat) : Int)]) := hdep ⟨7, .data⟩ (by simp) rfl
        have d43 : (a.tmps[43]?).getD undef = (.agg #[.int .i64 (1), .int .u64 ((nb 0 : Nat) : Int)]) := hdep ⟨8, .data⟩ (by simp) rfl
        refine step_val (.bool true) u ((wanted_guard (j := 6) (b := true) (c := true) rfl (hdep ⟨6, .guard⟩ (by simp) rfl)).trans rfl) ?_ rfl (Below.refl _ _)
        go_simp
      refine stepsL_cons (fun a u hc hd hk hdep => ?_) ?_
      ·
        have d41 : (a.tmps[41]?).getD undef = (.bool true) := hdep ⟨6, .data⟩ (by simp) rfl
        have d44 : (a.tmps[44]?).getD undef = (.bool true) := hdep ⟨9, .data⟩ (by simp) rfl
        refine step_val (.bool true) u (wanted_plain rfl) ?_ rfl (Below.refl _ _)
        first | (go_simp; done) | rfl
      refine stepsL_cons (fun a u hc hd hk hdep => ?_) ?_
      ·
        have d45 : (a.tmps[45]?).getD undef = (.bool true) := hdep ⟨10, .data⟩ (by simp) rfl
        refine step_val (.bool true) u (wanted_plain rfl) ?_ rfl (Below.refl _ _)
        first | (go_simp; done) | rfl
      exact stepsL_nil
    intro vs wN1 hN hh
    obtain ⟨e0, e1, e2, e3, e4, e5, e6, e7, e8, e9, e10, e11, -⟩ := hh
    have eL : vs 11 = (.bool true) := e11
    clear e0 e1 e2 e3 e4 e5 e6 e7 e8 e9 e10 e11
    set_option maxRecDepth 100000 in simp only [putAll, Act.put, List.setIfInBounds_toArray, List.set_cons_zero, List.set_cons_succ, eL]
    obtain ⟨s0, s1, s2, s3, hB1⟩ := hN
    go_wp2
    go_ret
    exact ⟨rfl, hB1⟩
  · simp only [resK, resN]
    have f0 : (a1 == 0) = false := by simpa using h0
    have D3 := Lib.hid (fun A cap w hv => do_i 3 z a1 A cap w hz B0.out hv (by decide) (by decide))
    rw [h3] at D3
    have D1 := Lib.hid (fun A cap w hv => do_i 1 (z * a1) m A cap w hzb hmm hv (by decide) (by decide))
    rw [h1] at D1
    simp only [resK, resN] at D3 D1
    have M0 := Lib.hid hmm
    have wm : wrap64 ((nb m : Nat) : Int) = m := w64_nb m hmm
    have hmin : I64 (-(m.natAbs : Int)) := by unfold I64 at hmm ⊢; omega
    have N0 := Lib.hid h0
    have L0 := Lib.hid hlt
    generalize z * a1 = zb at *
    clear h0 h3 h1 hz hzb hlt
    rcases (show m < 0 ∨ m = 0 ∨ 0 < m by omega) with hs | hs | hs
    · have g1 : a0 < 0 := hneg hs
      have g2 : ¬ 0 ≤ a0 := by omega
      have g3 : ¬ 0 < m := by omega
      clear hneg hpos
      go_wp2_with fail
      refine region_words (fun w' => w'.cell? ⟨u7.heap.size, 0, none⟩ = some (.int .i64 (1)) ∧ w'.cell? ⟨u7.heap.size, 1, none⟩ = some (.int .u64 ((nb z : Nat) : Int)) ∧ w'.cell? ⟨u7.heap.size + 1, 0, none⟩ = some (.int .i64 (1)) ∧ w'.cell? ⟨u7.heap.size + 1, 1, none⟩ = some (.int .u64 ((nb m : Nat) : Int)) ∧ Below w.heap.size w w') [isW (.pointer (some ⟨u7.heap.size + 1, 0, none⟩)), isW (.int .i64 (1)), isW (.bool false), isW (.bool false), isW (.agg #[.int .i64 (1), .int .u64 ((nb z : Nat) : Int)]), isW (.int .i64 (a1)), isW (.agg #[.int .i64 (1), .int .u64 ((nb a1 : Nat) : Int)]), rowW [(1, nb z), (1, nb a1)], isW (.agg #[.int .i64 (1), .int .u64 ((nb zb : Nat) : Int)]), isW (.agg #[.int .i64 (1), .int .u64 ((nb m : Nat) : Int)]), rowW [(1, nb zb), (1, nb m)], isW (.agg #[.int .i64 (1), .int .u64 ((nb a0 : Nat) : Int)]), isW (.int .i64 (a0)), isW (.agg #[.int .i64 (1), .int .u64 ((nb a0 : Nat) : Int)]), isW (.bool false), isW (.bool false), isW (.bool false), isW (.int .i64 (m)), isW (.bool true), isW (.bool true), isW (.int .i64 (a0)), isW (.bool false), isW (.bool false), isW (.bool false), isW (.bool false), isW (.int .i64 (m)), isW (.bool false), isW (.bool false), isW undef, isW undef, isW (.bool false), isW (.bool false)] (by kernel_rfl) (by repeat' (first | exact monoL_nil | exact is_mono _ | exact row_mono _ | exact any_mono | refine monoL_cons ?_ ?_)) (by kernel_rfl) (by kernel_rfl) (fun _ _ h hb => keepF hb h) (⟨by simp [go_sem], by simp [go_sem], by simp [go_sem], by simp [go_sem], ((hB.alloc hB.size _).alloc (by simp; have := hB.size; omega) _).drew⟩) ?_ ?_
      · refine stepsL_cons (fun a u hc hd hk hdep => ?_) ?_
        ·
          have d6 : (a.tmps[6]?).getD undef = (.pointer (some ⟨u7.heap.size + 1, 0, none⟩)) := hk 6 (by kernel_rfl)
          refine step_val (.pointer (some ⟨u7.heap.size + 1, 0, none⟩)) u (wanted_plain rfl) ?_ rfl (Below.refl _ _)
          go_simp
        refine stepsL_cons (fun a u hc hd hk hdep => ?_) ?_
        ·
          have d49 : (a.tmps[49]?).getD undef = (.pointer (some ⟨u7.heap.size + 1, 0, none⟩)) := hdep ⟨0, .data⟩ (by simp) rfl
          refine step_val (.int .i64 (1)) u (wanted_plain rfl) ?_ rfl (Below.refl _ _)
          obtain ⟨s0, s1, s2, s3, s4⟩ := hc
          go_simp
        refine stepsL_cons (fun a u hc hd hk hdep => ?_) ?_
        ·
          have d50 : (a.tmps[50]?).getD undef = (.int .i64 (1)) := hdep ⟨1, .data⟩ (by simp) rfl
          refine step_val (.bool false) u (wanted_plain rfl) ?_ rfl (Below.refl _ _)
          go_simp
        refine stepsL_cons (fun a u hc hd hk hdep => ?_) ?_
        ·
          have d51 : (a.tmps[51]?).getD undef = (.bool false) := hdep ⟨2, .data⟩ (by simp) rfl
          refine step_val (.bool false) u (wanted_plain rfl) ?_ rfl (Below.refl _ _)
          first | (go_simp; done) | rfl
        refine stepsL_cons (fun a u hc hd hk hdep => ?_) ?_
        ·
          have d5 : (a.tmps[5]?).getD undef = (.pointer (some ⟨u7.heap.size, 0, none⟩)) := hk 5 (by kernel_rfl)
          refine step_val (.agg #[.int .i64 (1), .int .u64 ((nb z : Nat) : Int)]) u ((wanted_guard (j := 3) (b := false) (c := false) rfl (hdep ⟨3, .guard⟩ (by simp) rfl)).trans rfl) ?_ rfl (Below.refl _ _)
          obtain ⟨s0, s1, s2, s3, s4⟩ := hc
          go_simp
        refine stepsL_cons (fun a u hc hd hk hdep => ?_) ?_
        ·
          have d1 : (a.tmps[1]?).getD undef = (.int .i64 (a1)) := hk 1 (by kernel_rfl)
          refine step_val (.int .i64 (a1)) u ((wanted_guard (j := 3) (b := false) (c := false) rfl (hdep ⟨3, .guard⟩ (by simp) rfl)).trans rfl) ?_ rfl (Below.refl _ _)
          first | (go_simp; done) | rfl
        refine stepsL_cons (fun a u hc hd hk hdep => ?_) ?_
        ·
          have d54 : (a.tmps[54]?).getD undef = (.int .i64 (a1)) := hdep ⟨5, .data⟩ (by simp) rfl
          refine step_call 18 #[.int .i64 a1] ((wanted_guard (j := 3) (b := false) (c := false) rfl (hdep ⟨3, .chain⟩ (by simp) rfl)).trans rfl) (by go_simp) ?_
          exact (num_v a1 u).mono (by rintro e w' ⟨rfl, hb⟩; exact ⟨_, rfl, rfl, hb⟩)
        refine stepsL_cons (fun a u hc hd hk hdep => ?_) ?_
        ·
          have d53 : (a.tmps[53]?).getD undef = (.agg #[.int .i64 (1), .int .u64 ((nb z : Nat) : Int)]) := hdep ⟨4, .data⟩ (by simp) rfl
          have d55 : (a.tmps[55]?).getD undef = (.agg #[.int .i64 (1), .int .u64 ((nb a1 : Nat) : Int)]) := hdep ⟨6, .data⟩ (by simp) rfl
          refine step_val (.slice (some ⟨u.heap.size, 0, none⟩) 2 2) (u.alloc (.cells #[.int .i64 (1), .int .u64 ((nb z : Nat) : Int), .int .i64 (1), .int .u64 ((nb a1 : Nat) : Int)] 29)) ((wanted_guard (j := 3) (b := false) (c := false) rfl (hdep ⟨3, .guard⟩ (by simp) rfl)).trans rfl) ?_ ⟨_, 2, rfl, row_two (by first | exact nb_lt _ | decide) (by first | exact nb_lt _ | decide) (by simp) (by simp) (by simp) (by simp)⟩ (below1 _ _)
          go_simp
        refine stepsL_cons (fun a u hc hd hk hdep => ?_) ?_
        ·
          obtain ⟨A56, c56, d56, r56⟩ : rowW [(1, nb z), (1, nb a1)] ((a.tmps[56]?).getD undef) u := hdep ⟨7, .data⟩ (by simp) rfl
          refine step_call 17 #[.int .i64 3, .slice A56 2 c56] ((wanted_guard (j := 3) (b := false) (c := false) rfl (hdep ⟨3, .guard⟩ (by simp) rfl)).trans rfl) (by go_simp) ?_
          exact (D3.out _ _ u r56).mono (by rintro e w' ⟨rfl, hb⟩; exact ⟨_, rfl, rfl, hb⟩)
        refine stepsL_cons (fun a u hc hd hk hdep => ?_) ?_
        ·
          have d6 : (a.tmps[6]?).getD undef = (.pointer (some ⟨u7.heap.size + 1, 0, none⟩)) := hk 6 (by kernel_rfl)
          refine step_val (.agg #[.int .i64 (1), .int .u64 ((nb m : Nat) : Int)]) u ((wanted_guard (j := 3) (b := false) (c := false) rfl (hdep ⟨3, .guard⟩ (by simp) rfl)).trans rfl) ?_ rfl (Below.refl _ _)
          obtain ⟨s0, s1, s2, s3, s4⟩ := hc
          go_simp
        refine stepsL_cons (fun a u hc hd hk hdep => ?_) ?_
        ·
          have d57 : (a.tmps[57]?).getD undef = (.agg #[.int .i64 (1), .int .u64 ((nb zb : Nat) : Int)]) := hdep ⟨8, .data⟩ (by simp) rfl
          have d58 : (a.tmps[58]?).getD undef = (.agg #[.int .i64 (1), .int .u64 ((nb m : Nat) : Int)]) := hdep ⟨9, .data⟩ (by simp) rfl
          refine step_val (.slice (some ⟨u.heap.size, 0, none⟩) 2 2) (u.alloc (.cells #[.int .i64 (1), .int .u64 ((nb zb : Nat) : Int), .int .i64 (1), .int .u64 ((nb m : Nat) : Int)] 29)) ((wanted_guard (j := 3) (b := false) (c := false) rfl (hdep ⟨3, .guard⟩ (by simp) rfl)).trans rfl) ?_ ⟨_, 2, rfl, row_two (by first | exact nb_lt _ | decide) (by first | exact nb_lt _ | decide) (by simp) (by simp) (by simp) (by simp)⟩ (below1 _ _)
          go_simp
        refine stepsL_cons (fun a u hc hd hk hdep => ?_) ?_
        ·
          obtain ⟨A59, c59, d59, r59⟩ : rowW [(1, nb zb), (1, nb m)] ((a.tmps[59]?).getD undef) u := hdep ⟨10, .data⟩ (by simp) rfl
          refine step_call 17 #[.int .i64 1, .slice A59 2 c59] ((wanted_guard (j := 3) (b := false) (c := false) rfl (hdep ⟨3, .guard⟩ (by simp) rfl)).trans rfl) (by go_simp) ?_
          exact (D1.out _ _ u r59).mono (by rintro e w' ⟨rfl, hb⟩; exact ⟨_, rfl, rfl, hb⟩)
        refine stepsL_cons (fun a u hc hd hk hdep => ?_) ?_
        ·
          have d0 : (a.tmps[0]?).getD undef = (.int .i64 (a0)) := hk 0 (by kernel_rfl)
          refine step_val (.int .i64 (a0)) u ((wanted_guard (j := 3) (b := false) (c := false) rfl (hdep ⟨3, .guard⟩ (by simp) rfl)).trans rfl) ?_ rfl (Below.refl _ _)
          first | (go_simp; done) | rfl
        refine stepsL_cons (fun a u hc hd hk hdep => ?_) ?_
        ·
          have d61 : (a.tmps[61]?).getD undef = (.int .i64 (a0)) := hdep ⟨12, .data⟩ (by simp) rfl
          refine step_call 18 #[.int .i64 a0] ((wanted_guard (j := 3) (b := false) (c := false) rfl (hdep ⟨3, .guard⟩ (by simp) rfl)).trans rfl) (by go_simp) ?_
          exact (num_v a0 u).mono (by rintro e w' ⟨rfl, hb⟩; exact ⟨_, rfl, rfl, hb⟩)
        refine stepsL_cons (fun a u hc hd hk hdep => ?_) ?_
        ·
          have d60 : (a.tmps[60]?).getD undef = (.agg #[.int .i64 (1), .int .u64 ((nb a0 : Nat) : Int)]) := hdep ⟨11, .data⟩ (by simp) rfl
          have d62 : (a.tmps[62]?).getD undef = (.agg #[.int .i64 (1), .int .u64 ((nb a0 : Nat) : Int)]) := hdep ⟨13, .data⟩ (by simp) rfl
          refine step_val (.bool false) u ((wanted_guard (j := 3) (b := false) (c := false) rfl (hdep ⟨3, .guard⟩ (by simp) rfl)).trans rfl) ?_ rfl (Below.refl _ _)
          go_simp
        refine stepsL_cons (fun a u hc hd hk hdep => ?_) ?_
        ·
          have d52 : (a.tmps[52]?).getD undef = (.bool false) := hdep ⟨3, .data⟩ (by simp) rfl
          have d63 : (a.tmps[63]?).getD undef = (.bool false) := hdep ⟨14, .data⟩ (by simp) rfl
          refine step_val (.bool false) u (wanted_plain rfl) ?_ rfl (Below.refl _ _)
          first | (go_simp; done) | rfl
        refine stepsL_cons (fun a u hc hd hk hdep => ?_) ?_
        ·
          have d64 : (a.tmps[64]?).getD undef = (.bool false) := hdep ⟨15, .data⟩ (by simp) rfl
          refine step_val (.bool false) u (wanted_plain rfl) ?_ rfl (Below.refl _ _)
          first | (go_simp; done) | rfl
        refine stepsL_cons (fun a u hc hd hk hdep => ?_) ?_
        ·
          have d7 : (a.tmps[7]?).getD undef = (.int .i64 (m)) := hk 7 (by kernel_rfl)
          refine step_val (.int .i64 (m)) u ((wanted_guard (j := 16) (b := false) (c := false) rfl (hdep ⟨16, .guard⟩ (by simp) rfl)).trans rfl) ?_ rfl (Below.refl _ _)
          first | (go_simp; done) | rfl
        refine stepsL_cons (fun a u hc hd hk hdep => ?_) ?_
        ·
          have d66 : (a.tmps[66]?).getD undef = (.int .i64 (m)) := hdep ⟨17, .data⟩ (by simp) rfl
          refine step_val (.bool true) u ((wanted_guard (j := 16) (b := false) (c := false) rfl (hdep ⟨16, .guard⟩ (by simp) rfl)).trans rfl) ?_ rfl (Below.refl _ _)
          go_simp
        refine stepsL_cons (fun a u hc hd hk hdep => ?_) ?_
        ·
          have d67 : (a.tmps[67]?).getD undef = (.bool true) := hdep ⟨18, .data⟩ (by simp) rfl
          refine step_val (.bool true) u ((wanted_guard (j := 16) (b := false) (c := false) rfl (hdep ⟨16, .chain⟩ (by simp) rfl)).trans rfl) ?_ rfl (Below.refl _ _)
          first | (go_simp; done) | rfl
        refine stepsL_cons (fun a u hc hd hk hdep => ?_) ?_
        ·
          have d0 : (a.tmps[0]?).getD undef = (.int .i64 (a0)) := hk 0 (by kernel_rfl)
          refine step_val (.int .i64 (a0)) u ((wanted_guard (j := 19) (b := true) (c := true) rfl (hdep ⟨19, .guard⟩ (by simp) rfl)).trans rfl) ?_ rfl (Below.refl _ _)
          first | (go_simp; done) | rfl
        refine stepsL_cons (fun a u hc hd hk hdep => ?_) ?_
        ·
          have d69 : (a.tmps[69]?).getD undef = (.int .i64 (a0)) := hdep ⟨20, .data⟩ (by simp) rfl
          refine step_val (.bool false) u ((wanted_guard (j := 19) (b := true) (c := true) rfl (hdep ⟨19, .guard⟩ (by simp) rfl)).trans rfl) ?_ rfl (Below.refl _ _)
          go_simp
        refine stepsL_cons (fun a u hc hd hk hdep => ?_) ?_
        ·
          have d68 : (a.tmps[68]?).getD undef = (.bool true) := hdep ⟨19, .data⟩ (by simp) rfl
          have d70 : (a.tmps[70]?).getD undef = (.bool false) := hdep ⟨21, .data⟩ (by simp) rfl
          refine step_val (.bool false) u ((wanted_guard (j := 16) (b := false) (c := false) rfl (hdep ⟨16, .guard⟩ (by simp) rfl)).trans rfl) ?_ rfl (Below.refl _ _)
          first | (go_simp; done) | rfl
        refine stepsL_cons (fun a u hc hd hk hdep => ?_) ?_
        ·
          have d65 : (a.tmps[65]?).getD undef = (.bool false) := hdep ⟨16, .data⟩ (by simp) rfl
          have d71 : (a.tmps[71]?).getD undef = (.bool false) := hdep ⟨22, .data⟩ (by simp) rfl
          refine step_val (.bool false) u (wanted_plain rfl) ?_ rfl (Below.refl _ _)
          first | (go_simp; done) | rfl
        refine stepsL_cons (fun a u hc hd hk hdep => ?_) ?_
        ·
          have d72 : (a.tmps[72]?).getD undef = (.bool false) := hdep ⟨23, .data⟩ (by simp) rfl
          refine step_val (.bool false) u (wanted_plain rfl) ?_ rfl (Below.refl _ _)
          first | (go_simp; done) | rfl
        refine stepsL_cons (fun a u hc hd hk hdep => ?_) ?_
        ·
          have d7 : (a.tmps[7]?).getD undef = (.int .i64 (m)) := hk 7 (by kernel_rfl)
          refine step_val (.int .i64 (m)) u ((wanted_guard (j := 24) (b := false) (c := false) rfl (hdep ⟨24, .guard⟩ (by simp) rfl)).trans rfl) ?_ rfl (Below.refl _ _)
          first | (go_simp; done) | rfl
        refine stepsL_cons (fun a u hc hd hk hdep => ?_) ?_
        ·
          have d74 : (a.tmps[74]?).getD undef = (.int .i64 (m)) := hdep ⟨25, .data⟩ (by simp) rfl
          refine step_val (.bool false) u ((wanted_guard (j := 24) (b := false) (c := false) rfl (hdep ⟨24, .guard⟩ (by simp) rfl)).trans rfl) ?_ rfl (Below.refl _ _)
          go_simp
        refine stepsL_cons (fun a u hc hd hk hdep => ?_) ?_
        ·
          have d75 : (a.tmps[75]?).getD undef = (.bool false) := hdep ⟨26, .data⟩ (by simp) rfl
          refine step_val (.bool false) u ((wanted_guard (j := 24) (b := false) (c := false) rfl (hdep ⟨24, .chain⟩ (by simp) rfl)).trans rfl) ?_ rfl (Below.refl _ _)
          first | (go_simp; done) | rfl
        refine stepsL_cons (fun a u hc hd hk hdep => ?_) ?_
        · exact step_skip ((wanted_guard (j := 27) (b := true) (c := false) rfl (hdep ⟨27, .guard⟩ (by simp) rfl)).trans rfl) rfl
        refine stepsL_cons (fun a u hc hd hk hdep => ?_) ?_
        · exact step_skip ((wanted_guard (j := 27) (b := true) (c := false) rfl (hdep ⟨27, .guard⟩ (by simp) rfl)).trans rfl) rfl
        refine stepsL_cons (fun a u hc hd hk hdep => ?_) ?_
        ·
          have d76 : (a.tmps[76]?).getD undef = (.bool false) := hdep ⟨27, .data⟩ (by simp) rfl
          have d78 : (a.tmps[78]?).getD undef = undef := hdep ⟨29, .data⟩ (by simp) rfl
          refine step_val (.bool false) u ((wanted_guard (j := 24) (b := false) (c := false) rfl (hdep ⟨24, .guard⟩ (by simp) rfl)).trans rfl) ?_ rfl (Below.refl _ _)
          first | (go_simp; done) | rfl
        refine stepsL_cons (fun a u hc hd hk hdep => ?_) ?_
        ·
          have d73 : (a.tmps[73]?).getD undef = (.bool false) := hdep ⟨24, .data⟩ (by simp) rfl
          have d79 : (a.tmps[79]?).getD undef = (.bool false) := hdep ⟨30, .data⟩ (by simp) rfl
          refine step_val (.bool false) u (wanted_plain rfl) ?_ rfl (Below.refl _ _)
          first | (go_simp; done) | rfl
        exact stepsL_nil
      intro vs wN1 hN hh
      obtain ⟨e0, e1, e2, e3, e4, e5, e6, e7, e8, e9, e10, e11, e12, e13, e14, e15, e16, e17, e18, e19, e20, e21, e22, e23, e24, e25, e26, e27, e28, e29, e30, e31, -⟩ := hh
      have eL : vs 31 = (.bool false) := e31
      clear e0 e1 e2 e3 e4 e5 e6 e7 e8 e9 e10 e11 e12 e13 e14 e15 e16 e17 e18 e19 e20 e21 e22 e23 e24 e25 e26 e27 e28 e29 e30 e31
      set_option maxRecDepth 100000 in simp only [putAll, Act.put, List.setIfInBounds_toArray, List.set_cons_zero, List.set_cons_succ, eL]
      obtain ⟨s0, s1, s2, s3, hB1⟩ := hN
      clear D1 D3 s0 s1 s2 s3
      have D9' := Lib.hid (fun A cap w hv => do_9' m 0 1 A cap w (M0.out) (by decide) (by rw [decide_eq_true (show m < 0 by omega)]; rfl) hv)
      have tb : tB (m != 0) = 1 := by rw [show (m != 0) = true by rw [bne_iff_ne]; omega]; rfl
      have wn : wrap64 (-m) = -m := by have h1 := M0.out; have h2 := L0.out; have h3 := B0.out; unfold I64 at h1 h3; unfold wrap64; omega
      have lm : ¬ (-m < m) := by omega
      have aa : (a1 < 0 ∧ ¬ (wrap64 (-a1) < a1) ∧ a1 < m) ∨ (0 < a1 ∧ wrap64 (-a1) = -a1 ∧ -a1 < a1 ∧ -a1 < m) := by
        have h1 := M0.out; have h2 := L0.out; have h3 := B0.out; have h4 := N0.out; unfold I64 at h1 h3; unfold wrap64; omega
      clear M0 L0 N0 B0 A0 hmin f0 wm hs
      have hAcc := hB1
      rcases aa with ⟨b1, b2, b3⟩ | ⟨b1, b2, b3, b4⟩
      all_goals go_wp2_with (first | (go_at_call 18; refine (num_v _ _).mono ?_; rintro e w1 ⟨rfl, hb1⟩; have hAcc := below_more hAcc hb1) | (go_at_call 17; refine (D9'.out _ _ _ (row_two (nb_lt _) (nb_lt _) (by simp) (by simp) (by simp) (by simp))).mono ?_; rintro e w1 ⟨rfl, hb1⟩; have hAcc := below_more (hAcc.alloc hAcc.size _) hb1) | (go_at_call 19; refine (truth_any _ _).mono ?_; rintro e w1 ⟨rfl, hb1⟩; have hAcc := below_more hAcc hb1))
      all_goals go_ret
      all_goals exact ⟨rfl, hAcc⟩
    · have g2 : ¬ m < 0 := by omega
      have g3 : ¬ 0 < m := by omega
      have Z0 := Lib.hid hs
      clear hs
      clear hneg hpos
      go_wp2_with fail
      refine region_words (fun w' => w'.cell? ⟨u7.heap.size, 0, none⟩ = some (.int .i64 (1)) ∧ w'.cell? ⟨u7.heap.size, 1, none⟩ = some (.int .u64 ((nb z : Nat) : Int)) ∧ w'.cell? ⟨u7.heap.size + 1, 0, none⟩ = some (.int .i64 (1)) ∧ w'.cell? ⟨u7.heap.size + 1, 1, none⟩ = some (.int .u64 ((nb m : Nat) : Int)) ∧ Below w.heap.size w w') [isW (.pointer (some ⟨u7.heap.size + 1, 0, none⟩)), isW (.int .i64 (1)), isW (.bool false), isW (.bool false), isW (.agg #[.int .i64 (1), .int .u64 ((nb z : Nat) : Int)]), isW (.int .i64 (a1)), isW (.agg #[.int .i64 (1), .int .u64 ((nb a1 : Nat) : Int)]), rowW [(1, nb z), (1, nb a1)], isW (.agg #[.int .i64 (1), .int .u64 ((nb zb : Nat) : Int)]), isW (.agg #[.int .i64 (1), .int .u64 ((nb m : Nat) : Int)]), rowW [(1, nb zb), (1, nb m)], isW (.agg #[.int .i64 (1), .int .u64 ((nb a0 : Nat) : Int)]), isW (.int .i64 (a0)), isW (.agg #[.int .i64 (1), .int .u64 ((nb a0 : Nat) : Int)]), isW (.bool false), isW (.bool false), isW (.bool false), isW (.int .i64 (m)), isW (.bool false), isW (.bool false), isW undef, isW undef, isW (.bool false), isW (.bool false), isW (.bool false), isW (.int .i64 (m)), isW (.bool false), isW (.bool false), isW undef, isW undef, isW (.bool false), isW (.bool false)] (by kernel_rfl) (by repeat' (first | exact monoL_nil | exact is_mono _ | exact row_mono _ | exact any_mono | refine monoL_cons ?_ ?_)) (by kernel_rfl) (by kernel_rfl) (fun _ _ h hb => keepF hb h) (⟨by simp [go_sem], by simp [go_sem], by simp [go_sem], by simp [go_sem], ((hB.alloc hB.size _).alloc (by simp; have := hB.size; omega) _).drew⟩) ?_ ?_
      · refine stepsL_cons (fun a u hc hd hk hdep => ?_) ?_
        ·
          have d6 : (a.tmps[6]?).getD undef = (.pointer (some ⟨u7.heap.size + 1, 0, none⟩)) := hk 6 (by kernel_rfl)
          refine step_val (.pointer (some ⟨u7.heap.size + 1, 0, none⟩)) u (wanted_plain rfl) ?_ rfl (Below.refl _ _)
          go_simp
        refine stepsL_cons (fun a u hc hd hk hdep => ?_) ?_
        ·
          have d49 : (a.tmps[49]?).getD undef = (.pointer (some ⟨u7.heap.size + 1, 0, none⟩)) := hdep ⟨0, .data⟩ (by simp) rfl
          refine step_val (.int .i64 (1)) u (wanted_plain rfl) ?_ rfl (Below.refl _ _)
          obtain ⟨s0, s1, s2, s3, s4⟩ := hc
          go_simp
        refine stepsL_cons (fun a u hc hd hk hdep => ?_) ?_
        ·
          have d50 : (a.tmps[50]?).getD undef = (.int .i64 (1)) := hdep ⟨1, .data⟩ (by simp) rfl
          refine step_val (.bool false) u (wanted_plain rfl) ?_ rfl (Below.refl _ _)
          go_simp
        refine stepsL_cons (fun a u hc hd hk hdep => ?_) ?_
        ·
          have d51 : (a.tmps[51]?).getD undef = (.bool false) := hdep ⟨2, .data⟩ (by simp) rfl
          refine step_val (.bool false) u (wanted_plain rfl) ?_ rfl (Below.refl _ _)
          first | (go_simp; done) | rfl
        refine stepsL_cons (fun a u hc hd hk hdep => ?_) ?_
        ·
          have d5 : (a.tmps[5]?).getD undef = (.pointer (some ⟨u7.heap.size, 0, none⟩)) := hk 5 (by kernel_rfl)
          refine step_val (.agg #[.int .i64 (1), .int .u64 ((nb z : Nat) : Int)]) u ((wanted_guard (j := 3) (b := false) (c := false) rfl (hdep ⟨3, .guard⟩ (by simp) rfl)).trans rfl) ?_ rfl (Below.refl _ _)
          obtain ⟨s0, s1, s2, s3, s4⟩ := hc
          go_simp
        refine stepsL_cons (fun a u hc hd hk hdep => ?_) ?_
        ·
          have d1 : (a.tmps[1]?).getD undef = (.int .i64 (a1)) := hk 1 (by kernel_rfl)
          refine step_val (.int .i64 (a1)) u ((wanted_guard (j := 3) (b := false) (c := false) rfl (hdep ⟨3, .guard⟩ (by simp) rfl)).trans rfl) ?_ rfl (Below.refl _ _)
          first | (go_simp; done) | rfl
        refine stepsL_cons (fun a u hc hd hk hdep => ?_) ?_
        ·
          have d54 : (a.tmps[54]?).getD undef = (.int .i64 (a1)) := hdep ⟨5, .data⟩ (by simp) rfl
          refine step_call 18 #[.int .i64 a1] ((wanted_guard (j := 3) (b := false) (c := false) rfl (hdep ⟨3, .chain⟩ (by simp) rfl)).trans rfl) (by go_simp) ?_
          exact (num_v a1 u).mono (by rintro e w' ⟨rfl, hb⟩; exact ⟨_, rfl, rfl, hb⟩)
        refine stepsL_cons (fun a u hc hd hk hdep => ?_) ?_
        ·
          have d53 : (a.tmps[53]?).getD undef = (.agg #[.int .i64 (1), .int .u64 ((nb z : Nat) : Int)]) := hdep ⟨4, .data⟩ (by simp) rfl
          have d55 : (a.tmps[55]?).getD undef = (.agg #[.int .i64 (1), .int .u64 ((nb a1 : Nat) : Int)]) := hdep ⟨6, .data⟩ (by simp) rfl
          refine step_val (.slice (some ⟨u.heap.size, 0, none⟩) 2 2) (u.alloc (.cells #[.int .i64 (1), .int .u64 ((nb z : Nat) : Int), .int .i64 (1), .int .u64 ((nb a1 : Nat) : Int)] 29)) ((wanted_guard (j := 3) (b := false) (c := false) rfl (hdep ⟨3, .guard⟩ (by simp) rfl)).trans rfl) ?_ ⟨_, 2, rfl, row_two (by first | exact nb_lt _ | decide) (by first | exact nb_lt _ | decide) (by simp) (by simp) (by simp) (by simp)⟩ (below1 _ _)
          go_simp
        refine stepsL_cons (fun a u hc hd hk hdep => ?_) ?_
        ·
          obtain ⟨A56, c56, d56, r56⟩ : rowW [(1, nb z), (1, nb a1)] ((a.tmps[56]?).getD undef) u := hdep ⟨7, .data⟩ (by simp) rfl
          refine step_call 17 #[.int .i64 3, .slice A56 2 c56] ((wanted_guard (j := 3) (b := false) (c := false) rfl (hdep ⟨3, .guard⟩ (by simp) rfl)).trans rfl) (by go_simp) ?_
          exact (D3.out _ _ u r56).mono (by rintro e w' ⟨rfl, hb⟩; exact ⟨_, rfl, rfl, hb⟩)
        refine stepsL_cons (fun a u hc hd hk hdep => ?_) ?_
        ·
          have d6 : (a.tmps[6]?).getD undef = (.pointer (some ⟨u7.heap.size + 1, 0, none⟩)) := hk 6 (by kernel_rfl)
          refine step_val (.agg #[.int .i64 (1), .int .u64 ((nb m : Nat) : Int)]) u ((wanted_guard (j := 3) (b := false) (c := false) rfl (hdep ⟨3, .guard⟩ (by simp) rfl)).trans rfl) ?_ rfl (Below.refl _ _)
          obtain ⟨s0, s1, s2, s3, s4⟩ := hc
          go_simp
        refine stepsL_cons (fun a u hc hd hk hdep => ?_) ?_
        ·
          have d57 : (a.tmps[57]?).getD undef = (.agg #[.int .i64 (1), .int .u64 ((nb zb : Nat) : Int)]) := hdep ⟨8, .data⟩ (by simp) rfl
          have d58 : (a.tmps[58]?).getD undef = (.agg #[.int .i64 (1), .int .u64 ((nb m : Nat) : Int)]) := hdep ⟨9, .data⟩ (by simp) rfl
          refine step_val (.slice (some ⟨u.heap.size, 0, none⟩) 2 2) (u.alloc (.cells #[.int .i64 (1), .int .u64 ((nb zb : Nat) : Int), .int .i64 (1), .int .u64 ((nb m : Nat) : Int)] 29)) ((wanted_guard (j := 3) (b := false) (c := false) rfl (hdep ⟨3, .guard⟩ (by simp) rfl)).trans rfl) ?_ ⟨_, 2, rfl, row_two (by first | exact nb_lt _ | decide) (by first | exact nb_lt _ | decide) (by simp) (by simp) (by simp) (by simp)⟩ (below1 _ _)
          go_simp
        refine stepsL_cons (fun a u hc hd hk hdep => ?_) ?_
        ·
          obtain ⟨A59, c59, d59, r59⟩ : rowW [(1, nb zb), (1, nb m)] ((a.tmps[59]?).getD undef) u := hdep ⟨10, .data⟩ (by simp) rfl
          refine step_call 17 #[.int .i64 1, .slice A59 2 c59] ((wanted_guard (j := 3) (b := false) (c := false) rfl (hdep ⟨3, .guard⟩ (by simp) rfl)).trans rfl) (by go_simp) ?_
          exact (D1.out _ _ u r59).mono (by rintro e w' ⟨rfl, hb⟩; exact ⟨_, rfl, rfl, hb⟩)
        refine stepsL_cons (fun a u hc hd hk hdep => ?_) ?_
        ·
          have d0 : (a.tmps[0]?).getD undef = (.int .i64 (a0)) := hk 0 (by kernel_rfl)
          refine step_val (.int .i64 (a0)) u ((wanted_guard (j := 3) (b := false) (c := false) rfl (hdep ⟨3, .guard⟩ (by simp) rfl)).trans rfl) ?_ rfl (Below.refl _ _)
          first | (go_simp; done) | rfl
        refine stepsL_cons (fun a u hc hd hk hdep => ?_) ?_
        ·
          have d61 : (a.tmps[61]?).getD undef = (.int .i64 (a0)) := hdep ⟨12, .data⟩ (by simp) rfl
          refine step_call 18 #[.int .i64 a0] ((wanted_guard (j := 3) (b := false) (c := false) rfl (hdep ⟨3, .guard⟩ (by simp) rfl)).trans rfl) (by go_simp) ?_
          exact (num_v a0 u).mono (by rintro e w' ⟨rfl, hb⟩; exact ⟨_, rfl, rfl, hb⟩)
        refine stepsL_cons (fun a u hc hd hk hdep => ?_) ?_
        ·
          have d60 : (a.tmps[60]?).getD undef = (.agg #[.int .i64 (1), .int .u64 ((nb a0 : Nat) : Int)]) := hdep ⟨11, .data⟩ (by simp) rfl
          have d62 : (a.tmps[62]?).getD undef = (.agg #[.int .i64 (1), .int .u64 ((nb a0 : Nat) : Int)]) := hdep ⟨13, .data⟩ (by simp) rfl
          refine step_val (.bool false) u ((wanted_guard (j := 3) (b := false) (c := false) rfl (hdep ⟨3, .guard⟩ (by simp) rfl)).trans rfl) ?_ rfl (Below.refl _ _)
          go_simp
        refine stepsL_cons (fun a u hc hd hk hdep => ?_) ?_
        ·
          have d52 : (a.tmps[52]?).getD undef = (.bool false) := hdep ⟨3, .data⟩ (by simp) rfl
          have d63 : (a.tmps[63]?).getD undef = (.bool false) := hdep ⟨14, .data⟩ (by simp) rfl
          refine step_val (.bool false) u (wanted_plain rfl) ?_ rfl (Below.refl _ _)
          first | (go_simp; done) | rfl
        refine stepsL_cons (fun a u hc hd hk hdep => ?_) ?_
        ·
          have d64 : (a.tmps[64]?).getD undef = (.bool false) := hdep ⟨15, .data⟩ (by simp) rfl
          refine step_val (.bool false) u (wanted_plain rfl) ?_ rfl (Below.refl _ _)
          first | (go_simp; done) | rfl
        refine stepsL_cons (fun a u hc hd hk hdep => ?_) ?_
        ·
          have d7 : (a.tmps[7]?).getD undef = (.int .i64 (m)) := hk 7 (by kernel_rfl)
          refine step_val (.int .i64 (m)) u ((wanted_guard (j := 16) (b := false) (c := false) rfl (hdep ⟨16, .guard⟩ (by simp) rfl)).trans rfl) ?_ rfl (Below.refl _ _)
          first | (go_simp; done) | rfl
        refine stepsL_cons (fun a u hc hd hk hdep => ?_) ?_
        ·
          have d66 : (a.tmps[66]?).getD undef = (.int .i64 (m)) := hdep ⟨17, .data⟩ (by simp) rfl
          refine step_val (.bool false) u ((wanted_guard (j := 16) (b := false) (c := false) rfl (hdep ⟨16, .guard⟩ (by simp) rfl)).trans rfl) ?_ rfl (Below.refl _ _)
          go_simp
        refine stepsL_cons (fun a u hc hd hk hdep => ?_) ?_
        ·
          have d67 : (a.tmps[67]?).getD undef = (.bool false) := hdep ⟨18, .data⟩ (by simp) rfl
          refine step_val (.bool false) u ((wanted_guard (j := 16) (b := false) (c := false) rfl (hdep ⟨16, .chain⟩ (by simp) rfl)).trans rfl) ?_ rfl (Below.refl _ _)
          first | (go_simp; done) | rfl
        refine stepsL_cons (fun a u hc hd hk hdep => ?_) ?_
        · exact step_skip ((wanted_guard (j := 19) (b := true) (c := false) rfl (hdep ⟨19, .guard⟩ (by simp) rfl)).trans rfl) rfl
        refine stepsL_cons (fun a u hc hd hk hdep => ?_) ?_
        · exact step_skip ((wanted_guard (j := 19) (b := true) (c := false) rfl (hdep ⟨19, .guard⟩ (by simp) rfl)).trans rfl) rfl
        refine stepsL_cons (fun a u hc hd hk hdep => ?_) ?_
        ·
          have d68 : (a.tmps[68]?).getD undef = (.bool false) := hdep ⟨19, .data⟩ (by simp) rfl
          have d70 : (a.tmps[70]?).getD undef = undef := hdep ⟨21, .data⟩ (by simp) rfl
          refine step_val (.bool false) u ((wanted_guard (j := 16) (b := false) (c := false) rfl (hdep ⟨16, .guard⟩ (by simp) rfl)).trans rfl) ?_ rfl (Below.refl _ _)
          first | (go_simp; done) | rfl
        refine stepsL_cons (fun a u hc hd hk hdep => ?_) ?_
        ·
          have d65 : (a.tmps[65]?).getD undef = (.bool false) := hdep ⟨16, .data⟩ (by simp) rfl
          have d71 : (a.tmps[71]?).getD undef = (.bool false) := hdep ⟨22, .data⟩ (by simp) rfl
          refine step_val (.bool false) u (wanted_plain rfl) ?_ rfl (Below.refl _ _)
          first | (go_simp; done) | rfl
        refine stepsL_cons (fun a u hc hd hk hdep => ?_) ?_
        ·
          have d72 : (a.tmps[72]?).getD undef = (.bool false) := hdep ⟨23, .data⟩ (by simp) rfl
          refine step_val (.bool false) u (wanted_plain rfl) ?_ rfl (Below.refl _ _)
          first | (go_simp; done) | rfl
        refine stepsL_cons (fun a u hc hd hk hdep => ?_) ?_
        ·
          have d7 : (a.tmps[7]?).getD undef = (.int .i64 (m)) := hk 7 (by kernel_rfl)
          refine step_val (.int .i64 (m)) u ((wanted_guard (j := 24) (b := false) (c := false) rfl (hdep ⟨24, .guard⟩ (by simp) rfl)).trans rfl) ?_ rfl (Below.refl _ _)
          first | (go_simp; done) | rfl
        refine stepsL_cons (fun a u hc hd hk hdep => ?_) ?_
        ·
          have d74 : (a.tmps[74]?).getD undef = (.int .i64 (m)) := hdep ⟨25, .data⟩ (by simp) rfl
          refine step_val (.bool false) u ((wanted_guard (j := 24) (b := false) (c := false) rfl (hdep ⟨24, .guard⟩ (by simp) rfl)).trans rfl) ?_ rfl (Below.refl _ _)
          go_simp
        refine stepsL_cons (fun a u hc hd hk hdep => ?_) ?_
        ·
          have d75 : (a.tmps[75]?).getD undef = (.bool false) := hdep ⟨26, .data⟩ (by simp) rfl
          refine step_val (.bool false) u ((wanted_guard (j := 24) (b := false) (c := false) rfl (hdep ⟨24, .chain⟩ (by simp) rfl)).trans rfl) ?_ rfl (Below.refl _ _)
          first | (go_simp; done) | rfl
        refine stepsL_cons (fun a u hc hd hk hdep => ?_) ?_
        · exact step_skip ((wanted_guard (j := 27) (b := true) (c := false) rfl (hdep ⟨27, .guard⟩ (by simp) rfl)).trans rfl) rfl
        refine stepsL_cons (fun a u hc hd hk hdep => ?_) ?_
        · exact step_skip ((wanted_guard (j := 27) (b := true) (c := false) rfl (hdep ⟨27, .guard⟩ (by simp) rfl)).trans rfl) rfl
        refine stepsL_cons (fun a u hc hd hk hdep => ?_) ?_
        ·
          have d76 : (a.tmps[76]?).getD undef = (.bool false) := hdep ⟨27, .data⟩ (by simp) rfl
          have d78 : (a.tmps[78]?).getD undef = undef := hdep ⟨29, .data⟩ (by simp) rfl
          refine step_val (.bool false) u ((wanted_guard (j := 24) (b := false) (c := false) rfl (hdep ⟨24, .guard⟩ (by simp) rfl)).trans rfl) ?_ rfl (Below.refl _ _)
          first | (go_simp; done) | rfl
        refine stepsL_cons (fun a u hc hd hk hdep => ?_) ?_
        ·
          have d73 : (a.tmps[73]?).getD undef = (.bool false) := hdep ⟨24, .data⟩ (by simp) rfl
          have d79 : (a.tmps[79]?).getD undef = (.bool false) := hdep ⟨30, .data⟩ (by simp) rfl
          refine step_val (.bool false) u (wanted_plain rfl) ?_ rfl (Below.refl _ _)
          first | (go_simp; done) | rfl
        exact stepsL_nil
      intro vs wN1 hN hh
      obtain ⟨e0, e1, e2, e3, e4, e5, e6, e7, e8, e9, e10, e11, e12, e13, e14, e15, e16, e17, e18, e19, e20, e21, e22, e23, e24, e25, e26, e27, e28, e29, e30, e31, -⟩ := hh
      have eL : vs 31 = (.bool false) := e31
      clear e0 e1 e2 e3 e4 e5 e6 e7 e8 e9 e10 e11 e12 e13 e14 e15 e16 e17 e18 e19 e20 e21 e22 e23 e24 e25 e26 e27 e28 e29 e30 e31
      set_option maxRecDepth 100000 in simp only [putAll, Act.put, List.setIfInBounds_toArray, List.set_cons_zero, List.set_cons_succ, eL]
      obtain ⟨s0, s1, s2, s3, hB1⟩ := hN
      clear D1 D3 s0 s1 s2 s3
      obtain rfl := Z0.out
      clear g2 g3
      have D9' := Lib.hid (fun A cap w hv => do_9' 0 0 0 A cap w (by decide) (by decide) (rfl) hv)
      have tb : tB false = 0 := rfl
      have aa : (a1 < 0 ∧ ¬ (wrap64 (-a1) < a1) ∧ a1 < 0) ∨ (0 < a1 ∧ wrap64 (-a1) = -a1 ∧ -a1 < a1 ∧ -a1 < 0) := by
        have h1 := M0.out; have h2 := L0.out; have h3 := B0.out; have h4 := N0.out; unfold I64 at h1 h3; unfold wrap64; omega
      clear M0 L0 N0 B0 A0 hmin f0 wm
      have hAcc := hB1
      rcases aa with ⟨b1, b2, b3⟩ | ⟨b1, b2, b3, b4⟩
      all_goals go_wp2_with (first | (go_at_call 18; refine (num_v _ _).mono ?_; rintro e w1 ⟨rfl, hb1⟩; have hAcc := below_more hAcc hb1) | (go_at_call 17; refine (D9'.out _ _ _ (row_two (nb_lt _) (nb_lt _) (by simp) (by simp) (by simp) (by simp))).mono ?_; rintro e w1 ⟨rfl, hb1⟩; have hAcc := below_more (hAcc.alloc hAcc.size _) hb1) | (go_at_call 19; refine (truth_any _ _).mono ?_; rintro e w1 ⟨rfl, hb1⟩; have hAcc := below_more hAcc hb1))
      all_goals go_ret
      all_goals exact ⟨rfl, hAcc⟩
    · have g1 : 0 < a0 := hpos hs
      have g2 : ¬ a0 ≤ 0 := by omega
      have g3 : ¬ m < 0 := by omega
      clear hneg hpos
      go_wp2_with fail
      refine region_words (fun w' => w'.cell? ⟨u7.heap.size, 0, none⟩ = some (.int .i64 (1)) ∧ w'.cell? ⟨u7.heap.size, 1, none⟩ = some (.int .u64 ((nb z : Nat) : Int)) ∧ w'.cell? ⟨u7.heap.size + 1, 0, none⟩ = some (.int .i64 (1)) ∧ w'.cell? ⟨u7.heap.size + 1, 1, none⟩ = some (.int .u64 ((nb m : Nat) : Int)) ∧ Below w.heap.size w w') [isW (.pointer (some ⟨u7.heap.size + 1, 0, none⟩)), isW (.int .i64 (1)), isW (.bool false), isW (.bool false), isW (.agg #[.int .i64 (1), .int .u64 ((nb z : Nat) : Int)]), isW (.int .i64 (a1)), isW (.agg #[.int .i64 (1), .int .u64 ((nb a1 : Nat) : Int)]), rowW [(1, nb z), (1, nb a1)], isW (.agg #[.int .i64 (1), .int .u64 ((nb zb : Nat) : Int)]), isW (.agg #[.int .i64 (1), .int .u64 ((nb m : Nat) : Int)]), rowW [(1, nb zb), (1, nb m)], isW (.agg #[.int .i64 (1), .int .u64 ((nb a0 : Nat) : Int)]), isW (.int .i64 (a0)), isW (.agg #[.int .i64 (1), .int .u64 ((nb a0 : Nat) : Int)]), isW (.bool false), isW (.bool false), isW (.bool false), isW (.int .i64 (m)), isW (.bool false), isW (.bool false), isW undef, isW undef, isW (.bool false), isW (.bool false), isW (.bool false), isW (.int .i64 (m)), isW (.bool true), isW (.bool true), isW (.int .i64 (a0)), isW (.bool false), isW (.bool false), isW (.bool false)] (by kernel_rfl) (by repeat' (first | exact monoL_nil | exact is_mono _ | exact row_mono _ | exact any_mono | refine monoL_cons ?_ ?_)) (by kernel_rfl) (by kernel_rfl) (fun _ _ h hb => keepF hb h) (⟨by simp [go_sem], by simp [go_sem], by simp [go_sem], by simp [go_sem], ((hB.alloc hB.size _).alloc (by simp; have := hB.size; omega) _).drew⟩) ?_ ?_
      · refine stepsL_cons (fun a u hc hd hk hdep => ?_) ?_
        ·
          have d6 : (a.tmps[6]?).getD undef = (.pointer (some ⟨u7.heap.size + 1, 0, none⟩)) := hk 6 (by kernel_rfl)
          refine step_val (.pointer (some ⟨u7.heap.size + 1, 0, none⟩)) u (wanted_plain rfl) ?_ rfl (Below.refl _ _)
          go_simp
        refine stepsL_cons (fun a u hc hd hk hdep => ?_) ?_
        ·
          have d49 : (a.tmps[49]?).getD undef = (.pointer (some ⟨u7.heap.size + 1, 0, none⟩)) := hdep ⟨0, .data⟩ (by simp) rfl
          refine step_val (.int .i64 (1)) u (wanted_plain rfl) ?_ rfl (Below.refl _ _)
          obtain ⟨s0, s1, s2, s3, s4⟩ := hc
          go_simp
        refine stepsL_cons (fun a u hc hd hk hdep => ?_) ?_
        ·
          have d50 : (a.tmps[50]?).getD undef = (.int .i64 (1)) := hdep ⟨1, .data⟩ (by simp) rfl
          refine step_val (.bool false) u (wanted_plain rfl) ?_ rfl (Below.refl _ _)
          go_simp
        refine stepsL_cons (fun a u hc hd hk hdep => ?_) ?_
        ·
          have d51 : (a.tmps[51]?).getD undef = (.bool false) := hdep ⟨2, .data⟩ (by simp) rfl
          refine step_val (.bool false) u (wanted_plain rfl) ?_ rfl (Below.refl _ _)
          first | (go_simp; done) | rfl
        refine stepsL_cons (fun a u hc hd hk hdep => ?_) ?_
        ·
          have d5 : (a.tmps[5]?).getD undef = (.pointer (some ⟨u7.heap.size, 0, none⟩)) := hk 5 (by kernel_rfl)
          refine step_val (.agg #[.int .i64 (1), .int .u64 ((nb z : Nat) : Int)]) u ((wanted_guard (j := 3) (b := false) (c := false) rfl (hdep ⟨3, .guard⟩ (by simp) rfl)).trans rfl) ?_ rfl (Below.refl _ _)
          obtain ⟨s0, s1, s2, s3, s4⟩ := hc
          go_simp
        refine stepsL_cons (fun a u hc hd hk hdep => ?_) ?_
        ·
          have d1 : (a.tmps[1]?).getD undef = (.int .i64 (a1)) := hk 1 (by kernel_rfl)
          refine step_val (.int .i64 (a1)) u ((wanted_guard (j := 3) (b := false) (c := false) rfl (hdep ⟨3, .guard⟩ (by simp) rfl)).trans rfl) ?_ rfl (Below.refl _ _)
          first | (go_simp; done) | rfl
        refine stepsL_cons (fun a u hc hd hk hdep => ?_) ?_
        ·
          have d54 : (a.tmps[54]?).getD undef = (.int .i64 (a1)) := hdep ⟨5, .data⟩ (by simp) rfl
          refine step_call 18 #[.int .i64 a1] ((wanted_guard (j := 3) (b := false) (c := false) rfl (hdep ⟨3, .chain⟩ (by simp) rfl)).trans rfl) (by go_simp) ?_
          exact (num_v a1 u).mono (by rintro e w' ⟨rfl, hb⟩; exact ⟨_, rfl, rfl, hb⟩)
        refine stepsL_cons (fun a u hc hd hk hdep => ?_) ?_
        ·
          have d53 : (a.tmps[53]?).getD undef = (.agg #[.int .i64 (1), .int .u64 ((nb z : Nat) : Int)]) := hdep ⟨4, .data⟩ (by simp) rfl
          have d55 : (a.tmps[55]?).getD undef = (.agg #[.int .i64 (1), .int .u64 ((nb a1 : Nat) : Int)]) := hdep ⟨6, .data⟩ (by simp) rfl
          refine step_val (.slice (some ⟨u.heap.size, 0, none⟩) 2 2) (u.alloc (.cells #[.int .i64 (1), .int .u64 ((nb z : Nat) : Int), .int .i64 (1), .int .u64 ((nb a1 : Nat) : Int)] 29)) ((wanted_guard (j := 3) (b := false) (c := false) rfl (hdep ⟨3, .guard⟩ (by simp) rfl)).trans rfl) ?_ ⟨_, 2, rfl, row_two (by first | exact nb_lt _ | decide) (by first | exact nb_lt _ | decide) (by simp) (by simp) (by simp) (by simp)⟩ (below1 _ _)
          go_simp
        refine stepsL_cons (fun a u hc hd hk hdep => ?_) ?_
        ·
          obtain ⟨A56, c56, d56, r56⟩ : rowW [(1, nb z), (1, nb a1)] ((a.tmps[56]?).getD undef) u := hdep ⟨7, .data⟩ (by simp) rfl
          refine step_call 17 #[.int .i64 3, .slice A56 2 c56] ((wanted_guard (j := 3) (b := false) (c := false) rfl (hdep ⟨3, .guard⟩ (by simp) rfl)).trans rfl) (by go_simp) ?_
          exact (D3.out _ _ u r56).mono (by rintro e w' ⟨rfl, hb⟩; exact ⟨_, rfl, rfl, hb⟩)
        refine stepsL_cons (fun a u hc hd hk hdep => ?_) ?_
        ·
          have d6 : (a.tmps[6]?).getD undef = (.pointer (some ⟨u7.heap.size + 1, 0, none⟩)) := hk 6 (by kernel_rfl)
          refine step_val (.agg #[.int .i64 (1), .int .u64 ((nb m : Nat) : Int)]) u ((wanted_guard (j := 3) (b := false) (c := false) rfl (hdep ⟨3, .guard⟩ (by simp) rfl)).trans rfl) ?_ rfl (Below.refl _ _)
          obtain ⟨s0, s1, s2, s3, s4⟩ := hc
          go_simp
        refine stepsL_cons (fun a u hc hd hk hdep => ?_) ?_
        ·
          have d57 : (a.tmps[57]?).getD undef = (.agg #[.int .i64 (1), .int .u64 ((nb zb : Nat) : Int)]) := hdep ⟨8, .data⟩ (by simp) rfl
          have d58 : (a.tmps[58]?).getD undef = (.agg #[.int .i64 (1), .int .u64 ((nb m : Nat) : Int)]) := hdep ⟨9, .data⟩ (by simp) rfl
          refine step_val (.slice (some ⟨u.heap.size, 0, none⟩) 2 2) (u.alloc (.cells #[.int .i64 (1), .int .u64 ((nb zb : Nat) : Int), .int .i64 (1), .int .u64 ((nb m : Nat) : Int)] 29)) ((wanted_guard (j := 3) (b := false) (c := false) rfl (hdep ⟨3, .guard⟩ (by simp) rfl)).trans rfl) ?_ ⟨_, 2, rfl, row_two (by first | exact nb_lt _ | decide) (by first | exact nb_lt _ | decide) (by simp) (by simp) (by simp) (by simp)⟩ (below1 _ _)
          go_simp
        refine stepsL_cons (fun a u hc hd hk hdep => ?_) ?_
        ·
          obtain ⟨A59, c59, d59, r59⟩ : rowW [(1, nb zb), (1, nb m)] ((a.tmps[59]?).getD undef) u := hdep ⟨10, .data⟩ (by simp) rfl
          refine step_call 17 #[.int .i64 1, .slice A59 2 c59] ((wanted_guard (j := 3) (b := false) (c := false) rfl (hdep ⟨3, .guard⟩ (by simp) rfl)).trans rfl) (by go_simp) ?_
          exact (D1.out _ _ u r59).mono (by rintro e w' ⟨rfl, hb⟩; exact ⟨_, rfl, rfl, hb⟩)
        refine stepsL_cons (fun a u hc hd hk hdep => ?_) ?_
        ·
          have d0 : (a.tmps[0]?).getD undef = (.int .i64 (a0)) := hk 0 (by kernel_rfl)
          refine step_val (.int .i64 (a0)) u ((wanted_guard (j := 3) (b := false) (c := false) rfl (hdep ⟨3, .guard⟩ (by simp) rfl)).trans rfl) ?_ rfl (Below.refl _ _)
          first | (go_simp; done) | rfl
        refine stepsL_cons (fun a u hc hd hk hdep => ?_) ?_
        ·
          have d61 : (a.tmps[61]?).getD undef = (.int .i64 (a0)) := hdep ⟨12, .data⟩ (by simp) rfl
          refine step_call 18 #[.int .i64 a0] ((wanted_guard (j := 3) (b := false) (c := false) rfl (hdep ⟨3, .guard⟩ (by simp) rfl)).trans rfl) (by go_simp) ?_
          exact (num_v a0 u).mono (by rintro e w' ⟨rfl, hb⟩; exact ⟨_, rfl, rfl, hb⟩)
        refine stepsL_cons (fun a u hc hd hk hdep => ?_) ?_
        ·
          have d60 : (a.tmps[60]?).getD undef = (.agg #[.int .i64 (1), .int .u64 ((nb a0 : Nat) : Int)]) := hdep ⟨11, .data⟩ (by simp) rfl
          have d62 : (a.tmps[62]?).getD undef = (.agg #[.int .i64 (1), .int .u64 ((nb a0 : Nat) : Int)]) := hdep ⟨13, .data⟩ (by simp) rfl
          refine step_val (.bool false) u ((wanted_guard (j := 3) (b := false) (c := false) rfl (hdep ⟨3, .guard⟩ (by simp) rfl)).trans rfl) ?_ rfl (Below.refl _ _)
          go_simp
        refine stepsL_cons (fun a u hc hd hk hdep => ?_) ?_
        ·
          have d52 : (a.tmps[52]?).getD undef = (.bool false) := hdep ⟨3, .data⟩ (by simp) rfl
          have d63 : (a.tmps[63]?).getD undef = (.bool false) := hdep ⟨14, .data⟩ (by simp) rfl
          refine step_val (.bool false) u (wanted_plain rfl) ?_ rfl (Below.refl _ _)
          first | (go_simp; done) | rfl
        refine stepsL_cons (fun a u hc hd hk hdep => ?_) ?_
        ·
          have d64 : (a.tmps[64]?).getD undef = (.bool false) := hdep ⟨15, .data⟩ (by simp) rfl
          refine step_val (.bool false) u (wanted_plain rfl) ?_ rfl (Below.refl _ _)
          first | (go_simp; done) | rfl
        refine stepsL_cons (fun a u hc hd hk hdep => ?_) ?_
        ·
          have d7 : (a.tmps[7]?).getD undef = (.int .i64 (m)) := hk 7 (by kernel_rfl)
          refine step_val (.int .i64 (m)) u ((wanted_guard (j := 16) (b := false) (c := false) rfl (hdep ⟨16, .guard⟩ (by simp) rfl)).trans rfl) ?_ rfl (Below.refl _ _)
          first | (go_simp; done) | rfl
        refine stepsL_cons (fun a u hc hd hk hdep => ?_) ?_
        ·
          have d66 : (a.tmps[66]?).getD undef = (.int .i64 (m)) := hdep ⟨17, .data⟩ (by simp) rfl
          refine step_val (.bool false) u ((wanted_guard (j := 16) (b := false) (c := false) rfl (hdep ⟨16, .guard⟩ (by simp) rfl)).trans rfl) ?_ rfl (Below.refl _ _)
          go_simp
        refine stepsL_cons (fun a u hc hd hk hdep => ?_) ?_
        ·
          have d67 : (a.tmps[67]?).getD undef = (.bool false) := hdep ⟨18, .data⟩ (by simp) rfl
          refine step_val (.bool false) u ((wanted_guard (j := 16) (b := false) (c := false) rfl (hdep ⟨16, .chain⟩ (by simp) rfl)).trans rfl) ?_ rfl (Below.refl _ _)
          first | (go_simp; done) | rfl
        refine stepsL_cons (fun a u hc hd hk hdep => ?_) ?_
        · exact step_skip ((wanted_guard (j := 19) (b := true) (c := false) rfl (hdep ⟨19, .guard⟩ (by simp) rfl)).trans rfl) rfl
        refine stepsL_cons (fun a u hc hd hk hdep => ?_) ?_
        · exact step_skip ((wanted_guard (j := 19) (b := true) (c := false) rfl (hdep ⟨19, .guard⟩ (by simp) rfl)).trans rfl) rfl
        refine stepsL_cons (fun a u hc hd hk hdep => ?_) ?_
        ·
          have d68 : (a.tmps[68]?).getD undef = (.bool false) := hdep ⟨19, .data⟩ (by simp) rfl
          have d70 : (a.tmps[70]?).getD undef = undef := hdep ⟨21, .data⟩ (by simp) rfl
          refine step_val (.bool false) u ((wanted_guard (j := 16) (b := false) (c := false) rfl (hdep ⟨16, .guard⟩ (by simp) rfl)).trans rfl) ?_ rfl (Below.refl _ _)
          first | (go_simp; done) | rfl
        refine stepsL_cons (fun a u hc hd hk hdep => ?_) ?_
        ·
          have d65 : (a.tmps[65]?).getD undef = (.bool false) := hdep ⟨16, .data⟩ (by simp) rfl
          have d71 : (a.tmps[71]?).getD undef = (.bool false) := hdep ⟨22, .data⟩ (by simp) rfl
          refine step_val (.bool false) u (wanted_plain rfl) ?_ rfl (Below.refl _ _)
          first | (go_simp; done) | rfl
        refine stepsL_cons (fun a u hc hd hk hdep => ?_) ?_
        ·
          have d72 : (a.tmps[72]?).getD undef = (.bool false) := hdep ⟨23, .data⟩ (by simp) rfl
          refine step_val (.bool false) u (wanted_plain rfl) ?_ rfl (Below.refl _ _)
          first | (go_simp; done) | rfl
        refine stepsL_cons (fun a u hc hd hk hdep => ?_) ?_
        ·
          have d7 : (a.tmps[7]?).getD undef = (.int .i64 (m)) := hk 7 (by kernel_rfl)
          refine step_val (.int .i64 (m)) u ((wanted_guard (j := 24) (b := false) (c := false) rfl (hdep ⟨24, .guard⟩ (by simp) rfl)).trans rfl) ?_ rfl (Below.refl _ _)
          first | (go_simp; done) | rfl
        refine stepsL_cons (fun a u hc hd hk hdep => ?_) ?_
        ·
          have d74 : (a.tmps[74]?).getD undef = (.int .i64 (m)) := hdep ⟨25, .data⟩ (by simp) rfl
          refine step_val (.bool true) u ((wanted_guard (j := 24) (b := false) (c := false) rfl (hdep ⟨24, .guard⟩ (by simp) rfl)).trans rfl) ?_ rfl (Below.refl _ _)
          go_simp
        refine stepsL_cons (fun a u hc hd hk hdep => ?_) ?_
        ·
          have d75 : (a.tmps[75]?).getD undef = (.bool true) := hdep ⟨26, .data⟩ (by simp) rfl
          refine step_val (.bool true) u ((wanted_guard (j := 24) (b := false) (c := false) rfl (hdep ⟨24, .chain⟩ (by simp) rfl)).trans rfl) ?_ rfl (Below.refl _ _)
          first | (go_simp; done) | rfl
        refine stepsL_cons (fun a u hc hd hk hdep => ?_) ?_
        ·
          have d0 : (a.tmps[0]?).getD undef = (.int .i64 (a0)) := hk 0 (by kernel_rfl)
          refine step_val (.int .i64 (a0)) u ((wanted_guard (j := 27) (b := true) (c := true) rfl (hdep ⟨27, .guard⟩ (by simp) rfl)).trans rfl) ?_ rfl (Below.refl _ _)
          first | (go_simp; done) | rfl
        refine stepsL_cons (fun a u hc hd hk hdep => ?_) ?_
        ·
          have d77 : (a.tmps[77]?).getD undef = (.int .i64 (a0)) := hdep ⟨28, .data⟩ (by simp) rfl
          refine step_val (.bool false) u ((wanted_guard (j := 27) (b := true) (c := true) rfl (hdep ⟨27, .guard⟩ (by simp) rfl)).trans rfl) ?_ rfl (Below.refl _ _)
          go_simp
        refine stepsL_cons (fun a u hc hd hk hdep => ?_) ?_
        ·
          have d76 : (a.tmps[76]?).getD undef = (.bool true) := hdep ⟨27, .data⟩ (by simp) rfl
          have d78 : (a.tmps[78]?).getD undef = (.bool false) := hdep ⟨29, .data⟩ (by simp) rfl
          refine step_val (.bool false) u ((wanted_guard (j := 24) (b := false) (c := false) rfl (hdep ⟨24, .guard⟩ (by simp) rfl)).trans rfl) ?_ rfl (Below.refl _ _)
          first | (go_simp; done) | rfl
        refine stepsL_cons (fun a u hc hd hk hdep => ?_) ?_
        ·
          have d73 : (a.tmps[73]?).getD undef = (.bool false) := hdep ⟨24, .data⟩ (by simp) rfl
          have d79 : (a.tmps[79]?).getD undef = (.bool false) := hdep ⟨30, .data⟩ (by simp) rfl
          refine step_val (.bool false) u (wanted_plain rfl) ?_ rfl (Below.refl _ _)
          first | (go_simp; done) | rfl
        exact stepsL_nil
      intro vs wN1 hN hh
      obtain ⟨e0, e1, e2, e3, e4, e5, e6, e7, e8, e9, e10, e11, e12, e13, e14, e15, e16, e17, e18, e19, e20, e21, e22, e23, e24, e25, e26, e27, e28, e29, e30, e31, -⟩ := hh
      have eL : vs 31 = (.bool false) := e31
      clear e0 e1 e2 e3 e4 e5 e6 e7 e8 e9 e10 e11 e12 e13 e14 e15 e16 e17 e18 e19 e20 e21 e22 e23 e24 e25 e26 e27 e28 e29 e30 e31
      set_option maxRecDepth 100000 in simp only [putAll, Act.put, List.setIfInBounds_toArray, List.set_cons_zero, List.set_cons_succ, eL]
      obtain ⟨s0, s1, s2, s3, hB1⟩ := hN
      clear D1 D3 s0 s1 s2 s3
      have D9' := Lib.hid (fun A cap w hv => do_9' (-m) 0 1 A cap w (by have := M0.out; unfold I64 at this ⊢; omega) (by decide) (by rw [decide_eq_true (show (-m) < 0 by omega)]; rfl) hv)
      have tb : tB (m != 0) = 1 := by rw [show (m != 0) = true by rw [bne_iff_ne]; omega]; rfl
      have wn : wrap64 (-m) = -m := by have h1 := M0.out; have h2 := L0.out; have h3 := B0.out; unfold I64 at h1 h3; unfold wrap64; omega
      have lm : -m < m := by omega
      have aa : (a1 < 0 ∧ ¬ (wrap64 (-a1) < a1) ∧ a1 < (-m)) ∨ (0 < a1 ∧ wrap64 (-a1) = -a1 ∧ -a1 < a1 ∧ -a1 < (-m)) := by
        have h1 := M0.out; have h2 := L0.out; have h3 := B0.out; have h4 := N0.out; unfold I64 at h1 h3; unfold wrap64; omega
      clear M0 L0 N0 B0 A0 hmin f0 wm hs
      have hAcc := hB1
      rcases aa with ⟨b1, b2, b3⟩ | ⟨b1, b2, b3, b4⟩
      all_goals go_wp2_with (first | (go_at_call 18; refine (num_v _ _).mono ?_; rintro e w1 ⟨rfl, hb1⟩; have hAcc := below_more hAcc hb1) | (go_at_call 17; refine (D9'.out _ _ _ (row_two (nb_lt _) (nb_lt _) (by simp) (by simp) (by simp) (by simp))).mono ?_; rintro e w1 ⟨rfl, hb1⟩; have hAcc := below_more (hAcc.alloc hAcc.size _) hb1) | (go_at_call 19; refine (truth_any _ _).mono ?_; rintro e w1 ⟨rfl, hb1⟩; have hAcc := below_more hAcc hb1))
      all_goals go_ret
      all_goals exact ⟨rfl, hAcc⟩

set_option maxRecDepth 100000 in
theorem lifted (os : Os) (started : os.Started) (H : Type) (enc : TypeId × Value → H) :
    ReturnsInHanded {} Try.checked os 7 .any (Rows.valueDividesSpec.pre6 enc Try.prog Try.f7 Rows.valueDividesRow.domain false) (Rows.valueDividesSpec.post enc Try.prog Try.f7 false true false false) := by
  refine returnsInHanded_of_change (C := Try.checked) own started (by kernel_rfl) Try.func7
    (ChangeSpec.witness6 (enc := enc) (C := Try.checked) false ⟨#[], #[.int .i64 0, .int .i64 0], []⟩ 8 (by kernel_rfl) (by kernel_rfl) (by kernel_rfl) (by kernel_rfl)) ?_
  intro W base args ds gs before hval0 hW hcnd _
  have hval : ∀ (j : Nat) t v, Try.f7.params[j]? = some t → args[j]? = some v → Value.okWide Try.prog W .any base t v := hval0
  have hW' := hW
  obtain ⟨p, q, hA0, hV, rfl, hfz, hnd⟩ := hW
  have hA : DataW.TrodAll enc Try.prog W 0 (fun _ => true) true Try.f7.params.toList args.toList ds p := hA0
  rw [Try.params7] at hA hval
  obtain ⟨v0, vs0, d0, ds0, p0, q0, hargs, rfl, rfl, h0, r0⟩ := trodAll_cons hA
  obtain ⟨v1, vs1, d1, ds1, p1, q1, rfl, rfl, rfl, h1, r1⟩ := trodAll_cons r0
  obtain ⟨rfl, rfl, rfl⟩ := trodAll_nil r1
  obtain rfl : args = #[v0, v1] := by cases args; simp_all
  obtain ⟨rfl, rfl⟩ := trodVars_none hV
  have kk0 := h0
  have lt0 : ∀ x ∈ p0, x.block < W.heap.size := by obtain ⟨m, hm⟩ := kk0; exact DataW.trod_lt m _ _ _ hm
  have kk1 := h1
  have lt1 : ∀ x ∈ p1, x.block < W.heap.size := by obtain ⟨m, hm⟩ := kk1; exact DataW.trod_lt m _ _ _ hm
  obtain ⟨a0, rfl, rfl, rfl, w0⟩ := open_int Try.underlying2 (hval 0 2 v0 rfl rfl) h0
  obtain ⟨a1, rfl, rfl, rfl, w1⟩ := open_int Try.underlying2 (hval 1 2 v1 rfl rfl) h1
  clear hA0 hval0
  refine (walk W a0 w0 a1 w1).mono fun e W' ⟨he, bel⟩ => ?_
  subst he
  exact ⟨_, rfl, _, _, _, [], _, [], hW', trodAll_mk1 (shut_bool Try.underlying4 _), (trodAll_cons_mk (Below.trod laidOut (by kernel_rfl) (of_decide_eq_true (by kernel_rfl)) kk0 bel lt0) (trodAll_cons_mk (Below.trod laidOut (by kernel_rfl) (of_decide_eq_true (by kernel_rfl)) kk1 bel lt1) trodAll_mk0)), rfl, bel.frame _, fun h => by cases h⟩

theorem over : Rows.valueDividesRow.holds Try.pinned (OpenSpec.ofChange Rows.valueDividesSpec) :=
  OpenClaim.holds_of_wide 7 Try.f7 rfl rfl rfl rfl rfl rfl rfl ⟨rfl, rfl, rfl, rfl, rfl⟩ rfl rfl rfl rfl rfl (by kernel_rfl) Try.func7 (by kernel_rfl)
    (of_decide_eq_true (by kernel_rfl)) (by unfold Func.isWrapper; first | (rw [if_pos (by decide +kernel)]; kernel_rfl) | (rw [if_neg (by decide +kernel)]; exact ⟨rfl, rfl⟩))
    (fun os started H enc _ => lifted os started H enc)

/-- the statement -/
theorem proved : Rows.ValueDividesSaid :=
  over
#print axioms proved
end Go.Proofs.Ytocciehjpgkceaa.valueDivides
