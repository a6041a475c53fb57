/- RCmpR, Open -/
import Derived.Test.YtfjnphiegoogoaaZ18
import Derived.Test.YtfjnphiegoogoaaZ03
import Derived.Deep.SlicePairs
/- RCmpR -/
namespace Go.Proofs.Ytfjnphiegoogoaa
open Go.ChangeShapes Go.WideShapes Go.ChangeAt Go.RowKit Go.Fl
set_option linter.unusedVariables false
set_option linter.unusedSimpArgs false

set_option maxHeartbeats 8000000 in
set_option maxRecDepth 100000 in
theorem rcmp_r11 (op : Int) (b c r : Nat) (w : World) (h7 : 7 ≤ op) (h12 : op ≤ 12) (hb : b < 18446744073709551616) (hc : c < 18446744073709551616) (hl : decide (vordP 4 b 4 c < 0) = true) (hx : c = b) (hr : b2n (cmpS op (eqB b c) (ltB b c) (ltB c b)) = r) :
    Calls Try.prog 35 #[.int .i64 op, .agg #[.int .i64 4, .int .u64 (b : Int)], .agg #[.int .i64 4, .int .u64 (c : Int)]] w fun e w' => e = .returned (.agg #[.int .i64 2, .int .u64 ((r : Nat) : Int)]) ∧ Below w.heap.size w w' := by
  have he := eqR
  have hx2 : ((b : Int) = (c : Int)) ↔ b = c := by omega
  obtain rfl : b = c := hx.symm
  clear hx2
  have H1 := Lib.hid (fun w => requal_any b b w hb hb)
  have H2 := Lib.hid (fun w => rless_any b b w hb hb)
  have H3 := H2
  generalize eqB b b = y at *
  generalize ltB b b = x at *
  have z : Bool := true
  have H := Lib.hid (fun v (hv : v = cmpS op y x x) => (hv ▸ hr : b2n v = r))
  clear hr
  have base := (TwoR.start 4 b 4 b w).later (Below.refl _ _).drew
  go_enter Try.func35, Try.ntmps35
  go_wp2_with fail
  have KD := keepsD_true []
  refine region_words (TwoR w 4 b 4 b) [isW (.agg #[.int .i64 (4), .int .u64 ((b : Nat) : Int)]), isW (.agg #[.int .i64 (4), .int .u64 ((b : Nat) : Int)]), isW (.int .i64 (vordP 4 b 4 b)), isW (.bool true), isW (.agg #[.int .i64 (4), .int .u64 ((b : Nat) : Int)]), isW (.agg #[.int .i64 (4), .int .u64 ((b : Nat) : Int)]), isW (.bool true), isW (.bool true), isW (.bool true)] (by kernel_rfl) (by repeat' (first | exact monoL_nil | exact is_mono _ | exact row_mono _ | exact any_mono | refine monoL_cons ?_ ?_)) (by kernel_rfl) (by kernel_rfl) (fun _ _ h hb => TwoR.later h hb) base ?_ ?_
  · intro KC
    refine stepsL_cons (fun a u hc9 hdd hd hk9 hdep => ?_) ?_
    ·
      have d4 : (a.tmps[4]?).getD undef = (.pointer (some ⟨w.heap.size, 0, none⟩)) := hk9 4 (by kernel_rfl)
      refine step_val KC KD hc9 hdd rfl (.agg #[.int .i64 (4), .int .u64 ((b : Nat) : Int)]) u (wanted_plain rfl) ?_ rfl (Below.refl _ _)
      obtain ⟨s0, s1, s2, s3, s4, s5, s6, s7, s8⟩ := hc9
      go_simp
    refine stepsL_cons (fun a u hc9 hdd hd hk9 hdep => ?_) ?_
    ·
      have d5 : (a.tmps[5]?).getD undef = (.pointer (some ⟨w.heap.size + 1, 0, none⟩)) := hk9 5 (by kernel_rfl)
      refine step_val KC KD hc9 hdd rfl (.agg #[.int .i64 (4), .int .u64 ((b : Nat) : Int)]) u (wanted_plain rfl) ?_ rfl (Below.refl _ _)
      obtain ⟨s0, s1, s2, s3, s4, s5, s6, s7, s8⟩ := hc9
      go_simp
    refine stepsL_cons (fun a u hc9 hdd hd hk9 hdep => ?_) ?_
    ·
      have d10 : (a.tmps[10]?).getD undef = (.agg #[.int .i64 (4), .int .u64 ((b : Nat) : Int)]) := hdep ⟨0, .data⟩ (by simp) rfl
      have d11 : (a.tmps[11]?).getD undef = (.agg #[.int .i64 (4), .int .u64 ((b : Nat) : Int)]) := hdep ⟨1, .data⟩ (by simp) rfl
      refine step_call KC KD hc9 hdd rfl 58 #[.agg #[.int .i64 4, .int .u64 (b : Int)], .agg #[.int .i64 4, .int .u64 (b : Int)]] (wanted_plain rfl) (by go_simp) ?_
      exact (rorder_v 4 4 b b u hb hb).mono (by rintro e w' ⟨rfl, hb⟩; exact ⟨_, rfl, rfl, hb⟩)
    refine stepsL_cons (fun a u hc9 hdd hd hk9 hdep => ?_) ?_
    ·
      have d12 : (a.tmps[12]?).getD undef = (.int .i64 (vordP 4 b 4 b)) := hdep ⟨2, .data⟩ (by simp) rfl
      refine step_val KC KD hc9 hdd rfl (.bool true) u (wanted_plain rfl) ?_ rfl (Below.refl _ _)
      go_simp
    refine stepsL_cons (fun a u hc9 hdd hd hk9 hdep => ?_) ?_
    ·
      have d4 : (a.tmps[4]?).getD undef = (.pointer (some ⟨w.heap.size, 0, none⟩)) := hk9 4 (by kernel_rfl)
      refine step_val KC KD hc9 hdd rfl (.agg #[.int .i64 (4), .int .u64 ((b : Nat) : Int)]) u (wanted_plain rfl) ?_ rfl (Below.refl _ _)
      obtain ⟨s0, s1, s2, s3, s4, s5, s6, s7, s8⟩ := hc9
      go_simp
    refine stepsL_cons (fun a u hc9 hdd hd hk9 hdep => ?_) ?_
    ·
      have d5 : (a.tmps[5]?).getD undef = (.pointer (some ⟨w.heap.size + 1, 0, none⟩)) := hk9 5 (by kernel_rfl)
      refine step_val KC KD hc9 hdd rfl (.agg #[.int .i64 (4), .int .u64 ((b : Nat) : Int)]) u (wanted_plain rfl) ?_ rfl (Below.refl _ _)
      obtain ⟨s0, s1, s2, s3, s4, s5, s6, s7, s8⟩ := hc9
      go_simp
    refine stepsL_cons (fun a u hc9 hdd hd hk9 hdep => ?_) ?_
    ·
      have d14 : (a.tmps[14]?).getD undef = (.agg #[.int .i64 (4), .int .u64 ((b : Nat) : Int)]) := hdep ⟨4, .data⟩ (by simp) rfl
      have d15 : (a.tmps[15]?).getD undef = (.agg #[.int .i64 (4), .int .u64 ((b : Nat) : Int)]) := hdep ⟨5, .data⟩ (by simp) rfl
      refine step_val KC KD hc9 hdd rfl (.bool true) u (wanted_plain rfl) ?_ rfl (Below.refl _ _)
      go_simp
    refine stepsL_cons (fun a u hc9 hdd hd hk9 hdep => ?_) ?_
    ·
      have d13 : (a.tmps[13]?).getD undef = (.bool true) := hdep ⟨3, .data⟩ (by simp) rfl
      refine step_val KC KD hc9 hdd rfl (.bool true) u (wanted_plain rfl) ?_ rfl (Below.refl _ _)
      first | (go_simp; done) | rfl
    refine stepsL_cons (fun a u hc9 hdd hd hk9 hdep => ?_) ?_
    ·
      have d16 : (a.tmps[16]?).getD undef = (.bool true) := hdep ⟨6, .data⟩ (by simp) rfl
      refine step_val KC KD hc9 hdd rfl (.bool true) u (wanted_plain rfl) ?_ rfl (Below.refl _ _)
      first | (go_simp; done) | rfl
    exact stepsL_nil
  intro vs wN hN hh
  obtain ⟨e0, e1, e2, e3, e4, e5, e6, e7, e8, -⟩ := hh
  have eL : vs 8 = (.bool true) := e8
  have eM : vs 7 = (.bool true) := e7
  clear e0 e1 e2 e3 e4 e5 e6 e7 e8
  set_option maxRecDepth 100000 in simp only [putAll, Act.put, List.setIfInBounds_toArray, List.set_cons_zero, List.set_cons_succ, eL, eM]
  clear he hl hb
  obtain ⟨p0, p1, p2, p3, p4, p5, p6, p7, p8⟩ := hN
  go_wp2_with fail
  go_quiet (first | (go_at_call 60; with_reducible exact Calls.quiet_of_same ((H1.out _).mono fun e w' h => (⟨h.1, h.2.symm⟩ : e = .returned (.bool y) ∧ w' = _))) | (go_at_call 59; with_reducible exact Calls.quiet_of_same ((H2.out _).mono fun e w' h => (⟨h.1, h.2.symm⟩ : e = .returned (.bool x) ∧ w' = _))) | (go_at_call 59; with_reducible exact Calls.quiet_of_same ((H3.out _).mono fun e w' h => (⟨h.1, h.2.symm⟩ : e = .returned (.bool x) ∧ w' = _))))
  clear H1 H2 H3
  have hN := TwoR.drewn (k := 4) (b := b) (l := 4) (c := b) ⟨p0, p1, p2, p3, p4, p5, p6, p7, p8⟩ nq
  clear p0 p1 p2 p3 p4 p5 p6 p7 p8
  rcases (show op = 7 ∨ op = 8 ∨ op = 9 ∨ op = 10 ∨ op = 11 ∨ op = 12 by omega) with rfl | rfl | rfl | rfl | rfl | rfl
  all_goals clear h7 h12
  all_goals go_wp2_with (go_at_call 12; refine (truth_r _ r (H.out _ (by simp [cmpS, *])) _).mono ?_; rintro e w2 ⟨rfl, hb2⟩; have hN2 := TwoR.later hN hb2; obtain ⟨p0, p1, p2, p3, p4, p5, p6, p7, p8⟩ := hN2)
  all_goals
    obtain ⟨_, q1, q2⟩ := put2 (.int .i64 2) (.int .u64 ((r : Nat) : Int)) p4 p5
    have B2 := ((p8.setCell (p := ⟨w.heap.size + 1 + 1, 0, none⟩) (by show w.heap.size ≤ w.heap.size + 1 + 1; omega) (.int .i64 2)).setCell (p := ⟨w.heap.size + 1 + 1, 1, none⟩) (by show w.heap.size ≤ w.heap.size + 1 + 1; omega) (.int .u64 ((r : Nat) : Int)))
    go_wp2
    exact bodyPost_ret (v := .agg #[.int .i64 2, .int .u64 ((r : Nat) : Int)]) (by simp [results, Try.results35, go_sem, q1, q2]) rfl ⟨rfl, B2⟩
set_option maxHeartbeats 8000000 in
set_option maxRecDepth 100000 in
theorem rcmp_r10 (op : Int) (b c r : Nat) (w : World) (h7 : 7 ≤ op) (h12 : op ≤ 12) (hb : b < 18446744073709551616) (hc : c < 18446744073709551616) (hl : decide (vordP 4 b 4 c < 0) = true) (hx : ¬ b = c) (hr : b2n (cmpS op (eqB b c) (ltB b c) (ltB c b)) = r) :
    Calls Try.prog 35 #[.int .i64 op, .agg #[.int .i64 4, .int .u64 (b : Int)], .agg #[.int .i64 4, .int .u64 (c : Int)]] w fun e w' => e = .returned (.agg #[.int .i64 2, .int .u64 ((r : Nat) : Int)]) ∧ Below w.heap.size w w' := by
  have he := eqR
  have hx2 : ((b : Int) = (c : Int)) ↔ b = c := by omega
  have H1 := Lib.hid (fun w => requal_any b c w hb hc)
  have H2 := Lib.hid (fun w => rless_any b c w hb hc)
  have H3 := Lib.hid (fun w => rless_any c b w hc hb)
  generalize eqB b c = y at *
  generalize ltB b c = x at *
  generalize ltB c b = z at *
  have H := Lib.hid (fun v (hv : v = cmpS op y x z) => (hv ▸ hr : b2n v = r))
  clear hr
  have base := (TwoR.start 4 b 4 c w).later (Below.refl _ _).drew
  go_enter Try.func35, Try.ntmps35
  go_wp2_with fail
  have KD := keepsD_true []
  refine region_words (TwoR w 4 b 4 c) [isW (.agg #[.int .i64 (4), .int .u64 ((b : Nat) : Int)]), isW (.agg #[.int .i64 (4), .int .u64 ((c : Nat) : Int)]), isW (.int .i64 (vordP 4 b 4 c)), isW (.bool true), isW (.agg #[.int .i64 (4), .int .u64 ((b : Nat) : Int)]), isW (.agg #[.int .i64 (4), .int .u64 ((c : Nat) : Int)]), isW (.bool false), isW (.bool true), isW (.bool false)] (by kernel_rfl) (by repeat' (first | exact monoL_nil | exact is_mono _ | exact row_mono _ | exact any_mono | refine monoL_cons ?_ ?_)) (by kernel_rfl) (by kernel_rfl) (fun _ _ h hb => TwoR.later h hb) base ?_ ?_
  · intro KC
    refine stepsL_cons (fun a u hc9 hdd hd hk9 hdep => ?_) ?_
    ·
      have d4 : (a.tmps[4]?).getD undef = (.pointer (some ⟨w.heap.size, 0, none⟩)) := hk9 4 (by kernel_rfl)
      refine step_val KC KD hc9 hdd rfl (.agg #[.int .i64 (4), .int .u64 ((b : Nat) : Int)]) u (wanted_plain rfl) ?_ rfl (Below.refl _ _)
      obtain ⟨s0, s1, s2, s3, s4, s5, s6, s7, s8⟩ := hc9
      go_simp
    refine stepsL_cons (fun a u hc9 hdd hd hk9 hdep => ?_) ?_
    ·
      have d5 : (a.tmps[5]?).getD undef = (.pointer (some ⟨w.heap.size + 1, 0, none⟩)) := hk9 5 (by kernel_rfl)
      refine step_val KC KD hc9 hdd rfl (.agg #[.int .i64 (4), .int .u64 ((c : Nat) : Int)]) u (wanted_plain rfl) ?_ rfl (Below.refl _ _)
      obtain ⟨s0, s1, s2, s3, s4, s5, s6, s7, s8⟩ := hc9
      go_simp
    refine stepsL_cons (fun a u hc9 hdd hd hk9 hdep => ?_) ?_
    ·
      have d10 : (a.tmps[10]?).getD undef = (.agg #[.int .i64 (4), .int .u64 ((b : Nat) : Int)]) := hdep ⟨0, .data⟩ (by simp) rfl
      have d11 : (a.tmps[11]?).getD undef = (.agg #[.int .i64 (4), .int .u64 ((c : Nat) : Int)]) := hdep ⟨1, .data⟩ (by simp) rfl
      refine step_call KC KD hc9 hdd rfl 58 #[.agg #[.int .i64 4, .int .u64 (b : Int)], .agg #[.int .i64 4, .int .u64 (c : Int)]] (wanted_plain rfl) (by go_simp) ?_
      exact (rorder_v 4 4 b c u hb hc).mono (by rintro e w' ⟨rfl, hb⟩; exact ⟨_, rfl, rfl, hb⟩)
    refine stepsL_cons (fun a u hc9 hdd hd hk9 hdep => ?_) ?_
    ·
      have d12 : (a.tmps[12]?).getD undef = (.int .i64 (vordP 4 b 4 c)) := hdep ⟨2, .data⟩ (by simp) rfl
      refine step_val KC KD hc9 hdd rfl (.bool true) u (wanted_plain rfl) ?_ rfl (Below.refl _ _)
      go_simp
    refine stepsL_cons (fun a u hc9 hdd hd hk9 hdep => ?_) ?_
    ·
      have d4 : (a.tmps[4]?).getD undef = (.pointer (some ⟨w.heap.size, 0, none⟩)) := hk9 4 (by kernel_rfl)
      refine step_val KC KD hc9 hdd rfl (.agg #[.int .i64 (4), .int .u64 ((b : Nat) : Int)]) u (wanted_plain rfl) ?_ rfl (Below.refl _ _)
      obtain ⟨s0, s1, s2, s3, s4, s5, s6, s7, s8⟩ := hc9
      go_simp
    refine stepsL_cons (fun a u hc9 hdd hd hk9 hdep => ?_) ?_
    ·
      have d5 : (a.tmps[5]?).getD undef = (.pointer (some ⟨w.heap.size + 1, 0, none⟩)) := hk9 5 (by kernel_rfl)
      refine step_val KC KD hc9 hdd rfl (.agg #[.int .i64 (4), .int .u64 ((c : Nat) : Int)]) u (wanted_plain rfl) ?_ rfl (Below.refl _ _)
      obtain ⟨s0, s1, s2, s3, s4, s5, s6, s7, s8⟩ := hc9
      go_simp
    refine stepsL_cons (fun a u hc9 hdd hd hk9 hdep => ?_) ?_
    ·
      have d14 : (a.tmps[14]?).getD undef = (.agg #[.int .i64 (4), .int .u64 ((b : Nat) : Int)]) := hdep ⟨4, .data⟩ (by simp) rfl
      have d15 : (a.tmps[15]?).getD undef = (.agg #[.int .i64 (4), .int .u64 ((c : Nat) : Int)]) := hdep ⟨5, .data⟩ (by simp) rfl
      refine step_val KC KD hc9 hdd rfl (.bool false) u (wanted_plain rfl) ?_ rfl (Below.refl _ _)
      go_simp
    refine stepsL_cons (fun a u hc9 hdd hd hk9 hdep => ?_) ?_
    ·
      have d13 : (a.tmps[13]?).getD undef = (.bool true) := hdep ⟨3, .data⟩ (by simp) rfl
      refine step_val KC KD hc9 hdd rfl (.bool true) u (wanted_plain rfl) ?_ rfl (Below.refl _ _)
      first | (go_simp; done) | rfl
    refine stepsL_cons (fun a u hc9 hdd hd hk9 hdep => ?_) ?_
    ·
      have d16 : (a.tmps[16]?).getD undef = (.bool false) := hdep ⟨6, .data⟩ (by simp) rfl
      refine step_val KC KD hc9 hdd rfl (.bool false) u (wanted_plain rfl) ?_ rfl (Below.refl _ _)
      first | (go_simp; done) | rfl
    exact stepsL_nil
  intro vs wN hN hh
  obtain ⟨e0, e1, e2, e3, e4, e5, e6, e7, e8, -⟩ := hh
  have eL : vs 8 = (.bool false) := e8
  have eM : vs 7 = (.bool true) := e7
  clear e0 e1 e2 e3 e4 e5 e6 e7 e8
  set_option maxRecDepth 100000 in simp only [putAll, Act.put, List.setIfInBounds_toArray, List.set_cons_zero, List.set_cons_succ, eL, eM]
  clear he hl hb hc hx2 hx
  obtain ⟨p0, p1, p2, p3, p4, p5, p6, p7, p8⟩ := hN
  go_wp2_with fail
  go_quiet (first | (go_at_call 60; with_reducible exact Calls.quiet_of_same ((H1.out _).mono fun e w' h => (⟨h.1, h.2.symm⟩ : e = .returned (.bool y) ∧ w' = _))) | (go_at_call 59; with_reducible exact Calls.quiet_of_same ((H2.out _).mono fun e w' h => (⟨h.1, h.2.symm⟩ : e = .returned (.bool x) ∧ w' = _))) | (go_at_call 59; with_reducible exact Calls.quiet_of_same ((H3.out _).mono fun e w' h => (⟨h.1, h.2.symm⟩ : e = .returned (.bool z) ∧ w' = _))))
  clear H1 H2 H3
  have hN := TwoR.drewn (k := 4) (b := b) (l := 4) (c := c) ⟨p0, p1, p2, p3, p4, p5, p6, p7, p8⟩ nq
  clear p0 p1 p2 p3 p4 p5 p6 p7 p8
  rcases (show op = 7 ∨ op = 8 ∨ op = 9 ∨ op = 10 ∨ op = 11 ∨ op = 12 by omega) with rfl | rfl | rfl | rfl | rfl | rfl
  all_goals clear h7 h12
  all_goals go_wp2_with (go_at_call 12; refine (truth_r _ r (H.out _ (by simp [cmpS, *])) _).mono ?_; rintro e w2 ⟨rfl, hb2⟩; have hN2 := TwoR.later hN hb2; obtain ⟨p0, p1, p2, p3, p4, p5, p6, p7, p8⟩ := hN2)
  all_goals
    obtain ⟨_, q1, q2⟩ := put2 (.int .i64 2) (.int .u64 ((r : Nat) : Int)) p4 p5
    have B2 := ((p8.setCell (p := ⟨w.heap.size + 1 + 1, 0, none⟩) (by show w.heap.size ≤ w.heap.size + 1 + 1; omega) (.int .i64 2)).setCell (p := ⟨w.heap.size + 1 + 1, 1, none⟩) (by show w.heap.size ≤ w.heap.size + 1 + 1; omega) (.int .u64 ((r : Nat) : Int)))
    go_wp2
    exact bodyPost_ret (v := .agg #[.int .i64 2, .int .u64 ((r : Nat) : Int)]) (by simp [results, Try.results35, go_sem, q1, q2]) rfl ⟨rfl, B2⟩
set_option maxHeartbeats 8000000 in
set_option maxRecDepth 100000 in
theorem rcmp_r01 (op : Int) (b c r : Nat) (w : World) (h7 : 7 ≤ op) (h12 : op ≤ 12) (hb : b < 18446744073709551616) (hc : c < 18446744073709551616) (hl : decide (vordP 4 b 4 c < 0) = false) (hx : c = b) (hr : b2n (cmpS op (eqB b c) (ltB b c) (ltB c b)) = r) :
    Calls Try.prog 35 #[.int .i64 op, .agg #[.int .i64 4, .int .u64 (b : Int)], .agg #[.int .i64 4, .int .u64 (c : Int)]] w fun e w' => e = .returned (.agg #[.int .i64 2, .int .u64 ((r : Nat) : Int)]) ∧ Below w.heap.size w w' := by
  have he := eqR
  have hx2 : ((b : Int) = (c : Int)) ↔ b = c := by omega
  obtain rfl : b = c := hx.symm
  clear hx2
  have H1 := Lib.hid (fun w => requal_any b b w hb hb)
  have H2 := Lib.hid (fun w => rless_any b b w hb hb)
  have H3 := H2
  generalize eqB b b = y at *
  generalize ltB b b = x at *
  have z : Bool := true
  have H := Lib.hid (fun v (hv : v = cmpS op y x x) => (hv ▸ hr : b2n v = r))
  clear hr
  have base := (TwoR.start 4 b 4 b w).later (Below.refl _ _).drew
  go_enter Try.func35, Try.ntmps35
  go_wp2_with fail
  have KD := keepsD_true []
  refine region_words (TwoR w 4 b 4 b) [isW (.agg #[.int .i64 (4), .int .u64 ((b : Nat) : Int)]), isW (.agg #[.int .i64 (4), .int .u64 ((b : Nat) : Int)]), isW (.int .i64 (vordP 4 b 4 b)), isW (.bool false), isW (.agg #[.int .i64 (4), .int .u64 ((b : Nat) : Int)]), isW (.agg #[.int .i64 (4), .int .u64 ((b : Nat) : Int)]), isW (.bool true), isW (.bool false), isW (.bool true)] (by kernel_rfl) (by repeat' (first | exact monoL_nil | exact is_mono _ | exact row_mono _ | exact any_mono | refine monoL_cons ?_ ?_)) (by kernel_rfl) (by kernel_rfl) (fun _ _ h hb => TwoR.later h hb) base ?_ ?_
  · intro KC
    refine stepsL_cons (fun a u hc9 hdd hd hk9 hdep => ?_) ?_
    ·
      have d4 : (a.tmps[4]?).getD undef = (.pointer (some ⟨w.heap.size, 0, none⟩)) := hk9 4 (by kernel_rfl)
      refine step_val KC KD hc9 hdd rfl (.agg #[.int .i64 (4), .int .u64 ((b : Nat) : Int)]) u (wanted_plain rfl) ?_ rfl (Below.refl _ _)
      obtain ⟨s0, s1, s2, s3, s4, s5, s6, s7, s8⟩ := hc9
      go_simp
    refine stepsL_cons (fun a u hc9 hdd hd hk9 hdep => ?_) ?_
    ·
      have d5 : (a.tmps[5]?).getD undef = (.pointer (some ⟨w.heap.size + 1, 0, none⟩)) := hk9 5 (by kernel_rfl)
      refine step_val KC KD hc9 hdd rfl (.agg #[.int .i64 (4), .int .u64 ((b : Nat) : Int)]) u (wanted_plain rfl) ?_ rfl (Below.refl _ _)
      obtain ⟨s0, s1, s2, s3, s4, s5, s6, s7, s8⟩ := hc9
      go_simp
    refine stepsL_cons (fun a u hc9 hdd hd hk9 hdep => ?_) ?_
    ·
      have d10 : (a.tmps[10]?).getD undef = (.agg #[.int .i64 (4), .int .u64 ((b : Nat) : Int)]) := hdep ⟨0, .data⟩ (by simp) rfl
      have d11 : (a.tmps[11]?).getD undef = (.agg #[.int .i64 (4), .int .u64 ((b : Nat) : Int)]) := hdep ⟨1, .data⟩ (by simp) rfl
      refine step_call KC KD hc9 hdd rfl 58 #[.agg #[.int .i64 4, .int .u64 (b : Int)], .agg #[.int .i64 4, .int .u64 (b : Int)]] (wanted_plain rfl) (by go_simp) ?_
      exact (rorder_v 4 4 b b u hb hb).mono (by rintro e w' ⟨rfl, hb⟩; exact ⟨_, rfl, rfl, hb⟩)
    refine stepsL_cons (fun a u hc9 hdd hd hk9 hdep => ?_) ?_
    ·
      have d12 : (a.tmps[12]?).getD undef = (.int .i64 (vordP 4 b 4 b)) := hdep ⟨2, .data⟩ (by simp) rfl
      refine step_val KC KD hc9 hdd rfl (.bool false) u (wanted_plain rfl) ?_ rfl (Below.refl _ _)
      go_simp
    refine stepsL_cons (fun a u hc9 hdd hd hk9 hdep => ?_) ?_
    ·
      have d4 : (a.tmps[4]?).getD undef = (.pointer (some ⟨w.heap.size, 0, none⟩)) := hk9 4 (by kernel_rfl)
      refine step_val KC KD hc9 hdd rfl (.agg #[.int .i64 (4), .int .u64 ((b : Nat) : Int)]) u (wanted_plain rfl) ?_ rfl (Below.refl _ _)
      obtain ⟨s0, s1, s2, s3, s4, s5, s6, s7, s8⟩ := hc9
      go_simp
    refine stepsL_cons (fun a u hc9 hdd hd hk9 hdep => ?_) ?_
    ·
      have d5 : (a.tmps[5]?).getD undef = (.pointer (some ⟨w.heap.size + 1, 0, none⟩)) := hk9 5 (by kernel_rfl)
      refine step_val KC KD hc9 hdd rfl (.agg #[.int .i64 (4), .int .u64 ((b : Nat) : Int)]) u (wanted_plain rfl) ?_ rfl (Below.refl _ _)
      obtain ⟨s0, s1, s2, s3, s4, s5, s6, s7, s8⟩ := hc9
      go_simp
    refine stepsL_cons (fun a u hc9 hdd hd hk9 hdep => ?_) ?_
    ·
      have d14 : (a.tmps[14]?).getD undef = (.agg #[.int .i64 (4), .int .u64 ((b : Nat) : Int)]) := hdep ⟨4, .data⟩ (by simp) rfl
      have d15 : (a.tmps[15]?).getD undef = (.agg #[.int .i64 (4), .int .u64 ((b : Nat) : Int)]) := hdep ⟨5, .data⟩ (by simp) rfl
      refine step_val KC KD hc9 hdd rfl (.bool true) u (wanted_plain rfl) ?_ rfl (Below.refl _ _)
      go_simp
    refine stepsL_cons (fun a u hc9 hdd hd hk9 hdep => ?_) ?_
    ·
      have d13 : (a.tmps[13]?).getD undef = (.bool false) := hdep ⟨3, .data⟩ (by simp) rfl
      refine step_val KC KD hc9 hdd rfl (.bool false) u (wanted_plain rfl) ?_ rfl (Below.refl _ _)
      first | (go_simp; done) | rfl
    refine stepsL_cons (fun a u hc9 hdd hd hk9 hdep => ?_) ?_
    ·
      have d16 : (a.tmps[16]?).getD undef = (.bool true) := hdep ⟨6, .data⟩ (by simp) rfl
      refine step_val KC KD hc9 hdd rfl (.bool true) u (wanted_plain rfl) ?_ rfl (Below.refl _ _)
      first | (go_simp; done) | rfl
    exact stepsL_nil
  intro vs wN hN hh
  obtain ⟨e0, e1, e2, e3, e4, e5, e6, e7, e8, -⟩ := hh
  have eL : vs 8 = (.bool true) := e8
  have eM : vs 7 = (.bool false) := e7
  clear e0 e1 e2 e3 e4 e5 e6 e7 e8
  set_option maxRecDepth 100000 in simp only [putAll, Act.put, List.setIfInBounds_toArray, List.set_cons_zero, List.set_cons_succ, eL, eM]
  clear he hl hb
  obtain ⟨p0, p1, p2, p3, p4, p5, p6, p7, p8⟩ := hN
  go_wp2_with fail
  go_quiet (first | (go_at_call 60; with_reducible exact Calls.quiet_of_same ((H1.out _).mono fun e w' h => (⟨h.1, h.2.symm⟩ : e = .returned (.bool y) ∧ w' = _))) | (go_at_call 59; with_reducible exact Calls.quiet_of_same ((H2.out _).mono fun e w' h => (⟨h.1, h.2.symm⟩ : e = .returned (.bool x) ∧ w' = _))) | (go_at_call 59; with_reducible exact Calls.quiet_of_same ((H3.out _).mono fun e w' h => (⟨h.1, h.2.symm⟩ : e = .returned (.bool x) ∧ w' = _))))
  clear H1 H2 H3
  have hN := TwoR.drewn (k := 4) (b := b) (l := 4) (c := b) ⟨p0, p1, p2, p3, p4, p5, p6, p7, p8⟩ nq
  clear p0 p1 p2 p3 p4 p5 p6 p7 p8
  rcases (show op = 7 ∨ op = 8 ∨ op = 9 ∨ op = 10 ∨ op = 11 ∨ op = 12 by omega) with rfl | rfl | rfl | rfl | rfl | rfl
  all_goals clear h7 h12
  all_goals go_wp2_with (go_at_call 12; refine (truth_r _ r (H.out _ (by simp [cmpS, *])) _).mono ?_; rintro e w2 ⟨rfl, hb2⟩; have hN2 := TwoR.later hN hb2; obtain ⟨p0, p1, p2, p3, p4, p5, p6, p7, p8⟩ := hN2)
  all_goals
    obtain ⟨_, q1, q2⟩ := put2 (.int .i64 2) (.int .u64 ((r : Nat) : Int)) p4 p5
    have B2 := ((p8.setCell (p := ⟨w.heap.size + 1 + 1, 0, none⟩) (by show w.heap.size ≤ w.heap.size + 1 + 1; omega) (.int .i64 2)).setCell (p := ⟨w.heap.size + 1 + 1, 1, none⟩) (by show w.heap.size ≤ w.heap.size + 1 + 1; omega) (.int .u64 ((r : Nat) : Int)))
    go_wp2
    exact bodyPost_ret (v := .agg #[.int .i64 2, .int .u64 ((r : Nat) : Int)]) (by simp [results, Try.results35, go_sem, q1, q2]) rfl ⟨rfl, B2⟩
set_option maxHeartbeats 8000000 in
set_option maxRecDepth 100000 in
theorem rcmp_r00 (op : Int) (b c r : Nat) (w : World) (h7 : 7 ≤ op) (h12 : op ≤ 12) (hb : b < 18446744073709551616) (hc : c < 18446744073709551616) (hl : decide (vordP 4 b 4 c < 0) = false) (hx : ¬ b = c) (hr : b2n (cmpS op (eqB b c) (ltB b c) (ltB c b)) = r) :
    Calls Try.prog 35 #[.int .i64 op, .agg #[.int .i64 4, .int .u64 (b : Int)], .agg #[.int .i64 4, .int .u64 (c : Int)]] w fun e w' => e = .returned (.agg #[.int .i64 2, .int .u64 ((r : Nat) : Int)]) ∧ Below w.heap.size w w' := by
  have he := eqR
  have hx2 : ((b : Int) = (c : Int)) ↔ b = c := by omega
  have H1 := Lib.hid (fun w => requal_any b c w hb hc)
  have H2 := Lib.hid (fun w => rless_any b c w hb hc)
  have H3 := Lib.hid (fun w => rless_any c b w hc hb)
  generalize eqB b c = y at *
  generalize ltB b c = x at *
  generalize ltB c b = z at *
  have H := Lib.hid (fun v (hv : v = cmpS op y x z) => (hv ▸ hr : b2n v = r))
  clear hr
  have base := (TwoR.start 4 b 4 c w).later (Below.refl _ _).drew
  go_enter Try.func35, Try.ntmps35
  go_wp2_with fail
  have KD := keepsD_true []
  refine region_words (TwoR w 4 b 4 c) [isW (.agg #[.int .i64 (4), .int .u64 ((b : Nat) : Int)]), isW (.agg #[.int .i64 (4), .int .u64 ((c : Nat) : Int)]), isW (.int .i64 (vordP 4 b 4 c)), isW (.bool false), isW (.agg #[.int .i64 (4), .int .u64 ((b : Nat) : Int)]), isW (.agg #[.int .i64 (4), .int .u64 ((c : Nat) : Int)]), isW (.bool false), isW (.bool false), isW (.bool false)] (by kernel_rfl) (by repeat' (first | exact monoL_nil | exact is_mono _ | exact row_mono _ | exact any_mono | refine monoL_cons ?_ ?_)) (by kernel_rfl) (by kernel_rfl) (fun _ _ h hb => TwoR.later h hb) base ?_ ?_
  · intro KC
    refine stepsL_cons (fun a u hc9 hdd hd hk9 hdep => ?_) ?_
    ·
      have d4 : (a.tmps[4]?).getD undef = (.pointer (some ⟨w.heap.size, 0, none⟩)) := hk9 4 (by kernel_rfl)
      refine step_val KC KD hc9 hdd rfl (.agg #[.int .i64 (4), .int .u64 ((b : Nat) : Int)]) u (wanted_plain rfl) ?_ rfl (Below.refl _ _)
      obtain ⟨s0, s1, s2, s3, s4, s5, s6, s7, s8⟩ := hc9
      go_simp
    refine stepsL_cons (fun a u hc9 hdd hd hk9 hdep => ?_) ?_
    ·
      have d5 : (a.tmps[5]?).getD undef = (.pointer (some ⟨w.heap.size + 1, 0, none⟩)) := hk9 5 (by kernel_rfl)
      refine step_val KC KD hc9 hdd rfl (.agg #[.int .i64 (4), .int .u64 ((c : Nat) : Int)]) u (wanted_plain rfl) ?_ rfl (Below.refl _ _)
      obtain ⟨s0, s1, s2, s3, s4, s5, s6, s7, s8⟩ := hc9
      go_simp
    refine stepsL_cons (fun a u hc9 hdd hd hk9 hdep => ?_) ?_
    ·
      have d10 : (a.tmps[10]?).getD undef = (.agg #[.int .i64 (4), .int .u64 ((b : Nat) : Int)]) := hdep ⟨0, .data⟩ (by simp) rfl
      have d11 : (a.tmps[11]?).getD undef = (.agg #[.int .i64 (4), .int .u64 ((c : Nat) : Int)]) := hdep ⟨1, .data⟩ (by simp) rfl
      refine step_call KC KD hc9 hdd rfl 58 #[.agg #[.int .i64 4, .int .u64 (b : Int)], .agg #[.int .i64 4, .int .u64 (c : Int)]] (wanted_plain rfl) (by go_simp) ?_
      exact (rorder_v 4 4 b c u hb hc).mono (by rintro e w' ⟨rfl, hb⟩; exact ⟨_, rfl, rfl, hb⟩)
    refine stepsL_cons (fun a u hc9 hdd hd hk9 hdep => ?_) ?_
    ·
      have d12 : (a.tmps[12]?).getD undef = (.int .i64 (vordP 4 b 4 c)) := hdep ⟨2, .data⟩ (by simp) rfl
      refine step_val KC KD hc9 hdd rfl (.bool false) u (wanted_plain rfl) ?_ rfl (Below.refl _ _)
      go_simp
    refine stepsL_cons (fun a u hc9 hdd hd hk9 hdep => ?_) ?_
    ·
      have d4 : (a.tmps[4]?).getD undef = (.pointer (some ⟨w.heap.size, 0, none⟩)) := hk9 4 (by kernel_rfl)
      refine step_val KC KD hc9 hdd rfl (.agg #[.int .i64 (4), .int .u64 ((b : Nat) : Int)]) u (wanted_plain rfl) ?_ rfl (Below.refl _ _)
      obtain ⟨s0, s1, s2, s3, s4, s5, s6, s7, s8⟩ := hc9
      go_simp
    refine stepsL_cons (fun a u hc9 hdd hd hk9 hdep => ?_) ?_
    ·
      have d5 : (a.tmps[5]?).getD undef = (.pointer (some ⟨w.heap.size + 1, 0, none⟩)) := hk9 5 (by kernel_rfl)
      refine step_val KC KD hc9 hdd rfl (.agg #[.int .i64 (4), .int .u64 ((c : Nat) : Int)]) u (wanted_plain rfl) ?_ rfl (Below.refl _ _)
      obtain ⟨s0, s1, s2, s3, s4, s5, s6, s7, s8⟩ := hc9
      go_simp
    refine stepsL_cons (fun a u hc9 hdd hd hk9 hdep => ?_) ?_
    ·
      have d14 : (a.tmps[14]?).getD undef = (.agg #[.int .i64 (4), .int .u64 ((b : Nat) : Int)]) := hdep ⟨4, .data⟩ (by simp) rfl
      have d15 : (a.tmps[15]?).getD undef = (.agg #[.int .i64 (4), .int .u64 ((c : Nat) : Int)]) := hdep ⟨5, .data⟩ (by simp) rfl
      refine step_val KC KD hc9 hdd rfl (.bool false) u (wanted_plain rfl) ?_ rfl (Below.refl _ _)
      go_simp
    refine stepsL_cons (fun a u hc9 hdd hd hk9 hdep => ?_) ?_
    ·
      have d13 : (a.tmps[13]?).getD undef = (.bool false) := hdep ⟨3, .data⟩ (by simp) rfl
      refine step_val KC KD hc9 hdd rfl (.bool false) u (wanted_plain rfl) ?_ rfl (Below.refl _ _)
      first | (go_simp; done) | rfl
    refine stepsL_cons (fun a u hc9 hdd hd hk9 hdep => ?_) ?_
    ·
      have d16 : (a.tmps[16]?).getD undef = (.bool false) := hdep ⟨6, .data⟩ (by simp) rfl
      refine step_val KC KD hc9 hdd rfl (.bool false) u (wanted_plain rfl) ?_ rfl (Below.refl _ _)
      first | (go_simp; done) | rfl
    exact stepsL_nil
  intro vs wN hN hh
  obtain ⟨e0, e1, e2, e3, e4, e5, e6, e7, e8, -⟩ := hh
  have eL : vs 8 = (.bool false) := e8
  have eM : vs 7 = (.bool false) := e7
  clear e0 e1 e2 e3 e4 e5 e6 e7 e8
  set_option maxRecDepth 100000 in simp only [putAll, Act.put, List.setIfInBounds_toArray, List.set_cons_zero, List.set_cons_succ, eL, eM]
  clear he hl hb hc hx2 hx
  obtain ⟨p0, p1, p2, p3, p4, p5, p6, p7, p8⟩ := hN
  go_wp2_with fail
  go_quiet (first | (go_at_call 60; with_reducible exact Calls.quiet_of_same ((H1.out _).mono fun e w' h => (⟨h.1, h.2.symm⟩ : e = .returned (.bool y) ∧ w' = _))) | (go_at_call 59; with_reducible exact Calls.quiet_of_same ((H2.out _).mono fun e w' h => (⟨h.1, h.2.symm⟩ : e = .returned (.bool x) ∧ w' = _))) | (go_at_call 59; with_reducible exact Calls.quiet_of_same ((H3.out _).mono fun e w' h => (⟨h.1, h.2.symm⟩ : e = .returned (.bool z) ∧ w' = _))))
  clear H1 H2 H3
  have hN := TwoR.drewn (k := 4) (b := b) (l := 4) (c := c) ⟨p0, p1, p2, p3, p4, p5, p6, p7, p8⟩ nq
  clear p0 p1 p2 p3 p4 p5 p6 p7 p8
  rcases (show op = 7 ∨ op = 8 ∨ op = 9 ∨ op = 10 ∨ op = 11 ∨ op = 12 by omega) with rfl | rfl | rfl | rfl | rfl | rfl
  all_goals clear h7 h12
  all_goals go_wp2_with (go_at_call 12; refine (truth_r _ r (H.out _ (by simp [cmpS, *])) _).mono ?_; rintro e w2 ⟨rfl, hb2⟩; have hN2 := TwoR.later hN hb2; obtain ⟨p0, p1, p2, p3, p4, p5, p6, p7, p8⟩ := hN2)
  all_goals
    obtain ⟨_, q1, q2⟩ := put2 (.int .i64 2) (.int .u64 ((r : Nat) : Int)) p4 p5
    have B2 := ((p8.setCell (p := ⟨w.heap.size + 1 + 1, 0, none⟩) (by show w.heap.size ≤ w.heap.size + 1 + 1; omega) (.int .i64 2)).setCell (p := ⟨w.heap.size + 1 + 1, 1, none⟩) (by show w.heap.size ≤ w.heap.size + 1 + 1; omega) (.int .u64 ((r : Nat) : Int)))
    go_wp2
    exact bodyPost_ret (v := .agg #[.int .i64 2, .int .u64 ((r : Nat) : Int)]) (by simp [results, Try.results35, go_sem, q1, q2]) rfl ⟨rfl, B2⟩
end Go.Proofs.Ytfjnphiegoogoaa

/- Open -/
namespace Go.Proofs.Ytfjnphiegoogoaa
open Go.ChangeShapes Go.WideShapes Go.ChangeAt Go.RowKit Go.Fl

theorem spot_none {w : World} {a : Addr} {v : Value} (h : w.cell? a = some v) : a.spot = none := by
  unfold World.cell? at h
  split at h
  · split at h
    · cases h
    · rename_i hs; simpa using hs
  · cases h

theorem row_of_pairs {w : World} {a : Addr} {l m : Nat} {V0 V1 : Nat → Value} (hlm : l ≤ m) (hc : ∀ i, i < m → w.cell? (a.add (i * 2)) = some (V0 i) ∧ w.cell? (a.add (i * 2 + 1)) = some (V1 i))
    (hv : ∀ i, i < m → ∃ q : Int × Nat, V0 i = .int .i64 q.1 ∧ V1 i = .int .u64 (q.2 : Int) ∧ q.2 < 18446744073709551616) : ∃ z, RowV w (some a) l z := by
  obtain ⟨q, hq⟩ := Go.Deep.choose_lt hv
  refine ⟨(List.range l).map q, by simp, ?_, fun hp => ?_⟩
  · intro v hm
    obtain ⟨i, hi, rfl⟩ := List.mem_map.1 hm
    exact (hq i (by have := List.mem_range.1 hi; omega)).2.2
  · have h0 := (hc 0 (by omega)).1
    have hs : a.spot = none := by
      have := spot_none h0
      simpa [Addr.add] using this
    obtain ⟨b, off, sp⟩ := a
    simp only at hs
    subst hs
    refine ⟨b, off, rfl, fun i k c hi => ?_⟩
    rw [List.getElem?_map] at hi
    have hil : i < l := by
      apply Classical.byContradiction
      intro hge
      rw [List.getElem?_eq_none (by simp; omega)] at hi
      cases hi
    rw [List.getElem?_range hil] at hi
    simp at hi
    have h1 := hc i (by omega)
    have h2 := hq i (by omega)
    rw [h2.1, h2.2.1, hi] at h1
    have e : ∀ n, (⟨b, off, none⟩ : Addr).add n = ⟨b, off + n, none⟩ := fun n => by unfold Addr.add; split <;> simp_all
    rw [e, e] at h1
    simpa [Nat.add_assoc] using h1
end Go.Proofs.Ytfjnphiegoogoaa
