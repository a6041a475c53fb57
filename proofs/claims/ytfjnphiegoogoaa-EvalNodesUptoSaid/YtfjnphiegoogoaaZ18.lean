/- RCmp -/
import Derived.Test.YtfjnphiegoogoaaZ17
import Derived.Test.YtfjnphiegoogoaaZ06
/- RCmp -/
namespace Go.Proofs.Ytfjnphiegoogoaa
open Go.ChangeShapes Go.WideShapes Go.ChangeAt Go.RowKit Go.Fl
set_option linter.unusedVariables false
set_option linter.unusedSimpArgs false

theorem truth_r (x : Bool) (r : Nat) (h : b2n x = r) (w : World) :
    Calls Try.prog 12 #[.bool x] w fun e w' => e = .returned (.agg #[.int .i64 2, .int .u64 ((r : Nat) : Int)]) ∧ Below w.heap.size w w' := by
  subst h
  exact truth_v x w
theorem TwoR.drewn {w0 w : World} {k : Int} {b : Nat} {l : Int} {c : Nat} (h : TwoR w0 k b l c w) (n : Nat) : TwoR w0 k b l c (w.drewN n) := by
  obtain ⟨h0, h1, h2, h3, h4, h5, h6, h7, h8⟩ := h
  exact ⟨h0, h1, h2, h3, h4, h5, h6, h7, below_drewN h8 n⟩

/-- two values of one kind that are no reals, as the document orders them -/
theorem vord_whole (k : Int) (b c : Nat) (hk : k ≠ 4) (h1 : isClean (k, b)) (h2 : isClean (k, c)) : decide (vordP k b k c < 0) = ltV k b c := by
  rw [vordP_doc]
  unfold isClean at h1 h2
  simp only at h1 h2
  rw [h1.1, h2.1, h1.2, h2.2, if_neg (by omega), if_pos rfl]
  unfold ltV
  rw [if_neg hk]
  unfold cmpP
  (repeat' split) <;> simp <;> omega

set_option maxHeartbeats 4000000 in
set_option maxRecDepth 100000 in
theorem rcmp_w0 (op k : Int) (b c r : Nat) (w : World) (h7 : 7 ≤ op) (h12 : op ≤ 12) (hk : k ≠ 4) (hb : b < 18446744073709551616) (hc : c < 18446744073709551616) (hl : decide (vordP k b k c < 0) = true) (hx : ¬ b = c) (hr : b2n (cmpS op false true false) = r) :
    Calls Try.prog 35 #[.int .i64 op, .agg #[.int .i64 k, .int .u64 (b : Int)], .agg #[.int .i64 k, .int .u64 (c : Int)]] w fun e w' => e = .returned (.agg #[.int .i64 2, .int .u64 ((r : Nat) : Int)]) ∧ Below w.heap.size w w' := by
  have he := eqR
  have fk : (k == 4) = false := by simpa using hk
  have hx2 : ((b : Int) = (c : Int)) ↔ b = c := by omega
  have H := Lib.hid (fun x (hx : x = cmpS op false true false) => (hx ▸ hr : b2n x = r))
  clear hr hk
  have base := (TwoR.start k b k c w).later (Below.refl _ _).drew
  go_enter Try.func35, Try.ntmps35
  go_wp2_with fail
  have KD := keepsD_true []
  refine region_words (TwoR w k b k c) [isW (.agg #[.int .i64 (k), .int .u64 ((b : Nat) : Int)]), isW (.agg #[.int .i64 (k), .int .u64 ((c : Nat) : Int)]), isW (.int .i64 (vordP k b k c)), isW (.bool true), isW (.agg #[.int .i64 (k), .int .u64 ((b : Nat) : Int)]), isW (.agg #[.int .i64 (k), .int .u64 ((c : Nat) : Int)]), isW (.bool false), isW (.bool true), isW (.bool false)] (by kernel_rfl) (by repeat' (first | exact monoL_nil | exact is_mono _ | exact row_mono _ | exact any_mono | refine monoL_cons ?_ ?_)) (by kernel_rfl) (by kernel_rfl) (fun _ _ h hb => TwoR.later h hb) base ?_ ?_
  · intro KC
    refine stepsL_cons (fun a u hc9 hdd hd hk9 hdep => ?_) ?_
    ·
      have d4 : (a.tmps[4]?).getD undef = (.pointer (some ⟨w.heap.size, 0, none⟩)) := hk9 4 (by kernel_rfl)
      refine step_val KC KD hc9 hdd rfl (.agg #[.int .i64 (k), .int .u64 ((b : Nat) : Int)]) u (wanted_plain rfl) ?_ rfl (Below.refl _ _)
      obtain ⟨s0, s1, s2, s3, s4, s5, s6, s7, s8⟩ := hc9
      go_simp
    refine stepsL_cons (fun a u hc9 hdd hd hk9 hdep => ?_) ?_
    ·
      have d5 : (a.tmps[5]?).getD undef = (.pointer (some ⟨w.heap.size + 1, 0, none⟩)) := hk9 5 (by kernel_rfl)
      refine step_val KC KD hc9 hdd rfl (.agg #[.int .i64 (k), .int .u64 ((c : Nat) : Int)]) u (wanted_plain rfl) ?_ rfl (Below.refl _ _)
      obtain ⟨s0, s1, s2, s3, s4, s5, s6, s7, s8⟩ := hc9
      go_simp
    refine stepsL_cons (fun a u hc9 hdd hd hk9 hdep => ?_) ?_
    ·
      have d10 : (a.tmps[10]?).getD undef = (.agg #[.int .i64 (k), .int .u64 ((b : Nat) : Int)]) := hdep ⟨0, .data⟩ (by simp) rfl
      have d11 : (a.tmps[11]?).getD undef = (.agg #[.int .i64 (k), .int .u64 ((c : Nat) : Int)]) := hdep ⟨1, .data⟩ (by simp) rfl
      refine step_call KC KD hc9 hdd rfl 58 #[.agg #[.int .i64 k, .int .u64 (b : Int)], .agg #[.int .i64 k, .int .u64 (c : Int)]] (wanted_plain rfl) (by go_simp) ?_
      exact (rorder_v k k b c u hb hc).mono (by rintro e w' ⟨rfl, hb⟩; exact ⟨_, rfl, rfl, hb⟩)
    refine stepsL_cons (fun a u hc9 hdd hd hk9 hdep => ?_) ?_
    ·
      have d12 : (a.tmps[12]?).getD undef = (.int .i64 (vordP k b k c)) := hdep ⟨2, .data⟩ (by simp) rfl
      refine step_val KC KD hc9 hdd rfl (.bool true) u (wanted_plain rfl) ?_ rfl (Below.refl _ _)
      go_simp
    refine stepsL_cons (fun a u hc9 hdd hd hk9 hdep => ?_) ?_
    ·
      have d4 : (a.tmps[4]?).getD undef = (.pointer (some ⟨w.heap.size, 0, none⟩)) := hk9 4 (by kernel_rfl)
      refine step_val KC KD hc9 hdd rfl (.agg #[.int .i64 (k), .int .u64 ((b : Nat) : Int)]) u (wanted_plain rfl) ?_ rfl (Below.refl _ _)
      obtain ⟨s0, s1, s2, s3, s4, s5, s6, s7, s8⟩ := hc9
      go_simp
    refine stepsL_cons (fun a u hc9 hdd hd hk9 hdep => ?_) ?_
    ·
      have d5 : (a.tmps[5]?).getD undef = (.pointer (some ⟨w.heap.size + 1, 0, none⟩)) := hk9 5 (by kernel_rfl)
      refine step_val KC KD hc9 hdd rfl (.agg #[.int .i64 (k), .int .u64 ((c : Nat) : Int)]) u (wanted_plain rfl) ?_ rfl (Below.refl _ _)
      obtain ⟨s0, s1, s2, s3, s4, s5, s6, s7, s8⟩ := hc9
      go_simp
    refine stepsL_cons (fun a u hc9 hdd hd hk9 hdep => ?_) ?_
    ·
      have d14 : (a.tmps[14]?).getD undef = (.agg #[.int .i64 (k), .int .u64 ((b : Nat) : Int)]) := hdep ⟨4, .data⟩ (by simp) rfl
      have d15 : (a.tmps[15]?).getD undef = (.agg #[.int .i64 (k), .int .u64 ((c : Nat) : Int)]) := hdep ⟨5, .data⟩ (by simp) rfl
      refine step_val KC KD hc9 hdd rfl (.bool false) u (wanted_plain rfl) ?_ rfl (Below.refl _ _)
      go_simp
    refine stepsL_cons (fun a u hc9 hdd hd hk9 hdep => ?_) ?_
    ·
      have d13 : (a.tmps[13]?).getD undef = (.bool true) := hdep ⟨3, .data⟩ (by simp) rfl
      refine step_val KC KD hc9 hdd rfl (.bool true) u (wanted_plain rfl) ?_ rfl (Below.refl _ _)
      first | (go_simp; done) | rfl
    refine stepsL_cons (fun a u hc9 hdd hd hk9 hdep => ?_) ?_
    ·
      have d16 : (a.tmps[16]?).getD undef = (.bool false) := hdep ⟨6, .data⟩ (by simp) rfl
      refine step_val KC KD hc9 hdd rfl (.bool false) u (wanted_plain rfl) ?_ rfl (Below.refl _ _)
      first | (go_simp; done) | rfl
    exact stepsL_nil
  intro vs wN hN hh
  obtain ⟨e0, e1, e2, e3, e4, e5, e6, e7, e8, -⟩ := hh
  have eL : vs 8 = (.bool false) := e8
  have eM : vs 7 = (.bool true) := e7
  clear e0 e1 e2 e3 e4 e5 e6 e7 e8
  set_option maxRecDepth 100000 in simp only [putAll, Act.put, List.setIfInBounds_toArray, List.set_cons_zero, List.set_cons_succ, eL, eM]
  clear he hl hb hc hx2
  obtain ⟨p0, p1, p2, p3, p4, p5, p6, p7, p8⟩ := hN
  have hN : TwoR w k b k c wN := ⟨p0, p1, p2, p3, p4, p5, p6, p7, p8⟩
  go_wp2_with (go_at_call 12; refine (truth_r _ r (H.out _ (by (try simp only [beq_iff_eq, beq_eq_false_iff_ne] at *); unfold cmpS; (repeat' split) <;> first | rfl | (exfalso; omega) | simp_all)) _).mono ?_; rintro e w2 ⟨rfl, hb2⟩; have hN2 := TwoR.later hN hb2; obtain ⟨p0, p1, p2, p3, p4, p5, p6, p7, p8⟩ := hN2)
  all_goals
    obtain ⟨_, q1, q2⟩ := put2 (.int .i64 2) (.int .u64 ((r : Nat) : Int)) p4 p5
    have B2 := ((p8.setCell (p := ⟨w.heap.size + 1 + 1, 0, none⟩) (by show w.heap.size ≤ w.heap.size + 1 + 1; omega) (.int .i64 2)).setCell (p := ⟨w.heap.size + 1 + 1, 1, none⟩) (by show w.heap.size ≤ w.heap.size + 1 + 1; omega) (.int .u64 ((r : Nat) : Int)))
    go_wp2
    exact bodyPost_ret (v := .agg #[.int .i64 2, .int .u64 ((r : Nat) : Int)]) (by simp [results, Try.results35, go_sem, q1, q2]) rfl ⟨rfl, B2⟩
set_option maxHeartbeats 4000000 in
set_option maxRecDepth 100000 in
theorem rcmp_w1 (op k : Int) (b c r : Nat) (w : World) (h7 : 7 ≤ op) (h12 : op ≤ 12) (hk : k ≠ 4) (hb : b < 18446744073709551616) (hc : c < 18446744073709551616) (hl : decide (vordP k b k c < 0) = false) (hx : c = b) (hr : b2n (cmpS op true false false) = r) :
    Calls Try.prog 35 #[.int .i64 op, .agg #[.int .i64 k, .int .u64 (b : Int)], .agg #[.int .i64 k, .int .u64 (c : Int)]] w fun e w' => e = .returned (.agg #[.int .i64 2, .int .u64 ((r : Nat) : Int)]) ∧ Below w.heap.size w w' := by
  have he := eqR
  have fk : (k == 4) = false := by simpa using hk
  have hx2 : ((b : Int) = (c : Int)) ↔ b = c := by omega
  have H := Lib.hid (fun x (hx : x = cmpS op true false false) => (hx ▸ hr : b2n x = r))
  clear hr hk
  obtain rfl : b = c := hx.symm
  clear hx2
  have base := (TwoR.start k b k b w).later (Below.refl _ _).drew
  go_enter Try.func35, Try.ntmps35
  go_wp2_with fail
  have KD := keepsD_true []
  refine region_words (TwoR w k b k b) [isW (.agg #[.int .i64 (k), .int .u64 ((b : Nat) : Int)]), isW (.agg #[.int .i64 (k), .int .u64 ((b : Nat) : Int)]), isW (.int .i64 (vordP k b k b)), isW (.bool false), isW (.agg #[.int .i64 (k), .int .u64 ((b : Nat) : Int)]), isW (.agg #[.int .i64 (k), .int .u64 ((b : Nat) : Int)]), isW (.bool true), isW (.bool false), isW (.bool true)] (by kernel_rfl) (by repeat' (first | exact monoL_nil | exact is_mono _ | exact row_mono _ | exact any_mono | refine monoL_cons ?_ ?_)) (by kernel_rfl) (by kernel_rfl) (fun _ _ h hb => TwoR.later h hb) base ?_ ?_
  · intro KC
    refine stepsL_cons (fun a u hc9 hdd hd hk9 hdep => ?_) ?_
    ·
      have d4 : (a.tmps[4]?).getD undef = (.pointer (some ⟨w.heap.size, 0, none⟩)) := hk9 4 (by kernel_rfl)
      refine step_val KC KD hc9 hdd rfl (.agg #[.int .i64 (k), .int .u64 ((b : Nat) : Int)]) u (wanted_plain rfl) ?_ rfl (Below.refl _ _)
      obtain ⟨s0, s1, s2, s3, s4, s5, s6, s7, s8⟩ := hc9
      go_simp
    refine stepsL_cons (fun a u hc9 hdd hd hk9 hdep => ?_) ?_
    ·
      have d5 : (a.tmps[5]?).getD undef = (.pointer (some ⟨w.heap.size + 1, 0, none⟩)) := hk9 5 (by kernel_rfl)
      refine step_val KC KD hc9 hdd rfl (.agg #[.int .i64 (k), .int .u64 ((b : Nat) : Int)]) u (wanted_plain rfl) ?_ rfl (Below.refl _ _)
      obtain ⟨s0, s1, s2, s3, s4, s5, s6, s7, s8⟩ := hc9
      go_simp
    refine stepsL_cons (fun a u hc9 hdd hd hk9 hdep => ?_) ?_
    ·
      have d10 : (a.tmps[10]?).getD undef = (.agg #[.int .i64 (k), .int .u64 ((b : Nat) : Int)]) := hdep ⟨0, .data⟩ (by simp) rfl
      have d11 : (a.tmps[11]?).getD undef = (.agg #[.int .i64 (k), .int .u64 ((b : Nat) : Int)]) := hdep ⟨1, .data⟩ (by simp) rfl
      refine step_call KC KD hc9 hdd rfl 58 #[.agg #[.int .i64 k, .int .u64 (b : Int)], .agg #[.int .i64 k, .int .u64 (b : Int)]] (wanted_plain rfl) (by go_simp) ?_
      exact (rorder_v k k b b u hb hc).mono (by rintro e w' ⟨rfl, hb⟩; exact ⟨_, rfl, rfl, hb⟩)
    refine stepsL_cons (fun a u hc9 hdd hd hk9 hdep => ?_) ?_
    ·
      have d12 : (a.tmps[12]?).getD undef = (.int .i64 (vordP k b k b)) := hdep ⟨2, .data⟩ (by simp) rfl
      refine step_val KC KD hc9 hdd rfl (.bool false) u (wanted_plain rfl) ?_ rfl (Below.refl _ _)
      go_simp
    refine stepsL_cons (fun a u hc9 hdd hd hk9 hdep => ?_) ?_
    ·
      have d4 : (a.tmps[4]?).getD undef = (.pointer (some ⟨w.heap.size, 0, none⟩)) := hk9 4 (by kernel_rfl)
      refine step_val KC KD hc9 hdd rfl (.agg #[.int .i64 (k), .int .u64 ((b : Nat) : Int)]) u (wanted_plain rfl) ?_ rfl (Below.refl _ _)
      obtain ⟨s0, s1, s2, s3, s4, s5, s6, s7, s8⟩ := hc9
      go_simp
    refine stepsL_cons (fun a u hc9 hdd hd hk9 hdep => ?_) ?_
    ·
      have d5 : (a.tmps[5]?).getD undef = (.pointer (some ⟨w.heap.size + 1, 0, none⟩)) := hk9 5 (by kernel_rfl)
      refine step_val KC KD hc9 hdd rfl (.agg #[.int .i64 (k), .int .u64 ((b : Nat) : Int)]) u (wanted_plain rfl) ?_ rfl (Below.refl _ _)
      obtain ⟨s0, s1, s2, s3, s4, s5, s6, s7, s8⟩ := hc9
      go_simp
    refine stepsL_cons (fun a u hc9 hdd hd hk9 hdep => ?_) ?_
    ·
      have d14 : (a.tmps[14]?).getD undef = (.agg #[.int .i64 (k), .int .u64 ((b : Nat) : Int)]) := hdep ⟨4, .data⟩ (by simp) rfl
      have d15 : (a.tmps[15]?).getD undef = (.agg #[.int .i64 (k), .int .u64 ((b : Nat) : Int)]) := hdep ⟨5, .data⟩ (by simp) rfl
      refine step_val KC KD hc9 hdd rfl (.bool true) u (wanted_plain rfl) ?_ rfl (Below.refl _ _)
      go_simp
    refine stepsL_cons (fun a u hc9 hdd hd hk9 hdep => ?_) ?_
    ·
      have d13 : (a.tmps[13]?).getD undef = (.bool false) := hdep ⟨3, .data⟩ (by simp) rfl
      refine step_val KC KD hc9 hdd rfl (.bool false) u (wanted_plain rfl) ?_ rfl (Below.refl _ _)
      first | (go_simp; done) | rfl
    refine stepsL_cons (fun a u hc9 hdd hd hk9 hdep => ?_) ?_
    ·
      have d16 : (a.tmps[16]?).getD undef = (.bool true) := hdep ⟨6, .data⟩ (by simp) rfl
      refine step_val KC KD hc9 hdd rfl (.bool true) u (wanted_plain rfl) ?_ rfl (Below.refl _ _)
      first | (go_simp; done) | rfl
    exact stepsL_nil
  intro vs wN hN hh
  obtain ⟨e0, e1, e2, e3, e4, e5, e6, e7, e8, -⟩ := hh
  have eL : vs 8 = (.bool true) := e8
  have eM : vs 7 = (.bool false) := e7
  clear e0 e1 e2 e3 e4 e5 e6 e7 e8
  set_option maxRecDepth 100000 in simp only [putAll, Act.put, List.setIfInBounds_toArray, List.set_cons_zero, List.set_cons_succ, eL, eM]
  clear he hl hb hc
  obtain ⟨p0, p1, p2, p3, p4, p5, p6, p7, p8⟩ := hN
  have hN : TwoR w k b k b wN := ⟨p0, p1, p2, p3, p4, p5, p6, p7, p8⟩
  go_wp2_with (go_at_call 12; refine (truth_r _ r (H.out _ (by (try simp only [beq_iff_eq, beq_eq_false_iff_ne] at *); unfold cmpS; (repeat' split) <;> first | rfl | (exfalso; omega) | simp_all)) _).mono ?_; rintro e w2 ⟨rfl, hb2⟩; have hN2 := TwoR.later hN hb2; obtain ⟨p0, p1, p2, p3, p4, p5, p6, p7, p8⟩ := hN2)
  all_goals
    obtain ⟨_, q1, q2⟩ := put2 (.int .i64 2) (.int .u64 ((r : Nat) : Int)) p4 p5
    have B2 := ((p8.setCell (p := ⟨w.heap.size + 1 + 1, 0, none⟩) (by show w.heap.size ≤ w.heap.size + 1 + 1; omega) (.int .i64 2)).setCell (p := ⟨w.heap.size + 1 + 1, 1, none⟩) (by show w.heap.size ≤ w.heap.size + 1 + 1; omega) (.int .u64 ((r : Nat) : Int)))
    go_wp2
    exact bodyPost_ret (v := .agg #[.int .i64 2, .int .u64 ((r : Nat) : Int)]) (by simp [results, Try.results35, go_sem, q1, q2]) rfl ⟨rfl, B2⟩
set_option maxHeartbeats 4000000 in
set_option maxRecDepth 100000 in
theorem rcmp_w2 (op k : Int) (b c r : Nat) (w : World) (h7 : 7 ≤ op) (h12 : op ≤ 12) (hk : k ≠ 4) (hb : b < 18446744073709551616) (hc : c < 18446744073709551616) (hl : decide (vordP k b k c < 0) = false) (hx : ¬ b = c) (hr : b2n (cmpS op false false true) = r) :
    Calls Try.prog 35 #[.int .i64 op, .agg #[.int .i64 k, .int .u64 (b : Int)], .agg #[.int .i64 k, .int .u64 (c : Int)]] w fun e w' => e = .returned (.agg #[.int .i64 2, .int .u64 ((r : Nat) : Int)]) ∧ Below w.heap.size w w' := by
  have he := eqR
  have fk : (k == 4) = false := by simpa using hk
  have hx2 : ((b : Int) = (c : Int)) ↔ b = c := by omega
  have H := Lib.hid (fun x (hx : x = cmpS op false false true) => (hx ▸ hr : b2n x = r))
  clear hr hk
  have base := (TwoR.start k b k c w).later (Below.refl _ _).drew
  go_enter Try.func35, Try.ntmps35
  go_wp2_with fail
  have KD := keepsD_true []
  refine region_words (TwoR w k b k c) [isW (.agg #[.int .i64 (k), .int .u64 ((b : Nat) : Int)]), isW (.agg #[.int .i64 (k), .int .u64 ((c : Nat) : Int)]), isW (.int .i64 (vordP k b k c)), isW (.bool false), isW (.agg #[.int .i64 (k), .int .u64 ((b : Nat) : Int)]), isW (.agg #[.int .i64 (k), .int .u64 ((c : Nat) : Int)]), isW (.bool false), isW (.bool false), isW (.bool false)] (by kernel_rfl) (by repeat' (first | exact monoL_nil | exact is_mono _ | exact row_mono _ | exact any_mono | refine monoL_cons ?_ ?_)) (by kernel_rfl) (by kernel_rfl) (fun _ _ h hb => TwoR.later h hb) base ?_ ?_
  · intro KC
    refine stepsL_cons (fun a u hc9 hdd hd hk9 hdep => ?_) ?_
    ·
      have d4 : (a.tmps[4]?).getD undef = (.pointer (some ⟨w.heap.size, 0, none⟩)) := hk9 4 (by kernel_rfl)
      refine step_val KC KD hc9 hdd rfl (.agg #[.int .i64 (k), .int .u64 ((b : Nat) : Int)]) u (wanted_plain rfl) ?_ rfl (Below.refl _ _)
      obtain ⟨s0, s1, s2, s3, s4, s5, s6, s7, s8⟩ := hc9
      go_simp
    refine stepsL_cons (fun a u hc9 hdd hd hk9 hdep => ?_) ?_
    ·
      have d5 : (a.tmps[5]?).getD undef = (.pointer (some ⟨w.heap.size + 1, 0, none⟩)) := hk9 5 (by kernel_rfl)
      refine step_val KC KD hc9 hdd rfl (.agg #[.int .i64 (k), .int .u64 ((c : Nat) : Int)]) u (wanted_plain rfl) ?_ rfl (Below.refl _ _)
      obtain ⟨s0, s1, s2, s3, s4, s5, s6, s7, s8⟩ := hc9
      go_simp
    refine stepsL_cons (fun a u hc9 hdd hd hk9 hdep => ?_) ?_
    ·
      have d10 : (a.tmps[10]?).getD undef = (.agg #[.int .i64 (k), .int .u64 ((b : Nat) : Int)]) := hdep ⟨0, .data⟩ (by simp) rfl
      have d11 : (a.tmps[11]?).getD undef = (.agg #[.int .i64 (k), .int .u64 ((c : Nat) : Int)]) := hdep ⟨1, .data⟩ (by simp) rfl
      refine step_call KC KD hc9 hdd rfl 58 #[.agg #[.int .i64 k, .int .u64 (b : Int)], .agg #[.int .i64 k, .int .u64 (c : Int)]] (wanted_plain rfl) (by go_simp) ?_
      exact (rorder_v k k b c u hb hc).mono (by rintro e w' ⟨rfl, hb⟩; exact ⟨_, rfl, rfl, hb⟩)
    refine stepsL_cons (fun a u hc9 hdd hd hk9 hdep => ?_) ?_
    ·
      have d12 : (a.tmps[12]?).getD undef = (.int .i64 (vordP k b k c)) := hdep ⟨2, .data⟩ (by simp) rfl
      refine step_val KC KD hc9 hdd rfl (.bool false) u (wanted_plain rfl) ?_ rfl (Below.refl _ _)
      go_simp
    refine stepsL_cons (fun a u hc9 hdd hd hk9 hdep => ?_) ?_
    ·
      have d4 : (a.tmps[4]?).getD undef = (.pointer (some ⟨w.heap.size, 0, none⟩)) := hk9 4 (by kernel_rfl)
      refine step_val KC KD hc9 hdd rfl (.agg #[.int .i64 (k), .int .u64 ((b : Nat) : Int)]) u (wanted_plain rfl) ?_ rfl (Below.refl _ _)
      obtain ⟨s0, s1, s2, s3, s4, s5, s6, s7, s8⟩ := hc9
      go_simp
    refine stepsL_cons (fun a u hc9 hdd hd hk9 hdep => ?_) ?_
    ·
      have d5 : (a.tmps[5]?).getD undef = (.pointer (some ⟨w.heap.size + 1, 0, none⟩)) := hk9 5 (by kernel_rfl)
      refine step_val KC KD hc9 hdd rfl (.agg #[.int .i64 (k), .int .u64 ((c : Nat) : Int)]) u (wanted_plain rfl) ?_ rfl (Below.refl _ _)
      obtain ⟨s0, s1, s2, s3, s4, s5, s6, s7, s8⟩ := hc9
      go_simp
    refine stepsL_cons (fun a u hc9 hdd hd hk9 hdep => ?_) ?_
    ·
      have d14 : (a.tmps[14]?).getD undef = (.agg #[.int .i64 (k), .int .u64 ((b : Nat) : Int)]) := hdep ⟨4, .data⟩ (by simp) rfl
      have d15 : (a.tmps[15]?).getD undef = (.agg #[.int .i64 (k), .int .u64 ((c : Nat) : Int)]) := hdep ⟨5, .data⟩ (by simp) rfl
      refine step_val KC KD hc9 hdd rfl (.bool false) u (wanted_plain rfl) ?_ rfl (Below.refl _ _)
      go_simp
    refine stepsL_cons (fun a u hc9 hdd hd hk9 hdep => ?_) ?_
    ·
      have d13 : (a.tmps[13]?).getD undef = (.bool false) := hdep ⟨3, .data⟩ (by simp) rfl
      refine step_val KC KD hc9 hdd rfl (.bool false) u (wanted_plain rfl) ?_ rfl (Below.refl _ _)
      first | (go_simp; done) | rfl
    refine stepsL_cons (fun a u hc9 hdd hd hk9 hdep => ?_) ?_
    ·
      have d16 : (a.tmps[16]?).getD undef = (.bool false) := hdep ⟨6, .data⟩ (by simp) rfl
      refine step_val KC KD hc9 hdd rfl (.bool false) u (wanted_plain rfl) ?_ rfl (Below.refl _ _)
      first | (go_simp; done) | rfl
    exact stepsL_nil
  intro vs wN hN hh
  obtain ⟨e0, e1, e2, e3, e4, e5, e6, e7, e8, -⟩ := hh
  have eL : vs 8 = (.bool false) := e8
  have eM : vs 7 = (.bool false) := e7
  clear e0 e1 e2 e3 e4 e5 e6 e7 e8
  set_option maxRecDepth 100000 in simp only [putAll, Act.put, List.setIfInBounds_toArray, List.set_cons_zero, List.set_cons_succ, eL, eM]
  clear he hl hb hc hx2
  obtain ⟨p0, p1, p2, p3, p4, p5, p6, p7, p8⟩ := hN
  have hN : TwoR w k b k c wN := ⟨p0, p1, p2, p3, p4, p5, p6, p7, p8⟩
  go_wp2_with (go_at_call 12; refine (truth_r _ r (H.out _ (by (try simp only [beq_iff_eq, beq_eq_false_iff_ne] at *); unfold cmpS; (repeat' split) <;> first | rfl | (exfalso; omega) | simp_all)) _).mono ?_; rintro e w2 ⟨rfl, hb2⟩; have hN2 := TwoR.later hN hb2; obtain ⟨p0, p1, p2, p3, p4, p5, p6, p7, p8⟩ := hN2)
  all_goals
    obtain ⟨_, q1, q2⟩ := put2 (.int .i64 2) (.int .u64 ((r : Nat) : Int)) p4 p5
    have B2 := ((p8.setCell (p := ⟨w.heap.size + 1 + 1, 0, none⟩) (by show w.heap.size ≤ w.heap.size + 1 + 1; omega) (.int .i64 2)).setCell (p := ⟨w.heap.size + 1 + 1, 1, none⟩) (by show w.heap.size ≤ w.heap.size + 1 + 1; omega) (.int .u64 ((r : Nat) : Int)))
    go_wp2
    exact bodyPost_ret (v := .agg #[.int .i64 2, .int .u64 ((r : Nat) : Int)]) (by simp [results, Try.results35, go_sem, q1, q2]) rfl ⟨rfl, B2⟩
end Go.Proofs.Ytfjnphiegoogoaa
