/- RLogic -/
import Derived.Test.YtfjnphiegoogoaaZ09
import Derived.Test.YtfjnphiegoogoaaZ05
/- RLogic -/
namespace Go.Proofs.Ytfjnphiegoogoaa
open Go.ChangeShapes Go.WideShapes Go.ChangeAt Go.RowKit Go.Fl

/-- both operands and the answer's place, of the document's values -/
def TwoR (w0 : World) (k : Int) (b : Nat) (l : Int) (c : Nat) (w' : World) : Prop :=
  w'.cell? ⟨w0.heap.size, 0, none⟩ = some (.int .i64 k) ∧ w'.cell? ⟨w0.heap.size, 1, none⟩ = some (.int .u64 (b : Int)) ∧ w'.cell? ⟨w0.heap.size + 1, 0, none⟩ = some (.int .i64 l) ∧ w'.cell? ⟨w0.heap.size + 1, 1, none⟩ = some (.int .u64 (c : Int)) ∧
  w'.cell? ⟨w0.heap.size + 1 + 1, 0, none⟩ = some (.int .i64 0) ∧ w'.cell? ⟨w0.heap.size + 1 + 1, 1, none⟩ = some (.int .u64 0) ∧ w'.frozen? ⟨w0.heap.size + 1 + 1, 0, none⟩ = false ∧ w'.frozen? ⟨w0.heap.size + 1 + 1, 1, none⟩ = false ∧ Below w0.heap.size w0 w'
theorem TwoR.later {w0 w w1 : World} {k : Int} {b : Nat} {l : Int} {c : Nat} (h : TwoR w0 k b l c w) (hb : Below w.heap.size w w1) : TwoR w0 k b l c w1 := by
  obtain ⟨h0, h1, h2, h3, h4, h5, h6, h7, h8⟩ := h
  have hg := block_of_cell h4
  exact ⟨cell_later hb h0, cell_later hb h1, cell_later hb h2, cell_later hb h3, cell_later hb h4, cell_later hb h5, (hb.frozen (p := ⟨w0.heap.size + 1 + 1, 0, none⟩) hg).trans h6, (hb.frozen (p := ⟨w0.heap.size + 1 + 1, 1, none⟩) hg).trans h7, below_more h8 hb⟩
theorem TwoR.start (k : Int) (b : Nat) (l : Int) (c : Nat) (w : World) : TwoR w k b l c (((w.alloc (.cells #[.int .i64 k, .int .u64 (b : Int)] 36)).alloc (.cells #[.int .i64 l, .int .u64 (c : Int)] 36)).alloc (.cells #[.int .i64 0, .int .u64 0] 36)) :=
  ⟨by simp [go_sem], by simp [go_sem], by simp [go_sem], by simp [go_sem], by simp [go_sem], by simp [go_sem], by simp [go_sem], by simp [go_sem], below3 _ _ _ _⟩
theorem truth_v (x : Bool) (w : World) :
    Calls Try.prog 12 #[.bool x] w fun e w' => e = .returned (.agg #[.int .i64 2, .int .u64 ((b2n x : Nat) : Int)]) ∧ Below w.heap.size w w' := by
  have h := truth_any x w
  rw [show tB x = ((b2n x : Nat) : Int) by cases x <;> rfl] at h
  exact h

set_option maxHeartbeats 4000000 in
set_option maxRecDepth 100000 in
theorem rlogic_0 (k : Int) (b : Nat) (l : Int) (c : Nat) (w : World) (hk : k = 2 → b ≤ 1) :
    Calls Try.prog 33 #[.agg #[.int .i64 k, .int .u64 (b : Int)], .agg #[.int .i64 l, .int .u64 (c : Int)], .bool false] w fun e w' => e = .returned (.agg #[.int .i64 (bo2 0 k b l c).1, .int .u64 (((bo2 0 k b l c).2 : Nat) : Int)]) ∧ Below w.heap.size w w' := by
  have he := eqR
  have heql : ∀ (k b : Int) (w : World), (binOp .eql 36 (.agg #[.int .i64 k, .int .u64 b]) (.agg #[.int .i64 k, .int .u64 b])).run Try.prog w = .ok (.bool true) w := fun k b w => by simp [go_sem]
  have base := (TwoR.start k b l c w).later (Below.refl _ _).drew
  by_cases c1 : k = 2 ∧ b = 0
  · obtain ⟨rfl, rfl⟩ := c1
    rw [show bo2 0 2 0 l c = (2, 0) by unfold bo2; rw [if_pos (.inl ⟨rfl, rfl⟩)]]
    clear hk
    go_enter Try.func33, Try.ntmps33
    go_wp2_with fail
    have KD := keepsD_true []
    refine region_words (TwoR w (2) (0) (l) (c)) [isW (.agg #[.int .i64 (2), .int .u64 ((0 : Nat) : Int)]), isW (.bool false), isW (.agg #[.int .i64 (2), .int .u64 ((0 : Nat) : Int)]), isW (.bool true), isW (.bool true), isW undef, isW undef, isW undef, isW undef, isW (.bool true)] (by kernel_rfl) (by repeat' (first | exact monoL_nil | exact is_mono _ | exact row_mono _ | exact any_mono | refine monoL_cons ?_ ?_)) (by kernel_rfl) (by kernel_rfl) (fun _ _ h hb => TwoR.later h hb) base ?_ ?_
    · intro KC
      refine stepsL_cons (fun a u hc hdd hd hk hdep => ?_) ?_
      ·
        have d3 : (a.tmps[3]?).getD undef = (.pointer (some ⟨w.heap.size, 0, none⟩)) := hk 3 (by kernel_rfl)
        refine step_val KC KD hc hdd rfl (.agg #[.int .i64 (2), .int .u64 ((0 : Nat) : Int)]) u (wanted_plain rfl) ?_ rfl (Below.refl _ _)
        obtain ⟨s0, s1, s2, s3, s4, s5, s6, s7, s8⟩ := hc
        go_simp
      refine stepsL_cons (fun a u hc hdd hd hk hdep => ?_) ?_
      ·
        have d2 : (a.tmps[2]?).getD undef = (.bool false) := hk 2 (by kernel_rfl)
        refine step_val KC KD hc hdd rfl (.bool false) u (wanted_plain rfl) ?_ rfl (Below.refl _ _)
        first | (go_simp; done) | rfl
      refine stepsL_cons (fun a u hc hdd hd hk hdep => ?_) ?_
      ·
        have d8 : (a.tmps[8]?).getD undef = (.bool false) := hdep ⟨1, .data⟩ (by simp) rfl
        refine step_call KC KD hc hdd rfl 12 #[.bool false] (wanted_plain rfl) (by go_simp) ?_
        exact (truth_v false u).mono (by rintro e w' ⟨rfl, hb⟩; exact ⟨_, rfl, rfl, hb⟩)
      refine stepsL_cons (fun a u hc hdd hd hk hdep => ?_) ?_
      ·
        have d7 : (a.tmps[7]?).getD undef = (.agg #[.int .i64 (2), .int .u64 ((0 : Nat) : Int)]) := hdep ⟨0, .data⟩ (by simp) rfl
        have d9 : (a.tmps[9]?).getD undef = (.agg #[.int .i64 (2), .int .u64 ((0 : Nat) : Int)]) := hdep ⟨2, .data⟩ (by simp) rfl
        refine step_val KC KD hc hdd rfl (.bool true) u (wanted_plain rfl) ?_ rfl (Below.refl _ _)
        go_simp
      refine stepsL_cons (fun a u hc hdd hd hk hdep => ?_) ?_
      ·
        have d10 : (a.tmps[10]?).getD undef = (.bool true) := hdep ⟨3, .data⟩ (by simp) rfl
        refine step_val KC KD hc hdd rfl (.bool true) u (wanted_plain rfl) ?_ rfl (Below.refl _ _)
        first | (go_simp; done) | rfl
      refine stepsL_cons (fun a u hc hdd hd hk hdep => ?_) ?_
      · exact step_skip KD hc hdd rfl ((wanted_guard (j := 4) (b := false) (c := true) rfl (hdep ⟨4, .guard⟩ (by simp) rfl)).trans rfl) rfl
      refine stepsL_cons (fun a u hc hdd hd hk hdep => ?_) ?_
      · exact step_skip KD hc hdd rfl ((wanted_guard (j := 4) (b := false) (c := true) rfl (hdep ⟨4, .guard⟩ (by simp) rfl)).trans rfl) rfl
      refine stepsL_cons (fun a u hc hdd hd hk hdep => ?_) ?_
      · exact step_skip KD hc hdd rfl ((wanted_guard (j := 4) (b := false) (c := true) rfl (hdep ⟨4, .chain⟩ (by simp) rfl)).trans rfl) rfl
      refine stepsL_cons (fun a u hc hdd hd hk hdep => ?_) ?_
      · exact step_skip KD hc hdd rfl ((wanted_guard (j := 4) (b := false) (c := true) rfl (hdep ⟨4, .guard⟩ (by simp) rfl)).trans rfl) rfl
      refine stepsL_cons (fun a u hc hdd hd hk hdep => ?_) ?_
      ·
        have d11 : (a.tmps[11]?).getD undef = (.bool true) := hdep ⟨4, .data⟩ (by simp) rfl
        have d15 : (a.tmps[15]?).getD undef = undef := hdep ⟨8, .data⟩ (by simp) rfl
        refine step_val KC KD hc hdd rfl (.bool true) u (wanted_plain rfl) ?_ rfl (Below.refl _ _)
        first | (go_simp; done) | rfl
      exact stepsL_nil
    intro vs wN hN hh
    obtain ⟨e0, e1, e2, e3, e4, e5, e6, e7, e8, e9, -⟩ := hh
    have eL : vs 9 = (.bool true) := e9
    clear e0 e1 e2 e3 e4 e5 e6 e7 e8 e9
    set_option maxRecDepth 100000 in simp only [putAll, Act.put, List.setIfInBounds_toArray, List.set_cons_zero, List.set_cons_succ, eL]
    obtain ⟨p0, p1, p2, p3, p4, p5, p6, p7, p8⟩ := hN
    go_wp2_with fail
    refine (truth_v false _).mono ?_; rintro e w2 ⟨rfl, hb2⟩
    have hN2 := TwoR.later ⟨p0, p1, p2, p3, p4, p5, p6, p7, p8⟩ hb2
    clear p0 p1 p2 p3 p4 p5 p6 p7 p8 hb2
    obtain ⟨p0, p1, p2, p3, p4, p5, p6, p7, p8⟩ := hN2
    obtain ⟨_, q1, q2⟩ := put2 (.int .i64 (2)) (.int .u64 ((b2n false : Nat) : Int)) p4 p5
    have B2 := ((p8.setCell (p := ⟨w.heap.size + 1 + 1, 0, none⟩) (by show w.heap.size ≤ w.heap.size + 1 + 1; omega) (.int .i64 (2))).setCell (p := ⟨w.heap.size + 1 + 1, 1, none⟩) (by show w.heap.size ≤ w.heap.size + 1 + 1; omega) (.int .u64 ((b2n false : Nat) : Int)))
    go_wp2
    exact bodyPost_ret (v := .agg #[.int .i64 (2), .int .u64 ((b2n false : Nat) : Int)]) (by simp [results, Try.results33, go_sem, q1, q2]) rfl ⟨rfl, B2⟩
  have d1 : ¬ (k = 2 ∧ (b : Int) = 0) := by omega
  by_cases c2 : l = 2 ∧ c = 0
  · obtain ⟨rfl, rfl⟩ := c2
    rw [show bo2 0 k b 2 0 = (2, 0) by unfold bo2; rw [if_pos (.inr ⟨rfl, rfl⟩)]]
    clear hk
    go_enter Try.func33, Try.ntmps33
    go_wp2_with fail
    have KD := keepsD_true []
    refine region_words (TwoR w (k) (b) (2) (0)) [isW (.agg #[.int .i64 (k), .int .u64 ((b : Nat) : Int)]), isW (.bool false), isW (.agg #[.int .i64 (2), .int .u64 ((0 : Nat) : Int)]), isW (.bool false), isW (.bool false), isW (.agg #[.int .i64 (2), .int .u64 ((0 : Nat) : Int)]), isW (.bool false), isW (.agg #[.int .i64 (2), .int .u64 ((0 : Nat) : Int)]), isW (.bool true), isW (.bool true)] (by kernel_rfl) (by repeat' (first | exact monoL_nil | exact is_mono _ | exact row_mono _ | exact any_mono | refine monoL_cons ?_ ?_)) (by kernel_rfl) (by kernel_rfl) (fun _ _ h hb => TwoR.later h hb) base ?_ ?_
    · intro KC
      refine stepsL_cons (fun a u hc hdd hd hk hdep => ?_) ?_
      ·
        have d3 : (a.tmps[3]?).getD undef = (.pointer (some ⟨w.heap.size, 0, none⟩)) := hk 3 (by kernel_rfl)
        refine step_val KC KD hc hdd rfl (.agg #[.int .i64 (k), .int .u64 ((b : Nat) : Int)]) u (wanted_plain rfl) ?_ rfl (Below.refl _ _)
        obtain ⟨s0, s1, s2, s3, s4, s5, s6, s7, s8⟩ := hc
        go_simp
      refine stepsL_cons (fun a u hc hdd hd hk hdep => ?_) ?_
      ·
        have d2 : (a.tmps[2]?).getD undef = (.bool false) := hk 2 (by kernel_rfl)
        refine step_val KC KD hc hdd rfl (.bool false) u (wanted_plain rfl) ?_ rfl (Below.refl _ _)
        first | (go_simp; done) | rfl
      refine stepsL_cons (fun a u hc hdd hd hk hdep => ?_) ?_
      ·
        have d8 : (a.tmps[8]?).getD undef = (.bool false) := hdep ⟨1, .data⟩ (by simp) rfl
        refine step_call KC KD hc hdd rfl 12 #[.bool false] (wanted_plain rfl) (by go_simp) ?_
        exact (truth_v false u).mono (by rintro e w' ⟨rfl, hb⟩; exact ⟨_, rfl, rfl, hb⟩)
      refine stepsL_cons (fun a u hc hdd hd hk hdep => ?_) ?_
      ·
        have d7 : (a.tmps[7]?).getD undef = (.agg #[.int .i64 (k), .int .u64 ((b : Nat) : Int)]) := hdep ⟨0, .data⟩ (by simp) rfl
        have d9 : (a.tmps[9]?).getD undef = (.agg #[.int .i64 (2), .int .u64 ((0 : Nat) : Int)]) := hdep ⟨2, .data⟩ (by simp) rfl
        refine step_val KC KD hc hdd rfl (.bool false) u (wanted_plain rfl) ?_ rfl (Below.refl _ _)
        go_simp
      refine stepsL_cons (fun a u hc hdd hd hk hdep => ?_) ?_
      ·
        have d10 : (a.tmps[10]?).getD undef = (.bool false) := hdep ⟨3, .data⟩ (by simp) rfl
        refine step_val KC KD hc hdd rfl (.bool false) u (wanted_plain rfl) ?_ rfl (Below.refl _ _)
        first | (go_simp; done) | rfl
      refine stepsL_cons (fun a u hc hdd hd hk hdep => ?_) ?_
      ·
        have d4 : (a.tmps[4]?).getD undef = (.pointer (some ⟨w.heap.size + 1, 0, none⟩)) := hk 4 (by kernel_rfl)
        refine step_val KC KD hc hdd rfl (.agg #[.int .i64 (2), .int .u64 ((0 : Nat) : Int)]) u ((wanted_guard (j := 4) (b := false) (c := false) rfl (hdep ⟨4, .guard⟩ (by simp) rfl)).trans rfl) ?_ rfl (Below.refl _ _)
        obtain ⟨s0, s1, s2, s3, s4, s5, s6, s7, s8⟩ := hc
        go_simp
      refine stepsL_cons (fun a u hc hdd hd hk hdep => ?_) ?_
      ·
        have d2 : (a.tmps[2]?).getD undef = (.bool false) := hk 2 (by kernel_rfl)
        refine step_val KC KD hc hdd rfl (.bool false) u ((wanted_guard (j := 4) (b := false) (c := false) rfl (hdep ⟨4, .guard⟩ (by simp) rfl)).trans rfl) ?_ rfl (Below.refl _ _)
        first | (go_simp; done) | rfl
      refine stepsL_cons (fun a u hc hdd hd hk hdep => ?_) ?_
      ·
        have d13 : (a.tmps[13]?).getD undef = (.bool false) := hdep ⟨6, .data⟩ (by simp) rfl
        refine step_call KC KD hc hdd rfl 12 #[.bool false] ((wanted_guard (j := 4) (b := false) (c := false) rfl (hdep ⟨4, .chain⟩ (by simp) rfl)).trans rfl) (by go_simp) ?_
        exact (truth_v false u).mono (by rintro e w' ⟨rfl, hb⟩; exact ⟨_, rfl, rfl, hb⟩)
      refine stepsL_cons (fun a u hc hdd hd hk hdep => ?_) ?_
      ·
        have d12 : (a.tmps[12]?).getD undef = (.agg #[.int .i64 (2), .int .u64 ((0 : Nat) : Int)]) := hdep ⟨5, .data⟩ (by simp) rfl
        have d14 : (a.tmps[14]?).getD undef = (.agg #[.int .i64 (2), .int .u64 ((0 : Nat) : Int)]) := hdep ⟨7, .data⟩ (by simp) rfl
        refine step_val KC KD hc hdd rfl (.bool true) u ((wanted_guard (j := 4) (b := false) (c := false) rfl (hdep ⟨4, .guard⟩ (by simp) rfl)).trans rfl) ?_ rfl (Below.refl _ _)
        go_simp
      refine stepsL_cons (fun a u hc hdd hd hk hdep => ?_) ?_
      ·
        have d11 : (a.tmps[11]?).getD undef = (.bool false) := hdep ⟨4, .data⟩ (by simp) rfl
        have d15 : (a.tmps[15]?).getD undef = (.bool true) := hdep ⟨8, .data⟩ (by simp) rfl
        refine step_val KC KD hc hdd rfl (.bool true) u (wanted_plain rfl) ?_ rfl (Below.refl _ _)
        first | (go_simp; done) | rfl
      exact stepsL_nil
    intro vs wN hN hh
    obtain ⟨e0, e1, e2, e3, e4, e5, e6, e7, e8, e9, -⟩ := hh
    have eL : vs 9 = (.bool true) := e9
    clear e0 e1 e2 e3 e4 e5 e6 e7 e8 e9
    set_option maxRecDepth 100000 in simp only [putAll, Act.put, List.setIfInBounds_toArray, List.set_cons_zero, List.set_cons_succ, eL]
    obtain ⟨p0, p1, p2, p3, p4, p5, p6, p7, p8⟩ := hN
    go_wp2_with fail
    refine (truth_v false _).mono ?_; rintro e w2 ⟨rfl, hb2⟩
    have hN2 := TwoR.later ⟨p0, p1, p2, p3, p4, p5, p6, p7, p8⟩ hb2
    clear p0 p1 p2 p3 p4 p5 p6 p7 p8 hb2
    obtain ⟨p0, p1, p2, p3, p4, p5, p6, p7, p8⟩ := hN2
    obtain ⟨_, q1, q2⟩ := put2 (.int .i64 (2)) (.int .u64 ((b2n false : Nat) : Int)) p4 p5
    have B2 := ((p8.setCell (p := ⟨w.heap.size + 1 + 1, 0, none⟩) (by show w.heap.size ≤ w.heap.size + 1 + 1; omega) (.int .i64 (2))).setCell (p := ⟨w.heap.size + 1 + 1, 1, none⟩) (by show w.heap.size ≤ w.heap.size + 1 + 1; omega) (.int .u64 ((b2n false : Nat) : Int)))
    go_wp2
    exact bodyPost_ret (v := .agg #[.int .i64 (2), .int .u64 ((b2n false : Nat) : Int)]) (by simp [results, Try.results33, go_sem, q1, q2]) rfl ⟨rfl, B2⟩
  have d2 : ¬ (l = 2 ∧ (c : Int) = 0) := by omega
  by_cases c3 : k = 2
  · by_cases c4 : l = 2
    · subst c3 c4
      obtain rfl : b = 1 - 0 := by have := hk rfl; omega
      rw [show bo2 0 2 (1 - 0) 2 c = (2, b2n true) by unfold bo2; rw [if_neg (by omega), if_neg (by omega)]; rfl]
      have d3 : ¬ c = 0 := by omega
      have d4 : ¬ (c : Int) = 0 := by omega
      clear hk c1 c2 d1 d2
      go_enter Try.func33, Try.ntmps33
      go_wp2_with fail
      have KD := keepsD_true []
      refine region_words (TwoR w (2) (1 - 0) (2) (c)) [isW (.agg #[.int .i64 (2), .int .u64 ((1 - 0 : Nat) : Int)]), isW (.bool false), isW (.agg #[.int .i64 (2), .int .u64 ((0 : Nat) : Int)]), isW (.bool false), isW (.bool false), isW (.agg #[.int .i64 (2), .int .u64 ((c : Nat) : Int)]), isW (.bool false), isW (.agg #[.int .i64 (2), .int .u64 ((0 : Nat) : Int)]), isW (.bool false), isW (.bool false)] (by kernel_rfl) (by repeat' (first | exact monoL_nil | exact is_mono _ | exact row_mono _ | exact any_mono | refine monoL_cons ?_ ?_)) (by kernel_rfl) (by kernel_rfl) (fun _ _ h hb => TwoR.later h hb) base ?_ ?_
      · intro KC
        refine stepsL_cons (fun a u hc hdd hd hk hdep => ?_) ?_
        ·
          have d3 : (a.tmps[3]?).getD undef = (.pointer (some ⟨w.heap.size, 0, none⟩)) := hk 3 (by kernel_rfl)
          refine step_val KC KD hc hdd rfl (.agg #[.int .i64 (2), .int .u64 ((1 - 0 : Nat) : Int)]) u (wanted_plain rfl) ?_ rfl (Below.refl _ _)
          obtain ⟨s0, s1, s2, s3, s4, s5, s6, s7, s8⟩ := hc
          go_simp
        refine stepsL_cons (fun a u hc hdd hd hk hdep => ?_) ?_
        ·
          have d2 : (a.tmps[2]?).getD undef = (.bool false) := hk 2 (by kernel_rfl)
          refine step_val KC KD hc hdd rfl (.bool false) u (wanted_plain rfl) ?_ rfl (Below.refl _ _)
          first | (go_simp; done) | rfl
        refine stepsL_cons (fun a u hc hdd hd hk hdep => ?_) ?_
        ·
          have d8 : (a.tmps[8]?).getD undef = (.bool false) := hdep ⟨1, .data⟩ (by simp) rfl
          refine step_call KC KD hc hdd rfl 12 #[.bool false] (wanted_plain rfl) (by go_simp) ?_
          exact (truth_v false u).mono (by rintro e w' ⟨rfl, hb⟩; exact ⟨_, rfl, rfl, hb⟩)
        refine stepsL_cons (fun a u hc hdd hd hk hdep => ?_) ?_
        ·
          have d7 : (a.tmps[7]?).getD undef = (.agg #[.int .i64 (2), .int .u64 ((1 - 0 : Nat) : Int)]) := hdep ⟨0, .data⟩ (by simp) rfl
          have d9 : (a.tmps[9]?).getD undef = (.agg #[.int .i64 (2), .int .u64 ((0 : Nat) : Int)]) := hdep ⟨2, .data⟩ (by simp) rfl
          refine step_val KC KD hc hdd rfl (.bool false) u (wanted_plain rfl) ?_ rfl (Below.refl _ _)
          go_simp
        refine stepsL_cons (fun a u hc hdd hd hk hdep => ?_) ?_
        ·
          have d10 : (a.tmps[10]?).getD undef = (.bool false) := hdep ⟨3, .data⟩ (by simp) rfl
          refine step_val KC KD hc hdd rfl (.bool false) u (wanted_plain rfl) ?_ rfl (Below.refl _ _)
          first | (go_simp; done) | rfl
        refine stepsL_cons (fun a u hc hdd hd hk hdep => ?_) ?_
        ·
          have d4 : (a.tmps[4]?).getD undef = (.pointer (some ⟨w.heap.size + 1, 0, none⟩)) := hk 4 (by kernel_rfl)
          refine step_val KC KD hc hdd rfl (.agg #[.int .i64 (2), .int .u64 ((c : Nat) : Int)]) u ((wanted_guard (j := 4) (b := false) (c := false) rfl (hdep ⟨4, .guard⟩ (by simp) rfl)).trans rfl) ?_ rfl (Below.refl _ _)
          obtain ⟨s0, s1, s2, s3, s4, s5, s6, s7, s8⟩ := hc
          go_simp
        refine stepsL_cons (fun a u hc hdd hd hk hdep => ?_) ?_
        ·
          have d2 : (a.tmps[2]?).getD undef = (.bool false) := hk 2 (by kernel_rfl)
          refine step_val KC KD hc hdd rfl (.bool false) u ((wanted_guard (j := 4) (b := false) (c := false) rfl (hdep ⟨4, .guard⟩ (by simp) rfl)).trans rfl) ?_ rfl (Below.refl _ _)
          first | (go_simp; done) | rfl
        refine stepsL_cons (fun a u hc hdd hd hk hdep => ?_) ?_
        ·
          have d13 : (a.tmps[13]?).getD undef = (.bool false) := hdep ⟨6, .data⟩ (by simp) rfl
          refine step_call KC KD hc hdd rfl 12 #[.bool false] ((wanted_guard (j := 4) (b := false) (c := false) rfl (hdep ⟨4, .chain⟩ (by simp) rfl)).trans rfl) (by go_simp) ?_
          exact (truth_v false u).mono (by rintro e w' ⟨rfl, hb⟩; exact ⟨_, rfl, rfl, hb⟩)
        refine stepsL_cons (fun a u hc hdd hd hk hdep => ?_) ?_
        ·
          have d12 : (a.tmps[12]?).getD undef = (.agg #[.int .i64 (2), .int .u64 ((c : Nat) : Int)]) := hdep ⟨5, .data⟩ (by simp) rfl
          have d14 : (a.tmps[14]?).getD undef = (.agg #[.int .i64 (2), .int .u64 ((0 : Nat) : Int)]) := hdep ⟨7, .data⟩ (by simp) rfl
          refine step_val KC KD hc hdd rfl (.bool false) u ((wanted_guard (j := 4) (b := false) (c := false) rfl (hdep ⟨4, .guard⟩ (by simp) rfl)).trans rfl) ?_ rfl (Below.refl _ _)
          go_simp
        refine stepsL_cons (fun a u hc hdd hd hk hdep => ?_) ?_
        ·
          have d11 : (a.tmps[11]?).getD undef = (.bool false) := hdep ⟨4, .data⟩ (by simp) rfl
          have d15 : (a.tmps[15]?).getD undef = (.bool false) := hdep ⟨8, .data⟩ (by simp) rfl
          refine step_val KC KD hc hdd rfl (.bool false) u (wanted_plain rfl) ?_ rfl (Below.refl _ _)
          first | (go_simp; done) | rfl
        exact stepsL_nil
      intro vs wN hN hh
      obtain ⟨e0, e1, e2, e3, e4, e5, e6, e7, e8, e9, -⟩ := hh
      have eL : vs 9 = (.bool false) := e9
      clear e0 e1 e2 e3 e4 e5 e6 e7 e8 e9
      set_option maxRecDepth 100000 in simp only [putAll, Act.put, List.setIfInBounds_toArray, List.set_cons_zero, List.set_cons_succ, eL]
      obtain ⟨p0, p1, p2, p3, p4, p5, p6, p7, p8⟩ := hN
      go_wp2_with fail
      refine (truth_v true _).mono ?_; rintro e w2 ⟨rfl, hb2⟩
      have hN2 := TwoR.later ⟨p0, p1, p2, p3, p4, p5, p6, p7, p8⟩ hb2
      clear p0 p1 p2 p3 p4 p5 p6 p7 p8 hb2
      obtain ⟨p0, p1, p2, p3, p4, p5, p6, p7, p8⟩ := hN2
      obtain ⟨_, q1, q2⟩ := put2 (.int .i64 (2)) (.int .u64 ((b2n true : Nat) : Int)) p4 p5
      have B2 := ((p8.setCell (p := ⟨w.heap.size + 1 + 1, 0, none⟩) (by show w.heap.size ≤ w.heap.size + 1 + 1; omega) (.int .i64 (2))).setCell (p := ⟨w.heap.size + 1 + 1, 1, none⟩) (by show w.heap.size ≤ w.heap.size + 1 + 1; omega) (.int .u64 ((b2n true : Nat) : Int)))
      go_wp2
      exact bodyPost_ret (v := .agg #[.int .i64 (2), .int .u64 ((b2n true : Nat) : Int)]) (by simp [results, Try.results33, go_sem, q1, q2]) rfl ⟨rfl, B2⟩
    · have f4 : (l != 2) = true := by simpa using c4
      have f3 : (k != 2) = false := by simpa using c3
      rw [show bo2 0 k b l c = (0, 0) by unfold bo2; rw [if_neg (by omega), if_pos (by omega)]]
      clear hk c3
      go_enter Try.func33, Try.ntmps33
      go_wp2_with fail
      have KD := keepsD_true []
      refine region_words (TwoR w (k) (b) (l) (c)) [isW (.agg #[.int .i64 (k), .int .u64 ((b : Nat) : Int)]), isW (.bool false), isW (.agg #[.int .i64 (2), .int .u64 ((0 : Nat) : Int)]), isW (.bool false), isW (.bool false), isW (.agg #[.int .i64 (l), .int .u64 ((c : Nat) : Int)]), isW (.bool false), isW (.agg #[.int .i64 (2), .int .u64 ((0 : Nat) : Int)]), isW (.bool false), isW (.bool false)] (by kernel_rfl) (by repeat' (first | exact monoL_nil | exact is_mono _ | exact row_mono _ | exact any_mono | refine monoL_cons ?_ ?_)) (by kernel_rfl) (by kernel_rfl) (fun _ _ h hb => TwoR.later h hb) base ?_ ?_
      · intro KC
        refine stepsL_cons (fun a u hc hdd hd hk hdep => ?_) ?_
        ·
          have d3 : (a.tmps[3]?).getD undef = (.pointer (some ⟨w.heap.size, 0, none⟩)) := hk 3 (by kernel_rfl)
          refine step_val KC KD hc hdd rfl (.agg #[.int .i64 (k), .int .u64 ((b : Nat) : Int)]) u (wanted_plain rfl) ?_ rfl (Below.refl _ _)
          obtain ⟨s0, s1, s2, s3, s4, s5, s6, s7, s8⟩ := hc
          go_simp
        refine stepsL_cons (fun a u hc hdd hd hk hdep => ?_) ?_
        ·
          have d2 : (a.tmps[2]?).getD undef = (.bool false) := hk 2 (by kernel_rfl)
          refine step_val KC KD hc hdd rfl (.bool false) u (wanted_plain rfl) ?_ rfl (Below.refl _ _)
          first | (go_simp; done) | rfl
        refine stepsL_cons (fun a u hc hdd hd hk hdep => ?_) ?_
        ·
          have d8 : (a.tmps[8]?).getD undef = (.bool false) := hdep ⟨1, .data⟩ (by simp) rfl
          refine step_call KC KD hc hdd rfl 12 #[.bool false] (wanted_plain rfl) (by go_simp) ?_
          exact (truth_v false u).mono (by rintro e w' ⟨rfl, hb⟩; exact ⟨_, rfl, rfl, hb⟩)
        refine stepsL_cons (fun a u hc hdd hd hk hdep => ?_) ?_
        ·
          have d7 : (a.tmps[7]?).getD undef = (.agg #[.int .i64 (k), .int .u64 ((b : Nat) : Int)]) := hdep ⟨0, .data⟩ (by simp) rfl
          have d9 : (a.tmps[9]?).getD undef = (.agg #[.int .i64 (2), .int .u64 ((0 : Nat) : Int)]) := hdep ⟨2, .data⟩ (by simp) rfl
          refine step_val KC KD hc hdd rfl (.bool false) u (wanted_plain rfl) ?_ rfl (Below.refl _ _)
          go_simp
        refine stepsL_cons (fun a u hc hdd hd hk hdep => ?_) ?_
        ·
          have d10 : (a.tmps[10]?).getD undef = (.bool false) := hdep ⟨3, .data⟩ (by simp) rfl
          refine step_val KC KD hc hdd rfl (.bool false) u (wanted_plain rfl) ?_ rfl (Below.refl _ _)
          first | (go_simp; done) | rfl
        refine stepsL_cons (fun a u hc hdd hd hk hdep => ?_) ?_
        ·
          have d4 : (a.tmps[4]?).getD undef = (.pointer (some ⟨w.heap.size + 1, 0, none⟩)) := hk 4 (by kernel_rfl)
          refine step_val KC KD hc hdd rfl (.agg #[.int .i64 (l), .int .u64 ((c : Nat) : Int)]) u ((wanted_guard (j := 4) (b := false) (c := false) rfl (hdep ⟨4, .guard⟩ (by simp) rfl)).trans rfl) ?_ rfl (Below.refl _ _)
          obtain ⟨s0, s1, s2, s3, s4, s5, s6, s7, s8⟩ := hc
          go_simp
        refine stepsL_cons (fun a u hc hdd hd hk hdep => ?_) ?_
        ·
          have d2 : (a.tmps[2]?).getD undef = (.bool false) := hk 2 (by kernel_rfl)
          refine step_val KC KD hc hdd rfl (.bool false) u ((wanted_guard (j := 4) (b := false) (c := false) rfl (hdep ⟨4, .guard⟩ (by simp) rfl)).trans rfl) ?_ rfl (Below.refl _ _)
          first | (go_simp; done) | rfl
        refine stepsL_cons (fun a u hc hdd hd hk hdep => ?_) ?_
        ·
          have d13 : (a.tmps[13]?).getD undef = (.bool false) := hdep ⟨6, .data⟩ (by simp) rfl
          refine step_call KC KD hc hdd rfl 12 #[.bool false] ((wanted_guard (j := 4) (b := false) (c := false) rfl (hdep ⟨4, .chain⟩ (by simp) rfl)).trans rfl) (by go_simp) ?_
          exact (truth_v false u).mono (by rintro e w' ⟨rfl, hb⟩; exact ⟨_, rfl, rfl, hb⟩)
        refine stepsL_cons (fun a u hc hdd hd hk hdep => ?_) ?_
        ·
          have d12 : (a.tmps[12]?).getD undef = (.agg #[.int .i64 (l), .int .u64 ((c : Nat) : Int)]) := hdep ⟨5, .data⟩ (by simp) rfl
          have d14 : (a.tmps[14]?).getD undef = (.agg #[.int .i64 (2), .int .u64 ((0 : Nat) : Int)]) := hdep ⟨7, .data⟩ (by simp) rfl
          refine step_val KC KD hc hdd rfl (.bool false) u ((wanted_guard (j := 4) (b := false) (c := false) rfl (hdep ⟨4, .guard⟩ (by simp) rfl)).trans rfl) ?_ rfl (Below.refl _ _)
          go_simp
        refine stepsL_cons (fun a u hc hdd hd hk hdep => ?_) ?_
        ·
          have d11 : (a.tmps[11]?).getD undef = (.bool false) := hdep ⟨4, .data⟩ (by simp) rfl
          have d15 : (a.tmps[15]?).getD undef = (.bool false) := hdep ⟨8, .data⟩ (by simp) rfl
          refine step_val KC KD hc hdd rfl (.bool false) u (wanted_plain rfl) ?_ rfl (Below.refl _ _)
          first | (go_simp; done) | rfl
        exact stepsL_nil
      intro vs wN hN hh
      obtain ⟨e0, e1, e2, e3, e4, e5, e6, e7, e8, e9, -⟩ := hh
      have eL : vs 9 = (.bool false) := e9
      clear e0 e1 e2 e3 e4 e5 e6 e7 e8 e9
      set_option maxRecDepth 100000 in simp only [putAll, Act.put, List.setIfInBounds_toArray, List.set_cons_zero, List.set_cons_succ, eL]
      obtain ⟨p0, p1, p2, p3, p4, p5, p6, p7, p8⟩ := hN
      obtain ⟨_, q1, q2⟩ := put2 (.int .i64 0) (.int .u64 0) p4 p5
      have B2 := ((p8.setCell (p := ⟨w.heap.size + 1 + 1, 0, none⟩) (by show w.heap.size ≤ w.heap.size + 1 + 1; omega) (.int .i64 0)).setCell (p := ⟨w.heap.size + 1 + 1, 1, none⟩) (by show w.heap.size ≤ w.heap.size + 1 + 1; omega) (.int .u64 0))
      go_wp2
      exact bodyPost_ret (v := .agg #[.int .i64 0, .int .u64 0]) (by simp [results, Try.results33, go_sem, q1, q2]) rfl ⟨rfl, B2⟩
  · have f3 : (k != 2) = true := by simpa using c3
    rw [show bo2 0 k b l c = (0, 0) by unfold bo2; rw [if_neg (by omega), if_pos (by omega)]]
    clear hk c3
    go_enter Try.func33, Try.ntmps33
    go_wp2_with fail
    have KD := keepsD_true []
    refine region_words (TwoR w (k) (b) (l) (c)) [isW (.agg #[.int .i64 (k), .int .u64 ((b : Nat) : Int)]), isW (.bool false), isW (.agg #[.int .i64 (2), .int .u64 ((0 : Nat) : Int)]), isW (.bool false), isW (.bool false), isW (.agg #[.int .i64 (l), .int .u64 ((c : Nat) : Int)]), isW (.bool false), isW (.agg #[.int .i64 (2), .int .u64 ((0 : Nat) : Int)]), isW (.bool false), isW (.bool false)] (by kernel_rfl) (by repeat' (first | exact monoL_nil | exact is_mono _ | exact row_mono _ | exact any_mono | refine monoL_cons ?_ ?_)) (by kernel_rfl) (by kernel_rfl) (fun _ _ h hb => TwoR.later h hb) base ?_ ?_
    · intro KC
      refine stepsL_cons (fun a u hc hdd hd hk hdep => ?_) ?_
      ·
        have d3 : (a.tmps[3]?).getD undef = (.pointer (some ⟨w.heap.size, 0, none⟩)) := hk 3 (by kernel_rfl)
        refine step_val KC KD hc hdd rfl (.agg #[.int .i64 (k), .int .u64 ((b : Nat) : Int)]) u (wanted_plain rfl) ?_ rfl (Below.refl _ _)
        obtain ⟨s0, s1, s2, s3, s4, s5, s6, s7, s8⟩ := hc
        go_simp
      refine stepsL_cons (fun a u hc hdd hd hk hdep => ?_) ?_
      ·
        have d2 : (a.tmps[2]?).getD undef = (.bool false) := hk 2 (by kernel_rfl)
        refine step_val KC KD hc hdd rfl (.bool false) u (wanted_plain rfl) ?_ rfl (Below.refl _ _)
        first | (go_simp; done) | rfl
      refine stepsL_cons (fun a u hc hdd hd hk hdep => ?_) ?_
      ·
        have d8 : (a.tmps[8]?).getD undef = (.bool false) := hdep ⟨1, .data⟩ (by simp) rfl
        refine step_call KC KD hc hdd rfl 12 #[.bool false] (wanted_plain rfl) (by go_simp) ?_
        exact (truth_v false u).mono (by rintro e w' ⟨rfl, hb⟩; exact ⟨_, rfl, rfl, hb⟩)
      refine stepsL_cons (fun a u hc hdd hd hk hdep => ?_) ?_
      ·
        have d7 : (a.tmps[7]?).getD undef = (.agg #[.int .i64 (k), .int .u64 ((b : Nat) : Int)]) := hdep ⟨0, .data⟩ (by simp) rfl
        have d9 : (a.tmps[9]?).getD undef = (.agg #[.int .i64 (2), .int .u64 ((0 : Nat) : Int)]) := hdep ⟨2, .data⟩ (by simp) rfl
        refine step_val KC KD hc hdd rfl (.bool false) u (wanted_plain rfl) ?_ rfl (Below.refl _ _)
        go_simp
      refine stepsL_cons (fun a u hc hdd hd hk hdep => ?_) ?_
      ·
        have d10 : (a.tmps[10]?).getD undef = (.bool false) := hdep ⟨3, .data⟩ (by simp) rfl
        refine step_val KC KD hc hdd rfl (.bool false) u (wanted_plain rfl) ?_ rfl (Below.refl _ _)
        first | (go_simp; done) | rfl
      refine stepsL_cons (fun a u hc hdd hd hk hdep => ?_) ?_
      ·
        have d4 : (a.tmps[4]?).getD undef = (.pointer (some ⟨w.heap.size + 1, 0, none⟩)) := hk 4 (by kernel_rfl)
        refine step_val KC KD hc hdd rfl (.agg #[.int .i64 (l), .int .u64 ((c : Nat) : Int)]) u ((wanted_guard (j := 4) (b := false) (c := false) rfl (hdep ⟨4, .guard⟩ (by simp) rfl)).trans rfl) ?_ rfl (Below.refl _ _)
        obtain ⟨s0, s1, s2, s3, s4, s5, s6, s7, s8⟩ := hc
        go_simp
      refine stepsL_cons (fun a u hc hdd hd hk hdep => ?_) ?_
      ·
        have d2 : (a.tmps[2]?).getD undef = (.bool false) := hk 2 (by kernel_rfl)
        refine step_val KC KD hc hdd rfl (.bool false) u ((wanted_guard (j := 4) (b := false) (c := false) rfl (hdep ⟨4, .guard⟩ (by simp) rfl)).trans rfl) ?_ rfl (Below.refl _ _)
        first | (go_simp; done) | rfl
      refine stepsL_cons (fun a u hc hdd hd hk hdep => ?_) ?_
      ·
        have d13 : (a.tmps[13]?).getD undef = (.bool false) := hdep ⟨6, .data⟩ (by simp) rfl
        refine step_call KC KD hc hdd rfl 12 #[.bool false] ((wanted_guard (j := 4) (b := false) (c := false) rfl (hdep ⟨4, .chain⟩ (by simp) rfl)).trans rfl) (by go_simp) ?_
        exact (truth_v false u).mono (by rintro e w' ⟨rfl, hb⟩; exact ⟨_, rfl, rfl, hb⟩)
      refine stepsL_cons (fun a u hc hdd hd hk hdep => ?_) ?_
      ·
        have d12 : (a.tmps[12]?).getD undef = (.agg #[.int .i64 (l), .int .u64 ((c : Nat) : Int)]) := hdep ⟨5, .data⟩ (by simp) rfl
        have d14 : (a.tmps[14]?).getD undef = (.agg #[.int .i64 (2), .int .u64 ((0 : Nat) : Int)]) := hdep ⟨7, .data⟩ (by simp) rfl
        refine step_val KC KD hc hdd rfl (.bool false) u ((wanted_guard (j := 4) (b := false) (c := false) rfl (hdep ⟨4, .guard⟩ (by simp) rfl)).trans rfl) ?_ rfl (Below.refl _ _)
        go_simp
      refine stepsL_cons (fun a u hc hdd hd hk hdep => ?_) ?_
      ·
        have d11 : (a.tmps[11]?).getD undef = (.bool false) := hdep ⟨4, .data⟩ (by simp) rfl
        have d15 : (a.tmps[15]?).getD undef = (.bool false) := hdep ⟨8, .data⟩ (by simp) rfl
        refine step_val KC KD hc hdd rfl (.bool false) u (wanted_plain rfl) ?_ rfl (Below.refl _ _)
        first | (go_simp; done) | rfl
      exact stepsL_nil
    intro vs wN hN hh
    obtain ⟨e0, e1, e2, e3, e4, e5, e6, e7, e8, e9, -⟩ := hh
    have eL : vs 9 = (.bool false) := e9
    clear e0 e1 e2 e3 e4 e5 e6 e7 e8 e9
    set_option maxRecDepth 100000 in simp only [putAll, Act.put, List.setIfInBounds_toArray, List.set_cons_zero, List.set_cons_succ, eL]
    obtain ⟨p0, p1, p2, p3, p4, p5, p6, p7, p8⟩ := hN
    obtain ⟨_, q1, q2⟩ := put2 (.int .i64 0) (.int .u64 0) p4 p5
    have B2 := ((p8.setCell (p := ⟨w.heap.size + 1 + 1, 0, none⟩) (by show w.heap.size ≤ w.heap.size + 1 + 1; omega) (.int .i64 0)).setCell (p := ⟨w.heap.size + 1 + 1, 1, none⟩) (by show w.heap.size ≤ w.heap.size + 1 + 1; omega) (.int .u64 0))
    go_wp2
    exact bodyPost_ret (v := .agg #[.int .i64 0, .int .u64 0]) (by simp [results, Try.results33, go_sem, q1, q2]) rfl ⟨rfl, B2⟩
set_option maxHeartbeats 4000000 in
set_option maxRecDepth 100000 in
theorem rlogic_1 (k : Int) (b : Nat) (l : Int) (c : Nat) (w : World) (hk : k = 2 → b ≤ 1) :
    Calls Try.prog 33 #[.agg #[.int .i64 k, .int .u64 (b : Int)], .agg #[.int .i64 l, .int .u64 (c : Int)], .bool true] w fun e w' => e = .returned (.agg #[.int .i64 (bo2 1 k b l c).1, .int .u64 (((bo2 1 k b l c).2 : Nat) : Int)]) ∧ Below w.heap.size w w' := by
  have he := eqR
  have heql : ∀ (k b : Int) (w : World), (binOp .eql 36 (.agg #[.int .i64 k, .int .u64 b]) (.agg #[.int .i64 k, .int .u64 b])).run Try.prog w = .ok (.bool true) w := fun k b w => by simp [go_sem]
  have base := (TwoR.start k b l c w).later (Below.refl _ _).drew
  by_cases c1 : k = 2 ∧ b = 1
  · obtain ⟨rfl, rfl⟩ := c1
    rw [show bo2 1 2 1 l c = (2, 1) by unfold bo2; rw [if_pos (.inl ⟨rfl, rfl⟩)]]
    clear hk
    go_enter Try.func33, Try.ntmps33
    go_wp2_with fail
    have KD := keepsD_true []
    refine region_words (TwoR w (2) (1) (l) (c)) [isW (.agg #[.int .i64 (2), .int .u64 ((1 : Nat) : Int)]), isW (.bool true), isW (.agg #[.int .i64 (2), .int .u64 ((1 : Nat) : Int)]), isW (.bool true), isW (.bool true), isW undef, isW undef, isW undef, isW undef, isW (.bool true)] (by kernel_rfl) (by repeat' (first | exact monoL_nil | exact is_mono _ | exact row_mono _ | exact any_mono | refine monoL_cons ?_ ?_)) (by kernel_rfl) (by kernel_rfl) (fun _ _ h hb => TwoR.later h hb) base ?_ ?_
    · intro KC
      refine stepsL_cons (fun a u hc hdd hd hk hdep => ?_) ?_
      ·
        have d3 : (a.tmps[3]?).getD undef = (.pointer (some ⟨w.heap.size, 0, none⟩)) := hk 3 (by kernel_rfl)
        refine step_val KC KD hc hdd rfl (.agg #[.int .i64 (2), .int .u64 ((1 : Nat) : Int)]) u (wanted_plain rfl) ?_ rfl (Below.refl _ _)
        obtain ⟨s0, s1, s2, s3, s4, s5, s6, s7, s8⟩ := hc
        go_simp
      refine stepsL_cons (fun a u hc hdd hd hk hdep => ?_) ?_
      ·
        have d2 : (a.tmps[2]?).getD undef = (.bool true) := hk 2 (by kernel_rfl)
        refine step_val KC KD hc hdd rfl (.bool true) u (wanted_plain rfl) ?_ rfl (Below.refl _ _)
        first | (go_simp; done) | rfl
      refine stepsL_cons (fun a u hc hdd hd hk hdep => ?_) ?_
      ·
        have d8 : (a.tmps[8]?).getD undef = (.bool true) := hdep ⟨1, .data⟩ (by simp) rfl
        refine step_call KC KD hc hdd rfl 12 #[.bool true] (wanted_plain rfl) (by go_simp) ?_
        exact (truth_v true u).mono (by rintro e w' ⟨rfl, hb⟩; exact ⟨_, rfl, rfl, hb⟩)
      refine stepsL_cons (fun a u hc hdd hd hk hdep => ?_) ?_
      ·
        have d7 : (a.tmps[7]?).getD undef = (.agg #[.int .i64 (2), .int .u64 ((1 : Nat) : Int)]) := hdep ⟨0, .data⟩ (by simp) rfl
        have d9 : (a.tmps[9]?).getD undef = (.agg #[.int .i64 (2), .int .u64 ((1 : Nat) : Int)]) := hdep ⟨2, .data⟩ (by simp) rfl
        refine step_val KC KD hc hdd rfl (.bool true) u (wanted_plain rfl) ?_ rfl (Below.refl _ _)
        go_simp
      refine stepsL_cons (fun a u hc hdd hd hk hdep => ?_) ?_
      ·
        have d10 : (a.tmps[10]?).getD undef = (.bool true) := hdep ⟨3, .data⟩ (by simp) rfl
        refine step_val KC KD hc hdd rfl (.bool true) u (wanted_plain rfl) ?_ rfl (Below.refl _ _)
        first | (go_simp; done) | rfl
      refine stepsL_cons (fun a u hc hdd hd hk hdep => ?_) ?_
      · exact step_skip KD hc hdd rfl ((wanted_guard (j := 4) (b := false) (c := true) rfl (hdep ⟨4, .guard⟩ (by simp) rfl)).trans rfl) rfl
      refine stepsL_cons (fun a u hc hdd hd hk hdep => ?_) ?_
      · exact step_skip KD hc hdd rfl ((wanted_guard (j := 4) (b := false) (c := true) rfl (hdep ⟨4, .guard⟩ (by simp) rfl)).trans rfl) rfl
      refine stepsL_cons (fun a u hc hdd hd hk hdep => ?_) ?_
      · exact step_skip KD hc hdd rfl ((wanted_guard (j := 4) (b := false) (c := true) rfl (hdep ⟨4, .chain⟩ (by simp) rfl)).trans rfl) rfl
      refine stepsL_cons (fun a u hc hdd hd hk hdep => ?_) ?_
      · exact step_skip KD hc hdd rfl ((wanted_guard (j := 4) (b := false) (c := true) rfl (hdep ⟨4, .guard⟩ (by simp) rfl)).trans rfl) rfl
      refine stepsL_cons (fun a u hc hdd hd hk hdep => ?_) ?_
      ·
        have d11 : (a.tmps[11]?).getD undef = (.bool true) := hdep ⟨4, .data⟩ (by simp) rfl
        have d15 : (a.tmps[15]?).getD undef = undef := hdep ⟨8, .data⟩ (by simp) rfl
        refine step_val KC KD hc hdd rfl (.bool true) u (wanted_plain rfl) ?_ rfl (Below.refl _ _)
        first | (go_simp; done) | rfl
      exact stepsL_nil
    intro vs wN hN hh
    obtain ⟨e0, e1, e2, e3, e4, e5, e6, e7, e8, e9, -⟩ := hh
    have eL : vs 9 = (.bool true) := e9
    clear e0 e1 e2 e3 e4 e5 e6 e7 e8 e9
    set_option maxRecDepth 100000 in simp only [putAll, Act.put, List.setIfInBounds_toArray, List.set_cons_zero, List.set_cons_succ, eL]
    obtain ⟨p0, p1, p2, p3, p4, p5, p6, p7, p8⟩ := hN
    go_wp2_with fail
    refine (truth_v true _).mono ?_; rintro e w2 ⟨rfl, hb2⟩
    have hN2 := TwoR.later ⟨p0, p1, p2, p3, p4, p5, p6, p7, p8⟩ hb2
    clear p0 p1 p2 p3 p4 p5 p6 p7 p8 hb2
    obtain ⟨p0, p1, p2, p3, p4, p5, p6, p7, p8⟩ := hN2
    obtain ⟨_, q1, q2⟩ := put2 (.int .i64 (2)) (.int .u64 ((b2n true : Nat) : Int)) p4 p5
    have B2 := ((p8.setCell (p := ⟨w.heap.size + 1 + 1, 0, none⟩) (by show w.heap.size ≤ w.heap.size + 1 + 1; omega) (.int .i64 (2))).setCell (p := ⟨w.heap.size + 1 + 1, 1, none⟩) (by show w.heap.size ≤ w.heap.size + 1 + 1; omega) (.int .u64 ((b2n true : Nat) : Int)))
    go_wp2
    exact bodyPost_ret (v := .agg #[.int .i64 (2), .int .u64 ((b2n true : Nat) : Int)]) (by simp [results, Try.results33, go_sem, q1, q2]) rfl ⟨rfl, B2⟩
  have d1 : ¬ (k = 2 ∧ (b : Int) = 1) := by omega
  by_cases c2 : l = 2 ∧ c = 1
  · obtain ⟨rfl, rfl⟩ := c2
    rw [show bo2 1 k b 2 1 = (2, 1) by unfold bo2; rw [if_pos (.inr ⟨rfl, rfl⟩)]]
    clear hk
    go_enter Try.func33, Try.ntmps33
    go_wp2_with fail
    have KD := keepsD_true []
    refine region_words (TwoR w (k) (b) (2) (1)) [isW (.agg #[.int .i64 (k), .int .u64 ((b : Nat) : Int)]), isW (.bool true), isW (.agg #[.int .i64 (2), .int .u64 ((1 : Nat) : Int)]), isW (.bool false), isW (.bool false), isW (.agg #[.int .i64 (2), .int .u64 ((1 : Nat) : Int)]), isW (.bool true), isW (.agg #[.int .i64 (2), .int .u64 ((1 : Nat) : Int)]), isW (.bool true), isW (.bool true)] (by kernel_rfl) (by repeat' (first | exact monoL_nil | exact is_mono _ | exact row_mono _ | exact any_mono | refine monoL_cons ?_ ?_)) (by kernel_rfl) (by kernel_rfl) (fun _ _ h hb => TwoR.later h hb) base ?_ ?_
    · intro KC
      refine stepsL_cons (fun a u hc hdd hd hk hdep => ?_) ?_
      ·
        have d3 : (a.tmps[3]?).getD undef = (.pointer (some ⟨w.heap.size, 0, none⟩)) := hk 3 (by kernel_rfl)
        refine step_val KC KD hc hdd rfl (.agg #[.int .i64 (k), .int .u64 ((b : Nat) : Int)]) u (wanted_plain rfl) ?_ rfl (Below.refl _ _)
        obtain ⟨s0, s1, s2, s3, s4, s5, s6, s7, s8⟩ := hc
        go_simp
      refine stepsL_cons (fun a u hc hdd hd hk hdep => ?_) ?_
      ·
        have d2 : (a.tmps[2]?).getD undef = (.bool true) := hk 2 (by kernel_rfl)
        refine step_val KC KD hc hdd rfl (.bool true) u (wanted_plain rfl) ?_ rfl (Below.refl _ _)
        first | (go_simp; done) | rfl
      refine stepsL_cons (fun a u hc hdd hd hk hdep => ?_) ?_
      ·
        have d8 : (a.tmps[8]?).getD undef = (.bool true) := hdep ⟨1, .data⟩ (by simp) rfl
        refine step_call KC KD hc hdd rfl 12 #[.bool true] (wanted_plain rfl) (by go_simp) ?_
        exact (truth_v true u).mono (by rintro e w' ⟨rfl, hb⟩; exact ⟨_, rfl, rfl, hb⟩)
      refine stepsL_cons (fun a u hc hdd hd hk hdep => ?_) ?_
      ·
        have d7 : (a.tmps[7]?).getD undef = (.agg #[.int .i64 (k), .int .u64 ((b : Nat) : Int)]) := hdep ⟨0, .data⟩ (by simp) rfl
        have d9 : (a.tmps[9]?).getD undef = (.agg #[.int .i64 (2), .int .u64 ((1 : Nat) : Int)]) := hdep ⟨2, .data⟩ (by simp) rfl
        refine step_val KC KD hc hdd rfl (.bool false) u (wanted_plain rfl) ?_ rfl (Below.refl _ _)
        go_simp
      refine stepsL_cons (fun a u hc hdd hd hk hdep => ?_) ?_
      ·
        have d10 : (a.tmps[10]?).getD undef = (.bool false) := hdep ⟨3, .data⟩ (by simp) rfl
        refine step_val KC KD hc hdd rfl (.bool false) u (wanted_plain rfl) ?_ rfl (Below.refl _ _)
        first | (go_simp; done) | rfl
      refine stepsL_cons (fun a u hc hdd hd hk hdep => ?_) ?_
      ·
        have d4 : (a.tmps[4]?).getD undef = (.pointer (some ⟨w.heap.size + 1, 0, none⟩)) := hk 4 (by kernel_rfl)
        refine step_val KC KD hc hdd rfl (.agg #[.int .i64 (2), .int .u64 ((1 : Nat) : Int)]) u ((wanted_guard (j := 4) (b := false) (c := false) rfl (hdep ⟨4, .guard⟩ (by simp) rfl)).trans rfl) ?_ rfl (Below.refl _ _)
        obtain ⟨s0, s1, s2, s3, s4, s5, s6, s7, s8⟩ := hc
        go_simp
      refine stepsL_cons (fun a u hc hdd hd hk hdep => ?_) ?_
      ·
        have d2 : (a.tmps[2]?).getD undef = (.bool true) := hk 2 (by kernel_rfl)
        refine step_val KC KD hc hdd rfl (.bool true) u ((wanted_guard (j := 4) (b := false) (c := false) rfl (hdep ⟨4, .guard⟩ (by simp) rfl)).trans rfl) ?_ rfl (Below.refl _ _)
        first | (go_simp; done) | rfl
      refine stepsL_cons (fun a u hc hdd hd hk hdep => ?_) ?_
      ·
        have d13 : (a.tmps[13]?).getD undef = (.bool true) := hdep ⟨6, .data⟩ (by simp) rfl
        refine step_call KC KD hc hdd rfl 12 #[.bool true] ((wanted_guard (j := 4) (b := false) (c := false) rfl (hdep ⟨4, .chain⟩ (by simp) rfl)).trans rfl) (by go_simp) ?_
        exact (truth_v true u).mono (by rintro e w' ⟨rfl, hb⟩; exact ⟨_, rfl, rfl, hb⟩)
      refine stepsL_cons (fun a u hc hdd hd hk hdep => ?_) ?_
      ·
        have d12 : (a.tmps[12]?).getD undef = (.agg #[.int .i64 (2), .int .u64 ((1 : Nat) : Int)]) := hdep ⟨5, .data⟩ (by simp) rfl
        have d14 : (a.tmps[14]?).getD undef = (.agg #[.int .i64 (2), .int .u64 ((1 : Nat) : Int)]) := hdep ⟨7, .data⟩ (by simp) rfl
        refine step_val KC KD hc hdd rfl (.bool true) u ((wanted_guard (j := 4) (b := false) (c := false) rfl (hdep ⟨4, .guard⟩ (by simp) rfl)).trans rfl) ?_ rfl (Below.refl _ _)
        go_simp
      refine stepsL_cons (fun a u hc hdd hd hk hdep => ?_) ?_
      ·
        have d11 : (a.tmps[11]?).getD undef = (.bool false) := hdep ⟨4, .data⟩ (by simp) rfl
        have d15 : (a.tmps[15]?).getD undef = (.bool true) := hdep ⟨8, .data⟩ (by simp) rfl
        refine step_val KC KD hc hdd rfl (.bool true) u (wanted_plain rfl) ?_ rfl (Below.refl _ _)
        first | (go_simp; done) | rfl
      exact stepsL_nil
    intro vs wN hN hh
    obtain ⟨e0, e1, e2, e3, e4, e5, e6, e7, e8, e9, -⟩ := hh
    have eL : vs 9 = (.bool true) := e9
    clear e0 e1 e2 e3 e4 e5 e6 e7 e8 e9
    set_option maxRecDepth 100000 in simp only [putAll, Act.put, List.setIfInBounds_toArray, List.set_cons_zero, List.set_cons_succ, eL]
    obtain ⟨p0, p1, p2, p3, p4, p5, p6, p7, p8⟩ := hN
    go_wp2_with fail
    refine (truth_v true _).mono ?_; rintro e w2 ⟨rfl, hb2⟩
    have hN2 := TwoR.later ⟨p0, p1, p2, p3, p4, p5, p6, p7, p8⟩ hb2
    clear p0 p1 p2 p3 p4 p5 p6 p7 p8 hb2
    obtain ⟨p0, p1, p2, p3, p4, p5, p6, p7, p8⟩ := hN2
    obtain ⟨_, q1, q2⟩ := put2 (.int .i64 (2)) (.int .u64 ((b2n true : Nat) : Int)) p4 p5
    have B2 := ((p8.setCell (p := ⟨w.heap.size + 1 + 1, 0, none⟩) (by show w.heap.size ≤ w.heap.size + 1 + 1; omega) (.int .i64 (2))).setCell (p := ⟨w.heap.size + 1 + 1, 1, none⟩) (by show w.heap.size ≤ w.heap.size + 1 + 1; omega) (.int .u64 ((b2n true : Nat) : Int)))
    go_wp2
    exact bodyPost_ret (v := .agg #[.int .i64 (2), .int .u64 ((b2n true : Nat) : Int)]) (by simp [results, Try.results33, go_sem, q1, q2]) rfl ⟨rfl, B2⟩
  have d2 : ¬ (l = 2 ∧ (c : Int) = 1) := by omega
  by_cases c3 : k = 2
  · by_cases c4 : l = 2
    · subst c3 c4
      obtain rfl : b = 1 - 1 := by have := hk rfl; omega
      rw [show bo2 1 2 (1 - 1) 2 c = (2, b2n false) by unfold bo2; rw [if_neg (by omega), if_neg (by omega)]; rfl]
      have d3 : ¬ c = 1 := by omega
      have d4 : ¬ (c : Int) = 1 := by omega
      clear hk c1 c2 d1 d2
      go_enter Try.func33, Try.ntmps33
      go_wp2_with fail
      have KD := keepsD_true []
      refine region_words (TwoR w (2) (1 - 1) (2) (c)) [isW (.agg #[.int .i64 (2), .int .u64 ((1 - 1 : Nat) : Int)]), isW (.bool true), isW (.agg #[.int .i64 (2), .int .u64 ((1 : Nat) : Int)]), isW (.bool false), isW (.bool false), isW (.agg #[.int .i64 (2), .int .u64 ((c : Nat) : Int)]), isW (.bool true), isW (.agg #[.int .i64 (2), .int .u64 ((1 : Nat) : Int)]), isW (.bool false), isW (.bool false)] (by kernel_rfl) (by repeat' (first | exact monoL_nil | exact is_mono _ | exact row_mono _ | exact any_mono | refine monoL_cons ?_ ?_)) (by kernel_rfl) (by kernel_rfl) (fun _ _ h hb => TwoR.later h hb) base ?_ ?_
      · intro KC
        refine stepsL_cons (fun a u hc hdd hd hk hdep => ?_) ?_
        ·
          have d3 : (a.tmps[3]?).getD undef = (.pointer (some ⟨w.heap.size, 0, none⟩)) := hk 3 (by kernel_rfl)
          refine step_val KC KD hc hdd rfl (.agg #[.int .i64 (2), .int .u64 ((1 - 1 : Nat) : Int)]) u (wanted_plain rfl) ?_ rfl (Below.refl _ _)
          obtain ⟨s0, s1, s2, s3, s4, s5, s6, s7, s8⟩ := hc
          go_simp
        refine stepsL_cons (fun a u hc hdd hd hk hdep => ?_) ?_
        ·
          have d2 : (a.tmps[2]?).getD undef = (.bool true) := hk 2 (by kernel_rfl)
          refine step_val KC KD hc hdd rfl (.bool true) u (wanted_plain rfl) ?_ rfl (Below.refl _ _)
          first | (go_simp; done) | rfl
        refine stepsL_cons (fun a u hc hdd hd hk hdep => ?_) ?_
        ·
          have d8 : (a.tmps[8]?).getD undef = (.bool true) := hdep ⟨1, .data⟩ (by simp) rfl
          refine step_call KC KD hc hdd rfl 12 #[.bool true] (wanted_plain rfl) (by go_simp) ?_
          exact (truth_v true u).mono (by rintro e w' ⟨rfl, hb⟩; exact ⟨_, rfl, rfl, hb⟩)
        refine stepsL_cons (fun a u hc hdd hd hk hdep => ?_) ?_
        ·
          have d7 : (a.tmps[7]?).getD undef = (.agg #[.int .i64 (2), .int .u64 ((1 - 1 : Nat) : Int)]) := hdep ⟨0, .data⟩ (by simp) rfl
          have d9 : (a.tmps[9]?).getD undef = (.agg #[.int .i64 (2), .int .u64 ((1 : Nat) : Int)]) := hdep ⟨2, .data⟩ (by simp) rfl
          refine step_val KC KD hc hdd rfl (.bool false) u (wanted_plain rfl) ?_ rfl (Below.refl _ _)
          go_simp
        refine stepsL_cons (fun a u hc hdd hd hk hdep => ?_) ?_
        ·
          have d10 : (a.tmps[10]?).getD undef = (.bool false) := hdep ⟨3, .data⟩ (by simp) rfl
          refine step_val KC KD hc hdd rfl (.bool false) u (wanted_plain rfl) ?_ rfl (Below.refl _ _)
          first | (go_simp; done) | rfl
        refine stepsL_cons (fun a u hc hdd hd hk hdep => ?_) ?_
        ·
          have d4 : (a.tmps[4]?).getD undef = (.pointer (some ⟨w.heap.size + 1, 0, none⟩)) := hk 4 (by kernel_rfl)
          refine step_val KC KD hc hdd rfl (.agg #[.int .i64 (2), .int .u64 ((c : Nat) : Int)]) u ((wanted_guard (j := 4) (b := false) (c := false) rfl (hdep ⟨4, .guard⟩ (by simp) rfl)).trans rfl) ?_ rfl (Below.refl _ _)
          obtain ⟨s0, s1, s2, s3, s4, s5, s6, s7, s8⟩ := hc
          go_simp
        refine stepsL_cons (fun a u hc hdd hd hk hdep => ?_) ?_
        ·
          have d2 : (a.tmps[2]?).getD undef = (.bool true) := hk 2 (by kernel_rfl)
          refine step_val KC KD hc hdd rfl (.bool true) u ((wanted_guard (j := 4) (b := false) (c := false) rfl (hdep ⟨4, .guard⟩ (by simp) rfl)).trans rfl) ?_ rfl (Below.refl _ _)
          first | (go_simp; done) | rfl
        refine stepsL_cons (fun a u hc hdd hd hk hdep => ?_) ?_
        ·
          have d13 : (a.tmps[13]?).getD undef = (.bool true) := hdep ⟨6, .data⟩ (by simp) rfl
          refine step_call KC KD hc hdd rfl 12 #[.bool true] ((wanted_guard (j := 4) (b := false) (c := false) rfl (hdep ⟨4, .chain⟩ (by simp) rfl)).trans rfl) (by go_simp) ?_
          exact (truth_v true u).mono (by rintro e w' ⟨rfl, hb⟩; exact ⟨_, rfl, rfl, hb⟩)
        refine stepsL_cons (fun a u hc hdd hd hk hdep => ?_) ?_
        ·
          have d12 : (a.tmps[12]?).getD undef = (.agg #[.int .i64 (2), .int .u64 ((c : Nat) : Int)]) := hdep ⟨5, .data⟩ (by simp) rfl
          have d14 : (a.tmps[14]?).getD undef = (.agg #[.int .i64 (2), .int .u64 ((1 : Nat) : Int)]) := hdep ⟨7, .data⟩ (by simp) rfl
          refine step_val KC KD hc hdd rfl (.bool false) u ((wanted_guard (j := 4) (b := false) (c := false) rfl (hdep ⟨4, .guard⟩ (by simp) rfl)).trans rfl) ?_ rfl (Below.refl _ _)
          go_simp
        refine stepsL_cons (fun a u hc hdd hd hk hdep => ?_) ?_
        ·
          have d11 : (a.tmps[11]?).getD undef = (.bool false) := hdep ⟨4, .data⟩ (by simp) rfl
          have d15 : (a.tmps[15]?).getD undef = (.bool false) := hdep ⟨8, .data⟩ (by simp) rfl
          refine step_val KC KD hc hdd rfl (.bool false) u (wanted_plain rfl) ?_ rfl (Below.refl _ _)
          first | (go_simp; done) | rfl
        exact stepsL_nil
      intro vs wN hN hh
      obtain ⟨e0, e1, e2, e3, e4, e5, e6, e7, e8, e9, -⟩ := hh
      have eL : vs 9 = (.bool false) := e9
      clear e0 e1 e2 e3 e4 e5 e6 e7 e8 e9
      set_option maxRecDepth 100000 in simp only [putAll, Act.put, List.setIfInBounds_toArray, List.set_cons_zero, List.set_cons_succ, eL]
      obtain ⟨p0, p1, p2, p3, p4, p5, p6, p7, p8⟩ := hN
      go_wp2_with fail
      refine (truth_v false _).mono ?_; rintro e w2 ⟨rfl, hb2⟩
      have hN2 := TwoR.later ⟨p0, p1, p2, p3, p4, p5, p6, p7, p8⟩ hb2
      clear p0 p1 p2 p3 p4 p5 p6 p7 p8 hb2
      obtain ⟨p0, p1, p2, p3, p4, p5, p6, p7, p8⟩ := hN2
      obtain ⟨_, q1, q2⟩ := put2 (.int .i64 (2)) (.int .u64 ((b2n false : Nat) : Int)) p4 p5
      have B2 := ((p8.setCell (p := ⟨w.heap.size + 1 + 1, 0, none⟩) (by show w.heap.size ≤ w.heap.size + 1 + 1; omega) (.int .i64 (2))).setCell (p := ⟨w.heap.size + 1 + 1, 1, none⟩) (by show w.heap.size ≤ w.heap.size + 1 + 1; omega) (.int .u64 ((b2n false : Nat) : Int)))
      go_wp2
      exact bodyPost_ret (v := .agg #[.int .i64 (2), .int .u64 ((b2n false : Nat) : Int)]) (by simp [results, Try.results33, go_sem, q1, q2]) rfl ⟨rfl, B2⟩
    · have f4 : (l != 2) = true := by simpa using c4
      have f3 : (k != 2) = false := by simpa using c3
      rw [show bo2 1 k b l c = (0, 0) by unfold bo2; rw [if_neg (by omega), if_pos (by omega)]]
      clear hk c3
      go_enter Try.func33, Try.ntmps33
      go_wp2_with fail
      have KD := keepsD_true []
      refine region_words (TwoR w (k) (b) (l) (c)) [isW (.agg #[.int .i64 (k), .int .u64 ((b : Nat) : Int)]), isW (.bool true), isW (.agg #[.int .i64 (2), .int .u64 ((1 : Nat) : Int)]), isW (.bool false), isW (.bool false), isW (.agg #[.int .i64 (l), .int .u64 ((c : Nat) : Int)]), isW (.bool true), isW (.agg #[.int .i64 (2), .int .u64 ((1 : Nat) : Int)]), isW (.bool false), isW (.bool false)] (by kernel_rfl) (by repeat' (first | exact monoL_nil | exact is_mono _ | exact row_mono _ | exact any_mono | refine monoL_cons ?_ ?_)) (by kernel_rfl) (by kernel_rfl) (fun _ _ h hb => TwoR.later h hb) base ?_ ?_
      · intro KC
        refine stepsL_cons (fun a u hc hdd hd hk hdep => ?_) ?_
        ·
          have d3 : (a.tmps[3]?).getD undef = (.pointer (some ⟨w.heap.size, 0, none⟩)) := hk 3 (by kernel_rfl)
          refine step_val KC KD hc hdd rfl (.agg #[.int .i64 (k), .int .u64 ((b : Nat) : Int)]) u (wanted_plain rfl) ?_ rfl (Below.refl _ _)
          obtain ⟨s0, s1, s2, s3, s4, s5, s6, s7, s8⟩ := hc
          go_simp
        refine stepsL_cons (fun a u hc hdd hd hk hdep => ?_) ?_
        ·
          have d2 : (a.tmps[2]?).getD undef = (.bool true) := hk 2 (by kernel_rfl)
          refine step_val KC KD hc hdd rfl (.bool true) u (wanted_plain rfl) ?_ rfl (Below.refl _ _)
          first | (go_simp; done) | rfl
        refine stepsL_cons (fun a u hc hdd hd hk hdep => ?_) ?_
        ·
          have d8 : (a.tmps[8]?).getD undef = (.bool true) := hdep ⟨1, .data⟩ (by simp) rfl
          refine step_call KC KD hc hdd rfl 12 #[.bool true] (wanted_plain rfl) (by go_simp) ?_
          exact (truth_v true u).mono (by rintro e w' ⟨rfl, hb⟩; exact ⟨_, rfl, rfl, hb⟩)
        refine stepsL_cons (fun a u hc hdd hd hk hdep => ?_) ?_
        ·
          have d7 : (a.tmps[7]?).getD undef = (.agg #[.int .i64 (k), .int .u64 ((b : Nat) : Int)]) := hdep ⟨0, .data⟩ (by simp) rfl
          have d9 : (a.tmps[9]?).getD undef = (.agg #[.int .i64 (2), .int .u64 ((1 : Nat) : Int)]) := hdep ⟨2, .data⟩ (by simp) rfl
          refine step_val KC KD hc hdd rfl (.bool false) u (wanted_plain rfl) ?_ rfl (Below.refl _ _)
          go_simp
        refine stepsL_cons (fun a u hc hdd hd hk hdep => ?_) ?_
        ·
          have d10 : (a.tmps[10]?).getD undef = (.bool false) := hdep ⟨3, .data⟩ (by simp) rfl
          refine step_val KC KD hc hdd rfl (.bool false) u (wanted_plain rfl) ?_ rfl (Below.refl _ _)
          first | (go_simp; done) | rfl
        refine stepsL_cons (fun a u hc hdd hd hk hdep => ?_) ?_
        ·
          have d4 : (a.tmps[4]?).getD undef = (.pointer (some ⟨w.heap.size + 1, 0, none⟩)) := hk 4 (by kernel_rfl)
          refine step_val KC KD hc hdd rfl (.agg #[.int .i64 (l), .int .u64 ((c : Nat) : Int)]) u ((wanted_guard (j := 4) (b := false) (c := false) rfl (hdep ⟨4, .guard⟩ (by simp) rfl)).trans rfl) ?_ rfl (Below.refl _ _)
          obtain ⟨s0, s1, s2, s3, s4, s5, s6, s7, s8⟩ := hc
          go_simp
        refine stepsL_cons (fun a u hc hdd hd hk hdep => ?_) ?_
        ·
          have d2 : (a.tmps[2]?).getD undef = (.bool true) := hk 2 (by kernel_rfl)
          refine step_val KC KD hc hdd rfl (.bool true) u ((wanted_guard (j := 4) (b := false) (c := false) rfl (hdep ⟨4, .guard⟩ (by simp) rfl)).trans rfl) ?_ rfl (Below.refl _ _)
          first | (go_simp; done) | rfl
        refine stepsL_cons (fun a u hc hdd hd hk hdep => ?_) ?_
        ·
          have d13 : (a.tmps[13]?).getD undef = (.bool true) := hdep ⟨6, .data⟩ (by simp) rfl
          refine step_call KC KD hc hdd rfl 12 #[.bool true] ((wanted_guard (j := 4) (b := false) (c := false) rfl (hdep ⟨4, .chain⟩ (by simp) rfl)).trans rfl) (by go_simp) ?_
          exact (truth_v true u).mono (by rintro e w' ⟨rfl, hb⟩; exact ⟨_, rfl, rfl, hb⟩)
        refine stepsL_cons (fun a u hc hdd hd hk hdep => ?_) ?_
        ·
          have d12 : (a.tmps[12]?).getD undef = (.agg #[.int .i64 (l), .int .u64 ((c : Nat) : Int)]) := hdep ⟨5, .data⟩ (by simp) rfl
          have d14 : (a.tmps[14]?).getD undef = (.agg #[.int .i64 (2), .int .u64 ((1 : Nat) : Int)]) := hdep ⟨7, .data⟩ (by simp) rfl
          refine step_val KC KD hc hdd rfl (.bool false) u ((wanted_guard (j := 4) (b := false) (c := false) rfl (hdep ⟨4, .guard⟩ (by simp) rfl)).trans rfl) ?_ rfl (Below.refl _ _)
          go_simp
        refine stepsL_cons (fun a u hc hdd hd hk hdep => ?_) ?_
        ·
          have d11 : (a.tmps[11]?).getD undef = (.bool false) := hdep ⟨4, .data⟩ (by simp) rfl
          have d15 : (a.tmps[15]?).getD undef = (.bool false) := hdep ⟨8, .data⟩ (by simp) rfl
          refine step_val KC KD hc hdd rfl (.bool false) u (wanted_plain rfl) ?_ rfl (Below.refl _ _)
          first | (go_simp; done) | rfl
        exact stepsL_nil
      intro vs wN hN hh
      obtain ⟨e0, e1, e2, e3, e4, e5, e6, e7, e8, e9, -⟩ := hh
      have eL : vs 9 = (.bool false) := e9
      clear e0 e1 e2 e3 e4 e5 e6 e7 e8 e9
      set_option maxRecDepth 100000 in simp only [putAll, Act.put, List.setIfInBounds_toArray, List.set_cons_zero, List.set_cons_succ, eL]
      obtain ⟨p0, p1, p2, p3, p4, p5, p6, p7, p8⟩ := hN
      obtain ⟨_, q1, q2⟩ := put2 (.int .i64 0) (.int .u64 0) p4 p5
      have B2 := ((p8.setCell (p := ⟨w.heap.size + 1 + 1, 0, none⟩) (by show w.heap.size ≤ w.heap.size + 1 + 1; omega) (.int .i64 0)).setCell (p := ⟨w.heap.size + 1 + 1, 1, none⟩) (by show w.heap.size ≤ w.heap.size + 1 + 1; omega) (.int .u64 0))
      go_wp2
      exact bodyPost_ret (v := .agg #[.int .i64 0, .int .u64 0]) (by simp [results, Try.results33, go_sem, q1, q2]) rfl ⟨rfl, B2⟩
  · have f3 : (k != 2) = true := by simpa using c3
    rw [show bo2 1 k b l c = (0, 0) by unfold bo2; rw [if_neg (by omega), if_pos (by omega)]]
    clear hk c3
    go_enter Try.func33, Try.ntmps33
    go_wp2_with fail
    have KD := keepsD_true []
    refine region_words (TwoR w (k) (b) (l) (c)) [isW (.agg #[.int .i64 (k), .int .u64 ((b : Nat) : Int)]), isW (.bool true), isW (.agg #[.int .i64 (2), .int .u64 ((1 : Nat) : Int)]), isW (.bool false), isW (.bool false), isW (.agg #[.int .i64 (l), .int .u64 ((c : Nat) : Int)]), isW (.bool true), isW (.agg #[.int .i64 (2), .int .u64 ((1 : Nat) : Int)]), isW (.bool false), isW (.bool false)] (by kernel_rfl) (by repeat' (first | exact monoL_nil | exact is_mono _ | exact row_mono _ | exact any_mono | refine monoL_cons ?_ ?_)) (by kernel_rfl) (by kernel_rfl) (fun _ _ h hb => TwoR.later h hb) base ?_ ?_
    · intro KC
      refine stepsL_cons (fun a u hc hdd hd hk hdep => ?_) ?_
      ·
        have d3 : (a.tmps[3]?).getD undef = (.pointer (some ⟨w.heap.size, 0, none⟩)) := hk 3 (by kernel_rfl)
        refine step_val KC KD hc hdd rfl (.agg #[.int .i64 (k), .int .u64 ((b : Nat) : Int)]) u (wanted_plain rfl) ?_ rfl (Below.refl _ _)
        obtain ⟨s0, s1, s2, s3, s4, s5, s6, s7, s8⟩ := hc
        go_simp
      refine stepsL_cons (fun a u hc hdd hd hk hdep => ?_) ?_
      ·
        have d2 : (a.tmps[2]?).getD undef = (.bool true) := hk 2 (by kernel_rfl)
        refine step_val KC KD hc hdd rfl (.bool true) u (wanted_plain rfl) ?_ rfl (Below.refl _ _)
        first | (go_simp; done) | rfl
      refine stepsL_cons (fun a u hc hdd hd hk hdep => ?_) ?_
      ·
        have d8 : (a.tmps[8]?).getD undef = (.bool true) := hdep ⟨1, .data⟩ (by simp) rfl
        refine step_call KC KD hc hdd rfl 12 #[.bool true] (wanted_plain rfl) (by go_simp) ?_
        exact (truth_v true u).mono (by rintro e w' ⟨rfl, hb⟩; exact ⟨_, rfl, rfl, hb⟩)
      refine stepsL_cons (fun a u hc hdd hd hk hdep => ?_) ?_
      ·
        have d7 : (a.tmps[7]?).getD undef = (.agg #[.int .i64 (k), .int .u64 ((b : Nat) : Int)]) := hdep ⟨0, .data⟩ (by simp) rfl
        have d9 : (a.tmps[9]?).getD undef = (.agg #[.int .i64 (2), .int .u64 ((1 : Nat) : Int)]) := hdep ⟨2, .data⟩ (by simp) rfl
        refine step_val KC KD hc hdd rfl (.bool false) u (wanted_plain rfl) ?_ rfl (Below.refl _ _)
        go_simp
      refine stepsL_cons (fun a u hc hdd hd hk hdep => ?_) ?_
      ·
        have d10 : (a.tmps[10]?).getD undef = (.bool false) := hdep ⟨3, .data⟩ (by simp) rfl
        refine step_val KC KD hc hdd rfl (.bool false) u (wanted_plain rfl) ?_ rfl (Below.refl _ _)
        first | (go_simp; done) | rfl
      refine stepsL_cons (fun a u hc hdd hd hk hdep => ?_) ?_
      ·
        have d4 : (a.tmps[4]?).getD undef = (.pointer (some ⟨w.heap.size + 1, 0, none⟩)) := hk 4 (by kernel_rfl)
        refine step_val KC KD hc hdd rfl (.agg #[.int .i64 (l), .int .u64 ((c : Nat) : Int)]) u ((wanted_guard (j := 4) (b := false) (c := false) rfl (hdep ⟨4, .guard⟩ (by simp) rfl)).trans rfl) ?_ rfl (Below.refl _ _)
        obtain ⟨s0, s1, s2, s3, s4, s5, s6, s7, s8⟩ := hc
        go_simp
      refine stepsL_cons (fun a u hc hdd hd hk hdep => ?_) ?_
      ·
        have d2 : (a.tmps[2]?).getD undef = (.bool true) := hk 2 (by kernel_rfl)
        refine step_val KC KD hc hdd rfl (.bool true) u ((wanted_guard (j := 4) (b := false) (c := false) rfl (hdep ⟨4, .guard⟩ (by simp) rfl)).trans rfl) ?_ rfl (Below.refl _ _)
        first | (go_simp; done) | rfl
      refine stepsL_cons (fun a u hc hdd hd hk hdep => ?_) ?_
      ·
        have d13 : (a.tmps[13]?).getD undef = (.bool true) := hdep ⟨6, .data⟩ (by simp) rfl
        refine step_call KC KD hc hdd rfl 12 #[.bool true] ((wanted_guard (j := 4) (b := false) (c := false) rfl (hdep ⟨4, .chain⟩ (by simp) rfl)).trans rfl) (by go_simp) ?_
        exact (truth_v true u).mono (by rintro e w' ⟨rfl, hb⟩; exact ⟨_, rfl, rfl, hb⟩)
      refine stepsL_cons (fun a u hc hdd hd hk hdep => ?_) ?_
      ·
        have d12 : (a.tmps[12]?).getD undef = (.agg #[.int .i64 (l), .int .u64 ((c : Nat) : Int)]) := hdep ⟨5, .data⟩ (by simp) rfl
        have d14 : (a.tmps[14]?).getD undef = (.agg #[.int .i64 (2), .int .u64 ((1 : Nat) : Int)]) := hdep ⟨7, .data⟩ (by simp) rfl
        refine step_val KC KD hc hdd rfl (.bool false) u ((wanted_guard (j := 4) (b := false) (c := false) rfl (hdep ⟨4, .guard⟩ (by simp) rfl)).trans rfl) ?_ rfl (Below.refl _ _)
        go_simp
      refine stepsL_cons (fun a u hc hdd hd hk hdep => ?_) ?_
      ·
        have d11 : (a.tmps[11]?).getD undef = (.bool false) := hdep ⟨4, .data⟩ (by simp) rfl
        have d15 : (a.tmps[15]?).getD undef = (.bool false) := hdep ⟨8, .data⟩ (by simp) rfl
        refine step_val KC KD hc hdd rfl (.bool false) u (wanted_plain rfl) ?_ rfl (Below.refl _ _)
        first | (go_simp; done) | rfl
      exact stepsL_nil
    intro vs wN hN hh
    obtain ⟨e0, e1, e2, e3, e4, e5, e6, e7, e8, e9, -⟩ := hh
    have eL : vs 9 = (.bool false) := e9
    clear e0 e1 e2 e3 e4 e5 e6 e7 e8 e9
    set_option maxRecDepth 100000 in simp only [putAll, Act.put, List.setIfInBounds_toArray, List.set_cons_zero, List.set_cons_succ, eL]
    obtain ⟨p0, p1, p2, p3, p4, p5, p6, p7, p8⟩ := hN
    obtain ⟨_, q1, q2⟩ := put2 (.int .i64 0) (.int .u64 0) p4 p5
    have B2 := ((p8.setCell (p := ⟨w.heap.size + 1 + 1, 0, none⟩) (by show w.heap.size ≤ w.heap.size + 1 + 1; omega) (.int .i64 0)).setCell (p := ⟨w.heap.size + 1 + 1, 1, none⟩) (by show w.heap.size ≤ w.heap.size + 1 + 1; omega) (.int .u64 0))
    go_wp2
    exact bodyPost_ret (v := .agg #[.int .i64 0, .int .u64 0]) (by simp [results, Try.results33, go_sem, q1, q2]) rfl ⟨rfl, B2⟩
end Go.Proofs.Ytfjnphiegoogoaa
