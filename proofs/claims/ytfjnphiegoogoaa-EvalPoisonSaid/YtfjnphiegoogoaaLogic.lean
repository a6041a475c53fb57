/- What AND and OR answer of two values in package value, as contracts. -/
import Derived.Test.YtfjnphiegoogoaaStrict
namespace Go.Proofs.Ytfjnphiegoogoaa
open Go.ChangeShapes Go.WideShapes Go.ChangeAt Go.RowKit Go.Fl

/-- both operands and the answer's place -/
def TwoJ (w0 : World) (k b l c : Int) (w' : World) : Prop :=
  w'.cell? ⟨w0.heap.size, 0, none⟩ = some (.int .i64 k) ∧ w'.cell? ⟨w0.heap.size, 1, none⟩ = some (.int .u64 b) ∧ w'.cell? ⟨w0.heap.size + 1, 0, none⟩ = some (.int .i64 l) ∧ w'.cell? ⟨w0.heap.size + 1, 1, none⟩ = some (.int .u64 c) ∧
  w'.cell? ⟨w0.heap.size + 1 + 1, 0, none⟩ = some (.int .i64 0) ∧ w'.cell? ⟨w0.heap.size + 1 + 1, 1, none⟩ = some (.int .u64 0) ∧ w'.frozen? ⟨w0.heap.size + 1 + 1, 0, none⟩ = false ∧ w'.frozen? ⟨w0.heap.size + 1 + 1, 1, none⟩ = false ∧ Below w0.heap.size w0 w'

theorem TwoJ.later {w0 w w1 : World} {k b l c : Int} (h : TwoJ w0 k b l c w) (hb : Below w.heap.size w w1) : TwoJ w0 k b l c w1 := by
  obtain ⟨h0, h1, h2, h3, h4, h5, h6, h7, h8⟩ := h
  have hg := block_of_cell h4
  exact ⟨cell_later hb h0, cell_later hb h1, cell_later hb h2, cell_later hb h3, cell_later hb h4, cell_later hb h5, (hb.frozen (p := ⟨w0.heap.size + 1 + 1, 0, none⟩) hg).trans h6, (hb.frozen (p := ⟨w0.heap.size + 1 + 1, 1, none⟩) hg).trans h7, below_more h8 hb⟩

theorem ofbool_f (w : World) : Calls Try.prog 39 #[.bool false] w fun e w' => e = .returned (.agg #[.int .i64 2, .int .u64 0]) ∧ Below w.heap.size w w' := ofbool_v false w
theorem ofbool_t (w : World) : Calls Try.prog 39 #[.bool true] w fun e w' => e = .returned (.agg #[.int .i64 2, .int .u64 1]) ∧ Below w.heap.size w w' := ofbool_v true w

set_option maxHeartbeats 4000000 in
theorem two_and (k b l c : Int) (w : World) :
    Calls Try.prog 25 #[.int .i64 13, .agg #[.int .i64 k, .int .u64 b], .agg #[.int .i64 l, .int .u64 c]] w fun e w' => e = .returned (.agg #[.int .i64 (boK k b l c 0), .int .u64 (boB k b l c 0)]) ∧ Below w.heap.size w w' := by
  have base : TwoJ w k b l c (((w.alloc (.cells #[.int .i64 k, .int .u64 b] 25)).alloc (.cells #[.int .i64 l, .int .u64 c] 25)).alloc (.cells #[.int .i64 0, .int .u64 0] 25)).drew :=
    ⟨by simp [go_sem], by simp [go_sem], by simp [go_sem], by simp [go_sem], by simp [go_sem], by simp [go_sem], by simp [go_sem], by simp [go_sem], (below3 _ _ _ _).drew⟩
  have base' := base
  obtain ⟨s0, s1, s2, s3, s4, s5, s6, s7, s8⟩ := base'
  go_enter Try.func25, Try.ntmps25
  go_wp2_with fail
  go_region_with (first | (go_at_call 39; refine (ofbool_f _).mono ?_; rintro e w1 ⟨rfl, hb1⟩; have j1 := TwoJ.later (by assumption) hb1; have j2 := j1; obtain ⟨p0, p1, p2, p3, p4, p5, p6, p7, p8⟩ := j2) | (go_at_call 47; refine (both_any _ _ _ _ _ _).mono ?_; rintro e w1 ⟨rfl, hb1⟩; have j1 := TwoJ.later (by assumption) hb1; have j2 := j1; obtain ⟨p0, p1, p2, p3, p4, p5, p6, p7, p8⟩ := j2))
  all_goals
    obtain ⟨_, q1, q2⟩ := put2 (.int .i64 (boK k b l c 0)) (.int .u64 (boB k b l c 0)) p4 p5
    have B2 := ((p8.setCell (p := ⟨w.heap.size + 1 + 1, 0, none⟩) (by show w.heap.size ≤ w.heap.size + 1 + 1; omega) (.int .i64 (boK k b l c 0))).setCell (p := ⟨w.heap.size + 1 + 1, 1, none⟩) (by show w.heap.size ≤ w.heap.size + 1 + 1; omega) (.int .u64 (boB k b l c 0)))
    go_wp2
    exact bodyPost_ret (v := .agg #[.int .i64 (boK k b l c 0), .int .u64 (boB k b l c 0)]) (by simp [results, Try.results25, go_sem, q1, q2]) rfl ⟨rfl, B2⟩

set_option maxHeartbeats 4000000 in
theorem two_or (k b l c : Int) (w : World) :
    Calls Try.prog 25 #[.int .i64 14, .agg #[.int .i64 k, .int .u64 b], .agg #[.int .i64 l, .int .u64 c]] w fun e w' => e = .returned (.agg #[.int .i64 (boK k b l c 1), .int .u64 (boB k b l c 1)]) ∧ Below w.heap.size w w' := by
  have base : TwoJ w k b l c (((w.alloc (.cells #[.int .i64 k, .int .u64 b] 25)).alloc (.cells #[.int .i64 l, .int .u64 c] 25)).alloc (.cells #[.int .i64 0, .int .u64 0] 25)).drew :=
    ⟨by simp [go_sem], by simp [go_sem], by simp [go_sem], by simp [go_sem], by simp [go_sem], by simp [go_sem], by simp [go_sem], by simp [go_sem], (below3 _ _ _ _).drew⟩
  have base' := base
  obtain ⟨s0, s1, s2, s3, s4, s5, s6, s7, s8⟩ := base'
  go_enter Try.func25, Try.ntmps25
  go_wp2_with fail
  go_region_with (first | (go_at_call 39; refine (ofbool_t _).mono ?_; rintro e w1 ⟨rfl, hb1⟩; have j1 := TwoJ.later (by assumption) hb1; have j2 := j1; obtain ⟨p0, p1, p2, p3, p4, p5, p6, p7, p8⟩ := j2) | (go_at_call 47; refine (both_any _ _ _ _ _ _).mono ?_; rintro e w1 ⟨rfl, hb1⟩; have j1 := TwoJ.later (by assumption) hb1; have j2 := j1; obtain ⟨p0, p1, p2, p3, p4, p5, p6, p7, p8⟩ := j2))
  all_goals
    obtain ⟨_, q1, q2⟩ := put2 (.int .i64 (boK k b l c 1)) (.int .u64 (boB k b l c 1)) p4 p5
    have B2 := ((p8.setCell (p := ⟨w.heap.size + 1 + 1, 0, none⟩) (by show w.heap.size ≤ w.heap.size + 1 + 1; omega) (.int .i64 (boK k b l c 1))).setCell (p := ⟨w.heap.size + 1 + 1, 1, none⟩) (by show w.heap.size ≤ w.heap.size + 1 + 1; omega) (.int .u64 (boB k b l c 1)))
    go_wp2
    exact bodyPost_ret (v := .agg #[.int .i64 (boK k b l c 1), .int .u64 (boB k b l c 1)]) (by simp [results, Try.results25, go_sem, q1, q2]) rfl ⟨rfl, B2⟩

end Go.Proofs.Ytfjnphiegoogoaa
