/- What a leaf of a condition is: the aggregates' functions, the mean, as contracts. -/
import Derived.Test.YtfjnphiegoogoaaLkD
namespace Go.Proofs.Ytfjnphiegoogoaa
open Go.ChangeShapes Go.WideShapes Go.ChangeAt Go.RowKit Go.Fl
set_option linter.unusedVariables false
set_option linter.unusedSimpArgs false

theorem ofint_n (n : Int) (w : World) : Calls Try.prog 79 #[.int .i64 n] w (VIs (1, nU n) w) :=
  (ofint_e n w).mono fun e w' ⟨he, hb⟩ => by subst he; exact .mk (nU_eq n).symm hb

def meanP (vs : List (Int × Nat)) : Int × Nat := appP 4 [sumP vs, appP 16 [(1, nU (vs.length : Int))]]

theorem sumP_lt {vs : List (Int × Nat)} (w : World) (h : ∀ v ∈ vs, v.2 < 18446744073709551616) : (sumP vs).2 < 18446744073709551616 := by
  match vs, h with
  | [], _ => decide
  | v :: l, h =>
    show (l.foldl addP v).2 < _
    have hl : ∀ u ∈ l, u.2 < 18446744073709551616 := fun u hu => h u (List.mem_cons_of_mem _ hu)
    have hv := h v List.mem_cons_self
    clear h
    induction l generalizing v with
    | nil => exact hv
    | cons u l ih => exact ih (addP v u) (fun x hx => hl x (List.mem_cons_of_mem _ hx)) (app_lt 1 [v, u] w (by intro x hx; simp at hx; rcases hx with rfl | rfl; exact hv; exact hl _ List.mem_cons_self))

set_option maxHeartbeats 4000000 in
set_option maxRecDepth 100000 in
theorem mean_any (A : Option Addr) (vs : List (Int × Nat)) (w : World) (hv : RowV w A vs.length vs) (h0 : 0 < vs.length) (hl : vs.length ≤ 9223372036854775807) :
    Calls Try.prog 93 #[.slice A vs.length vs.length] w (VIs (meanP vs) w) := by
  have S := Lib.hid (fun wz (hb : Below w.heap.size w wz) => sum_any A vs wz (hv.later hb) h0 hl)
  have hsl := sumP_lt w hv.2.1
  unfold meanP
  generalize sumP vs = s at *
  obtain ⟨sk, sb⟩ := s
  have hnl := nU_lt (vs.length : Int)
  have O := Lib.hid (fun w => ofint_n (vs.length : Int) w)
  generalize nU (vs.length : Int) = n at *
  have hcl := app_lt 16 [(1, n)] w (by intro x hx; simp at hx; subst hx; exact hnl)
  have C := Lib.hid (fun w (g : Nat) (h : RowV w (some ⟨g, 0, none⟩) 1 [(1, n)]) => apply_any 16 (some ⟨g, 0, none⟩) 1 1 [(1, n)] w h)
  generalize appP 16 [(1, n)] = c at *
  obtain ⟨ck, cb⟩ := c
  simp only at hsl hcl S
  have D := Lib.hid (fun w (g : Nat) (h : RowV w (some ⟨g, 0, none⟩) 2 [(sk, sb), (ck, cb)]) => apply_any 4 (some ⟨g, 0, none⟩) 2 2 [(sk, sb), (ck, cb)] w h)
  generalize appP 4 [(sk, sb), (ck, cb)] = x at *
  obtain ⟨xk, xb⟩ := x
  simp only at C D
  have z0 := Blk.made w 25 #[.int .i64 0, .int .u64 0]
  have hu := m1 w (.cells #[.int .i64 0, .int .u64 0] 25)
  replace z0 := Lib.hid z0
  replace hu := Lib.hid hu
  clear hv h0
  go_enter Try.func93, Try.ntmps93
  go_wp2_with fail
  refine (O.out _).mono ?_; rintro e w1 ⟨rfl, hb1⟩
  have z1 := Lib.hid (z0.out.kept hb1)
  have hu1 := Lib.hid (mmore hu.out hb1)
  clear z0 hu hb1
  go_wp2_with fail
  refine (C.out _ w1.heap.size (row_one (k1 := 1) hnl (by simp [go_sem]) (by simp [go_sem]))).mono ?_; rintro e w2 ⟨rfl, hb2⟩
  have z2 := Lib.hid ((z1.out.kept (m1 _ _)).kept hb2)
  have hu2 := Lib.hid (mmore (mmore hu1.out (m1 _ _)) hb2)
  clear z1 hu1 hb2
  go_upto_region 2 with (fail)
  have t0 : (w2.alloc (.cells #[.int .i64 ck, .int .u64 (cb : Int)] 25)).cell? ⟨w2.heap.size, 0, none⟩ = some (.int .i64 ck) := by simp [go_sem]
  have t1 : (w2.alloc (.cells #[.int .i64 ck, .int .u64 (cb : Int)] 25)).cell? ⟨w2.heap.size, 1, none⟩ = some (.int .u64 (cb : Int)) := by simp [go_sem]
  have z3 := z2.out.kept (m1 w2 (.cells #[.int .i64 ck, .int .u64 (cb : Int)] 25))
  have hu3 := mmore hu2.out (m1 w2 (.cells #[.int .i64 ck, .int .u64 (cb : Int)] 25))
  clear z2 hu2
  generalize w2.heap.size = g at *
  generalize w2.alloc (.cells #[.int .i64 ck, .int .u64 (cb : Int)] 25) = w3 at *
  have z3 : Blk w3.drew w.heap.size 25 #[.int .i64 0, .int .u64 0] := z3
  have hu3 : Below w.heap.size w w3.drew := hu3.drew
  have t0' : w3.drew.cell? ⟨g, 0, none⟩ = some (.int .i64 ck) := t0
  have t1' : w3.drew.cell? ⟨g, 1, none⟩ = some (.int .u64 (cb : Int)) := t1
  replace z3 := Lib.hid z3
  replace hu3 := Lib.hid hu3
  replace t0' := Lib.hid t0'
  replace t1' := Lib.hid t1'
  go_region_with (first | (go_at_call 89; refine (S.out _ hu3.out).mono ?_; rintro e w4 ⟨rfl, hb4⟩; have y0 := cell_later hb4 t0'.out; have y1 := cell_later hb4 t1'.out; have z4 := Lib.hid (z3.out.kept hb4); have hu4 := Lib.hid (mmore hu3.out hb4)) | (go_at_call 15; refine (D.out _ w4.heap.size (row_two (k1 := sk) (k2 := ck) hsl hcl (by simp [go_sem]) (by simp [go_sem]) (by simp [go_sem]) (by simp [go_sem]))).mono ?_; rintro e w6 ⟨rfl, hb6⟩; have z6 := (z4.out.kept (m1 _ _)).kept hb6; have hu6 := Lib.hid (mmore (mmore hu4.out (m1 _ _)) hb6); have x0 : w6.cell? ⟨w.heap.size, 0, none⟩ = some (.int .i64 0) := z6.cell 0; have x1 : w6.cell? ⟨w.heap.size, 1, none⟩ = some (.int .u64 0) := z6.cell 1; have f0 : w6.frozen? ⟨w.heap.size, 0, none⟩ = false := z6.free 0; have f1 : w6.frozen? ⟨w.heap.size, 1, none⟩ = false := z6.free 1))
  all_goals obtain ⟨_, r1, r2⟩ := put2 (w := w6) (g := w.heap.size) (.int .i64 xk) (.int .u64 (xb : Int)) x0 x1
  all_goals replace r1 := Lib.hid r1
  all_goals replace r2 := Lib.hid r2
  all_goals go_wp2
  all_goals exact bodyPost_ret (v := .agg #[.int .i64 xk, .int .u64 (xb : Int)]) (by simp [results, Try.results93, go_sem, r1.out, r2.out]) rfl (.mk rfl ((hu6.out.setCell (Nat.le_refl _) _).setCell (Nat.le_refl _) _))

theorem agg_26 (w : World) : Calls Try.prog 81 #[.int .i64 26] w fun e w' => e = .returned (.func (.func 94) #[] #[]) ∧ w = w' := by
  go_enter Try.func81, Try.ntmps81
  go_wp2
  go_ret
  exact ⟨rfl, rfl⟩

theorem agg_42 (w : World) : Calls Try.prog 81 #[.int .i64 42] w fun e w' => e = .returned (.func (.func 94) #[] #[]) ∧ w = w' := by
  go_enter Try.func81, Try.ntmps81
  go_wp2
  go_ret
  exact ⟨rfl, rfl⟩

theorem agg_27 (w : World) : Calls Try.prog 81 #[.int .i64 27] w fun e w' => e = .returned (.func (.func 88) #[] #[]) ∧ w = w' := by
  go_enter Try.func81, Try.ntmps81
  go_wp2
  go_ret
  exact ⟨rfl, rfl⟩

theorem agg_28 (w : World) : Calls Try.prog 81 #[.int .i64 28] w fun e w' => e = .returned (.func (.func 89) #[] #[]) ∧ w = w' := by
  go_enter Try.func81, Try.ntmps81
  go_wp2
  go_ret
  exact ⟨rfl, rfl⟩

theorem agg_31 (w : World) : Calls Try.prog 81 #[.int .i64 31] w fun e w' => e = .returned (.func (.func 93) #[] #[]) ∧ w = w' := by
  go_enter Try.func81, Try.ntmps81
  go_wp2
  go_ret
  exact ⟨rfl, rfl⟩

theorem extreme_29 (w : World) : Calls Try.prog 90 #[.int .i64 (-1), .func (.func 91) #[] #[]] w fun e w' => e = .returned (.func (.func 95) #[] #[.pointer (some ⟨w.heap.size, 0, none⟩), .pointer (some ⟨w.heap.size + 1, 0, none⟩)]) ∧ w' = (w.alloc (.cells #[.int .i64 (-1)] 3)).alloc (.cells #[.func (.func 91) #[] #[]] 102) := by
  go_enter Try.func90, Try.ntmps90
  go_wp2
  go_ret
  exact ⟨rfl, rfl⟩

theorem extreme_30 (w : World) : Calls Try.prog 90 #[.int .i64 1, .func (.func 92) #[] #[]] w fun e w' => e = .returned (.func (.func 95) #[] #[.pointer (some ⟨w.heap.size, 0, none⟩), .pointer (some ⟨w.heap.size + 1, 0, none⟩)]) ∧ w' = (w.alloc (.cells #[.int .i64 1] 3)).alloc (.cells #[.func (.func 92) #[] #[]] 102) := by
  go_enter Try.func90, Try.ntmps90
  go_wp2
  go_ret
  exact ⟨rfl, rfl⟩

theorem agg_29 (w : World) : Calls Try.prog 81 #[.int .i64 29] w fun e w' => e = .returned (.func (.func 95) #[] #[.pointer (some ⟨w.heap.size, 0, none⟩), .pointer (some ⟨w.heap.size + 1, 0, none⟩)]) ∧ w' = (w.alloc (.cells #[.int .i64 (-1)] 3)).alloc (.cells #[.func (.func 91) #[] #[]] 102) := by
  go_enter Try.func81, Try.ntmps81
  go_wp2_with (go_at_call 90; refine (extreme_29 _).mono ?_; rintro e w' ⟨rfl, rfl⟩)
  go_ret
  exact ⟨rfl, rfl⟩

theorem agg_30 (w : World) : Calls Try.prog 81 #[.int .i64 30] w fun e w' => e = .returned (.func (.func 95) #[] #[.pointer (some ⟨w.heap.size, 0, none⟩), .pointer (some ⟨w.heap.size + 1, 0, none⟩)]) ∧ w' = (w.alloc (.cells #[.int .i64 1] 3)).alloc (.cells #[.func (.func 92) #[] #[]] 102) := by
  go_enter Try.func81, Try.ntmps81
  go_wp2_with (go_at_call 90; refine (extreme_30 _).mono ?_; rintro e w' ⟨rfl, rfl⟩)
  go_ret
  exact ⟨rfl, rfl⟩
end Go.Proofs.Ytfjnphiegoogoaa
