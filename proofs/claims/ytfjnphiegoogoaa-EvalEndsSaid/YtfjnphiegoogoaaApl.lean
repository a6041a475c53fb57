/- What Apply answers where the operator gives up: poison, as contracts; Apply of whole numbers. -/
import Derived.Test.YtfjnphiegoogoaaInts
namespace Go.Proofs.Ytfjnphiegoogoaa
open Go.ChangeShapes Go.WideShapes Go.ChangeAt Go.RowKit Go.Fl

set_option maxHeartbeats 4000000 in
/-- Apply of one value where the operator gives up. -/
theorem apply_one_gone (op : Int) (A : Option Addr) (cap : Nat) (k1 : Int) (b1 : Nat) (w : World) (hv : RowV w A 1 [(k1, b1)])
    (hret : ∀ w, Calls Try.prog 23 #[.int .i64 op, .agg #[.int .i64 (clK k1 b1), .int .u64 ((clB k1 b1 : Nat) : Int)]] w fun e w' => e = .panicked [outP] ∧ Below w.heap.size w w') :
    Calls Try.prog 15 #[.int .i64 op, .slice A 1 cap] w fun e w' => e = .returned (.agg #[.int .i64 0, .int .u64 0]) ∧ Below w.heap.size w w' := by
  have hmf : ∀ (fn : Fn) (first cap : Array Value) (w : World), (Instr.makeFunc fn first cap).run Try.prog w = .ok (.func fn first cap) w := fun _ _ _ _ => rfl
  obtain ⟨_, hb, hc0⟩ := hv
  obtain ⟨b, off, rfl, hcell⟩ := hc0 (by decide)
  obtain ⟨r0, r1⟩ := hcell 0 k1 b1 rfl
  have l1 : b1 < 18446744073709551616 := hb (k1, b1) (by simp)
  have HR := Lib.hid hret
  have s0 := cell_later (below1 w (.cells #[.int .i64 0, .int .u64 0] 25)) r0
  have s1 := cell_later (below1 w (.cells #[.int .i64 0, .int .u64 0] 25)) r1
  simp only [Nat.zero_mul, Nat.add_zero] at s0 s1
  clear hcell hc0 hb hret r0 r1
  go_enter_defers Try.func15, Try.ntmps15
  go_wp2_with fail
  refine (clean_any _ _ _ l1).mono ?_; rintro e w1 ⟨rfl, hb1⟩
  go_wp2_with fail
  refine (HR.out _).mono ?_; rintro e w2 ⟨rfl, hb2⟩
  have hb3 := below_more hb1 hb2
  obtain ⟨hc, hf⟩ := bcell hb3
  have p4 : w2.cell? ⟨w.heap.size, 0, none⟩ = some (.int .i64 0) := by rw [hc _ _ (by simp)]; simp
  have p5 : w2.cell? ⟨w.heap.size, 1, none⟩ = some (.int .u64 0) := by rw [hc _ _ (by simp)]; simp
  have p6 : w2.frozen? ⟨w.heap.size, 0, none⟩ = false := by rw [hf _ _ (by simp)]; simp
  have p7 : w2.frozen? ⟨w.heap.size, 1, none⟩ = false := by rw [hf _ _ (by simp)]; simp
  obtain ⟨_, q1, q2⟩ := put2 (.int .i64 0) (.int .u64 0) p4 p5
  have hB := below_more (below1 w _) hb3
  clear hb1 hb2
  refine leaves_cons (f := 22) (args := #[.pointer (some ⟨w.heap.size, 0, none⟩)]) (by simp) (by simp [go_sem]) ?_
  refine (gone w.heap.size _ _ _ p4 p5 p6 p7).mono ?_
  rintro e u' w'' ⟨rfl, rfl, rfl⟩
  have B2 := ((hB.setCell (p := ⟨w.heap.size, 0, none⟩) (Nat.le_refl _) (.int .i64 0)).setCell (p := ⟨w.heap.size, 1, none⟩) (Nat.le_refl _) (.int .u64 0))
  simp [Leaves, settle, results, Try.results15, go_sem, q1, q2, B2]

set_option maxHeartbeats 4000000 in
/-- Apply of two values where the operator gives up. -/
theorem apply_two_gone (op : Int) (A : Option Addr) (cap : Nat) (k1 k2 : Int) (b1 b2 : Nat) (w : World) (hv : RowV w A 2 [(k1, b1), (k2, b2)])
    (hret : ∀ w, Calls Try.prog 25 #[.int .i64 op, .agg #[.int .i64 (clK k1 b1), .int .u64 ((clB k1 b1 : Nat) : Int)], .agg #[.int .i64 (clK k2 b2), .int .u64 ((clB k2 b2 : Nat) : Int)]] w fun e w' => e = .panicked [outP] ∧ Below w.heap.size w w') :
    Calls Try.prog 15 #[.int .i64 op, .slice A 2 cap] w fun e w' => e = .returned (.agg #[.int .i64 0, .int .u64 0]) ∧ Below w.heap.size w w' := by
  have hmf : ∀ (fn : Fn) (first cap : Array Value) (w : World), (Instr.makeFunc fn first cap).run Try.prog w = .ok (.func fn first cap) w := fun _ _ _ _ => rfl
  obtain ⟨_, hb, hc0⟩ := hv
  obtain ⟨b, off, rfl, hcell⟩ := hc0 (by decide)
  obtain ⟨r0, r1⟩ := hcell 0 k1 b1 rfl
  obtain ⟨r2, r3⟩ := hcell 1 k2 b2 rfl
  have l1 : b1 < 18446744073709551616 := hb (k1, b1) (by simp)
  have l2 : b2 < 18446744073709551616 := hb (k2, b2) (by simp)
  have HR := Lib.hid hret
  clear hcell hc0 hb hret
  go_enter_defers Try.func15, Try.ntmps15
  have base : ArgsJ w b off k1 b1 k2 b2 (w.alloc (.cells #[.int .i64 0, .int .u64 0] 25)).drew := by
    refine ⟨?_, ?_, ?_, ?_, by simp, by simp, by simp, by simp, (below1 _ _).drew⟩
    · simpa using cell_later (below1 w (.cells #[.int .i64 0, .int .u64 0] 25)) r0
    · simpa using cell_later (below1 w (.cells #[.int .i64 0, .int .u64 0] 25)) r1
    · simpa using cell_later (below1 w (.cells #[.int .i64 0, .int .u64 0] 25)) r2
    · simpa using cell_later (below1 w (.cells #[.int .i64 0, .int .u64 0] 25)) r3
  have base' := base
  obtain ⟨s0, s1, s2, s3, s4, s5, s6, s7, s8⟩ := base'
  clear r0 r1 r2 r3
  go_wp2
  refine wp_region_gone (chain := [outP]) (D := [{ target := .fn (.func 22) #[.pointer (some ⟨w.heap.size, 0, none⟩)], args := #[] }]) (J := ArgsJ w b off k1 b1 k2 b2) 4 (.pointer (some ⟨w.heap.size, 0, none⟩)) (by kernel_rfl) rfl (by kernel_rfl) ?after (wpAny_of_held (S := ArgsJ w b off k1 b1 k2 b2) _ _ _ _ ?walk)
  case after =>
    intro a' w' ht hd hj
    obtain ⟨p0, p1, p2, p3, p4, p5, p6, p7, p8⟩ := hj
    obtain ⟨_, q1, q2⟩ := put2 (.int .i64 0) (.int .u64 0) p4 p5
    show Leaves _ _ a'.tmps _ a'.defers _ w'
    rw [hd]
    refine leaves_cons (f := 22) (args := #[.pointer (some ⟨w.heap.size, 0, none⟩)]) (by simp) (by simp [go_sem]) ?_
    refine (gone w.heap.size _ _ _ p4 p5 p6 p7).mono ?_
    rintro e u' w'' ⟨rfl, rfl, rfl⟩
    have B2 := ((p8.setCell (p := ⟨w.heap.size, 0, none⟩) (Nat.le_refl _) (.int .i64 0)).setCell (p := ⟨w.heap.size, 1, none⟩) (Nat.le_refl _) (.int .u64 0))
    simp [Leaves, settle, results, Try.results15, go_sem, q1, q2, B2, ht]
  change wpAnyH _ _ _ _ _ _ _ _ (World.drew _)
  refine wpAnyH_take (i := 0) (v := .int .i64 op) rfl (by kernel_rfl) (by kernel_rfl) (by kernel_rfl) (fun _ _ _ h => h) (Or.inl ⟨by rfl, ?_⟩) base ?_
  · intro w' hS
    obtain ⟨t0, t1, t2, t3, t4, t5, t6, t7, t8⟩ := hS
    go_simp
  try simp only [Act.put, List.setIfInBounds_toArray]
  refine wpAnyH_take (i := 1) (v := .slice (some ⟨b, off, none⟩) 2 cap) rfl (by kernel_rfl) (by kernel_rfl) (by kernel_rfl) (fun _ _ _ h => h) (Or.inl ⟨by rfl, ?_⟩) base ?_
  · intro w' hS
    obtain ⟨t0, t1, t2, t3, t4, t5, t6, t7, t8⟩ := hS
    go_simp
  try simp only [Act.put]
  refine wpAnyH_take (i := 2) (v := .pointer (some ⟨b, off, none⟩)) rfl (by kernel_rfl) (by kernel_rfl) (by kernel_rfl) (fun _ _ _ h => h) (Or.inl ⟨by rfl, ?_⟩) base ?_
  · intro w' hS
    obtain ⟨t0, t1, t2, t3, t4, t5, t6, t7, t8⟩ := hS
    go_simp
  try simp only [Act.put]
  refine wpAnyH_take (i := 3) (v := .agg #[.int .i64 k1, .int .u64 (b1 : Int)]) rfl (by kernel_rfl) (by kernel_rfl) (by kernel_rfl) (fun _ _ _ h => h) (Or.inl ⟨by rfl, ?_⟩) base ?_
  · intro w' hS
    obtain ⟨t0, t1, t2, t3, t4, t5, t6, t7, t8⟩ := hS
    go_simp
  try simp only [Act.put]
  refine wpAnyH_take (i := 5) (v := .slice (some ⟨b, off, none⟩) 2 cap) rfl (by kernel_rfl) (by kernel_rfl) (by kernel_rfl) (fun _ _ _ h => h) (Or.inl ⟨by rfl, ?_⟩) base ?_
  · intro w' hS
    obtain ⟨t0, t1, t2, t3, t4, t5, t6, t7, t8⟩ := hS
    go_simp
  try simp only [Act.put]
  refine wpAnyH_take (i := 6) (v := .pointer (some ⟨b, off + 2, none⟩)) rfl (by kernel_rfl) (by kernel_rfl) (by kernel_rfl) (fun _ _ _ h => h) (Or.inl ⟨by rfl, ?_⟩) base ?_
  · intro w' hS
    obtain ⟨t0, t1, t2, t3, t4, t5, t6, t7, t8⟩ := hS
    go_simp
  try simp only [Act.put]
  refine wpAnyH_take (i := 7) (v := .agg #[.int .i64 k2, .int .u64 (b2 : Int)]) rfl (by kernel_rfl) (by kernel_rfl) (by kernel_rfl) (fun _ _ _ h => h) (Or.inl ⟨by rfl, ?_⟩) base ?_
  · intro w' hS
    obtain ⟨t0, t1, t2, t3, t4, t5, t6, t7, t8⟩ := hS
    go_simp
  try simp only [Act.put]
  refine wpAnyH_ready (rs := [4]) (by kernel_rfl) (by simp) ?_
  refine AllReadyH.cons rfl (fun K hK => ?_) AllReadyH.nil
  go_simp
  go_wp2_with (go_at_call 24; refine (clean_any _ _ _ (by assumption)).mono ?_; rintro e w1 ⟨rfl, hb1⟩)
  have j1 := base.later hb1
  refine hK.out _ _ j1 (fun hHeld => ?_)
  clear hK K
  try simp only [Act.put]
  refine wpAnyH_ready (rs := [8]) (by kernel_rfl) (by simp) ?_
  refine AllReadyH.cons rfl (fun K hK => ?_) AllReadyH.nil
  go_simp
  go_wp2_with (go_at_call 24; refine (clean_any _ _ _ (by assumption)).mono ?_; rintro e w2 ⟨rfl, hb2⟩)
  have j2 := j1.later hb2
  refine hK.out _ _ j2 (fun hHeld => ?_)
  clear hK K
  try simp only [Act.put]
  refine wpAnyH_ready (rs := [9]) (by kernel_rfl) (by simp) ?_
  refine AllReadyH.cons rfl (fun K hK => ?_) AllReadyH.nil
  go_simp
  refine (HR.out _).mono ?_
  rintro e w3 ⟨rfl, hb3⟩
  exact ⟨rfl, rfl, j2.later hb3⟩
end Go.Proofs.Ytfjnphiegoogoaa
