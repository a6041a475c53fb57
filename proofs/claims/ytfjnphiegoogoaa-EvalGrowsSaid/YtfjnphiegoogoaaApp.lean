/- What the operators of whole numbers answer in package value, and how Apply's deferred function leaves an answer, as contracts. -/
import Derived.Test.YtfjnphiegoogoaaAll
import Derived.Defers
import Derived.Recover
import Derived.Deep.RegionWith
import Derived.BigRegion
import Derived.Deep.RegionHeld3
namespace Go.Proofs.Ytfjnphiegoogoaa
open Go.ChangeShapes Go.WideShapes Go.ChangeAt Go.RowKit Go.Fl

theorem below3 (w : World) (o p q : Obj) : Below w.heap.size w (((w.alloc o).alloc p).alloc q) := (below2 w o p).alloc (by simp; omega) _

theorem plus_ok (a b : Int) (w : World) (h1 : -9223372036854775808 ≤ a + b) (h2 : a + b ≤ 9223372036854775807) (hb1 : -9223372036854775808 ≤ b) (hb2 : b ≤ 9223372036854775807) :
    Calls Try.prog 70 #[.int .i64 a, .int .i64 b] w fun e w' => e = .returned (.int .i64 (a + b)) ∧ w = w' := by
  go_enter Try.func70, Try.ntmps70
  go_wp2
  all_goals first | (go_ret; exact ⟨rfl, rfl⟩) | (exfalso; omega)

theorem idle (p : Addr) (w : World) :
    CallsD Try.prog 22 #[.pointer (some p)] .returning w fun e u' w' => e = .returned (.tuple #[]) ∧ u' = .returning ∧ w' = w := by
  refine callsD_of_wpS Try.func22 rfl fun c₀ cs hu => ?_
  apply wpS_seq
  apply wpS_region
  simp [wpOpsS, go_sem, recoverD, hu, Try.ntmps22, Exit.thenS]
  refine wpS_of_wp ?_
  go_wp2
  cases c₀
  simp_all [bodyPostS, results, Try.results22]

theorem two_add (x y : Int) (w : World) (h1 : -9223372036854775808 ≤ x + y) (h2 : x + y ≤ 9223372036854775807) (hy1 : -9223372036854775808 ≤ y) (hy2 : y ≤ 9223372036854775807)
    (p q : Int) (hp : wrap64 p = x) (hq : wrap64 q = y) :
    Calls Try.prog 25 #[.int .i64 1, .agg #[.int .i64 1, .int .u64 p], .agg #[.int .i64 1, .int .u64 q]] w fun e w' => e = .returned (.agg #[.int .i64 1, .int .u64 (IntKind.u64.wrap (x + y))]) ∧ Below w.heap.size w w' := by
  go_enter Try.func25, Try.ntmps25
  go_wp2_with (first | (go_at_call 48; go_in) | (go_at_call 65; go_in) | (go_at_call 50; go_in) | (go_at_call 70; refine (plus_ok _ _ _ h1 h2 hy1 hy2).mono ?_; rintro e w' ⟨rfl, rfl⟩))
  refine (ofint_v _ _).mono ?_; rintro e w1 ⟨rfl, hb1⟩
  obtain ⟨hc, hf⟩ := bcell hb1
  obtain ⟨_, q1, q2⟩ := put2 (w := w1) (g := w.heap.size + 1 + 1) (.int .i64 1) (.int .u64 (IntKind.u64.wrap (x + y))) (x := .int .i64 0) (y := .int .u64 0) (by rw [hc _ _ (by simp)]; simp [go_sem]) (by rw [hc _ _ (by simp)]; simp [go_sem])
  go_wp2
  exact bodyPost_ret (v := .agg #[.int .i64 1, .int .u64 (IntKind.u64.wrap (x + y))]) (by simp [results, Try.results25, go_sem, q1, q2]) rfl ⟨rfl, ((below_more (below3 w _ _ _) hb1).setCell (by show w.heap.size ≤ w.heap.size + 1 + 1; omega) _).setCell (by show w.heap.size ≤ w.heap.size + 1 + 1; omega) _⟩

/-- what stands while Apply's operands are made: both values, the answer's place -/
def ArgsJ (w0 : World) (b off : Nat) (k1 : Int) (b1 : Nat) (k2 : Int) (b2 : Nat) (w' : World) : Prop :=
  w'.cell? ⟨b, off, none⟩ = some (.int .i64 k1) ∧ w'.cell? ⟨b, off + 1, none⟩ = some (.int .u64 (b1 : Int)) ∧ w'.cell? ⟨b, off + 2, none⟩ = some (.int .i64 k2) ∧ w'.cell? ⟨b, off + 2 + 1, none⟩ = some (.int .u64 (b2 : Int)) ∧
  w'.cell? ⟨w0.heap.size, 0, none⟩ = some (.int .i64 0) ∧ w'.cell? ⟨w0.heap.size, 1, none⟩ = some (.int .u64 0) ∧ w'.frozen? ⟨w0.heap.size, 0, none⟩ = false ∧ w'.frozen? ⟨w0.heap.size, 1, none⟩ = false ∧ Below w0.heap.size w0 w'

theorem ArgsJ.later {w0 w w1 : World} {b off : Nat} {k1 k2 : Int} {b1 b2 : Nat} (h : ArgsJ w0 b off k1 b1 k2 b2 w) (hb : Below w.heap.size w w1) : ArgsJ w0 b off k1 b1 k2 b2 w1 := by
  obtain ⟨h0, h1, h2, h3, h4, h5, h6, h7, h8⟩ := h
  have hg := block_of_cell h4
  exact ⟨cell_later hb h0, cell_later hb h1, cell_later hb h2, cell_later hb h3, cell_later hb h4, cell_later hb h5, (hb.frozen (p := ⟨w0.heap.size, 0, none⟩) hg).trans h6, (hb.frozen (p := ⟨w0.heap.size, 1, none⟩) hg).trans h7, below_more h8 hb⟩

set_option maxHeartbeats 4000000 in
/-- Apply of two values where the operator answers. -/
theorem apply_two (op : Int) (A : Option Addr) (cap : Nat) (k1 k2 : Int) (b1 b2 : Nat) (k c : Int) (w : World) (hv : RowV w A 2 [(k1, b1), (k2, b2)])
    (hret : ∀ w, Calls Try.prog 25 #[.int .i64 op, .agg #[.int .i64 (clK k1 b1), .int .u64 ((clB k1 b1 : Nat) : Int)], .agg #[.int .i64 (clK k2 b2), .int .u64 ((clB k2 b2 : Nat) : Int)]] w fun e w' => e = .returned (.agg #[.int .i64 k, .int .u64 c]) ∧ Below w.heap.size w w') :
    Calls Try.prog 15 #[.int .i64 op, .slice A 2 cap] w fun e w' => e = .returned (.agg #[.int .i64 k, .int .u64 c]) ∧ Below w.heap.size w w' := by
  have hmf : ∀ (fn : Fn) (first cap : Array Value) (w : World), (Instr.makeFunc fn first cap).run Try.prog w = .ok (.func fn first cap) w := fun _ _ _ _ => rfl
  obtain ⟨_, hb, hc0⟩ := hv
  obtain ⟨b, off, rfl, hcell⟩ := hc0 (by decide)
  obtain ⟨r0, r1⟩ := hcell 0 k1 b1 rfl
  obtain ⟨r2, r3⟩ := hcell 1 k2 b2 rfl
  have l1 : b1 < 18446744073709551616 := hb (k1, b1) (by simp)
  have l2 : b2 < 18446744073709551616 := hb (k2, b2) (by simp)
  have HR := Lib.hid hret
  clear hcell hc0 hb hret
  go_enter_defers Try.func15, Try.ntmps15
  have base : ArgsJ w b off k1 b1 k2 b2 (w.alloc (.cells #[.int .i64 0, .int .u64 0] 25)).drew := by
    refine ⟨?_, ?_, ?_, ?_, by simp, by simp, by simp, by simp, (below1 _ _).drew⟩
    · simpa using cell_later (below1 w (.cells #[.int .i64 0, .int .u64 0] 25)) r0
    · simpa using cell_later (below1 w (.cells #[.int .i64 0, .int .u64 0] 25)) r1
    · simpa using cell_later (below1 w (.cells #[.int .i64 0, .int .u64 0] 25)) r2
    · simpa using cell_later (below1 w (.cells #[.int .i64 0, .int .u64 0] 25)) r3
  have base' := base
  obtain ⟨s0, s1, s2, s3, s4, s5, s6, s7, s8⟩ := base'
  clear r0 r1 r2 r3
  go_wp2
  refine wp_region_noPanic ?_
  go_region_with (first | (go_at_call 24; refine (clean_any _ _ _ (by assumption)).mono ?_; rintro e w1 ⟨rfl, hb1⟩; have j1 := ArgsJ.later (by assumption) hb1; have j2 := j1; obtain ⟨p0, p1, p2, p3, p4, p5, p6, p7, p8⟩ := j2) | (go_at_call 25; refine (HR.out _).mono ?_; rintro e w1 ⟨rfl, hb1⟩; have j1 := ArgsJ.later (by assumption) hb1; have j2 := j1; obtain ⟨p0, p1, p2, p3, p4, p5, p6, p7, p8⟩ := j2))
  all_goals
    refine NoPanic.normal ?_
    obtain ⟨_, q1, q2⟩ := put2 (.int .i64 k) (.int .u64 c) p4 p5
    go_wp2
    refine leaves_cons (f := 22) (args := #[.pointer (some ⟨w.heap.size, 0, none⟩)]) (by simp) (by simp [go_sem]) ?_
    refine (idle _ _).mono ?_
    rintro e u' w'' ⟨rfl, rfl, rfl⟩
    have B2 := ((p8.setCell (p := ⟨w.heap.size, 0, none⟩) (Nat.le_refl _) (.int .i64 k)).setCell (p := ⟨w.heap.size, 1, none⟩) (Nat.le_refl _) (.int .u64 c))
    simp [Leaves, settle, results, Try.results15, go_sem, q1, q2, B2]
end Go.Proofs.Ytfjnphiegoogoaa
