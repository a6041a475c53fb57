/- Apl, Row, AplI, Tri, Una -/
import Derived.Test.YtfjnphiegoogoaaZ04
import Derived.Test.YtfjnphiegoogoaaZ03
/- Apl -/
namespace Go.Proofs.Ytfjnphiegoogoaa
open Go.ChangeShapes Go.WideShapes Go.ChangeAt Go.RowKit Go.Fl

set_option maxHeartbeats 4000000 in
/-- Apply of one value where the operator gives up. -/
theorem apply_one_gone (op : Int) (A : Option Addr) (cap : Nat) (k1 : Int) (b1 : Nat) (w : World) (hv : RowV w A 1 [(k1, b1)])
    (hret : ∀ w, Calls Try.prog 23 #[.int .i64 op, .agg #[.int .i64 (clK k1 b1), .int .u64 ((clB k1 b1 : Nat) : Int)]] w fun e w' => e = .panicked [outP] ∧ Below w.heap.size w w') :
    Calls Try.prog 15 #[.int .i64 op, .slice A 1 cap] w fun e w' => e = .returned (.agg #[.int .i64 0, .int .u64 0]) ∧ Below w.heap.size w w' := by
  have hmf : ∀ (fn : Fn) (first cap : Array Value) (w : World), (Instr.makeFunc fn first cap).run Try.prog w = .ok (.func fn first cap) w := fun _ _ _ _ => rfl
  obtain ⟨_, hb, hc0⟩ := hv
  obtain ⟨b, off, rfl, hcell⟩ := hc0 (by decide)
  obtain ⟨r0, r1⟩ := hcell 0 k1 b1 rfl
  have l1 : b1 < 18446744073709551616 := hb (k1, b1) (by simp)
  have HR := Lib.hid hret
  have s0 := cell_later (below1 w (.cells #[.int .i64 0, .int .u64 0] 25)) r0
  have s1 := cell_later (below1 w (.cells #[.int .i64 0, .int .u64 0] 25)) r1
  simp only [Nat.zero_mul, Nat.add_zero] at s0 s1
  clear hcell hc0 hb hret r0 r1
  go_enter_defers Try.func15, Try.ntmps15
  go_wp2_with fail
  refine (clean_any _ _ _ l1).mono ?_; rintro e w1 ⟨rfl, hb1⟩
  go_wp2_with fail
  refine (HR.out _).mono ?_; rintro e w2 ⟨rfl, hb2⟩
  have hb3 := below_more hb1 hb2
  obtain ⟨hc, hf⟩ := bcell hb3
  have p4 : w2.cell? ⟨w.heap.size, 0, none⟩ = some (.int .i64 0) := by rw [hc _ _ (by simp)]; simp
  have p5 : w2.cell? ⟨w.heap.size, 1, none⟩ = some (.int .u64 0) := by rw [hc _ _ (by simp)]; simp
  have p6 : w2.frozen? ⟨w.heap.size, 0, none⟩ = false := by rw [hf _ _ (by simp)]; simp
  have p7 : w2.frozen? ⟨w.heap.size, 1, none⟩ = false := by rw [hf _ _ (by simp)]; simp
  obtain ⟨_, q1, q2⟩ := put2 (.int .i64 0) (.int .u64 0) p4 p5
  have hB := below_more (below1 w _) hb3
  clear hb1 hb2
  refine leaves_cons (f := 22) (args := #[.pointer (some ⟨w.heap.size, 0, none⟩)]) (by simp) (by simp [go_sem]) ?_
  refine (gone w.heap.size _ _ _ p4 p5 p6 p7).mono ?_
  rintro e u' w'' ⟨rfl, rfl, rfl⟩
  have B2 := ((hB.setCell (p := ⟨w.heap.size, 0, none⟩) (Nat.le_refl _) (.int .i64 0)).setCell (p := ⟨w.heap.size, 1, none⟩) (Nat.le_refl _) (.int .u64 0))
  simp [Leaves, settle, results, Try.results15, go_sem, q1, q2, B2]

set_option maxHeartbeats 4000000 in
/-- Apply of two values where the operator gives up. -/
theorem apply_two_gone (op : Int) (A : Option Addr) (cap : Nat) (k1 k2 : Int) (b1 b2 : Nat) (w : World) (hv : RowV w A 2 [(k1, b1), (k2, b2)])
    (hret : ∀ w, Calls Try.prog 25 #[.int .i64 op, .agg #[.int .i64 (clK k1 b1), .int .u64 ((clB k1 b1 : Nat) : Int)], .agg #[.int .i64 (clK k2 b2), .int .u64 ((clB k2 b2 : Nat) : Int)]] w fun e w' => e = .panicked [outP] ∧ Below w.heap.size w w') :
    Calls Try.prog 15 #[.int .i64 op, .slice A 2 cap] w fun e w' => e = .returned (.agg #[.int .i64 0, .int .u64 0]) ∧ Below w.heap.size w w' := by
  have hmf : ∀ (fn : Fn) (first cap : Array Value) (w : World), (Instr.makeFunc fn first cap).run Try.prog w = .ok (.func fn first cap) w := fun _ _ _ _ => rfl
  obtain ⟨_, hb, hc0⟩ := hv
  obtain ⟨b, off, rfl, hcell⟩ := hc0 (by decide)
  obtain ⟨r0, r1⟩ := hcell 0 k1 b1 rfl
  obtain ⟨r2, r3⟩ := hcell 1 k2 b2 rfl
  have l1 : b1 < 18446744073709551616 := hb (k1, b1) (by simp)
  have l2 : b2 < 18446744073709551616 := hb (k2, b2) (by simp)
  have HR := Lib.hid hret
  clear hcell hc0 hb hret
  go_enter_defers Try.func15, Try.ntmps15
  have base : ArgsJ w b off k1 b1 k2 b2 (w.alloc (.cells #[.int .i64 0, .int .u64 0] 25)).drew := by
    refine ⟨?_, ?_, ?_, ?_, by simp, by simp, by simp, by simp, (below1 _ _).drew⟩
    · simpa using cell_later (below1 w (.cells #[.int .i64 0, .int .u64 0] 25)) r0
    · simpa using cell_later (below1 w (.cells #[.int .i64 0, .int .u64 0] 25)) r1
    · simpa using cell_later (below1 w (.cells #[.int .i64 0, .int .u64 0] 25)) r2
    · simpa using cell_later (below1 w (.cells #[.int .i64 0, .int .u64 0] 25)) r3
  have base' := base
  obtain ⟨s0, s1, s2, s3, s4, s5, s6, s7, s8⟩ := base'
  clear r0 r1 r2 r3
  go_wp2
  refine wp_region_gone (chain := [outP]) (D := [{ target := .fn (.func 22) #[.pointer (some ⟨w.heap.size, 0, none⟩)], args := #[] }]) (J := ArgsJ w b off k1 b1 k2 b2) 4 (.pointer (some ⟨w.heap.size, 0, none⟩)) (by kernel_rfl) rfl (by kernel_rfl) ?after (wpAny_of_held (S := ArgsJ w b off k1 b1 k2 b2) _ _ _ _ ?walk)
  case after =>
    intro a' w' ht hd hj
    obtain ⟨p0, p1, p2, p3, p4, p5, p6, p7, p8⟩ := hj
    obtain ⟨_, q1, q2⟩ := put2 (.int .i64 0) (.int .u64 0) p4 p5
    show Leaves _ _ a'.tmps _ a'.defers _ w'
    rw [hd]
    refine leaves_cons (f := 22) (args := #[.pointer (some ⟨w.heap.size, 0, none⟩)]) (by simp) (by simp [go_sem]) ?_
    refine (gone w.heap.size _ _ _ p4 p5 p6 p7).mono ?_
    rintro e u' w'' ⟨rfl, rfl, rfl⟩
    have B2 := ((p8.setCell (p := ⟨w.heap.size, 0, none⟩) (Nat.le_refl _) (.int .i64 0)).setCell (p := ⟨w.heap.size, 1, none⟩) (Nat.le_refl _) (.int .u64 0))
    simp [Leaves, settle, results, Try.results15, go_sem, q1, q2, B2, ht]
  change wpAnyH _ _ _ _ _ _ _ _ (World.drew _)
  refine wpAnyH_take (i := 0) (v := .int .i64 op) rfl (by kernel_rfl) (by kernel_rfl) (by kernel_rfl) (fun _ _ _ h => h) (Or.inl ⟨by rfl, ?_⟩) base ?_
  · intro w' hS
    obtain ⟨t0, t1, t2, t3, t4, t5, t6, t7, t8⟩ := hS
    go_simp
  try simp only [Act.put, List.setIfInBounds_toArray]
  refine wpAnyH_take (i := 1) (v := .slice (some ⟨b, off, none⟩) 2 cap) rfl (by kernel_rfl) (by kernel_rfl) (by kernel_rfl) (fun _ _ _ h => h) (Or.inl ⟨by rfl, ?_⟩) base ?_
  · intro w' hS
    obtain ⟨t0, t1, t2, t3, t4, t5, t6, t7, t8⟩ := hS
    go_simp
  try simp only [Act.put]
  refine wpAnyH_take (i := 2) (v := .pointer (some ⟨b, off, none⟩)) rfl (by kernel_rfl) (by kernel_rfl) (by kernel_rfl) (fun _ _ _ h => h) (Or.inl ⟨by rfl, ?_⟩) base ?_
  · intro w' hS
    obtain ⟨t0, t1, t2, t3, t4, t5, t6, t7, t8⟩ := hS
    go_simp
  try simp only [Act.put]
  refine wpAnyH_take (i := 3) (v := .agg #[.int .i64 k1, .int .u64 (b1 : Int)]) rfl (by kernel_rfl) (by kernel_rfl) (by kernel_rfl) (fun _ _ _ h => h) (Or.inl ⟨by rfl, ?_⟩) base ?_
  · intro w' hS
    obtain ⟨t0, t1, t2, t3, t4, t5, t6, t7, t8⟩ := hS
    go_simp
  try simp only [Act.put]
  refine wpAnyH_take (i := 5) (v := .slice (some ⟨b, off, none⟩) 2 cap) rfl (by kernel_rfl) (by kernel_rfl) (by kernel_rfl) (fun _ _ _ h => h) (Or.inl ⟨by rfl, ?_⟩) base ?_
  · intro w' hS
    obtain ⟨t0, t1, t2, t3, t4, t5, t6, t7, t8⟩ := hS
    go_simp
  try simp only [Act.put]
  refine wpAnyH_take (i := 6) (v := .pointer (some ⟨b, off + 2, none⟩)) rfl (by kernel_rfl) (by kernel_rfl) (by kernel_rfl) (fun _ _ _ h => h) (Or.inl ⟨by rfl, ?_⟩) base ?_
  · intro w' hS
    obtain ⟨t0, t1, t2, t3, t4, t5, t6, t7, t8⟩ := hS
    go_simp
  try simp only [Act.put]
  refine wpAnyH_take (i := 7) (v := .agg #[.int .i64 k2, .int .u64 (b2 : Int)]) rfl (by kernel_rfl) (by kernel_rfl) (by kernel_rfl) (fun _ _ _ h => h) (Or.inl ⟨by rfl, ?_⟩) base ?_
  · intro w' hS
    obtain ⟨t0, t1, t2, t3, t4, t5, t6, t7, t8⟩ := hS
    go_simp
  try simp only [Act.put]
  refine wpAnyH_ready (rs := [4]) (by kernel_rfl) (by simp) ?_
  refine AllReadyH.cons rfl (fun K hK => ?_) AllReadyH.nil
  go_simp
  go_wp2_with (go_at_call 24; refine (clean_any _ _ _ (by assumption)).mono ?_; rintro e w1 ⟨rfl, hb1⟩)
  have j1 := base.later hb1
  refine hK.out _ _ j1 (fun hHeld => ?_)
  clear hK K
  try simp only [Act.put]
  refine wpAnyH_ready (rs := [8]) (by kernel_rfl) (by simp) ?_
  refine AllReadyH.cons rfl (fun K hK => ?_) AllReadyH.nil
  go_simp
  go_wp2_with (go_at_call 24; refine (clean_any _ _ _ (by assumption)).mono ?_; rintro e w2 ⟨rfl, hb2⟩)
  have j2 := j1.later hb2
  refine hK.out _ _ j2 (fun hHeld => ?_)
  clear hK K
  try simp only [Act.put]
  refine wpAnyH_ready (rs := [9]) (by kernel_rfl) (by simp) ?_
  refine AllReadyH.cons rfl (fun K hK => ?_) AllReadyH.nil
  go_simp
  refine (HR.out _).mono ?_
  rintro e w3 ⟨rfl, hb3⟩
  exact ⟨rfl, rfl, j2.later hb3⟩
end Go.Proofs.Ytfjnphiegoogoaa

/- Row -/
namespace Go.Proofs.Ytfjnphiegoogoaa
open Go.ChangeShapes Go.WideShapes Go.ChangeAt Go.RowKit Go.Fl

/-- the operands lie where a literal list was made -/
theorem row_two {w : World} {g : Nat} {k1 k2 : Int} {b1 b2 : Nat} (h1 : b1 < 18446744073709551616) (h2 : b2 < 18446744073709551616)
    (c0 : w.cell? ⟨g, 0, none⟩ = some (.int .i64 k1)) (c1 : w.cell? ⟨g, 1, none⟩ = some (.int .u64 (b1 : Int))) (c2 : w.cell? ⟨g, 2, none⟩ = some (.int .i64 k2)) (c3 : w.cell? ⟨g, 3, none⟩ = some (.int .u64 (b2 : Int))) :
    RowV w (some ⟨g, 0, none⟩) 2 [(k1, b1), (k2, b2)] := by
  refine ⟨rfl, by simp; exact ⟨h1, h2⟩, fun _ => ⟨g, 0, rfl, fun i k c h => ?_⟩⟩
  match i, h with
  | 0, h => simp at h; obtain ⟨rfl, rfl⟩ := h; exact ⟨c0, c1⟩
  | 1, h => simp at h; obtain ⟨rfl, rfl⟩ := h; exact ⟨c2, c3⟩
theorem row_one {w : World} {g : Nat} {k1 : Int} {b1 : Nat} (h1 : b1 < 18446744073709551616)
    (c0 : w.cell? ⟨g, 0, none⟩ = some (.int .i64 k1)) (c1 : w.cell? ⟨g, 1, none⟩ = some (.int .u64 (b1 : Int))) :
    RowV w (some ⟨g, 0, none⟩) 1 [(k1, b1)] := by
  refine ⟨rfl, by simp; exact h1, fun _ => ⟨g, 0, rfl, fun i k c h => ?_⟩⟩
  match i, h with
  | 0, h => simp at h; obtain ⟨rfl, rfl⟩ := h; exact ⟨c0, c1⟩

end Go.Proofs.Ytfjnphiegoogoaa

/- AplI -/
namespace Go.Proofs.Ytfjnphiegoogoaa
open Go.ChangeShapes Go.WideShapes Go.ChangeAt Go.RowKit Go.Fl

/-- what a value of whole numbers reads as -/
def resK : Option Int → Int
  | none => 0
  | some _ => 1
def resB : Option Int → Int
  | none => 0
  | some z => IntKind.u64.wrap z

/-- two whole numbers: the operator answers -/
theorem two_int (op x y z : Int) (w : World) (h1 : 1 ≤ op) (h5 : op ≤ 5) (hx : I64 x) (hy : I64 y) (hz : ansI op x y = some z) (p q : Int) (hp : wrap64 p = x) (hq : wrap64 q = y) :
    Calls Try.prog 25 #[.int .i64 op, .agg #[.int .i64 1, .int .u64 p], .agg #[.int .i64 1, .int .u64 q]] w fun e w' => e = .returned (.agg #[.int .i64 1, .int .u64 (IntKind.u64.wrap z)]) ∧ Below w.heap.size w w' := by
  have Z := Lib.hid (fun w => two_any op 1 w)
  rw [show r2P op 1 = 1 by unfold r2P; (repeat' split) <;> omega] at Z
  have R := Lib.hid (fun w => reckon_any op x y w hx hy (some z) hz)
  have f13 : (op == 13) = false := by rw [beq_eq_false_iff_ne]; omega
  have f14 : (op == 14) = false := by rw [beq_eq_false_iff_ne]; omega
  clear h1 h5 hx hy hz
  go_enter Try.func25, Try.ntmps25
  go_wp2_with (first | (go_at_call 48; refine (Z.out _).mono ?_; rintro e w' ⟨rfl, rfl⟩) | (go_at_call 50; refine (R.out _).mono ?_; rintro e w' ⟨rfl, rfl⟩; unfold endI))
  refine (ofint_v _ _).mono ?_; rintro e w1 ⟨rfl, hb1⟩
  obtain ⟨hc, hf⟩ := bcell hb1
  obtain ⟨_, q1, q2⟩ := put2 (w := w1) (g := w.heap.size + 1 + 1) (.int .i64 1) (.int .u64 (IntKind.u64.wrap z)) (x := .int .i64 0) (y := .int .u64 0) (by rw [hc _ _ (by simp)]; simp [go_sem]) (by rw [hc _ _ (by simp)]; simp [go_sem])
  go_wp2
  exact bodyPost_ret (v := .agg #[.int .i64 1, .int .u64 (IntKind.u64.wrap z)]) (by simp [results, Try.results25, go_sem, q1, q2]) rfl ⟨rfl, ((below_more (below3 w _ _ _) hb1).setCell (by show w.heap.size ≤ w.heap.size + 1 + 1; omega) _).setCell (by show w.heap.size ≤ w.heap.size + 1 + 1; omega) _⟩

/-- two whole numbers: the operator gives up -/
theorem two_int_gone (op x y : Int) (w : World) (h1 : 1 ≤ op) (h5 : op ≤ 5) (hx : I64 x) (hy : I64 y) (hz : ansI op x y = none) (p q : Int) (hp : wrap64 p = x) (hq : wrap64 q = y) :
    Calls Try.prog 25 #[.int .i64 op, .agg #[.int .i64 1, .int .u64 p], .agg #[.int .i64 1, .int .u64 q]] w fun e w' => e = .panicked [outP] ∧ Below w.heap.size w w' := by
  have Z := Lib.hid (fun w => two_any op 1 w)
  rw [show r2P op 1 = 1 by unfold r2P; (repeat' split) <;> omega] at Z
  have R := Lib.hid (fun w => reckon_any op x y w hx hy none hz)
  have f13 : (op == 13) = false := by rw [beq_eq_false_iff_ne]; omega
  have f14 : (op == 14) = false := by rw [beq_eq_false_iff_ne]; omega
  clear h1 h5 hx hy hz
  go_enter Try.func25, Try.ntmps25
  go_wp2_with (first | (go_at_call 48; refine (Z.out _).mono ?_; rintro e w' ⟨rfl, rfl⟩) | (go_at_call 50; refine (R.out _).mono ?_; rintro e w' ⟨rfl, rfl⟩; unfold endI))
  exact ⟨rfl, rfl, below3 w _ _ _⟩

theorem w64 (b : Nat) : I64 (wrap64 (b : Int)) := by unfold I64 wrap64; omega

/-- Apply of two whole numbers at an operator that reckons -/
theorem apply_int (op : Int) (A : Option Addr) (cap : Nat) (b1 b2 : Nat) (w : World) (hv : RowV w A 2 [(1, b1), (1, b2)]) (h1 : 1 ≤ op) (h5 : op ≤ 5) :
    Calls Try.prog 15 #[.int .i64 op, .slice A 2 cap] w fun e w' => e = .returned (.agg #[.int .i64 (resK (ansI op (wrap64 b1) (wrap64 b2))), .int .u64 (resB (ansI op (wrap64 b1) (wrap64 b2)))]) ∧ Below w.heap.size w w' := by
  cases hz : ansI op (wrap64 b1) (wrap64 b2) with
  | none => exact apply_two_gone op A cap 1 1 b1 b2 w hv fun w => two_int_gone op _ _ w h1 h5 (w64 b1) (w64 b2) hz _ _ rfl rfl
  | some z => exact apply_two op A cap 1 1 b1 b2 1 _ w hv fun w => two_int op _ _ z w h1 h5 (w64 b1) (w64 b2) hz _ _ rfl rfl

/-- the bits of a whole number -/
def nb (n : Int) : Nat := (n % 18446744073709551616).toNat
theorem nb_eq (n : Int) : ((nb n : Nat) : Int) = IntKind.u64.wrap n := by rw [IntKind.wrap_u64]; unfold nb; omega
theorem nb_lt (n : Int) : nb n < 18446744073709551616 := by unfold nb; omega
theorem w64_nb (n : Int) (h : I64 n) : wrap64 ((nb n : Nat) : Int) = n := by unfold I64 at h; unfold nb wrap64; omega
theorem nb_inj (a b : Int) (ha : I64 a) (hb : I64 b) (h : nb a = nb b) : a = b := by unfold I64 at ha hb; unfold nb at h; omega
def resN : Option Int → Nat
  | none => 0
  | some z => nb z
theorem resN_eq (z : Option Int) : ((resN z : Nat) : Int) = resB z := by cases z with | none => rfl | some z => exact nb_eq z
theorem resN_lt (z : Option Int) : resN z < 18446744073709551616 := by cases z with | none => decide | some z => exact nb_lt z

theorem keepF {w0 w w1 : World} {a0 a1 a2 a3 : Addr} {v0 v1 v2 v3 : Value} (hb : Below w.heap.size w w1) (h : w.cell? a0 = some v0 ∧ w.cell? a1 = some v1 ∧ w.cell? a2 = some v2 ∧ w.cell? a3 = some v3 ∧ Below w0.heap.size w0 w) :
    w1.cell? a0 = some v0 ∧ w1.cell? a1 = some v1 ∧ w1.cell? a2 = some v2 ∧ w1.cell? a3 = some v3 ∧ Below w0.heap.size w0 w1 :=
  ⟨cell_later hb h.1, cell_later hb h.2.1, cell_later hb h.2.2.1, cell_later hb h.2.2.2.1, h.2.2.2.2.trans (hb.mono h.2.2.2.2.size)⟩

end Go.Proofs.Ytfjnphiegoogoaa

/- Tri -/
namespace Go.Proofs.Ytfjnphiegoogoaa
open Go.ChangeShapes Go.WideShapes Go.ChangeAt Go.RowKit Go.Fl

def tri (k : Int) (b : Nat) : Nat := if clK k b = 2 then (if clB k b = 0 then 0 else 1) else 2
def tvK (n : Nat) : Int := if n = 2 then 0 else 2
def tvB (n : Nat) : Nat := if n = 1 then 1 else 0
def bt (t x y : Nat) : Nat := if x = t ∨ y = t then t else if x = 2 ∨ y = 2 then 2 else x
def nt (x : Nat) : Nat := if x = 2 then 2 else 1 - x

theorem tri_lt (k : Int) (b : Nat) : tri k b < 3 := by unfold tri; (repeat' split) <;> omega
theorem bt_lt (t x y : Nat) (ht : t < 3) (hx : x < 3) : bt t x y < 3 := by unfold bt; (repeat' split) <;> omega
theorem nt_lt (x : Nat) : nt x < 3 := by unfold nt; split <;> omega
theorem tvB_lt (n : Nat) : tvB n < 18446744073709551616 := by unfold tvB; split <;> omega
theorem tri_tv (n : Nat) (h : n < 3) : tri (tvK n) (tvB n) = n := by
  match n, h with
  | 0, _ => decide
  | 1, _ => decide
  | 2, _ => decide

theorem cl_tri (k : Int) (b : Nat) (h : clK k b = 2) : clB k b = tvB (tri k b) ∧ tri k b < 2 := by
  have h2 : clB k b ≤ 1 := by
    unfold clK at h
    split at h
    · subst h; unfold clB; (repeat' split) <;> omega
    · omega
  unfold tri tvB
  rw [if_pos h]
  (repeat' split) <;> omega

theorem bo_tri (t : Nat) (ht : t < 2) (k : Int) (b : Nat) (l : Int) (c : Nat) :
    boK (clK k b) (clB k b) (clK l c) (clB l c) t = tvK (bt t (tri k b) (tri l c)) ∧ boB (clK k b) (clB k b) (clK l c) (clB l c) t = ((tvB (bt t (tri k b) (tri l c)) : Nat) : Int) := by
  have h1 := cl_tri k b
  have h2 := cl_tri l c
  have n1 : clK k b ≠ 2 → tri k b = 2 := fun h => by unfold tri; rw [if_neg h]
  have n2 : clK l c ≠ 2 → tri l c = 2 := fun h => by unfold tri; rw [if_neg h]
  generalize tri k b = x at *
  generalize tri l c = y at *
  generalize clK k b = p at *
  generalize clB k b = q at *
  generalize clK l c = r at *
  generalize clB l c = s at *
  unfold boK boB tvK tvB bt at *
  by_cases c1 : p = 2 <;> by_cases c2 : r = 2
  · obtain ⟨a1, a2⟩ := h1 c1
    obtain ⟨a3, a4⟩ := h2 c2
    subst c1 c2 a1 a3
    constructor <;> ((repeat' split) <;> omega)
  · obtain ⟨a1, a2⟩ := h1 c1
    have a3 := n2 c2
    subst c1 a1 a3
    constructor <;> ((repeat' split) <;> omega)
  · have a1 := n1 c1
    obtain ⟨a3, a4⟩ := h2 c2
    subst c2 a1 a3
    constructor <;> ((repeat' split) <;> omega)
  · have a1 := n1 c1
    have a3 := n2 c2
    subst a1 a3
    constructor <;> ((repeat' split) <;> omega)

/-- NOT of one value -/
theorem one_not (k : Int) (b : Nat) (w : World) :
    Calls Try.prog 23 #[.int .i64 15, .agg #[.int .i64 (clK k b), .int .u64 ((clB k b : Nat) : Int)]] w fun e w' => e = .returned (.agg #[.int .i64 (tvK (nt (tri k b))), .int .u64 ((tvB (nt (tri k b)) : Nat) : Int)]) ∧ Below w.heap.size w w' := by
  have h1 := cl_tri k b
  have n1 : clK k b ≠ 2 → tri k b = 2 := fun h => by unfold tri; rw [if_neg h]
  generalize tri k b = x at *
  generalize clK k b = p at *
  generalize clB k b = q at *
  by_cases c1 : p = 2
  · obtain ⟨a1, a2⟩ := h1 c1
    subst c1 a1
    have Z := Lib.hid (fun w => one_any 15 2 w)
    rw [show r1P 15 2 = 2 by decide] at Z
    have hx : x = 0 ∨ x = 1 := by omega
    clear h1 n1 a2
    rcases hx with rfl | rfl
    · rw [show tvB 0 = 0 by decide, show tvK (nt 0) = 2 by decide, show tvB (nt 0) = 1 by decide]
      go_enter Try.func23, Try.ntmps23
      go_wp2_with (go_at_call 38; refine (Z.out _).mono ?_; rintro e w' ⟨rfl, rfl⟩)
      refine (ofbool_t _).mono ?_; rintro e w1 ⟨rfl, hb1⟩
      obtain ⟨hc, hf⟩ := bcell hb1
      obtain ⟨_, q1, q2⟩ := put2 (w := w1) (g := w.heap.size + 1) (.int .i64 2) (.int .u64 1) (x := .int .i64 0) (y := .int .u64 0) (by rw [hc _ _ (by simp)]; simp [go_sem]) (by rw [hc _ _ (by simp)]; simp [go_sem])
      go_wp2
      exact bodyPost_ret (v := .agg #[.int .i64 2, .int .u64 1]) (by simp [results, Try.results23, go_sem, q1, q2]) rfl ⟨rfl, ((below_more (below2 w _ _) hb1).setCell (by show w.heap.size ≤ w.heap.size + 1; omega) _).setCell (by show w.heap.size ≤ w.heap.size + 1; omega) _⟩
    · rw [show tvB 1 = 1 by decide, show tvK (nt 1) = 2 by decide, show tvB (nt 1) = 0 by decide]
      go_enter Try.func23, Try.ntmps23
      go_wp2_with (go_at_call 38; refine (Z.out _).mono ?_; rintro e w' ⟨rfl, rfl⟩)
      refine (ofbool_f _).mono ?_; rintro e w1 ⟨rfl, hb1⟩
      obtain ⟨hc, hf⟩ := bcell hb1
      obtain ⟨_, q1, q2⟩ := put2 (w := w1) (g := w.heap.size + 1) (.int .i64 2) (.int .u64 0) (x := .int .i64 0) (y := .int .u64 0) (by rw [hc _ _ (by simp)]; simp [go_sem]) (by rw [hc _ _ (by simp)]; simp [go_sem])
      go_wp2
      exact bodyPost_ret (v := .agg #[.int .i64 2, .int .u64 0]) (by simp [results, Try.results23, go_sem, q1, q2]) rfl ⟨rfl, ((below_more (below2 w _ _) hb1).setCell (by show w.heap.size ≤ w.heap.size + 1; omega) _).setCell (by show w.heap.size ≤ w.heap.size + 1; omega) _⟩
  · obtain rfl := n1 c1
    have Z := Lib.hid (fun w => one_any 15 p w)
    rw [show r1P 15 p = 0 by unfold r1P; (repeat' split) <;> omega] at Z
    clear h1 n1 c1
    rw [show tvK (nt 2) = 0 by decide, show tvB (nt 2) = 0 by decide]
    go_enter Try.func23, Try.ntmps23
    go_wp2_with (go_at_call 38; refine (Z.out _).mono ?_; rintro e w' ⟨rfl, rfl⟩)
    exact bodyPost_ret (v := .agg #[.int .i64 0, .int .u64 0]) (by simp [results, Try.results23, go_sem]) rfl ⟨rfl, below2 _ _ _⟩

end Go.Proofs.Ytfjnphiegoogoaa

/- Una -/
namespace Go.Proofs.Ytfjnphiegoogoaa
open Go.ChangeShapes Go.WideShapes Go.ChangeAt Go.RowKit Go.Fl

theorem one_none (op k : Int) (b : Int) (w : World) (h : r1P op k = 0) :
    Calls Try.prog 23 #[.int .i64 op, .agg #[.int .i64 k, .int .u64 b]] w fun e w' => e = .returned (.agg #[.int .i64 0, .int .u64 0]) ∧ Below w.heap.size w w' := by
  have Z := Lib.hid (fun w => one_any op k w)
  rw [h] at Z
  clear h
  go_enter Try.func23, Try.ntmps23
  go_wp2_with (go_at_call 38; refine (Z.out _).mono ?_; rintro e w' ⟨rfl, rfl⟩)
  exact bodyPost_ret (v := .agg #[.int .i64 0, .int .u64 0]) (by simp [results, Try.results23, go_sem]) rfl ⟨rfl, below2 _ _ _⟩

theorem one_minus (b x : Int) (w : World) (hx : wrap64 b = x) (h64 : I64 x) (z : Int) (hz : chk (0 - x) = some z) :
    Calls Try.prog 23 #[.int .i64 6, .agg #[.int .i64 1, .int .u64 b]] w fun e w' => e = .returned (.agg #[.int .i64 1, .int .u64 (IntKind.u64.wrap z)]) ∧ Below w.heap.size w w' := by
  have Z := Lib.hid (fun w => one_any 6 1 w)
  rw [show r1P 6 1 = 1 by decide] at Z
  have R := Lib.hid (fun w => minus_any 0 x w (by decide) h64)
  rw [hz] at R
  clear h64 hz
  go_enter Try.func23, Try.ntmps23
  go_wp2_with (first | (go_at_call 38; refine (Z.out _).mono ?_; rintro e w' ⟨rfl, rfl⟩) | (go_at_call 45; refine (R.out _).mono ?_; rintro e w' ⟨rfl, rfl⟩; unfold endI))
  refine (ofint_v _ _).mono ?_; rintro e w1 ⟨rfl, hb1⟩
  obtain ⟨hc, hf⟩ := bcell hb1
  obtain ⟨_, q1, q2⟩ := put2 (w := w1) (g := w.heap.size + 1) (.int .i64 1) (.int .u64 (IntKind.u64.wrap z)) (x := .int .i64 0) (y := .int .u64 0) (by rw [hc _ _ (by simp)]; simp [go_sem]) (by rw [hc _ _ (by simp)]; simp [go_sem])
  go_wp2
  exact bodyPost_ret (v := .agg #[.int .i64 1, .int .u64 (IntKind.u64.wrap z)]) (by simp [results, Try.results23, go_sem, q1, q2]) rfl ⟨rfl, ((below_more (below2 w _ _) hb1).setCell (by show w.heap.size ≤ w.heap.size + 1; omega) _).setCell (by show w.heap.size ≤ w.heap.size + 1; omega) _⟩

theorem one_minus_gone (b x : Int) (w : World) (hx : wrap64 b = x) (h64 : I64 x) (hz : chk (0 - x) = none) :
    Calls Try.prog 23 #[.int .i64 6, .agg #[.int .i64 1, .int .u64 b]] w fun e w' => e = .panicked [outP] ∧ Below w.heap.size w w' := by
  have Z := Lib.hid (fun w => one_any 6 1 w)
  rw [show r1P 6 1 = 1 by decide] at Z
  have R := Lib.hid (fun w => minus_any 0 x w (by decide) h64)
  rw [hz] at R
  clear h64 hz
  go_enter Try.func23, Try.ntmps23
  go_wp2_with (first | (go_at_call 38; refine (Z.out _).mono ?_; rintro e w' ⟨rfl, rfl⟩) | (go_at_call 45; refine (R.out _).mono ?_; rintro e w' ⟨rfl, rfl⟩; unfold endI))
  exact ⟨rfl, rfl, below2 w _ _⟩

theorem one_negr (b : Nat) (w : World) (hb : b < 18446744073709551616) :
    Calls Try.prog 23 #[.int .i64 6, .agg #[.int .i64 4, .int .u64 (b : Int)]] w fun e w' => e = .returned (.agg #[.int .i64 4, .int .u64 ((ngP b : Nat) : Int)]) ∧ Below w.heap.size w w' := by
  have Z := Lib.hid (fun w => one_any 6 4 w)
  rw [show r1P 6 4 = 4 by decide] at Z
  have R := Lib.hid (fun w => neg_any b w hb)
  generalize ngP b = r at *
  clear hb
  go_enter Try.func23, Try.ntmps23
  go_wp2_with (first | (go_at_call 38; refine (Z.out _).mono ?_; rintro e w' ⟨rfl, rfl⟩) | (go_at_call 43; refine (R.out _).mono ?_; rintro e w' ⟨rfl, rfl⟩))
  refine (ofreal_v _ _).mono ?_; rintro e w1 ⟨rfl, hb1⟩
  obtain ⟨hc, hf⟩ := bcell hb1
  obtain ⟨_, q1, q2⟩ := put2 (w := w1) (g := w.heap.size + 1) (.int .i64 4) (.int .u64 ((r : Nat) : Int)) (x := .int .i64 0) (y := .int .u64 0) (by rw [hc _ _ (by simp)]; simp [go_sem]) (by rw [hc _ _ (by simp)]; simp [go_sem])
  go_wp2
  exact bodyPost_ret (v := .agg #[.int .i64 4, .int .u64 ((r : Nat) : Int)]) (by simp [results, Try.results23, go_sem, q1, q2]) rfl ⟨rfl, ((below_more (below2 w _ _) hb1).setCell (by show w.heap.size ≤ w.heap.size + 1; omega) _).setCell (by show w.heap.size ≤ w.heap.size + 1; omega) _⟩

theorem one_real (b x : Int) (w : World) (hx : wrap64 b = x) (h64 : I64 x) :
    Calls Try.prog 23 #[.int .i64 16, .agg #[.int .i64 1, .int .u64 b]] w fun e w' => e = .returned (.agg #[.int .i64 4, .int .u64 ((ofI x : Nat) : Int)]) ∧ Below w.heap.size w w' := by
  have Z := Lib.hid (fun w => one_any 16 1 w)
  rw [show r1P 16 1 = 4 by decide] at Z
  have R := Lib.hid (fun w => ofint_any x w h64.1 h64.2)
  clear h64
  generalize ofI x = r at *
  go_enter Try.func23, Try.ntmps23
  go_wp2_with (first | (go_at_call 38; refine (Z.out _).mono ?_; rintro e w' ⟨rfl, rfl⟩) | (go_at_call 41; refine (R.out _).mono ?_; rintro e w' ⟨rfl, rfl⟩))
  refine (ofreal_v _ _).mono ?_; rintro e w1 ⟨rfl, hb1⟩
  obtain ⟨hc, hf⟩ := bcell hb1
  obtain ⟨_, q1, q2⟩ := put2 (w := w1) (g := w.heap.size + 1) (.int .i64 4) (.int .u64 ((r : Nat) : Int)) (x := .int .i64 0) (y := .int .u64 0) (by rw [hc _ _ (by simp)]; simp [go_sem]) (by rw [hc _ _ (by simp)]; simp [go_sem])
  go_wp2
  exact bodyPost_ret (v := .agg #[.int .i64 4, .int .u64 ((r : Nat) : Int)]) (by simp [results, Try.results23, go_sem, q1, q2]) rfl ⟨rfl, ((below_more (below2 w _ _) hb1).setCell (by show w.heap.size ≤ w.heap.size + 1; omega) _).setCell (by show w.heap.size ≤ w.heap.size + 1; omega) _⟩

theorem one_nan (b : Nat) (w : World) :
    Calls Try.prog 23 #[.int .i64 17, .agg #[.int .i64 4, .int .u64 (b : Int)]] w fun e w' => e = .returned (.agg #[.int .i64 2, .int .u64 ((b2n (!eqB b b) : Nat) : Int)]) ∧ Below w.heap.size w w' := by
  have Z := Lib.hid (fun w => one_any 17 4 w)
  rw [show r1P 17 4 = 2 by decide] at Z
  have R := Lib.hid (fun w => equal_any b b w)
  generalize eqB b b = r at *
  go_enter Try.func23, Try.ntmps23
  go_wp2_with (first | (go_at_call 38; refine (Z.out _).mono ?_; rintro e w' ⟨rfl, rfl⟩) | (go_at_call 42; refine (R.out _).mono ?_; rintro e w' ⟨rfl, rfl⟩))
  refine (ofbool_v (!r) _).mono ?_; rintro e w1 ⟨rfl, hb1⟩
  obtain ⟨hc, hf⟩ := bcell hb1
  rw [show tB (!r) = ((b2n (!r) : Nat) : Int) by cases r <;> rfl]
  obtain ⟨_, q1, q2⟩ := put2 (w := w1) (g := w.heap.size + 1) (.int .i64 2) (.int .u64 ((b2n (!r) : Nat) : Int)) (x := .int .i64 0) (y := .int .u64 0) (by rw [hc _ _ (by simp)]; simp [go_sem]) (by rw [hc _ _ (by simp)]; simp [go_sem])
  go_wp2
  exact bodyPost_ret (v := .agg #[.int .i64 2, .int .u64 ((b2n (!r) : Nat) : Int)]) (by simp [results, Try.results23, go_sem, q1, q2]) rfl ⟨rfl, ((below_more (below2 w _ _) hb1).setCell (by show w.heap.size ≤ w.heap.size + 1; omega) _).setCell (by show w.heap.size ≤ w.heap.size + 1; omega) _⟩

/-! ### Apply as one plain function -/

theorem resB_eq (z : Option Int) : resB z = ((resN z : Nat) : Int) := (resN_eq z).symm
def pairI (z : Option Int) : Int × Nat := (resK z, resN z)

def bo2 (t : Nat) (k : Int) (b : Nat) (l : Int) (c : Nat) : Int × Nat := if (k = 2 ∧ b = t) ∨ (l = 2 ∧ c = t) then (2, t) else if k ≠ 2 ∨ l ≠ 2 then (0, 0) else (k, b)
theorem bo2_eq (t : Nat) (k : Int) (b : Nat) (l : Int) (c : Nat) : boK k b l c t = (bo2 t k b l c).1 ∧ boB k b l c t = (((bo2 t k b l c).2 : Nat) : Int) := by
  unfold boK boB bo2
  refine ⟨?_, ?_⟩ <;> (repeat' split) <;> first | rfl | (exfalso; omega)

/-- of two values that count as (k, b), (l, c) -/
def appTwo (op k : Int) (b : Nat) (l : Int) (c : Nat) : Int × Nat :=
  if op = 13 then bo2 0 k b l c else if op = 14 then bo2 1 k b l c else if k ≠ l ∨ r2P op k = 0 then (0, 0)
  else if r2P op k = 2 then (2, b2n (cmpB op k b c)) else if k = 1 then pairI (ansI op (wrap64 (b : Int)) (wrap64 (c : Int))) else (4, ansR op b c)
/-- of one value that counts as (k, b) -/
def appOne (op k : Int) (b : Nat) : Int × Nat :=
  if op = 15 ∧ k = 2 then (2, if b = 0 then 1 else 0) else if op = 6 ∧ k = 1 then pairI (chk (0 - wrap64 (b : Int))) else if op = 6 ∧ k = 4 then (4, ngP b)
  else if op = 16 ∧ k = 1 then (4, ofI (wrap64 (b : Int))) else if op = 17 ∧ k = 4 then (2, b2n (!eqB b b)) else (0, 0)
def appP (op : Int) (vs : List (Int × Nat)) : Int × Nat :=
  match vs with
  | [a] => appOne op (clK a.1 a.2) (clB a.1 a.2)
  | [a, b] => appTwo op (clK a.1 a.2) (clB a.1 a.2) (clK b.1 b.2) (clB b.1 b.2)
  | _ => (0, 0)

theorem two_poison (op k b l c : Int) (w : World) (h13 : op ≠ 13) (h14 : op ≠ 14) (hk : k ≠ l ∨ r2P op k = 0) :
    Calls Try.prog 25 #[.int .i64 op, .agg #[.int .i64 k, .int .u64 b], .agg #[.int .i64 l, .int .u64 c]] w fun e w' => e = .returned (.agg #[.int .i64 0, .int .u64 0]) ∧ Below w.heap.size w w' := by
  by_cases e : k = l
  · subst e
    have hz : r2P op k = 0 := hk.resolve_left (fun h => h rfl)
    have f13 : (op == 13) = false := by simpa using h13
    have f14 : (op == 14) = false := by simpa using h14
    have Z := Lib.hid (fun w => two_any op k w)
    rw [hz] at Z
    have f : (k != k) = false := by simp
    clear h13 h14 hk hz
    go_enter Try.func25, Try.ntmps25
    go_wp2_with (go_at_call 48; refine (Z.out _).mono ?_; rintro e w' ⟨rfl, rfl⟩)
    exact bodyPost_ret (v := .agg #[.int .i64 0, .int .u64 0]) (by simp [results, Try.results25, go_sem]) rfl ⟨rfl, below3 _ _ _ _⟩
  · exact two_unlike op k b l c w h13 h14 (.inl e)

theorem clB_lt2 (k : Int) {b : Nat} (hb : b < 18446744073709551616) : clB k b < 18446744073709551616 := by
  have := cn_lt hb
  unfold clB; (repeat' split) <;> omega

/-- how Apply of two ends, by what applyToTwo does -/
theorem apply_two_any (op : Int) (A : Option Addr) (cap : Nat) (k1 k2 : Int) (b1 b2 : Nat) (w : World) (hv : RowV w A 2 [(k1, b1), (k2, b2)]) :
    Calls Try.prog 15 #[.int .i64 op, .slice A 2 cap] w fun e w' => e = .returned (.agg #[.int .i64 (appP op [(k1, b1), (k2, b2)]).1, .int .u64 (((appP op [(k1, b1), (k2, b2)]).2 : Nat) : Int)]) ∧ Below w.heap.size w w' := by
  show Calls _ _ _ _ fun e w' => e = .returned (.agg #[.int .i64 (appTwo op (clK k1 b1) (clB k1 b1) (clK k2 b2) (clB k2 b2)).1, .int .u64 (((appTwo op (clK k1 b1) (clB k1 b1) (clK k2 b2) (clB k2 b2)).2 : Nat) : Int)]) ∧ _
  unfold appTwo
  by_cases h13 : op = 13
  · rw [if_pos h13]; subst h13
    rw [← (bo2_eq 0 _ _ _ _).1, ← (bo2_eq 0 _ _ _ _).2]
    exact apply_two 13 A cap k1 k2 b1 b2 _ _ w hv fun w => two_and _ _ _ _ w
  rw [if_neg h13]
  by_cases h14 : op = 14
  · rw [if_pos h14]; subst h14
    rw [← (bo2_eq 1 _ _ _ _).1, ← (bo2_eq 1 _ _ _ _).2]
    exact apply_two 14 A cap k1 k2 b1 b2 _ _ w hv fun w => two_or _ _ _ _ w
  rw [if_neg h14]
  by_cases hp : clK k1 b1 ≠ clK k2 b2 ∨ r2P op (clK k1 b1) = 0
  · rw [if_pos hp]
    exact apply_two op A cap k1 k2 b1 b2 _ _ w hv fun w => two_poison op _ _ _ _ w h13 h14 hp
  rw [if_neg hp]
  have hk : clK k1 b1 = clK k2 b2 := by omega
  have hr : r2P op (clK k1 b1) ≠ 0 := by omega
  by_cases h2 : r2P op (clK k1 b1) = 2
  · rw [if_pos h2]
    refine apply_two op A cap k1 k2 b1 b2 _ _ w hv fun w => ?_
    rw [← hk]
    exact two_cmp op _ _ _ w h2 h13 h14
  rw [if_neg h2]
  by_cases h1 : clK k1 b1 = 1
  · rw [if_pos h1]
    have ho : 1 ≤ op ∧ op ≤ 5 := by
      rw [h1] at hr h2
      unfold r2P at hr h2
      by_cases c : (1 ≤ op ∧ op ≤ 4 ∧ ((1 : Int) = 1 ∨ (1 : Int) = 4)) ∨ (op = 5 ∧ (1 : Int) = 1)
      · omega
      · rw [if_neg c] at hr h2
        split at hr
        · rw [if_pos (by assumption)] at h2; exact absurd rfl h2
        · exact absurd rfl hr
    unfold pairI
    cases hz : ansI op (wrap64 ((clB k1 b1 : Nat) : Int)) (wrap64 ((clB k2 b2 : Nat) : Int)) with
    | none =>
      refine apply_two_gone op A cap k1 k2 b1 b2 w hv fun w => ?_
      rw [← hk, h1]
      exact two_int_gone op _ _ w ho.1 ho.2 (w64 _) (w64 _) hz _ _ rfl rfl
    | some z =>
      refine apply_two op A cap k1 k2 b1 b2 _ _ w hv fun w => ?_
      rw [← hk, h1]
      rw [← resB_eq]
      exact two_int op _ _ z w ho.1 ho.2 (w64 _) (w64 _) hz _ _ rfl rfl
  rw [if_neg h1]
  have h4 : clK k1 b1 = 4 ∧ 1 ≤ op ∧ op ≤ 4 := by
    generalize clK k1 b1 = k at *
    unfold r2P at hr h2
    split at hr
    · omega
    · rename_i c
      rw [if_neg c] at h2
      split at hr
      · rw [if_pos (by assumption)] at h2; exact absurd rfl h2
      · exact absurd rfl hr
  refine apply_two op A cap k1 k2 b1 b2 _ _ w hv fun w => ?_
  rw [← hk, h4.1]
  exact two_real op _ _ w h4.2.1 h4.2.2

theorem apply_one_any (op : Int) (A : Option Addr) (cap : Nat) (k1 : Int) (b1 : Nat) (w : World) (hv : RowV w A 1 [(k1, b1)]) :
    Calls Try.prog 15 #[.int .i64 op, .slice A 1 cap] w fun e w' => e = .returned (.agg #[.int .i64 (appP op [(k1, b1)]).1, .int .u64 (((appP op [(k1, b1)]).2 : Nat) : Int)]) ∧ Below w.heap.size w w' := by
  have hlt : b1 < 18446744073709551616 := hv.2.1 (k1, b1) (by simp)
  show Calls _ _ _ _ fun e w' => e = .returned (.agg #[.int .i64 (appOne op (clK k1 b1) (clB k1 b1)).1, .int .u64 (((appOne op (clK k1 b1) (clB k1 b1)).2 : Nat) : Int)]) ∧ _
  unfold appOne
  by_cases c1 : op = 15 ∧ clK k1 b1 = 2
  · rw [if_pos c1]
    obtain ⟨rfl, hk⟩ := c1
    have ht := cl_tri k1 b1 hk
    refine apply_one 15 A cap k1 b1 _ _ w hv fun w => ?_
    have hn := one_not k1 b1 w
    rw [show tvK (nt (tri k1 b1)) = 2 by have := ht.2; unfold nt tvK; (repeat' split) <;> omega, show tvB (nt (tri k1 b1)) = (if clB k1 b1 = 0 then 1 else 0) by
      have := ht.2; rw [ht.1]; unfold nt tvB; (repeat' split) <;> omega] at hn
    exact hn
  rw [if_neg c1]
  by_cases c2 : op = 6 ∧ clK k1 b1 = 1
  · rw [if_pos c2]
    obtain ⟨rfl, hk⟩ := c2
    unfold pairI
    cases hz : chk (0 - wrap64 ((clB k1 b1 : Nat) : Int)) with
    | none =>
      refine apply_one_gone 6 A cap k1 b1 w hv fun w => ?_
      rw [hk]
      exact one_minus_gone _ _ w rfl (w64 _) hz
    | some z =>
      refine apply_one 6 A cap k1 b1 _ _ w hv fun w => ?_
      rw [hk, ← resB_eq]
      exact one_minus _ _ w rfl (w64 _) z hz
  rw [if_neg c2]
  by_cases c3 : op = 6 ∧ clK k1 b1 = 4
  · rw [if_pos c3]
    obtain ⟨rfl, hk⟩ := c3
    refine apply_one 6 A cap k1 b1 _ _ w hv fun w => ?_
    rw [hk]
    exact one_negr _ w (clB_lt2 _ hlt)
  rw [if_neg c3]
  by_cases c4 : op = 16 ∧ clK k1 b1 = 1
  · rw [if_pos c4]
    obtain ⟨rfl, hk⟩ := c4
    refine apply_one 16 A cap k1 b1 _ _ w hv fun w => ?_
    rw [hk]
    exact one_real _ _ w rfl (w64 _)
  rw [if_neg c4]
  by_cases c5 : op = 17 ∧ clK k1 b1 = 4
  · rw [if_pos c5]
    obtain ⟨rfl, hk⟩ := c5
    refine apply_one 17 A cap k1 b1 _ _ w hv fun w => ?_
    rw [hk]
    exact one_nan _ w
  rw [if_neg c5]
  refine apply_one op A cap k1 b1 _ _ w hv fun w => ?_
  exact one_none op _ _ w (by unfold r1P; (repeat' split) <;> omega)

theorem apply_any (op : Int) (A : Option Addr) (n cap : Nat) (vs : List (Int × Nat)) (w : World) (hv : RowV w A n vs) :
    Calls Try.prog 15 #[.int .i64 op, .slice A n cap] w fun e w' => e = .returned (.agg #[.int .i64 (appP op vs).1, .int .u64 (((appP op vs).2 : Nat) : Int)]) ∧ Below w.heap.size w w' := by
  obtain rfl : vs.length = n := hv.1
  match vs, hv with
  | [], hv => exact apply_none op A 0 cap w (by decide) (by decide)
  | [a], hv => exact apply_one_any op A cap a.1 a.2 w hv
  | [a, b], hv => exact apply_two_any op A cap a.1 b.1 a.2 b.2 w hv
  | a :: b :: c :: ds, hv => exact apply_none op A _ cap w (by simp) (by simp)

end Go.Proofs.Ytfjnphiegoogoaa
