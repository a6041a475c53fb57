/- Apply of two whole numbers at the five operators that reckon, and of one at the sign, as contracts. -/
import Derived.Test.YtfjnphiegoogoaaApl
import Derived.Test.YtfjnphiegoogoaaStrict
import Derived.Test.YtfjnphiegoogoaaRow
namespace Go.Proofs.Ytfjnphiegoogoaa
open Go.ChangeShapes Go.WideShapes Go.ChangeAt Go.RowKit Go.Fl

/-- what a value of whole numbers reads as -/
def resK : Option Int → Int
  | none => 0
  | some _ => 1
def resB : Option Int → Int
  | none => 0
  | some z => IntKind.u64.wrap z

/-- two whole numbers: the operator answers -/
theorem two_int (op x y z : Int) (w : World) (h1 : 1 ≤ op) (h5 : op ≤ 5) (hx : I64 x) (hy : I64 y) (hz : ansI op x y = some z) (p q : Int) (hp : wrap64 p = x) (hq : wrap64 q = y) :
    Calls Try.prog 25 #[.int .i64 op, .agg #[.int .i64 1, .int .u64 p], .agg #[.int .i64 1, .int .u64 q]] w fun e w' => e = .returned (.agg #[.int .i64 1, .int .u64 (IntKind.u64.wrap z)]) ∧ Below w.heap.size w w' := by
  have Z := Lib.hid (fun w => two_any op 1 w)
  rw [show r2P op 1 = 1 by unfold r2P; (repeat' split) <;> omega] at Z
  have R := Lib.hid (fun w => reckon_any op x y w hx hy (some z) hz)
  have f13 : (op == 13) = false := by rw [beq_eq_false_iff_ne]; omega
  have f14 : (op == 14) = false := by rw [beq_eq_false_iff_ne]; omega
  clear h1 h5 hx hy hz
  go_enter Try.func25, Try.ntmps25
  go_wp2_with (first | (go_at_call 48; refine (Z.out _).mono ?_; rintro e w' ⟨rfl, rfl⟩) | (go_at_call 50; refine (R.out _).mono ?_; rintro e w' ⟨rfl, rfl⟩; unfold endI))
  refine (ofint_v _ _).mono ?_; rintro e w1 ⟨rfl, hb1⟩
  obtain ⟨hc, hf⟩ := bcell hb1
  obtain ⟨_, q1, q2⟩ := put2 (w := w1) (g := w.heap.size + 1 + 1) (.int .i64 1) (.int .u64 (IntKind.u64.wrap z)) (x := .int .i64 0) (y := .int .u64 0) (by rw [hc _ _ (by simp)]; simp [go_sem]) (by rw [hc _ _ (by simp)]; simp [go_sem])
  go_wp2
  exact bodyPost_ret (v := .agg #[.int .i64 1, .int .u64 (IntKind.u64.wrap z)]) (by simp [results, Try.results25, go_sem, q1, q2]) rfl ⟨rfl, ((below_more (below3 w _ _ _) hb1).setCell (by show w.heap.size ≤ w.heap.size + 1 + 1; omega) _).setCell (by show w.heap.size ≤ w.heap.size + 1 + 1; omega) _⟩

/-- two whole numbers: the operator gives up -/
theorem two_int_gone (op x y : Int) (w : World) (h1 : 1 ≤ op) (h5 : op ≤ 5) (hx : I64 x) (hy : I64 y) (hz : ansI op x y = none) (p q : Int) (hp : wrap64 p = x) (hq : wrap64 q = y) :
    Calls Try.prog 25 #[.int .i64 op, .agg #[.int .i64 1, .int .u64 p], .agg #[.int .i64 1, .int .u64 q]] w fun e w' => e = .panicked [outP] ∧ Below w.heap.size w w' := by
  have Z := Lib.hid (fun w => two_any op 1 w)
  rw [show r2P op 1 = 1 by unfold r2P; (repeat' split) <;> omega] at Z
  have R := Lib.hid (fun w => reckon_any op x y w hx hy none hz)
  have f13 : (op == 13) = false := by rw [beq_eq_false_iff_ne]; omega
  have f14 : (op == 14) = false := by rw [beq_eq_false_iff_ne]; omega
  clear h1 h5 hx hy hz
  go_enter Try.func25, Try.ntmps25
  go_wp2_with (first | (go_at_call 48; refine (Z.out _).mono ?_; rintro e w' ⟨rfl, rfl⟩) | (go_at_call 50; refine (R.out _).mono ?_; rintro e w' ⟨rfl, rfl⟩; unfold endI))
  exact ⟨rfl, rfl, below3 w _ _ _⟩

theorem w64 (b : Nat) : I64 (wrap64 (b : Int)) := by unfold I64 wrap64; omega

/-- Apply of two whole numbers at an operator that reckons -/
theorem apply_int (op : Int) (A : Option Addr) (cap : Nat) (b1 b2 : Nat) (w : World) (hv : RowV w A 2 [(1, b1), (1, b2)]) (h1 : 1 ≤ op) (h5 : op ≤ 5) :
    Calls Try.prog 15 #[.int .i64 op, .slice A 2 cap] w fun e w' => e = .returned (.agg #[.int .i64 (resK (ansI op (wrap64 b1) (wrap64 b2))), .int .u64 (resB (ansI op (wrap64 b1) (wrap64 b2)))]) ∧ Below w.heap.size w w' := by
  cases hz : ansI op (wrap64 b1) (wrap64 b2) with
  | none => exact apply_two_gone op A cap 1 1 b1 b2 w hv fun w => two_int_gone op _ _ w h1 h5 (w64 b1) (w64 b2) hz _ _ rfl rfl
  | some z => exact apply_two op A cap 1 1 b1 b2 1 _ w hv fun w => two_int op _ _ z w h1 h5 (w64 b1) (w64 b2) hz _ _ rfl rfl

/-- the bits of a whole number -/
def nb (n : Int) : Nat := (n % 18446744073709551616).toNat
theorem nb_eq (n : Int) : ((nb n : Nat) : Int) = IntKind.u64.wrap n := by rw [IntKind.wrap_u64]; unfold nb; omega
theorem nb_lt (n : Int) : nb n < 18446744073709551616 := by unfold nb; omega
theorem w64_nb (n : Int) (h : I64 n) : wrap64 ((nb n : Nat) : Int) = n := by unfold I64 at h; unfold nb wrap64; omega
theorem nb_inj (a b : Int) (ha : I64 a) (hb : I64 b) (h : nb a = nb b) : a = b := by unfold I64 at ha hb; unfold nb at h; omega
def resN : Option Int → Nat
  | none => 0
  | some z => nb z
theorem resN_eq (z : Option Int) : ((resN z : Nat) : Int) = resB z := by cases z with | none => rfl | some z => exact nb_eq z
theorem resN_lt (z : Option Int) : resN z < 18446744073709551616 := by cases z with | none => decide | some z => exact nb_lt z

theorem keepF {w0 w w1 : World} {a0 a1 a2 a3 : Addr} {v0 v1 v2 v3 : Value} (hb : Below w.heap.size w w1) (h : w.cell? a0 = some v0 ∧ w.cell? a1 = some v1 ∧ w.cell? a2 = some v2 ∧ w.cell? a3 = some v3 ∧ Below w0.heap.size w0 w) :
    w1.cell? a0 = some v0 ∧ w1.cell? a1 = some v1 ∧ w1.cell? a2 = some v2 ∧ w1.cell? a3 = some v3 ∧ Below w0.heap.size w0 w1 :=
  ⟨cell_later hb h.1, cell_later hb h.2.1, cell_later hb h.2.2.1, cell_later hb h.2.2.2.1, h.2.2.2.2.trans (hb.mono h.2.2.2.2.size)⟩

end Go.Proofs.Ytfjnphiegoogoaa
