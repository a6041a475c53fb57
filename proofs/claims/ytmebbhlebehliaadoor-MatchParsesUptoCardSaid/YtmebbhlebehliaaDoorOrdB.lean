/- Which of two matches is ahead: Order and Same of the program, as contracts. -/
import Derived.Test.YtmebbhlebehliaaDoorOrd
namespace Go.Proofs.YtmebbhlebehliaaDoor
open Go.ChangeShapes Go.WideShapes Go.ChangeAt Go.RowKit
set_option linter.unusedVariables false
set_option linter.unusedSimpArgs false

abbrev matV (s b : Int) (A : Option Addr) (n c : Nat) : Value := .agg #[.int .i64 s, .int .i64 b, .slice A n c]
abbrev matO (s b : Int) (A : Option Addr) (n c : Nat) : Obj := .cells #[.int .i64 s, .int .i64 b, .slice A n c] 24
theorem ints3 {w : World} {g : Nat} {x y z : Int} (h0 : w.cell? ⟨g, 0, none⟩ = some (.int .i64 x)) (h1 : w.cell? ⟨g, 1, none⟩ = some (.int .i64 y)) (h2 : w.cell? ⟨g, 2, none⟩ = some (.int .i64 z)) : IntsAt w (some ⟨g, 0, none⟩) [x, y, z] := fun _ => ⟨g, 0, rfl, fun i t hi => by
  match i, hi with
  | 0, hi => simp at hi; subst hi; exact h0
  | 1, hi => simp at hi; subst hi; exact h1
  | 2, hi => simp at hi; subst hi; exact h2⟩
theorem or3_any (g : Nat) (x y z : Int) (w : World) (h0 : w.cell? ⟨g, 0, none⟩ = some (.int .i64 x)) (h1 : w.cell? ⟨g, 1, none⟩ = some (.int .i64 y)) (h2 : w.cell? ⟨g, 2, none⟩ = some (.int .i64 z)) :
    Calls Tryd.prog 23 #[.slice (some ⟨g, 0, none⟩) 3 3] w fun e w' => e = .returned (.int .i64 (orP [x, y, z])) ∧ w = w' :=
  or_any (some ⟨g, 0, none⟩) 3 [x, y, z] w (ints3 h0 h1 h2) (by simp)
theorem or3_made (x y z : Int) (u : World) :
    Calls Tryd.prog 23 #[.slice (some ⟨u.heap.size, 0, none⟩) 3 3] (u.alloc (.cells #[.int .i64 x, .int .i64 y, .int .i64 z] 3)).drew fun e w' => e = .returned (.int .i64 (orP [x, y, z])) ∧ (u.alloc (.cells #[.int .i64 x, .int .i64 y, .int .i64 z] 3)).drew = w' :=
  or3_any u.heap.size x y z _ (by simp [go_sem]) (by simp [go_sem]) (by simp [go_sem])
theorem ordKeep {w0 w1 w2 : World} {A B : Option Addr} {p1 p2 : List (List Int)} {a0 a1 a2 a3 a4 a5 : Addr} {v0 v1 v2 v3 v4 v5 : Value} (hb : Below w1.heap.size w1 w2)
    (h : w1.cell? a0 = some v0 ∧ w1.cell? a1 = some v1 ∧ w1.cell? a2 = some v2 ∧ w1.cell? a3 = some v3 ∧ w1.cell? a4 = some v4 ∧ w1.cell? a5 = some v5 ∧ RowsAt w1 A p1 ∧ RowsAt w1 B p2 ∧ Below w0.heap.size w0 w1) :
    w2.cell? a0 = some v0 ∧ w2.cell? a1 = some v1 ∧ w2.cell? a2 = some v2 ∧ w2.cell? a3 = some v3 ∧ w2.cell? a4 = some v4 ∧ w2.cell? a5 = some v5 ∧ RowsAt w2 A p1 ∧ RowsAt w2 B p2 ∧ Below w0.heap.size w0 w2 :=
  ⟨cell_later hb h.1, cell_later hb h.2.1, cell_later hb h.2.2.1, cell_later hb h.2.2.2.1, cell_later hb h.2.2.2.2.1, cell_later hb h.2.2.2.2.2.1, h.2.2.2.2.2.2.1.later hb, h.2.2.2.2.2.2.2.1.later hb, mmore h.2.2.2.2.2.2.2.2 hb⟩
theorem rowsL {P1 P2 P3 P4 P5 P6 P7 P8 P9 : Prop} (h : P1 ∧ P2 ∧ P3 ∧ P4 ∧ P5 ∧ P6 ∧ P7 ∧ P8 ∧ P9) : P7 := h.2.2.2.2.2.2.1
theorem rowsR {P1 P2 P3 P4 P5 P6 P7 P8 P9 : Prop} (h : P1 ∧ P2 ∧ P3 ∧ P4 ∧ P5 ∧ P6 ∧ P7 ∧ P8 ∧ P9) : P8 := h.2.2.2.2.2.2.2.1

set_option maxHeartbeats 4000000 in
set_option maxRecDepth 100000 in
theorem order_any (A B : Option Addr) (ca cb : Nat) (s1 b1 s2 b2 : Int) (p1 p2 : List (List Int)) (w : World) (hA : RowsAt w A p1) (hB : RowsAt w B p2) (hx : p1.length ≤ 9223372036854775806) (hy : p2.length ≤ 9223372036854775806) (hx2 : ∀ l ∈ p1, l.length ≤ 9223372036854775806) (hy2 : ∀ l ∈ p2, l.length ≤ 9223372036854775806) :
    Calls Tryd.prog 14 #[matV s1 b1 A p1.length ca, matV s2 b2 B p2.length cb] w fun e w' => e = .returned (.int .i64 (ordM s1 b1 p1 s2 b2 p2)) ∧ Below w.heap.size w w' := by
  have bu := m2 w (matO s1 b1 A p1.length ca) (matO s2 b2 B p2.length cb)
  have base : ((w.alloc (matO s1 b1 A p1.length ca)).alloc (matO s2 b2 B p2.length cb)).cell? ⟨w.heap.size, 0, none⟩ = some (.int .i64 s1) ∧ ((w.alloc (matO s1 b1 A p1.length ca)).alloc (matO s2 b2 B p2.length cb)).cell? ⟨w.heap.size, 1, none⟩ = some (.int .i64 b1) ∧ ((w.alloc (matO s1 b1 A p1.length ca)).alloc (matO s2 b2 B p2.length cb)).cell? ⟨w.heap.size, 2, none⟩ = some (.slice A p1.length ca) ∧
      ((w.alloc (matO s1 b1 A p1.length ca)).alloc (matO s2 b2 B p2.length cb)).cell? ⟨w.heap.size + 1, 0, none⟩ = some (.int .i64 s2) ∧ ((w.alloc (matO s1 b1 A p1.length ca)).alloc (matO s2 b2 B p2.length cb)).cell? ⟨w.heap.size + 1, 1, none⟩ = some (.int .i64 b2) ∧ ((w.alloc (matO s1 b1 A p1.length ca)).alloc (matO s2 b2 B p2.length cb)).cell? ⟨w.heap.size + 1, 2, none⟩ = some (.slice B p2.length cb) ∧
      RowsAt ((w.alloc (matO s1 b1 A p1.length ca)).alloc (matO s2 b2 B p2.length cb)) A p1 ∧ RowsAt ((w.alloc (matO s1 b1 A p1.length ca)).alloc (matO s2 b2 B p2.length cb)) B p2 ∧ Below w.heap.size w ((w.alloc (matO s1 b1 A p1.length ca)).alloc (matO s2 b2 B p2.length cb)) :=
    ⟨by simp [go_sem], by simp [go_sem], by simp [go_sem], by simp [go_sem], by simp [go_sem], by simp [go_sem], hA.later bu, hB.later bu, bu⟩
  unfold ordM
  replace hx2 := Lib.hid hx2
  replace hy2 := Lib.hid hy2
  clear hA hB bu
  go_enter Tryd.func14, Tryd.ntmps14
  go_wp2_with fail
  generalize (w.alloc (matO s1 b1 A p1.length ca)).alloc (matO s2 b2 B p2.length cb) = u at *
  have base' := base
  obtain ⟨d0, d1, d2, d3, d4, d5, dA, dB, dW⟩ := base'
  go_region_held3 (fun w' => w'.cell? ⟨w.heap.size, 0, none⟩ = some (.int .i64 s1) ∧ w'.cell? ⟨w.heap.size, 1, none⟩ = some (.int .i64 b1) ∧ w'.cell? ⟨w.heap.size, 2, none⟩ = some (.slice A p1.length ca) ∧ w'.cell? ⟨w.heap.size + 1, 0, none⟩ = some (.int .i64 s2) ∧ w'.cell? ⟨w.heap.size + 1, 1, none⟩ = some (.int .i64 b2) ∧ w'.cell? ⟨w.heap.size + 1, 2, none⟩ = some (.slice B p2.length cb) ∧ RowsAt w' A p1 ∧ RowsAt w' B p2 ∧ Below w.heap.size w w')
    (first | exact ⟨d0, d1, d2, d3, d4, d5, dA, dB, dW.drew⟩ | exact ordKeep (m1 u _).drew base | go_keep | assumption)
    (first
      | (go_at_call 24; refine (Tryd.cmp_Compare_int _ _ _).mono ?_; rintro e w1 ⟨rfl, rfl⟩)
      | (go_at_call 25; refine (rcompare_any A B ca cb p1 p2 _ (by first | assumption | exact rowsL (by assumption)) (by first | assumption | exact rowsR (by assumption)) hx hy hx2.out hy2.out).mono ?_; rintro e w1 ⟨rfl, rfl⟩)
      | (go_at_call 23; refine (or3_made _ _ _ _).mono ?_; rintro e w1 ⟨rfl, rfl⟩))
  rename_i hS
  have hBz := hS.2.2.2.2.2.2.2.2
  replace hBz := Lib.hid hBz
  clear hS base d0 d1 d2 d3 d4 d5 dA dB dW
  go_wp2
  go_ret
  exact ⟨rfl, hBz.out⟩
end Go.Proofs.YtmebbhlebehliaaDoor
