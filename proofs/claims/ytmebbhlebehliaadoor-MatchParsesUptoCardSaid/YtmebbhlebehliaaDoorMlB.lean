/- The line of a match that isn't well made, and the empty line read: contracts. -/
import Derived.Test.YtmebbhlebehliaaDoorMlA
import Derived.Test.YtmebbhlebehliaaDoorRLine
import Derived.Test.YtmebbhlebehliaaDoorROrd
namespace Go.Proofs.YtmebbhlebehliaaDoor
open Go.ChangeShapes Go.WideShapes Go.ChangeAt Go.RowKit Go.Shelf
set_option linter.unusedVariables false
set_option linter.unusedSimpArgs false
attribute [local go_sem] Oper.semAt_some

set_option maxRecDepth 100000 in
theorem line_no (A : Option Addr) (cap : Nat) (st br : Int) (bs : List (List Int)) (w : World) (hA : RowsAt w A bs) (hx : bs.length ≤ 9223372036854775806) (hx2 : ∀ l ∈ bs, l.length ≤ 9223372036854775806) (hg : goodP st br bs 9223372036854775807 = false) :
    Calls Tryd.prog 7 #[matV st br A bs.length cap] w fun e w' => e = .returned (.string ⟨#[]⟩) ∧ Below w.heap.size w w' := by
  have bu := m1 w (matO st br A bs.length cap)
  have hA1 := hA.later bu
  have c0 : (w.alloc (matO st br A bs.length cap)).cell? ⟨w.heap.size, 0, none⟩ = some (.int .i64 st) := by simp [go_sem]
  have c1 : (w.alloc (matO st br A bs.length cap)).cell? ⟨w.heap.size, 1, none⟩ = some (.int .i64 br) := by simp [go_sem]
  have c2 : (w.alloc (matO st br A bs.length cap)).cell? ⟨w.heap.size, 2, none⟩ = some (.slice A bs.length cap) := by simp [go_sem]
  have hG := fun A cap w hA => good_any A cap st br bs 9223372036854775807 w hA hx hx2
  rw [hg] at hG
  replace hG := Lib.hid hG
  clear hA
  go_enter Tryd.func7, Tryd.ntmps7
  go_wp2_with fail
  generalize w.alloc (matO st br A bs.length cap) = u at *
  refine (hG.out A cap u hA1).mono ?_; rintro e w1 ⟨rfl, hb1⟩
  go_wp2_with fail
  go_ret
  exact ⟨rfl, mmore bu hb1⟩
set_option maxRecDepth 100000 in
theorem rline_no (A : Option Addr) (cap : Nat) (st br : Int) (bs : List (List Int)) (w : World) (hA : RowsAt w A bs) (hx : bs.length ≤ 9223372036854775806) (hx2 : ∀ l ∈ bs, l.length ≤ 9223372036854775806) (htot : bs.flatten.length * 8 ≤ 140737488355328) (hg : goodP st br bs 9223372036854775807 = false) :
    Calls Tryd.prog 8 #[matV st br A bs.length cap] w fun e w' => e = .returned (.string ⟨#[]⟩) ∧ Below w.heap.size w w' := by
  have bu := m1 w (matO st br A bs.length cap)
  have hA1 := hA.later bu
  have c0 : (w.alloc (matO st br A bs.length cap)).cell? ⟨w.heap.size, 0, none⟩ = some (.int .i64 st) := by simp [go_sem]
  have c1 : (w.alloc (matO st br A bs.length cap)).cell? ⟨w.heap.size, 1, none⟩ = some (.int .i64 br) := by simp [go_sem]
  have c2 : (w.alloc (matO st br A bs.length cap)).cell? ⟨w.heap.size, 2, none⟩ = some (.slice A bs.length cap) := by simp [go_sem]
  have hG := fun w hA => rgood_any A cap st br bs 9223372036854775807 w hA hx hx2 htot
  rw [hg] at hG
  replace hG := Lib.hid hG
  clear hA htot
  go_enter Tryd.func8, Tryd.ntmps8
  go_wp2_with fail
  generalize w.alloc (matO st br A bs.length cap) = u at *
  refine (hG.out u hA1).mono ?_; rintro e w1 ⟨rfl, hb1⟩
  go_wp2_with fail
  go_ret
  exact ⟨rfl, mmore bu hb1⟩
theorem cut_empty (c : UInt8) (w : World) :
    Calls Tryd.prog 10 #[.string ⟨#[]⟩, .string ⟨#[c]⟩] w fun e w' => e = .returned (.tuple #[.string ⟨#[]⟩, .string ⟨#[]⟩, .bool false]) ∧ w = w' := by
  have hI : Calls Tryd.prog 28 #[.string ⟨#[]⟩, .string ⟨#[c]⟩] w fun e w' => e = .returned (.int .i64 (-1)) ∧ w' = w := Tryd.stringslite_Index_one ⟨#[]⟩ c w
  replace hI := Lib.hid hI
  have C : Calls Tryd.prog 19 #[.string ⟨#[]⟩, .string ⟨#[c]⟩] w fun e w' => e = .returned (.tuple #[.string ⟨#[]⟩, .string ⟨#[]⟩, .bool false]) ∧ w = w' := by
    go_enter Tryd.func19, Tryd.ntmps19
    go_wp2_with (go_at_call 28; refine hI.out.mono ?_; rintro e w1 ⟨rfl, rfl⟩)
    exact bodyPost_ret (v := .tuple #[.string ⟨#[]⟩, .string ⟨#[]⟩, .bool false]) (by simp [results, Tryd.results19, go_sem]) rfl ⟨rfl, rfl⟩
  replace C := Lib.hid C
  go_enter Tryd.func10, Tryd.ntmps10
  go_wp2_with (go_at_call 19; refine C.out.mono ?_; rintro e w1 ⟨rfl, rfl⟩)
  exact bodyPost_ret (v := .tuple #[.string ⟨#[]⟩, .string ⟨#[]⟩, .bool false]) (by simp [results, Tryd.results10, go_sem]) rfl ⟨rfl, rfl⟩
theorem nums_none : NumsOk ⟨#[]⟩ [] := ⟨by decide, asc_of (by decide), rfl, by
  rw [show fieldsOf ⟨#[]⟩ = [] from rfl]; simp, by decide⟩
set_option maxHeartbeats 2000000 in
set_option maxRecDepth 100000 in
theorem parse_empty (w : World) (hT : SpTab w) (h0 : 0 < w.heap.size) :
    Calls Tryd.prog 4 #[.string ⟨#[]⟩] w fun e w' => e = .returned (.tuple #[matV 0 0 none 0 0, .bool false]) ∧ Below w.heap.size w w' := by
  have bu := m2 w (.cells #[.int .i64 0, .int .i64 0, .slice none 0 0] 24) (.cells #[.bool false] 4)
  have hTu := hT.later bu
  have x0 : Blk ((w.alloc (.cells #[.int .i64 0, .int .i64 0, .slice none 0 0] 24)).alloc (.cells #[.bool false] 4)) w.heap.size 24 #[.int .i64 0, .int .i64 0, .slice none 0 0] := (Blk.made _ _ _).kept (m1 _ _)
  have x1 : Blk ((w.alloc (.cells #[.int .i64 0, .int .i64 0, .slice none 0 0] 24)).alloc (.cells #[.bool false] 4)) (w.heap.size + 1) 4 #[.bool false] := by
    have := Blk.made (w.alloc (.cells #[.int .i64 0, .int .i64 0, .slice none 0 0] 24)) 4 #[.bool false]
    simpa using this
  have hC := Lib.hid (fun w => cut_empty 58 w)
  go_enter Tryd.func4, Tryd.ntmps4
  go_wp2_with fail
  generalize (w.alloc (.cells #[.int .i64 0, .int .i64 0, .slice none 0 0] 24)).alloc (.cells #[.bool false] 4) = u at *
  refine (hC.out u).mono ?_; rintro e w1 ⟨rfl, rfl⟩
  go_wp2_with fail
  refine (nums_any _ _ u nums_none hTu (by have := bu.size; omega)).mono ?_; rintro e w2 ⟨na, nc, rfl, hO2, hb2⟩
  have hB2 := mmore bu hb2
  have X0 := x0.kept hb2
  have X1 := x1.kept hb2
  clear hO2 x0 x1 hC
  simp only [List.length_nil]
  have q0 := X0.cell 0
  have q1 := X0.cell 1
  have q2 := X0.cell 2
  have q3 := X1.cell 0
  have f0 := X0.free 0
  have f1 := X0.free 1
  have f2 := X0.free 2
  have f3 := X1.free 0
  go_wp2_with fail
  have B0 := ((X0.put_ 0 (.int .i64 0)).put_ 1 (.int .i64 0)).put_ 2 (.slice none 0 0)
  have C0 := ((X1.else_ (p := ⟨w.heap.size, 0, none⟩) (by show w.heap.size ≠ w.heap.size + 1; omega) (.int .i64 0)).else_ (p := ⟨w.heap.size, 1, none⟩) (by show w.heap.size ≠ w.heap.size + 1; omega) (.int .i64 0)).else_ (p := ⟨w.heap.size, 2, none⟩) (by show w.heap.size ≠ w.heap.size + 1; omega) (.slice none 0 0)
  have B1 := B0.else_ (p := ⟨w.heap.size + 1, 0, none⟩) (by show w.heap.size + 1 ≠ w.heap.size; omega) (.bool false)
  have C1 := C0.put_ 0 (.bool false)
  have hBz := (((hB2.setCell (p := ⟨w.heap.size, 0, none⟩) (Nat.le_refl _) (.int .i64 0)).setCell (p := ⟨w.heap.size, 1, none⟩) (Nat.le_refl _) (.int .i64 0)).setCell (p := ⟨w.heap.size, 2, none⟩) (Nat.le_refl _) (.slice none 0 0)).setCell (p := ⟨w.heap.size + 1, 0, none⟩) (by show w.heap.size ≤ w.heap.size + 1; omega) (.bool false)
  generalize (((w2.setCell ⟨w.heap.size, 0, none⟩ (.int .i64 0)).setCell ⟨w.heap.size, 1, none⟩ (.int .i64 0)).setCell ⟨w.heap.size, 2, none⟩ (.slice none 0 0)).setCell ⟨w.heap.size + 1, 0, none⟩ (.bool false) = W7 at *
  have r0 : W7.cell? ⟨w.heap.size, 0, none⟩ = some (.int .i64 0) := B1.cell 0
  have r1 : W7.cell? ⟨w.heap.size, 1, none⟩ = some (.int .i64 0) := B1.cell 1
  have r2 : W7.cell? ⟨w.heap.size, 2, none⟩ = some (.slice none 0 0) := B1.cell 2
  have r3 : W7.cell? ⟨w.heap.size + 1, 0, none⟩ = some (.bool false) := C1.cell 0
  exact bodyPost_ret (v := .tuple #[matV 0 0 none 0 0, .bool false]) (by simp [results, Tryd.results4, go_sem, r0, r1, r2, r3]) rfl ⟨rfl, hBz⟩
theorem i64_wf {z : Int} (h : (Lit.int .i64 z).wf = true) : -9223372036854775808 ≤ z ∧ z ≤ 9223372036854775807 := by
  have h2 : IntKind.i64.min ≤ z ∧ z ≤ IntKind.i64.max := by simpa [Lit.wf] using h
  exact h2
theorem some_text {S : ByteArray} (h : S ≠ ⟨#[]⟩) : S.toList.isEmpty = false := by
  rw [← decide_eq_emptyBytes]
  exact decide_eq_false h
theorem ord_self (st br : Int) (bs : List (List Int)) : ordM st br bs st br bs = 0 := by
  have := cmpOk_M.s (st, br, bs) (st, br, bs)
  simp only at this
  omega
end Go.Proofs.YtmebbhlebehliaaDoor
