/- The program's reader at its face: Open, Uint, Int, Upto, Left, of a reader that isn't there too, as contracts. -/
import Derived.Test.YtlfhgmoafgjdcaaWrD
namespace Go.Proofs.Ytlfhgmoafgjdcaa
open Go.ChangeShapes Go.WideShapes Go.ChangeAt Go.RowKit
set_option linter.unusedVariables false
set_option linter.unusedSimpArgs false

set_option maxHeartbeats 4000000 in
set_option maxRecDepth 100000 in
theorem uintf_any (g B : Nat) (l : List Nat) (hl : Byt l) (w : World) (h : Rdr w g B l) : Calls Try.prog 163 #[.pointer (some ⟨g, 0, none⟩)] w (ReadIs g B (numOf l) (.int .u64 0) l w) := by
  have C := readu_any g B l hl w h
  clear h hl
  cases hx : numOf l with
  | none =>
    rw [hx] at C
    replace C := Lib.hid C
    clear hx
    go_enter Try.func163, Try.ntmps163
    go_wp2_with fail
    refine C.out.mono ?_
    rintro e w1 ⟨h1, rfl, h2⟩
    replace h1 := Lib.hid h1
    replace h2 := Lib.hid h2
    go_wp2
    go_ret2
    exact ⟨h1.out, rfl, h2.out⟩
  | some y =>
    obtain ⟨v, r⟩ := y
    rw [hx] at C
    replace C := Lib.hid C
    clear hx
    go_enter Try.func163, Try.ntmps163
    go_wp2_with fail
    refine C.out.mono ?_
    rintro e w1 ⟨h1, rfl, h2⟩
    replace h1 := Lib.hid h1
    replace h2 := Lib.hid h2
    go_wp2
    go_ret2
    exact ⟨h1.out, rfl, h2.out⟩
theorem ReadIs.before {g B : Nat} {x : Option (Value × List Nat)} {z : Value} {l : List Nat} {w0 w : World} {e : Ending} {w' : World} (h : ReadIs g B x z l w e w') (hb : Below w0.heap.size w0 w) : ReadIs g B x z l w0 e w' :=
  ⟨⟨h.1.os.trans hb.os, h.1.tape.trans hb.tape, h.1.output.trans hb.output, Nat.le_trans hb.size h.1.size, fun k hk hne => (h.1.block k (Nat.lt_of_lt_of_le hk hb.size) hne).trans (hb.block k hk)⟩, h.2⟩
set_option maxHeartbeats 4000000 in
set_option maxRecDepth 100000 in
theorem uptof_any (g B : Nat) (l : List Nat) (hl : Byt l) (w : World) (h : Rdr w g B l) (a b : Int) : Calls Try.prog 167 #[.pointer (some ⟨g, 0, none⟩), .int .i64 a, .int .i64 b] w (ReadIs g B (uptoL a b l) (.int .i64 0) l w) := by
  have hmf : ∀ (fn : Fn) (first cap : Array Value) (w : World), (Instr.makeFunc fn first cap).run Try.prog w = .ok (.func fn first cap) w := fun _ _ _ _ => rfl
  have hb2 := m2 w (.cells #[.int .i64 a] 2) (.cells #[.int .i64 b] 2)
  have C := readc_any g B l hl _ (h.later hb2) w.heap.size (w.heap.size + 1) a b (by simp) (by simp)
  clear h hl
  cases hx : uptoL a b l with
  | none =>
    rw [hx] at C
    replace C := Lib.hid C
    replace hb2 := Lib.hid hb2
    clear hx
    go_enter Try.func167, Try.ntmps167
    go_wp2_with fail
    refine C.out.mono ?_
    rintro e w1 hr
    obtain ⟨h1, rfl, h2⟩ := hr.before hb2.out
    clear hr
    replace h1 := Lib.hid h1
    replace h2 := Lib.hid h2
    go_wp2
    go_ret2
    exact ⟨h1.out, rfl, h2.out⟩
  | some y =>
    obtain ⟨v, r⟩ := y
    rw [hx] at C
    replace C := Lib.hid C
    replace hb2 := Lib.hid hb2
    clear hx
    go_enter Try.func167, Try.ntmps167
    go_wp2_with fail
    refine C.out.mono ?_
    rintro e w1 hr
    obtain ⟨h1, rfl, h2⟩ := hr.before hb2.out
    clear hr
    replace h1 := Lib.hid h1
    replace h2 := Lib.hid h2
    go_wp2
    go_ret2
    exact ⟨h1.out, rfl, h2.out⟩

set_option maxHeartbeats 4000000 in
set_option maxRecDepth 100000 in
theorem left_any (g B : Nat) (l : List Nat) (w : World) (h : Rdr w g B l) : Calls Try.prog 34 #[.pointer (some ⟨g, 0, none⟩)] w fun e w' => e = .returned (.int .i64 (l.length : Int)) ∧ w = w' := by
  obtain ⟨A, c, r1, r2⟩ := h.cell
  clear h
  go_enter Try.func34, Try.ntmps34
  go_wp2
  go_ret
  exact ⟨rfl, rfl⟩

/-! ### Open -/
def CloneIs (l : List Nat) (w : World) (e : Ending) (w' : World) : Prop := ∃ A c, e = .returned (.slice A l.length c) ∧ l.length ≤ c ∧ c ≤ maxLen ∧ (0 < l.length → ∃ B, w.heap.size ≤ B ∧ A = some ⟨B, 0, none⟩) ∧ Bys w' A l ∧ Below w.heap.size w w'
set_option maxHeartbeats 4000000 in
set_option maxRecDepth 100000 in
theorem clone_any (A : Option Addr) (l : List Nat) (c : Nat) (w : World) (h : Bys w A l) (hlen : l.length ≤ 140737488355000) : Calls Try.prog 57 #[.slice A l.length c] w (CloneIs l w) := by
  obtain ⟨i0, hi, hz0, hz1, hz2⟩ := info_parts infoB
  cases A with
  | none =>
    have hl : l = [] := by
      rcases Nat.eq_zero_or_pos l.length with h0 | h0
      · exact List.eq_nil_of_length_eq_zero h0
      · obtain ⟨ad, e, _⟩ := h.2 h0; cases e
    subst hl
    have he : ∀ w, (binOp .eql 31 (.slice none 0 c) (.slice none 0 0)).run Try.prog w = .ok (.bool true) w := fun w => rfl
    go_enter Try.func57, Try.ntmps57
    go_wp2
    go_ret
    exact ⟨none, 0, rfl, by simp, by unfold maxLen; omega, by simp, Bys.nil _ _, Below.refl _ _⟩
  | some ad =>
    have hO := World.ownsRow_lit (base := w.heap.size) (e := 5) (size := 1) w #[] 0 (Nat.le_refl _) (by unfold maxLen; omega) rfl
    have hR := Lib.hid (Reads.alloc h (Nat.le_refl _) (.cells #[] 5))
    have l1 : 0 + l.length ≤ maxLen := by unfold maxLen; omega
    have l2 : (0 + l.length) * 1 ≤ 140737488355328 := by omega
    have hB := m1 w (.cells #[] 5)
    clear h hlen
    have he : ∀ w, (binOp .eql 31 (.slice (some ad) l.length c) (.slice none 0 0)).run Try.prog w = .ok (.bool false) w := fun w => rfl
    go_enter Try.func57, Try.ntmps57
    go_wp2_with (at_builtin; refine wpList_append_any _ rfl (.tmp 5) (.tmp 6) 31 rfl w.heap.size 5 i0 (.int .u8 0) 1 1 Try.underlying31 hi hz0 hz1 hz2 rfl (by decide) _ 0 [] rfl hO w.heap.size (some ad) l.length c (bcells l) rfl hR.out (bcells_one _) l1 l2 (by simp) ?_; intro v' w4 hO4 hgrow _; have hB4 := Lib.hid (bbelow_grown hB (Nat.le_refl _) hO hgrow); replace hO4 := Lib.hid hO4; clear hgrow)
    go_ret
    have hO5 := hO4.out
    rw [Nat.zero_add, List.nil_append] at hO5
    obtain ⟨A4, c4, rfl, k1, k2⟩ := bslice_of hO5
    refine ⟨A4, c4, rfl, k1, k2, fun hl => ?_, (Bys.of_own hO5).2, hB4.out⟩
    obtain ⟨g, cap, hv, hg, _⟩ := hO5.form (by simpa using hl)
    injection hv with hv
    exact ⟨g, by omega, hv⟩
/-- a reader is opened -/
def OpenIs (l : List Nat) (w : World) (e : Ending) (w' : World) : Prop := ∃ g B, e = .returned (.pointer (some ⟨g, 0, none⟩)) ∧ w.heap.size ≤ B ∧ w.heap.size ≤ g ∧ Rdr w' g B l ∧ Below w.heap.size w w'
set_option maxHeartbeats 4000000 in
set_option maxRecDepth 100000 in
theorem open_any (A : Option Addr) (l : List Nat) (c : Nat) (w : World) (h : Bys w A l) (hlen : l.length ≤ 140737488355000) : Calls Try.prog 33 #[.slice A l.length c] w (OpenIs l w) := by
  have C := Lib.hid (clone_any A l c w h hlen)
  clear h hlen
  go_enter Try.func33, Try.ntmps33
  go_wp2_with fail
  refine C.out.mono ?_
  rintro e w1 ⟨A1, c1, rfl, k1, k2, k3, hR, hB⟩
  have hfin : OpenIs l w (.returned (.pointer (some ⟨w1.heap.size, 0, none⟩))) (w1.alloc (.cells #[.slice A1 l.length c1] 109)) := by
    have hs := hB.size
    by_cases hl : 0 < l.length
    · obtain ⟨B, hB1, rfl⟩ := k3 hl
      refine ⟨w1.heap.size, B, rfl, hB1, hs, ⟨some ⟨B, 0, none⟩, c1, Blk.made _ _ _, k1, k2, fun _ => ?_⟩, hB.alloc hs _⟩
      obtain ⟨ad, e, hb, hc⟩ := hR.2 hl
      injection e with e
      subst e
      exact ⟨by simp at hb; omega, _, rfl, rfl, fun j x hj => mlater (m1 w1 _) (hc j _ (bcells_get hj))⟩
    · exact ⟨w1.heap.size, w.heap.size, rfl, Nat.le_refl _, hs, ⟨A1, c1, Blk.made _ _ _, k1, k2, fun h => absurd h hl⟩, hB.alloc hs _⟩
  replace hfin := Lib.hid hfin
  replace hB := Lib.hid hB
  replace hR := Lib.hid hR
  replace k3 := Lib.hid k3
  go_wp2
  go_ret
  exact hfin.out

theorem open_n (A : Option Addr) (l : List Nat) (n c : Nat) (w : World) (hn : n = l.length) (h : Bys w A l) (hlen : l.length ≤ 140737488355000) : Calls Try.prog 33 #[.slice A n c] w (OpenIs l w) := by
  subst hn
  exact open_any A l c w h hlen

/-! ### a reader that isn't there -/
def NilIs (z : Value) (w : World) (e : Ending) (w' : World) : Prop := e = .returned (.tuple #[z, .bool false]) ∧ Below w.heap.size w w'
set_option maxHeartbeats 4000000 in
set_option maxRecDepth 100000 in
theorem readu_nil (f : Value) (w : World) : Calls Try.prog 165 #[.pointer none, f] w (NilIs (.int .u64 0) w) := by
  go_enter_defers Try.func165, Try.ntmps165
  go_wp2

  simp [bodyPostD, Leaves, settle, results, Try.results165, go_sem]
  exact ⟨rfl, Below.refl _ _⟩
set_option maxHeartbeats 4000000 in
set_option maxRecDepth 100000 in
theorem readi_nil (f : Value) (w : World) : Calls Try.prog 170 #[.pointer none, f] w (NilIs (.int .i64 0) w) := by
  go_enter_defers Try.func170, Try.ntmps170
  go_wp2
  simp [bodyPostD, Leaves, settle, results, Try.results170, go_sem]
  exact ⟨rfl, Below.refl _ _⟩
set_option maxHeartbeats 4000000 in
set_option maxRecDepth 100000 in
theorem uint_nil (w : World) : Calls Try.prog 163 #[.pointer none] w (NilIs (.int .u64 0) w) := by
  have C := Lib.hid (fun f w => readu_nil f w)
  go_enter Try.func163, Try.ntmps163
  go_wp2_with fail
  refine (C.out _ _).mono ?_
  rintro e w1 ⟨rfl, hB⟩
  replace hB := Lib.hid hB
  go_wp2
  go_ret2
  exact ⟨rfl, hB.out⟩
set_option maxHeartbeats 4000000 in
set_option maxRecDepth 100000 in
theorem upto_nil (a b : Int) (w : World) : Calls Try.prog 167 #[.pointer none, .int .i64 a, .int .i64 b] w (NilIs (.int .i64 0) w) := by
  have hmf : ∀ (fn : Fn) (first cap : Array Value) (w : World), (Instr.makeFunc fn first cap).run Try.prog w = .ok (.func fn first cap) w := fun _ _ _ _ => rfl
  have C := Lib.hid (fun f w => readi_nil f w)
  have hb2 := Lib.hid (m2 w (.cells #[.int .i64 a] 2) (.cells #[.int .i64 b] 2))
  go_enter Try.func167, Try.ntmps167
  go_wp2_with fail
  refine (C.out _ _).mono ?_
  rintro e w1 ⟨rfl, hB⟩
  replace hB := Lib.hid (mmore hb2.out hB)
  go_wp2
  go_ret2
  exact ⟨rfl, hB.out⟩
set_option maxHeartbeats 4000000 in
set_option maxRecDepth 100000 in
theorem left_nil (w : World) : Calls Try.prog 34 #[.pointer none] w fun e w' => e = .returned (.int .i64 0) ∧ w = w' := by
  go_enter Try.func34, Try.ntmps34
  go_wp2
  go_ret
  exact ⟨rfl, rfl⟩
end Go.Proofs.Ytlfhgmoafgjdcaa
