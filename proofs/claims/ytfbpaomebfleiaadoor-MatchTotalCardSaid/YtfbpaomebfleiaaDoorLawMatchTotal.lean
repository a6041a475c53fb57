/- MatchTotal: the order of matches is one: turned about it is turned; what isn't behind something that isn't behind a third isn't behind that; two are the same just where neither is ahead. -/
import Derived.Test.YtfbpaomebfleiaaDoorRows
import Derived.Test.YtfbpaomebfleiaaDoorCards
import Derived.Test.YtfbpaomebfleiaaDoorTie
import Derived.LaidMore
import Derived.Lay
import Derived.LaidLaws
import Derived.ChangeVars
import Derived.SevenTiedAt
import Derived.Stop.Joined
import Derived.Stop.LaidErr
import Derived.Lib.LaidTab
import Derived.Lib.ItoaNum
import Derived.WalkKit
import Derived.ProofKit
import Derived.OpenShut
import Derived.ShutString
import Derived.ChangeOld
import Derived.Below
import Derived.Lib.SmallJoins
import Derived.SizedLaws
import Derived.Test.YtfbpaomebfleiaaDoorMtA
import Derived.Test.YtfbpaomebfleiaaDoorMt
import Derived.Test.YtfbpaomebfleiaaDoorCmpO
namespace Go.Proofs.YtfbpaomebfleiaaDoor.matchTotal
open Go.ChangeShapes Go.WideShapes Go.ChangeAt Go.RowKit Go.Joins
set_option linter.unusedVariables false
set_option linter.unusedSimpArgs false

theorem own : ownKnob Tryd.prog.godebug = none := by kernel_rfl
theorem laidOut : laidOutB Tryd.prog = true := by kernel_rfl

theorem keepT {w0 w1 w2 : World} {A B C : Option Addr} {p1 p2 p3 : List (List Int)} {a0 a1 a2 a3 a4 a5 a6 a7 a8 : Addr} {v0 v1 v2 v3 v4 v5 v6 v7 v8 : Value} (hb : Below w1.heap.size w1 w2)
    (h : w1.cell? a0 = some v0 ∧ w1.cell? a1 = some v1 ∧ w1.cell? a2 = some v2 ∧ w1.cell? a3 = some v3 ∧ w1.cell? a4 = some v4 ∧ w1.cell? a5 = some v5 ∧ w1.cell? a6 = some v6 ∧ w1.cell? a7 = some v7 ∧ w1.cell? a8 = some v8 ∧ RowsAt w1 A p1 ∧ RowsAt w1 B p2 ∧ RowsAt w1 C p3 ∧ Below w0.heap.size w0 w1) :
    w2.cell? a0 = some v0 ∧ w2.cell? a1 = some v1 ∧ w2.cell? a2 = some v2 ∧ w2.cell? a3 = some v3 ∧ w2.cell? a4 = some v4 ∧ w2.cell? a5 = some v5 ∧ w2.cell? a6 = some v6 ∧ w2.cell? a7 = some v7 ∧ w2.cell? a8 = some v8 ∧ RowsAt w2 A p1 ∧ RowsAt w2 B p2 ∧ RowsAt w2 C p3 ∧ Below w0.heap.size w0 w2 := by
  obtain ⟨h0, h1, h2, h3, h4, h5, h6, h7, h8, h9, h10, h11, h12⟩ := h
  exact ⟨cell_later hb h0, cell_later hb h1, cell_later hb h2, cell_later hb h3, cell_later hb h4, cell_later hb h5, cell_later hb h6, cell_later hb h7, cell_later hb h8, h9.later hb, h10.later hb, h11.later hb, mmore h12 hb⟩
theorem keepDrewT {w0 w1 : World} {A B C : Option Addr} {p1 p2 p3 : List (List Int)} {a0 a1 a2 a3 a4 a5 a6 a7 a8 : Addr} {v0 v1 v2 v3 v4 v5 v6 v7 v8 : Value}
    (h : w1.cell? a0 = some v0 ∧ w1.cell? a1 = some v1 ∧ w1.cell? a2 = some v2 ∧ w1.cell? a3 = some v3 ∧ w1.cell? a4 = some v4 ∧ w1.cell? a5 = some v5 ∧ w1.cell? a6 = some v6 ∧ w1.cell? a7 = some v7 ∧ w1.cell? a8 = some v8 ∧ RowsAt w1 A p1 ∧ RowsAt w1 B p2 ∧ RowsAt w1 C p3 ∧ Below w0.heap.size w0 w1) :
    w1.drew.cell? a0 = some v0 ∧ w1.drew.cell? a1 = some v1 ∧ w1.drew.cell? a2 = some v2 ∧ w1.drew.cell? a3 = some v3 ∧ w1.drew.cell? a4 = some v4 ∧ w1.drew.cell? a5 = some v5 ∧ w1.drew.cell? a6 = some v6 ∧ w1.drew.cell? a7 = some v7 ∧ w1.drew.cell? a8 = some v8 ∧ RowsAt w1.drew A p1 ∧ RowsAt w1.drew B p2 ∧ RowsAt w1.drew C p3 ∧ Below w0.heap.size w0 w1.drew :=
  keepT (Below.refl _ _).drew h
theorem rA {P1 P2 P3 P4 P5 P6 P7 P8 P9 P10 P11 P12 P13 : Prop} (h : P1 ∧ P2 ∧ P3 ∧ P4 ∧ P5 ∧ P6 ∧ P7 ∧ P8 ∧ P9 ∧ P10 ∧ P11 ∧ P12 ∧ P13) : P10 := h.2.2.2.2.2.2.2.2.2.1
theorem rB {P1 P2 P3 P4 P5 P6 P7 P8 P9 P10 P11 P12 P13 : Prop} (h : P1 ∧ P2 ∧ P3 ∧ P4 ∧ P5 ∧ P6 ∧ P7 ∧ P8 ∧ P9 ∧ P10 ∧ P11 ∧ P12 ∧ P13) : P11 := h.2.2.2.2.2.2.2.2.2.2.1
theorem rC {P1 P2 P3 P4 P5 P6 P7 P8 P9 P10 P11 P12 P13 : Prop} (h : P1 ∧ P2 ∧ P3 ∧ P4 ∧ P5 ∧ P6 ∧ P7 ∧ P8 ∧ P9 ∧ P10 ∧ P11 ∧ P12 ∧ P13) : P12 := h.2.2.2.2.2.2.2.2.2.2.2.1
set_option maxHeartbeats 8000000 in
set_option maxRecDepth 100000 in
theorem walk (w : World) (htab : Lib.TabIs Tryd.prog w "internal/strconv.uint64pow10" .u64 Lib.pow10Tab) (hsp : SpTab w) (hz : 0 < w.heap.size) (st0 br0 : Int) (A0 : Option Addr) (c0 : Nat) (z0 : List (List Int)) (ws0 : (Lit.int .i64 st0).wf = true) (wb0 : (Lit.int .i64 br0).wf = true) (w0 : RowsAt w A0 z0) (s0 : z0.length * 24 ≤ 140737488351232) (y0 : ∀ l ∈ z0, l.length * 8 ≤ 140737488351232) (st1 br1 : Int) (A1 : Option Addr) (c1 : Nat) (z1 : List (List Int)) (ws1 : (Lit.int .i64 st1).wf = true) (wb1 : (Lit.int .i64 br1).wf = true) (w1 : RowsAt w A1 z1) (s1 : z1.length * 24 ≤ 140737488351232) (y1 : ∀ l ∈ z1, l.length * 8 ≤ 140737488351232) (st2 br2 : Int) (A2 : Option Addr) (c2 : Nat) (z2 : List (List Int)) (ws2 : (Lit.int .i64 st2).wf = true) (wb2 : (Lit.int .i64 br2).wf = true) (w2 : RowsAt w A2 z2) (s2 : z2.length * 24 ≤ 140737488351232) (y2 : ∀ l ∈ z2, l.length * 8 ≤ 140737488351232) :
    Calls Tryd.prog 8 #[.agg #[.int .i64 st0, .int .i64 br0, .slice A0 z0.length c0], .agg #[.int .i64 st1, .int .i64 br1, .slice A1 z1.length c1], .agg #[.int .i64 st2, .int .i64 br2, .slice A2 z2.length c2]] w fun e w' => e = .returned (.bool true) ∧ Below w.heap.size w w' := by
  obtain ⟨u, hu⟩ : ∃ u, ((w.alloc (matO st0 br0 A0 z0.length c0)).alloc (matO st1 br1 A1 z1.length c1)).alloc (matO st2 br2 A2 z2.length c2) = u := ⟨_, rfl⟩
  have bu : Below w.heap.size w u := by rw [← hu]; exact (m2 w _ _).alloc (by simp; omega) _
  have base : u.cell? ⟨w.heap.size, 0, none⟩ = some (.int .i64 st0) ∧ u.cell? ⟨w.heap.size, 1, none⟩ = some (.int .i64 br0) ∧ u.cell? ⟨w.heap.size, 2, none⟩ = some (.slice A0 z0.length c0) ∧
      u.cell? ⟨w.heap.size + 1, 0, none⟩ = some (.int .i64 st1) ∧ u.cell? ⟨w.heap.size + 1, 1, none⟩ = some (.int .i64 br1) ∧ u.cell? ⟨w.heap.size + 1, 2, none⟩ = some (.slice A1 z1.length c1) ∧
      u.cell? ⟨w.heap.size + 1 + 1, 0, none⟩ = some (.int .i64 st2) ∧ u.cell? ⟨w.heap.size + 1 + 1, 1, none⟩ = some (.int .i64 br2) ∧ u.cell? ⟨w.heap.size + 1 + 1, 2, none⟩ = some (.slice A2 z2.length c2) ∧
      RowsAt u A0 z0 ∧ RowsAt u A1 z1 ∧ RowsAt u A2 z2 ∧ Below w.heap.size w u :=
    ⟨by rw [← hu]; simp [go_sem], by rw [← hu]; simp [go_sem], by rw [← hu]; simp [go_sem], by rw [← hu]; simp [go_sem], by rw [← hu]; simp [go_sem], by rw [← hu]; simp [go_sem], by rw [← hu]; simp [go_sem], by rw [← hu]; simp [go_sem], by rw [← hu]; simp [go_sem], w0.later bu, w1.later bu, w2.later bu, bu⟩
  have l0 : z0.length ≤ 9223372036854775806 := by omega
  have l1 : z1.length ≤ 9223372036854775806 := by omega
  have l2 : z2.length ≤ 9223372036854775806 := by omega
  have q0 : ∀ l ∈ z0, l.length ≤ 9223372036854775806 := fun l h => by have := y0 l h; omega
  have q1 : ∀ l ∈ z1, l.length ≤ 9223372036854775806 := fun l h => by have := y1 l h; omega
  have q2 : ∀ l ∈ z2, l.length ≤ 9223372036854775806 := fun l h => by have := y2 l h; omega
  have hr := cmpOk_M.r (st0, br0, z0) (st1, br1, z1)
  have hs := cmpOk_M.s (st0, br0, z0) (st1, br1, z1)
  have ht := cmpOk_M.t (st0, br0, z0) (st1, br1, z1) (st2, br2, z2)
  simp only at hr hs ht
  have tab := Lib.hid (Lib.tabBelow_of_tabIs htab)
  have sp := Lib.hid (fun w' hb => SpTab.later (w := w) (w1 := w') hsp hb)
  replace hr := Lib.hid hr
  replace hs := Lib.hid hs
  replace ht := Lib.hid ht
  replace q0 := Lib.hid q0
  replace q1 := Lib.hid q1
  replace q2 := Lib.hid q2
  replace y0 := Lib.hid y0
  replace y1 := Lib.hid y1
  replace y2 := Lib.hid y2
  clear w0 w1 w2 bu htab hsp
  go_enter Tryd.func8, Tryd.ntmps8
  go_wp2_with fail
  clear hu
  have base' := base
  obtain ⟨d0, d1, d2, d3, d4, d5, d6, d7, d8, dA, dB, dC, dW⟩ := base'
  go_region_held3 (fun w' => w'.cell? ⟨w.heap.size, 0, none⟩ = some (.int .i64 st0) ∧ w'.cell? ⟨w.heap.size, 1, none⟩ = some (.int .i64 br0) ∧ w'.cell? ⟨w.heap.size, 2, none⟩ = some (.slice A0 z0.length c0) ∧
      w'.cell? ⟨w.heap.size + 1, 0, none⟩ = some (.int .i64 st1) ∧ w'.cell? ⟨w.heap.size + 1, 1, none⟩ = some (.int .i64 br1) ∧ w'.cell? ⟨w.heap.size + 1, 2, none⟩ = some (.slice A1 z1.length c1) ∧
      w'.cell? ⟨w.heap.size + 1 + 1, 0, none⟩ = some (.int .i64 st2) ∧ w'.cell? ⟨w.heap.size + 1 + 1, 1, none⟩ = some (.int .i64 br2) ∧ w'.cell? ⟨w.heap.size + 1 + 1, 2, none⟩ = some (.slice A2 z2.length c2) ∧
      RowsAt w' A0 z0 ∧ RowsAt w' A1 z1 ∧ RowsAt w' A2 z2 ∧ Below w.heap.size w w')
    (first | exact keepDrewT base | go_keep | exact keepT hb1 (by first | assumption | exact ⟨by assumption, by assumption, by assumption, by assumption, by assumption, by assumption, by assumption, by assumption, by assumption, by assumption, by assumption, by assumption, by assumption⟩))
    (first
      | (go_at_call 11; refine (order_any _ _ _ _ _ _ _ _ _ _ _ (by first | assumption | exact rA (by assumption) | exact rB (by assumption) | exact rC (by assumption)) (by first | assumption | exact rA (by assumption) | exact rB (by assumption) | exact rC (by assumption)) (by assumption) (by assumption) (by first | exact q0.out | exact q1.out | exact q2.out) (by first | exact q0.out | exact q1.out | exact q2.out)).mono ?_; rintro e w1 ⟨rfl, hb1⟩))
  rename_i hS
  have eA := rA hS
  have eB := rB hS
  have eW := hS.2.2.2.2.2.2.2.2.2.2.2.2
  have OV := Lib.hid (fun w hA hB => order_any A1 A0 c1 c0 st1 br1 st0 br0 z1 z0 w hA hB l1 l0 q1.out q0.out)
  have OS := Lib.hid (fun w hA hB => same_any A0 A1 c0 c1 st0 br0 st1 br1 z0 z1 w hA hB l0 l1 q0.out q1.out)
  generalize ordM st0 br0 z0 st1 br1 z1 = X at *
  generalize ordM st1 br1 z1 st2 br2 z2 = Y at *
  generalize ordM st0 br0 z0 st2 br2 z2 = Z at *
  generalize ordM st1 br1 z1 st0 br0 z0 = V at *
  replace hS := Lib.hid hS
  clear base d0 d1 d2 d3 d4 d5 d6 d7 d8 dA dB dC dW eA eB
  go_wp2_with fail
  rename_i wa _
  refine (awake_any _ (sp.out _ eW) (by have := eW.size; omega) (tab.out _ eW)).mono ?_; rintro e wb ⟨rfl, hb2⟩
  have hS2 := keepT hb2 hS.out
  clear hS eW hb2
  obtain ⟨f0, f1, f2, f3, f4, f5, f6, f7, f8, fA, fB, fC, fW⟩ := hS2
  have hS2 := Lib.hid (And.intro f0 (And.intro f1 (And.intro f2 (And.intro f3 (And.intro f4 (And.intro f5 (And.intro f6 (And.intro f7 (And.intro f8 (And.intro fA (And.intro fB (And.intro fC fW))))))))))))
  have hV : V = - X := hs.out
  rcases hr.out with hX | hX | hX
  · subst hX
    obtain rfl : V = 1 := by omega
    clear hV
    by_cases hy : Y > 0
    · have hy2 : ¬ Y ≤ 0 := by omega
      go_wp2_with fail
      refine (OV.out wb fB fA).mono ?_; rintro e wc ⟨rfl, hb3⟩
      have hS3 := keepT hb3 hS2.out
      obtain ⟨g0, g1, g2, g3, g4, g5, g6, g7, g8, gA, gB, gC, gW⟩ := hS3
      clear f0 f1 f2 f3 f4 f5 f6 f7 f8
      go_wp2_with fail
      refine (OS.out wc gA gB).mono ?_; rintro e wd ⟨rfl, hb4⟩
      clear g0 g1 g2 g3 g4 g5 g6 g7 g8
      go_wp2
      go_ret
      exact ⟨rfl, mmore gW hb4⟩
    · have hz2 : Z ≤ 0 := ht.out (by omega) (by omega)
      go_wp2_with fail
      refine (OV.out wb fB fA).mono ?_; rintro e wc ⟨rfl, hb3⟩
      have hS3 := keepT hb3 hS2.out
      obtain ⟨g0, g1, g2, g3, g4, g5, g6, g7, g8, gA, gB, gC, gW⟩ := hS3
      clear f0 f1 f2 f3 f4 f5 f6 f7 f8
      go_wp2_with fail
      refine (OS.out wc gA gB).mono ?_; rintro e wd ⟨rfl, hb4⟩
      clear g0 g1 g2 g3 g4 g5 g6 g7 g8
      go_wp2
      go_ret
      exact ⟨rfl, mmore gW hb4⟩
  · subst hX
    obtain rfl : V = 0 := by omega
    clear hV
    by_cases hy : Y > 0
    · have hy2 : ¬ Y ≤ 0 := by omega
      go_wp2_with fail
      refine (OV.out wb fB fA).mono ?_; rintro e wc ⟨rfl, hb3⟩
      have hS3 := keepT hb3 hS2.out
      obtain ⟨g0, g1, g2, g3, g4, g5, g6, g7, g8, gA, gB, gC, gW⟩ := hS3
      clear f0 f1 f2 f3 f4 f5 f6 f7 f8
      go_wp2_with fail
      refine (OS.out wc gA gB).mono ?_; rintro e wd ⟨rfl, hb4⟩
      clear g0 g1 g2 g3 g4 g5 g6 g7 g8
      go_wp2
      go_ret
      exact ⟨rfl, mmore gW hb4⟩
    · have hz2 : Z ≤ 0 := ht.out (by omega) (by omega)
      go_wp2_with fail
      refine (OV.out wb fB fA).mono ?_; rintro e wc ⟨rfl, hb3⟩
      have hS3 := keepT hb3 hS2.out
      obtain ⟨g0, g1, g2, g3, g4, g5, g6, g7, g8, gA, gB, gC, gW⟩ := hS3
      clear f0 f1 f2 f3 f4 f5 f6 f7 f8
      go_wp2_with fail
      refine (OS.out wc gA gB).mono ?_; rintro e wd ⟨rfl, hb4⟩
      clear g0 g1 g2 g3 g4 g5 g6 g7 g8
      go_wp2
      go_ret
      exact ⟨rfl, mmore gW hb4⟩
  · subst hX
    obtain rfl : V = -1 := by omega
    clear hV
    go_wp2_with fail
    refine (OV.out wb fB fA).mono ?_; rintro e wc ⟨rfl, hb3⟩
    have hS3 := keepT hb3 hS2.out
    obtain ⟨g0, g1, g2, g3, g4, g5, g6, g7, g8, gA, gB, gC, gW⟩ := hS3
    clear f0 f1 f2 f3 f4 f5 f6 f7 f8
    go_wp2_with fail
    refine (OS.out wc gA gB).mono ?_; rintro e wd ⟨rfl, hb4⟩
    clear g0 g1 g2 g3 g4 g5 g6 g7 g8
    go_wp2
    go_ret
    exact ⟨rfl, mmore gW hb4⟩

theorem laid_met (os : Os) (args : Array Value) : laidMetH Tryd.prog Rows.matchTotalRow.laid ((World.laidAll Tryd.prog os Rows.matchTotalRow.laid).forCall (fun _ _ => 0) ⟨#[], args, []⟩).memory := by
  rw [MakeChecks.laidMetH_plain _ _ _ (by kernel_rfl)]
  exact laidMet_laidAll _ (by kernel_rfl) (by kernel_rfl)
theorem gPow : Tryd.prog.globalNamed "internal/strconv.uint64pow10" = some 3 := by kernel_rfl
theorem tPow : (Tryd.prog.globals[3]?).map (·.type) = some 111 := by kernel_rfl
theorem of_laid {W : World} (h : laidMetH Tryd.prog Rows.matchTotalRow.laid W) : Lib.TabIs Tryd.prog W "internal/strconv.uint64pow10" .u64 Lib.pow10Tab := by
  rw [MakeChecks.laidMetH_plain _ _ _ (by kernel_rfl)] at h
  have h2 : laidMet Tryd.prog (("internal/strconv.uint64pow10", Lib.tabData .u64 Lib.pow10Tab) :: Rows.matchTotalRow.laid.drop 3) W := h.tail.tail
  exact Lib.tabIs_of_head gPow tPow Tryd.underlying111 Tryd.underlying61 (by kernel_rfl) (by kernel_rfl) h2

theorem gSp : Tryd.prog.globalNamed "strings.asciiSpace" = some 0 := by kernel_rfl
theorem tSp : (Tryd.prog.globals[0]?).map (·.type) = some 81 := by kernel_rfl
theorem spD : (Lib.tabData .u8 spL : DataW Unit) = Rows.laid_strings_asciiSpace := by kernel_rfl
theorem of_laid2 {W : World} (h : laidMetH Tryd.prog Rows.matchTotalRow.laid W) : Lib.TabIs Tryd.prog W "strings.asciiSpace" .u8 spL := by
  rw [MakeChecks.laidMetH_plain _ _ _ (by kernel_rfl)] at h
  have h2 : laidMet Tryd.prog (("strings.asciiSpace", Lib.tabData .u8 spL) :: Rows.matchTotalRow.laid.drop 8) W := by rw [spD]; exact h.tail.tail.tail.tail.tail.tail.tail
  exact Lib.tabIs_of_head gSp tSp Tryd.underlying81 Tryd.underlying5 (by kernel_rfl) (by kernel_rfl) h2

set_option maxRecDepth 100000 in
theorem lifted (os : Os) (started : os.Started) (H : Type) (enc : TypeId × Value → H) :
    ReturnsInHanded {} Tryd.checked os 8 .any (fun w args => (Rows.matchTotalSpec.pre enc Tryd.prog Tryd.f8 [] false w args ∧ laidMetH Tryd.prog Rows.matchTotalRow.laid w) ∧ sizedMet enc Tryd.prog Tryd.f8 (OpenSpec.ofChange Rows.matchTotalSpec) false w args) (Rows.matchTotalSpec.post enc Tryd.prog Tryd.f8 false true false false) := by
  refine returnsInHanded_of_change_and (C := Tryd.checked) (X := fun w _ => laidMetH Tryd.prog Rows.matchTotalRow.laid w) (fun _ _ _ hh h => h.of_heap hh) own started (by kernel_rfl) Tryd.func8
    (ChangeSpec.witness_shaped (enc := enc) (C := Tryd.checked) (os := os) (X := fun w _ => laidMetH Tryd.prog Rows.matchTotalRow.laid w) false (World.laidAll Tryd.prog os Rows.matchTotalRow.laid) #[.agg #[.int .i64 0, .int .i64 0, .slice none 0 0], .agg #[.int .i64 0, .int .i64 0, .slice none 0 0], .agg #[.int .i64 0, .int .i64 0, .slice none 0 0]] 8 (World.laidAll_os _ _ _) (World.shaped_of_ZipB (by kernel_rfl) (by kernel_rfl)) (by kernel_rfl) (by kernel_rfl) (by kernel_rfl) (laid_met os _)) ?_
  intro W base args ds gs before hval0 hW _ hsz0 hL _
  have hTab := of_laid hL
  have hSpT := of_laid2 hL
  have hSp := spTab_of hSpT gSp
  have hZ : 0 < W.heap.size := mblock (hSp 0 (by decide))
  clear hL
  have hsz : (DataW.weightsEach Tryd.prog (Tryd.f8.params.toList ++ Rows.matchTotalSpec.plain.varTypes Tryd.prog) (ds ++ gs)).all (· ≤ reachBytes) = true := hsz0
  clear hsz0
  have hval : ∀ (j : Nat) t v, Tryd.f8.params[j]? = some t → args[j]? = some v → Value.okWide Tryd.prog W .any base t v := hval0
  have hW' := hW
  obtain ⟨p, q, hA0, hV, rfl, hfz, hnd⟩ := hW
  have hA : DataW.TrodAll enc Tryd.prog W 0 (fun _ => true) true Tryd.f8.params.toList args.toList ds p := hA0
  rw [Tryd.params8] at hA hval hsz
  obtain ⟨v0, vs0, d0, ds0, p0, q0, hargs, rfl, rfl, h0, r0⟩ := trodAll_cons hA
  obtain ⟨v1, vs1, d1, ds1, p1, q1, rfl, rfl, rfl, h1, r1⟩ := trodAll_cons r0
  obtain ⟨v2, vs2, d2, ds2, p2, q2, rfl, rfl, rfl, h2, r2⟩ := trodAll_cons r1
  obtain ⟨rfl, rfl, rfl⟩ := trodAll_nil r2
  obtain rfl : args = #[v0, v1, v2] := by cases args; simp_all
  obtain ⟨rfl, rfl⟩ := trodVars_none hV
  have kk0 := h0
  have lt0 : ∀ x ∈ p0, x.block < W.heap.size := by obtain ⟨m, hm⟩ := kk0; exact DataW.trod_lt m _ _ _ hm
  have kk1 := h1
  have lt1 : ∀ x ∈ p1, x.block < W.heap.size := by obtain ⟨m, hm⟩ := kk1; exact DataW.trod_lt m _ _ _ hm
  have kk2 := h2
  have lt2 : ∀ x ∈ p2, x.block < W.heap.size := by obtain ⟨m, hm⟩ := kk2; exact DataW.trod_lt m _ _ _ hm
  obtain ⟨st0, br0, A0, c0, z0, rfl, ws0, wb0, w0, s0, y0⟩ := open_match (hval 0 24 v0 rfl rfl) h0 (wb_each hsz (j := 0) (t := 24) rfl rfl)
  obtain ⟨st1, br1, A1, c1, z1, rfl, ws1, wb1, w1, s1, y1⟩ := open_match (hval 1 24 v1 rfl rfl) h1 (wb_each hsz (j := 1) (t := 24) rfl rfl)
  obtain ⟨st2, br2, A2, c2, z2, rfl, ws2, wb2, w2, s2, y2⟩ := open_match (hval 2 24 v2 rfl rfl) h2 (wb_each hsz (j := 2) (t := 24) rfl rfl)
  clear hA0 hval0
  refine (walk W hTab hSp hZ st0 br0 A0 c0 z0 ws0 wb0 w0 s0 y0 st1 br1 A1 c1 z1 ws1 wb1 w1 s1 y1 st2 br2 A2 c2 z2 ws2 wb2 w2 s2 y2).mono fun e W' ⟨he, bel⟩ => ?_
  subst he
  exact ⟨_, rfl, _, _, _, [], _, [], hW', trodAll_mk1 (shut_bool Tryd.underlying4 _), (trodAll_cons_mk (Below.trod laidOut (by kernel_rfl) (of_decide_eq_true (by kernel_rfl)) kk0 bel lt0) (trodAll_cons_mk (Below.trod laidOut (by kernel_rfl) (of_decide_eq_true (by kernel_rfl)) kk1 bel lt1) (trodAll_cons_mk (Below.trod laidOut (by kernel_rfl) (of_decide_eq_true (by kernel_rfl)) kk2 bel lt2) trodAll_mk0))), rfl, bel.frame _, fun h => by cases h⟩

theorem over : Rows.matchTotalRow.holds Tryd.pinned (OpenSpec.ofChange Rows.matchTotalSpec) :=
  OpenClaim.holds_of_wide 8 Tryd.f8 rfl rfl rfl rfl rfl rfl rfl ⟨rfl, rfl, rfl, rfl, rfl⟩ rfl rfl rfl rfl rfl (by kernel_rfl) Tryd.func8 (by kernel_rfl)
    (of_decide_eq_true (by kernel_rfl)) (by unfold Func.isWrapper; first | (rw [if_pos (by decide +kernel)]; kernel_rfl) | (rw [if_neg (by decide +kernel)]; exact ⟨rfl, rfl⟩))
    (fun os started H enc _ => lifted os started H enc)

/-- the statement -/
theorem proved : Rows.MatchTotalCardSaid :=
  Claim7.holds_tied_plain_at .later [] [.data, .data, .data, .data, .sentinel, .sentinel, .listed, .data, .pinned] true (true, "adcc2ad523869b1080a35ead8d8a9f8851c72ee131aff97a222f6ecc579e3911") true
    over (fun _ h => by cases h) (by kernel_rfl) (fun _ h => by cases h) matchTotal_row_tie rfl ⟨rfl, rfl⟩ (by kernel_rfl) rfl
    (fun f fn hf hfn => by
      obtain rfl : f = 8 := Option.some.inj ((show Tryd.prog.funcNamed "auspice/auspicelaw10.MatchTotal" = some 8 by kernel_rfl).symm.trans hf) |>.symm
      obtain rfl : fn = Tryd.f8 := (Option.some.inj (Tryd.func8.symm.trans hfn)).symm
      exact ⟨by kernel_rfl, fun j t ht => by
        rw [Tryd.params8] at ht
        have hm : t ∈ [24, 24, 24] := by simpa using Array.mem_of_getElem? ht
        have hall : ([24, 24, 24].all fun u => !Tryd.prog.wantsStandIn u) = true := by kernel_rfl
        exact (show Tryd.prog.wantsStandIn t = false by simpa using List.all_eq_true.1 hall t hm)⟩)
    (by kernel_rfl)
#print axioms proved
end Go.Proofs.YtfbpaomebfleiaaDoor.matchTotal
