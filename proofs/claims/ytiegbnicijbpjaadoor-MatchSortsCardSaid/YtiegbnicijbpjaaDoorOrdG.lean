/- The program's Order, said so that a sort can take it: behind it the world is the one before it, with draws and new blocks. -/
import Derived.Test.YtiegbnicijbpjaaDoorCmpO
import Derived.Shelf.SlSortCmp.KitK
import Derived.Shelf.SlSortFuncK.HeapSortK
namespace Go.Proofs.YtiegbnicijbpjaaDoor
open Go.ChangeShapes Go.WideShapes Go.ChangeAt Go.RowKit
set_option linter.unusedVariables false
set_option linter.unusedSimpArgs false

/-- what Below leaves open is the count of draws -/
theorem grow_of {w w' : World} (h : Below w.heap.size w w') (hd : w.drawn ≤ w'.drawn) : ∃ q os, w' = Go.Sort.grow (w.drewN q) os := by
  refine ⟨w'.drawn - w.drawn, w'.heap.extract w.heap.size w'.heap.size, ?_⟩
  have hh : w'.heap = w.heap ++ w'.heap.extract w.heap.size w'.heap.size := by
    apply Array.ext_getElem?
    intro k
    have hs := h.size
    by_cases hk : k < w.heap.size
    · rw [h.block k hk, Array.getElem?_append_left hk]
    · rw [Array.getElem?_append_right (by omega), Array.getElem?_extract]
      split
      · congr 1; omega
      · rw [Array.getElem?_eq_none (by omega)]
  have h1 := h.os
  have h2 := h.tape
  have h3 := h.output
  cases w
  cases w'
  simp only [Go.Sort.grow, World.drewN] at *
  subst h1 h2 h3
  rw [← hh]
  congr 1
  omega
theorem ordKeepD {w0 w1 w2 : World} {A B : Option Addr} {p1 p2 : List (List Int)} {a0 a1 a2 a3 a4 a5 : Addr} {v0 v1 v2 v3 v4 v5 : Value} (hb : Below w1.heap.size w1 w2) (hd : w1.drawn ≤ w2.drawn)
    (h : w1.cell? a0 = some v0 ∧ w1.cell? a1 = some v1 ∧ w1.cell? a2 = some v2 ∧ w1.cell? a3 = some v3 ∧ w1.cell? a4 = some v4 ∧ w1.cell? a5 = some v5 ∧ RowsAt w1 A p1 ∧ RowsAt w1 B p2 ∧ Below w0.heap.size w0 w1 ∧ w0.drawn ≤ w1.drawn) :
    w2.cell? a0 = some v0 ∧ w2.cell? a1 = some v1 ∧ w2.cell? a2 = some v2 ∧ w2.cell? a3 = some v3 ∧ w2.cell? a4 = some v4 ∧ w2.cell? a5 = some v5 ∧ RowsAt w2 A p1 ∧ RowsAt w2 B p2 ∧ Below w0.heap.size w0 w2 ∧ w0.drawn ≤ w2.drawn :=
  ⟨cell_later hb h.1, cell_later hb h.2.1, cell_later hb h.2.2.1, cell_later hb h.2.2.2.1, cell_later hb h.2.2.2.2.1, cell_later hb h.2.2.2.2.2.1, h.2.2.2.2.2.2.1.later hb, h.2.2.2.2.2.2.2.1.later hb, mmore h.2.2.2.2.2.2.2.2.1 hb, Nat.le_trans h.2.2.2.2.2.2.2.2.2 hd⟩

set_option maxHeartbeats 4000000 in
set_option maxRecDepth 100000 in
theorem order_more (A B : Option Addr) (ca cb : Nat) (s1 b1 s2 b2 : Int) (p1 p2 : List (List Int)) (w : World) (hA : RowsAt w A p1) (hB : RowsAt w B p2) (hx : p1.length ≤ 9223372036854775806) (hy : p2.length ≤ 9223372036854775806) (hx2 : ∀ l ∈ p1, l.length ≤ 9223372036854775806) (hy2 : ∀ l ∈ p2, l.length ≤ 9223372036854775806) :
    Calls Tryd.prog 13 #[matV s1 b1 A p1.length ca, matV s2 b2 B p2.length cb] w fun e w' => e = .returned (.int .i64 (ordM s1 b1 p1 s2 b2 p2)) ∧ Below w.heap.size w w' ∧ w.drawn ≤ w'.drawn := by
  have bu := m2 w (matO s1 b1 A p1.length ca) (matO s2 b2 B p2.length cb)
  have base : ((w.alloc (matO s1 b1 A p1.length ca)).alloc (matO s2 b2 B p2.length cb)).cell? ⟨w.heap.size, 0, none⟩ = some (.int .i64 s1) ∧ ((w.alloc (matO s1 b1 A p1.length ca)).alloc (matO s2 b2 B p2.length cb)).cell? ⟨w.heap.size, 1, none⟩ = some (.int .i64 b1) ∧ ((w.alloc (matO s1 b1 A p1.length ca)).alloc (matO s2 b2 B p2.length cb)).cell? ⟨w.heap.size, 2, none⟩ = some (.slice A p1.length ca) ∧
      ((w.alloc (matO s1 b1 A p1.length ca)).alloc (matO s2 b2 B p2.length cb)).cell? ⟨w.heap.size + 1, 0, none⟩ = some (.int .i64 s2) ∧ ((w.alloc (matO s1 b1 A p1.length ca)).alloc (matO s2 b2 B p2.length cb)).cell? ⟨w.heap.size + 1, 1, none⟩ = some (.int .i64 b2) ∧ ((w.alloc (matO s1 b1 A p1.length ca)).alloc (matO s2 b2 B p2.length cb)).cell? ⟨w.heap.size + 1, 2, none⟩ = some (.slice B p2.length cb) ∧
      RowsAt ((w.alloc (matO s1 b1 A p1.length ca)).alloc (matO s2 b2 B p2.length cb)) A p1 ∧ RowsAt ((w.alloc (matO s1 b1 A p1.length ca)).alloc (matO s2 b2 B p2.length cb)) B p2 ∧ Below w.heap.size w ((w.alloc (matO s1 b1 A p1.length ca)).alloc (matO s2 b2 B p2.length cb)) ∧ w.drawn ≤ ((w.alloc (matO s1 b1 A p1.length ca)).alloc (matO s2 b2 B p2.length cb)).drawn :=
    ⟨by simp [go_sem], by simp [go_sem], by simp [go_sem], by simp [go_sem], by simp [go_sem], by simp [go_sem], hA.later bu, hB.later bu, bu, Nat.le_refl _⟩
  unfold ordM
  replace hx2 := Lib.hid hx2
  replace hy2 := Lib.hid hy2
  clear hA hB bu
  go_enter Tryd.func13, Tryd.ntmps13
  go_wp2_with fail
  generalize (w.alloc (matO s1 b1 A p1.length ca)).alloc (matO s2 b2 B p2.length cb) = u at *
  have base' := base
  obtain ⟨d0, d1, d2, d3, d4, d5, dA, dB, dW, dD⟩ := base'
  go_region_held3 (fun w' => w'.cell? ⟨w.heap.size, 0, none⟩ = some (.int .i64 s1) ∧ w'.cell? ⟨w.heap.size, 1, none⟩ = some (.int .i64 b1) ∧ w'.cell? ⟨w.heap.size, 2, none⟩ = some (.slice A p1.length ca) ∧ w'.cell? ⟨w.heap.size + 1, 0, none⟩ = some (.int .i64 s2) ∧ w'.cell? ⟨w.heap.size + 1, 1, none⟩ = some (.int .i64 b2) ∧ w'.cell? ⟨w.heap.size + 1, 2, none⟩ = some (.slice B p2.length cb) ∧ RowsAt w' A p1 ∧ RowsAt w' B p2 ∧ Below w.heap.size w w' ∧ w.drawn ≤ w'.drawn)
    (first | exact ⟨d0, d1, d2, d3, d4, d5, dA, dB, dW.drew, Nat.le_succ_of_le dD⟩ | exact ordKeepD (m1 u _).drew (Nat.le_succ _) base | go_keep | assumption)
    (first
      | (go_at_call 22; refine (Tryd.cmp_Compare_int _ _ _).mono ?_; rintro e w1 ⟨rfl, rfl⟩)
      | (go_at_call 23; refine (rcompare_any A B ca cb p1 p2 _ (by first | assumption | exact rowsL (by assumption)) (by first | assumption | exact rowsR (by assumption)) hx hy hx2.out hy2.out).mono ?_; rintro e w1 ⟨rfl, rfl⟩)
      | (go_at_call 21; refine (or3_made _ _ _ _).mono ?_; rintro e w1 ⟨rfl, rfl⟩))
  rename_i hS
  have hBz := hS.2.2.2.2.2.2.2.2
  replace hBz := Lib.hid hBz
  clear hS base d0 d1 d2 d3 d4 d5 dA dB dW dD
  go_wp2
  go_ret
  exact ⟨rfl, hBz.out⟩


/-- a match as it is handed about: what it says, where its rows lie -/
structure MV where
  st : Int
  br : Int
  rows : List (List Int)
  A : Option Addr
  cap : Nat
instance : Inhabited MV := ⟨⟨0, 0, [], none, 0⟩⟩
def MV.enc (m : MV) : List Value := [.int .i64 m.st, .int .i64 m.br, .slice m.A m.rows.length m.cap]
def MV.says (m : MV) : Int × Int × List (List Int) := (m.st, m.br, m.rows)
def cmpS (x y : Int × Int × List (List Int)) : Int := ordM x.1 x.2.1 x.2.2 y.1 y.2.1 y.2.2
/-- rows that lie in other blocks than b0 -/
def RowsOff (b0 : Nat) (w : World) (A : Option Addr) (kss : List (List Int)) : Prop := 0 < kss.length → ∃ b off, A = some ⟨b, off, none⟩ ∧ b ≠ b0 ∧
  ∀ (i : Nat) (ks : List Int), kss[i]? = some ks → ∃ A2 c2, w.cell? ⟨b, off + i, none⟩ = some (.slice A2 ks.length c2) ∧
    (0 < ks.length → ∃ b2 off2, A2 = some ⟨b2, off2, none⟩ ∧ b2 ≠ b0 ∧ ∀ (j : Nat) (z : Int), ks[j]? = some z → w.cell? ⟨b2, off2 + j, none⟩ = some (.int .i64 z))
theorem RowsOff.at {b0 : Nat} {w : World} {A : Option Addr} {kss : List (List Int)} (h : RowsOff b0 w A kss) : RowsAt w A kss := fun hp => by
  obtain ⟨b, off, e, _, h⟩ := h hp
  refine ⟨b, off, e, fun i ks hi => ?_⟩
  obtain ⟨A2, c2, h0, h1⟩ := h i ks hi
  refine ⟨_, h0, A2, c2, rfl, fun hq => ?_⟩
  obtain ⟨b2, off2, e2, _, h2⟩ := h1 hq
  exact ⟨b2, off2, e2, h2⟩
theorem RowsOff.kept {b0 : Nat} {w w1 : World} {A : Option Addr} {kss : List (List Int)} (h : RowsOff b0 w A kss) (hk : ∀ a : Addr, a.block ≠ b0 → a.block < w.heap.size → w1.cell? a = w.cell? a) : RowsOff b0 w1 A kss := fun hp => by
  obtain ⟨b, off, e, hn, h⟩ := h hp
  refine ⟨b, off, e, hn, fun i ks hi => ?_⟩
  obtain ⟨A2, c2, h0, h1⟩ := h i ks hi
  refine ⟨A2, c2, by rw [hk _ hn (mblock h0)]; exact h0, fun hq => ?_⟩
  obtain ⟨b2, off2, e2, hn2, h2⟩ := h1 hq
  refine ⟨b2, off2, e2, hn2, fun j z hj => ?_⟩
  have h3 := h2 j z hj
  rw [hk _ hn2 (mblock h3)]
  exact h3
/-- the match at a place of a list; behind its end an empty one -/
def mAt (ms : List MV) (i : Nat) : MV := ms[i]?.getD default
/-- the order on places of a list of matches -/
def cfN (ms : List MV) (i j : Nat) : Int := cmpS (mAt ms i).says (mAt ms j).says
theorem cmpOk_S : CmpOk cmpS := cmpOk_M
theorem swo_cmp {α β : Type} {f : β → β → Int} (h : CmpOk f) (g : α → β) : Go.Sort.SWO (Go.Proofs.ltOf fun i j => f (g i) (g j)) := by
  refine ⟨fun i => ?_, fun i j k => ?_, fun i j k => ?_⟩
  · have := h.s (g i) (g i)
    show decide (f (g i) (g i) < 0) = false
    rw [decide_eq_false_iff_not]
    omega
  · show decide (f (g i) (g j) < 0) = true → decide (f (g j) (g k) < 0) = true → decide (f (g i) (g k) < 0) = true
    simp only [decide_eq_true_eq]
    intro h1 h2
    have := h.lt (x := g i) (y := g j) (z := g k) (by omega) (by omega) (.inl (by omega))
    omega
  · show decide (f (g i) (g j) < 0) = false → decide (f (g j) (g k) < 0) = false → decide (f (g i) (g k) < 0) = false
    simp only [decide_eq_false_iff_not]
    intro h1 h2
    have s1 := h.s (g i) (g j)
    have s2 := h.s (g j) (g k)
    have s3 := h.s (g i) (g k)
    have := h.t (g k) (g j) (g i) (by omega) (by omega)
    omega
theorem swo_cf (ms : List MV) : Go.Sort.SWO (Go.Proofs.ltOf (cfN ms)) := swo_cmp cmpOk_S fun i => (mAt ms i).says
/-- the cells of the match at a place -/
def encN (ms : List MV) (i : Nat) : List Value := (mAt ms i).enc
set_option maxHeartbeats 1000000 in
/-- the program's Order, as a sort of matches asks it -/
theorem order_lays (ms : List MV) (blk off size : Nat) (w : World) (hR : ∀ i, RowsOff blk w (mAt ms i).A (mAt ms i).rows) (hx : ∀ i, (mAt ms i).rows.length ≤ 9223372036854775806) (hx2 : ∀ i, ∀ l ∈ (mAt ms i).rows, l.length ≤ 9223372036854775806) :
    Go.Proofs.CmpLays Tryd.prog 13 #[] (encN ms) 3 (cfN ms) blk off size w := by
  intro m os dk hs x y
  have hk : ∀ a : Addr, a.block ≠ blk → a.block < w.heap.size → (Go.Proofs.sortWorldK (encN ms) 3 w blk off m dk os).cell? a = w.cell? a := fun a h1 h2 => cell?_sortWorldK_other _ _ _ _ _ _ _ _ _ h1 h2
  refine (order_more _ _ _ _ _ _ _ _ _ _ _ ((hR x).kept hk).at ((hR y).kept hk).at (hx x) (hx y) (hx2 x) (hx2 y)).mono ?_
  rintro e w' ⟨rfl, hb, hd⟩
  exact ⟨rfl, grow_of hb hd⟩
end Go.Proofs.YtiegbnicijbpjaaDoor
