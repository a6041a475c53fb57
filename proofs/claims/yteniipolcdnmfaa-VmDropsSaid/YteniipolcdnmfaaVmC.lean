/- What each instruction does to the machine, as contracts. -/
import Derived.Test.YteniipolcdnmfaaVmB
namespace Go.Proofs.Yteniipolcdnmfaa
open Go.ChangeShapes Go.WideShapes Go.ChangeAt Go.RowKit Go.Fl
set_option linter.unusedVariables false
set_option linter.unusedSimpArgs false

/-- where a machine lies: its block, the blocks of its registers and slots, what it is handed -/
structure MP where
  M : Nat
  gr : Nat
  gs : Nat
  nr : Nat
  ns : Nat
  iA : Option Addr
  iN : Nat
  iC : Nat
  ins : List VN
  cA : Option Addr
  cN : Nat
  cC : Nat
  cs : List VN
structure MC (m : MP) (s : List VN × List VN) (w : World) : Prop where
  cells : w.cell? ⟨m.M, 0, none⟩ = some (.slice (some ⟨m.gr, 0, none⟩) m.nr m.nr) ∧ w.cell? ⟨m.M, 1, none⟩ = some (.slice (some ⟨m.gs, 0, none⟩) m.ns m.ns) ∧ w.cell? ⟨m.M, 2, none⟩ = some (.slice m.iA m.iN m.iC) ∧ w.cell? ⟨m.M, 3, none⟩ = some (.slice m.cA m.cN m.cC)
  rgR : Rg w m.gr s.1
  rgS : Rg w m.gs s.2
  lenR : s.1.length = m.nr
  lenS : s.2.length = m.ns
  nr64 : m.nr ≤ 9223372036854775807
  ns64 : m.ns ≤ 9223372036854775807
  rowI : RowV w m.iA m.iN m.ins
  in64 : m.iN ≤ 9223372036854775807
  rowC : RowV w m.cA m.cN m.cs
  cn64 : m.cN ≤ 9223372036854775807
  ok : OkL s.1 ∧ OkL s.2
  apart : m.gr ≠ m.gs
theorem MC.rowR {m : MP} {s : List VN × List VN} {w : World} (h : MC m s w) : RowV w (some ⟨m.gr, 0, none⟩) m.nr s.1 := by
  have := h.rgR.row fun v hv => (h.ok.1 v hv).2
  rw [h.lenR] at this; exact this
theorem MC.rowS {m : MP} {s : List VN × List VN} {w : World} (h : MC m s w) : RowV w (some ⟨m.gs, 0, none⟩) m.ns s.2 := by
  have := h.rgS.row fun v hv => (h.ok.2 v hv).2
  rw [h.lenS] at this; exact this
theorem keepM {m : MP} {s : List VN × List VN} {w w' : World} (hb : Below w.heap.size w w') (h : MC m s w) : MC m s w' :=
  { h with
    cells := ⟨cell_later hb h.cells.1, cell_later hb h.cells.2.1, cell_later hb h.cells.2.2.1, cell_later hb h.cells.2.2.2⟩
    rgR := h.rgR.kept hb
    rgS := h.rgS.kept hb
    rowI := h.rowI.later hb
    rowC := h.rowC.later hb }
theorem keepC {m : MP} {s : List VN × List VN} {x : I4} {g : Nat} {w w1 w' : World} (hb : Below w1.heap.size w1 w') (h : MC m s w1 ∧ InsAt w1 g x ∧ Below w.heap.size w w1) : MC m s w' ∧ InsAt w' g x ∧ Below w.heap.size w w' :=
  ⟨keepM hb h.1, h.2.1.later hb, below_more h.2.2 hb⟩
theorem insAt_new (w : World) (x : I4) : InsAt (w.alloc (.cells #[.int .i64 x.1, .int .i64 x.2.1, .int .i64 x.2.2.1, .int .i64 x.2.2.2] 42)) w.heap.size x := ⟨by simp, by simp, by simp, by simp⟩
/-- a list of one value, of two values, that was made -/
def TwoW (p q : VN) : Value → World → Prop := fun v w => ∃ g, v = .slice (some ⟨g, 0, none⟩) 2 2 ∧ RowV w (some ⟨g, 0, none⟩) 2 [p, q]
theorem twow_mono (p q : VN) : G.MonoW (TwoW p q) := fun _ _ _ ⟨g, e, h⟩ hb => ⟨g, e, h.later hb⟩
def SglW (p : VN) : Value → World → Prop := fun v w => ∃ g, v = .slice (some ⟨g, 0, none⟩) 1 1 ∧ RowV w (some ⟨g, 0, none⟩) 1 [p]
theorem sglw_mono (p : VN) : G.MonoW (SglW p) := fun _ _ _ ⟨g, e, h⟩ hb => ⟨g, e, h.later hb⟩

/-- nothing below has changed but these two blocks -/
structure ButRS (a b : Nat) (w w' : World) : Prop where
  os : w'.os = w.os
  tape : w'.tape = w.tape
  output : w'.output = w.output
  size : w.heap.size ≤ w'.heap.size
  block : ∀ k, k < w.heap.size → k ≠ a → k ≠ b → w'.heap[k]? = w.heap[k]?
theorem ButRS.trans {a b : Nat} {w w1 w2 : World} (h : ButRS a b w w1) (h2 : ButRS a b w1 w2) : ButRS a b w w2 :=
  ⟨h2.os.trans h.os, h2.tape.trans h.tape, h2.output.trans h.output, Nat.le_trans h.size h2.size, fun k hk ha hb => (h2.block k (Nat.lt_of_lt_of_le hk h.size) ha hb).trans (h.block k hk ha hb)⟩
theorem ButRS.of_below {a b : Nat} {w w1 : World} (h : Below w.heap.size w w1) : ButRS a b w w1 := ⟨h.os, h.tape, h.output, h.size, fun k hk _ _ => h.block k hk⟩
theorem ButRS.of_left {a b : Nat} {w w1 : World} (h : w.grownBy w1 (some a)) : ButRS a b w w1 := ⟨h.os, h.tape, h.output, h.size, fun k hk ha _ => h.block k hk (fun e => by injection e with e; exact ha e)⟩
theorem ButRS.of_right {a b : Nat} {w w1 : World} (h : w.grownBy w1 (some b)) : ButRS a b w w1 := ⟨h.os, h.tape, h.output, h.size, fun k hk _ hb => h.block k hk (fun e => by injection e with e; exact hb e)⟩
theorem ButRS.below {a b : Nat} {w0 w w1 : World} (h : ButRS a b w w1) (hb : Below w0.heap.size w0 w) (ha : w0.heap.size ≤ a) (hb2 : w0.heap.size ≤ b) : Below w0.heap.size w0 w1 :=
  ⟨h.os.trans hb.os, h.tape.trans hb.tape, h.output.trans hb.output, Nat.le_trans hb.size h.size, fun k hk => (h.block k (Nat.lt_of_lt_of_le hk hb.size) (by omega) (by omega)).trans (hb.block k hk)⟩
/-- the machine is at this state -/
def DOut (m : MP) (s : List VN × List VN) (w : World) (e : Ending) (w' : World) : Prop := e = .returned (.tuple #[]) ∧ Rg w' m.gr s.1 ∧ Rg w' m.gs s.2 ∧ ButRS m.gr m.gs w w'
theorem MC.endR {m : MP} {s : List VN × List VN} {w w1 w2 : World} {l : List VN} (h : MC m s w1) (hB : Below w.heap.size w w1) (hR : Rg w2 m.gr l) (hG : w1.grownBy w2 (some m.gr)) : DOut m (l, s.2) w (.returned (.tuple #[])) w2 :=
  ⟨rfl, hR, h.rgS.grown hG (fun e => by injection e with e; exact h.apart e.symm), (ButRS.of_below hB).trans (.of_left hG)⟩
theorem MC.endS {m : MP} {s : List VN × List VN} {w w1 w2 : World} {l : List VN} (h : MC m s w1) (hB : Below w.heap.size w w1) (hR : Rg w2 m.gs l) (hG : w1.grownBy w2 (some m.gs)) : DOut m (s.1, l) w (.returned (.tuple #[])) w2 :=
  ⟨rfl, h.rgR.grown hG (fun e => by injection e with e; exact h.apart e), hR, (ButRS.of_below hB).trans (.of_right hG)⟩

set_option maxHeartbeats 4000000 in
theorem mone_any (m : MP) (s : List VN × List VN) (x : I4) (w : World) (hm0 : MC m s w) (hx : opsP x.1 = 1) :
    Calls Try.prog 28 #[.pointer (some ⟨m.M, 0, none⟩), insV x] w (DOut m (stepP m.ins m.cs s x) w) := by
  have hm := keepM (m1 w (.cells #[.int .i64 x.1, .int .i64 x.2.1, .int .i64 x.2.2.1, .int .i64 x.2.2.2] 42)) hm0
  have hi := insAt_new w x
  have hok := hm0.ok
  clear hm0
  replace hx := Lib.hid hx
  show Calls _ _ #[.pointer (some ⟨m.M, 0, none⟩), .agg #[.int .i64 x.1, .int .i64 x.2.1, .int .i64 x.2.2.1, .int .i64 x.2.2.2]] _ _
  go_enter Try.func28, Try.ntmps28
  go_upto_region 1 with (fail)
  have KD := G.keepsD_true []
  have KC : G.KeepsC (fun w' => MC m s w' ∧ InsAt w' w.heap.size x ∧ Below w.heap.size w w') := fun _ _ h hb => keepC hb h
  refine G.region_wordsG 17 (fun w' => MC m s w' ∧ InsAt w' w.heap.size x ∧ Below w.heap.size w w') (fun _ _ => True) [G.isW (.pointer (some ⟨m.M, 0, none⟩)), G.isW (.pointer (some ⟨m.M, 0, none⟩)), G.isW (.pointer (some ⟨m.M, 0, none⟩)), G.isW (.slice (some ⟨m.gr, 0, none⟩) m.nr m.nr), G.isW (.pointer (some ⟨w.heap.size, 1, none⟩)), G.isW (.int .i64 x.2.1), G.isW (.pointer (some ⟨w.heap.size, 0, none⟩)), G.isW (.int .i64 x.1), G.isW (.pointer (some ⟨m.M, 0, none⟩)), G.isW (.pointer (some ⟨m.M, 0, none⟩)), G.isW (.pointer (some ⟨m.M, 0, none⟩)), G.isW (.slice (some ⟨m.gr, 0, none⟩) m.nr m.nr), G.isW (.pointer (some ⟨w.heap.size, 2, none⟩)), G.isW (.int .i64 x.2.2.1), G.isW (.agg #[.int .i64 (rdV s.1 x.2.2.1).1, .int .u64 ((rdV s.1 x.2.2.1).2 : Int)]), SglW (rdV s.1 x.2.2.1), G.isW (.agg #[.int .i64 (appP x.1 [rdV s.1 x.2.2.1]).1, .int .u64 ((appP x.1 [rdV s.1 x.2.2.1]).2 : Int)])] (by kernel_rfl) (by repeat' (first | exact G.monoL_nil | exact G.is_mono _ | exact G.any_mono | exact twow_mono _ _ | exact sglw_mono _ | refine G.monoL_cons ?_ ?_)) (by kernel_rfl) (by kernel_rfl) ⟨keepM (Below.refl _ _).drew hm, hi, (m1 w _).drew⟩ trivial ?_ ?_
  ·
    refine G.stepsL_cons (fun a u hc hdd hd hk hdep => ?_) ?_
    ·
      have d0 : (a.tmps[0]?).getD undef = (.pointer (some ⟨m.M, 0, none⟩)) := hk 0 (by kernel_rfl)
      refine G.step_val KC KD hc hdd rfl (.pointer (some ⟨m.M, 0, none⟩)) u (G.wanted_plain rfl) ?_ rfl (Below.refl _ _)
      first | (go_simp; done) | rfl | (simp [go_sem, *]; done)
    refine G.stepsL_cons (fun a u hc hdd hd hk hdep => ?_) ?_
    ·
      have d4 : (a.tmps[4]?).getD undef = (.pointer (some ⟨m.M, 0, none⟩)) := hdep ⟨0, .data⟩ (by simp) rfl
      refine G.step_val KC KD hc hdd rfl (.pointer (some ⟨m.M, 0, none⟩)) u (G.wanted_plain rfl) ?_ rfl (Below.refl _ _)
      first | (go_simp; done) | rfl | (simp [go_sem, *]; done)
    refine G.stepsL_cons (fun a u hc hdd hd hk hdep => ?_) ?_
    ·
      have d5 : (a.tmps[5]?).getD undef = (.pointer (some ⟨m.M, 0, none⟩)) := hdep ⟨1, .data⟩ (by simp) rfl
      refine G.step_val KC KD hc hdd rfl (.pointer (some ⟨m.M, 0, none⟩)) u (G.wanted_plain rfl) ?_ rfl (Below.refl _ _)
      first | (go_simp; done) | rfl | (simp [go_sem, *]; done)
    refine G.stepsL_cons (fun a u hc hdd hd hk hdep => ?_) ?_
    ·
      have d6 : (a.tmps[6]?).getD undef = (.pointer (some ⟨m.M, 0, none⟩)) := hdep ⟨2, .data⟩ (by simp) rfl
      refine G.step_val KC KD hc hdd rfl (.slice (some ⟨m.gr, 0, none⟩) m.nr m.nr) u (G.wanted_plain rfl) ?_ rfl (Below.refl _ _)
      obtain ⟨s0, s1, s2, s3⟩ := hc.1.cells
      obtain ⟨i0, i1, i2, i3⟩ := hc.2.1
      first | (go_simp; done) | rfl | (simp [go_sem, *]; done)
    refine G.stepsL_cons (fun a u hc hdd hd hk hdep => ?_) ?_
    ·
      have d3 : (a.tmps[3]?).getD undef = (.pointer (some ⟨w.heap.size, 0, none⟩)) := hk 3 (by kernel_rfl)
      refine G.step_val KC KD hc hdd rfl (.pointer (some ⟨w.heap.size, 1, none⟩)) u (G.wanted_plain rfl) ?_ rfl (Below.refl _ _)
      first | (go_simp; done) | rfl | (simp [go_sem, *]; done)
    refine G.stepsL_cons (fun a u hc hdd hd hk hdep => ?_) ?_
    ·
      have d8 : (a.tmps[8]?).getD undef = (.pointer (some ⟨w.heap.size, 1, none⟩)) := hdep ⟨4, .data⟩ (by simp) rfl
      refine G.step_val KC KD hc hdd rfl (.int .i64 x.2.1) u (G.wanted_plain rfl) ?_ rfl (Below.refl _ _)
      obtain ⟨s0, s1, s2, s3⟩ := hc.1.cells
      obtain ⟨i0, i1, i2, i3⟩ := hc.2.1
      first | (go_simp; done) | rfl | (simp [go_sem, *]; done)
    refine G.stepsL_cons (fun a u hc hdd hd hk hdep => ?_) ?_
    ·
      have d3 : (a.tmps[3]?).getD undef = (.pointer (some ⟨w.heap.size, 0, none⟩)) := hk 3 (by kernel_rfl)
      refine G.step_val KC KD hc hdd rfl (.pointer (some ⟨w.heap.size, 0, none⟩)) u (G.wanted_plain rfl) ?_ rfl (Below.refl _ _)
      first | (go_simp; done) | rfl | (simp [go_sem, *]; done)
    refine G.stepsL_cons (fun a u hc hdd hd hk hdep => ?_) ?_
    ·
      have d10 : (a.tmps[10]?).getD undef = (.pointer (some ⟨w.heap.size, 0, none⟩)) := hdep ⟨6, .data⟩ (by simp) rfl
      refine G.step_val KC KD hc hdd rfl (.int .i64 x.1) u (G.wanted_plain rfl) ?_ rfl (Below.refl _ _)
      obtain ⟨s0, s1, s2, s3⟩ := hc.1.cells
      obtain ⟨i0, i1, i2, i3⟩ := hc.2.1
      first | (go_simp; done) | rfl | (simp [go_sem, *]; done)
    refine G.stepsL_cons (fun a u hc hdd hd hk hdep => ?_) ?_
    ·
      have d0 : (a.tmps[0]?).getD undef = (.pointer (some ⟨m.M, 0, none⟩)) := hk 0 (by kernel_rfl)
      refine G.step_val KC KD hc hdd rfl (.pointer (some ⟨m.M, 0, none⟩)) u (G.wanted_plain rfl) ?_ rfl (Below.refl _ _)
      first | (go_simp; done) | rfl | (simp [go_sem, *]; done)
    refine G.stepsL_cons (fun a u hc hdd hd hk hdep => ?_) ?_
    ·
      have d12 : (a.tmps[12]?).getD undef = (.pointer (some ⟨m.M, 0, none⟩)) := hdep ⟨8, .data⟩ (by simp) rfl
      refine G.step_val KC KD hc hdd rfl (.pointer (some ⟨m.M, 0, none⟩)) u (G.wanted_plain rfl) ?_ rfl (Below.refl _ _)
      first | (go_simp; done) | rfl | (simp [go_sem, *]; done)
    refine G.stepsL_cons (fun a u hc hdd hd hk hdep => ?_) ?_
    ·
      have d13 : (a.tmps[13]?).getD undef = (.pointer (some ⟨m.M, 0, none⟩)) := hdep ⟨9, .data⟩ (by simp) rfl
      refine G.step_val KC KD hc hdd rfl (.pointer (some ⟨m.M, 0, none⟩)) u (G.wanted_plain rfl) ?_ rfl (Below.refl _ _)
      first | (go_simp; done) | rfl | (simp [go_sem, *]; done)
    refine G.stepsL_cons (fun a u hc hdd hd hk hdep => ?_) ?_
    ·
      have d14 : (a.tmps[14]?).getD undef = (.pointer (some ⟨m.M, 0, none⟩)) := hdep ⟨10, .data⟩ (by simp) rfl
      refine G.step_val KC KD hc hdd rfl (.slice (some ⟨m.gr, 0, none⟩) m.nr m.nr) u (G.wanted_plain rfl) ?_ rfl (Below.refl _ _)
      obtain ⟨s0, s1, s2, s3⟩ := hc.1.cells
      obtain ⟨i0, i1, i2, i3⟩ := hc.2.1
      first | (go_simp; done) | rfl | (simp [go_sem, *]; done)
    refine G.stepsL_cons (fun a u hc hdd hd hk hdep => ?_) ?_
    ·
      have d3 : (a.tmps[3]?).getD undef = (.pointer (some ⟨w.heap.size, 0, none⟩)) := hk 3 (by kernel_rfl)
      refine G.step_val KC KD hc hdd rfl (.pointer (some ⟨w.heap.size, 2, none⟩)) u (G.wanted_plain rfl) ?_ rfl (Below.refl _ _)
      first | (go_simp; done) | rfl | (simp [go_sem, *]; done)
    refine G.stepsL_cons (fun a u hc hdd hd hk hdep => ?_) ?_
    ·
      have d16 : (a.tmps[16]?).getD undef = (.pointer (some ⟨w.heap.size, 2, none⟩)) := hdep ⟨12, .data⟩ (by simp) rfl
      refine G.step_val KC KD hc hdd rfl (.int .i64 x.2.2.1) u (G.wanted_plain rfl) ?_ rfl (Below.refl _ _)
      obtain ⟨s0, s1, s2, s3⟩ := hc.1.cells
      obtain ⟨i0, i1, i2, i3⟩ := hc.2.1
      first | (go_simp; done) | rfl | (simp [go_sem, *]; done)
    refine G.stepsL_cons (fun a u hc hdd hd hk hdep => ?_) ?_
    ·
      have d15 : (a.tmps[15]?).getD undef = (.slice (some ⟨m.gr, 0, none⟩) m.nr m.nr) := hdep ⟨11, .data⟩ (by simp) rfl
      have d17 : (a.tmps[17]?).getD undef = (.int .i64 x.2.2.1) := hdep ⟨13, .data⟩ (by simp) rfl
      refine G.step_call KC KD hc hdd rfl 19 #[.slice (some ⟨m.gr, 0, none⟩) m.nr m.nr, .int .i64 x.2.2.1] (G.wanted_plain rfl) (by first | (go_simp; done) | rfl) ?_
      exact (vread_any _ _ _ s.1 x.2.2.1 u hc.1.rowR hc.1.nr64).mono (by rintro e w' ⟨rfl, hb⟩; exact ⟨_, rfl, rfl, hb⟩)
    refine G.stepsL_cons (fun a u hc hdd hd hk hdep => ?_) ?_
    ·
      have d18 : (a.tmps[18]?).getD undef = (.agg #[.int .i64 (rdV s.1 x.2.2.1).1, .int .u64 ((rdV s.1 x.2.2.1).2 : Int)]) := hdep ⟨14, .data⟩ (by simp) rfl
      refine G.step_val KC KD hc hdd rfl (.slice (some ⟨u.heap.size, 0, none⟩) 1 1) (u.alloc (.cells #[.int .i64 (rdV s.1 x.2.2.1).1, .int .u64 ((rdV s.1 x.2.2.1).2 : Int)] 34)) (G.wanted_plain rfl) ?_ ⟨u.heap.size, rfl, row_one (k1 := (rdV s.1 x.2.2.1).1) (b1 := (rdV s.1 x.2.2.1).2) (hok.1.rd x.2.2.1).2 (by simp [go_sem]) (by simp [go_sem])⟩ (m1 _ _)
      first | (go_simp; done) | rfl | (simp [go_sem, *]; done)
    refine G.stepsL_cons (fun a u hc hdd hd hk hdep => ?_) ?_
    ·
      have d11 : (a.tmps[11]?).getD undef = (.int .i64 x.1) := hdep ⟨7, .data⟩ (by simp) rfl
      have d19' : (SglW (rdV s.1 x.2.2.1)) ((a.tmps[19]?).getD undef) u := hdep ⟨15, .data⟩ (by simp) rfl
      obtain ⟨gp, d19, hp⟩ := d19'
      refine G.step_call KC KD hc hdd rfl 44 #[.int .i64 x.1, .slice (some ⟨gp, 0, none⟩) 1 1] (G.wanted_plain rfl) (by first | (go_simp; done) | rfl) ?_
      exact (apply_any x.1 (some ⟨gp, 0, none⟩) 1 1 [rdV s.1 x.2.2.1] u hp).mono (by rintro e w' ⟨rfl, hb⟩; exact ⟨_, rfl, rfl, hb⟩)
    exact G.stepsL_nil
  intro vs' wN hN _ hh
  have eL : vs' 16 = (.agg #[.int .i64 (appP x.1 [rdV s.1 x.2.2.1]).1, .int .u64 ((appP x.1 [rdV s.1 x.2.2.1]).2 : Int)]) := by
    obtain ⟨-, -, -, -, -, -, -, -, -, -, -, -, -, -, -, -, eX, -⟩ := hh
    exact eX
  have eD : vs' 5 = (.int .i64 x.2.1) := by
    obtain ⟨-, -, -, -, -, eX, -⟩ := hh
    exact eX
  have eR : vs' 3 = (.slice (some ⟨m.gr, 0, none⟩) m.nr m.nr) := by
    obtain ⟨-, -, -, eX, -⟩ := hh
    exact eX
  clear hh
  set_option maxRecDepth 100000 in simp only [List.take_succ_cons, List.take_zero, putAll, Act.put, List.setIfInBounds_toArray, List.set_cons_zero, List.set_cons_succ, Nat.reduceAdd, eL, eD, eR]
  obtain ⟨hN, -, hB⟩ := hN
  clear hm hi eL eD eR
  have hE := Lib.hid (show stepP m.ins m.cs s x = (wrV s.1 x.2.1 (appP x.1 [rdV s.1 x.2.2.1]), s.2) by unfold stepP; rw [if_pos hx.out])
  have W := Lib.hid (vwrite_any m.gr m.nr m.nr s.1 x.2.1 (appP x.1 [rdV s.1 x.2.2.1]) wN hN.rgR hN.lenR hN.nr64)
  generalize (appP x.1 [rdV s.1 x.2.2.1]) = v at *
  refine wpAny_ready (rs := [17]) (by kernel_rfl) (by simp) ?_
  refine AllReady.cons rfl (fun K hK => ?_) AllReady.nil
  go_simp
  refine W.out.mono ?_; rintro e w2 ⟨rfl, hR, hG⟩
  refine hK _ _ ?_
  clear hK K
  refine wpAny_done (by kernel_rfl) ?_ _
  refine bodyPost_end (results_none rfl _ _ _) rfl ?_
  rw [hE.out]
  exact hN.endR hB hR hG

set_option maxHeartbeats 4000000 in
theorem mtwo_any (m : MP) (s : List VN × List VN) (x : I4) (w : World) (hm0 : MC m s w) (hx : opsP x.1 = 2) :
    Calls Try.prog 29 #[.pointer (some ⟨m.M, 0, none⟩), insV x] w (DOut m (stepP m.ins m.cs s x) w) := by
  have hm := keepM (m1 w (.cells #[.int .i64 x.1, .int .i64 x.2.1, .int .i64 x.2.2.1, .int .i64 x.2.2.2] 42)) hm0
  have hi := insAt_new w x
  have hok := hm0.ok
  clear hm0
  replace hx := Lib.hid hx
  show Calls _ _ #[.pointer (some ⟨m.M, 0, none⟩), .agg #[.int .i64 x.1, .int .i64 x.2.1, .int .i64 x.2.2.1, .int .i64 x.2.2.2]] _ _
  go_enter Try.func29, Try.ntmps29
  go_upto_region 1 with (fail)
  have KD := G.keepsD_true []
  have KC : G.KeepsC (fun w' => MC m s w' ∧ InsAt w' w.heap.size x ∧ Below w.heap.size w w') := fun _ _ h hb => keepC hb h
  refine G.region_wordsG 24 (fun w' => MC m s w' ∧ InsAt w' w.heap.size x ∧ Below w.heap.size w w') (fun _ _ => True) [G.isW (.pointer (some ⟨m.M, 0, none⟩)), G.isW (.pointer (some ⟨m.M, 0, none⟩)), G.isW (.pointer (some ⟨m.M, 0, none⟩)), G.isW (.slice (some ⟨m.gr, 0, none⟩) m.nr m.nr), G.isW (.pointer (some ⟨w.heap.size, 1, none⟩)), G.isW (.int .i64 x.2.1), G.isW (.pointer (some ⟨w.heap.size, 0, none⟩)), G.isW (.int .i64 x.1), G.isW (.pointer (some ⟨m.M, 0, none⟩)), G.isW (.pointer (some ⟨m.M, 0, none⟩)), G.isW (.pointer (some ⟨m.M, 0, none⟩)), G.isW (.slice (some ⟨m.gr, 0, none⟩) m.nr m.nr), G.isW (.pointer (some ⟨w.heap.size, 2, none⟩)), G.isW (.int .i64 x.2.2.1), G.isW (.agg #[.int .i64 (rdV s.1 x.2.2.1).1, .int .u64 ((rdV s.1 x.2.2.1).2 : Int)]), G.isW (.pointer (some ⟨m.M, 0, none⟩)), G.isW (.pointer (some ⟨m.M, 0, none⟩)), G.isW (.pointer (some ⟨m.M, 0, none⟩)), G.isW (.slice (some ⟨m.gr, 0, none⟩) m.nr m.nr), G.isW (.pointer (some ⟨w.heap.size, 3, none⟩)), G.isW (.int .i64 x.2.2.2), G.isW (.agg #[.int .i64 (rdV s.1 x.2.2.2).1, .int .u64 ((rdV s.1 x.2.2.2).2 : Int)]), TwoW (rdV s.1 x.2.2.1) (rdV s.1 x.2.2.2), G.isW (.agg #[.int .i64 (appP x.1 [rdV s.1 x.2.2.1, rdV s.1 x.2.2.2]).1, .int .u64 ((appP x.1 [rdV s.1 x.2.2.1, rdV s.1 x.2.2.2]).2 : Int)])] (by kernel_rfl) (by repeat' (first | exact G.monoL_nil | exact G.is_mono _ | exact G.any_mono | exact twow_mono _ _ | exact sglw_mono _ | refine G.monoL_cons ?_ ?_)) (by kernel_rfl) (by kernel_rfl) ⟨keepM (Below.refl _ _).drew hm, hi, (m1 w _).drew⟩ trivial ?_ ?_
  ·
    refine G.stepsL_cons (fun a u hc hdd hd hk hdep => ?_) ?_
    ·
      have d0 : (a.tmps[0]?).getD undef = (.pointer (some ⟨m.M, 0, none⟩)) := hk 0 (by kernel_rfl)
      refine G.step_val KC KD hc hdd rfl (.pointer (some ⟨m.M, 0, none⟩)) u (G.wanted_plain rfl) ?_ rfl (Below.refl _ _)
      first | (go_simp; done) | rfl | (simp [go_sem, *]; done)
    refine G.stepsL_cons (fun a u hc hdd hd hk hdep => ?_) ?_
    ·
      have d4 : (a.tmps[4]?).getD undef = (.pointer (some ⟨m.M, 0, none⟩)) := hdep ⟨0, .data⟩ (by simp) rfl
      refine G.step_val KC KD hc hdd rfl (.pointer (some ⟨m.M, 0, none⟩)) u (G.wanted_plain rfl) ?_ rfl (Below.refl _ _)
      first | (go_simp; done) | rfl | (simp [go_sem, *]; done)
    refine G.stepsL_cons (fun a u hc hdd hd hk hdep => ?_) ?_
    ·
      have d5 : (a.tmps[5]?).getD undef = (.pointer (some ⟨m.M, 0, none⟩)) := hdep ⟨1, .data⟩ (by simp) rfl
      refine G.step_val KC KD hc hdd rfl (.pointer (some ⟨m.M, 0, none⟩)) u (G.wanted_plain rfl) ?_ rfl (Below.refl _ _)
      first | (go_simp; done) | rfl | (simp [go_sem, *]; done)
    refine G.stepsL_cons (fun a u hc hdd hd hk hdep => ?_) ?_
    ·
      have d6 : (a.tmps[6]?).getD undef = (.pointer (some ⟨m.M, 0, none⟩)) := hdep ⟨2, .data⟩ (by simp) rfl
      refine G.step_val KC KD hc hdd rfl (.slice (some ⟨m.gr, 0, none⟩) m.nr m.nr) u (G.wanted_plain rfl) ?_ rfl (Below.refl _ _)
      obtain ⟨s0, s1, s2, s3⟩ := hc.1.cells
      obtain ⟨i0, i1, i2, i3⟩ := hc.2.1
      first | (go_simp; done) | rfl | (simp [go_sem, *]; done)
    refine G.stepsL_cons (fun a u hc hdd hd hk hdep => ?_) ?_
    ·
      have d3 : (a.tmps[3]?).getD undef = (.pointer (some ⟨w.heap.size, 0, none⟩)) := hk 3 (by kernel_rfl)
      refine G.step_val KC KD hc hdd rfl (.pointer (some ⟨w.heap.size, 1, none⟩)) u (G.wanted_plain rfl) ?_ rfl (Below.refl _ _)
      first | (go_simp; done) | rfl | (simp [go_sem, *]; done)
    refine G.stepsL_cons (fun a u hc hdd hd hk hdep => ?_) ?_
    ·
      have d8 : (a.tmps[8]?).getD undef = (.pointer (some ⟨w.heap.size, 1, none⟩)) := hdep ⟨4, .data⟩ (by simp) rfl
      refine G.step_val KC KD hc hdd rfl (.int .i64 x.2.1) u (G.wanted_plain rfl) ?_ rfl (Below.refl _ _)
      obtain ⟨s0, s1, s2, s3⟩ := hc.1.cells
      obtain ⟨i0, i1, i2, i3⟩ := hc.2.1
      first | (go_simp; done) | rfl | (simp [go_sem, *]; done)
    refine G.stepsL_cons (fun a u hc hdd hd hk hdep => ?_) ?_
    ·
      have d3 : (a.tmps[3]?).getD undef = (.pointer (some ⟨w.heap.size, 0, none⟩)) := hk 3 (by kernel_rfl)
      refine G.step_val KC KD hc hdd rfl (.pointer (some ⟨w.heap.size, 0, none⟩)) u (G.wanted_plain rfl) ?_ rfl (Below.refl _ _)
      first | (go_simp; done) | rfl | (simp [go_sem, *]; done)
    refine G.stepsL_cons (fun a u hc hdd hd hk hdep => ?_) ?_
    ·
      have d10 : (a.tmps[10]?).getD undef = (.pointer (some ⟨w.heap.size, 0, none⟩)) := hdep ⟨6, .data⟩ (by simp) rfl
      refine G.step_val KC KD hc hdd rfl (.int .i64 x.1) u (G.wanted_plain rfl) ?_ rfl (Below.refl _ _)
      obtain ⟨s0, s1, s2, s3⟩ := hc.1.cells
      obtain ⟨i0, i1, i2, i3⟩ := hc.2.1
      first | (go_simp; done) | rfl | (simp [go_sem, *]; done)
    refine G.stepsL_cons (fun a u hc hdd hd hk hdep => ?_) ?_
    ·
      have d0 : (a.tmps[0]?).getD undef = (.pointer (some ⟨m.M, 0, none⟩)) := hk 0 (by kernel_rfl)
      refine G.step_val KC KD hc hdd rfl (.pointer (some ⟨m.M, 0, none⟩)) u (G.wanted_plain rfl) ?_ rfl (Below.refl _ _)
      first | (go_simp; done) | rfl | (simp [go_sem, *]; done)
    refine G.stepsL_cons (fun a u hc hdd hd hk hdep => ?_) ?_
    ·
      have d12 : (a.tmps[12]?).getD undef = (.pointer (some ⟨m.M, 0, none⟩)) := hdep ⟨8, .data⟩ (by simp) rfl
      refine G.step_val KC KD hc hdd rfl (.pointer (some ⟨m.M, 0, none⟩)) u (G.wanted_plain rfl) ?_ rfl (Below.refl _ _)
      first | (go_simp; done) | rfl | (simp [go_sem, *]; done)
    refine G.stepsL_cons (fun a u hc hdd hd hk hdep => ?_) ?_
    ·
      have d13 : (a.tmps[13]?).getD undef = (.pointer (some ⟨m.M, 0, none⟩)) := hdep ⟨9, .data⟩ (by simp) rfl
      refine G.step_val KC KD hc hdd rfl (.pointer (some ⟨m.M, 0, none⟩)) u (G.wanted_plain rfl) ?_ rfl (Below.refl _ _)
      first | (go_simp; done) | rfl | (simp [go_sem, *]; done)
    refine G.stepsL_cons (fun a u hc hdd hd hk hdep => ?_) ?_
    ·
      have d14 : (a.tmps[14]?).getD undef = (.pointer (some ⟨m.M, 0, none⟩)) := hdep ⟨10, .data⟩ (by simp) rfl
      refine G.step_val KC KD hc hdd rfl (.slice (some ⟨m.gr, 0, none⟩) m.nr m.nr) u (G.wanted_plain rfl) ?_ rfl (Below.refl _ _)
      obtain ⟨s0, s1, s2, s3⟩ := hc.1.cells
      obtain ⟨i0, i1, i2, i3⟩ := hc.2.1
      first | (go_simp; done) | rfl | (simp [go_sem, *]; done)
    refine G.stepsL_cons (fun a u hc hdd hd hk hdep => ?_) ?_
    ·
      have d3 : (a.tmps[3]?).getD undef = (.pointer (some ⟨w.heap.size, 0, none⟩)) := hk 3 (by kernel_rfl)
      refine G.step_val KC KD hc hdd rfl (.pointer (some ⟨w.heap.size, 2, none⟩)) u (G.wanted_plain rfl) ?_ rfl (Below.refl _ _)
      first | (go_simp; done) | rfl | (simp [go_sem, *]; done)
    refine G.stepsL_cons (fun a u hc hdd hd hk hdep => ?_) ?_
    ·
      have d16 : (a.tmps[16]?).getD undef = (.pointer (some ⟨w.heap.size, 2, none⟩)) := hdep ⟨12, .data⟩ (by simp) rfl
      refine G.step_val KC KD hc hdd rfl (.int .i64 x.2.2.1) u (G.wanted_plain rfl) ?_ rfl (Below.refl _ _)
      obtain ⟨s0, s1, s2, s3⟩ := hc.1.cells
      obtain ⟨i0, i1, i2, i3⟩ := hc.2.1
      first | (go_simp; done) | rfl | (simp [go_sem, *]; done)
    refine G.stepsL_cons (fun a u hc hdd hd hk hdep => ?_) ?_
    ·
      have d15 : (a.tmps[15]?).getD undef = (.slice (some ⟨m.gr, 0, none⟩) m.nr m.nr) := hdep ⟨11, .data⟩ (by simp) rfl
      have d17 : (a.tmps[17]?).getD undef = (.int .i64 x.2.2.1) := hdep ⟨13, .data⟩ (by simp) rfl
      refine G.step_call KC KD hc hdd rfl 19 #[.slice (some ⟨m.gr, 0, none⟩) m.nr m.nr, .int .i64 x.2.2.1] (G.wanted_plain rfl) (by first | (go_simp; done) | rfl) ?_
      exact (vread_any _ _ _ s.1 x.2.2.1 u hc.1.rowR hc.1.nr64).mono (by rintro e w' ⟨rfl, hb⟩; exact ⟨_, rfl, rfl, hb⟩)
    refine G.stepsL_cons (fun a u hc hdd hd hk hdep => ?_) ?_
    ·
      have d0 : (a.tmps[0]?).getD undef = (.pointer (some ⟨m.M, 0, none⟩)) := hk 0 (by kernel_rfl)
      refine G.step_val KC KD hc hdd rfl (.pointer (some ⟨m.M, 0, none⟩)) u (G.wanted_plain rfl) ?_ rfl (Below.refl _ _)
      first | (go_simp; done) | rfl | (simp [go_sem, *]; done)
    refine G.stepsL_cons (fun a u hc hdd hd hk hdep => ?_) ?_
    ·
      have d19 : (a.tmps[19]?).getD undef = (.pointer (some ⟨m.M, 0, none⟩)) := hdep ⟨15, .data⟩ (by simp) rfl
      refine G.step_val KC KD hc hdd rfl (.pointer (some ⟨m.M, 0, none⟩)) u (G.wanted_plain rfl) ?_ rfl (Below.refl _ _)
      first | (go_simp; done) | rfl | (simp [go_sem, *]; done)
    refine G.stepsL_cons (fun a u hc hdd hd hk hdep => ?_) ?_
    ·
      have d20 : (a.tmps[20]?).getD undef = (.pointer (some ⟨m.M, 0, none⟩)) := hdep ⟨16, .data⟩ (by simp) rfl
      refine G.step_val KC KD hc hdd rfl (.pointer (some ⟨m.M, 0, none⟩)) u (G.wanted_plain rfl) ?_ rfl (Below.refl _ _)
      first | (go_simp; done) | rfl | (simp [go_sem, *]; done)
    refine G.stepsL_cons (fun a u hc hdd hd hk hdep => ?_) ?_
    ·
      have d21 : (a.tmps[21]?).getD undef = (.pointer (some ⟨m.M, 0, none⟩)) := hdep ⟨17, .data⟩ (by simp) rfl
      refine G.step_val KC KD hc hdd rfl (.slice (some ⟨m.gr, 0, none⟩) m.nr m.nr) u (G.wanted_plain rfl) ?_ rfl (Below.refl _ _)
      obtain ⟨s0, s1, s2, s3⟩ := hc.1.cells
      obtain ⟨i0, i1, i2, i3⟩ := hc.2.1
      first | (go_simp; done) | rfl | (simp [go_sem, *]; done)
    refine G.stepsL_cons (fun a u hc hdd hd hk hdep => ?_) ?_
    ·
      have d3 : (a.tmps[3]?).getD undef = (.pointer (some ⟨w.heap.size, 0, none⟩)) := hk 3 (by kernel_rfl)
      refine G.step_val KC KD hc hdd rfl (.pointer (some ⟨w.heap.size, 3, none⟩)) u (G.wanted_plain rfl) ?_ rfl (Below.refl _ _)
      first | (go_simp; done) | rfl | (simp [go_sem, *]; done)
    refine G.stepsL_cons (fun a u hc hdd hd hk hdep => ?_) ?_
    ·
      have d23 : (a.tmps[23]?).getD undef = (.pointer (some ⟨w.heap.size, 3, none⟩)) := hdep ⟨19, .data⟩ (by simp) rfl
      refine G.step_val KC KD hc hdd rfl (.int .i64 x.2.2.2) u (G.wanted_plain rfl) ?_ rfl (Below.refl _ _)
      obtain ⟨s0, s1, s2, s3⟩ := hc.1.cells
      obtain ⟨i0, i1, i2, i3⟩ := hc.2.1
      first | (go_simp; done) | rfl | (simp [go_sem, *]; done)
    refine G.stepsL_cons (fun a u hc hdd hd hk hdep => ?_) ?_
    ·
      have d22 : (a.tmps[22]?).getD undef = (.slice (some ⟨m.gr, 0, none⟩) m.nr m.nr) := hdep ⟨18, .data⟩ (by simp) rfl
      have d24 : (a.tmps[24]?).getD undef = (.int .i64 x.2.2.2) := hdep ⟨20, .data⟩ (by simp) rfl
      refine G.step_call KC KD hc hdd rfl 19 #[.slice (some ⟨m.gr, 0, none⟩) m.nr m.nr, .int .i64 x.2.2.2] (G.wanted_plain rfl) (by first | (go_simp; done) | rfl) ?_
      exact (vread_any _ _ _ s.1 x.2.2.2 u hc.1.rowR hc.1.nr64).mono (by rintro e w' ⟨rfl, hb⟩; exact ⟨_, rfl, rfl, hb⟩)
    refine G.stepsL_cons (fun a u hc hdd hd hk hdep => ?_) ?_
    ·
      have d18 : (a.tmps[18]?).getD undef = (.agg #[.int .i64 (rdV s.1 x.2.2.1).1, .int .u64 ((rdV s.1 x.2.2.1).2 : Int)]) := hdep ⟨14, .data⟩ (by simp) rfl
      have d25 : (a.tmps[25]?).getD undef = (.agg #[.int .i64 (rdV s.1 x.2.2.2).1, .int .u64 ((rdV s.1 x.2.2.2).2 : Int)]) := hdep ⟨21, .data⟩ (by simp) rfl
      refine G.step_val KC KD hc hdd rfl (.slice (some ⟨u.heap.size, 0, none⟩) 2 2) (u.alloc (.cells #[.int .i64 (rdV s.1 x.2.2.1).1, .int .u64 ((rdV s.1 x.2.2.1).2 : Int), .int .i64 (rdV s.1 x.2.2.2).1, .int .u64 ((rdV s.1 x.2.2.2).2 : Int)] 34)) (G.wanted_plain rfl) ?_ ⟨u.heap.size, rfl, row_two (k1 := (rdV s.1 x.2.2.1).1) (k2 := (rdV s.1 x.2.2.2).1) (b1 := (rdV s.1 x.2.2.1).2) (b2 := (rdV s.1 x.2.2.2).2) (hok.1.rd x.2.2.1).2 (hok.1.rd x.2.2.2).2 (by simp [go_sem]) (by simp [go_sem]) (by simp [go_sem]) (by simp [go_sem])⟩ (m1 _ _)
      first | (go_simp; done) | rfl | (simp [go_sem, *]; done)
    refine G.stepsL_cons (fun a u hc hdd hd hk hdep => ?_) ?_
    ·
      have d11 : (a.tmps[11]?).getD undef = (.int .i64 x.1) := hdep ⟨7, .data⟩ (by simp) rfl
      have d26' : (TwoW (rdV s.1 x.2.2.1) (rdV s.1 x.2.2.2)) ((a.tmps[26]?).getD undef) u := hdep ⟨22, .data⟩ (by simp) rfl
      obtain ⟨gp, d26, hp⟩ := d26'
      refine G.step_call KC KD hc hdd rfl 44 #[.int .i64 x.1, .slice (some ⟨gp, 0, none⟩) 2 2] (G.wanted_plain rfl) (by first | (go_simp; done) | rfl) ?_
      exact (apply_any x.1 (some ⟨gp, 0, none⟩) 2 2 [rdV s.1 x.2.2.1, rdV s.1 x.2.2.2] u hp).mono (by rintro e w' ⟨rfl, hb⟩; exact ⟨_, rfl, rfl, hb⟩)
    exact G.stepsL_nil
  intro vs' wN hN _ hh
  have eL : vs' 23 = (.agg #[.int .i64 (appP x.1 [rdV s.1 x.2.2.1, rdV s.1 x.2.2.2]).1, .int .u64 ((appP x.1 [rdV s.1 x.2.2.1, rdV s.1 x.2.2.2]).2 : Int)]) := by
    obtain ⟨-, -, -, -, -, -, -, -, -, -, -, -, -, -, -, -, -, -, -, -, -, -, -, eX, -⟩ := hh
    exact eX
  have eD : vs' 5 = (.int .i64 x.2.1) := by
    obtain ⟨-, -, -, -, -, eX, -⟩ := hh
    exact eX
  have eR : vs' 3 = (.slice (some ⟨m.gr, 0, none⟩) m.nr m.nr) := by
    obtain ⟨-, -, -, eX, -⟩ := hh
    exact eX
  clear hh
  set_option maxRecDepth 100000 in simp only [List.take_succ_cons, List.take_zero, putAll, Act.put, List.setIfInBounds_toArray, List.set_cons_zero, List.set_cons_succ, Nat.reduceAdd, eL, eD, eR]
  obtain ⟨hN, -, hB⟩ := hN
  clear hm hi eL eD eR
  have hE := Lib.hid (show stepP m.ins m.cs s x = (wrV s.1 x.2.1 (appP x.1 [rdV s.1 x.2.2.1, rdV s.1 x.2.2.2]), s.2) by unfold stepP; rw [if_neg (by rw [hx.out]; decide), if_pos hx.out])
  have W := Lib.hid (vwrite_any m.gr m.nr m.nr s.1 x.2.1 (appP x.1 [rdV s.1 x.2.2.1, rdV s.1 x.2.2.2]) wN hN.rgR hN.lenR hN.nr64)
  generalize (appP x.1 [rdV s.1 x.2.2.1, rdV s.1 x.2.2.2]) = v at *
  refine wpAny_ready (rs := [24]) (by kernel_rfl) (by simp) ?_
  refine AllReady.cons rfl (fun K hK => ?_) AllReady.nil
  go_simp
  refine W.out.mono ?_; rintro e w2 ⟨rfl, hR, hG⟩
  refine hK _ _ ?_
  clear hK K
  refine wpAny_done (by kernel_rfl) ?_ _
  refine bodyPost_end (results_none rfl _ _ _) rfl ?_
  rw [hE.out]
  exact hN.endR hB hR hG

set_option maxHeartbeats 4000000 in
theorem inp_any (m : MP) (s : List VN × List VN) (x : I4) (w : World) (hm0 : MC m s w) (hx : x.1 = 50) :
    Calls Try.prog 30 #[.pointer (some ⟨m.M, 0, none⟩), insV x] w (DOut m (stepP m.ins m.cs s x) w) := by
  have hm := keepM (m1 w (.cells #[.int .i64 x.1, .int .i64 x.2.1, .int .i64 x.2.2.1, .int .i64 x.2.2.2] 42)) hm0
  have hi := insAt_new w x
  clear hm0
  replace hx := Lib.hid hx
  show Calls _ _ #[.pointer (some ⟨m.M, 0, none⟩), .agg #[.int .i64 x.1, .int .i64 x.2.1, .int .i64 x.2.2.1, .int .i64 x.2.2.2]] _ _
  go_enter Try.func30, Try.ntmps30
  go_upto_region 1 with (fail)
  have KD := G.keepsD_true []
  have KC : G.KeepsC (fun w' => MC m s w' ∧ InsAt w' w.heap.size x ∧ Below w.heap.size w w') := fun _ _ h hb => keepC hb h
  refine G.region_wordsG 14 (fun w' => MC m s w' ∧ InsAt w' w.heap.size x ∧ Below w.heap.size w w') (fun _ _ => True) [G.isW (.pointer (some ⟨m.M, 0, none⟩)), G.isW (.pointer (some ⟨m.M, 0, none⟩)), G.isW (.pointer (some ⟨m.M, 0, none⟩)), G.isW (.slice (some ⟨m.gr, 0, none⟩) m.nr m.nr), G.isW (.pointer (some ⟨w.heap.size, 1, none⟩)), G.isW (.int .i64 x.2.1), G.isW (.pointer (some ⟨m.M, 0, none⟩)), G.isW (.pointer (some ⟨m.M, 0, none⟩)), G.isW (.pointer (some ⟨m.M, 2, none⟩)), G.isW (.slice m.iA m.iN m.iC), G.isW (.pointer (some ⟨w.heap.size, 2, none⟩)), G.isW (.int .i64 x.2.2.1), G.isW (.agg #[.int .i64 (rdV m.ins x.2.2.1).1, .int .u64 ((rdV m.ins x.2.2.1).2 : Int)]), G.isW (.agg #[.int .i64 (clV (rdV m.ins x.2.2.1)).1, .int .u64 ((clV (rdV m.ins x.2.2.1)).2 : Int)])] (by kernel_rfl) (by repeat' (first | exact G.monoL_nil | exact G.is_mono _ | exact G.any_mono | exact twow_mono _ _ | exact sglw_mono _ | refine G.monoL_cons ?_ ?_)) (by kernel_rfl) (by kernel_rfl) ⟨keepM (Below.refl _ _).drew hm, hi, (m1 w _).drew⟩ trivial ?_ ?_
  ·
    refine G.stepsL_cons (fun a u hc hdd hd hk hdep => ?_) ?_
    ·
      have d0 : (a.tmps[0]?).getD undef = (.pointer (some ⟨m.M, 0, none⟩)) := hk 0 (by kernel_rfl)
      refine G.step_val KC KD hc hdd rfl (.pointer (some ⟨m.M, 0, none⟩)) u (G.wanted_plain rfl) ?_ rfl (Below.refl _ _)
      first | (go_simp; done) | rfl | (simp [go_sem, *]; done)
    refine G.stepsL_cons (fun a u hc hdd hd hk hdep => ?_) ?_
    ·
      have d4 : (a.tmps[4]?).getD undef = (.pointer (some ⟨m.M, 0, none⟩)) := hdep ⟨0, .data⟩ (by simp) rfl
      refine G.step_val KC KD hc hdd rfl (.pointer (some ⟨m.M, 0, none⟩)) u (G.wanted_plain rfl) ?_ rfl (Below.refl _ _)
      first | (go_simp; done) | rfl | (simp [go_sem, *]; done)
    refine G.stepsL_cons (fun a u hc hdd hd hk hdep => ?_) ?_
    ·
      have d5 : (a.tmps[5]?).getD undef = (.pointer (some ⟨m.M, 0, none⟩)) := hdep ⟨1, .data⟩ (by simp) rfl
      refine G.step_val KC KD hc hdd rfl (.pointer (some ⟨m.M, 0, none⟩)) u (G.wanted_plain rfl) ?_ rfl (Below.refl _ _)
      first | (go_simp; done) | rfl | (simp [go_sem, *]; done)
    refine G.stepsL_cons (fun a u hc hdd hd hk hdep => ?_) ?_
    ·
      have d6 : (a.tmps[6]?).getD undef = (.pointer (some ⟨m.M, 0, none⟩)) := hdep ⟨2, .data⟩ (by simp) rfl
      refine G.step_val KC KD hc hdd rfl (.slice (some ⟨m.gr, 0, none⟩) m.nr m.nr) u (G.wanted_plain rfl) ?_ rfl (Below.refl _ _)
      obtain ⟨s0, s1, s2, s3⟩ := hc.1.cells
      obtain ⟨i0, i1, i2, i3⟩ := hc.2.1
      first | (go_simp; done) | rfl | (simp [go_sem, *]; done)
    refine G.stepsL_cons (fun a u hc hdd hd hk hdep => ?_) ?_
    ·
      have d3 : (a.tmps[3]?).getD undef = (.pointer (some ⟨w.heap.size, 0, none⟩)) := hk 3 (by kernel_rfl)
      refine G.step_val KC KD hc hdd rfl (.pointer (some ⟨w.heap.size, 1, none⟩)) u (G.wanted_plain rfl) ?_ rfl (Below.refl _ _)
      first | (go_simp; done) | rfl | (simp [go_sem, *]; done)
    refine G.stepsL_cons (fun a u hc hdd hd hk hdep => ?_) ?_
    ·
      have d8 : (a.tmps[8]?).getD undef = (.pointer (some ⟨w.heap.size, 1, none⟩)) := hdep ⟨4, .data⟩ (by simp) rfl
      refine G.step_val KC KD hc hdd rfl (.int .i64 x.2.1) u (G.wanted_plain rfl) ?_ rfl (Below.refl _ _)
      obtain ⟨s0, s1, s2, s3⟩ := hc.1.cells
      obtain ⟨i0, i1, i2, i3⟩ := hc.2.1
      first | (go_simp; done) | rfl | (simp [go_sem, *]; done)
    refine G.stepsL_cons (fun a u hc hdd hd hk hdep => ?_) ?_
    ·
      have d0 : (a.tmps[0]?).getD undef = (.pointer (some ⟨m.M, 0, none⟩)) := hk 0 (by kernel_rfl)
      refine G.step_val KC KD hc hdd rfl (.pointer (some ⟨m.M, 0, none⟩)) u (G.wanted_plain rfl) ?_ rfl (Below.refl _ _)
      first | (go_simp; done) | rfl | (simp [go_sem, *]; done)
    refine G.stepsL_cons (fun a u hc hdd hd hk hdep => ?_) ?_
    ·
      have d10 : (a.tmps[10]?).getD undef = (.pointer (some ⟨m.M, 0, none⟩)) := hdep ⟨6, .data⟩ (by simp) rfl
      refine G.step_val KC KD hc hdd rfl (.pointer (some ⟨m.M, 0, none⟩)) u (G.wanted_plain rfl) ?_ rfl (Below.refl _ _)
      first | (go_simp; done) | rfl | (simp [go_sem, *]; done)
    refine G.stepsL_cons (fun a u hc hdd hd hk hdep => ?_) ?_
    ·
      have d11 : (a.tmps[11]?).getD undef = (.pointer (some ⟨m.M, 0, none⟩)) := hdep ⟨7, .data⟩ (by simp) rfl
      refine G.step_val KC KD hc hdd rfl (.pointer (some ⟨m.M, 2, none⟩)) u (G.wanted_plain rfl) ?_ rfl (Below.refl _ _)
      first | (go_simp; done) | rfl | (simp [go_sem, *]; done)
    refine G.stepsL_cons (fun a u hc hdd hd hk hdep => ?_) ?_
    ·
      have d12 : (a.tmps[12]?).getD undef = (.pointer (some ⟨m.M, 2, none⟩)) := hdep ⟨8, .data⟩ (by simp) rfl
      refine G.step_val KC KD hc hdd rfl (.slice m.iA m.iN m.iC) u (G.wanted_plain rfl) ?_ rfl (Below.refl _ _)
      obtain ⟨s0, s1, s2, s3⟩ := hc.1.cells
      obtain ⟨i0, i1, i2, i3⟩ := hc.2.1
      first | (go_simp; done) | rfl | (simp [go_sem, *]; done)
    refine G.stepsL_cons (fun a u hc hdd hd hk hdep => ?_) ?_
    ·
      have d3 : (a.tmps[3]?).getD undef = (.pointer (some ⟨w.heap.size, 0, none⟩)) := hk 3 (by kernel_rfl)
      refine G.step_val KC KD hc hdd rfl (.pointer (some ⟨w.heap.size, 2, none⟩)) u (G.wanted_plain rfl) ?_ rfl (Below.refl _ _)
      first | (go_simp; done) | rfl | (simp [go_sem, *]; done)
    refine G.stepsL_cons (fun a u hc hdd hd hk hdep => ?_) ?_
    ·
      have d14 : (a.tmps[14]?).getD undef = (.pointer (some ⟨w.heap.size, 2, none⟩)) := hdep ⟨10, .data⟩ (by simp) rfl
      refine G.step_val KC KD hc hdd rfl (.int .i64 x.2.2.1) u (G.wanted_plain rfl) ?_ rfl (Below.refl _ _)
      obtain ⟨s0, s1, s2, s3⟩ := hc.1.cells
      obtain ⟨i0, i1, i2, i3⟩ := hc.2.1
      first | (go_simp; done) | rfl | (simp [go_sem, *]; done)
    refine G.stepsL_cons (fun a u hc hdd hd hk hdep => ?_) ?_
    ·
      have d13 : (a.tmps[13]?).getD undef = (.slice m.iA m.iN m.iC) := hdep ⟨9, .data⟩ (by simp) rfl
      have d15 : (a.tmps[15]?).getD undef = (.int .i64 x.2.2.1) := hdep ⟨11, .data⟩ (by simp) rfl
      refine G.step_call KC KD hc hdd rfl 19 #[.slice m.iA m.iN m.iC, .int .i64 x.2.2.1] (G.wanted_plain rfl) (by first | (go_simp; done) | rfl) ?_
      exact (vread_any _ _ _ m.ins x.2.2.1 u hc.1.rowI hc.1.in64).mono (by rintro e w' ⟨rfl, hb⟩; exact ⟨_, rfl, rfl, hb⟩)
    refine G.stepsL_cons (fun a u hc hdd hd hk hdep => ?_) ?_
    ·
      have d16 : (a.tmps[16]?).getD undef = (.agg #[.int .i64 (rdV m.ins x.2.2.1).1, .int .u64 ((rdV m.ins x.2.2.1).2 : Int)]) := hdep ⟨12, .data⟩ (by simp) rfl
      refine G.step_call KC KD hc hdd rfl 42 #[.agg #[.int .i64 (rdV m.ins x.2.2.1).1, .int .u64 ((rdV m.ins x.2.2.1).2 : Int)]] (G.wanted_plain rfl) (by first | (go_simp; done) | rfl) ?_
      exact (clean_any (rdV m.ins x.2.2.1).1 (rdV m.ins x.2.2.1).2 u (rd_lt hm.rowI.2.1 _)).mono (by rintro e w' ⟨rfl, hb⟩; exact ⟨_, rfl, rfl, hb⟩)
    exact G.stepsL_nil
  intro vs' wN hN _ hh
  have eL : vs' 13 = (.agg #[.int .i64 (clV (rdV m.ins x.2.2.1)).1, .int .u64 ((clV (rdV m.ins x.2.2.1)).2 : Int)]) := by
    obtain ⟨-, -, -, -, -, -, -, -, -, -, -, -, -, eX, -⟩ := hh
    exact eX
  have eD : vs' 5 = (.int .i64 x.2.1) := by
    obtain ⟨-, -, -, -, -, eX, -⟩ := hh
    exact eX
  have eR : vs' 3 = (.slice (some ⟨m.gr, 0, none⟩) m.nr m.nr) := by
    obtain ⟨-, -, -, eX, -⟩ := hh
    exact eX
  clear hh
  set_option maxRecDepth 100000 in simp only [List.take_succ_cons, List.take_zero, putAll, Act.put, List.setIfInBounds_toArray, List.set_cons_zero, List.set_cons_succ, Nat.reduceAdd, eL, eD, eR]
  obtain ⟨hN, -, hB⟩ := hN
  clear hm hi eL eD eR
  have hE := Lib.hid (show stepP m.ins m.cs s x = (wrV s.1 x.2.1 (clV (rdV m.ins x.2.2.1)), s.2) by unfold stepP; rw [hx.out, if_neg (by decide), if_neg (by decide), if_pos rfl])
  have W := Lib.hid (vwrite_any m.gr m.nr m.nr s.1 x.2.1 (clV (rdV m.ins x.2.2.1)) wN hN.rgR hN.lenR hN.nr64)
  generalize (clV (rdV m.ins x.2.2.1)) = v at *
  refine wpAny_ready (rs := [14]) (by kernel_rfl) (by simp) ?_
  refine AllReady.cons rfl (fun K hK => ?_) AllReady.nil
  go_simp
  refine W.out.mono ?_; rintro e w2 ⟨rfl, hR, hG⟩
  refine hK _ _ ?_
  clear hK K
  refine wpAny_done (by kernel_rfl) ?_ _
  refine bodyPost_end (results_none rfl _ _ _) rfl ?_
  rw [hE.out]
  exact hN.endR hB hR hG

set_option maxHeartbeats 4000000 in
theorem con_any (m : MP) (s : List VN × List VN) (x : I4) (w : World) (hm0 : MC m s w) (hx : x.1 = 51) :
    Calls Try.prog 31 #[.pointer (some ⟨m.M, 0, none⟩), insV x] w (DOut m (stepP m.ins m.cs s x) w) := by
  have hm := keepM (m1 w (.cells #[.int .i64 x.1, .int .i64 x.2.1, .int .i64 x.2.2.1, .int .i64 x.2.2.2] 42)) hm0
  have hi := insAt_new w x
  clear hm0
  replace hx := Lib.hid hx
  show Calls _ _ #[.pointer (some ⟨m.M, 0, none⟩), .agg #[.int .i64 x.1, .int .i64 x.2.1, .int .i64 x.2.2.1, .int .i64 x.2.2.2]] _ _
  go_enter Try.func31, Try.ntmps31
  go_upto_region 1 with (fail)
  have KD := G.keepsD_true []
  have KC : G.KeepsC (fun w' => MC m s w' ∧ InsAt w' w.heap.size x ∧ Below w.heap.size w w') := fun _ _ h hb => keepC hb h
  refine G.region_wordsG 14 (fun w' => MC m s w' ∧ InsAt w' w.heap.size x ∧ Below w.heap.size w w') (fun _ _ => True) [G.isW (.pointer (some ⟨m.M, 0, none⟩)), G.isW (.pointer (some ⟨m.M, 0, none⟩)), G.isW (.pointer (some ⟨m.M, 0, none⟩)), G.isW (.slice (some ⟨m.gr, 0, none⟩) m.nr m.nr), G.isW (.pointer (some ⟨w.heap.size, 1, none⟩)), G.isW (.int .i64 x.2.1), G.isW (.pointer (some ⟨m.M, 0, none⟩)), G.isW (.pointer (some ⟨m.M, 0, none⟩)), G.isW (.pointer (some ⟨m.M, 3, none⟩)), G.isW (.slice m.cA m.cN m.cC), G.isW (.pointer (some ⟨w.heap.size, 2, none⟩)), G.isW (.int .i64 x.2.2.1), G.isW (.agg #[.int .i64 (rdV m.cs x.2.2.1).1, .int .u64 ((rdV m.cs x.2.2.1).2 : Int)]), G.isW (.agg #[.int .i64 (clV (rdV m.cs x.2.2.1)).1, .int .u64 ((clV (rdV m.cs x.2.2.1)).2 : Int)])] (by kernel_rfl) (by repeat' (first | exact G.monoL_nil | exact G.is_mono _ | exact G.any_mono | exact twow_mono _ _ | exact sglw_mono _ | refine G.monoL_cons ?_ ?_)) (by kernel_rfl) (by kernel_rfl) ⟨keepM (Below.refl _ _).drew hm, hi, (m1 w _).drew⟩ trivial ?_ ?_
  ·
    refine G.stepsL_cons (fun a u hc hdd hd hk hdep => ?_) ?_
    ·
      have d0 : (a.tmps[0]?).getD undef = (.pointer (some ⟨m.M, 0, none⟩)) := hk 0 (by kernel_rfl)
      refine G.step_val KC KD hc hdd rfl (.pointer (some ⟨m.M, 0, none⟩)) u (G.wanted_plain rfl) ?_ rfl (Below.refl _ _)
      first | (go_simp; done) | rfl | (simp [go_sem, *]; done)
    refine G.stepsL_cons (fun a u hc hdd hd hk hdep => ?_) ?_
    ·
      have d4 : (a.tmps[4]?).getD undef = (.pointer (some ⟨m.M, 0, none⟩)) := hdep ⟨0, .data⟩ (by simp) rfl
      refine G.step_val KC KD hc hdd rfl (.pointer (some ⟨m.M, 0, none⟩)) u (G.wanted_plain rfl) ?_ rfl (Below.refl _ _)
      first | (go_simp; done) | rfl | (simp [go_sem, *]; done)
    refine G.stepsL_cons (fun a u hc hdd hd hk hdep => ?_) ?_
    ·
      have d5 : (a.tmps[5]?).getD undef = (.pointer (some ⟨m.M, 0, none⟩)) := hdep ⟨1, .data⟩ (by simp) rfl
      refine G.step_val KC KD hc hdd rfl (.pointer (some ⟨m.M, 0, none⟩)) u (G.wanted_plain rfl) ?_ rfl (Below.refl _ _)
      first | (go_simp; done) | rfl | (simp [go_sem, *]; done)
    refine G.stepsL_cons (fun a u hc hdd hd hk hdep => ?_) ?_
    ·
      have d6 : (a.tmps[6]?).getD undef = (.pointer (some ⟨m.M, 0, none⟩)) := hdep ⟨2, .data⟩ (by simp) rfl
      refine G.step_val KC KD hc hdd rfl (.slice (some ⟨m.gr, 0, none⟩) m.nr m.nr) u (G.wanted_plain rfl) ?_ rfl (Below.refl _ _)
      obtain ⟨s0, s1, s2, s3⟩ := hc.1.cells
      obtain ⟨i0, i1, i2, i3⟩ := hc.2.1
      first | (go_simp; done) | rfl | (simp [go_sem, *]; done)
    refine G.stepsL_cons (fun a u hc hdd hd hk hdep => ?_) ?_
    ·
      have d3 : (a.tmps[3]?).getD undef = (.pointer (some ⟨w.heap.size, 0, none⟩)) := hk 3 (by kernel_rfl)
      refine G.step_val KC KD hc hdd rfl (.pointer (some ⟨w.heap.size, 1, none⟩)) u (G.wanted_plain rfl) ?_ rfl (Below.refl _ _)
      first | (go_simp; done) | rfl | (simp [go_sem, *]; done)
    refine G.stepsL_cons (fun a u hc hdd hd hk hdep => ?_) ?_
    ·
      have d8 : (a.tmps[8]?).getD undef = (.pointer (some ⟨w.heap.size, 1, none⟩)) := hdep ⟨4, .data⟩ (by simp) rfl
      refine G.step_val KC KD hc hdd rfl (.int .i64 x.2.1) u (G.wanted_plain rfl) ?_ rfl (Below.refl _ _)
      obtain ⟨s0, s1, s2, s3⟩ := hc.1.cells
      obtain ⟨i0, i1, i2, i3⟩ := hc.2.1
      first | (go_simp; done) | rfl | (simp [go_sem, *]; done)
    refine G.stepsL_cons (fun a u hc hdd hd hk hdep => ?_) ?_
    ·
      have d0 : (a.tmps[0]?).getD undef = (.pointer (some ⟨m.M, 0, none⟩)) := hk 0 (by kernel_rfl)
      refine G.step_val KC KD hc hdd rfl (.pointer (some ⟨m.M, 0, none⟩)) u (G.wanted_plain rfl) ?_ rfl (Below.refl _ _)
      first | (go_simp; done) | rfl | (simp [go_sem, *]; done)
    refine G.stepsL_cons (fun a u hc hdd hd hk hdep => ?_) ?_
    ·
      have d10 : (a.tmps[10]?).getD undef = (.pointer (some ⟨m.M, 0, none⟩)) := hdep ⟨6, .data⟩ (by simp) rfl
      refine G.step_val KC KD hc hdd rfl (.pointer (some ⟨m.M, 0, none⟩)) u (G.wanted_plain rfl) ?_ rfl (Below.refl _ _)
      first | (go_simp; done) | rfl | (simp [go_sem, *]; done)
    refine G.stepsL_cons (fun a u hc hdd hd hk hdep => ?_) ?_
    ·
      have d11 : (a.tmps[11]?).getD undef = (.pointer (some ⟨m.M, 0, none⟩)) := hdep ⟨7, .data⟩ (by simp) rfl
      refine G.step_val KC KD hc hdd rfl (.pointer (some ⟨m.M, 3, none⟩)) u (G.wanted_plain rfl) ?_ rfl (Below.refl _ _)
      first | (go_simp; done) | rfl | (simp [go_sem, *]; done)
    refine G.stepsL_cons (fun a u hc hdd hd hk hdep => ?_) ?_
    ·
      have d12 : (a.tmps[12]?).getD undef = (.pointer (some ⟨m.M, 3, none⟩)) := hdep ⟨8, .data⟩ (by simp) rfl
      refine G.step_val KC KD hc hdd rfl (.slice m.cA m.cN m.cC) u (G.wanted_plain rfl) ?_ rfl (Below.refl _ _)
      obtain ⟨s0, s1, s2, s3⟩ := hc.1.cells
      obtain ⟨i0, i1, i2, i3⟩ := hc.2.1
      first | (go_simp; done) | rfl | (simp [go_sem, *]; done)
    refine G.stepsL_cons (fun a u hc hdd hd hk hdep => ?_) ?_
    ·
      have d3 : (a.tmps[3]?).getD undef = (.pointer (some ⟨w.heap.size, 0, none⟩)) := hk 3 (by kernel_rfl)
      refine G.step_val KC KD hc hdd rfl (.pointer (some ⟨w.heap.size, 2, none⟩)) u (G.wanted_plain rfl) ?_ rfl (Below.refl _ _)
      first | (go_simp; done) | rfl | (simp [go_sem, *]; done)
    refine G.stepsL_cons (fun a u hc hdd hd hk hdep => ?_) ?_
    ·
      have d14 : (a.tmps[14]?).getD undef = (.pointer (some ⟨w.heap.size, 2, none⟩)) := hdep ⟨10, .data⟩ (by simp) rfl
      refine G.step_val KC KD hc hdd rfl (.int .i64 x.2.2.1) u (G.wanted_plain rfl) ?_ rfl (Below.refl _ _)
      obtain ⟨s0, s1, s2, s3⟩ := hc.1.cells
      obtain ⟨i0, i1, i2, i3⟩ := hc.2.1
      first | (go_simp; done) | rfl | (simp [go_sem, *]; done)
    refine G.stepsL_cons (fun a u hc hdd hd hk hdep => ?_) ?_
    ·
      have d13 : (a.tmps[13]?).getD undef = (.slice m.cA m.cN m.cC) := hdep ⟨9, .data⟩ (by simp) rfl
      have d15 : (a.tmps[15]?).getD undef = (.int .i64 x.2.2.1) := hdep ⟨11, .data⟩ (by simp) rfl
      refine G.step_call KC KD hc hdd rfl 19 #[.slice m.cA m.cN m.cC, .int .i64 x.2.2.1] (G.wanted_plain rfl) (by first | (go_simp; done) | rfl) ?_
      exact (vread_any _ _ _ m.cs x.2.2.1 u hc.1.rowC hc.1.cn64).mono (by rintro e w' ⟨rfl, hb⟩; exact ⟨_, rfl, rfl, hb⟩)
    refine G.stepsL_cons (fun a u hc hdd hd hk hdep => ?_) ?_
    ·
      have d16 : (a.tmps[16]?).getD undef = (.agg #[.int .i64 (rdV m.cs x.2.2.1).1, .int .u64 ((rdV m.cs x.2.2.1).2 : Int)]) := hdep ⟨12, .data⟩ (by simp) rfl
      refine G.step_call KC KD hc hdd rfl 42 #[.agg #[.int .i64 (rdV m.cs x.2.2.1).1, .int .u64 ((rdV m.cs x.2.2.1).2 : Int)]] (G.wanted_plain rfl) (by first | (go_simp; done) | rfl) ?_
      exact (clean_any (rdV m.cs x.2.2.1).1 (rdV m.cs x.2.2.1).2 u (rd_lt hm.rowC.2.1 _)).mono (by rintro e w' ⟨rfl, hb⟩; exact ⟨_, rfl, rfl, hb⟩)
    exact G.stepsL_nil
  intro vs' wN hN _ hh
  have eL : vs' 13 = (.agg #[.int .i64 (clV (rdV m.cs x.2.2.1)).1, .int .u64 ((clV (rdV m.cs x.2.2.1)).2 : Int)]) := by
    obtain ⟨-, -, -, -, -, -, -, -, -, -, -, -, -, eX, -⟩ := hh
    exact eX
  have eD : vs' 5 = (.int .i64 x.2.1) := by
    obtain ⟨-, -, -, -, -, eX, -⟩ := hh
    exact eX
  have eR : vs' 3 = (.slice (some ⟨m.gr, 0, none⟩) m.nr m.nr) := by
    obtain ⟨-, -, -, eX, -⟩ := hh
    exact eX
  clear hh
  set_option maxRecDepth 100000 in simp only [List.take_succ_cons, List.take_zero, putAll, Act.put, List.setIfInBounds_toArray, List.set_cons_zero, List.set_cons_succ, Nat.reduceAdd, eL, eD, eR]
  obtain ⟨hN, -, hB⟩ := hN
  clear hm hi eL eD eR
  have hE := Lib.hid (show stepP m.ins m.cs s x = (wrV s.1 x.2.1 (clV (rdV m.cs x.2.2.1)), s.2) by unfold stepP; rw [hx.out, if_neg (by decide), if_neg (by decide), if_neg (by decide), if_pos rfl])
  have W := Lib.hid (vwrite_any m.gr m.nr m.nr s.1 x.2.1 (clV (rdV m.cs x.2.2.1)) wN hN.rgR hN.lenR hN.nr64)
  generalize (clV (rdV m.cs x.2.2.1)) = v at *
  refine wpAny_ready (rs := [14]) (by kernel_rfl) (by simp) ?_
  refine AllReady.cons rfl (fun K hK => ?_) AllReady.nil
  go_simp
  refine W.out.mono ?_; rintro e w2 ⟨rfl, hR, hG⟩
  refine hK _ _ ?_
  clear hK K
  refine wpAny_done (by kernel_rfl) ?_ _
  refine bodyPost_end (results_none rfl _ _ _) rfl ?_
  rw [hE.out]
  exact hN.endR hB hR hG

set_option maxHeartbeats 4000000 in
theorem sto_one (m : MP) (s : List VN × List VN) (x : I4) (w : World) (hm0 : MC m s w) (hx : x.1 = 53) :
    Calls Try.prog 32 #[.pointer (some ⟨m.M, 0, none⟩), insV x] w (DOut m (stepP m.ins m.cs s x) w) := by
  have hm := keepM (m1 w (.cells #[.int .i64 x.1, .int .i64 x.2.1, .int .i64 x.2.2.1, .int .i64 x.2.2.2] 42)) hm0
  have hi := insAt_new w x
  clear hm0
  replace hx := Lib.hid hx
  show Calls _ _ #[.pointer (some ⟨m.M, 0, none⟩), .agg #[.int .i64 x.1, .int .i64 x.2.1, .int .i64 x.2.2.1, .int .i64 x.2.2.2]] _ _
  go_enter Try.func32, Try.ntmps32
  go_upto_region 1 with (fail)
  have KD := G.keepsD_true []
  have KC : G.KeepsC (fun w' => MC m s w' ∧ InsAt w' w.heap.size x ∧ Below w.heap.size w w') := fun _ _ h hb => keepC hb h
  refine G.region_wordsG 13 (fun w' => MC m s w' ∧ InsAt w' w.heap.size x ∧ Below w.heap.size w w') (fun _ _ => True) [G.isW (.pointer (some ⟨m.M, 0, none⟩)), G.isW (.pointer (some ⟨m.M, 0, none⟩)), G.isW (.pointer (some ⟨m.M, 1, none⟩)), G.isW (.slice (some ⟨m.gs, 0, none⟩) m.ns m.ns), G.isW (.pointer (some ⟨w.heap.size, 2, none⟩)), G.isW (.int .i64 x.2.2.1), G.isW (.pointer (some ⟨m.M, 0, none⟩)), G.isW (.pointer (some ⟨m.M, 0, none⟩)), G.isW (.pointer (some ⟨m.M, 0, none⟩)), G.isW (.slice (some ⟨m.gr, 0, none⟩) m.nr m.nr), G.isW (.pointer (some ⟨w.heap.size, 3, none⟩)), G.isW (.int .i64 x.2.2.2), G.isW (.agg #[.int .i64 (rdV s.1 x.2.2.2).1, .int .u64 ((rdV s.1 x.2.2.2).2 : Int)])] (by kernel_rfl) (by repeat' (first | exact G.monoL_nil | exact G.is_mono _ | exact G.any_mono | exact twow_mono _ _ | exact sglw_mono _ | refine G.monoL_cons ?_ ?_)) (by kernel_rfl) (by kernel_rfl) ⟨keepM (Below.refl _ _).drew hm, hi, (m1 w _).drew⟩ trivial ?_ ?_
  ·
    refine G.stepsL_cons (fun a u hc hdd hd hk hdep => ?_) ?_
    ·
      have d0 : (a.tmps[0]?).getD undef = (.pointer (some ⟨m.M, 0, none⟩)) := hk 0 (by kernel_rfl)
      refine G.step_val KC KD hc hdd rfl (.pointer (some ⟨m.M, 0, none⟩)) u (G.wanted_plain rfl) ?_ rfl (Below.refl _ _)
      first | (go_simp; done) | rfl | (simp [go_sem, *]; done)
    refine G.stepsL_cons (fun a u hc hdd hd hk hdep => ?_) ?_
    ·
      have d4 : (a.tmps[4]?).getD undef = (.pointer (some ⟨m.M, 0, none⟩)) := hdep ⟨0, .data⟩ (by simp) rfl
      refine G.step_val KC KD hc hdd rfl (.pointer (some ⟨m.M, 0, none⟩)) u (G.wanted_plain rfl) ?_ rfl (Below.refl _ _)
      first | (go_simp; done) | rfl | (simp [go_sem, *]; done)
    refine G.stepsL_cons (fun a u hc hdd hd hk hdep => ?_) ?_
    ·
      have d5 : (a.tmps[5]?).getD undef = (.pointer (some ⟨m.M, 0, none⟩)) := hdep ⟨1, .data⟩ (by simp) rfl
      refine G.step_val KC KD hc hdd rfl (.pointer (some ⟨m.M, 1, none⟩)) u (G.wanted_plain rfl) ?_ rfl (Below.refl _ _)
      first | (go_simp; done) | rfl | (simp [go_sem, *]; done)
    refine G.stepsL_cons (fun a u hc hdd hd hk hdep => ?_) ?_
    ·
      have d6 : (a.tmps[6]?).getD undef = (.pointer (some ⟨m.M, 1, none⟩)) := hdep ⟨2, .data⟩ (by simp) rfl
      refine G.step_val KC KD hc hdd rfl (.slice (some ⟨m.gs, 0, none⟩) m.ns m.ns) u (G.wanted_plain rfl) ?_ rfl (Below.refl _ _)
      obtain ⟨s0, s1, s2, s3⟩ := hc.1.cells
      obtain ⟨i0, i1, i2, i3⟩ := hc.2.1
      first | (go_simp; done) | rfl | (simp [go_sem, *]; done)
    refine G.stepsL_cons (fun a u hc hdd hd hk hdep => ?_) ?_
    ·
      have d3 : (a.tmps[3]?).getD undef = (.pointer (some ⟨w.heap.size, 0, none⟩)) := hk 3 (by kernel_rfl)
      refine G.step_val KC KD hc hdd rfl (.pointer (some ⟨w.heap.size, 2, none⟩)) u (G.wanted_plain rfl) ?_ rfl (Below.refl _ _)
      first | (go_simp; done) | rfl | (simp [go_sem, *]; done)
    refine G.stepsL_cons (fun a u hc hdd hd hk hdep => ?_) ?_
    ·
      have d8 : (a.tmps[8]?).getD undef = (.pointer (some ⟨w.heap.size, 2, none⟩)) := hdep ⟨4, .data⟩ (by simp) rfl
      refine G.step_val KC KD hc hdd rfl (.int .i64 x.2.2.1) u (G.wanted_plain rfl) ?_ rfl (Below.refl _ _)
      obtain ⟨s0, s1, s2, s3⟩ := hc.1.cells
      obtain ⟨i0, i1, i2, i3⟩ := hc.2.1
      first | (go_simp; done) | rfl | (simp [go_sem, *]; done)
    refine G.stepsL_cons (fun a u hc hdd hd hk hdep => ?_) ?_
    ·
      have d0 : (a.tmps[0]?).getD undef = (.pointer (some ⟨m.M, 0, none⟩)) := hk 0 (by kernel_rfl)
      refine G.step_val KC KD hc hdd rfl (.pointer (some ⟨m.M, 0, none⟩)) u (G.wanted_plain rfl) ?_ rfl (Below.refl _ _)
      first | (go_simp; done) | rfl | (simp [go_sem, *]; done)
    refine G.stepsL_cons (fun a u hc hdd hd hk hdep => ?_) ?_
    ·
      have d10 : (a.tmps[10]?).getD undef = (.pointer (some ⟨m.M, 0, none⟩)) := hdep ⟨6, .data⟩ (by simp) rfl
      refine G.step_val KC KD hc hdd rfl (.pointer (some ⟨m.M, 0, none⟩)) u (G.wanted_plain rfl) ?_ rfl (Below.refl _ _)
      first | (go_simp; done) | rfl | (simp [go_sem, *]; done)
    refine G.stepsL_cons (fun a u hc hdd hd hk hdep => ?_) ?_
    ·
      have d11 : (a.tmps[11]?).getD undef = (.pointer (some ⟨m.M, 0, none⟩)) := hdep ⟨7, .data⟩ (by simp) rfl
      refine G.step_val KC KD hc hdd rfl (.pointer (some ⟨m.M, 0, none⟩)) u (G.wanted_plain rfl) ?_ rfl (Below.refl _ _)
      first | (go_simp; done) | rfl | (simp [go_sem, *]; done)
    refine G.stepsL_cons (fun a u hc hdd hd hk hdep => ?_) ?_
    ·
      have d12 : (a.tmps[12]?).getD undef = (.pointer (some ⟨m.M, 0, none⟩)) := hdep ⟨8, .data⟩ (by simp) rfl
      refine G.step_val KC KD hc hdd rfl (.slice (some ⟨m.gr, 0, none⟩) m.nr m.nr) u (G.wanted_plain rfl) ?_ rfl (Below.refl _ _)
      obtain ⟨s0, s1, s2, s3⟩ := hc.1.cells
      obtain ⟨i0, i1, i2, i3⟩ := hc.2.1
      first | (go_simp; done) | rfl | (simp [go_sem, *]; done)
    refine G.stepsL_cons (fun a u hc hdd hd hk hdep => ?_) ?_
    ·
      have d3 : (a.tmps[3]?).getD undef = (.pointer (some ⟨w.heap.size, 0, none⟩)) := hk 3 (by kernel_rfl)
      refine G.step_val KC KD hc hdd rfl (.pointer (some ⟨w.heap.size, 3, none⟩)) u (G.wanted_plain rfl) ?_ rfl (Below.refl _ _)
      first | (go_simp; done) | rfl | (simp [go_sem, *]; done)
    refine G.stepsL_cons (fun a u hc hdd hd hk hdep => ?_) ?_
    ·
      have d14 : (a.tmps[14]?).getD undef = (.pointer (some ⟨w.heap.size, 3, none⟩)) := hdep ⟨10, .data⟩ (by simp) rfl
      refine G.step_val KC KD hc hdd rfl (.int .i64 x.2.2.2) u (G.wanted_plain rfl) ?_ rfl (Below.refl _ _)
      obtain ⟨s0, s1, s2, s3⟩ := hc.1.cells
      obtain ⟨i0, i1, i2, i3⟩ := hc.2.1
      first | (go_simp; done) | rfl | (simp [go_sem, *]; done)
    refine G.stepsL_cons (fun a u hc hdd hd hk hdep => ?_) ?_
    ·
      have d13 : (a.tmps[13]?).getD undef = (.slice (some ⟨m.gr, 0, none⟩) m.nr m.nr) := hdep ⟨9, .data⟩ (by simp) rfl
      have d15 : (a.tmps[15]?).getD undef = (.int .i64 x.2.2.2) := hdep ⟨11, .data⟩ (by simp) rfl
      refine G.step_call KC KD hc hdd rfl 19 #[.slice (some ⟨m.gr, 0, none⟩) m.nr m.nr, .int .i64 x.2.2.2] (G.wanted_plain rfl) (by first | (go_simp; done) | rfl) ?_
      exact (vread_any _ _ _ s.1 x.2.2.2 u hc.1.rowR hc.1.nr64).mono (by rintro e w' ⟨rfl, hb⟩; exact ⟨_, rfl, rfl, hb⟩)
    exact G.stepsL_nil
  intro vs' wN hN _ hh
  have eL : vs' 12 = (.agg #[.int .i64 (rdV s.1 x.2.2.2).1, .int .u64 ((rdV s.1 x.2.2.2).2 : Int)]) := by
    obtain ⟨-, -, -, -, -, -, -, -, -, -, -, -, eX, -⟩ := hh
    exact eX
  have eD : vs' 5 = (.int .i64 x.2.2.1) := by
    obtain ⟨-, -, -, -, -, eX, -⟩ := hh
    exact eX
  have eR : vs' 3 = (.slice (some ⟨m.gs, 0, none⟩) m.ns m.ns) := by
    obtain ⟨-, -, -, eX, -⟩ := hh
    exact eX
  clear hh
  set_option maxRecDepth 100000 in simp only [List.take_succ_cons, List.take_zero, putAll, Act.put, List.setIfInBounds_toArray, List.set_cons_zero, List.set_cons_succ, Nat.reduceAdd, eL, eD, eR]
  obtain ⟨hN, -, hB⟩ := hN
  clear hm hi eL eD eR
  have hE := Lib.hid (show stepP m.ins m.cs s x = (s.1, wrV s.2 x.2.2.1 (rdV s.1 x.2.2.2)) by unfold stepP; rw [hx.out, if_neg (by decide), if_neg (by decide), if_neg (by decide), if_neg (by decide), if_pos rfl])
  have W := Lib.hid (vwrite_any m.gs m.ns m.ns s.2 x.2.2.1 (rdV s.1 x.2.2.2) wN hN.rgS hN.lenS hN.ns64)
  generalize (rdV s.1 x.2.2.2) = v at *
  refine wpAny_ready (rs := [13]) (by kernel_rfl) (by simp) ?_
  refine AllReady.cons rfl (fun K hK => ?_) AllReady.nil
  go_simp
  refine W.out.mono ?_; rintro e w2 ⟨rfl, hR, hG⟩
  refine hK _ _ ?_
  clear hK K
  refine wpAny_done (by kernel_rfl) ?_ _
  refine bodyPost_end (results_none rfl _ _ _) rfl ?_
  rw [hE.out]
  exact hN.endS hB hR hG

set_option maxHeartbeats 4000000 in
theorem loa_any (m : MP) (s : List VN × List VN) (x : I4) (w : World) (hm0 : MC m s w) (hx : x.1 = 54) :
    Calls Try.prog 33 #[.pointer (some ⟨m.M, 0, none⟩), insV x] w (DOut m (stepP m.ins m.cs s x) w) := by
  have hm := keepM (m1 w (.cells #[.int .i64 x.1, .int .i64 x.2.1, .int .i64 x.2.2.1, .int .i64 x.2.2.2] 42)) hm0
  have hi := insAt_new w x
  clear hm0
  replace hx := Lib.hid hx
  show Calls _ _ #[.pointer (some ⟨m.M, 0, none⟩), .agg #[.int .i64 x.1, .int .i64 x.2.1, .int .i64 x.2.2.1, .int .i64 x.2.2.2]] _ _
  go_enter Try.func33, Try.ntmps33
  go_upto_region 1 with (fail)
  have KD := G.keepsD_true []
  have KC : G.KeepsC (fun w' => MC m s w' ∧ InsAt w' w.heap.size x ∧ Below w.heap.size w w') := fun _ _ h hb => keepC hb h
  refine G.region_wordsG 13 (fun w' => MC m s w' ∧ InsAt w' w.heap.size x ∧ Below w.heap.size w w') (fun _ _ => True) [G.isW (.pointer (some ⟨m.M, 0, none⟩)), G.isW (.pointer (some ⟨m.M, 0, none⟩)), G.isW (.pointer (some ⟨m.M, 0, none⟩)), G.isW (.slice (some ⟨m.gr, 0, none⟩) m.nr m.nr), G.isW (.pointer (some ⟨w.heap.size, 1, none⟩)), G.isW (.int .i64 x.2.1), G.isW (.pointer (some ⟨m.M, 0, none⟩)), G.isW (.pointer (some ⟨m.M, 0, none⟩)), G.isW (.pointer (some ⟨m.M, 1, none⟩)), G.isW (.slice (some ⟨m.gs, 0, none⟩) m.ns m.ns), G.isW (.pointer (some ⟨w.heap.size, 2, none⟩)), G.isW (.int .i64 x.2.2.1), G.isW (.agg #[.int .i64 (rdV s.2 x.2.2.1).1, .int .u64 ((rdV s.2 x.2.2.1).2 : Int)])] (by kernel_rfl) (by repeat' (first | exact G.monoL_nil | exact G.is_mono _ | exact G.any_mono | exact twow_mono _ _ | exact sglw_mono _ | refine G.monoL_cons ?_ ?_)) (by kernel_rfl) (by kernel_rfl) ⟨keepM (Below.refl _ _).drew hm, hi, (m1 w _).drew⟩ trivial ?_ ?_
  ·
    refine G.stepsL_cons (fun a u hc hdd hd hk hdep => ?_) ?_
    ·
      have d0 : (a.tmps[0]?).getD undef = (.pointer (some ⟨m.M, 0, none⟩)) := hk 0 (by kernel_rfl)
      refine G.step_val KC KD hc hdd rfl (.pointer (some ⟨m.M, 0, none⟩)) u (G.wanted_plain rfl) ?_ rfl (Below.refl _ _)
      first | (go_simp; done) | rfl | (simp [go_sem, *]; done)
    refine G.stepsL_cons (fun a u hc hdd hd hk hdep => ?_) ?_
    ·
      have d4 : (a.tmps[4]?).getD undef = (.pointer (some ⟨m.M, 0, none⟩)) := hdep ⟨0, .data⟩ (by simp) rfl
      refine G.step_val KC KD hc hdd rfl (.pointer (some ⟨m.M, 0, none⟩)) u (G.wanted_plain rfl) ?_ rfl (Below.refl _ _)
      first | (go_simp; done) | rfl | (simp [go_sem, *]; done)
    refine G.stepsL_cons (fun a u hc hdd hd hk hdep => ?_) ?_
    ·
      have d5 : (a.tmps[5]?).getD undef = (.pointer (some ⟨m.M, 0, none⟩)) := hdep ⟨1, .data⟩ (by simp) rfl
      refine G.step_val KC KD hc hdd rfl (.pointer (some ⟨m.M, 0, none⟩)) u (G.wanted_plain rfl) ?_ rfl (Below.refl _ _)
      first | (go_simp; done) | rfl | (simp [go_sem, *]; done)
    refine G.stepsL_cons (fun a u hc hdd hd hk hdep => ?_) ?_
    ·
      have d6 : (a.tmps[6]?).getD undef = (.pointer (some ⟨m.M, 0, none⟩)) := hdep ⟨2, .data⟩ (by simp) rfl
      refine G.step_val KC KD hc hdd rfl (.slice (some ⟨m.gr, 0, none⟩) m.nr m.nr) u (G.wanted_plain rfl) ?_ rfl (Below.refl _ _)
      obtain ⟨s0, s1, s2, s3⟩ := hc.1.cells
      obtain ⟨i0, i1, i2, i3⟩ := hc.2.1
      first | (go_simp; done) | rfl | (simp [go_sem, *]; done)
    refine G.stepsL_cons (fun a u hc hdd hd hk hdep => ?_) ?_
    ·
      have d3 : (a.tmps[3]?).getD undef = (.pointer (some ⟨w.heap.size, 0, none⟩)) := hk 3 (by kernel_rfl)
      refine G.step_val KC KD hc hdd rfl (.pointer (some ⟨w.heap.size, 1, none⟩)) u (G.wanted_plain rfl) ?_ rfl (Below.refl _ _)
      first | (go_simp; done) | rfl | (simp [go_sem, *]; done)
    refine G.stepsL_cons (fun a u hc hdd hd hk hdep => ?_) ?_
    ·
      have d8 : (a.tmps[8]?).getD undef = (.pointer (some ⟨w.heap.size, 1, none⟩)) := hdep ⟨4, .data⟩ (by simp) rfl
      refine G.step_val KC KD hc hdd rfl (.int .i64 x.2.1) u (G.wanted_plain rfl) ?_ rfl (Below.refl _ _)
      obtain ⟨s0, s1, s2, s3⟩ := hc.1.cells
      obtain ⟨i0, i1, i2, i3⟩ := hc.2.1
      first | (go_simp; done) | rfl | (simp [go_sem, *]; done)
    refine G.stepsL_cons (fun a u hc hdd hd hk hdep => ?_) ?_
    ·
      have d0 : (a.tmps[0]?).getD undef = (.pointer (some ⟨m.M, 0, none⟩)) := hk 0 (by kernel_rfl)
      refine G.step_val KC KD hc hdd rfl (.pointer (some ⟨m.M, 0, none⟩)) u (G.wanted_plain rfl) ?_ rfl (Below.refl _ _)
      first | (go_simp; done) | rfl | (simp [go_sem, *]; done)
    refine G.stepsL_cons (fun a u hc hdd hd hk hdep => ?_) ?_
    ·
      have d10 : (a.tmps[10]?).getD undef = (.pointer (some ⟨m.M, 0, none⟩)) := hdep ⟨6, .data⟩ (by simp) rfl
      refine G.step_val KC KD hc hdd rfl (.pointer (some ⟨m.M, 0, none⟩)) u (G.wanted_plain rfl) ?_ rfl (Below.refl _ _)
      first | (go_simp; done) | rfl | (simp [go_sem, *]; done)
    refine G.stepsL_cons (fun a u hc hdd hd hk hdep => ?_) ?_
    ·
      have d11 : (a.tmps[11]?).getD undef = (.pointer (some ⟨m.M, 0, none⟩)) := hdep ⟨7, .data⟩ (by simp) rfl
      refine G.step_val KC KD hc hdd rfl (.pointer (some ⟨m.M, 1, none⟩)) u (G.wanted_plain rfl) ?_ rfl (Below.refl _ _)
      first | (go_simp; done) | rfl | (simp [go_sem, *]; done)
    refine G.stepsL_cons (fun a u hc hdd hd hk hdep => ?_) ?_
    ·
      have d12 : (a.tmps[12]?).getD undef = (.pointer (some ⟨m.M, 1, none⟩)) := hdep ⟨8, .data⟩ (by simp) rfl
      refine G.step_val KC KD hc hdd rfl (.slice (some ⟨m.gs, 0, none⟩) m.ns m.ns) u (G.wanted_plain rfl) ?_ rfl (Below.refl _ _)
      obtain ⟨s0, s1, s2, s3⟩ := hc.1.cells
      obtain ⟨i0, i1, i2, i3⟩ := hc.2.1
      first | (go_simp; done) | rfl | (simp [go_sem, *]; done)
    refine G.stepsL_cons (fun a u hc hdd hd hk hdep => ?_) ?_
    ·
      have d3 : (a.tmps[3]?).getD undef = (.pointer (some ⟨w.heap.size, 0, none⟩)) := hk 3 (by kernel_rfl)
      refine G.step_val KC KD hc hdd rfl (.pointer (some ⟨w.heap.size, 2, none⟩)) u (G.wanted_plain rfl) ?_ rfl (Below.refl _ _)
      first | (go_simp; done) | rfl | (simp [go_sem, *]; done)
    refine G.stepsL_cons (fun a u hc hdd hd hk hdep => ?_) ?_
    ·
      have d14 : (a.tmps[14]?).getD undef = (.pointer (some ⟨w.heap.size, 2, none⟩)) := hdep ⟨10, .data⟩ (by simp) rfl
      refine G.step_val KC KD hc hdd rfl (.int .i64 x.2.2.1) u (G.wanted_plain rfl) ?_ rfl (Below.refl _ _)
      obtain ⟨s0, s1, s2, s3⟩ := hc.1.cells
      obtain ⟨i0, i1, i2, i3⟩ := hc.2.1
      first | (go_simp; done) | rfl | (simp [go_sem, *]; done)
    refine G.stepsL_cons (fun a u hc hdd hd hk hdep => ?_) ?_
    ·
      have d13 : (a.tmps[13]?).getD undef = (.slice (some ⟨m.gs, 0, none⟩) m.ns m.ns) := hdep ⟨9, .data⟩ (by simp) rfl
      have d15 : (a.tmps[15]?).getD undef = (.int .i64 x.2.2.1) := hdep ⟨11, .data⟩ (by simp) rfl
      refine G.step_call KC KD hc hdd rfl 19 #[.slice (some ⟨m.gs, 0, none⟩) m.ns m.ns, .int .i64 x.2.2.1] (G.wanted_plain rfl) (by first | (go_simp; done) | rfl) ?_
      exact (vread_any _ _ _ s.2 x.2.2.1 u hc.1.rowS hc.1.ns64).mono (by rintro e w' ⟨rfl, hb⟩; exact ⟨_, rfl, rfl, hb⟩)
    exact G.stepsL_nil
  intro vs' wN hN _ hh
  have eL : vs' 12 = (.agg #[.int .i64 (rdV s.2 x.2.2.1).1, .int .u64 ((rdV s.2 x.2.2.1).2 : Int)]) := by
    obtain ⟨-, -, -, -, -, -, -, -, -, -, -, -, eX, -⟩ := hh
    exact eX
  have eD : vs' 5 = (.int .i64 x.2.1) := by
    obtain ⟨-, -, -, -, -, eX, -⟩ := hh
    exact eX
  have eR : vs' 3 = (.slice (some ⟨m.gr, 0, none⟩) m.nr m.nr) := by
    obtain ⟨-, -, -, eX, -⟩ := hh
    exact eX
  clear hh
  set_option maxRecDepth 100000 in simp only [List.take_succ_cons, List.take_zero, putAll, Act.put, List.setIfInBounds_toArray, List.set_cons_zero, List.set_cons_succ, Nat.reduceAdd, eL, eD, eR]
  obtain ⟨hN, -, hB⟩ := hN
  clear hm hi eL eD eR
  have hE := Lib.hid (show stepP m.ins m.cs s x = (wrV s.1 x.2.1 (rdV s.2 x.2.2.1), s.2) by unfold stepP; rw [hx.out, if_neg (by decide), if_neg (by decide), if_neg (by decide), if_neg (by decide), if_neg (by decide), if_pos rfl])
  have W := Lib.hid (vwrite_any m.gr m.nr m.nr s.1 x.2.1 (rdV s.2 x.2.2.1) wN hN.rgR hN.lenR hN.nr64)
  generalize (rdV s.2 x.2.2.1) = v at *
  refine wpAny_ready (rs := [13]) (by kernel_rfl) (by simp) ?_
  refine AllReady.cons rfl (fun K hK => ?_) AllReady.nil
  go_simp
  refine W.out.mono ?_; rintro e w2 ⟨rfl, hR, hG⟩
  refine hK _ _ ?_
  clear hK K
  refine wpAny_done (by kernel_rfl) ?_ _
  refine bodyPost_end (results_none rfl _ _ _) rfl ?_
  rw [hE.out]
  exact hN.endR hB hR hG
end Go.Proofs.Yteniipolcdnmfaa
