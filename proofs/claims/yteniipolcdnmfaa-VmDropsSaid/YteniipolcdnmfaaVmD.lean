/- The program's Run, as a contract, for every code and all inputs. -/
import Derived.Test.YteniipolcdnmfaaVmC
import Derived.Test.YteniipolcdnmfaaDsO
namespace Go.Proofs.Yteniipolcdnmfaa
open Go.ChangeShapes Go.WideShapes Go.ChangeAt Go.RowKit Go.Fl
set_option linter.unusedVariables false
set_option linter.unusedSimpArgs false

theorem nothing_any (m : MP) (s : List VN × List VN) (x : I4) (w : World) (hm : MC m s w) (hx : stepP m.ins m.cs s x = s) :
    Calls Try.prog 34 #[.pointer (some ⟨m.M, 0, none⟩), insV x] w (DOut m (stepP m.ins m.cs s x) w) := by
  rw [hx]
  show Calls _ _ #[.pointer (some ⟨m.M, 0, none⟩), .agg #[.int .i64 x.1, .int .i64 x.2.1, .int .i64 x.2.2.1, .int .i64 x.2.2.2]] _ _
  go_enter Try.func34, Try.ntmps34
  go_wp2
  refine bodyPost_end (results_none rfl _ _ _) rfl ?_
  have hb := m1 w (.cells #[.int .i64 x.1, .int .i64 x.2.1, .int .i64 x.2.2.1, .int .i64 x.2.2.2] 42)
  exact ⟨rfl, hm.rgR.kept hb, hm.rgS.kept hb, .of_below hb⟩
def deedF (op : Int) : Nat :=
  if opsP op = 1 then 28 else if opsP op = 2 then 29 else if op = 50 then 30 else if op = 51 then 31
  else if op = 53 then 32 else if op = 54 then 33 else 34
theorem deed_any (op : Int) (w : World) : Calls Try.prog 20 #[.int .i64 op] w fun e w' => e = .returned (.func (.func (deedF op)) #[] #[]) ∧ Below w.heap.size w w' := by
  have O := operands_any op
  unfold deedF
  by_cases h1 : opsP op = 1
  · rw [h1] at O
    rw [if_pos h1]
    replace O := Lib.hid O
    clear h1
    go_enter Try.func20, Try.ntmps20
    go_wp2_with fail
    refine (O.out _).mono ?_; rintro e w1 ⟨rfl, hb1⟩
    go_wp2
    go_ret
    exact ⟨rfl, hb1⟩
  rw [if_neg h1]
  by_cases h2 : opsP op = 2
  · rw [h2] at O
    rw [if_pos h2]
    replace O := Lib.hid O
    clear h1 h2
    go_enter Try.func20, Try.ntmps20
    go_wp2_with fail
    refine (O.out _).mono ?_; rintro e w1 ⟨rfl, hb1⟩
    go_wp2
    go_ret
    exact ⟨rfl, hb1⟩
  rw [if_neg h2]
  have h0 : opsP op = 0 := by have := ops_le op; omega
  rw [h0] at O
  replace O := Lib.hid O
  clear h1 h2 h0
  have c : op = 50 ∨ op = 51 ∨ op = 53 ∨ op = 54 ∨ (op ≠ 50 ∧ op ≠ 51 ∧ op ≠ 53 ∧ op ≠ 54) := by omega
  rcases c with rfl | rfl | rfl | rfl | ⟨n0, n1, n3, n4⟩
  · go_enter Try.func20, Try.ntmps20
    go_wp2_with fail
    refine (O.out _).mono ?_; rintro e w1 ⟨rfl, hb1⟩
    go_wp2
    go_ret
    exact ⟨rfl, hb1⟩
  · go_enter Try.func20, Try.ntmps20
    go_wp2_with fail
    refine (O.out _).mono ?_; rintro e w1 ⟨rfl, hb1⟩
    go_wp2
    go_ret
    exact ⟨rfl, hb1⟩
  · go_enter Try.func20, Try.ntmps20
    go_wp2_with fail
    refine (O.out _).mono ?_; rintro e w1 ⟨rfl, hb1⟩
    go_wp2
    go_ret
    exact ⟨rfl, hb1⟩
  · go_enter Try.func20, Try.ntmps20
    go_wp2_with fail
    refine (O.out _).mono ?_; rintro e w1 ⟨rfl, hb1⟩
    go_wp2
    go_ret
    exact ⟨rfl, hb1⟩
  · rw [if_neg n0, if_neg n1, if_neg n3, if_neg n4]
    have f0 : (op == 50) = false := by simpa using n0
    have f1 : (op == 51) = false := by simpa using n1
    have f3 : (op == 53) = false := by simpa using n3
    have f4 : (op == 54) = false := by simpa using n4
    clear n0 n1 n3 n4
    go_enter Try.func20, Try.ntmps20
    go_wp2_with fail
    refine (O.out _).mono ?_; rintro e w1 ⟨rfl, hb1⟩
    go_wp2
    go_ret
    exact ⟨rfl, hb1⟩
/-- what the deed of an instruction does -/
theorem do_step (m : MP) (s : List VN × List VN) (x : I4) (w : World) (hm : MC m s w) :
    Calls Try.prog (deedF x.1) #[.pointer (some ⟨m.M, 0, none⟩), insV x] w (DOut m (stepP m.ins m.cs s x) w) := by
  unfold deedF
  by_cases h1 : opsP x.1 = 1
  · rw [if_pos h1]; exact mone_any m s x w hm h1
  rw [if_neg h1]
  by_cases h2 : opsP x.1 = 2
  · rw [if_pos h2]; exact mtwo_any m s x w hm h2
  rw [if_neg h2]
  by_cases h50 : x.1 = 50
  · rw [if_pos h50]; exact inp_any m s x w hm h50
  rw [if_neg h50]
  by_cases h51 : x.1 = 51
  · rw [if_pos h51]; exact con_any m s x w hm h51
  rw [if_neg h51]
  by_cases h53 : x.1 = 53
  · rw [if_pos h53]; exact sto_one m s x w hm h53
  rw [if_neg h53]
  by_cases h54 : x.1 = 54
  · rw [if_pos h54]; exact loa_any m s x w hm h54
  rw [if_neg h54]
  exact nothing_any m s x w hm (by unfold stepP; rw [if_neg h1, if_neg h2, if_neg h50, if_neg h51, if_neg h53, if_neg h54])
theorem deedF_cases (op : Int) : deedF op = 28 ∨ deedF op = 29 ∨ deedF op = 30 ∨ deedF op = 31 ∨ deedF op = 32 ∨ deedF op = 33 ∨ deedF op = 34 := by
  unfold deedF
  (repeat' split) <;> simp
/-- code as it is handed over: where its lists lie -/
structure CV where
  xA : Option Addr
  xC : Nat
  cA : Option Addr
  cC : Nat
  lA : Option Addr
  lC : Nat
def codeV (c : CodeP) (v : CV) : Value := .agg #[.int .i64 c.regs, .int .i64 c.slots, .slice v.xA c.ins.length v.xC, .slice v.cA c.cs.length v.cC, .slice v.lA c.list.length v.lC]
def codeO (c : CodeP) (v : CV) : Obj := .cells #[.int .i64 c.regs, .int .i64 c.slots, .slice v.xA c.ins.length v.xC, .slice v.cA c.cs.length v.cC, .slice v.lA c.list.length v.lC] 26
structure CodeIn (w : World) (c : CodeP) (v : CV) : Prop where
  ins : QuadAt w v.xA c.ins
  cs : RowV w v.cA c.cs.length c.cs
  list : QuadAt w v.lA c.list
  szI : c.ins.length * 32 ≤ 140737488355328
  szC : c.cs.length * 16 ≤ 140737488355328
  szL : c.list.length * 32 ≤ 140737488355328
theorem CodeIn.later {w w1 : World} {c : CodeP} {v : CV} (h : CodeIn w c v) (hb : Below w.heap.size w w1) : CodeIn w1 c v := { h with ins := h.ins.later hb, cs := h.cs.later hb, list := h.list.later hb }
/-- the five cells of code -/
def CodeAt (w : World) (g : Nat) (c : CodeP) (v : CV) : Prop :=
  w.cell? ⟨g, 0, none⟩ = some (.int .i64 c.regs) ∧ w.cell? ⟨g, 1, none⟩ = some (.int .i64 c.slots) ∧ w.cell? ⟨g, 2, none⟩ = some (.slice v.xA c.ins.length v.xC) ∧ w.cell? ⟨g, 3, none⟩ = some (.slice v.cA c.cs.length v.cC) ∧ w.cell? ⟨g, 4, none⟩ = some (.slice v.lA c.list.length v.lC)
theorem CodeAt.later {w w1 : World} {g : Nat} {c : CodeP} {v : CV} (h : CodeAt w g c v) (hb : Below w.heap.size w w1) : CodeAt w1 g c v :=
  ⟨cell_later hb h.1, cell_later hb h.2.1, cell_later hb h.2.2.1, cell_later hb h.2.2.2.1, cell_later hb h.2.2.2.2⟩
theorem CodeAt.new (w : World) (c : CodeP) (v : CV) : CodeAt (w.alloc (codeO c v)) w.heap.size c v := ⟨by simp [codeO], by simp [codeO], by simp [codeO], by simp [codeO], by simp [codeO]⟩
/-- words: a slice of blanks of its own; the machine as it is put together -/
def RgW (B n : Nat) : Value → World → Prop := fun v w => ∃ g, v = .slice (some ⟨g, 0, none⟩) n n ∧ B ≤ g ∧ Rg w g (blank n)
theorem rgw_mono (B n : Nat) : G.MonoW (RgW B n) := fun _ _ _ ⟨g, e, hB, h⟩ hb => ⟨g, e, hB, h.kept hb⟩
def MaW (B nr ns : Nat) (x y : Value) : Value → World → Prop := fun v w => ∃ g h, v = .agg #[.slice (some ⟨g, 0, none⟩) nr nr, .slice (some ⟨h, 0, none⟩) ns ns, x, y] ∧ B ≤ g ∧ B ≤ h ∧ g ≠ h ∧ Rg w g (blank nr) ∧ Rg w h (blank ns)
theorem maw_mono (B nr ns : Nat) (x y : Value) : G.MonoW (MaW B nr ns x y) := fun _ _ _ ⟨g, h, e, h1, h2, h3, h4, h5⟩ hb => ⟨g, h, e, h1, h2, h3, h4.kept hb, h5.kept hb⟩
def BkW (B : Nat) (t : TypeId) (cs : Array Value) : Value → World → Prop := fun v w => ∃ g, v = .pointer (some ⟨g, 0, none⟩) ∧ B ≤ g ∧ Blk w g t cs
theorem bkw_mono (B : Nat) (t : TypeId) (cs : Array Value) : G.MonoW (BkW B t cs) := fun _ _ _ ⟨g, e, hB, h⟩ hb => ⟨g, e, hB, h.kept hb⟩
theorem Rg.setc {w : World} {g : Nat} {vs : List VN} (h : Rg w g vs) {p : Addr} (hp : p.block ≠ g) (u : Value) : Rg (w.setCell p u) g vs := by
  obtain ⟨cs, hB, hs, hc⟩ := h
  exact ⟨cs, hB.else_ hp u, hs, hc⟩
theorem nregs_eq (n : Int) : (if (if 1024 < n then 1024 else n) > 0 then (if 1024 < n then 1024 else n) else 0) = (nregs n : Int) := by
  unfold nregs
  by_cases h : 1024 < n
  · rw [if_pos h, if_pos (by omega)]; omega
  · rw [if_neg h]
    by_cases h0 : n > 0
    · rw [if_pos h0]; omega
    · rw [if_neg h0]; omega
theorem nslots_eq (n : Int) : (if (if 256 < n then 256 else n) > 0 then (if 256 < n then 256 else n) else 0) = (nslots n : Int) := by
  unfold nslots
  by_cases h : 256 < n
  · rw [if_pos h, if_pos (by omega)]; omega
  · rw [if_neg h]
    by_cases h0 : n > 0
    · rw [if_pos h0]; omega
    · rw [if_neg h0]; omega
theorem nregs_le (n : Int) : nregs n ≤ 1024 := by unfold nregs; omega
theorem nslots_le (n : Int) : nslots n ≤ 1024 := by unfold nslots; omega
theorem runP_here (ins cs : List VN) (s : List VN × List VN) (l : List I4) (k : Nat) (x : I4) (h : l[k]? = some x) : runP ins cs s (l.drop k) = if x.1 = 52 then rdV s.1 x.2.2.1 else runP ins cs (stepP ins cs s x) (l.drop (k + 1)) := by
  obtain ⟨hk, e⟩ := List.getElem?_eq_some_iff.1 h
  rw [List.drop_eq_getElem_cons hk, e]
  rfl
/-- between two rounds of Run -/
structure RunJ (w : World) (g : Nat) (m : MP) (s : List VN × List VN) (wr : World) : Prop where
  mc : MC m s wr
  bel : Below w.heap.size w wr
  res : Blk wr g 34 #[.int .i64 0, .int .u64 0]
theorem RunJ.later {w wr w1 : World} {g : Nat} {m : MP} {s : List VN × List VN} (h : RunJ w g m s wr) (hb : Below wr.heap.size wr w1) : RunJ w g m s w1 := ⟨keepM hb h.mc, below_more h.bel hb, h.res.kept hb⟩
theorem RunJ.step {w wr w2 : World} {m : MP} {s s' : List VN × List VN} (h : RunJ w (w.heap.size + 1) m s wr) (hR : Rg w2 m.gr s'.1) (hS : Rg w2 m.gs s'.2) (hG : ButRS m.gr m.gs wr w2)
    (hl : s'.1.length = s.1.length ∧ s'.2.length = s.2.length) (ok : OkL s'.1 ∧ OkL s'.2) (hM : m.M ≠ m.gr ∧ m.M ≠ m.gs) (hB : w.heap.size + 2 ≤ m.gr ∧ w.heap.size + 2 ≤ m.gs) (hi : RowV w m.iA m.iN m.ins) (hc : RowV w m.cA m.cN m.cs) : RunJ w (w.heap.size + 1) m s' w2 := by
  have hb := hG.below h.bel (by omega) (by omega)
  have cel : ∀ i v, wr.cell? ⟨m.M, i, none⟩ = some v → w2.cell? ⟨m.M, i, none⟩ = some v := fun i v hv => by
    rw [World.cell?_of_block (hG.block m.M (mblock hv) hM.1 hM.2)]; exact hv
  refine ⟨{ h.mc with cells := ⟨cel _ _ h.mc.cells.1, cel _ _ h.mc.cells.2.1, cel _ _ h.mc.cells.2.2.1, cel _ _ h.mc.cells.2.2.2⟩, rgR := hR, rgS := hS, lenR := hl.1.trans h.mc.lenR, lenS := hl.2.trans h.mc.lenS, rowI := hi.later hb, rowC := hc.later hb, ok := ok }, hb, ?_⟩
  exact (hG.block _ h.res.lt (by omega) (by omega)).trans h.res

set_option maxHeartbeats 8000000 in
set_option maxRecDepth 100000 in
theorem vrun_any (c : CodeP) (v : CV) (A : Option Addr) (n cap : Nat) (inputs : List VN) (w : World) (hc : CodeIn w c v) (hv : RowV w A n inputs) (hn : n ≤ 9223372036854775807) :
    Calls Try.prog 10 #[codeV c v, .slice A n cap] w (VOut (codeRun c inputs) w) := by
  have hE : codeRun c inputs = runP inputs c.cs (blank (nregs c.regs), blank (nslots c.slots)) c.list := rfl
  generalize codeRun c inputs = zz at *
  replace hE := Lib.hid hE
  have hmx := Lib.hid (nregs_eq c.regs)
  have hms := Lib.hid (nslots_eq c.slots)
  have hcode : CodeAt ((w.alloc (codeO c v)).alloc (.cells #[.int .i64 0, .int .u64 0] 34)) w.heap.size c v := (CodeAt.new w c v).later (m1 _ _)
  have hres : Blk ((w.alloc (codeO c v)).alloc (.cells #[.int .i64 0, .int .u64 0] 34)) (w.heap.size + 1) 34 #[.int .i64 0, .int .u64 0] := by simpa using Blk.made (w.alloc (codeO c v)) 34 #[.int .i64 0, .int .u64 0]
  have hu := m2 w (codeO c v) (.cells #[.int .i64 0, .int .u64 0] 34)
  unfold codeO at hcode hres hu
  show Calls _ _ #[.agg #[.int .i64 c.regs, .int .i64 c.slots, .slice v.xA c.ins.length v.xC, .slice v.cA c.cs.length v.cC, .slice v.lA c.list.length v.lC], .slice A n cap] _ _
  go_enter Try.func10, Try.ntmps10
  go_upto_region 1 with (fail)
  generalize (w.alloc (.cells #[.int .i64 c.regs, .int .i64 c.slots, .slice v.xA c.ins.length v.xC, .slice v.cA c.cs.length v.cC, .slice v.lA c.list.length v.lC] 26)).alloc (.cells #[.int .i64 0, .int .u64 0] 34) = u0 at *
  have KD := keepsD_own [12, 17]
  have KC : G.KeepsC (fun w' => CodeAt w' w.heap.size c v ∧ Blk w' (w.heap.size + 1) 34 #[.int .i64 0, .int .u64 0] ∧ Below w.heap.size w w') := fun _ _ h hb => ⟨h.1.later hb, h.2.1.kept hb, below_more h.2.2 hb⟩
  refine G.region_wordsG 15 (fun w' => CodeAt w' w.heap.size c v ∧ Blk w' (w.heap.size + 1) 34 #[.int .i64 0, .int .u64 0] ∧ Below w.heap.size w w') (DistO [12, 17]) [G.isW (.pointer (some ⟨w.heap.size, 0, none⟩)), G.isW (.int .i64 c.regs), G.isW (.int .i64 (if 1024 < c.regs then 1024 else c.regs)), G.isW (.int .i64 ((nregs c.regs) : Int)), RgW (w.heap.size + 2) (nregs c.regs), G.isW (.pointer (some ⟨w.heap.size, 1, none⟩)), G.isW (.int .i64 c.slots), G.isW (.int .i64 (if 256 < c.slots then 256 else c.slots)), G.isW (.int .i64 ((nslots c.slots) : Int)), RgW (w.heap.size + 2) (nslots c.slots), G.isW (.slice A n cap), G.isW (.pointer (some ⟨w.heap.size, 3, none⟩)), G.isW (.slice v.cA c.cs.length v.cC), MaW (w.heap.size + 2) (nregs c.regs) (nslots c.slots) (.slice A n cap) (.slice v.cA c.cs.length v.cC), BkW w.heap.size 54 #[.slice none 0 0, .slice none 0 0, .slice none 0 0, .slice none 0 0]] (by kernel_rfl) (by repeat' (first | exact G.monoL_nil | exact G.is_mono _ | exact G.any_mono | exact rgw_mono _ _ | exact maw_mono _ _ _ _ _ | exact bkw_mono _ _ _ | refine G.monoL_cons ?_ ?_)) (by kernel_rfl) (by kernel_rfl) ⟨hcode, hres, hu.drew⟩ (disto_none (by intro p hp; simp at hp; rcases hp with rfl | rfl <;> rfl)) ?_ ?_
  ·
    refine G.stepsL_cons (fun a u hc hdd hd hk hdep => ?_) ?_
    ·
      have d2 : (a.tmps[2]?).getD undef = (.pointer (some ⟨w.heap.size, 0, none⟩)) := hk 2 (by kernel_rfl)
      refine G.step_val KC KD hc hdd rfl (.pointer (some ⟨w.heap.size, 0, none⟩)) u (G.wanted_plain rfl) ?_ rfl (Below.refl _ _)
      first | (go_simp; done) | rfl | (simp [go_sem, *]; done)
    refine G.stepsL_cons (fun a u hc hdd hd hk hdep => ?_) ?_
    ·
      have d8 : (a.tmps[8]?).getD undef = (.pointer (some ⟨w.heap.size, 0, none⟩)) := hdep ⟨0, .data⟩ (by simp) rfl
      refine G.step_val KC KD hc hdd rfl (.int .i64 c.regs) u (G.wanted_plain rfl) ?_ rfl (Below.refl _ _)
      obtain ⟨s0, s1, s2, s3, s4⟩ := hc.1
      first | (go_simp; done) | rfl | (simp [go_sem, *]; done)
    refine G.stepsL_cons (fun a u hc hdd hd hk hdep => ?_) ?_
    ·
      have d9 : (a.tmps[9]?).getD undef = (.int .i64 c.regs) := hdep ⟨1, .data⟩ (by simp) rfl
      refine G.step_val KC KD hc hdd rfl (.int .i64 (if 1024 < c.regs then 1024 else c.regs)) u (G.wanted_plain rfl) ?_ rfl (Below.refl _ _)
      first | (go_simp; done) | rfl | (simp [go_sem, *]; done)
    refine G.stepsL_cons (fun a u hc hdd hd hk hdep => ?_) ?_
    ·
      have d10 : (a.tmps[10]?).getD undef = (.int .i64 (if 1024 < c.regs then 1024 else c.regs)) := hdep ⟨2, .data⟩ (by simp) rfl
      refine G.step_val KC KD hc hdd rfl (.int .i64 ((nregs c.regs) : Int)) u (G.wanted_plain rfl) ?_ rfl (Below.refl _ _)
      rw [← hmx.out]
      first | (go_simp; done) | rfl | (simp [go_sem, *]; done)
    refine G.stepsL_cons (fun a u hc hdd hd hk hdep => ?_) ?_
    ·
      have d11 : (a.tmps[11]?).getD undef = (.int .i64 ((nregs c.regs) : Int)) := hdep ⟨3, .data⟩ (by simp) rfl
      have hmk := make_regs u (nregs c.regs) (nregs_le _)
      refine G.step_valD KC hc (.slice (some ⟨u.heap.size, 0, none⟩) (nregs c.regs) (nregs c.regs)) (u.alloc (.cells (madeCells #[.int .i64 0, .int .u64 0] ((nregs c.regs) * 2)) 34)) (G.wanted_plain rfl) ?_ ⟨u.heap.size, rfl, hc.2.1.lt, Rg.blanks u (nregs c.regs)⟩ (m1 _ _) (disto_new 12 _ _ _ hdd)
      first | (go_simp; done) | rfl | (simp [go_sem, *]; done)
    refine G.stepsL_cons (fun a u hc hdd hd hk hdep => ?_) ?_
    ·
      have d2 : (a.tmps[2]?).getD undef = (.pointer (some ⟨w.heap.size, 0, none⟩)) := hk 2 (by kernel_rfl)
      refine G.step_val KC KD hc hdd rfl (.pointer (some ⟨w.heap.size, 1, none⟩)) u (G.wanted_plain rfl) ?_ rfl (Below.refl _ _)
      first | (go_simp; done) | rfl | (simp [go_sem, *]; done)
    refine G.stepsL_cons (fun a u hc hdd hd hk hdep => ?_) ?_
    ·
      have d13 : (a.tmps[13]?).getD undef = (.pointer (some ⟨w.heap.size, 1, none⟩)) := hdep ⟨5, .data⟩ (by simp) rfl
      refine G.step_val KC KD hc hdd rfl (.int .i64 c.slots) u (G.wanted_plain rfl) ?_ rfl (Below.refl _ _)
      obtain ⟨s0, s1, s2, s3, s4⟩ := hc.1
      first | (go_simp; done) | rfl | (simp [go_sem, *]; done)
    refine G.stepsL_cons (fun a u hc hdd hd hk hdep => ?_) ?_
    ·
      have d14 : (a.tmps[14]?).getD undef = (.int .i64 c.slots) := hdep ⟨6, .data⟩ (by simp) rfl
      refine G.step_val KC KD hc hdd rfl (.int .i64 (if 256 < c.slots then 256 else c.slots)) u (G.wanted_plain rfl) ?_ rfl (Below.refl _ _)
      first | (go_simp; done) | rfl | (simp [go_sem, *]; done)
    refine G.stepsL_cons (fun a u hc hdd hd hk hdep => ?_) ?_
    ·
      have d15 : (a.tmps[15]?).getD undef = (.int .i64 (if 256 < c.slots then 256 else c.slots)) := hdep ⟨7, .data⟩ (by simp) rfl
      refine G.step_val KC KD hc hdd rfl (.int .i64 ((nslots c.slots) : Int)) u (G.wanted_plain rfl) ?_ rfl (Below.refl _ _)
      rw [← hms.out]
      first | (go_simp; done) | rfl | (simp [go_sem, *]; done)
    refine G.stepsL_cons (fun a u hc hdd hd hk hdep => ?_) ?_
    ·
      have d16 : (a.tmps[16]?).getD undef = (.int .i64 ((nslots c.slots) : Int)) := hdep ⟨8, .data⟩ (by simp) rfl
      have hmk := make_regs u (nslots c.slots) (nslots_le _)
      refine G.step_valD KC hc (.slice (some ⟨u.heap.size, 0, none⟩) (nslots c.slots) (nslots c.slots)) (u.alloc (.cells (madeCells #[.int .i64 0, .int .u64 0] ((nslots c.slots) * 2)) 34)) (G.wanted_plain rfl) ?_ ⟨u.heap.size, rfl, hc.2.1.lt, Rg.blanks u (nslots c.slots)⟩ (m1 _ _) (disto_new 17 _ _ _ hdd)
      first | (go_simp; done) | rfl | (simp [go_sem, *]; done)
    refine G.stepsL_cons (fun a u hc hdd hd hk hdep => ?_) ?_
    ·
      have d1 : (a.tmps[1]?).getD undef = (.slice A n cap) := hk 1 (by kernel_rfl)
      refine G.step_val KC KD hc hdd rfl (.slice A n cap) u (G.wanted_plain rfl) ?_ rfl (Below.refl _ _)
      first | (go_simp; done) | rfl | (simp [go_sem, *]; done)
    refine G.stepsL_cons (fun a u hc hdd hd hk hdep => ?_) ?_
    ·
      have d2 : (a.tmps[2]?).getD undef = (.pointer (some ⟨w.heap.size, 0, none⟩)) := hk 2 (by kernel_rfl)
      refine G.step_val KC KD hc hdd rfl (.pointer (some ⟨w.heap.size, 3, none⟩)) u (G.wanted_plain rfl) ?_ rfl (Below.refl _ _)
      first | (go_simp; done) | rfl | (simp [go_sem, *]; done)
    refine G.stepsL_cons (fun a u hc hdd hd hk hdep => ?_) ?_
    ·
      have d19 : (a.tmps[19]?).getD undef = (.pointer (some ⟨w.heap.size, 3, none⟩)) := hdep ⟨11, .data⟩ (by simp) rfl
      refine G.step_val KC KD hc hdd rfl (.slice v.cA c.cs.length v.cC) u (G.wanted_plain rfl) ?_ rfl (Below.refl _ _)
      obtain ⟨s0, s1, s2, s3, s4⟩ := hc.1
      first | (go_simp; done) | rfl | (simp [go_sem, *]; done)
    refine G.stepsL_cons (fun a u hc hdd hd hk hdep => ?_) ?_
    ·
      have d12' : (RgW (w.heap.size + 2) (nregs c.regs)) ((a.tmps[12]?).getD undef) u := hdep ⟨4, .data⟩ (by simp) rfl
      obtain ⟨g4, d12, hg4, h4⟩ := d12'
      have d17' : (RgW (w.heap.size + 2) (nslots c.slots)) ((a.tmps[17]?).getD undef) u := hdep ⟨9, .data⟩ (by simp) rfl
      obtain ⟨g9, d17, hg9, h9⟩ := d17'
      have d18 : (a.tmps[18]?).getD undef = (.slice A n cap) := hdep ⟨10, .data⟩ (by simp) rfl
      have d20 : (a.tmps[20]?).getD undef = (.slice v.cA c.cs.length v.cC) := hdep ⟨12, .data⟩ (by simp) rfl
      have hne : g4 ≠ g9 := fun e => (hdd 12 (by simp) g4 (by unfold slotO; rw [d12]; rfl)).2 17 (by simp) (by decide) (by unfold slotO; rw [d17, e]; rfl)
      refine G.step_val KC KD hc hdd rfl (.agg #[.slice (some ⟨g4, 0, none⟩) (nregs c.regs) (nregs c.regs), .slice (some ⟨g9, 0, none⟩) (nslots c.slots) (nslots c.slots), .slice A n cap, .slice v.cA c.cs.length v.cC]) u (G.wanted_plain rfl) ?_ ⟨g4, g9, rfl, hg4, hg9, hne, h4, h9⟩ (Below.refl _ _)
      first | (go_simp; done) | rfl | (simp [go_sem, *]; done)
    refine G.stepsL_cons (fun a u hc hdd hd hk hdep => ?_) ?_
    ·
      refine G.step_val KC KD hc hdd rfl (.pointer (some ⟨u.heap.size, 0, none⟩)) (u.alloc (.cells #[.slice none 0 0, .slice none 0 0, .slice none 0 0, .slice none 0 0] 54)) (G.wanted_plain rfl) ?_ ⟨u.heap.size, rfl, hc.2.2.size, Blk.made u _ _⟩ (m1 _ _)
      first | (go_simp; done) | rfl | (simp [go_sem, *]; done)
    exact G.stepsL_nil
  intro vs' wN hN hD hh
  obtain ⟨gr, gs, e13, hgr, hgs, hne, hR, hS⟩ : MaW (w.heap.size + 2) (nregs c.regs) (nslots c.slots) (.slice A n cap) (.slice v.cA c.cs.length v.cC) (vs' 13) wN := by
    obtain ⟨-, -, -, -, -, -, -, -, -, -, -, -, -, eX, -⟩ := hh
    exact eX
  obtain ⟨M, e14, hM, hB⟩ : BkW w.heap.size 54 #[.slice none 0 0, .slice none 0 0, .slice none 0 0, .slice none 0 0] (vs' 14) wN := by
    obtain ⟨-, -, -, -, -, -, -, -, -, -, -, -, -, -, eX, -⟩ := hh
    exact eX
  clear hh hD hcode hres hu hmx hms
  obtain ⟨hcode, hres, hu⟩ := hN
  set_option maxRecDepth 100000 in simp only [List.take_succ_cons, List.take_zero, putAll, Act.put, List.setIfInBounds_toArray, List.set_cons_zero, List.set_cons_succ, Nat.reduceAdd, e13, e14]
  have b0 := (hB.cell 0)
  have b1 := (hB.cell 1)
  have b2 := (hB.cell 2)
  have b3 := (hB.cell 3)
  replace b0 : wN.cell? ⟨M, 0, none⟩ = some (.slice none 0 0) := b0
  replace b1 : wN.cell? ⟨M, 1, none⟩ = some (.slice none 0 0) := b1
  replace b2 : wN.cell? ⟨M, 2, none⟩ = some (.slice none 0 0) := b2
  replace b3 : wN.cell? ⟨M, 3, none⟩ = some (.slice none 0 0) := b3
  have f0 := hB.free 0
  have f1 := hB.free 1
  have f2 := hB.free 2
  have f3 := hB.free 3
  have nR : M ≠ gr := fun e => by
    subst e; obtain ⟨cs, h1, _⟩ := hR; unfold Blk at h1 hB; rw [hB] at h1; injection h1 with h1; injection h1 with _ h1; exact absurd h1 (by decide)
  have nS : M ≠ gs := fun e => by
    subst e; obtain ⟨cs, h1, _⟩ := hS; unfold Blk at h1 hB; rw [hB] at h1; injection h1 with h1; injection h1 with _ h1; exact absurd h1 (by decide)
  have nr : M ≠ w.heap.size + 1 := fun e => by
    subst e; unfold Blk at hres hB; rw [hB] at hres; injection hres with h1; injection h1 with _ h1; exact absurd h1 (by decide)
  have r : Blk ((((wN.setCell ⟨M, 0, none⟩ (.slice (some ⟨gr, 0, none⟩) (nregs c.regs) (nregs c.regs))).setCell ⟨M, 1, none⟩ (.slice (some ⟨gs, 0, none⟩) (nslots c.slots) (nslots c.slots))).setCell ⟨M, 2, none⟩ (.slice A n cap)).setCell ⟨M, 3, none⟩ (.slice v.cA c.cs.length v.cC)) M 54 #[.slice (some ⟨gr, 0, none⟩) (nregs c.regs) (nregs c.regs), .slice (some ⟨gs, 0, none⟩) (nslots c.slots) (nslots c.slots), (.slice A n cap), (.slice v.cA c.cs.length v.cC)] := by
    have := (((hB.put_ 0 (.slice (some ⟨gr, 0, none⟩) (nregs c.regs) (nregs c.regs))).put_ 1 (.slice (some ⟨gs, 0, none⟩) (nslots c.slots) (nslots c.slots))).put_ 2 (.slice A n cap)).put_ 3 (.slice v.cA c.cs.length v.cC)
    simpa using this
  replace hR := (((hR.setc (p := ⟨M, 0, none⟩) nR (.slice (some ⟨gr, 0, none⟩) (nregs c.regs) (nregs c.regs))).setc (p := ⟨M, 1, none⟩) nR (.slice (some ⟨gs, 0, none⟩) (nslots c.slots) (nslots c.slots))).setc (p := ⟨M, 2, none⟩) nR (.slice A n cap)).setc (p := ⟨M, 3, none⟩) nR (.slice v.cA c.cs.length v.cC)
  replace hS := (((hS.setc (p := ⟨M, 0, none⟩) nS (.slice (some ⟨gr, 0, none⟩) (nregs c.regs) (nregs c.regs))).setc (p := ⟨M, 1, none⟩) nS (.slice (some ⟨gs, 0, none⟩) (nslots c.slots) (nslots c.slots))).setc (p := ⟨M, 2, none⟩) nS (.slice A n cap)).setc (p := ⟨M, 3, none⟩) nS (.slice v.cA c.cs.length v.cC)
  replace hres := (((hres.else_ (p := ⟨M, 0, none⟩) nr (.slice (some ⟨gr, 0, none⟩) (nregs c.regs) (nregs c.regs))).else_ (p := ⟨M, 1, none⟩) nr (.slice (some ⟨gs, 0, none⟩) (nslots c.slots) (nslots c.slots))).else_ (p := ⟨M, 2, none⟩) nr (.slice A n cap)).else_ (p := ⟨M, 3, none⟩) nr (.slice v.cA c.cs.length v.cC)
  have hgrl := hR.lt
  have hlt : w.heap.size + 1 < wN.heap.size := by have := hres.lt; simpa using this
  have hl := hcode.2.2.2.2
  replace hl : ((((wN.setCell ⟨M, 0, none⟩ (.slice (some ⟨gr, 0, none⟩) (nregs c.regs) (nregs c.regs))).setCell ⟨M, 1, none⟩ (.slice (some ⟨gs, 0, none⟩) (nslots c.slots) (nslots c.slots))).setCell ⟨M, 2, none⟩ (.slice A n cap)).setCell ⟨M, 3, none⟩ (.slice v.cA c.cs.length v.cC)).cell? ⟨w.heap.size, 4, none⟩ = some (.slice v.lA c.list.length v.lC) := by
    rw [World.cell?_setCell_other _ _ _ _ (by simp), World.cell?_setCell_other _ _ _ _ (by simp), World.cell?_setCell_other _ _ _ _ (by simp), World.cell?_setCell_other _ _ _ _ (by simp)]
    exact hl
  replace hu := (((hu.setCell (p := ⟨M, 0, none⟩) hM (.slice (some ⟨gr, 0, none⟩) (nregs c.regs) (nregs c.regs))).setCell (p := ⟨M, 1, none⟩) hM (.slice (some ⟨gs, 0, none⟩) (nslots c.slots) (nslots c.slots))).setCell (p := ⟨M, 2, none⟩) hM (.slice A n cap)).setCell (p := ⟨M, 3, none⟩) hM (.slice v.cA c.cs.length v.cC)
  refine wpAny_ready (rs := [15]) (by kernel_rfl) (by simp) ?_
  refine AllReady.cons rfl (fun K hK => ?_) AllReady.nil
  go_simp
  refine hK _ _ ?_
  clear hK K b0 b1 b2 b3 f0 f1 f2 f3 e13 e14 hB hcode
  refine wpAny_done (by kernel_rfl) ?_ _
  generalize (((wN.setCell ⟨M, 0, none⟩ (.slice (some ⟨gr, 0, none⟩) (nregs c.regs) (nregs c.regs))).setCell ⟨M, 1, none⟩ (.slice (some ⟨gs, 0, none⟩) (nslots c.slots) (nslots c.slots))).setCell ⟨M, 2, none⟩ (.slice A n cap)).setCell ⟨M, 3, none⟩ (.slice v.cA c.cs.length v.cC) = u at *
  have hmc : MC ⟨M, gr, gs, (nregs c.regs), (nslots c.slots), A, n, cap, inputs, v.cA, c.cs.length, v.cC, c.cs⟩ (blank (nregs c.regs), blank (nslots c.slots)) u :=
    ⟨⟨r.cell 0, r.cell 1, r.cell 2, r.cell 3⟩, hR, hS, by simp [blank], by simp [blank], by have := nregs_le c.regs; show nregs c.regs ≤ _; omega, by have := nslots_le c.slots; show nslots c.slots ≤ _; omega, hv.later hu, hn, hc.cs.later hu, by have := hc.szC; show c.cs.length ≤ _; omega, ⟨okL_blank _, okL_blank _⟩, hne⟩
  have hlist := hc.list
  have hlen := hc.szL
  have hJ : RunJ w (w.heap.size + 1) ⟨M, gr, gs, (nregs c.regs), (nslots c.slots), A, n, cap, inputs, v.cA, c.cs.length, v.cC, c.cs⟩ (blank (nregs c.regs), blank (nslots c.slots)) u := ⟨hmc, hu, hres⟩
  clear hmc hR hS hres r hn hgrl hlt nr
  replace hE := hE.out
  generalize hm : (⟨M, gr, gs, (nregs c.regs), (nslots c.slots), A, n, cap, inputs, v.cA, c.cs.length, v.cC, c.cs⟩ : MP) = m at *
  have hmM : m.M = M := by rw [← hm]
  have hmr : w.heap.size + 2 ≤ m.gr ∧ w.heap.size + 2 ≤ m.gs := by rw [← hm]; exact ⟨hgr, hgs⟩
  have hmM2 : m.M ≠ m.gr ∧ m.M ≠ m.gs := by rw [← hm]; exact ⟨nR, nS⟩
  have hmI : RowV w m.iA m.iN m.ins := by rw [← hm]; exact hv
  have hmC : RowV w m.cA m.cN m.cs := by rw [← hm]; exact hc.cs
  have hmi : m.ins = inputs ∧ m.cs = c.cs := by rw [← hm]; exact ⟨rfl, rfl⟩
  have hmw : u.cell? ⟨m.M, 0, none⟩ = some (.slice (some ⟨m.gr, 0, none⟩) m.nr m.nr) := hJ.mc.cells.1
  rw [← hmi.1, ← hmi.2] at hE
  subst hmM
  clear hm hmi hgr hgs hne hM hmw nR nS hc hv
  generalize blank (nregs c.regs) = s1 at *
  generalize blank (nslots c.slots) = s2 at *
  generalize c.list = l at *
  generalize v.lA = lA at *
  generalize v.lC = lC at *
  have hlen' : l.length ≤ 9223372036854775807 := by omega
  replace hlen := Lib.hid hlen
  replace hE := Lib.hid hE
  replace hlist := Lib.hid hlist
  replace hmI := Lib.hid hmI
  replace hmC := Lib.hid hmC
  replace hmM2 := Lib.hid hmM2
  replace hmr := Lib.hid hmr
  replace hJ := Lib.hid hJ
  clear hu
  go_wp2_with fail
  go_loopw [25] (fun i wr => ∃ (k : Nat) (s : List VN × List VN), k ≤ l.length ∧ i = .int .i64 (k : Int) ∧ runP m.ins m.cs (s1, s2) l = runP m.ins m.cs s (l.drop k) ∧ RunJ w (w.heap.size + 1) m s wr) (fun i _ => l.length - (intOf i).toNat)
  case atStart => exact ⟨0, (s1, s2), Nat.zero_le _, rfl, by simp, hJ.out⟩
  case round =>
    obtain ⟨k, s, hk, rfl, hrun, hJr⟩ := hrel
    clear hJ hl
    by_cases hlt : k < l.length
    · obtain ⟨b, off, rfl, hcells⟩ := hlist.out (by omega)
      have hx := List.getElem?_eq_getElem hlt
      obtain ⟨q0, q1, q2, q3⟩ := hcells k _ hx
      rw [runP_here m.ins m.cs s l k _ hx] at hrun
      replace q0 := cell_later hJr.bel q0
      replace q1 := cell_later hJr.bel q1
      replace q2 := cell_later hJr.bel q2
      replace q3 := cell_later hJr.bel q3
      clear hcells hx
      generalize l[k] = x at *
      have k0 : (0 : Int) ≤ (k : Int) := by omega
      have k1 : (k : Int) < (l.length : Int) := by omega
      have hb := m1 wr (.cells #[.int .i64 x.1, .int .i64 x.2.1, .int .i64 x.2.2.1, .int .i64 x.2.2.2] 42)
      have hJ1 := hJr.later hb
      have hi := insAt_new wr x
      by_cases h52 : x.1 = 52
      · rw [if_pos h52] at hrun
        have e52 : (x.1 == 52) = true := by simpa using h52
        have hV := Lib.hid (fun u hm => vread_any (some ⟨m.gr, 0, none⟩) m.nr m.nr s.1 x.2.2.1 u (MC.rowR hm) (MC.nr64 hm))
        replace hrun := Lib.hid hrun
        generalize rdV s.1 x.2.2.1 = y at *
        generalize runP m.ins m.cs (s1, s2) l = z at *
        have i0 := hi.1
        have i2 := hi.2.2.1
        have z0 := hJ1.mc.cells.1
        clear hb hJr hi h52
        go_upto_region 5 with (fail)
        generalize wr.alloc (.cells #[.int .i64 x.1, .int .i64 x.2.1, .int .i64 x.2.2.1, .int .i64 x.2.2.2] 42) = u1 at *
        clear q0 q1 q2 q3
        go_wp2_with fail
        refine (hV.out u1 hJ1.mc).mono ?_; rintro e w2 ⟨rfl, hb2⟩
        have hJ2 := hJ1.later hb2
        obtain ⟨yk, yb⟩ := y
        have r0 : w2.cell? ⟨w.heap.size + 1, 0, none⟩ = some (.int .i64 0) := hJ2.res.cell 0
        have r1 : w2.cell? ⟨w.heap.size + 1, 1, none⟩ = some (.int .u64 0) := hJ2.res.cell 1
        have f0 := hJ2.res.free 0
        have f1 := hJ2.res.free 1
        obtain ⟨_, p1, p2⟩ := put2 (.int .i64 yk) (.int .u64 (yb : Int)) r0 r1
        have hB := (hJ2.bel.setCell (p := ⟨w.heap.size + 1, 0, none⟩) (by simp) (.int .i64 yk)).setCell (p := ⟨w.heap.size + 1, 1, none⟩) (by simp) (.int .u64 (yb : Int))
        clear hJ1 hJ2 hb2 i0 i2 z0
        go_wp2
        exact bodyPost_ret (v := .agg #[.int .i64 yk, .int .u64 (yb : Int)]) (by simp [results, Try.results10, go_sem, p1, p2]) rfl ⟨by rw [hE.out, hrun.out], hB⟩
      · rw [if_neg h52] at hrun
        have e52 : (x.1 == 52) = false := by simpa using h52
        have hDo := do_step m s x
        have hDe := deed_any x.1
        have hs' : (stepP m.ins m.cs s x).1.length = s.1.length ∧ (stepP m.ins m.cs s x).2.length = s.2.length := step_len _ _ _ _
        have hok' : OkL (stepP m.ins m.cs s x).1 ∧ OkL (stepP m.ins m.cs s x).2 := step_ok w hmI.out.2.1 hmC.out.2.1 hJr.mc.ok x
        replace hs' := Lib.hid hs'
        replace hok' := Lib.hid hok'
        replace hrun := Lib.hid hrun
        generalize stepP m.ins m.cs s x = t at *
        generalize runP m.ins m.cs (s1, s2) l = z at *
        rcases deedF_cases x.1 with hN | hN | hN | hN | hN | hN | hN
        · rw [hN] at hDo hDe
          replace hDo := Lib.hid hDo
          replace hDe := Lib.hid hDe
          clear hN h52 hJr
          have i0 := hi.1
          go_upto_region 7 with (fail)
          generalize wr.alloc (.cells #[.int .i64 x.1, .int .i64 x.2.1, .int .i64 x.2.2.1, .int .i64 x.2.2.2] 42) = u1 at *
          clear q0 q1 q2 q3 i0
          have KD := G.keepsD_true []
          have KC : G.KeepsC (fun w' => RunJ w (w.heap.size + 1) m s w' ∧ InsAt w' wr.heap.size x) := fun _ _ h hb => ⟨h.1.later hb, h.2.later hb⟩
          refine G.region_wordsG 4 (fun w' => RunJ w (w.heap.size + 1) m s w' ∧ InsAt w' wr.heap.size x) (fun _ _ => True) [G.isW (.pointer (some ⟨wr.heap.size, 0, none⟩)), G.isW (.int .i64 x.1), G.isW (.func (.func 28) #[] #[]), G.isW (.agg #[.int .i64 x.1, .int .i64 x.2.1, .int .i64 x.2.2.1, .int .i64 x.2.2.2])] (by kernel_rfl) (by repeat' (first | exact G.monoL_nil | exact G.is_mono _ | exact G.any_mono | refine G.monoL_cons ?_ ?_)) (by kernel_rfl) (by kernel_rfl) ⟨hJ1.later (Below.refl _ _).drew, hi.later (Below.refl _ _).drew⟩ trivial ?_ ?_
          ·
            refine G.stepsL_cons (fun a u hc hdd hd hk hdep => ?_) ?_
            ·
              have d7 : (a.tmps[7]?).getD undef = (.pointer (some ⟨wr.heap.size, 0, none⟩)) := hk 7 (by kernel_rfl)
              refine G.step_val KC KD hc hdd rfl (.pointer (some ⟨wr.heap.size, 0, none⟩)) u (G.wanted_plain rfl) ?_ rfl (Below.refl _ _)
              first | (go_simp; done) | rfl | (simp [go_sem, *]; done)
            refine G.stepsL_cons (fun a u hc hdd hd hk hdep => ?_) ?_
            ·
              have d37 : (a.tmps[37]?).getD undef = (.pointer (some ⟨wr.heap.size, 0, none⟩)) := hdep ⟨0, .data⟩ (by simp) rfl
              refine G.step_val KC KD hc hdd rfl (.int .i64 x.1) u (G.wanted_plain rfl) ?_ rfl (Below.refl _ _)
              obtain ⟨i0, i1, i2, i3⟩ := hc.2
              first | (go_simp; done) | rfl | (simp [go_sem, *]; done)
            refine G.stepsL_cons (fun a u hc hdd hd hk hdep => ?_) ?_
            ·
              have d38 : (a.tmps[38]?).getD undef = (.int .i64 x.1) := hdep ⟨1, .data⟩ (by simp) rfl
              refine G.step_call KC KD hc hdd rfl 20 #[.int .i64 x.1] (G.wanted_plain rfl) (by first | (go_simp; done) | rfl) ?_
              exact (hDe.out u).mono (by rintro e w' ⟨rfl, hb⟩; exact ⟨_, rfl, rfl, hb⟩)
            refine G.stepsL_cons (fun a u hc hdd hd hk hdep => ?_) ?_
            ·
              have d7 : (a.tmps[7]?).getD undef = (.pointer (some ⟨wr.heap.size, 0, none⟩)) := hk 7 (by kernel_rfl)
              refine G.step_val KC KD hc hdd rfl (.agg #[.int .i64 x.1, .int .i64 x.2.1, .int .i64 x.2.2.1, .int .i64 x.2.2.2]) u (G.wanted_plain rfl) ?_ rfl (Below.refl _ _)
              obtain ⟨i0, i1, i2, i3⟩ := hc.2
              first | (go_simp; done) | rfl | (simp [go_sem, *]; done)
            exact G.stepsL_nil
          intro vs' wN hNN hDD hh
          obtain ⟨-, -, e2, e3, -⟩ := hh
          replace e2 : vs' 2 = (.func (.func 28) #[] #[]) := e2
          replace e3 : vs' 3 = (.agg #[.int .i64 x.1, .int .i64 x.2.1, .int .i64 x.2.2.1, .int .i64 x.2.2.2]) := e3
          clear hJ1 hi
          obtain ⟨hJN, -⟩ := hNN
          set_option maxRecDepth 100000 in simp only [List.take_succ_cons, List.take_zero, putAll, Act.put, List.setIfInBounds_toArray, List.set_cons_zero, List.set_cons_succ, Nat.reduceAdd, e2, e3]
          clear e2 e3
          refine wpAny_ready (rs := [4]) (by kernel_rfl) (by simp) ?_
          refine AllReady.cons rfl (fun K hK => ?_) AllReady.nil
          go_simp
          refine (hDo.out wN hJN.mc).mono ?_; rintro e w2 ⟨rfl, hR, hS, hG⟩
          have hJ2 := hJN.step (s' := t) hR hS hG hs'.out hok'.out hmM2.out hmr.out hmI.out hmC.out
          refine hK _ _ ?_
          clear hK K hR hS hG
          refine wpAny_done (by kernel_rfl) ?_ _
          go_wp2
          go_roundw
          case rel => exact ⟨k + 1, t, by omega, by go_num, hrun.out, hJ2⟩
          case measure => simp [intOf]; omega
        · rw [hN] at hDo hDe
          replace hDo := Lib.hid hDo
          replace hDe := Lib.hid hDe
          clear hN h52 hJr
          have i0 := hi.1
          go_upto_region 7 with (fail)
          generalize wr.alloc (.cells #[.int .i64 x.1, .int .i64 x.2.1, .int .i64 x.2.2.1, .int .i64 x.2.2.2] 42) = u1 at *
          clear q0 q1 q2 q3 i0
          have KD := G.keepsD_true []
          have KC : G.KeepsC (fun w' => RunJ w (w.heap.size + 1) m s w' ∧ InsAt w' wr.heap.size x) := fun _ _ h hb => ⟨h.1.later hb, h.2.later hb⟩
          refine G.region_wordsG 4 (fun w' => RunJ w (w.heap.size + 1) m s w' ∧ InsAt w' wr.heap.size x) (fun _ _ => True) [G.isW (.pointer (some ⟨wr.heap.size, 0, none⟩)), G.isW (.int .i64 x.1), G.isW (.func (.func 29) #[] #[]), G.isW (.agg #[.int .i64 x.1, .int .i64 x.2.1, .int .i64 x.2.2.1, .int .i64 x.2.2.2])] (by kernel_rfl) (by repeat' (first | exact G.monoL_nil | exact G.is_mono _ | exact G.any_mono | refine G.monoL_cons ?_ ?_)) (by kernel_rfl) (by kernel_rfl) ⟨hJ1.later (Below.refl _ _).drew, hi.later (Below.refl _ _).drew⟩ trivial ?_ ?_
          ·
            refine G.stepsL_cons (fun a u hc hdd hd hk hdep => ?_) ?_
            ·
              have d7 : (a.tmps[7]?).getD undef = (.pointer (some ⟨wr.heap.size, 0, none⟩)) := hk 7 (by kernel_rfl)
              refine G.step_val KC KD hc hdd rfl (.pointer (some ⟨wr.heap.size, 0, none⟩)) u (G.wanted_plain rfl) ?_ rfl (Below.refl _ _)
              first | (go_simp; done) | rfl | (simp [go_sem, *]; done)
            refine G.stepsL_cons (fun a u hc hdd hd hk hdep => ?_) ?_
            ·
              have d37 : (a.tmps[37]?).getD undef = (.pointer (some ⟨wr.heap.size, 0, none⟩)) := hdep ⟨0, .data⟩ (by simp) rfl
              refine G.step_val KC KD hc hdd rfl (.int .i64 x.1) u (G.wanted_plain rfl) ?_ rfl (Below.refl _ _)
              obtain ⟨i0, i1, i2, i3⟩ := hc.2
              first | (go_simp; done) | rfl | (simp [go_sem, *]; done)
            refine G.stepsL_cons (fun a u hc hdd hd hk hdep => ?_) ?_
            ·
              have d38 : (a.tmps[38]?).getD undef = (.int .i64 x.1) := hdep ⟨1, .data⟩ (by simp) rfl
              refine G.step_call KC KD hc hdd rfl 20 #[.int .i64 x.1] (G.wanted_plain rfl) (by first | (go_simp; done) | rfl) ?_
              exact (hDe.out u).mono (by rintro e w' ⟨rfl, hb⟩; exact ⟨_, rfl, rfl, hb⟩)
            refine G.stepsL_cons (fun a u hc hdd hd hk hdep => ?_) ?_
            ·
              have d7 : (a.tmps[7]?).getD undef = (.pointer (some ⟨wr.heap.size, 0, none⟩)) := hk 7 (by kernel_rfl)
              refine G.step_val KC KD hc hdd rfl (.agg #[.int .i64 x.1, .int .i64 x.2.1, .int .i64 x.2.2.1, .int .i64 x.2.2.2]) u (G.wanted_plain rfl) ?_ rfl (Below.refl _ _)
              obtain ⟨i0, i1, i2, i3⟩ := hc.2
              first | (go_simp; done) | rfl | (simp [go_sem, *]; done)
            exact G.stepsL_nil
          intro vs' wN hNN hDD hh
          obtain ⟨-, -, e2, e3, -⟩ := hh
          replace e2 : vs' 2 = (.func (.func 29) #[] #[]) := e2
          replace e3 : vs' 3 = (.agg #[.int .i64 x.1, .int .i64 x.2.1, .int .i64 x.2.2.1, .int .i64 x.2.2.2]) := e3
          clear hJ1 hi
          obtain ⟨hJN, -⟩ := hNN
          set_option maxRecDepth 100000 in simp only [List.take_succ_cons, List.take_zero, putAll, Act.put, List.setIfInBounds_toArray, List.set_cons_zero, List.set_cons_succ, Nat.reduceAdd, e2, e3]
          clear e2 e3
          refine wpAny_ready (rs := [4]) (by kernel_rfl) (by simp) ?_
          refine AllReady.cons rfl (fun K hK => ?_) AllReady.nil
          go_simp
          refine (hDo.out wN hJN.mc).mono ?_; rintro e w2 ⟨rfl, hR, hS, hG⟩
          have hJ2 := hJN.step (s' := t) hR hS hG hs'.out hok'.out hmM2.out hmr.out hmI.out hmC.out
          refine hK _ _ ?_
          clear hK K hR hS hG
          refine wpAny_done (by kernel_rfl) ?_ _
          go_wp2
          go_roundw
          case rel => exact ⟨k + 1, t, by omega, by go_num, hrun.out, hJ2⟩
          case measure => simp [intOf]; omega
        · rw [hN] at hDo hDe
          replace hDo := Lib.hid hDo
          replace hDe := Lib.hid hDe
          clear hN h52 hJr
          have i0 := hi.1
          go_upto_region 7 with (fail)
          generalize wr.alloc (.cells #[.int .i64 x.1, .int .i64 x.2.1, .int .i64 x.2.2.1, .int .i64 x.2.2.2] 42) = u1 at *
          clear q0 q1 q2 q3 i0
          have KD := G.keepsD_true []
          have KC : G.KeepsC (fun w' => RunJ w (w.heap.size + 1) m s w' ∧ InsAt w' wr.heap.size x) := fun _ _ h hb => ⟨h.1.later hb, h.2.later hb⟩
          refine G.region_wordsG 4 (fun w' => RunJ w (w.heap.size + 1) m s w' ∧ InsAt w' wr.heap.size x) (fun _ _ => True) [G.isW (.pointer (some ⟨wr.heap.size, 0, none⟩)), G.isW (.int .i64 x.1), G.isW (.func (.func 30) #[] #[]), G.isW (.agg #[.int .i64 x.1, .int .i64 x.2.1, .int .i64 x.2.2.1, .int .i64 x.2.2.2])] (by kernel_rfl) (by repeat' (first | exact G.monoL_nil | exact G.is_mono _ | exact G.any_mono | refine G.monoL_cons ?_ ?_)) (by kernel_rfl) (by kernel_rfl) ⟨hJ1.later (Below.refl _ _).drew, hi.later (Below.refl _ _).drew⟩ trivial ?_ ?_
          ·
            refine G.stepsL_cons (fun a u hc hdd hd hk hdep => ?_) ?_
            ·
              have d7 : (a.tmps[7]?).getD undef = (.pointer (some ⟨wr.heap.size, 0, none⟩)) := hk 7 (by kernel_rfl)
              refine G.step_val KC KD hc hdd rfl (.pointer (some ⟨wr.heap.size, 0, none⟩)) u (G.wanted_plain rfl) ?_ rfl (Below.refl _ _)
              first | (go_simp; done) | rfl | (simp [go_sem, *]; done)
            refine G.stepsL_cons (fun a u hc hdd hd hk hdep => ?_) ?_
            ·
              have d37 : (a.tmps[37]?).getD undef = (.pointer (some ⟨wr.heap.size, 0, none⟩)) := hdep ⟨0, .data⟩ (by simp) rfl
              refine G.step_val KC KD hc hdd rfl (.int .i64 x.1) u (G.wanted_plain rfl) ?_ rfl (Below.refl _ _)
              obtain ⟨i0, i1, i2, i3⟩ := hc.2
              first | (go_simp; done) | rfl | (simp [go_sem, *]; done)
            refine G.stepsL_cons (fun a u hc hdd hd hk hdep => ?_) ?_
            ·
              have d38 : (a.tmps[38]?).getD undef = (.int .i64 x.1) := hdep ⟨1, .data⟩ (by simp) rfl
              refine G.step_call KC KD hc hdd rfl 20 #[.int .i64 x.1] (G.wanted_plain rfl) (by first | (go_simp; done) | rfl) ?_
              exact (hDe.out u).mono (by rintro e w' ⟨rfl, hb⟩; exact ⟨_, rfl, rfl, hb⟩)
            refine G.stepsL_cons (fun a u hc hdd hd hk hdep => ?_) ?_
            ·
              have d7 : (a.tmps[7]?).getD undef = (.pointer (some ⟨wr.heap.size, 0, none⟩)) := hk 7 (by kernel_rfl)
              refine G.step_val KC KD hc hdd rfl (.agg #[.int .i64 x.1, .int .i64 x.2.1, .int .i64 x.2.2.1, .int .i64 x.2.2.2]) u (G.wanted_plain rfl) ?_ rfl (Below.refl _ _)
              obtain ⟨i0, i1, i2, i3⟩ := hc.2
              first | (go_simp; done) | rfl | (simp [go_sem, *]; done)
            exact G.stepsL_nil
          intro vs' wN hNN hDD hh
          obtain ⟨-, -, e2, e3, -⟩ := hh
          replace e2 : vs' 2 = (.func (.func 30) #[] #[]) := e2
          replace e3 : vs' 3 = (.agg #[.int .i64 x.1, .int .i64 x.2.1, .int .i64 x.2.2.1, .int .i64 x.2.2.2]) := e3
          clear hJ1 hi
          obtain ⟨hJN, -⟩ := hNN
          set_option maxRecDepth 100000 in simp only [List.take_succ_cons, List.take_zero, putAll, Act.put, List.setIfInBounds_toArray, List.set_cons_zero, List.set_cons_succ, Nat.reduceAdd, e2, e3]
          clear e2 e3
          refine wpAny_ready (rs := [4]) (by kernel_rfl) (by simp) ?_
          refine AllReady.cons rfl (fun K hK => ?_) AllReady.nil
          go_simp
          refine (hDo.out wN hJN.mc).mono ?_; rintro e w2 ⟨rfl, hR, hS, hG⟩
          have hJ2 := hJN.step (s' := t) hR hS hG hs'.out hok'.out hmM2.out hmr.out hmI.out hmC.out
          refine hK _ _ ?_
          clear hK K hR hS hG
          refine wpAny_done (by kernel_rfl) ?_ _
          go_wp2
          go_roundw
          case rel => exact ⟨k + 1, t, by omega, by go_num, hrun.out, hJ2⟩
          case measure => simp [intOf]; omega
        · rw [hN] at hDo hDe
          replace hDo := Lib.hid hDo
          replace hDe := Lib.hid hDe
          clear hN h52 hJr
          have i0 := hi.1
          go_upto_region 7 with (fail)
          generalize wr.alloc (.cells #[.int .i64 x.1, .int .i64 x.2.1, .int .i64 x.2.2.1, .int .i64 x.2.2.2] 42) = u1 at *
          clear q0 q1 q2 q3 i0
          have KD := G.keepsD_true []
          have KC : G.KeepsC (fun w' => RunJ w (w.heap.size + 1) m s w' ∧ InsAt w' wr.heap.size x) := fun _ _ h hb => ⟨h.1.later hb, h.2.later hb⟩
          refine G.region_wordsG 4 (fun w' => RunJ w (w.heap.size + 1) m s w' ∧ InsAt w' wr.heap.size x) (fun _ _ => True) [G.isW (.pointer (some ⟨wr.heap.size, 0, none⟩)), G.isW (.int .i64 x.1), G.isW (.func (.func 31) #[] #[]), G.isW (.agg #[.int .i64 x.1, .int .i64 x.2.1, .int .i64 x.2.2.1, .int .i64 x.2.2.2])] (by kernel_rfl) (by repeat' (first | exact G.monoL_nil | exact G.is_mono _ | exact G.any_mono | refine G.monoL_cons ?_ ?_)) (by kernel_rfl) (by kernel_rfl) ⟨hJ1.later (Below.refl _ _).drew, hi.later (Below.refl _ _).drew⟩ trivial ?_ ?_
          ·
            refine G.stepsL_cons (fun a u hc hdd hd hk hdep => ?_) ?_
            ·
              have d7 : (a.tmps[7]?).getD undef = (.pointer (some ⟨wr.heap.size, 0, none⟩)) := hk 7 (by kernel_rfl)
              refine G.step_val KC KD hc hdd rfl (.pointer (some ⟨wr.heap.size, 0, none⟩)) u (G.wanted_plain rfl) ?_ rfl (Below.refl _ _)
              first | (go_simp; done) | rfl | (simp [go_sem, *]; done)
            refine G.stepsL_cons (fun a u hc hdd hd hk hdep => ?_) ?_
            ·
              have d37 : (a.tmps[37]?).getD undef = (.pointer (some ⟨wr.heap.size, 0, none⟩)) := hdep ⟨0, .data⟩ (by simp) rfl
              refine G.step_val KC KD hc hdd rfl (.int .i64 x.1) u (G.wanted_plain rfl) ?_ rfl (Below.refl _ _)
              obtain ⟨i0, i1, i2, i3⟩ := hc.2
              first | (go_simp; done) | rfl | (simp [go_sem, *]; done)
            refine G.stepsL_cons (fun a u hc hdd hd hk hdep => ?_) ?_
            ·
              have d38 : (a.tmps[38]?).getD undef = (.int .i64 x.1) := hdep ⟨1, .data⟩ (by simp) rfl
              refine G.step_call KC KD hc hdd rfl 20 #[.int .i64 x.1] (G.wanted_plain rfl) (by first | (go_simp; done) | rfl) ?_
              exact (hDe.out u).mono (by rintro e w' ⟨rfl, hb⟩; exact ⟨_, rfl, rfl, hb⟩)
            refine G.stepsL_cons (fun a u hc hdd hd hk hdep => ?_) ?_
            ·
              have d7 : (a.tmps[7]?).getD undef = (.pointer (some ⟨wr.heap.size, 0, none⟩)) := hk 7 (by kernel_rfl)
              refine G.step_val KC KD hc hdd rfl (.agg #[.int .i64 x.1, .int .i64 x.2.1, .int .i64 x.2.2.1, .int .i64 x.2.2.2]) u (G.wanted_plain rfl) ?_ rfl (Below.refl _ _)
              obtain ⟨i0, i1, i2, i3⟩ := hc.2
              first | (go_simp; done) | rfl | (simp [go_sem, *]; done)
            exact G.stepsL_nil
          intro vs' wN hNN hDD hh
          obtain ⟨-, -, e2, e3, -⟩ := hh
          replace e2 : vs' 2 = (.func (.func 31) #[] #[]) := e2
          replace e3 : vs' 3 = (.agg #[.int .i64 x.1, .int .i64 x.2.1, .int .i64 x.2.2.1, .int .i64 x.2.2.2]) := e3
          clear hJ1 hi
          obtain ⟨hJN, -⟩ := hNN
          set_option maxRecDepth 100000 in simp only [List.take_succ_cons, List.take_zero, putAll, Act.put, List.setIfInBounds_toArray, List.set_cons_zero, List.set_cons_succ, Nat.reduceAdd, e2, e3]
          clear e2 e3
          refine wpAny_ready (rs := [4]) (by kernel_rfl) (by simp) ?_
          refine AllReady.cons rfl (fun K hK => ?_) AllReady.nil
          go_simp
          refine (hDo.out wN hJN.mc).mono ?_; rintro e w2 ⟨rfl, hR, hS, hG⟩
          have hJ2 := hJN.step (s' := t) hR hS hG hs'.out hok'.out hmM2.out hmr.out hmI.out hmC.out
          refine hK _ _ ?_
          clear hK K hR hS hG
          refine wpAny_done (by kernel_rfl) ?_ _
          go_wp2
          go_roundw
          case rel => exact ⟨k + 1, t, by omega, by go_num, hrun.out, hJ2⟩
          case measure => simp [intOf]; omega
        · rw [hN] at hDo hDe
          replace hDo := Lib.hid hDo
          replace hDe := Lib.hid hDe
          clear hN h52 hJr
          have i0 := hi.1
          go_upto_region 7 with (fail)
          generalize wr.alloc (.cells #[.int .i64 x.1, .int .i64 x.2.1, .int .i64 x.2.2.1, .int .i64 x.2.2.2] 42) = u1 at *
          clear q0 q1 q2 q3 i0
          have KD := G.keepsD_true []
          have KC : G.KeepsC (fun w' => RunJ w (w.heap.size + 1) m s w' ∧ InsAt w' wr.heap.size x) := fun _ _ h hb => ⟨h.1.later hb, h.2.later hb⟩
          refine G.region_wordsG 4 (fun w' => RunJ w (w.heap.size + 1) m s w' ∧ InsAt w' wr.heap.size x) (fun _ _ => True) [G.isW (.pointer (some ⟨wr.heap.size, 0, none⟩)), G.isW (.int .i64 x.1), G.isW (.func (.func 32) #[] #[]), G.isW (.agg #[.int .i64 x.1, .int .i64 x.2.1, .int .i64 x.2.2.1, .int .i64 x.2.2.2])] (by kernel_rfl) (by repeat' (first | exact G.monoL_nil | exact G.is_mono _ | exact G.any_mono | refine G.monoL_cons ?_ ?_)) (by kernel_rfl) (by kernel_rfl) ⟨hJ1.later (Below.refl _ _).drew, hi.later (Below.refl _ _).drew⟩ trivial ?_ ?_
          ·
            refine G.stepsL_cons (fun a u hc hdd hd hk hdep => ?_) ?_
            ·
              have d7 : (a.tmps[7]?).getD undef = (.pointer (some ⟨wr.heap.size, 0, none⟩)) := hk 7 (by kernel_rfl)
              refine G.step_val KC KD hc hdd rfl (.pointer (some ⟨wr.heap.size, 0, none⟩)) u (G.wanted_plain rfl) ?_ rfl (Below.refl _ _)
              first | (go_simp; done) | rfl | (simp [go_sem, *]; done)
            refine G.stepsL_cons (fun a u hc hdd hd hk hdep => ?_) ?_
            ·
              have d37 : (a.tmps[37]?).getD undef = (.pointer (some ⟨wr.heap.size, 0, none⟩)) := hdep ⟨0, .data⟩ (by simp) rfl
              refine G.step_val KC KD hc hdd rfl (.int .i64 x.1) u (G.wanted_plain rfl) ?_ rfl (Below.refl _ _)
              obtain ⟨i0, i1, i2, i3⟩ := hc.2
              first | (go_simp; done) | rfl | (simp [go_sem, *]; done)
            refine G.stepsL_cons (fun a u hc hdd hd hk hdep => ?_) ?_
            ·
              have d38 : (a.tmps[38]?).getD undef = (.int .i64 x.1) := hdep ⟨1, .data⟩ (by simp) rfl
              refine G.step_call KC KD hc hdd rfl 20 #[.int .i64 x.1] (G.wanted_plain rfl) (by first | (go_simp; done) | rfl) ?_
              exact (hDe.out u).mono (by rintro e w' ⟨rfl, hb⟩; exact ⟨_, rfl, rfl, hb⟩)
            refine G.stepsL_cons (fun a u hc hdd hd hk hdep => ?_) ?_
            ·
              have d7 : (a.tmps[7]?).getD undef = (.pointer (some ⟨wr.heap.size, 0, none⟩)) := hk 7 (by kernel_rfl)
              refine G.step_val KC KD hc hdd rfl (.agg #[.int .i64 x.1, .int .i64 x.2.1, .int .i64 x.2.2.1, .int .i64 x.2.2.2]) u (G.wanted_plain rfl) ?_ rfl (Below.refl _ _)
              obtain ⟨i0, i1, i2, i3⟩ := hc.2
              first | (go_simp; done) | rfl | (simp [go_sem, *]; done)
            exact G.stepsL_nil
          intro vs' wN hNN hDD hh
          obtain ⟨-, -, e2, e3, -⟩ := hh
          replace e2 : vs' 2 = (.func (.func 32) #[] #[]) := e2
          replace e3 : vs' 3 = (.agg #[.int .i64 x.1, .int .i64 x.2.1, .int .i64 x.2.2.1, .int .i64 x.2.2.2]) := e3
          clear hJ1 hi
          obtain ⟨hJN, -⟩ := hNN
          set_option maxRecDepth 100000 in simp only [List.take_succ_cons, List.take_zero, putAll, Act.put, List.setIfInBounds_toArray, List.set_cons_zero, List.set_cons_succ, Nat.reduceAdd, e2, e3]
          clear e2 e3
          refine wpAny_ready (rs := [4]) (by kernel_rfl) (by simp) ?_
          refine AllReady.cons rfl (fun K hK => ?_) AllReady.nil
          go_simp
          refine (hDo.out wN hJN.mc).mono ?_; rintro e w2 ⟨rfl, hR, hS, hG⟩
          have hJ2 := hJN.step (s' := t) hR hS hG hs'.out hok'.out hmM2.out hmr.out hmI.out hmC.out
          refine hK _ _ ?_
          clear hK K hR hS hG
          refine wpAny_done (by kernel_rfl) ?_ _
          go_wp2
          go_roundw
          case rel => exact ⟨k + 1, t, by omega, by go_num, hrun.out, hJ2⟩
          case measure => simp [intOf]; omega
        · rw [hN] at hDo hDe
          replace hDo := Lib.hid hDo
          replace hDe := Lib.hid hDe
          clear hN h52 hJr
          have i0 := hi.1
          go_upto_region 7 with (fail)
          generalize wr.alloc (.cells #[.int .i64 x.1, .int .i64 x.2.1, .int .i64 x.2.2.1, .int .i64 x.2.2.2] 42) = u1 at *
          clear q0 q1 q2 q3 i0
          have KD := G.keepsD_true []
          have KC : G.KeepsC (fun w' => RunJ w (w.heap.size + 1) m s w' ∧ InsAt w' wr.heap.size x) := fun _ _ h hb => ⟨h.1.later hb, h.2.later hb⟩
          refine G.region_wordsG 4 (fun w' => RunJ w (w.heap.size + 1) m s w' ∧ InsAt w' wr.heap.size x) (fun _ _ => True) [G.isW (.pointer (some ⟨wr.heap.size, 0, none⟩)), G.isW (.int .i64 x.1), G.isW (.func (.func 33) #[] #[]), G.isW (.agg #[.int .i64 x.1, .int .i64 x.2.1, .int .i64 x.2.2.1, .int .i64 x.2.2.2])] (by kernel_rfl) (by repeat' (first | exact G.monoL_nil | exact G.is_mono _ | exact G.any_mono | refine G.monoL_cons ?_ ?_)) (by kernel_rfl) (by kernel_rfl) ⟨hJ1.later (Below.refl _ _).drew, hi.later (Below.refl _ _).drew⟩ trivial ?_ ?_
          ·
            refine G.stepsL_cons (fun a u hc hdd hd hk hdep => ?_) ?_
            ·
              have d7 : (a.tmps[7]?).getD undef = (.pointer (some ⟨wr.heap.size, 0, none⟩)) := hk 7 (by kernel_rfl)
              refine G.step_val KC KD hc hdd rfl (.pointer (some ⟨wr.heap.size, 0, none⟩)) u (G.wanted_plain rfl) ?_ rfl (Below.refl _ _)
              first | (go_simp; done) | rfl | (simp [go_sem, *]; done)
            refine G.stepsL_cons (fun a u hc hdd hd hk hdep => ?_) ?_
            ·
              have d37 : (a.tmps[37]?).getD undef = (.pointer (some ⟨wr.heap.size, 0, none⟩)) := hdep ⟨0, .data⟩ (by simp) rfl
              refine G.step_val KC KD hc hdd rfl (.int .i64 x.1) u (G.wanted_plain rfl) ?_ rfl (Below.refl _ _)
              obtain ⟨i0, i1, i2, i3⟩ := hc.2
              first | (go_simp; done) | rfl | (simp [go_sem, *]; done)
            refine G.stepsL_cons (fun a u hc hdd hd hk hdep => ?_) ?_
            ·
              have d38 : (a.tmps[38]?).getD undef = (.int .i64 x.1) := hdep ⟨1, .data⟩ (by simp) rfl
              refine G.step_call KC KD hc hdd rfl 20 #[.int .i64 x.1] (G.wanted_plain rfl) (by first | (go_simp; done) | rfl) ?_
              exact (hDe.out u).mono (by rintro e w' ⟨rfl, hb⟩; exact ⟨_, rfl, rfl, hb⟩)
            refine G.stepsL_cons (fun a u hc hdd hd hk hdep => ?_) ?_
            ·
              have d7 : (a.tmps[7]?).getD undef = (.pointer (some ⟨wr.heap.size, 0, none⟩)) := hk 7 (by kernel_rfl)
              refine G.step_val KC KD hc hdd rfl (.agg #[.int .i64 x.1, .int .i64 x.2.1, .int .i64 x.2.2.1, .int .i64 x.2.2.2]) u (G.wanted_plain rfl) ?_ rfl (Below.refl _ _)
              obtain ⟨i0, i1, i2, i3⟩ := hc.2
              first | (go_simp; done) | rfl | (simp [go_sem, *]; done)
            exact G.stepsL_nil
          intro vs' wN hNN hDD hh
          obtain ⟨-, -, e2, e3, -⟩ := hh
          replace e2 : vs' 2 = (.func (.func 33) #[] #[]) := e2
          replace e3 : vs' 3 = (.agg #[.int .i64 x.1, .int .i64 x.2.1, .int .i64 x.2.2.1, .int .i64 x.2.2.2]) := e3
          clear hJ1 hi
          obtain ⟨hJN, -⟩ := hNN
          set_option maxRecDepth 100000 in simp only [List.take_succ_cons, List.take_zero, putAll, Act.put, List.setIfInBounds_toArray, List.set_cons_zero, List.set_cons_succ, Nat.reduceAdd, e2, e3]
          clear e2 e3
          refine wpAny_ready (rs := [4]) (by kernel_rfl) (by simp) ?_
          refine AllReady.cons rfl (fun K hK => ?_) AllReady.nil
          go_simp
          refine (hDo.out wN hJN.mc).mono ?_; rintro e w2 ⟨rfl, hR, hS, hG⟩
          have hJ2 := hJN.step (s' := t) hR hS hG hs'.out hok'.out hmM2.out hmr.out hmI.out hmC.out
          refine hK _ _ ?_
          clear hK K hR hS hG
          refine wpAny_done (by kernel_rfl) ?_ _
          go_wp2
          go_roundw
          case rel => exact ⟨k + 1, t, by omega, by go_num, hrun.out, hJ2⟩
          case measure => simp [intOf]; omega
        · rw [hN] at hDo hDe
          replace hDo := Lib.hid hDo
          replace hDe := Lib.hid hDe
          clear hN h52 hJr
          have i0 := hi.1
          go_upto_region 7 with (fail)
          generalize wr.alloc (.cells #[.int .i64 x.1, .int .i64 x.2.1, .int .i64 x.2.2.1, .int .i64 x.2.2.2] 42) = u1 at *
          clear q0 q1 q2 q3 i0
          have KD := G.keepsD_true []
          have KC : G.KeepsC (fun w' => RunJ w (w.heap.size + 1) m s w' ∧ InsAt w' wr.heap.size x) := fun _ _ h hb => ⟨h.1.later hb, h.2.later hb⟩
          refine G.region_wordsG 4 (fun w' => RunJ w (w.heap.size + 1) m s w' ∧ InsAt w' wr.heap.size x) (fun _ _ => True) [G.isW (.pointer (some ⟨wr.heap.size, 0, none⟩)), G.isW (.int .i64 x.1), G.isW (.func (.func 34) #[] #[]), G.isW (.agg #[.int .i64 x.1, .int .i64 x.2.1, .int .i64 x.2.2.1, .int .i64 x.2.2.2])] (by kernel_rfl) (by repeat' (first | exact G.monoL_nil | exact G.is_mono _ | exact G.any_mono | refine G.monoL_cons ?_ ?_)) (by kernel_rfl) (by kernel_rfl) ⟨hJ1.later (Below.refl _ _).drew, hi.later (Below.refl _ _).drew⟩ trivial ?_ ?_
          ·
            refine G.stepsL_cons (fun a u hc hdd hd hk hdep => ?_) ?_
            ·
              have d7 : (a.tmps[7]?).getD undef = (.pointer (some ⟨wr.heap.size, 0, none⟩)) := hk 7 (by kernel_rfl)
              refine G.step_val KC KD hc hdd rfl (.pointer (some ⟨wr.heap.size, 0, none⟩)) u (G.wanted_plain rfl) ?_ rfl (Below.refl _ _)
              first | (go_simp; done) | rfl | (simp [go_sem, *]; done)
            refine G.stepsL_cons (fun a u hc hdd hd hk hdep => ?_) ?_
            ·
              have d37 : (a.tmps[37]?).getD undef = (.pointer (some ⟨wr.heap.size, 0, none⟩)) := hdep ⟨0, .data⟩ (by simp) rfl
              refine G.step_val KC KD hc hdd rfl (.int .i64 x.1) u (G.wanted_plain rfl) ?_ rfl (Below.refl _ _)
              obtain ⟨i0, i1, i2, i3⟩ := hc.2
              first | (go_simp; done) | rfl | (simp [go_sem, *]; done)
            refine G.stepsL_cons (fun a u hc hdd hd hk hdep => ?_) ?_
            ·
              have d38 : (a.tmps[38]?).getD undef = (.int .i64 x.1) := hdep ⟨1, .data⟩ (by simp) rfl
              refine G.step_call KC KD hc hdd rfl 20 #[.int .i64 x.1] (G.wanted_plain rfl) (by first | (go_simp; done) | rfl) ?_
              exact (hDe.out u).mono (by rintro e w' ⟨rfl, hb⟩; exact ⟨_, rfl, rfl, hb⟩)
            refine G.stepsL_cons (fun a u hc hdd hd hk hdep => ?_) ?_
            ·
              have d7 : (a.tmps[7]?).getD undef = (.pointer (some ⟨wr.heap.size, 0, none⟩)) := hk 7 (by kernel_rfl)
              refine G.step_val KC KD hc hdd rfl (.agg #[.int .i64 x.1, .int .i64 x.2.1, .int .i64 x.2.2.1, .int .i64 x.2.2.2]) u (G.wanted_plain rfl) ?_ rfl (Below.refl _ _)
              obtain ⟨i0, i1, i2, i3⟩ := hc.2
              first | (go_simp; done) | rfl | (simp [go_sem, *]; done)
            exact G.stepsL_nil
          intro vs' wN hNN hDD hh
          obtain ⟨-, -, e2, e3, -⟩ := hh
          replace e2 : vs' 2 = (.func (.func 34) #[] #[]) := e2
          replace e3 : vs' 3 = (.agg #[.int .i64 x.1, .int .i64 x.2.1, .int .i64 x.2.2.1, .int .i64 x.2.2.2]) := e3
          clear hJ1 hi
          obtain ⟨hJN, -⟩ := hNN
          set_option maxRecDepth 100000 in simp only [List.take_succ_cons, List.take_zero, putAll, Act.put, List.setIfInBounds_toArray, List.set_cons_zero, List.set_cons_succ, Nat.reduceAdd, e2, e3]
          clear e2 e3
          refine wpAny_ready (rs := [4]) (by kernel_rfl) (by simp) ?_
          refine AllReady.cons rfl (fun K hK => ?_) AllReady.nil
          go_simp
          refine (hDo.out wN hJN.mc).mono ?_; rintro e w2 ⟨rfl, hR, hS, hG⟩
          have hJ2 := hJN.step (s' := t) hR hS hG hs'.out hok'.out hmM2.out hmr.out hmI.out hmC.out
          refine hK _ _ ?_
          clear hK K hR hS hG
          refine wpAny_done (by kernel_rfl) ?_ _
          go_wp2
          go_roundw
          case rel => exact ⟨k + 1, t, by omega, by go_num, hrun.out, hJ2⟩
          case measure => simp [intOf]; omega
    · obtain rfl : k = l.length := by omega
      rw [List.drop_length] at hrun
      have r0 : wr.cell? ⟨w.heap.size + 1, 0, none⟩ = some (.int .i64 0) := hJr.res.cell 0
      have r1 : wr.cell? ⟨w.heap.size + 1, 1, none⟩ = some (.int .u64 0) := hJr.res.cell 1
      have f0 := hJr.res.free 0
      have f1 := hJr.res.free 1
      obtain ⟨_, p1, p2⟩ := put2 (.int .i64 0) (.int .u64 0) r0 r1
      have hB := (hJr.bel.setCell (p := ⟨w.heap.size + 1, 0, none⟩) (by simp) (.int .i64 0)).setCell (p := ⟨w.heap.size + 1, 1, none⟩) (by simp) (.int .u64 0)
      replace hrun := Lib.hid hrun
      clear hJr
      generalize runP m.ins m.cs (s1, s2) l = z at *
      go_wp2
      exact bodyPost_ret (v := .agg #[.int .i64 0, .int .u64 0]) (by simp [results, Try.results10, go_sem, p1, p2]) rfl ⟨by rw [hE.out, hrun.out]; rfl, hB⟩
end Go.Proofs.Yteniipolcdnmfaa
