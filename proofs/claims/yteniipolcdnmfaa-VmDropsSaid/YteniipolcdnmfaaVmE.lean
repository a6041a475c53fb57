/- Which instructions there are, what they name: the calls of package code, as contracts. -/
import Derived.Test.YteniipolcdnmfaaVmD
namespace Go.Proofs.Yteniipolcdnmfaa
open Go.ChangeShapes Go.WideShapes Go.ChangeAt Go.RowKit Go.Fl
set_option linter.unusedVariables false
set_option linter.unusedSimpArgs false

/-- yes or no is answered -/
def BOut (x : Bool) (w : World) (e : Ending) (w' : World) : Prop := e = .returned (.bool x) ∧ Below w.heap.size w w'
theorem beqd (a b : Int) : (a == b) = decide (a = b) := by by_cases h : a = b <;> simp [h]
theorem ops50 : opsP 50 = 0 := by decide
theorem ops51 : opsP 51 = 0 := by decide
theorem ops52 : opsP 52 = 0 := by decide
theorem ops53 : opsP 53 = 0 := by decide
theorem ops54 : opsP 54 = 0 := by decide
theorem bout_eq {x y : Bool} (h : x = y) {w w' : World} (hb : Below w.heap.size w w') : BOut y w (.returned (.bool x)) w' := ⟨by rw [h], hb⟩
set_option maxHeartbeats 1000000 in
theorem formed_any (op d a b : Int) (w : World) : Calls Try.prog 35 #[.agg #[.int .i64 op, .int .i64 d, .int .i64 a, .int .i64 b]] w (BOut (formedB (op, d, a, b)) w) := by
  have hw := below1 w (.cells #[.int .i64 op, .int .i64 d, .int .i64 a, .int .i64 b] 42)
  have c : op = 50 ∨ op = 51 ∨ op = 54 ∨ op = 53 ∨ op = 52 ∨ (op ≠ 50 ∧ op ≠ 51 ∧ op ≠ 54 ∧ op ≠ 53 ∧ op ≠ 52) := by omega
  rcases c with rfl | rfl | rfl | rfl | rfl | ⟨n0, n1, n4, n3, n2⟩
  · go_enter Try.func35, Try.ntmps35
    go_wp2
    go_ret
    exact bout_eq (by simp [formedB, beqd]) hw
  · go_enter Try.func35, Try.ntmps35
    go_wp2
    go_ret
    exact bout_eq (by simp [formedB, beqd]) hw
  · go_enter Try.func35, Try.ntmps35
    go_wp2
    go_ret
    exact bout_eq (by simp [formedB, beqd]) hw
  · go_enter Try.func35, Try.ntmps35
    go_wp2
    go_ret
    exact bout_eq (by simp [formedB, beqd]) hw
  · by_cases hd : d = 0
    · subst hd
      go_enter Try.func35, Try.ntmps35
      go_wp2
      go_ret
      exact bout_eq (by simp [formedB, beqd]) hw
    · have fd : (d == 0) = false := by simpa using hd
      have hE := Lib.hid (show false = formedB (52, d, a, b) by simp [formedB, hd])
      clear hd
      go_enter Try.func35, Try.ntmps35
      go_wp2
      go_ret
      exact bout_eq hE.out hw
  · have f0 : (op == 50) = false := by simpa using n0
    have f1 : (op == 51) = false := by simpa using n1
    have f2 : (op == 52) = false := by simpa using n2
    have f3 : (op == 53) = false := by simpa using n3
    have f4 : (op == 54) = false := by simpa using n4
    have hF : formedB (op, d, a, b) = if opsP op = 1 then decide (b = 0) else decide (opsP op = 2) := by
      unfold formedB
      rw [if_neg (by omega), if_neg (by omega), if_neg (by omega)]
    have O := Lib.hid (operands_any op)
    clear n0 n1 n2 n3 n4
    rw [hF]
    clear hF
    have hn : opsP op = 0 ∨ opsP op = 1 ∨ opsP op = 2 := by have := ops_le op; omega
    generalize opsP op = n at *
    rcases hn with rfl | rfl | rfl
    · go_enter Try.func35, Try.ntmps35
      go_wp2_with fail
      refine (O.out _).mono ?_; rintro e w1 ⟨rfl, hb1⟩
      have hB := below_more hw hb1
      clear hb1 hw
      go_wp2
      go_ret
      exact bout_eq (by simp [beqd]) hB
    · go_enter Try.func35, Try.ntmps35
      have r3 : (w.alloc (.cells #[.int .i64 op, .int .i64 d, .int .i64 a, .int .i64 b] 42)).cell? ⟨w.heap.size, 3, none⟩ = some (.int .i64 b) := by simp
      go_wp2_with fail
      refine (O.out _).mono ?_; rintro e w1 ⟨rfl, hb1⟩
      replace r3 := cell_later hb1 r3
      have hB := below_more hw hb1
      clear hb1 hw
      go_wp2
      go_ret
      exact bout_eq (by simp [beqd]) hB
    · go_enter Try.func35, Try.ntmps35
      go_wp2_with fail
      refine (O.out _).mono ?_; rintro e w1 ⟨rfl, hb1⟩
      have hB := below_more hw hb1
      clear hb1 hw
      go_wp2
      go_ret
      exact bout_eq (by simp [beqd]) hB
set_option maxHeartbeats 1000000 in
theorem writes_any (op : Int) (w : World) : Calls Try.prog 45 #[.int .i64 op] w (BOut (writesB op) w) := by
  have O := Lib.hid (operands_any op)
  by_cases h0 : opsP op = 0
  · have hE := Lib.hid (show ((op == 50) || (op == 51) || (op == 54)) = writesB op by unfold writesB; rw [h0]; simp [Bool.decide_or, beqd, Bool.or_assoc])
    rw [h0] at O
    clear h0
    have c : op = 50 ∨ op = 51 ∨ op = 54 ∨ (op ≠ 50 ∧ op ≠ 51 ∧ op ≠ 54) := by omega
    rcases c with rfl | rfl | rfl | ⟨n0, n1, n4⟩
    · go_enter Try.func45, Try.ntmps45
      go_wp2_with fail
      refine (O.out _).mono ?_; rintro e w1 ⟨rfl, hb1⟩
      go_wp2
      go_ret
      exact bout_eq (by rw [← hE.out]; rfl) hb1
    · go_enter Try.func45, Try.ntmps45
      go_wp2_with fail
      refine (O.out _).mono ?_; rintro e w1 ⟨rfl, hb1⟩
      go_wp2
      go_ret
      exact bout_eq (by rw [← hE.out]; rfl) hb1
    · go_enter Try.func45, Try.ntmps45
      go_wp2_with fail
      refine (O.out _).mono ?_; rintro e w1 ⟨rfl, hb1⟩
      go_wp2
      go_ret
      exact bout_eq (by rw [← hE.out]; rfl) hb1
    · have f0 : (op == 50) = false := by simpa using n0
      have f1 : (op == 51) = false := by simpa using n1
      have f4 : (op == 54) = false := by simpa using n4
      replace hE := Lib.hid (show false = writesB op by rw [← hE.out, f0, f1, f4]; rfl)
      clear n0 n1 n4
      go_enter Try.func45, Try.ntmps45
      go_wp2_with fail
      refine (O.out _).mono ?_; rintro e w1 ⟨rfl, hb1⟩
      go_wp2
      go_ret
      exact bout_eq hE.out hb1
  · have hE := Lib.hid (show true = writesB op by unfold writesB; simp; left; omega)
    have hp : 0 < opsP op := by omega
    clear h0
    generalize opsP op = n at *
    have hp2 : (0 : Int) < (n : Int) := by omega
    go_enter Try.func45, Try.ntmps45
    go_wp2_with fail
    refine (O.out _).mono ?_; rintro e w1 ⟨rfl, hb1⟩
    go_wp2
    go_ret
    exact bout_eq hE.out hb1
theorem cbelow_any (i n : Int) (w : World) : Calls Try.prog 46 #[.int .i64 i, .int .i64 n] w (BOut (belowB i n) w) := by
  by_cases h0 : 0 ≤ i
  · by_cases h1 : i < n
    · have hE := Lib.hid (show true = belowB i n by simp [belowB, h0, h1])
      go_enter Try.func46, Try.ntmps46
      go_wp2
      go_ret
      exact bout_eq hE.out (Below.refl _ _)
    · have hE := Lib.hid (show false = belowB i n by simp [belowB, h0, h1])
      go_enter Try.func46, Try.ntmps46
      go_wp2
      go_ret
      exact bout_eq hE.out (Below.refl _ _)
  · have hE := Lib.hid (show false = belowB i n by simp [belowB, h0])
    go_enter Try.func46, Try.ntmps46
    go_wp2
    go_ret
    exact bout_eq hE.out (Below.refl _ _)
def leafC (op : Int) : Bool := decide (op = 40) || leafB op
set_option maxHeartbeats 1000000 in
theorem isleaf_any (op : Int) (w : World) : Calls Try.prog 40 #[.int .i64 op] w (BOut (leafC op) w) := by
  have c : op = 40 ∨ op = 41 ∨ op = 42 ∨ op = 25 ∨ op = 26 ∨ op = 27 ∨ op = 28 ∨ op = 29 ∨ op = 30 ∨ op = 31 ∨ (op ≠ 40 ∧ op ≠ 41 ∧ op ≠ 42 ∧ op ≠ 25 ∧ op ≠ 26 ∧ op ≠ 27 ∧ op ≠ 28 ∧ op ≠ 29 ∧ op ≠ 30 ∧ op ≠ 31) := by omega
  rcases c with rfl | rfl | rfl | rfl | rfl | rfl | rfl | rfl | rfl | rfl | ⟨n40, n41, n42, n25, n26, n27, n28, n29, n30, n31⟩
  · go_enter Try.func40, Try.ntmps40
    go_wp2
    go_ret
    exact bout_eq (by decide) (Below.refl _ _)
  · go_enter Try.func40, Try.ntmps40
    go_wp2
    go_ret
    exact bout_eq (by decide) (Below.refl _ _)
  · go_enter Try.func40, Try.ntmps40
    go_wp2
    go_ret
    exact bout_eq (by decide) (Below.refl _ _)
  · go_enter Try.func40, Try.ntmps40
    go_wp2
    go_ret
    exact bout_eq (by decide) (Below.refl _ _)
  · go_enter Try.func40, Try.ntmps40
    go_wp2
    go_ret
    exact bout_eq (by decide) (Below.refl _ _)
  · go_enter Try.func40, Try.ntmps40
    go_wp2
    go_ret
    exact bout_eq (by decide) (Below.refl _ _)
  · go_enter Try.func40, Try.ntmps40
    go_wp2
    go_ret
    exact bout_eq (by decide) (Below.refl _ _)
  · go_enter Try.func40, Try.ntmps40
    go_wp2
    go_ret
    exact bout_eq (by decide) (Below.refl _ _)
  · go_enter Try.func40, Try.ntmps40
    go_wp2
    go_ret
    exact bout_eq (by decide) (Below.refl _ _)
  · go_enter Try.func40, Try.ntmps40
    go_wp2
    go_ret
    exact bout_eq (by decide) (Below.refl _ _)
  · have hE := Lib.hid (show false = leafC op by simp [leafC, leafB]; omega)
    have f40 : (op == 40) = false := by simpa using n40
    have f41 : (op == 41) = false := by simpa using n41
    have f42 : (op == 42) = false := by simpa using n42
    have f25 : (op == 25) = false := by simpa using n25
    have f26 : (op == 26) = false := by simpa using n26
    have f27 : (op == 27) = false := by simpa using n27
    have f28 : (op == 28) = false := by simpa using n28
    have f29 : (op == 29) = false := by simpa using n29
    have f30 : (op == 30) = false := by simpa using n30
    have f31 : (op == 31) = false := by simpa using n31
    clear n40 n41 n42 n25 n26 n27 n28 n29 n30 n31
    go_enter Try.func40, Try.ntmps40
    go_wp2
    go_ret
    exact bout_eq hE.out (Below.refl _ _)
theorem codeIns_new (w : World) (c : CodeP) (v : CV) (op d a b : Int) : let u := (w.alloc (.cells #[.int .i64 c.regs, .int .i64 c.slots, .slice v.xA c.ins.length v.xC, .slice v.cA c.cs.length v.cC, .slice v.lA c.list.length v.lC] 26)).alloc (.cells #[.int .i64 op, .int .i64 d, .int .i64 a, .int .i64 b] 42)
    u.cell? ⟨w.heap.size, 0, none⟩ = some (.int .i64 c.regs) ∧ u.cell? ⟨w.heap.size, 1, none⟩ = some (.int .i64 c.slots) ∧ u.cell? ⟨w.heap.size, 2, none⟩ = some (.slice v.xA c.ins.length v.xC) ∧ u.cell? ⟨w.heap.size, 3, none⟩ = some (.slice v.cA c.cs.length v.cC) ∧
      u.cell? ⟨w.heap.size + 1, 0, none⟩ = some (.int .i64 op) ∧ u.cell? ⟨w.heap.size + 1, 1, none⟩ = some (.int .i64 d) ∧ u.cell? ⟨w.heap.size + 1, 2, none⟩ = some (.int .i64 a) := by
  refine ⟨?_, ?_, ?_, ?_, ?_, ?_, ?_⟩ <;> simp
set_option maxHeartbeats 2000000 in
theorem there_any (c : CodeP) (v : CV) (op d a b : Int) (w : World) : Calls Try.prog 36 #[codeV c v, .agg #[.int .i64 op, .int .i64 d, .int .i64 a, .int .i64 b]] w (BOut (thereB c (op, d, a, b)) w) := by
  have hT : thereB c (op, d, a, b) = ((!writesB op || belowB d c.regs) && (if op = 50 then belowB a c.ins.length else if op = 51 then belowB a c.cs.length else if op = 53 ∨ op = 54 then belowB a c.slots else true)) := rfl
  show Calls _ _ #[.agg #[.int .i64 c.regs, .int .i64 c.slots, .slice v.xA c.ins.length v.xC, .slice v.cA c.cs.length v.cC, .slice v.lA c.list.length v.lC], .agg #[.int .i64 op, .int .i64 d, .int .i64 a, .int .i64 b]] _ _
  generalize thereB c (op, d, a, b) = r at *
  have hw := m2 w (.cells #[.int .i64 c.regs, .int .i64 c.slots, .slice v.xA c.ins.length v.xC, .slice v.cA c.cs.length v.cC, .slice v.lA c.list.length v.lC] 26) (.cells #[.int .i64 op, .int .i64 d, .int .i64 a, .int .i64 b] 42)
  have hx := codeIns_new w c v op d a b
  have W := Lib.hid (writes_any op)
  have Bd := Lib.hid (cbelow_any d c.regs)
  have cc : op = 50 ∨ op = 51 ∨ op = 53 ∨ op = 54 ∨ (op ≠ 50 ∧ op ≠ 51 ∧ op ≠ 53 ∧ op ≠ 54) := by omega
  generalize writesB op = wb at *
  generalize belowB d c.regs = bd at *
  replace hT := Lib.hid hT
  cases wb
  · go_enter Try.func36, Try.ntmps36
    go_upto_region 1 with (fail)
    generalize (w.alloc (.cells #[.int .i64 c.regs, .int .i64 c.slots, .slice v.xA c.ins.length v.xC, .slice v.cA c.cs.length v.cC, .slice v.lA c.list.length v.lC] 26)).alloc (.cells #[.int .i64 op, .int .i64 d, .int .i64 a, .int .i64 b] 42) = u at *
    obtain ⟨x0, x1, x2, x3, i0, i1, i2⟩ := hx
    go_wp2_with fail
    refine (W.out _).mono ?_; rintro e w2 ⟨rfl, hb1⟩
    replace x0 := cell_later hb1 x0
    replace x1 := cell_later hb1 x1
    replace x2 := cell_later hb1 x2
    replace x3 := cell_later hb1 x3
    replace i0 := cell_later hb1 i0
    replace i1 := cell_later hb1 i1
    replace i2 := cell_later hb1 i2
    replace hw := below_more hw hb1
    clear hb1
    clear Bd W
    rcases cc with rfl | rfl | rfl | rfl | ⟨n0, n1, n3, n4⟩
    · have Ba := Lib.hid (cbelow_any a (c.ins.length : Int))
      go_wp2_with fail
      refine (Ba.out _).mono ?_; rintro e w3 ⟨rfl, hb1⟩
      replace hw := below_more hw hb1
      clear Ba hb1
      go_wp2
      go_ret
      exact bout_eq (by rw [hT.out]; simp) hw
    · have Ba := Lib.hid (cbelow_any a (c.cs.length : Int))
      go_wp2_with fail
      refine (Ba.out _).mono ?_; rintro e w3 ⟨rfl, hb1⟩
      replace hw := below_more hw hb1
      clear Ba hb1
      go_wp2
      go_ret
      exact bout_eq (by rw [hT.out]; simp) hw
    · have Ba := Lib.hid (cbelow_any a c.slots)
      go_wp2_with fail
      refine (Ba.out _).mono ?_; rintro e w3 ⟨rfl, hb1⟩
      replace hw := below_more hw hb1
      clear Ba hb1
      go_wp2
      go_ret
      exact bout_eq (by rw [hT.out]; simp) hw
    · have Ba := Lib.hid (cbelow_any a c.slots)
      go_wp2_with fail
      refine (Ba.out _).mono ?_; rintro e w3 ⟨rfl, hb1⟩
      replace hw := below_more hw hb1
      clear Ba hb1
      go_wp2
      go_ret
      exact bout_eq (by rw [hT.out]; simp) hw
    · have f0 : (op == 50) = false := by simpa using n0
      have f1 : (op == 51) = false := by simpa using n1
      have f3 : (op == 53) = false := by simpa using n3
      have f4 : (op == 54) = false := by simpa using n4
      replace hT := Lib.hid (show r = true by rw [hT.out, if_neg n0, if_neg n1, if_neg (by omega)]; simp)
      clear n0 n1 n3 n4
      go_wp2
      go_ret
      exact bout_eq hT.out.symm hw
  · cases bd
    · go_enter Try.func36, Try.ntmps36
      go_upto_region 1 with (fail)
      generalize (w.alloc (.cells #[.int .i64 c.regs, .int .i64 c.slots, .slice v.xA c.ins.length v.xC, .slice v.cA c.cs.length v.cC, .slice v.lA c.list.length v.lC] 26)).alloc (.cells #[.int .i64 op, .int .i64 d, .int .i64 a, .int .i64 b] 42) = u at *
      obtain ⟨x0, x1, x2, x3, i0, i1, i2⟩ := hx
      go_wp2_with fail
      refine (W.out _).mono ?_; rintro e w2 ⟨rfl, hb1⟩
      replace x0 := cell_later hb1 x0
      replace x1 := cell_later hb1 x1
      replace x2 := cell_later hb1 x2
      replace x3 := cell_later hb1 x3
      replace i0 := cell_later hb1 i0
      replace i1 := cell_later hb1 i1
      replace i2 := cell_later hb1 i2
      replace hw := below_more hw hb1
      clear hb1
      go_wp2_with fail
      refine (Bd.out _).mono ?_; rintro e w2 ⟨rfl, hb1⟩
      replace x0 := cell_later hb1 x0
      replace x1 := cell_later hb1 x1
      replace x2 := cell_later hb1 x2
      replace x3 := cell_later hb1 x3
      replace i0 := cell_later hb1 i0
      replace i1 := cell_later hb1 i1
      replace i2 := cell_later hb1 i2
      replace hw := below_more hw hb1
      clear hb1
      clear Bd W
      go_wp2
      go_ret
      exact bout_eq (by rw [hT.out]; simp) hw
    · go_enter Try.func36, Try.ntmps36
      go_upto_region 1 with (fail)
      generalize (w.alloc (.cells #[.int .i64 c.regs, .int .i64 c.slots, .slice v.xA c.ins.length v.xC, .slice v.cA c.cs.length v.cC, .slice v.lA c.list.length v.lC] 26)).alloc (.cells #[.int .i64 op, .int .i64 d, .int .i64 a, .int .i64 b] 42) = u at *
      obtain ⟨x0, x1, x2, x3, i0, i1, i2⟩ := hx
      go_wp2_with fail
      refine (W.out _).mono ?_; rintro e w2 ⟨rfl, hb1⟩
      replace x0 := cell_later hb1 x0
      replace x1 := cell_later hb1 x1
      replace x2 := cell_later hb1 x2
      replace x3 := cell_later hb1 x3
      replace i0 := cell_later hb1 i0
      replace i1 := cell_later hb1 i1
      replace i2 := cell_later hb1 i2
      replace hw := below_more hw hb1
      clear hb1
      go_wp2_with fail
      refine (Bd.out _).mono ?_; rintro e w2 ⟨rfl, hb1⟩
      replace x0 := cell_later hb1 x0
      replace x1 := cell_later hb1 x1
      replace x2 := cell_later hb1 x2
      replace x3 := cell_later hb1 x3
      replace i0 := cell_later hb1 i0
      replace i1 := cell_later hb1 i1
      replace i2 := cell_later hb1 i2
      replace hw := below_more hw hb1
      clear hb1
      clear Bd W
      rcases cc with rfl | rfl | rfl | rfl | ⟨n0, n1, n3, n4⟩
      · have Ba := Lib.hid (cbelow_any a (c.ins.length : Int))
        go_wp2_with fail
        refine (Ba.out _).mono ?_; rintro e w3 ⟨rfl, hb1⟩
        replace hw := below_more hw hb1
        clear Ba hb1
        go_wp2
        go_ret
        exact bout_eq (by rw [hT.out]; simp) hw
      · have Ba := Lib.hid (cbelow_any a (c.cs.length : Int))
        go_wp2_with fail
        refine (Ba.out _).mono ?_; rintro e w3 ⟨rfl, hb1⟩
        replace hw := below_more hw hb1
        clear Ba hb1
        go_wp2
        go_ret
        exact bout_eq (by rw [hT.out]; simp) hw
      · have Ba := Lib.hid (cbelow_any a c.slots)
        go_wp2_with fail
        refine (Ba.out _).mono ?_; rintro e w3 ⟨rfl, hb1⟩
        replace hw := below_more hw hb1
        clear Ba hb1
        go_wp2
        go_ret
        exact bout_eq (by rw [hT.out]; simp) hw
      · have Ba := Lib.hid (cbelow_any a c.slots)
        go_wp2_with fail
        refine (Ba.out _).mono ?_; rintro e w3 ⟨rfl, hb1⟩
        replace hw := below_more hw hb1
        clear Ba hb1
        go_wp2
        go_ret
        exact bout_eq (by rw [hT.out]; simp) hw
      · have f0 : (op == 50) = false := by simpa using n0
        have f1 : (op == 51) = false := by simpa using n1
        have f3 : (op == 53) = false := by simpa using n3
        have f4 : (op == 54) = false := by simpa using n4
        replace hT := Lib.hid (show r = true by rw [hT.out, if_neg n0, if_neg n1, if_neg (by omega)]; simp)
        clear n0 n1 n3 n4
        go_wp2
        go_ret
        exact bout_eq hT.out.symm hw
end Go.Proofs.Yteniipolcdnmfaa
