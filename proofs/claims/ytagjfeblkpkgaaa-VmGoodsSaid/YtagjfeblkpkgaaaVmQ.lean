/- The document's Good, as a contract, for every code. -/
import Derived.Test.YtagjfeblkpkgaaaVmO
namespace Go.Proofs.Ytagjfeblkpkgaaa
open Go.ChangeShapes Go.WideShapes Go.ChangeAt Go.RowKit Go.Fl
set_option linter.unusedVariables false
set_option linter.unusedSimpArgs false

/-- what a map of yeses holds is what has been written -/
def RelB (f : Int → Option Value) (s : Int → Bool) : Prop := ∀ i, (f i).getD (.bool false) = .bool (s i)
theorem RelB.none : RelB (fun _ => Option.none) (fun _ => false) := fun _ => rfl
theorem RelB.put {f : Int → Option Value} {s : Int → Bool} (h : RelB f s) (i : Int) : RelB (iput f i (.bool true)) (putB s i) := fun j => by
  unfold iput putB
  by_cases e : j = i
  · simp [e]
  · simp only [e, if_false, decide_false, Bool.false_or]; exact h j
theorem infoBB : ∃ j, Try.prog.info? 4 = some j ∧ j.zero = some (.bool false) := by
  have h : (Try.prog.info? 4).map (·.zero) = some (some (.bool false)) := by kernel_rfl
  cases hj : Try.prog.info? 4 with
  | none => rw [hj] at h; cases h
  | some j => rw [hj] at h; injection h with h; exact ⟨j, rfl, h⟩
theorem lookB {f : Int → Option Value} {s : Int → Bool} {u : World} {r : Nat} (h : IMap u r f) (hr : RelB f s) (x : Int) :
    (Instr.lookup 61 (.map (some r)) (.int .i64 x) false).run Try.prog u = .ok (.bool (s x)) u := by
  obtain ⟨j, h1, h2⟩ := infoBB
  rw [run_lookup_I (P := Try.prog) Try.underlying61 Try.underlying3 h1 h2 h x, hr x]
theorem upB {f : Int → Option Value} {u : World} {r : Nat} (h : IMap u r f) (x : Int) :
    ∃ u', (Instr.mapUpdate 61 (.map (some r)) (.int .i64 x) (.bool true)).run Try.prog u = .ok () u' ∧ IMap u' r (iput f x (.bool true)) ∧ u.grownBy u' (some r) :=
  run_update_I (P := Try.prog) Try.underlying61 Try.underlying3 h x (.bool true)
/-- what one instruction answers to -/
def stepG (c : CodeP) (last : Bool) (s : WrS) (x : I4) : Bool := (last == decide (x.1 = 52)) && formedB x && thereB c x && hasB s x
/-- where the code, the maps lie -/
structure DJ (w : World) (c : CodeP) (v : CV) (rR rS : Nat) (u : World) : Prop where
  code : CodeAt u w.heap.size c v
  mR : ∃ f, IMap u rR f
  mS : ∃ f, IMap u rS f
  bel : Below w.heap.size w u
/-- so far all is right: what has been written is what the maps hold, slots that are there alone -/
def DS (c : CodeP) (rR rS : Nat) (s : WrS) (u : World) : Prop := (∃ f, IMap u rR f ∧ RelB f s.1) ∧ (∃ f, IMap u rS f ∧ RelB f s.2) ∧ ∀ a, s.2 a = true → 0 ≤ a ∧ a < c.slots
theorem DJ.later {w u u1 : World} {c : CodeP} {v : CV} {rR rS : Nat} (h : DJ w c v rR rS u) (hb : Below u.heap.size u u1) : DJ w c v rR rS u1 := by
  obtain ⟨f, hf⟩ := h.mR
  obtain ⟨g, hg⟩ := h.mS
  exact ⟨h.code.later hb, ⟨f, hf.later hb⟩, ⟨g, hg.later hb⟩, below_more h.bel hb⟩
theorem DS.later {c : CodeP} {rR rS : Nat} {s : WrS} {u u1 : World} (h : DS c rR rS s u) (hb : Below u.heap.size u u1) : DS c rR rS s u1 := by
  obtain ⟨⟨f, hf, h1⟩, ⟨g, hg, h2⟩, h3⟩ := h
  exact ⟨⟨f, hf.later hb, h1⟩, ⟨g, hg.later hb, h2⟩, h3⟩
theorem DJ.put {w u u1 : World} {c : CodeP} {v : CV} {rR rS r : Nat} {f : Int → Option Value} (h : DJ w c v rR rS u) (hM : IMap u1 r f) (hG : u.grownBy u1 (some r)) (hr : r = rR ∨ r = rS) (h1 : w.heap.size + 1 ≤ rR ∧ w.heap.size + 1 ≤ rS) : DJ w c v rR rS u1 := by
  have hlt : w.heap.size < r := by omega
  have cel : ∀ i x, u.cell? ⟨w.heap.size, i, none⟩ = some x → u1.cell? ⟨w.heap.size, i, none⟩ = some x := fun i x hv => hG.cell hv (by simp; omega)
  obtain ⟨a0, a1, a2, a3, a4⟩ := h.code
  obtain ⟨fR, hR⟩ := h.mR
  obtain ⟨fS, hS⟩ := h.mS
  refine ⟨⟨cel _ _ a0, cel _ _ a1, cel _ _ a2, cel _ _ a3, cel _ _ a4⟩, ?_, ?_, ⟨hG.os.trans h.bel.os, hG.tape.trans h.bel.tape, hG.output.trans h.bel.output, Nat.le_trans h.bel.size hG.size, fun k hk => (hG.block k (Nat.lt_of_lt_of_le hk h.bel.size) (by simp; omega)).trans (h.bel.block k hk)⟩⟩
  · by_cases e : rR = r
    · exact ⟨f, e ▸ hM⟩
    · exact ⟨fR, hR.grown hG (by simp; exact e)⟩
  · by_cases e : rS = r
    · exact ⟨f, e ▸ hM⟩
    · exact ⟨fS, hS.grown hG (by simp; exact e)⟩
theorem DS.putR {c : CodeP} {rR rS : Nat} {s : WrS} {u u1 : World} {f : Int → Option Value} (h2 : ∃ g, IMap u rS g ∧ RelB g s.2) (h3 : ∀ a, s.2 a = true → 0 ≤ a ∧ a < c.slots) (hr : RelB f s.1) {i : Int} (hM : IMap u1 rR (iput f i (.bool true))) (hG : u.grownBy u1 (some rR)) (hne : rR ≠ rS) : DS c rR rS (putB s.1 i, s.2) u1 := by
  obtain ⟨g, hg, hs⟩ := h2
  exact ⟨⟨_, hM, hr.put i⟩, ⟨g, hg.grown hG (by simp; exact fun e => hne e.symm), hs⟩, h3⟩
theorem DS.putS {c : CodeP} {rR rS : Nat} {s : WrS} {u u1 : World} {f : Int → Option Value} (h1 : ∃ g, IMap u rR g ∧ RelB g s.1) (h3 : ∀ a, s.2 a = true → 0 ≤ a ∧ a < c.slots) (hr : RelB f s.2) {i : Int} (hi : 0 ≤ i ∧ i < c.slots) (hM : IMap u1 rS (iput f i (.bool true))) (hG : u.grownBy u1 (some rS)) (hne : rR ≠ rS) : DS c rR rS (s.1, putB s.2 i) u1 := by
  obtain ⟨g, hg, hs⟩ := h1
  refine ⟨⟨g, hg.grown hG (by simp; exact hne), hs⟩, ⟨_, hM, hr.put i⟩, fun a ha => ?_⟩
  unfold putB at ha
  simp only [Bool.or_eq_true, decide_eq_true_eq] at ha
  rcases ha with rfl | ha
  · exact hi
  · exact h3 a ha
theorem all_snoc (l : List Int) (k : Nat) (z : Int) (s : Int → Bool) (h : l[k]? = some z) : (l.take (k + 1)).all s = ((l.take k).all s && s z) := by
  rw [List.take_add_one, h, List.all_append]; simp
theorem any_snoc {α : Type} (l : List α) (k : Nat) (z : α) (p : α → Bool) (h : l[k]? = some z) : (l.take (k + 1)).all p = ((l.take k).all p && p z) := by
  rw [List.take_add_one, h, List.all_append]; simp
theorem goodL_step (c : CodeP) (s : WrS) (l : List I4) (k : Nat) (x : I4) (h : l[k]? = some x) (hl : (l.drop (k + 1) = []) ↔ k + 1 = l.length) :
    goodL c s (l.drop k) = (stepG c (decide (k + 1 = l.length)) s x && goodL c (noteP s x) (l.drop (k + 1))) := by
  obtain ⟨hk, e⟩ := List.getElem?_eq_some_iff.1 h
  rw [List.drop_eq_getElem_cons hk, e]
  show ((decide (l.drop (k + 1) = []) == decide (x.1 = 52)) && _ && _ && _ && _) = _
  rw [show decide (l.drop (k + 1) = []) = decide (k + 1 = l.length) by congr 1; exact propext hl]
  rfl
section
variable {c : CodeP} {s : WrS} {op d ia ib : Int} {lb : Bool}
theorem sg_bad1 (h : opsP op < 2) (h53 : op ≠ 53) (hb : ib ≠ 0) : stepG c lb s (op, d, ia, ib) = false := by
  have : formedB (op, d, ia, ib) = false := by
    unfold formedB
    dsimp only
    (repeat' split) <;> first | (exfalso; omega) | (simp [hb]; done) | (simp; omega)
  unfold stepG; rw [this]; simp
theorem sg_bad2 (h : lb ≠ decide (op = 52)) : stepG c lb s (op, d, ia, ib) = false := by
  unfold stepG
  have : (lb == decide (op = 52)) = false := by simpa using h
  dsimp only
  rw [this]; rfl
theorem sg_52 : stepG c true s (52, d, ia, 0) = (s.1 ia && decide (d = 0)) := by
  have e1 : formedB (52, d, ia, 0) = decide (d = 0) := by simp [formedB]
  have e2 : thereB c (52, d, ia, 0) = true := by simp [thereB, writesB, ops52]
  have e3 : hasB s (52, d, ia, 0) = s.1 ia := by simp [hasB, readsP]
  unfold stepG; rw [e1, e2, e3]; simp [Bool.and_comm]
theorem sg_53 : stepG c false s (53, d, ia, ib) = (decide (d = 0) && belowB ia c.slots && s.1 ib) := by
  have e1 : formedB (53, d, ia, ib) = decide (d = 0) := by simp [formedB]
  have e2 : thereB c (53, d, ia, ib) = belowB ia c.slots := by simp [thereB, writesB, ops53]
  have e3 : hasB s (53, d, ia, ib) = s.1 ib := by simp [hasB, readsP]
  unfold stepG; rw [e1, e2, e3]; simp
theorem sg_50 : stepG c false s (50, d, ia, 0) = (belowB d c.regs && belowB ia c.ins.length) := by
  have e1 : formedB (50, d, ia, 0) = true := by simp [formedB]
  have e2 : thereB c (50, d, ia, 0) = (belowB d c.regs && belowB ia c.ins.length) := by simp [thereB, writesB]
  have e3 : hasB s (50, d, ia, 0) = true := by simp [hasB, readsP, ops50]
  unfold stepG; rw [e1, e2, e3]; simp
theorem sg_51 : stepG c false s (51, d, ia, 0) = (belowB d c.regs && belowB ia c.cs.length) := by
  have e1 : formedB (51, d, ia, 0) = true := by simp [formedB]
  have e2 : thereB c (51, d, ia, 0) = (belowB d c.regs && belowB ia c.cs.length) := by simp [thereB, writesB]
  have e3 : hasB s (51, d, ia, 0) = true := by simp [hasB, readsP, ops51]
  unfold stepG; rw [e1, e2, e3]; simp
theorem sg_54 : stepG c false s (54, d, ia, 0) = (belowB d c.regs && belowB ia c.slots && s.2 ia) := by
  have e1 : formedB (54, d, ia, 0) = true := by simp [formedB]
  have e2 : thereB c (54, d, ia, 0) = (belowB d c.regs && belowB ia c.slots) := by simp [thereB, writesB]
  have e3 : hasB s (54, d, ia, 0) = s.2 ia := by simp [hasB, readsP, ops54]
  unfold stepG; rw [e1, e2, e3]; simp
theorem sg_op (hp : 0 < opsP op) (hb : opsP op = 1 → ib = 0) (n0 : op ≠ 50) (n1 : op ≠ 51) (n2 : op ≠ 52) (n3 : op ≠ 53) (n4 : op ≠ 54) : stepG c false s (op, d, ia, ib) = (belowB d c.regs && (readsR (op, d, ia, ib)).all s.1) := by
  have hle := ops_le op
  have e1 : formedB (op, d, ia, ib) = true := by
    unfold formedB
    rw [if_neg (by dsimp only; omega), if_neg n3, if_neg n2]
    by_cases h1 : opsP op = 1
    · rw [if_pos h1]; simpa using hb h1
    · rw [if_neg h1]; simp; omega
  have e2 : thereB c (op, d, ia, ib) = belowB d c.regs := by simp [thereB, writesB, n0, n1, n3, n4, hp]
  have e3 : hasB s (op, d, ia, ib) = (readsR (op, d, ia, ib)).all s.1 := by simp [hasB, readsP, readsR, n2, n3, n4]
  have e4 : (false == decide (op = 52)) = true := by simp [n2]
  unfold stepG; dsimp only; rw [e1, e2, e3, e4]; simp
theorem sg_none (hp : opsP op = 0) (n0 : op ≠ 50) (n1 : op ≠ 51) (n2 : op ≠ 52) (n3 : op ≠ 53) (n4 : op ≠ 54) : stepG c lb s (op, d, ia, ib) = false := by
  have e1 : formedB (op, d, ia, ib) = false := by
    unfold formedB
    rw [if_neg (by dsimp only; omega), if_neg n3, if_neg n2, if_neg (by dsimp only; omega)]
    simp [hp]
  unfold stepG; rw [e1]; simp
theorem nt_53 : noteP s (53, d, ia, ib) = (s.1, putB s.2 ia) := rfl
theorem nt_w (n3 : op ≠ 53) (hw : writesB op = true) : noteP s (op, d, ia, ib) = (putB s.1 d, s.2) := by
  unfold noteP
  rw [if_neg n3, if_pos hw]
end
theorem slot4_keeps : G.KeepsD (fun (a : Act) (_ : World) => (a.tmps[4]?).getD undef = .bool true) [4] := fun a d v w w' h _ hL => by
  have hd : d ≠ some 4 := fun e => by subst e; simp at hL
  cases d with
  | none => exact h
  | some d =>
    have : ¬ d = 4 := fun e => hd (by rw [e])
    unfold Act.put
    simp [this]
    simpa using h
theorem bdrewQ {B : Nat} {a w : World} (h : Below B a w) (n : Nat) : Below B a (w.drewN n) := ⟨h.os, h.tape, h.output, h.size, h.block⟩
set_option maxHeartbeats 400000000 in
set_option maxRecDepth 100000 in
theorem rgood_any (c : CodeP) (v : CV) (w : World) (hc : CodeIn w c v) (h3 : c.list.length ≤ 3000) : Calls Try.prog 12 #[codeV c v] w (BOut (goodC c) w) := by
  obtain ⟨xA, xC, cA, cC, lA, lC⟩ := v
  have hI := Lib.hid (show QuadAt w xA c.ins from hc.ins)
  have hCs := Lib.hid (show RowV w cA c.cs.length c.cs from hc.cs)
  have hL := Lib.hid (show QuadAt w lA c.list from hc.list)
  have szI : c.ins.length ≤ 9223372036854775806 := by have := hc.szI; omega
  have szC : c.cs.length ≤ 9223372036854775806 := by have := hc.szC; omega
  have hG : goodC c = (sizesB c && goodL c noneW c.list && c.ins.all inputB && c.cs.all cleanB) := rfl
  generalize goodC c = r at *
  replace hG := Lib.hid hG
  have hw := m1 w (.cells #[.int .i64 c.regs, .int .i64 c.slots, .slice xA c.ins.length xC, .slice cA c.cs.length cC, .slice lA c.list.length lC] 26)
  have hcode : CodeAt (w.alloc (.cells #[.int .i64 c.regs, .int .i64 c.slots, .slice xA c.ins.length xC, .slice cA c.cs.length cC, .slice lA c.list.length lC] 26)) w.heap.size c ⟨xA, xC, cA, cC, lA, lC⟩ := CodeAt.new w c ⟨xA, xC, cA, cC, lA, lC⟩
  show Calls _ _ #[.agg #[.int .i64 c.regs, .int .i64 c.slots, .slice xA c.ins.length xC, .slice cA c.cs.length cC, .slice lA c.list.length lC]] _ _
  clear hc
  go_enter Try.func12, Try.ntmps12
  go_upto_region 2 with (fail)
  generalize w.alloc (.cells #[.int .i64 c.regs, .int .i64 c.slots, .slice xA c.ins.length xC, .slice cA c.cs.length cC, .slice lA c.list.length lC] 26) = uu at *
  obtain ⟨s0, s1, s2, s3, s4⟩ := id hcode
  dsimp only at s2 s3 s4
  obtain ⟨b0, hb0⟩ : ∃ b, b = sizesB c := ⟨_, rfl⟩
  go_cut [4] from 19 to 44 (fun v w' => v = .bool b0 ∧ uu = w')
  case first =>
    by_cases g0 : c.regs ≥ 1
    · by_cases g1 : c.regs ≤ 1024
      · by_cases g2 : c.slots ≥ 0
        · by_cases g3 : c.slots ≤ 256
          · by_cases g4 : (c.list.length : Int) ≥ 1
            · by_cases g5 : (c.list.length : Int) ≤ 1024
              · have hE := Lib.hid (show b0 = true by rw [hb0]; simp [sizesB]; omega)
                clear hb0
                go_wp2_with fail
                go_meet
                exact ⟨by first | (rw [hE.out]; done) | (rw [hE.out]; simp; omega), by first | rfl | trivial⟩
              · have hE := Lib.hid (show b0 = false by rw [hb0]; simp [sizesB]; omega)
                clear hb0
                go_wp2_with fail
                go_meet
                exact ⟨by first | (rw [hE.out]; done) | (rw [hE.out]; simp; omega), by first | rfl | trivial⟩
            · have hE := Lib.hid (show b0 = false by rw [hb0]; simp [sizesB]; omega)
              clear hb0
              go_wp2_with fail
              go_meet
              exact ⟨by first | (rw [hE.out]; done) | (rw [hE.out]; simp; omega), by first | rfl | trivial⟩
          · have hE := Lib.hid (show b0 = false by rw [hb0]; simp [sizesB]; omega)
            clear hb0
            go_wp2_with fail
            go_meet
            exact ⟨by first | (rw [hE.out]; done) | (rw [hE.out]; simp; omega), by first | rfl | trivial⟩
        · have hE := Lib.hid (show b0 = false by rw [hb0]; simp [sizesB]; omega)
          clear hb0
          go_wp2_with fail
          go_meet
          exact ⟨by first | (rw [hE.out]; done) | (rw [hE.out]; simp; omega), by first | rfl | trivial⟩
      · have hE := Lib.hid (show b0 = false by rw [hb0]; simp [sizesB]; omega)
        clear hb0
        go_wp2_with fail
        go_meet
        exact ⟨by first | (rw [hE.out]; done) | (rw [hE.out]; simp; omega), by first | rfl | trivial⟩
    · have hE := Lib.hid (show b0 = false by rw [hb0]; simp [sizesB]; omega)
      clear hb0
      go_wp2_with fail
      go_meet
      exact ⟨by first | (rw [hE.out]; done) | (rw [hE.out]; simp; omega), by first | rfl | trivial⟩
  case rest =>
    obtain ⟨rfl, rfl⟩ := hcut
    have hw' := hw
    replace hw := Lib.hid hw
    have hsz := Lib.hid (show b0 = true → c.list.length ≤ 1024 from fun h => by rw [h] at hb0; have := hb0.symm; simp [sizesB] at this; omega)
    replace hG := hG.out
    rw [← hb0] at hG
    replace hG := Lib.hid hG
    clear hb0
    go_wp2_with fail
    go_loopw [4, 48] (fun t i wr => ∃ k : Nat, k ≤ c.ins.length ∧ i = .int .i64 (k : Int) ∧ t = .bool (b0 && (c.ins.take k).all inputB) ∧ Below uu.heap.size uu wr) (fun _ i _ => c.ins.length - (intOf i).toNat)
    case atStart => exact ⟨0, Nat.zero_le _, rfl, by simp, Below.refl _ _⟩
    case round =>
      obtain ⟨k, hk, rfl, rfl, hb⟩ := hrel
      by_cases hlt : k < c.ins.length
      · obtain ⟨bb, off, hA, hcells⟩ := hI.out (by omega)
        have hx := List.getElem?_eq_getElem hlt
        obtain ⟨q0, q1, q2, q3⟩ := hcells k _ hx
        have hsn := any_snoc c.ins k _ inputB hx
        replace q0 := cell_later hb (cell_later hw.out q0)
        replace q1 := cell_later hb (cell_later hw.out q1)
        replace q2 := cell_later hb (cell_later hw.out q2)
        replace q3 := cell_later hb (cell_later hw.out q3)
        clear hcells hx
        generalize c.ins[k] = x at *
        obtain ⟨op, kd, ps, at_⟩ := x
        dsimp only at q0 q1 q2 q3
        have L := Lib.hid (rinput_any op kd ps at_)
        replace hsn := Lib.hid hsn
        generalize (c.ins.take k).all inputB = tk at *
        generalize inputB (op, kd, ps, at_) = y at *
        have k0 : (0 : Int) ≤ (k : Int) := by omega
        have k1 : (k : Int) < (c.ins.length : Int) := by omega
        have k3 := Lib.hid hlt
        have hb2 := hb.alloc hb.size (.cells #[.int .i64 op, .int .i64 kd, .int .i64 ps, .int .i64 at_] 43)
        subst hA
        cases hbt : (b0 && tk) with
        | false =>
          have hn : (b0 && (c.ins.take (k + 1)).all inputB) = false := by rw [hsn.out]; cases b0 <;> cases tk <;> simp_all
          clear hbt
          go_wp2
          go_roundw
          case rel => exact ⟨k + 1, by have := k3.out; omega, by go_num, by rw [hn], hb2⟩
          case measure => have := k3.out; simp [intOf]; omega
        | true =>
          have hn : (b0 && (c.ins.take (k + 1)).all inputB) = y := by rw [hsn.out]; cases b0 <;> cases tk <;> simp_all
          replace hn := Lib.hid hn
          clear hbt
          go_wp2_with fail
          refine (L.out _).mono ?_; rintro e w2 ⟨rfl, hb1⟩
          have hb3 := below_more hb2 hb1
          clear hb1 L
          go_wp2
          go_roundw
          case rel => exact ⟨k + 1, by have := k3.out; omega, by go_num, by rw [hn.out], hb3⟩
          case measure => have := k3.out; simp [intOf]; omega
      · obtain rfl : k = c.ins.length := by omega
        rw [List.take_length]
        have s3' := cell_later hb s3
        clear hlt
        generalize hb1 : (b0 && c.ins.all inputB) = b1 at *
        replace hb1 := Lib.hid hb1
        go_wp2_with fail
        go_loopw [4, 61] (fun t i wr => ∃ k : Nat, k ≤ c.cs.length ∧ i = .int .i64 (k : Int) ∧ t = .bool (b1 && (c.cs.take k).all cleanB) ∧ Below uu.heap.size uu wr) (fun _ i _ => c.cs.length - (intOf i).toNat)
        case atStart => exact ⟨0, Nat.zero_le _, rfl, by simp, hb⟩
        case round =>
          clear hb s3'
          obtain ⟨k, hk, rfl, rfl, hb⟩ := hrel
          by_cases hlt : k < c.cs.length
          · obtain ⟨b2, off, hA, hcells⟩ := hCs.out.2.2 (by omega)
            have hx := List.getElem?_eq_getElem hlt
            obtain ⟨q0, q1⟩ := hcells k c.cs[k].1 c.cs[k].2 hx
            have hbit := hCs.out.2.1 _ (List.getElem_mem hlt)
            have hsn := any_snoc c.cs k _ cleanB hx
            replace q0 := cell_later hb (cell_later hw.out q0)
            replace q1 := cell_later hb (cell_later hw.out q1)
            clear hcells hx
            generalize c.cs[k] = x at *
            obtain ⟨kd, b⟩ := x
            dsimp only at q0 q1 hbit
            have hCl := fun u => rclean_any kd b u hbit
            have hE : decide (clK kd b = kd ∧ ((clB kd b : Nat) : Int) = (b : Int)) = cleanB (kd, b) := by
              unfold cleanB clV
              simp only [Prod.mk.injEq]
              congr 1
              exact propext ⟨fun h => ⟨h.1, by omega⟩, fun h => ⟨h.1, by omega⟩⟩
            replace hsn := Lib.hid hsn
            generalize (c.cs.take k).all cleanB = tk at *
            generalize cleanB (kd, b) = y at *
            generalize clK kd b = kk at *
            generalize clB kd b = bb at *
            replace hCl := Lib.hid hCl
            replace hE := Lib.hid hE
            have k0 : (0 : Int) ≤ (k : Int) := by omega
            have k1 : (k : Int) < (c.cs.length : Int) := by omega
            have k3 := Lib.hid hlt
            have hb2 := hb.alloc hb.size (.cells #[.int .i64 kd, .int .u64 (b : Int)] 31)
            have kB := Blk.made wr 31 #[.int .i64 kd, .int .u64 (b : Int)]
            subst hA
            cases hbt : (b1 && tk) with
            | false =>
              have hn : (b1 && (c.cs.take (k + 1)).all cleanB) = false := by rw [hsn.out]; cases b1 <;> cases tk <;> simp_all
              clear hbt kB
              go_wp2_with fail
              go_quiet (fail)
              have hb4 := bdrewQ hb2 nq
              go_wp2
              go_roundw
              case rel => exact ⟨k + 1, by have := k3.out; omega, by go_num, by rw [hn], hb4⟩
              case measure => have := k3.out; simp [intOf]; omega
            | true =>
              have hn : (b1 && (c.cs.take (k + 1)).all cleanB) = y := by rw [hsn.out]; cases b1 <;> cases tk <;> simp_all
              replace hn := Lib.hid (hn.trans hE.out.symm)
              clear hbt hb hE
              go_upto_region 11 with (fail)
              clear q0 q1
              have hb3 := hb2
              clear hb2
              generalize wr.alloc (.cells #[.int .i64 kd, .int .u64 (b : Int)] 31) = u5 at *
              generalize wr.heap.size = g8 at *
              have KD := slot4_keeps
              have KC : G.KeepsC (fun w' => Blk w' g8 31 #[.int .i64 kd, .int .u64 (b : Int)] ∧ Below uu.heap.size uu w') := fun _ _ h hb => ⟨h.1.kept hb, below_more h.2 hb⟩
              refine G.region_wordsG 7 (fun w' => Blk w' g8 31 #[.int .i64 kd, .int .u64 (b : Int)] ∧ Below uu.heap.size uu w') (fun (a : Act) (_ : World) => (a.tmps[4]?).getD undef = .bool true) [G.isW (.bool true), G.isW (.bool true), G.isW (.agg #[.int .i64 kd, .int .u64 (b : Int)]), G.isW (.agg #[.int .i64 kk, .int .u64 (bb : Int)]), G.isW (.agg #[.int .i64 kd, .int .u64 (b : Int)]), G.isW (.bool (decide (kk = kd ∧ (bb : Int) = (b : Int)))), G.isW (.bool (decide (kk = kd ∧ (bb : Int) = (b : Int))))] (by kernel_rfl) (by repeat' (first | exact G.monoL_nil | exact G.is_mono _ | exact G.any_mono | refine G.monoL_cons ?_ ?_)) (by kernel_rfl) (by kernel_rfl) ⟨kB.kept (Below.refl _ _).drew, hb3.drew⟩ rfl ?_ ?_
              ·
                refine G.stepsL_cons (fun a u hc hdd hd hk hdep => ?_) ?_
                ·
                  have d4 := hdd
                  refine G.step_val KC KD hc hdd rfl (.bool true) u (G.wanted_plain rfl) ?_ rfl (Below.refl _ _)
                  first | (go_simp; done) | rfl | (simp [go_sem, *]; done)
                refine G.stepsL_cons (fun a u hc hdd hd hk hdep => ?_) ?_
                ·
                  have d65 : (a.tmps[65]?).getD undef = (.bool true) := hdep ⟨0, .data⟩ (by simp) rfl
                  refine G.step_val KC KD hc hdd rfl (.bool true) u (G.wanted_plain rfl) ?_ rfl (Below.refl _ _)
                  first | (go_simp; done) | rfl | (simp [go_sem, *]; done)
                refine G.stepsL_cons (fun a u hc hdd hd hk hdep => ?_) ?_
                ·
                  have d8 : (a.tmps[8]?).getD undef = (.pointer (some ⟨g8, 0, none⟩)) := hk 8 (by kernel_rfl)
                  refine G.step_val KC KD hc hdd rfl (.agg #[.int .i64 kd, .int .u64 (b : Int)]) u ((G.wanted_guard (j := 1) (b := true) (c := true) rfl (hdep ⟨1, .guard⟩ (by simp) rfl)).trans rfl) ?_ rfl (Below.refl _ _)
                  have s0 : u.cell? ⟨g8, 0, none⟩ = some (.int .i64 kd) := hc.1.cell 0
                  have s1 : u.cell? ⟨g8, 1, none⟩ = some (.int .u64 (b : Int)) := hc.1.cell 1
                  first | (go_simp; done) | rfl | (simp [go_sem, *]; done)
                refine G.stepsL_cons (fun a u hc hdd hd hk hdep => ?_) ?_
                ·
                  have d67 : (a.tmps[67]?).getD undef = (.agg #[.int .i64 kd, .int .u64 (b : Int)]) := hdep ⟨2, .data⟩ (by simp) rfl
                  refine G.step_call KC KD hc hdd rfl 13 #[.agg #[.int .i64 kd, .int .u64 (b : Int)]] ((G.wanted_guard (j := 1) (b := true) (c := true) rfl (hdep ⟨1, .chain⟩ (by simp) rfl)).trans rfl) (by first | (go_simp; done) | rfl) ?_
                  exact (hCl.out u).mono (by rintro e w' ⟨rfl, hb⟩; exact ⟨_, rfl, rfl, hb⟩)
                refine G.stepsL_cons (fun a u hc hdd hd hk hdep => ?_) ?_
                ·
                  have d8 : (a.tmps[8]?).getD undef = (.pointer (some ⟨g8, 0, none⟩)) := hk 8 (by kernel_rfl)
                  refine G.step_val KC KD hc hdd rfl (.agg #[.int .i64 kd, .int .u64 (b : Int)]) u ((G.wanted_guard (j := 1) (b := true) (c := true) rfl (hdep ⟨1, .guard⟩ (by simp) rfl)).trans rfl) ?_ rfl (Below.refl _ _)
                  have s0 : u.cell? ⟨g8, 0, none⟩ = some (.int .i64 kd) := hc.1.cell 0
                  have s1 : u.cell? ⟨g8, 1, none⟩ = some (.int .u64 (b : Int)) := hc.1.cell 1
                  first | (go_simp; done) | rfl | (simp [go_sem, *]; done)
                refine G.stepsL_cons (fun a u hc hdd hd hk hdep => ?_) ?_
                ·
                  have d68 : (a.tmps[68]?).getD undef = (.agg #[.int .i64 kk, .int .u64 (bb : Int)]) := hdep ⟨3, .data⟩ (by simp) rfl
                  have d69 : (a.tmps[69]?).getD undef = (.agg #[.int .i64 kd, .int .u64 (b : Int)]) := hdep ⟨4, .data⟩ (by simp) rfl
                  refine G.step_val KC KD hc hdd rfl (.bool (decide (kk = kd ∧ (bb : Int) = (b : Int)))) u ((G.wanted_guard (j := 1) (b := true) (c := true) rfl (hdep ⟨1, .guard⟩ (by simp) rfl)).trans rfl) ?_ rfl (Below.refl _ _)
                  go_simp
                  by_cases e1 : kk = kd <;> by_cases e2 : (bb : Int) = (b : Int) <;> simp [e1, e2]
                refine G.stepsL_cons (fun a u hc hdd hd hk hdep => ?_) ?_
                ·
                  have d66 : (a.tmps[66]?).getD undef = (.bool true) := hdep ⟨1, .data⟩ (by simp) rfl
                  have d70 : (a.tmps[70]?).getD undef = (.bool (decide (kk = kd ∧ (bb : Int) = (b : Int)))) := hdep ⟨5, .data⟩ (by simp) rfl
                  refine G.step_val KC KD hc hdd rfl (.bool (decide (kk = kd ∧ (bb : Int) = (b : Int)))) u (G.wanted_plain rfl) ?_ rfl (Below.refl _ _)
                  first | (go_simp; done) | rfl | (simp [go_sem, *]; done)
                exact G.stepsL_nil
              intro vs' wN hNN _ hh
              have eL : vs' 6 = (.bool (decide (kk = kd ∧ (bb : Int) = (b : Int)))) := by
                obtain ⟨-, -, -, -, -, -, eX, -⟩ := hh
                exact eX
              clear hh kB hb3
              obtain ⟨-, hb4⟩ := hNN
              set_option maxRecDepth 100000 in simp only [List.take_succ_cons, List.take_zero, putAll, Act.put, List.setIfInBounds_toArray, List.set_cons_zero, List.set_cons_succ, Nat.reduceAdd, eL]
              clear eL
              refine wpAny_ready (rs := [7]) (by kernel_rfl) (by simp) ?_
              refine AllReady.cons rfl (fun K hK => ?_) AllReady.nil
              go_simp
              refine hK _ _ ?_
              clear hK K
              refine wpAny_done (by kernel_rfl) ?_ _
              go_wp2
              go_roundw
              case rel => exact ⟨k + 1, by have := k3.out; omega, by go_num, by rw [hn.out]; simp, hb4⟩
              case measure => have := k3.out; simp [intOf]; omega
          · obtain rfl : k = c.cs.length := by omega
            rw [List.take_length]
            clear hlt
            generalize hb2' : (b1 && c.cs.all cleanB) = b2 at *
            have hst : (b2 = true → r = goodL c noneW c.list) ∧ (b2 = false → r = false) := by
              have e0 := hG.out
              have e1 := hb1.out
              have e2 := hb2'
              generalize goodL c noneW c.list = gl at *
              generalize c.ins.all inputB = x at *
              generalize c.cs.all cleanB = y at *
              clear hb1 hG hb2'
              subst e1 e2 e0
              cases b0 <;> cases gl <;> cases x <;> cases y <;> simp
            replace hst := Lib.hid hst
            clear hb2' hb1 hG hsz hI hCs szI szC
            have hc2 := hcode.later hb
            have mR := (IMap.new wr).later (m1 _ (.map #[] 0))
            have mS : IMap ((wr.alloc (.map #[] 0)).alloc (.map #[] 0)) (wr.heap.size + 1) (fun _ => none) := by simpa using IMap.new (wr.alloc (.map #[] 0))
            have hb5 := m2 wr (.map #[] 0) (.map #[] 0)
            have hlt0 : w.heap.size < wr.heap.size := mblock hc2.1
            replace hc2 := hc2.later hb5
            have hB0 := below_more (below_more hw.out hb) hb5
            have hmk : ∀ w, (Instr.makeMap 61 none).run Try.prog w = .ok (.map (some w.heap.size)) (w.alloc (.map #[] 0)) := fun w => run_makeMap_plain w _
            clear hb hb5 hw hw' hcode s0 s1 s2 s3 s4
            go_upto_region 14 with (fail)
            generalize (wr.alloc (.map #[] 0)).alloc (.map #[] 0) = u9 at *
            generalize wr.heap.size = rR at *
            obtain ⟨rS, hrS⟩ : ∃ x, rR + 1 = x := ⟨_, rfl⟩
            rw [hrS] at mS
            rw [hrS]
            have hne := Lib.hid (show rR ≠ rS by omega)
            have hD0 : DJ w c ⟨xA, xC, cA, cC, lA, lC⟩ rR rS u9 := ⟨hc2, ⟨_, mR⟩, ⟨_, mS⟩, hB0⟩
            have hS0 : DS c rR rS noneW u9 := ⟨⟨_, mR, RelB.none⟩, ⟨_, mS, RelB.none⟩, fun a h => by cases h⟩
            replace hD0 := Lib.hid hD0
            replace hS0 := Lib.hid hS0
            have hrb := Lib.hid (show w.heap.size + 1 ≤ rR ∧ w.heap.size + 1 ≤ rS by omega)
            clear hc2 mR mS hB0 hmk hlt0 hrS
            go_wp2_with fail
            go_loopw [4, 11] (fun t i wr => ∃ (k : Nat) (b : Bool), k ≤ c.list.length ∧ i = .int .i64 (k : Int) ∧ t = .bool b ∧ DJ w c ⟨xA, xC, cA, cC, lA, lC⟩ rR rS wr ∧ (b = true → ∃ s, DS c rR rS s wr ∧ r = goodL c s (c.list.drop k)) ∧ (b = false → r = false)) (fun _ i _ => c.list.length - (intOf i).toNat)
            case atStart => exact ⟨0, b2, Nat.zero_le _, rfl, rfl, hD0.out, fun h => ⟨noneW, hS0.out, by rw [List.drop_zero]; exact hst.out.1 h⟩, hst.out.2⟩
            case round =>
              obtain ⟨k, b, hk, rfl, rfl, hD, hT, hFl⟩ := hrel
              cases b with
              | false =>
                have hF := Lib.hid (hFl rfl)
                clear hT hFl
                go_wp2
                go_ret
                exact bout_eq hF.out.symm hD.bel
              | true =>
                obtain ⟨s, hS, hgo⟩ := hT rfl
                clear hT hFl
                by_cases hlt : k < c.list.length
                · obtain ⟨bb, off, rfl, hcells⟩ := hL.out (by omega)
                  have hx := List.getElem?_eq_getElem hlt
                  obtain ⟨q0, q1, q2, q3⟩ := hcells k _ hx
                  rw [goodL_step c s c.list k _ hx (by rw [List.drop_eq_nil_iff]; omega)] at hgo
                  replace q0 := cell_later hD.bel q0
                  replace q1 := cell_later hD.bel q1
                  replace q2 := cell_later hD.bel q2
                  replace q3 := cell_later hD.bel q3
                  clear hcells hx
                  obtain ⟨s0, s1, s2, s3, s4⟩ := hD.code
                  dsimp only at s2 s3 s4
                  have hlast : ((k : Int) == (c.list.length : Int) - 1) = decide (k + 1 = c.list.length) := by
                    by_cases e : k + 1 = c.list.length
                    · have e2 : (k : Int) = (c.list.length : Int) - 1 := by omega
                      simp [e, e2]
                    · have e2 : ¬ (k : Int) = (c.list.length : Int) - 1 := by omega
                      simp [e, e2]
                  have hend : decide (k + 1 = c.list.length) = true → c.list.drop (k + 1) = [] := fun h => by
                    rw [List.drop_eq_nil_iff]
                    have := of_decide_eq_true h
                    omega
                  have hwr : IntKind.i64.wrap ((c.list.length : Int) - 1) = (c.list.length : Int) - 1 := by rw [IntKind.wrap_i64]; omega
                  generalize c.list[k] = x at *
                  obtain ⟨op, d, ia, ib⟩ := x
                  dsimp only at q0 q1 q2 q3
                  replace hgo := Lib.hid hgo
                  generalize decide (k + 1 = c.list.length) = lb at *
                  replace hend := Lib.hid hend
                  have O := Lib.hid (roperands_any op)
                  have RD := Lib.hid (rreads_any op d ia ib)
                  have hl2 := readsR_len (op, d, ia, ib)
                  obtain ⟨l, hl⟩ : ∃ l, l = readsR (op, d, ia, ib) := ⟨_, rfl⟩
                  rw [← hl] at RD hl2
                  replace hl := Lib.hid hl
                  have k0 : (0 : Int) ≤ (k : Int) := by omega
                  have k1 : (k : Int) < (c.list.length : Int) := by omega
                  have k3 := Lib.hid hlt
                  have hb := m1 wr (.cells #[.int .i64 op, .int .i64 d, .int .i64 ia, .int .i64 ib] 39)
                  have hi : InsAt (wr.alloc (.cells #[.int .i64 op, .int .i64 d, .int .i64 ia, .int .i64 ib] 39)) wr.heap.size (op, d, ia, ib) := insAt_new wr (op, d, ia, ib)
                  replace hD := hD.later hb
                  replace hS := hS.later hb
                  clear hb
                  go_upto_region 18 with (fail)
                  generalize wr.alloc (.cells #[.int .i64 op, .int .i64 d, .int .i64 ia, .int .i64 ib] 39) = u1 at *
                  generalize wr.heap.size = gx at *
                  clear q0 q1 q2 q3
                  obtain ⟨i0, i1, i2, i3⟩ := id hi
                  dsimp only at i0 i1 i2 i3
                  go_wp2_with fail
                  refine (O.out _).mono ?_; rintro e u2 ⟨rfl, hb⟩
                  replace hD := hD.later hb
                  replace hS := hS.later hb
                  replace hi := hi.later hb
                  clear hb i0 i1 i2 i3
                  obtain ⟨i0, i1, i2, i3⟩ := id hi
                  dsimp only at i0 i1 i2 i3
                  go_wp2_with fail
                  refine (RD.out _).mono ?_; rintro e u3 ⟨LA, lc, rfl, hLs, hb⟩
                  replace hD := hD.later hb
                  replace hS := hS.later hb
                  replace hi := hi.later hb
                  clear hb i0 i1 i2 i3 s0 s1 s2 s3 s4 RD O
                  obtain ⟨⟨f, hf, hrf⟩, ⟨g, hg, hrg⟩, hinv⟩ := hS
                  go_wp2_with fail
                  generalize hn0 : opsP op = n9 at *
                  replace hn0 := Lib.hid hn0
                  go_loopw [4, 94] (fun t i wr => ∃ j : Nat, j ≤ l.length ∧ i = .int .i64 (j : Int) ∧ t = .bool ((l.take j).all s.1) ∧ wr = u3) (fun _ i _ => l.length - (intOf i).toNat)
                  case atStart => exact ⟨0, Nat.zero_le _, rfl, rfl, rfl⟩
                  case round =>
                    obtain ⟨j, hj, rfl, rfl, rfl⟩ := hrel
                    by_cases hjl : j < l.length
                    · obtain ⟨b3, off3, hA3, hcells⟩ := hLs (by omega)
                      have hx := List.getElem?_eq_getElem hjl
                      have z0 := hcells j _ hx
                      have hsn := all_snoc l j _ s.1 hx
                      clear hcells hx
                      generalize l[j] = z at *
                      have hlk := lookB hf hrf z
                      replace hsn := Lib.hid hsn
                      generalize (l.take j).all s.1 = tj at *
                      generalize s.1 z = y at *
                      have j0 : (0 : Int) ≤ (j : Int) := by omega
                      have j1 : (j : Int) < (l.length : Int) := by omega
                      have j3 := Lib.hid hjl
                      subst hA3
                      cases tj with
                      | false =>
                        go_wp2
                        go_roundw
                        case rel => exact ⟨j + 1, by have := j3.out; omega, by go_num, by rw [hsn.out]; rfl, by first | rfl | trivial⟩
                        case measure => have := j3.out; simp [intOf]; omega
                      | true =>
                        go_wp2
                        go_roundw
                        case rel => exact ⟨j + 1, by have := j3.out; omega, by go_num, by rw [hsn.out]; simp, by first | rfl | trivial⟩
                        case measure => have := j3.out; simp [intOf]; omega
                    · obtain rfl : j = l.length := by omega
                      rw [List.take_length]
                      have hq0 := Lib.hid (show l.all s.1 = (readsR (op, d, ia, ib)).all s.1 by rw [hl.out])
                      generalize l.all s.1 = q at *
                      clear hjl hj hLs hl
                      obtain ⟨i0, i1, i2, i3⟩ := id hi
                      obtain ⟨s0, s1, s2, s3, s4⟩ := hD.code
                      dsimp only at i0 i1 i2 i3 s2 s3 s4
                      have hn := hn0.out
                      by_cases h52 : op = 52
                      · as_aux_lemma =>
                          have hn9 : opsP op = 0 := by rw [h52]; decide
                          have h53 : op ≠ 53 := by omega
                          have t52 : (op == 52) = true := by simp [h52]
                          have u53 : (op != 53) = true := by simpa using h53
                          rw [hn9] at hn
                          subst hn
                          by_cases b0 : ib = 0
                          · have ub : (ib != 0) = false := by simp [b0]
                            subst b0
                            cases lb with
                            | false =>
                              have hF := Lib.hid (show false = r by rw [hgo.out, sg_bad2 (by rw [h52]; decide)]; rfl)
                              clear hf hrf hg hrg
                              try clear h50
                              try clear h51
                              try clear h52
                              try clear h53
                              try clear h54
                              try clear dz
                              try clear b0
                              try clear hn9
                              try clear hyb
                              try clear hbs
                              try clear hl2
                              try clear hgo
                              try clear hq0
                              try clear hq
                              go_wp2
                              go_ret
                              exact bout_eq hF.out hD.bel
                            | true =>
                              have hq : q = s.1 ia := by rw [hq0.out, h52]; simp [readsR]
                              replace hq := Lib.hid hq
                              cases q with
                              | false =>
                                have hF := Lib.hid (show false = r by rw [hgo.out, h52, sg_52, ← hq.out]; rfl)
                                clear hf hrf hg hrg
                                try clear h50
                                try clear h51
                                try clear h52
                                try clear h53
                                try clear h54
                                try clear dz
                                try clear b0
                                try clear hn9
                                try clear hyb
                                try clear hbs
                                try clear hl2
                                try clear hgo
                                try clear hq0
                                try clear hq
                                go_wp2
                                go_ret
                                first | exact bout_eq hF.out hD.bel | exact ⟨by rw [← hF.out]; simp [beqd], hD.bel⟩
                              | true =>
                                by_cases dz : d = 0
                                · have ud : (d == 0) = true := by simp [dz]
                                  have hF := Lib.hid (show true = r by rw [hgo.out, h52, sg_52, ← hq.out, dz, hend.out rfl]; simp [goodL])
                                  clear dz hf hrf hg hrg
                                  try clear h50
                                  try clear h51
                                  try clear h52
                                  try clear h53
                                  try clear h54
                                  try clear dz
                                  try clear b0
                                  try clear hn9
                                  try clear hyb
                                  try clear hbs
                                  try clear hl2
                                  try clear hgo
                                  try clear hq0
                                  try clear hq
                                  go_wp2
                                  go_ret
                                  first | exact bout_eq hF.out hD.bel | exact ⟨by rw [← hF.out]; simp [beqd], hD.bel⟩
                                · have ud : (d == 0) = false := by simpa using dz
                                  have hF := Lib.hid (show false = r by rw [hgo.out, h52, sg_52, ← hq.out]; simp [dz])
                                  clear dz hf hrf hg hrg
                                  try clear h50
                                  try clear h51
                                  try clear h52
                                  try clear h53
                                  try clear h54
                                  try clear dz
                                  try clear b0
                                  try clear hn9
                                  try clear hyb
                                  try clear hbs
                                  try clear hl2
                                  try clear hgo
                                  try clear hq0
                                  try clear hq
                                  go_wp2
                                  go_ret
                                  first | exact bout_eq hF.out hD.bel | exact ⟨by rw [← hF.out]; simp [beqd], hD.bel⟩
                          · have ub : (ib != 0) = true := by simpa using b0
                            have hF := Lib.hid (show false = r by rw [hgo.out, sg_bad1 (by rw [hn9]; decide) h53 b0]; rfl)
                            clear b0 hf hrf hg hrg
                            try clear h50
                            try clear h51
                            try clear h52
                            try clear h53
                            try clear h54
                            try clear dz
                            try clear b0
                            try clear hn9
                            try clear hyb
                            try clear hbs
                            try clear hl2
                            try clear hgo
                            try clear hq0
                            try clear hq
                            go_wp2
                            go_ret
                            exact bout_eq hF.out hD.bel
                      by_cases h53 : op = 53
                      · as_aux_lemma =>
                          have hn9 : opsP op = 0 := by rw [h53]; decide
                          have h52 : op ≠ 52 := by omega
                          have t52 : (op == 52) = false := by simpa using h52
                          have t53 : (op == 53) = true := by simp [h53]
                          have u53 : (op != 53) = false := by simp [h53]
                          rw [hn9] at hn
                          subst hn
                          cases lb with
                          | true =>
                            have hF := Lib.hid (show false = r by rw [hgo.out, sg_bad2 (by rw [h53]; decide)]; rfl)
                            clear hf hrf hg hrg
                            try clear h50
                            try clear h51
                            try clear h52
                            try clear h53
                            try clear h54
                            try clear dz
                            try clear b0
                            try clear hn9
                            try clear hyb
                            try clear hbs
                            try clear hl2
                            try clear hgo
                            try clear hq0
                            try clear hq
                            go_wp2
                            go_ret
                            exact bout_eq hF.out hD.bel
                          | false =>
                            have hq : q = true := by rw [hq0.out, h53]; simp [readsR, ops53]
                            subst hq
                            by_cases dz : d = 0
                            · have ud : (d == 0) = true := by simp [dz]
                              by_cases a0 : ia ≥ 0
                              · by_cases a1 : ia < c.slots
                                · have hy := Lib.hid (show s.1 ib = s.1 ib from rfl)
                                  have hlk := lookB hf hrf ib
                                  cases hyb : s.1 ib with
                                  | false =>
                                    rw [hyb] at hlk
                                    have hF := Lib.hid (show false = r by rw [hgo.out, h53, sg_53, hyb, Bool.and_false]; rfl)
                                    clear hyb
                                    obtain ⟨w3, hup, hM, hG⟩ := upB hg ia
                                    have hD3 := hD.put hM hG (by right; rfl) hrb.out
                                    clear hM hG
                                    try clear h50
                                    try clear h51
                                    try clear h52
                                    try clear h53
                                    try clear h54
                                    try clear dz
                                    try clear b0
                                    try clear hn9
                                    try clear hyb
                                    try clear hbs
                                    try clear hl2
                                    try clear hgo
                                    try clear hq0
                                    try clear hq
                                    go_wp2
                                    go_roundw
                                    case rel => exact ⟨k + 1, false, by have := k3.out; omega, by go_num, by first | rfl | simp, hD3, (fun h => by cases h), fun _ => hF.out.symm⟩
                                    case measure => have := k3.out; simp [intOf]; omega
                                  | true =>
                                    rw [hyb] at hlk
                                    have hbs : belowB ia c.slots = true := by simp [belowB]; omega
                                    have hin : 0 ≤ ia ∧ ia < c.slots := by omega
                                    have hT := Lib.hid (show r = goodL c (s.1, putB s.2 ia) (c.list.drop (k + 1)) by rw [hgo.out, h53, sg_53, hyb, hbs, show decide (d = 0) = true by simp [dz], show noteP s (53, d, ia, ib) = _ from nt_53]; simp)
                                    clear hyb hbs
                                    obtain ⟨w3, hup, hM, hG⟩ := upB hg ia
                                    have hD3 := hD.put hM hG (by right; rfl) hrb.out
                                    have hS3 := DS.putS ⟨f, hf, hrf⟩ hinv hrg hin hM hG hne.out
                                    clear hM hG
                                    try clear h50
                                    try clear h51
                                    try clear h52
                                    try clear h53
                                    try clear h54
                                    try clear dz
                                    try clear b0
                                    try clear hn9
                                    try clear hyb
                                    try clear hbs
                                    try clear hl2
                                    try clear hgo
                                    try clear hq0
                                    try clear hq
                                    go_wp2
                                    go_roundw
                                    case rel => exact ⟨k + 1, true, by have := k3.out; omega, by go_num, by first | rfl | simp, hD3, fun _ => ⟨_, hS3, hT.out⟩, fun h => by cases h⟩
                                    case measure => have := k3.out; simp [intOf]; omega
                                · have hF := Lib.hid (show false = r by rw [hgo.out, h53, sg_53, show belowB ia c.slots = false by simp [belowB, a1], Bool.and_false, Bool.false_and]; rfl)
                                  obtain ⟨w3, hup, hM, hG⟩ := upB hg ia
                                  have hD3 := hD.put hM hG (by right; rfl) hrb.out
                                  clear hM hG
                                  try clear h50
                                  try clear h51
                                  try clear h52
                                  try clear h53
                                  try clear h54
                                  try clear dz
                                  try clear b0
                                  try clear hn9
                                  try clear hyb
                                  try clear hbs
                                  try clear hl2
                                  try clear hgo
                                  try clear hq0
                                  try clear hq
                                  go_wp2
                                  go_roundw
                                  case rel => exact ⟨k + 1, false, by have := k3.out; omega, by go_num, by first | rfl | simp, hD3, (fun h => by cases h), fun _ => hF.out.symm⟩
                                  case measure => have := k3.out; simp [intOf]; omega
                              · have hF := Lib.hid (show false = r by rw [hgo.out, h53, sg_53, show belowB ia c.slots = false by simp [belowB]; omega, Bool.and_false, Bool.false_and]; rfl)
                                obtain ⟨w3, hup, hM, hG⟩ := upB hg ia
                                have hD3 := hD.put hM hG (by right; rfl) hrb.out
                                clear hM hG
                                try clear h50
                                try clear h51
                                try clear h52
                                try clear h53
                                try clear h54
                                try clear dz
                                try clear b0
                                try clear hn9
                                try clear hyb
                                try clear hbs
                                try clear hl2
                                try clear hgo
                                try clear hq0
                                try clear hq
                                go_wp2
                                go_roundw
                                case rel => exact ⟨k + 1, false, by have := k3.out; omega, by go_num, by first | rfl | simp, hD3, (fun h => by cases h), fun _ => hF.out.symm⟩
                                case measure => have := k3.out; simp [intOf]; omega
                            · have ud : (d == 0) = false := by simpa using dz
                              have hF := Lib.hid (show false = r by rw [hgo.out, h53, sg_53, show decide (d = 0) = false by simpa using dz, Bool.false_and, Bool.false_and]; rfl)
                              obtain ⟨w3, hup, hM, hG⟩ := upB hg ia
                              have hD3 := hD.put hM hG (by right; rfl) hrb.out
                              clear hM hG
                              try clear h50
                              try clear h51
                              try clear h52
                              try clear h53
                              try clear h54
                              try clear dz
                              try clear b0
                              try clear hn9
                              try clear hyb
                              try clear hbs
                              try clear hl2
                              try clear hgo
                              try clear hq0
                              try clear hq
                              go_wp2
                              go_roundw
                              case rel => exact ⟨k + 1, false, by have := k3.out; omega, by go_num, by first | rfl | simp, hD3, (fun h => by cases h), fun _ => hF.out.symm⟩
                              case measure => have := k3.out; simp [intOf]; omega
                      by_cases h50 : op = 50
                      · as_aux_lemma =>
                          have hn9 : opsP op = 0 := by rw [h50]; decide
                          have h52 : op ≠ 52 := by omega
                          have h53 : op ≠ 53 := by omega
                          have t52 : (op == 52) = false := by first | simpa using (by omega : op = 52) | simpa using (by omega : op ≠ 52)
                          have t53 : (op == 53) = false := by first | simpa using (by omega : op = 53) | simpa using (by omega : op ≠ 53)
                          have t50 : (op == 50) = true := by first | simpa using (by omega : op = 50) | simpa using (by omega : op ≠ 50)
                          have t51 : (op == 51) = false := by first | simpa using (by omega : op = 51) | simpa using (by omega : op ≠ 51)
                          have t54 : (op == 54) = false := by first | simpa using (by omega : op = 54) | simpa using (by omega : op ≠ 54)
                          have u53 : (op != 53) = true := by simpa using h53
                          rw [hn9] at hn
                          subst hn
                          by_cases b0 : ib = 0
                          · have ub : (ib != 0) = false := by simp [b0]
                            subst b0
                            cases lb with
                            | true =>
                              have hF := Lib.hid (show false = r by rw [hgo.out, sg_bad2 (by rw [h50]; decide)]; rfl)
                              clear hf hrf hg hrg
                              try clear h50
                              try clear h51
                              try clear h52
                              try clear h53
                              try clear h54
                              try clear dz
                              try clear b0
                              try clear hn9
                              try clear hyb
                              try clear hbs
                              try clear hl2
                              try clear hgo
                              try clear hq0
                              try clear hq
                              go_wp2
                              go_ret
                              exact bout_eq hF.out hD.bel
                            | false =>
                              have hq : q = true := by rw [hq0.out, h50]; simp [readsR, ops50]
                              subst hq
                              by_cases a0 : ia ≥ 0
                              · by_cases a1 : ia < (c.ins.length : Int)
                                · by_cases d0 : d ≥ 0
                                  · by_cases d1 : d < c.regs
                                    · have hbd : belowB d c.regs = true := by simp [belowB]; omega
                                      replace hbd := Lib.hid hbd
                                      have hT := Lib.hid (show r = goodL c (putB s.1 d, s.2) (c.list.drop (k + 1)) by rw [hgo.out, h50, sg_50, hbd.out, show belowB ia (c.ins.length : Int) = true by simp [belowB]; omega, nt_w (by omega) (by first | decide | (rw [h50]; decide))]; simp)
                                      obtain ⟨w3, hup, hM, hG⟩ := upB hf d
                                      have hD3 := hD.put hM hG (by left; rfl) hrb.out
                                      have hS3 := DS.putR ⟨g, hg, hrg⟩ hinv hrf hM hG hne.out
                                      clear hM hG
                                      try clear h50
                                      try clear h51
                                      try clear h52
                                      try clear h53
                                      try clear h54
                                      try clear dz
                                      try clear b0
                                      try clear hn9
                                      try clear hyb
                                      try clear hbs
                                      try clear hl2
                                      try clear hgo
                                      try clear hq0
                                      try clear hq
                                      go_wp2
                                      go_roundw
                                      case rel => exact ⟨k + 1, true, by have := k3.out; omega, by go_num, by first | rfl | simp, hD3, fun _ => ⟨_, hS3, hT.out⟩, fun h => by cases h⟩
                                      case measure => have := k3.out; simp [intOf]; omega
                                    · have hF := Lib.hid (show false = r by rw [hgo.out, h50, sg_50, show belowB d c.regs = false by simp [belowB, d1], Bool.false_and]; rfl)
                                      obtain ⟨w3, hup, hM, hG⟩ := upB hf d
                                      have hD3 := hD.put hM hG (by left; rfl) hrb.out
                                      clear hM hG
                                      try clear h50
                                      try clear h51
                                      try clear h52
                                      try clear h53
                                      try clear h54
                                      try clear dz
                                      try clear b0
                                      try clear hn9
                                      try clear hyb
                                      try clear hbs
                                      try clear hl2
                                      try clear hgo
                                      try clear hq0
                                      try clear hq
                                      go_wp2
                                      go_roundw
                                      case rel => exact ⟨k + 1, false, by have := k3.out; omega, by go_num, by first | rfl | simp, hD3, (fun h => by cases h), fun _ => hF.out.symm⟩
                                      case measure => have := k3.out; simp [intOf]; omega
                                  · have hF := Lib.hid (show false = r by rw [hgo.out, h50, sg_50, show belowB d c.regs = false by simp [belowB, d0], Bool.false_and]; rfl)
                                    obtain ⟨w3, hup, hM, hG⟩ := upB hf d
                                    have hD3 := hD.put hM hG (by left; rfl) hrb.out
                                    clear hM hG
                                    try clear h50
                                    try clear h51
                                    try clear h52
                                    try clear h53
                                    try clear h54
                                    try clear dz
                                    try clear b0
                                    try clear hn9
                                    try clear hyb
                                    try clear hbs
                                    try clear hl2
                                    try clear hgo
                                    try clear hq0
                                    try clear hq
                                    go_wp2
                                    go_roundw
                                    case rel => exact ⟨k + 1, false, by have := k3.out; omega, by go_num, by first | rfl | simp, hD3, (fun h => by cases h), fun _ => hF.out.symm⟩
                                    case measure => have := k3.out; simp [intOf]; omega
                                · have hF := Lib.hid (show false = r by rw [hgo.out, h50, sg_50, show belowB ia (c.ins.length : Int) = false by simp [belowB]; omega, Bool.and_false]; rfl)
                                  obtain ⟨w3, hup, hM, hG⟩ := upB hf d
                                  have hD3 := hD.put hM hG (by left; rfl) hrb.out
                                  clear hM hG
                                  try clear h50
                                  try clear h51
                                  try clear h52
                                  try clear h53
                                  try clear h54
                                  try clear dz
                                  try clear b0
                                  try clear hn9
                                  try clear hyb
                                  try clear hbs
                                  try clear hl2
                                  try clear hgo
                                  try clear hq0
                                  try clear hq
                                  go_wp2
                                  go_roundw
                                  case rel => exact ⟨k + 1, false, by have := k3.out; omega, by go_num, by first | rfl | simp, hD3, (fun h => by cases h), fun _ => hF.out.symm⟩
                                  case measure => have := k3.out; simp [intOf]; omega
                              · have hF := Lib.hid (show false = r by rw [hgo.out, h50, sg_50, show belowB ia (c.ins.length : Int) = false by simp [belowB]; omega, Bool.and_false]; rfl)
                                obtain ⟨w3, hup, hM, hG⟩ := upB hf d
                                have hD3 := hD.put hM hG (by left; rfl) hrb.out
                                clear hM hG
                                try clear h50
                                try clear h51
                                try clear h52
                                try clear h53
                                try clear h54
                                try clear dz
                                try clear b0
                                try clear hn9
                                try clear hyb
                                try clear hbs
                                try clear hl2
                                try clear hgo
                                try clear hq0
                                try clear hq
                                go_wp2
                                go_roundw
                                case rel => exact ⟨k + 1, false, by have := k3.out; omega, by go_num, by first | rfl | simp, hD3, (fun h => by cases h), fun _ => hF.out.symm⟩
                                case measure => have := k3.out; simp [intOf]; omega
                          · have ub : (ib != 0) = true := by simpa using b0
                            have hF := Lib.hid (show false = r by rw [hgo.out, sg_bad1 (by rw [hn9]; decide) h53 b0]; rfl)
                            clear b0 hf hrf hg hrg
                            try clear h50
                            try clear h51
                            try clear h52
                            try clear h53
                            try clear h54
                            try clear dz
                            try clear b0
                            try clear hn9
                            try clear hyb
                            try clear hbs
                            try clear hl2
                            try clear hgo
                            try clear hq0
                            try clear hq
                            go_wp2
                            go_ret
                            exact bout_eq hF.out hD.bel
                      by_cases h51 : op = 51
                      · as_aux_lemma =>
                          have hn9 : opsP op = 0 := by rw [h51]; decide
                          have h52 : op ≠ 52 := by omega
                          have h53 : op ≠ 53 := by omega
                          have t52 : (op == 52) = false := by first | simpa using (by omega : op = 52) | simpa using (by omega : op ≠ 52)
                          have t53 : (op == 53) = false := by first | simpa using (by omega : op = 53) | simpa using (by omega : op ≠ 53)
                          have t50 : (op == 50) = false := by first | simpa using (by omega : op = 50) | simpa using (by omega : op ≠ 50)
                          have t51 : (op == 51) = true := by first | simpa using (by omega : op = 51) | simpa using (by omega : op ≠ 51)
                          have t54 : (op == 54) = false := by first | simpa using (by omega : op = 54) | simpa using (by omega : op ≠ 54)
                          have u53 : (op != 53) = true := by simpa using h53
                          rw [hn9] at hn
                          subst hn
                          by_cases b0 : ib = 0
                          · have ub : (ib != 0) = false := by simp [b0]
                            subst b0
                            cases lb with
                            | true =>
                              have hF := Lib.hid (show false = r by rw [hgo.out, sg_bad2 (by rw [h51]; decide)]; rfl)
                              clear hf hrf hg hrg
                              try clear h50
                              try clear h51
                              try clear h52
                              try clear h53
                              try clear h54
                              try clear dz
                              try clear b0
                              try clear hn9
                              try clear hyb
                              try clear hbs
                              try clear hl2
                              try clear hgo
                              try clear hq0
                              try clear hq
                              go_wp2
                              go_ret
                              exact bout_eq hF.out hD.bel
                            | false =>
                              have hq : q = true := by rw [hq0.out, h51]; simp [readsR, ops51]
                              subst hq
                              by_cases a0 : ia ≥ 0
                              · by_cases a1 : ia < (c.cs.length : Int)
                                · by_cases d0 : d ≥ 0
                                  · by_cases d1 : d < c.regs
                                    · have hbd : belowB d c.regs = true := by simp [belowB]; omega
                                      replace hbd := Lib.hid hbd
                                      have hT := Lib.hid (show r = goodL c (putB s.1 d, s.2) (c.list.drop (k + 1)) by rw [hgo.out, h51, sg_51, hbd.out, show belowB ia (c.cs.length : Int) = true by simp [belowB]; omega, nt_w (by omega) (by first | decide | (rw [h51]; decide))]; simp)
                                      obtain ⟨w3, hup, hM, hG⟩ := upB hf d
                                      have hD3 := hD.put hM hG (by left; rfl) hrb.out
                                      have hS3 := DS.putR ⟨g, hg, hrg⟩ hinv hrf hM hG hne.out
                                      clear hM hG
                                      try clear h50
                                      try clear h51
                                      try clear h52
                                      try clear h53
                                      try clear h54
                                      try clear dz
                                      try clear b0
                                      try clear hn9
                                      try clear hyb
                                      try clear hbs
                                      try clear hl2
                                      try clear hgo
                                      try clear hq0
                                      try clear hq
                                      go_wp2
                                      go_roundw
                                      case rel => exact ⟨k + 1, true, by have := k3.out; omega, by go_num, by first | rfl | simp, hD3, fun _ => ⟨_, hS3, hT.out⟩, fun h => by cases h⟩
                                      case measure => have := k3.out; simp [intOf]; omega
                                    · have hF := Lib.hid (show false = r by rw [hgo.out, h51, sg_51, show belowB d c.regs = false by simp [belowB, d1], Bool.false_and]; rfl)
                                      obtain ⟨w3, hup, hM, hG⟩ := upB hf d
                                      have hD3 := hD.put hM hG (by left; rfl) hrb.out
                                      clear hM hG
                                      try clear h50
                                      try clear h51
                                      try clear h52
                                      try clear h53
                                      try clear h54
                                      try clear dz
                                      try clear b0
                                      try clear hn9
                                      try clear hyb
                                      try clear hbs
                                      try clear hl2
                                      try clear hgo
                                      try clear hq0
                                      try clear hq
                                      go_wp2
                                      go_roundw
                                      case rel => exact ⟨k + 1, false, by have := k3.out; omega, by go_num, by first | rfl | simp, hD3, (fun h => by cases h), fun _ => hF.out.symm⟩
                                      case measure => have := k3.out; simp [intOf]; omega
                                  · have hF := Lib.hid (show false = r by rw [hgo.out, h51, sg_51, show belowB d c.regs = false by simp [belowB, d0], Bool.false_and]; rfl)
                                    obtain ⟨w3, hup, hM, hG⟩ := upB hf d
                                    have hD3 := hD.put hM hG (by left; rfl) hrb.out
                                    clear hM hG
                                    try clear h50
                                    try clear h51
                                    try clear h52
                                    try clear h53
                                    try clear h54
                                    try clear dz
                                    try clear b0
                                    try clear hn9
                                    try clear hyb
                                    try clear hbs
                                    try clear hl2
                                    try clear hgo
                                    try clear hq0
                                    try clear hq
                                    go_wp2
                                    go_roundw
                                    case rel => exact ⟨k + 1, false, by have := k3.out; omega, by go_num, by first | rfl | simp, hD3, (fun h => by cases h), fun _ => hF.out.symm⟩
                                    case measure => have := k3.out; simp [intOf]; omega
                                · have hF := Lib.hid (show false = r by rw [hgo.out, h51, sg_51, show belowB ia (c.cs.length : Int) = false by simp [belowB]; omega, Bool.and_false]; rfl)
                                  obtain ⟨w3, hup, hM, hG⟩ := upB hf d
                                  have hD3 := hD.put hM hG (by left; rfl) hrb.out
                                  clear hM hG
                                  try clear h50
                                  try clear h51
                                  try clear h52
                                  try clear h53
                                  try clear h54
                                  try clear dz
                                  try clear b0
                                  try clear hn9
                                  try clear hyb
                                  try clear hbs
                                  try clear hl2
                                  try clear hgo
                                  try clear hq0
                                  try clear hq
                                  go_wp2
                                  go_roundw
                                  case rel => exact ⟨k + 1, false, by have := k3.out; omega, by go_num, by first | rfl | simp, hD3, (fun h => by cases h), fun _ => hF.out.symm⟩
                                  case measure => have := k3.out; simp [intOf]; omega
                              · have hF := Lib.hid (show false = r by rw [hgo.out, h51, sg_51, show belowB ia (c.cs.length : Int) = false by simp [belowB]; omega, Bool.and_false]; rfl)
                                obtain ⟨w3, hup, hM, hG⟩ := upB hf d
                                have hD3 := hD.put hM hG (by left; rfl) hrb.out
                                clear hM hG
                                try clear h50
                                try clear h51
                                try clear h52
                                try clear h53
                                try clear h54
                                try clear dz
                                try clear b0
                                try clear hn9
                                try clear hyb
                                try clear hbs
                                try clear hl2
                                try clear hgo
                                try clear hq0
                                try clear hq
                                go_wp2
                                go_roundw
                                case rel => exact ⟨k + 1, false, by have := k3.out; omega, by go_num, by first | rfl | simp, hD3, (fun h => by cases h), fun _ => hF.out.symm⟩
                                case measure => have := k3.out; simp [intOf]; omega
                          · have ub : (ib != 0) = true := by simpa using b0
                            have hF := Lib.hid (show false = r by rw [hgo.out, sg_bad1 (by rw [hn9]; decide) h53 b0]; rfl)
                            clear b0 hf hrf hg hrg
                            try clear h50
                            try clear h51
                            try clear h52
                            try clear h53
                            try clear h54
                            try clear dz
                            try clear b0
                            try clear hn9
                            try clear hyb
                            try clear hbs
                            try clear hl2
                            try clear hgo
                            try clear hq0
                            try clear hq
                            go_wp2
                            go_ret
                            exact bout_eq hF.out hD.bel
                      by_cases h54 : op = 54
                      · as_aux_lemma =>
                          have hn9 : opsP op = 0 := by rw [h54]; decide
                          have h52 : op ≠ 52 := by omega
                          have h53 : op ≠ 53 := by omega
                          have t52 : (op == 52) = false := by first | simpa using (by omega : op = 52) | simpa using (by omega : op ≠ 52)
                          have t53 : (op == 53) = false := by first | simpa using (by omega : op = 53) | simpa using (by omega : op ≠ 53)
                          have t50 : (op == 50) = false := by first | simpa using (by omega : op = 50) | simpa using (by omega : op ≠ 50)
                          have t51 : (op == 51) = false := by first | simpa using (by omega : op = 51) | simpa using (by omega : op ≠ 51)
                          have t54 : (op == 54) = true := by first | simpa using (by omega : op = 54) | simpa using (by omega : op ≠ 54)
                          have u53 : (op != 53) = true := by simpa using h53
                          rw [hn9] at hn
                          subst hn
                          by_cases b0 : ib = 0
                          · have ub : (ib != 0) = false := by simp [b0]
                            subst b0
                            cases lb with
                            | true =>
                              have hF := Lib.hid (show false = r by rw [hgo.out, sg_bad2 (by rw [h54]; decide)]; rfl)
                              clear hf hrf hg hrg
                              try clear h50
                              try clear h51
                              try clear h52
                              try clear h53
                              try clear h54
                              try clear dz
                              try clear b0
                              try clear hn9
                              try clear hyb
                              try clear hbs
                              try clear hl2
                              try clear hgo
                              try clear hq0
                              try clear hq
                              go_wp2
                              go_ret
                              exact bout_eq hF.out hD.bel
                            | false =>
                              have hq : q = true := by rw [hq0.out, h54]; simp [readsR, ops54]
                              subst hq
                              have hlk := lookB hg hrg ia
                              cases hyb : s.2 ia with
                              | false =>
                                rw [hyb] at hlk
                                have hF := Lib.hid (show false = r by rw [hgo.out, h54, sg_54, hyb, Bool.and_false]; rfl)
                                clear hyb
                                obtain ⟨w3, hup, hM, hG⟩ := upB hf d
                                have hD3 := hD.put hM hG (by left; rfl) hrb.out
                                clear hM hG
                                try clear h50
                                try clear h51
                                try clear h52
                                try clear h53
                                try clear h54
                                try clear dz
                                try clear b0
                                try clear hn9
                                try clear hyb
                                try clear hbs
                                try clear hl2
                                try clear hgo
                                try clear hq0
                                try clear hq
                                go_wp2
                                go_roundw
                                case rel => exact ⟨k + 1, false, by have := k3.out; omega, by go_num, by first | rfl | simp, hD3, (fun h => by cases h), fun _ => hF.out.symm⟩
                                case measure => have := k3.out; simp [intOf]; omega
                              | true =>
                                rw [hyb] at hlk
                                have hin := hinv ia hyb
                                have hbs := Lib.hid (show belowB ia c.slots = true by simp [belowB]; omega)
                                have hyb2 := Lib.hid hyb
                                clear hyb
                                by_cases d0 : d ≥ 0
                                · by_cases d1 : d < c.regs
                                  · have hbd : belowB d c.regs = true := by simp [belowB]; omega
                                    replace hbd := Lib.hid hbd
                                    have hT := Lib.hid (show r = goodL c (putB s.1 d, s.2) (c.list.drop (k + 1)) by rw [hgo.out, h54, sg_54, hbd.out, hbs.out, hyb2.out, nt_w (by omega) (by first | decide | (rw [h54]; decide))]; simp)
                                    obtain ⟨w3, hup, hM, hG⟩ := upB hf d
                                    have hD3 := hD.put hM hG (by left; rfl) hrb.out
                                    have hS3 := DS.putR ⟨g, hg, hrg⟩ hinv hrf hM hG hne.out
                                    clear hM hG
                                    try clear h50
                                    try clear h51
                                    try clear h52
                                    try clear h53
                                    try clear h54
                                    try clear dz
                                    try clear b0
                                    try clear hn9
                                    try clear hyb
                                    try clear hbs
                                    try clear hl2
                                    try clear hgo
                                    try clear hq0
                                    try clear hq
                                    go_wp2
                                    go_roundw
                                    case rel => exact ⟨k + 1, true, by have := k3.out; omega, by go_num, by first | rfl | simp, hD3, fun _ => ⟨_, hS3, hT.out⟩, fun h => by cases h⟩
                                    case measure => have := k3.out; simp [intOf]; omega
                                  · have hF := Lib.hid (show false = r by rw [hgo.out, h54, sg_54, show belowB d c.regs = false by simp [belowB, d1], Bool.false_and, Bool.false_and]; rfl)
                                    obtain ⟨w3, hup, hM, hG⟩ := upB hf d
                                    have hD3 := hD.put hM hG (by left; rfl) hrb.out
                                    clear hM hG
                                    try clear h50
                                    try clear h51
                                    try clear h52
                                    try clear h53
                                    try clear h54
                                    try clear dz
                                    try clear b0
                                    try clear hn9
                                    try clear hyb
                                    try clear hbs
                                    try clear hl2
                                    try clear hgo
                                    try clear hq0
                                    try clear hq
                                    go_wp2
                                    go_roundw
                                    case rel => exact ⟨k + 1, false, by have := k3.out; omega, by go_num, by first | rfl | simp, hD3, (fun h => by cases h), fun _ => hF.out.symm⟩
                                    case measure => have := k3.out; simp [intOf]; omega
                                · have hF := Lib.hid (show false = r by rw [hgo.out, h54, sg_54, show belowB d c.regs = false by simp [belowB, d0], Bool.false_and, Bool.false_and]; rfl)
                                  obtain ⟨w3, hup, hM, hG⟩ := upB hf d
                                  have hD3 := hD.put hM hG (by left; rfl) hrb.out
                                  clear hM hG
                                  try clear h50
                                  try clear h51
                                  try clear h52
                                  try clear h53
                                  try clear h54
                                  try clear dz
                                  try clear b0
                                  try clear hn9
                                  try clear hyb
                                  try clear hbs
                                  try clear hl2
                                  try clear hgo
                                  try clear hq0
                                  try clear hq
                                  go_wp2
                                  go_roundw
                                  case rel => exact ⟨k + 1, false, by have := k3.out; omega, by go_num, by first | rfl | simp, hD3, (fun h => by cases h), fun _ => hF.out.symm⟩
                                  case measure => have := k3.out; simp [intOf]; omega
                          · have ub : (ib != 0) = true := by simpa using b0
                            have hF := Lib.hid (show false = r by rw [hgo.out, sg_bad1 (by rw [hn9]; decide) h53 b0]; rfl)
                            clear b0 hf hrf hg hrg
                            try clear h50
                            try clear h51
                            try clear h52
                            try clear h53
                            try clear h54
                            try clear dz
                            try clear b0
                            try clear hn9
                            try clear hyb
                            try clear hbs
                            try clear hl2
                            try clear hgo
                            try clear hq0
                            try clear hq
                            go_wp2
                            go_ret
                            exact bout_eq hF.out hD.bel
                      have t52 : (op == 52) = false := by simpa using h52
                      have t53 : (op == 53) = false := by simpa using h53
                      have t50 : (op == 50) = false := by simpa using h50
                      have t51 : (op == 51) = false := by simpa using h51
                      have t54 : (op == 54) = false := by simpa using h54
                      have u53 : (op != 53) = true := by simpa using h53
                      have hle := ops_le op
                      have hc9 : opsP op = 1 ∨ opsP op = 2 ∨ opsP op = 0 := by omega
                      rcases hc9 with hn9 | hn9 | hn9
                      · as_aux_lemma =>
                          rw [hn9] at hn
                          subst hn
                          by_cases b0 : ib = 0
                          · have ub : (ib != 0) = false := by simp [b0]
                            subst b0
                            cases lb with
                            | true =>
                              have hF := Lib.hid (show false = r by rw [hgo.out, sg_bad2 (by simp [h52])]; rfl)
                              clear hf hrf hg hrg
                              try clear h50
                              try clear h51
                              try clear h52
                              try clear h53
                              try clear h54
                              try clear dz
                              try clear b0
                              try clear hn9
                              try clear hyb
                              try clear hbs
                              try clear hl2
                              try clear hgo
                              try clear hq0
                              try clear hq
                              go_wp2
                              go_ret
                              exact bout_eq hF.out hD.bel
                            | false =>
                              cases q with
                              | false =>
                                have hF := Lib.hid (show false = r by rw [hgo.out, sg_op (by omega) (fun _ => by omega) h50 h51 h52 h53 h54, ← hq0.out, Bool.and_false]; rfl)
                                obtain ⟨w3, hup, hM, hG⟩ := upB hf d
                                have hD3 := hD.put hM hG (by left; rfl) hrb.out
                                clear hM hG
                                try clear h50
                                try clear h51
                                try clear h52
                                try clear h53
                                try clear h54
                                try clear dz
                                try clear b0
                                try clear hn9
                                try clear hyb
                                try clear hbs
                                try clear hl2
                                try clear hgo
                                try clear hq0
                                try clear hq
                                go_wp2
                                go_roundw
                                case rel => exact ⟨k + 1, false, by have := k3.out; omega, by go_num, by first | rfl | simp, hD3, (fun h => by cases h), fun _ => hF.out.symm⟩
                                case measure => have := k3.out; simp [intOf]; omega
                              | true =>
                                by_cases d0 : d ≥ 0
                                · by_cases d1 : d < c.regs
                                  · have hbd : belowB d c.regs = true := by simp [belowB]; omega
                                    replace hbd := Lib.hid hbd
                                    have hT := Lib.hid (show r = goodL c (putB s.1 d, s.2) (c.list.drop (k + 1)) by rw [hgo.out, sg_op (by omega) (fun _ => by omega) h50 h51 h52 h53 h54, hbd.out, ← hq0.out, nt_w h53 (by simp [writesB, hn9])]; simp)
                                    obtain ⟨w3, hup, hM, hG⟩ := upB hf d
                                    have hD3 := hD.put hM hG (by left; rfl) hrb.out
                                    have hS3 := DS.putR ⟨g, hg, hrg⟩ hinv hrf hM hG hne.out
                                    clear hM hG
                                    try clear h50
                                    try clear h51
                                    try clear h52
                                    try clear h53
                                    try clear h54
                                    try clear dz
                                    try clear b0
                                    try clear hn9
                                    try clear hyb
                                    try clear hbs
                                    try clear hl2
                                    try clear hgo
                                    try clear hq0
                                    try clear hq
                                    go_wp2
                                    go_roundw
                                    case rel => exact ⟨k + 1, true, by have := k3.out; omega, by go_num, by first | rfl | simp, hD3, fun _ => ⟨_, hS3, hT.out⟩, fun h => by cases h⟩
                                    case measure => have := k3.out; simp [intOf]; omega
                                  · have hF := Lib.hid (show false = r by rw [hgo.out, sg_op (by omega) (fun _ => by omega) h50 h51 h52 h53 h54, show belowB d c.regs = false by simp [belowB, d1], Bool.false_and]; rfl)
                                    obtain ⟨w3, hup, hM, hG⟩ := upB hf d
                                    have hD3 := hD.put hM hG (by left; rfl) hrb.out
                                    clear hM hG
                                    try clear h50
                                    try clear h51
                                    try clear h52
                                    try clear h53
                                    try clear h54
                                    try clear dz
                                    try clear b0
                                    try clear hn9
                                    try clear hyb
                                    try clear hbs
                                    try clear hl2
                                    try clear hgo
                                    try clear hq0
                                    try clear hq
                                    go_wp2
                                    go_roundw
                                    case rel => exact ⟨k + 1, false, by have := k3.out; omega, by go_num, by first | rfl | simp, hD3, (fun h => by cases h), fun _ => hF.out.symm⟩
                                    case measure => have := k3.out; simp [intOf]; omega
                                · have hF := Lib.hid (show false = r by rw [hgo.out, sg_op (by omega) (fun _ => by omega) h50 h51 h52 h53 h54, show belowB d c.regs = false by simp [belowB, d0], Bool.false_and]; rfl)
                                  obtain ⟨w3, hup, hM, hG⟩ := upB hf d
                                  have hD3 := hD.put hM hG (by left; rfl) hrb.out
                                  clear hM hG
                                  try clear h50
                                  try clear h51
                                  try clear h52
                                  try clear h53
                                  try clear h54
                                  try clear dz
                                  try clear b0
                                  try clear hn9
                                  try clear hyb
                                  try clear hbs
                                  try clear hl2
                                  try clear hgo
                                  try clear hq0
                                  try clear hq
                                  go_wp2
                                  go_roundw
                                  case rel => exact ⟨k + 1, false, by have := k3.out; omega, by go_num, by first | rfl | simp, hD3, (fun h => by cases h), fun _ => hF.out.symm⟩
                                  case measure => have := k3.out; simp [intOf]; omega
                          · have ub : (ib != 0) = true := by simpa using b0
                            have hF := Lib.hid (show false = r by rw [hgo.out, sg_bad1 (by rw [hn9]; decide) h53 b0]; rfl)
                            clear b0 hf hrf hg hrg
                            try clear h50
                            try clear h51
                            try clear h52
                            try clear h53
                            try clear h54
                            try clear dz
                            try clear b0
                            try clear hn9
                            try clear hyb
                            try clear hbs
                            try clear hl2
                            try clear hgo
                            try clear hq0
                            try clear hq
                            go_wp2
                            go_ret
                            exact bout_eq hF.out hD.bel
                      · as_aux_lemma =>
                          rw [hn9] at hn
                          subst hn
                          cases lb with
                          | true =>
                            have hF := Lib.hid (show false = r by rw [hgo.out, sg_bad2 (by simp [h52])]; rfl)
                            clear hf hrf hg hrg
                            try clear h50
                            try clear h51
                            try clear h52
                            try clear h53
                            try clear h54
                            try clear dz
                            try clear b0
                            try clear hn9
                            try clear hyb
                            try clear hbs
                            try clear hl2
                            try clear hgo
                            try clear hq0
                            try clear hq
                            go_wp2
                            go_ret
                            exact bout_eq hF.out hD.bel
                          | false =>
                            cases q with
                            | false =>
                              have hF := Lib.hid (show false = r by rw [hgo.out, sg_op (by omega) (fun h => by omega) h50 h51 h52 h53 h54, ← hq0.out, Bool.and_false]; rfl)
                              obtain ⟨w3, hup, hM, hG⟩ := upB hf d
                              have hD3 := hD.put hM hG (by left; rfl) hrb.out
                              clear hM hG
                              try clear h50
                              try clear h51
                              try clear h52
                              try clear h53
                              try clear h54
                              try clear dz
                              try clear b0
                              try clear hn9
                              try clear hyb
                              try clear hbs
                              try clear hl2
                              try clear hgo
                              try clear hq0
                              try clear hq
                              go_wp2
                              go_roundw
                              case rel => exact ⟨k + 1, false, by have := k3.out; omega, by go_num, by first | rfl | simp, hD3, (fun h => by cases h), fun _ => hF.out.symm⟩
                              case measure => have := k3.out; simp [intOf]; omega
                            | true =>
                              by_cases d0 : d ≥ 0
                              · by_cases d1 : d < c.regs
                                · have hbd : belowB d c.regs = true := by simp [belowB]; omega
                                  replace hbd := Lib.hid hbd
                                  have hT := Lib.hid (show r = goodL c (putB s.1 d, s.2) (c.list.drop (k + 1)) by rw [hgo.out, sg_op (by omega) (fun h => by omega) h50 h51 h52 h53 h54, hbd.out, ← hq0.out, nt_w h53 (by simp [writesB, hn9])]; simp)
                                  obtain ⟨w3, hup, hM, hG⟩ := upB hf d
                                  have hD3 := hD.put hM hG (by left; rfl) hrb.out
                                  have hS3 := DS.putR ⟨g, hg, hrg⟩ hinv hrf hM hG hne.out
                                  clear hM hG
                                  try clear h50
                                  try clear h51
                                  try clear h52
                                  try clear h53
                                  try clear h54
                                  try clear dz
                                  try clear b0
                                  try clear hn9
                                  try clear hyb
                                  try clear hbs
                                  try clear hl2
                                  try clear hgo
                                  try clear hq0
                                  try clear hq
                                  go_wp2
                                  go_roundw
                                  case rel => exact ⟨k + 1, true, by have := k3.out; omega, by go_num, by first | rfl | simp, hD3, fun _ => ⟨_, hS3, hT.out⟩, fun h => by cases h⟩
                                  case measure => have := k3.out; simp [intOf]; omega
                                · have hF := Lib.hid (show false = r by rw [hgo.out, sg_op (by omega) (fun h => by omega) h50 h51 h52 h53 h54, show belowB d c.regs = false by simp [belowB, d1], Bool.false_and]; rfl)
                                  obtain ⟨w3, hup, hM, hG⟩ := upB hf d
                                  have hD3 := hD.put hM hG (by left; rfl) hrb.out
                                  clear hM hG
                                  try clear h50
                                  try clear h51
                                  try clear h52
                                  try clear h53
                                  try clear h54
                                  try clear dz
                                  try clear b0
                                  try clear hn9
                                  try clear hyb
                                  try clear hbs
                                  try clear hl2
                                  try clear hgo
                                  try clear hq0
                                  try clear hq
                                  go_wp2
                                  go_roundw
                                  case rel => exact ⟨k + 1, false, by have := k3.out; omega, by go_num, by first | rfl | simp, hD3, (fun h => by cases h), fun _ => hF.out.symm⟩
                                  case measure => have := k3.out; simp [intOf]; omega
                              · have hF := Lib.hid (show false = r by rw [hgo.out, sg_op (by omega) (fun h => by omega) h50 h51 h52 h53 h54, show belowB d c.regs = false by simp [belowB, d0], Bool.false_and]; rfl)
                                obtain ⟨w3, hup, hM, hG⟩ := upB hf d
                                have hD3 := hD.put hM hG (by left; rfl) hrb.out
                                clear hM hG
                                try clear h50
                                try clear h51
                                try clear h52
                                try clear h53
                                try clear h54
                                try clear dz
                                try clear b0
                                try clear hn9
                                try clear hyb
                                try clear hbs
                                try clear hl2
                                try clear hgo
                                try clear hq0
                                try clear hq
                                go_wp2
                                go_roundw
                                case rel => exact ⟨k + 1, false, by have := k3.out; omega, by go_num, by first | rfl | simp, hD3, (fun h => by cases h), fun _ => hF.out.symm⟩
                                case measure => have := k3.out; simp [intOf]; omega
                      · as_aux_lemma =>
                          rw [hn9] at hn
                          subst hn
                          by_cases b0 : ib = 0
                          · have ub : (ib != 0) = false := by simp [b0]
                            subst b0
                            cases lb with
                            | true =>
                              have hF := Lib.hid (show false = r by rw [hgo.out, sg_bad2 (by simp [h52])]; rfl)
                              clear hf hrf hg hrg
                              try clear h50
                              try clear h51
                              try clear h52
                              try clear h53
                              try clear h54
                              try clear dz
                              try clear b0
                              try clear hn9
                              try clear hyb
                              try clear hbs
                              try clear hl2
                              try clear hgo
                              try clear hq0
                              try clear hq
                              go_wp2
                              go_ret
                              exact bout_eq hF.out hD.bel
                            | false =>
                              have hq : q = true := by rw [hq0.out]; simp [readsR, h52, hn9]
                              subst hq
                              have hF := Lib.hid (show false = r by rw [hgo.out, sg_none hn9 h50 h51 h52 h53 h54]; rfl)
                              obtain ⟨w3, hup, hM, hG⟩ := upB hf d
                              have hD3 := hD.put hM hG (by left; rfl) hrb.out
                              clear hM hG
                              try clear h50
                              try clear h51
                              try clear h52
                              try clear h53
                              try clear h54
                              try clear dz
                              try clear b0
                              try clear hn9
                              try clear hyb
                              try clear hbs
                              try clear hl2
                              try clear hgo
                              try clear hq0
                              try clear hq
                              go_wp2
                              go_roundw
                              case rel => exact ⟨k + 1, false, by have := k3.out; omega, by go_num, by first | rfl | simp, hD3, (fun h => by cases h), fun _ => hF.out.symm⟩
                              case measure => have := k3.out; simp [intOf]; omega
                          · have ub : (ib != 0) = true := by simpa using b0
                            have hF := Lib.hid (show false = r by rw [hgo.out, sg_bad1 (by rw [hn9]; decide) h53 b0]; rfl)
                            clear b0 hf hrf hg hrg
                            try clear h50
                            try clear h51
                            try clear h52
                            try clear h53
                            try clear h54
                            try clear dz
                            try clear b0
                            try clear hn9
                            try clear hyb
                            try clear hbs
                            try clear hl2
                            try clear hgo
                            try clear hq0
                            try clear hq
                            go_wp2
                            go_ret
                            exact bout_eq hF.out hD.bel
                · obtain rfl : k = c.list.length := by omega
                  rw [List.drop_length] at hgo
                  have hF := Lib.hid (show true = r by rw [hgo]; rfl)
                  clear hS hgo
                  go_wp2
                  go_ret
                  exact bout_eq hF.out hD.bel
end Go.Proofs.Ytagjfeblkpkgaaa
