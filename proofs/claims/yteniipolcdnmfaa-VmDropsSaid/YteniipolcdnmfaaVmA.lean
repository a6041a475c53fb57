/- Code and registers as they lie in memory. -/
import Derived.Test.YteniipolcdnmfaaVmP
import Derived.Test.YteniipolcdnmfaaMem
import Derived.Test.YteniipolcdnmfaaOpen
import Derived.Test.YteniipolcdnmfaaInvG
import Derived.Deep.CutRange
import Derived.Deep.DeepCutAuto
namespace Go.Proofs.Yteniipolcdnmfaa
open Go.ChangeShapes Go.WideShapes Go.ChangeAt Go.RowKit Go.Fl
set_option linter.unusedVariables false
set_option linter.unusedSimpArgs false

/-- rows of four ints each (instructions, inputs) -/
def QuadAt (w : World) (A : Option Addr) (l : List I4) : Prop :=
  0 < l.length → ∃ b off, A = some ⟨b, off, none⟩ ∧ ∀ (i : Nat) (x : I4), l[i]? = some x →
    w.cell? ⟨b, off + i * 4, none⟩ = some (.int .i64 x.1) ∧ w.cell? ⟨b, off + i * 4 + 1, none⟩ = some (.int .i64 x.2.1) ∧ w.cell? ⟨b, off + i * 4 + 2, none⟩ = some (.int .i64 x.2.2.1) ∧ w.cell? ⟨b, off + i * 4 + 3, none⟩ = some (.int .i64 x.2.2.2)
theorem QuadAt.later {w w1 : World} {A : Option Addr} {l : List I4} (h : QuadAt w A l) (hb : Below w.heap.size w w1) : QuadAt w1 A l := by
  intro hn
  obtain ⟨b, off, hA, hc⟩ := h hn
  exact ⟨b, off, hA, fun i x hi => ⟨cell_later hb (hc i x hi).1, cell_later hb (hc i x hi).2.1, cell_later hb (hc i x hi).2.2.1, cell_later hb (hc i x hi).2.2.2⟩⟩
theorem QuadAt.keep {w w1 : World} {A : Option Addr} {l : List I4} {B : Nat} (h : QuadAt w A l) (hb : ∀ p : Addr, ∀ v, w.cell? p = some v → w1.cell? p = some v) : QuadAt w1 A l := by
  intro hn
  obtain ⟨b, off, hA, hc⟩ := h hn
  exact ⟨b, off, hA, fun i x hi => ⟨hb _ _ (hc i x hi).1, hb _ _ (hc i x hi).2.1, hb _ _ (hc i x hi).2.2.1, hb _ _ (hc i x hi).2.2.2⟩⟩
theorem QuadAt.nil (w : World) (A : Option Addr) : QuadAt w A [] := fun h => absurd h (by simp)
/-- an instruction that lies at the head of a block of its own -/
def InsAt (w : World) (g : Nat) (x : I4) : Prop :=
  w.cell? ⟨g, 0, none⟩ = some (.int .i64 x.1) ∧ w.cell? ⟨g, 1, none⟩ = some (.int .i64 x.2.1) ∧ w.cell? ⟨g, 2, none⟩ = some (.int .i64 x.2.2.1) ∧ w.cell? ⟨g, 3, none⟩ = some (.int .i64 x.2.2.2)
theorem InsAt.later {w w1 : World} {g : Nat} {x : I4} (h : InsAt w g x) (hb : Below w.heap.size w w1) : InsAt w1 g x :=
  ⟨cell_later hb h.1, cell_later hb h.2.1, cell_later hb h.2.2.1, cell_later hb h.2.2.2⟩
def insV (x : I4) : Value := .agg #[.int .i64 x.1, .int .i64 x.2.1, .int .i64 x.2.2.1, .int .i64 x.2.2.2]

/-- block g holds these values, and nothing else -/
def Rg (w : World) (g : Nat) (vs : List VN) : Prop := ∃ cs : Array Value, Blk w g 34 cs ∧ cs.size = vs.length * 2 ∧ ∀ (i : Nat) (v : VN), vs[i]? = some v → cs[i * 2]? = some (.int .i64 v.1) ∧ cs[i * 2 + 1]? = some (.int .u64 (v.2 : Int))
section
variable {w w' : World} {g : Nat} {vs : List VN}
theorem Rg.lt (h : Rg w g vs) : g < w.heap.size := by
  obtain ⟨cs, hB, _⟩ := h
  exact hB.lt
theorem Rg.kept (h : Rg w g vs) (hb : Below w.heap.size w w') : Rg w' g vs := by
  obtain ⟨cs, hB, hs, hc⟩ := h
  exact ⟨cs, hB.kept hb, hs, hc⟩
theorem Rg.grown {row : Option Nat} (h : Rg w g vs) (hg : w.grownBy w' row) (hne : some g ≠ row) : Rg w' g vs := by
  obtain ⟨cs, hB, hs, hc⟩ := h
  exact ⟨cs, hB.grown hg hne, hs, hc⟩
theorem Rg.row (h : Rg w g vs) (hb : ∀ v ∈ vs, v.2 < 18446744073709551616) : RowV w (some ⟨g, 0, none⟩) vs.length vs := by
  obtain ⟨cs, hB, hs, hc⟩ := h
  refine ⟨rfl, hb, fun _ => ⟨g, 0, rfl, fun i k c hi => ?_⟩⟩
  have := hc i (k, c) hi
  rw [Nat.zero_add]
  exact ⟨by rw [hB.cell]; exact this.1, by rw [hB.cell]; exact this.2⟩
theorem Rg.cells {i : Nat} {v : VN} (h : Rg w g vs) (hi : vs[i]? = some v) :
    w.cell? ⟨g, i * 2, none⟩ = some (.int .i64 v.1) ∧ w.cell? ⟨g, i * 2 + 1, none⟩ = some (.int .u64 (v.2 : Int)) ∧ w.frozen? ⟨g, i * 2, none⟩ = false ∧ w.frozen? ⟨g, i * 2 + 1, none⟩ = false := by
  obtain ⟨cs, hB, hs, hc⟩ := h
  have := hc i v hi
  exact ⟨by rw [hB.cell]; exact this.1, by rw [hB.cell]; exact this.2, hB.free _, hB.free _⟩
theorem Rg.set (h : Rg w g vs) (k : Nat) (v : VN) :
    Rg ((w.setCell ⟨g, k * 2, none⟩ (.int .i64 v.1)).setCell ⟨g, k * 2 + 1, none⟩ (.int .u64 (v.2 : Int))) g (vs.set k v) := by
  obtain ⟨cs, hB, hs, hc⟩ := h
  refine ⟨_, (hB.put_ _ _).put_ _ _, by simp [hs], fun i u hu => ?_⟩
  by_cases e : k = i
  · subst e
    have hl : k < vs.length := by have := (List.getElem?_eq_some_iff.1 hu).1; simpa using this
    rw [List.getElem?_set_self hl] at hu
    injection hu with hu
    subst hu
    constructor
    · rw [Array.getElem?_setIfInBounds_ne (by omega), Array.getElem?_setIfInBounds_self_of_lt (by omega)]
    · rw [Array.getElem?_setIfInBounds_self_of_lt (by simp; omega)]
  · rw [List.getElem?_set_ne e] at hu
    have := hc i u hu
    constructor
    · rw [Array.getElem?_setIfInBounds_ne (by omega), Array.getElem?_setIfInBounds_ne (by omega)]; exact this.1
    · rw [Array.getElem?_setIfInBounds_ne (by omega), Array.getElem?_setIfInBounds_ne (by omega)]; exact this.2
end
theorem blank_at (n i : Nat) (h : i < n * 2) : (madeCells (#[.int .i64 0, .int .u64 0] : Array Value) (n * 2))[i]? = some (if i % 2 = 0 then .int .i64 0 else .int .u64 0) := by
  unfold madeCells
  rw [Array.getElem?_map, Array.getElem?_eq_getElem (by simpa using h), Array.getElem_range]
  have : i % 2 < 2 := Nat.mod_lt _ (by omega)
  rcases (show i % 2 = 0 ∨ i % 2 = 1 by omega) with e | e <;> simp [e]
theorem Rg.blanks (w : World) (n : Nat) : Rg (w.alloc (.cells (madeCells #[.int .i64 0, .int .u64 0] (n * 2)) 34)) w.heap.size (blank n) := by
  refine ⟨_, Blk.made w _ _, by rw [size_madeCells]; simp [blank], fun i v hi => ?_⟩
  have hl := (List.getElem?_eq_some_iff.1 hi).1
  have hl : i < n := by simpa [blank] using hl
  have hv : v = (0, 0) := (List.mem_replicate.1 (List.mem_of_getElem? hi)).2
  subst hv
  rw [blank_at _ _ (by omega), blank_at _ _ (by omega)]
  rw [if_pos (by omega), if_neg (by omega)]
  exact ⟨rfl, rfl⟩
theorem make_regs (w : World) (n : Nat) (hn : n ≤ 1024) : (Instr.makeSlice 23 (.int .i64 (n : Int)) (.int .i64 (n : Int))).run Try.prog w = .ok (.slice (some ⟨w.heap.size, 0, none⟩) n n) (w.alloc (.cells (madeCells #[.int .i64 0, .int .u64 0] (n * 2)) 34)) := by
  obtain ⟨i0, hi, hz0, hz1, hz2⟩ := info_parts infoV
  have := run_make (P := Try.prog) w 23 34 i0 _ Try.underlying23 hi hz0 .i64 .i64 (n : Int) (n : Int) (by omega) (by omega) (by rw [hz2]; omega) (by omega)
  rw [hz1, Int.toNat_natCast] at this
  rw [this]
  rfl
end Go.Proofs.Yteniipolcdnmfaa
