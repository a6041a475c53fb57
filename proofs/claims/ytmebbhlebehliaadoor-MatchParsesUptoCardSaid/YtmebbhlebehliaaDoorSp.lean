/- The pieces of a text between one byte (strings.SplitSeq), as an iterator's contract. -/
import Derived.Test.YtmebbhlebehliaaDoorRg
import Derived.Test.YtmebbhlebehliaaDoorShelf
import Derived.LoopNIn
import Derived.LoopIn
import Derived.Shelf.Abstract
import Derived.Shelf.RegionOpen
namespace Go.Proofs.YtmebbhlebehliaaDoor
open Go.RowKit Go.Shelf
set_option linter.unusedVariables false
set_option linter.unusedSimpArgs false
attribute [local go_sem] Oper.semAt_some

def splitN : Nat → UInt8 → ByteArray → List ByteArray
  | 0, _, s => [s]
  | n + 1, c, s => if Lib.indexByte s.data.toList c < 0 then [s] else s.extract 0 (Lib.indexByte s.data.toList c).toNat :: splitN n c (s.extract ((Lib.indexByte s.data.toList c).toNat + 1) s.size)
def splitOf (c : UInt8) (s : ByteArray) : List ByteArray := splitN s.size c s
/-- the iterator's own cells lie as they lay -/
def KpS (B1 B2 B3 : Nat) (W W' : World) : Prop := W'.heap[B1]? = W.heap[B1]? ∧ W'.heap[B2]? = W.heap[B2]? ∧ W'.heap[B3]? = W.heap[B3]?
theorem KpS.trans {B1 B2 B3 : Nat} {A B C : World} (h : KpS B1 B2 B3 A B) (k : KpS B1 B2 B3 B C) : KpS B1 B2 B3 A C := ⟨k.1.trans h.1, k.2.1.trans h.2.1, k.2.2.trans h.2.2⟩
/-- the iterator writes its own cell -/
def StpS (B1 : Nat) (A B : World) : Prop := ∃ v, B = A.setCell ⟨B1, 0, none⟩ v
def cellSize (B1 : Nat) (w : World) : Nat := match w.cell? ⟨B1, 0, none⟩ with
  | some (.string r) => r.size
  | _ => 0
theorem cellSize_of {B1 : Nat} {w : World} {r : ByteArray} (h : w.cell? ⟨B1, 0, none⟩ = some (.string r)) : cellSize B1 w = r.size := by unfold cellSize; rw [h]
theorem idx_lt {s : ByteArray} {c : UInt8} {k : Nat} (h : Lib.indexByte s.data.toList c = (k : Int)) : k < s.size := by
  have := (Lib.indexByte_some h).1
  have := (List.getElem?_eq_some_iff.1 this).1
  simpa using this

set_option maxHeartbeats 4000000 in
set_option maxRecDepth 100000 in
theorem split1_in {n : Nat} (hn : 1 ≤ n) (l B1 B2 B3 : Nat) (h12 : B1 ≠ B2) (h13 : B1 ≠ B3) (c : UInt8) (s : ByteArray) (hs : s.size ≤ 281474976710656) (J : List ByteArray → World → Prop) (hJS : ∀ s A B, J s A → StpS B1 A B → J s B)
    (hY : ∀ pre x W, J pre W → pre ++ [x] <+: splitOf c s → YieldAt Fence.wide (n - 1) Tryd.prog l #[.string x] W fun e W' => e = .returned (.bool true) ∧ J (pre ++ [x]) W' ∧ KpS B1 B2 B3 W W')
    (W : World) (b1 : Boxed W B1 9 (.string s)) (b2 : Boxed W B2 9 (.string ⟨#[c]⟩)) (b3 : Boxed W B3 3 (.int .i64 0)) (h0 : J [] W) :
    CallsIn Fence.wide n Tryd.prog 34 #[.func (.yield l) #[] #[], .pointer (some ⟨B2, 0, none⟩), .pointer (some ⟨B1, 0, none⟩), .pointer (some ⟨B3, 0, none⟩)] W fun e W' => (∃ v, e = .returned v) ∧ J (splitOf c s) W' := by
  have hsz : (⟨#[c]⟩ : ByteArray).size = 1 := rfl
  refine callsIn_of_wp Tryd.func34 rfl trivial ?_ rfl
  simp only [Tryd.ntmps34, List.size_toArray, List.length_cons, List.length_nil, Nat.reduceAdd, Nat.reduceSub, Array.replicate_succ, Array.replicate_zero, List.push_toArray, List.append_toArray, List.nil_append, List.cons_append]
  have c2 := b2.cell
  gi_wp2
  gi_loopw [7] (fun _ wr => ∃ (r : ByteArray) (pre : List ByteArray) (m : Nat), Boxed wr B1 9 (.string r) ∧ r.size ≤ m ∧ r.size ≤ s.size ∧ pre ++ splitN m c r = splitOf c s ∧ J pre wr ∧ Boxed wr B2 9 (.string ⟨#[c]⟩) ∧ Boxed wr B3 3 (.int .i64 0))
    (fun _ wr => cellSize B1 wr)
  case atStart => exact ⟨s, [], s.size, b1, Nat.le_refl _, Nat.le_refl _, rfl, h0, b2, b3⟩
  case round =>
    obtain ⟨r, pre, m, d1, hrm, hrs, hpre, hJ, d2, d3⟩ := hrel
    have e1 := d1.cell
    have e2 := d2.cell
    have e3 := d3.cell
    have f1 := d1.frozen
    clear b1 b2 b3 h0 c2
    by_cases hi : Lib.indexByte r.data.toList c < 0
    · have hx : splitN m c r = [r] := by
        cases m with
        | zero => rfl
        | succ m => simp only [splitN]; rw [if_pos hi]
      rw [hx] at hpre
      obtain ⟨fn, tmps, assign, body, hy, hR⟩ := hY pre r wr hJ ⟨[], by rw [List.append_nil]; exact hpre⟩
      have hC := Tryd.strings_Index_one r c wr
      generalize Lib.indexByte r.data.toList c = i at *
      replace hpre := Lib.hid hpre
      gi_wp2_with (refine ⟨trivial, ?_⟩; gi_at_call 35; refine (callsIn_wide.2 hC).mono ?_; rintro e w1 ⟨rfl, rfl⟩)
      refine hR.mono ?_
      rintro e W3 ⟨rfl, hJ3, hk3⟩
      gi_wp2
      go_end0
      exact ⟨⟨_, rfl⟩, hpre.out ▸ hJ3⟩
    · obtain ⟨k, hk⟩ : ∃ k : Nat, Lib.indexByte r.data.toList c = (k : Int) := ⟨(Lib.indexByte r.data.toList c).toNat, by omega⟩
      have hkr := idx_lt hk
      obtain ⟨m', rfl⟩ : ∃ m', m = m' + 1 := ⟨m - 1, by omega⟩
      simp only [splitN] at hpre
      rw [if_neg hi, hk] at hpre
      simp only [Int.toNat_natCast] at hpre
      obtain ⟨fn, tmps, assign, body, hy, hR⟩ := hY pre (r.extract 0 k) wr hJ ⟨_, by rw [List.append_assoc]; exact hpre⟩
      have hC := Tryd.strings_Index_one r c wr
      rw [hk] at hC
      have k0 : (0 : Int) ≤ (k : Int) := by omega
      have k1 : (k : Int) ≤ (r.size : Int) := by omega
      have k2 : IntKind.i64.wrap ((k : Int) + 0) = (k : Int) := by rw [IntKind.wrap_i64]; omega
      have k3 : IntKind.i64.wrap ((k : Int) + 1) = (k : Int) + 1 := by rw [IntKind.wrap_i64]; omega
      have k4 : (k : Int) + 1 ≤ (r.size : Int) := by omega
      have k5 : (0 : Int) ≤ (k : Int) + 1 := by omega
      have k6 : ¬ (k : Int) < 0 := by omega
      replace hpre := Lib.hid hpre
      clear hi hk
      gi_wp2_with (refine ⟨trivial, ?_⟩; gi_at_call 35; refine (callsIn_wide.2 hC).mono ?_; rintro e w1 ⟨rfl, rfl⟩)
      refine hR.mono ?_
      rintro e W3 ⟨rfl, hJ3, hk3⟩
      have g1 : Boxed W3 B1 9 (.string r) := hk3.1.trans d1
      have g2 : Boxed W3 B2 9 (.string ⟨#[c]⟩) := hk3.2.1.trans d2
      have g3 : Boxed W3 B3 3 (.int .i64 0) := hk3.2.2.trans d3
      have i1 := g1.cell
      have i2 := g2.cell
      have i3 := g3.cell
      have j1 := g1.frozen
      clear hC hR hy e1 e2 e3 f1
      gi_wp2
      have z : (r.extract (k + 1) r.size).size = r.size - (k + 1) := by simp
      go_roundw
      case rel => exact ⟨r.extract (k + 1) r.size, pre ++ [r.extract 0 k], m', g1.set _, by omega, by omega, by rw [List.append_assoc]; exact hpre.out, hJS _ _ _ hJ3 ⟨_, rfl⟩, g2.other (fun e => h12 e.symm) _, g3.other (fun e => h13 e.symm) _⟩
      case measure => rw [cellSize_of (g1.set _).cell, cellSize_of d1.cell]; omega
end Go.Proofs.YtmebbhlebehliaaDoor
