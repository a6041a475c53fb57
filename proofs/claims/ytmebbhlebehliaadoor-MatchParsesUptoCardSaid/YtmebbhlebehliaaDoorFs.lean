/- The words of a text, one by one (strings.FieldsSeq, at texts of ASCII), as an iterator's contract. -/
import Derived.RangeFuncNested
import Derived.RangeFuncBound
import Derived.RangeFuncCalls
import Derived.RangeFuncLeaves
import Derived.Shelf.Abstract
import Derived.Shelf.RegionOpen
import Derived.WalkKit
import Derived.OwnWalkIn
import Derived.TacticsInMore
import Derived.LoopNIn
import Derived.LoopIn
import Derived.Test.YtmebbhlebehliaaDoorShelf
namespace Go.Proofs.YtmebbhlebehliaaDoor
open Go.RowKit Go.Shelf
set_option linter.unusedVariables false
set_option linter.unusedSimpArgs false
attribute [local go_sem] Oper.semAt_some

def spC (c : Nat) : Bool := c == 9 || c == 10 || c == 11 || c == 12 || c == 13 || c == 32
def byteAt (s : ByteArray) (i : Nat) : Nat := if h : i < s.size then s[i].toNat else 0
theorem byteAt_of {s : ByteArray} {i : Nat} (h : i < s.size) : byteAt s i = (s[i]'h).toNat := by unfold byteAt; rw [dif_pos h]
/-- the words that are still to come: n bytes are left, a word has begun or not, the place -/
def wordsTo (s : ByteArray) : Nat → Option Nat → Nat → List ByteArray
  | 0, none, _ => []
  | 0, some a, _ => [s.extract a s.size]
  | n + 1, none, i => if spC (byteAt s i) then wordsTo s n none (i + 1) else wordsTo s n (some i) (i + 1)
  | n + 1, some a, i => if spC (byteAt s i) then s.extract a i :: wordsTo s n none (i + 1) else wordsTo s n (some a) (i + 1)
def fieldsOf (s : ByteArray) : List ByteArray := wordsTo s s.size none 0
/-- the table of blanks, as it lies -/
def SpTab (W : World) : Prop := ∀ c : Nat, c < 128 → W.cell? ⟨0, c, none⟩ = some (.int .u8 (if spC c then 1 else 0))
/-- what a round keeps: the text's cell, and the table -/
def KpF (Bs : Nat) (W W' : World) : Prop := W'.cell? ⟨Bs, 0, none⟩ = W.cell? ⟨Bs, 0, none⟩ ∧ ∀ c : Nat, W'.cell? ⟨0, c, none⟩ = W.cell? ⟨0, c, none⟩
theorem KpF.trans {Bs : Nat} {A B C : World} (h : KpF Bs A B) (k : KpF Bs B C) : KpF Bs A C := ⟨k.1.trans h.1, fun c => (k.2 c).trans (h.2 c)⟩
theorem KpF.tab {Bs : Nat} {A B : World} (h : KpF Bs A B) (k : SpTab A) : SpTab B := fun c hc => (h.2 c).trans (k c hc)
def StV (st : Option Nat) (k : Nat) (v : Value) : Prop := (st = none ∧ v = .int .i64 (-1)) ∨ ∃ a : Nat, st = some a ∧ a < k ∧ v = .int .i64 (a : Int)

set_option maxHeartbeats 4000000 in
set_option maxRecDepth 100000 in
theorem fseq1_in (F : Fence) (n : Nat) (h56 : F.fn 29) (hro : F.round = none) (hn : 1 ≤ n) (l Bs : Nat) (s : ByteArray) (hs : s.size ≤ 281474976710656) (hasc : ∀ (i : Nat) (h : i < s.size), (s[i]'h).toNat < 128) (J Jx : List ByteArray → World → Prop)
    (hY : ∀ pre x W, J pre W → pre ++ [x] <+: fieldsOf s → YieldAt F (n - 1) Tryd.prog l #[.string x] W fun e W' =>
      (e = .returned (.bool true) ∧ J (pre ++ [x]) W' ∧ KpF Bs W W') ∨ (e = .returned (.bool false) ∧ Jx (pre ++ [x]) W'))
    (W : World) (hBs : W.cell? ⟨Bs, 0, none⟩ = some (.string s)) (hT : SpTab W) (h0 : J [] W) :
    CallsIn F n Tryd.prog 29 #[.func (.yield l) #[] #[], .pointer (some ⟨Bs, 0, none⟩)] W fun e W' => (∃ v, e = .returned v) ∧
      ((∃ ys, ys = fieldsOf s ∧ J ys W') ∨ (∃ pre, pre <+: fieldsOf s ∧ Jx pre W')) := by
  refine callsIn_of_wp Tryd.func29 rfl h56 ?_ hro
  simp only [Tryd.ntmps29, List.size_toArray, List.length_cons, List.length_nil, Nat.reduceAdd, Nat.reduceSub, Array.replicate_succ, Array.replicate_zero, List.push_toArray, List.append_toArray, List.nil_append, List.cons_append]
  gi_wp2
  gi_loopw [3, 4] (fun v i wr => ∃ (k : Nat) (st : Option Nat) (pre : List ByteArray), k ≤ s.size ∧ i = .int .i64 (k : Int) ∧ StV st k v ∧ pre ++ wordsTo s (s.size - k) st k = fieldsOf s ∧ J pre wr ∧ wr.cell? ⟨Bs, 0, none⟩ = some (.string s) ∧ SpTab wr)
    (fun _ i _ => s.size - (intOf i).toNat)
  case atStart => exact ⟨0, none, [], Nat.zero_le _, rfl, .inl ⟨rfl, rfl⟩, rfl, h0, hBs, hT⟩
  case round =>
    obtain ⟨k, st, pre, hk, rfl, hst, hpre, hJ, hcs, hTw⟩ := hrel
    have k0 : (0 : Int) ≤ (k : Int) := by omega
    by_cases hlt : k < s.size
    · have k1 : (k : Int) < (s.size : Int) := by omega
      have hc128 := hasc k hlt
      have hbyte := byteAt_of hlt
      have hTc := hTw _ hc128
      obtain ⟨m, hm⟩ : ∃ m, s.size - k = m + 1 := ⟨s.size - k - 1, by omega⟩
      have hm1 : s.size - (k + 1) = m := by omega
      rw [hm] at hpre
      have cv : IntKind.i32.wrap ((s[k]'hlt).toNat : Int) = ((s[k]'hlt).toNat : Int) := by rw [IntKind.wrap_i32]; omega
      have c256 : ((s[k]'hlt).toNat : Int) < 256 := by omega
      have c128 : ¬ ((s[k]'hlt).toNat : Int) ≥ 128 := by omega
      have c128b : ((s[k]'hlt).toNat : Int) < 128 := by omega
      rcases hst with ⟨rfl, rfl⟩ | ⟨a, rfl, hak, rfl⟩
      · by_cases sp : spC ((s[k]'hlt).toNat) = true
        · rw [sp, if_pos rfl] at hTc
          simp only [wordsTo, hbyte, sp, if_true] at hpre
          replace hpre := Lib.hid hpre
          replace sp := Lib.hid sp
          clear hbyte hm
          gi_wp2
          go_roundw
          case rel => exact ⟨k + 1, none, pre, by omega, by go_num, .inl ⟨rfl, rfl⟩, by rw [hm1]; exact hpre.out, hJ, hcs, hTw⟩
          case measure => simp [intOf]; omega
        · rw [if_neg sp] at hTc
          simp only [wordsTo, hbyte, sp, if_false] at hpre
          replace hpre := Lib.hid hpre
          replace sp := Lib.hid sp
          clear hbyte hm
          gi_wp2
          go_roundw
          case rel => exact ⟨k + 1, some k, pre, by omega, by go_num, .inr ⟨k, rfl, by omega, rfl⟩, by rw [hm1]; exact hpre.out, hJ, hcs, hTw⟩
          case measure => simp [intOf]; omega
      · have a0 : (0 : Int) ≤ (a : Int) := by omega
        have a1 : (a : Int) ≤ (k : Int) := by omega
        by_cases sp : spC ((s[k]'hlt).toNat) = true
        · rw [sp, if_pos rfl] at hTc
          simp only [wordsTo, hbyte, sp, if_true] at hpre
          obtain ⟨fn, tmps, assign, body, hy, hR⟩ := hY pre (s.extract a k) wr hJ ⟨_, by rw [List.append_assoc]; exact hpre⟩
          replace hpre := Lib.hid hpre
          replace sp := Lib.hid sp
          clear hbyte hm
          gi_wp2
          refine hR.mono ?_
          rintro e W3 (⟨rfl, hJ3, hk3⟩ | ⟨rfl, hJx3⟩)
          · have hcs3 := hk3.1.trans hcs
            have hT3 := hk3.tab hTw
            gi_wp2
            go_roundw
            case rel => exact ⟨k + 1, none, pre ++ [s.extract a k], by omega, by go_num, .inl ⟨rfl, rfl⟩, by rw [hm1, List.append_assoc]; exact hpre.out, hJ3, hcs3, hT3⟩
            case measure => simp [intOf]; omega
          · gi_wp2
            refine bodyPost_ret (results_none rfl _ _ _) rfl ?_
            exact ⟨⟨_, rfl⟩, .inr ⟨_, ⟨_, by rw [List.append_assoc]; exact hpre.out⟩, hJx3⟩⟩
        · rw [if_neg sp] at hTc
          simp only [wordsTo, hbyte, sp, if_false] at hpre
          replace hpre := Lib.hid hpre
          replace sp := Lib.hid sp
          clear hbyte hm
          gi_wp2
          go_roundw
          case rel => exact ⟨k + 1, some a, pre, by omega, by go_num, .inr ⟨a, rfl, by omega, rfl⟩, by rw [hm1]; exact hpre.out, hJ, hcs, hTw⟩
          case measure => simp [intOf]; omega
    · have hke : k = s.size := by omega
      have k1 : ¬ (k : Int) < (s.size : Int) := by omega
      subst hke
      rw [Nat.sub_self] at hpre
      rcases hst with ⟨rfl, rfl⟩ | ⟨a, rfl, hak, rfl⟩
      · simp only [wordsTo, List.append_nil] at hpre
        replace hpre := Lib.hid hpre
        gi_wp2
        go_end0
        exact ⟨⟨_, rfl⟩, .inl (hpre.out ▸ hJ)⟩
      · have a0 : (0 : Int) ≤ (a : Int) := by omega
        have a1 : (a : Int) ≤ (s.size : Int) := by omega
        simp only [wordsTo] at hpre
        obtain ⟨fn, tmps, assign, body, hy, hR⟩ := hY pre (s.extract a s.size) wr hJ ⟨[], by rw [List.append_nil]; exact hpre⟩
        replace hpre := Lib.hid hpre
        gi_wp2
        refine hR.mono ?_
        rintro e W3 (⟨rfl, hJ3, hk3⟩ | ⟨rfl, hJx3⟩)
        · gi_wp2
          go_end0
          exact ⟨⟨_, rfl⟩, .inl ⟨_, hpre.out, hJ3⟩⟩
        · gi_wp2
          go_end0
          exact ⟨⟨_, rfl⟩, .inr ⟨_, ⟨[], by rw [List.append_nil]; exact hpre.out⟩, hJx3⟩⟩

set_option maxHeartbeats 1000000 in
theorem fseq_in (F : Fence) (n : Nat) (h41 : F.fn 20) (hro : F.round = none) (s : ByteArray) (w : World) :
    CallsIn F n Tryd.prog 20 #[.string s] w fun e w' => e = .returned (.func (.func 29) #[] #[.pointer (some ⟨w.heap.size, 0, none⟩)]) ∧ w' = w.alloc (.cells #[.string s] 9) := by
  refine callsIn_of_wp Tryd.func20 rfl h41 ?_ hro
  simp only [Tryd.ntmps20, List.size_toArray, List.length_cons, List.length_nil, Nat.reduceAdd, Nat.reduceSub, Array.replicate_succ, Array.replicate_zero, List.push_toArray, List.append_toArray, List.nil_append, List.cons_append]
  gi_wp2
  go_ret
  exact ⟨rfl, rfl⟩
/-- a word of a text -/
abbrev WordOf (s : ByteArray) := { x : ByteArray // x ∈ fieldsOf s }
/-- FieldsSeq hands back an iterator over the words. -/
theorem fseq_stops (F : Fence) (n : Nat) (h56 : F.fn 29) (hro : F.round = none) (hn : 1 ≤ n) (Bs : Nat) (s : ByteArray) (hs : s.size ≤ 281474976710656) (hasc : ∀ (i : Nat) (h : i < s.size), (s[i]'h).toNat < 128) (w : World) (hB : Bs < w.heap.size) (hc : w.cell? ⟨Bs, 0, none⟩ = some (.string s)) (h0 : 0 < w.heap.size) (hT : SpTab w) :
    SeqStopsK F n Tryd.prog 29 #[.pointer (some ⟨Bs, 0, none⟩)] (fun x : WordOf s => #[Value.string x.1]) (KpF Bs) (fun ys => ys.map (·.1) = fieldsOf s) (fun pre => pre.map (·.1) <+: fieldsOf s) (fieldsOf s).length w := fun l J Jx W hW _ _ hY hJ0 => by
  refine (fseq1_in F n h56 hro hn l Bs s hs hasc (fun pre W => ∃ q : List (WordOf s), q.map (·.1) = pre ∧ J q W) (fun pre W => ∃ q : List (WordOf s), q.map (·.1) = pre ∧ Jx q W) ?_ W ((hW.cell (p := ⟨Bs, 0, none⟩) hB).trans hc) (fun c h => (hW.cell (p := ⟨0, c, none⟩) h0).trans (hT c h)) ⟨[], rfl, hJ0⟩).mono ?_
  · rintro pre x W1 ⟨q, rfl, hJ⟩ hp
    have hx : x ∈ fieldsOf s := hp.subset (by simp)
    have hl : q.length < (fieldsOf s).length := by
      have := hp.length_le
      simp at this
      omega
    refine (hY q ⟨x, hx⟩ W1 hJ hl).mono ?_
    rintro e W' (⟨he, hJ', hk⟩ | ⟨he, hJx⟩)
    · exact .inl ⟨he, ⟨q ++ [⟨x, hx⟩], by simp, hJ'⟩, hk⟩
    · exact .inr ⟨he, ⟨q ++ [⟨x, hx⟩], by simp, hJx⟩⟩
  · rintro e W' ⟨he, ⟨ys, rfl, q, hq, hJ⟩ | ⟨pre, hp, q, rfl, hJ⟩⟩
    · exact ⟨he, .inl ⟨q, hq, hJ⟩⟩
    · exact ⟨he, .inr ⟨q, hp, hJ⟩⟩
theorem kpf_b {Bs : Nat} {w : World} (hB : Bs < w.heap.size) (h0 : 0 < w.heap.size) (W : World) (l : Nat) (o o' : Obj) (hl : w.heap.size ≤ l) (h : W.heap[l]? = some o) (_ : o.isCells = false) (_ : o.isWalk = false) : KpF Bs W (W.putObj l o') := by
  have hb : Below w.heap.size W (W.putObj l o') := (Below.refl w.heap.size W).grown (grownBy_putObj' W l o') (by have := (Array.getElem?_eq_some_iff.1 h).1; omega) (fun k e => by cases e; omega)
  exact ⟨hb.cell (p := ⟨Bs, 0, none⟩) hB, fun c => hb.cell (p := ⟨0, c, none⟩) h0⟩
end Go.Proofs.YtmebbhlebehliaaDoor
