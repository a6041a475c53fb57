/- A list of values carried from the document's form to the program's, as a contract, for every list. -/
import Derived.Test.YtpjlocmohcjpfaaVal
import Derived.Laws.AppendOwn
import Derived.Laws.OwnMore
import Derived.OwnWalk
import Derived.Deep.AppendLies
namespace Go.Proofs.Ytpjlocmohcjpfaa
open Go.ChangeShapes Go.WideShapes Go.ChangeAt Go.RowKit Go.Fl

/-- values as cells -/
def cellsV (vs : List (Int × Nat)) : List Value := vs.flatMap fun v => [.int .i64 v.1, .int .u64 (v.2 : Int)]

theorem cellsV_length (vs : List (Int × Nat)) : (cellsV vs).length = vs.length * 2 := by
  induction vs with
  | nil => rfl
  | cons v vs ih => simp only [cellsV, List.flatMap_cons, List.length_append, List.length_cons, List.length_nil] at *; omega
theorem cellsV_snoc (vs : List (Int × Nat)) (k : Nat) (v : Int × Nat) (h : vs[k]? = some v) : cellsV (vs.take (k + 1)) = cellsV (vs.take k) ++ [.int .i64 v.1, .int .u64 (v.2 : Int)] := by
  rw [List.take_add_one, h]
  simp [cellsV]

theorem own_below {w w1 : World} {base : Nat} {e : TypeId} {size n : Nat} {v : Value} {xs : List Value} (h : w.ownsRow base e size v n xs) (hb : Below w.heap.size w w1) : w1.ownsRow base e size v n xs :=
  h.kept (row := none) ⟨hb.os, hb.tape, hb.output, hb.size, fun i hi _ => hb.block i hi⟩ (Classical.em _)

/-- a slice of n values that lies below block B -/
def RowV (w : World) (A : Option Addr) (n : Nat) (vs : List (Int × Nat)) : Prop :=
  vs.length = n ∧ (∀ v ∈ vs, v.2 < 18446744073709551616) ∧ (0 < n → ∃ b off, A = some ⟨b, off, none⟩ ∧ ∀ (i : Nat) (k : Int) (c : Nat), vs[i]? = some (k, c) → w.cell? ⟨b, off + i * 2, none⟩ = some (.int .i64 k) ∧ w.cell? ⟨b, off + i * 2 + 1, none⟩ = some (.int .u64 (c : Int)))

theorem RowV.later {w w1 : World} {A : Option Addr} {n : Nat} {vs : List (Int × Nat)} (h : RowV w A n vs) (hb : Below w.heap.size w w1) : RowV w1 A n vs := by
  refine ⟨h.1, h.2.1, fun hn => ?_⟩
  obtain ⟨b, off, hA, hc⟩ := h.2.2 hn
  exact ⟨b, off, hA, fun i k c hi => ⟨cell_later hb (hc i k c hi).1, cell_later hb (hc i k c hi).2⟩⟩

theorem infoV : (Try.prog.info? 27).map (fun i => (i.zero, i.size, i.bytes)) = some (some (.agg #[.int .i64 0, .int .u64 0]), 2, 16) := by kernel_rfl

def AllR (w : World) (vs : List (Int × Nat)) (m i : Value) (wr : World) : Prop :=
  ∃ k : Nat, k ≤ vs.length ∧ i = .int .i64 (k : Int) ∧ wr.ownsRow w.heap.size 27 2 m k (cellsV (vs.take k)) ∧ Below w.heap.size w wr

/-- what a list of its own answers: it reads as vs -/
def OwnL (w : World) (vs : List (Int × Nat)) (e : Ending) (w' : World) : Prop :=
  ∃ v, e = .returned v ∧ w'.ownsRow w.heap.size 27 2 v vs.length (cellsV vs) ∧ Below w.heap.size w w'

set_option maxHeartbeats 1000000 in
theorem all_any (A : Option Addr) (n cap : Nat) (vs : List (Int × Nat)) (w : World) (hv : RowV w A n vs) (hreach : n * 16 ≤ 140737488351232) :
    Calls Try.prog 10 #[.slice A n cap] w (OwnL w vs) := by
  obtain ⟨i0, hi, hz0, hz1, hz2⟩ := info_parts infoV
  obtain ⟨hlen, hbits, hc0⟩ := hv
  obtain rfl : vs.length = n := hlen
  go_enter Try.func10, Try.ntmps10
  go_wp2
  go_loopw [3, 8] (fun m i wr => AllR w vs m i wr) (fun _ i _ => vs.length - (intOf i).toNat)
  case atStart => exact ⟨0, Nat.zero_le _, rfl, World.ownsRow_nil _ _ _ _, Below.refl _ _⟩
  case round =>
    obtain ⟨k, hk, rfl, hown, hB⟩ := hrel
    by_cases hlt : k < vs.length
    · obtain ⟨b, off, rfl, hcell⟩ := hc0 (by omega)
      have hvk : vs[k]? = some ((vs[k]).1, (vs[k]).2) := by rw [List.getElem?_eq_getElem hlt]
      obtain ⟨r0, r1⟩ := hcell k _ _ hvk
      have r0 := cell_later hB r0
      have r1 := cell_later hB r1
      have sn := Lib.hid (cellsV_snoc vs k _ hvk)
      generalize vs[k].1 = x at *
      generalize vs[k].2 = c at *
      clear hcell hvk hc0 hbits
      go_wp2_with fail
      refine (to_any _ _ _).mono ?_; rintro e w1 ⟨rfl, hb1⟩
      have hown1 := own_below (hown.alloc _) hb1
      have hs1 := hB.size
      have hs2 : w.heap.size ≤ w1.heap.size := Nat.le_trans (Nat.le_trans hs1 (by simp)) hb1.size
      have hB1 : Below w.heap.size w w1 := below_more (hB.alloc hB.size _) hb1
      go_wp2_with (at_builtin; refine wpList_append_own _ rfl (.tmp 12) (.tmp 15) 23 rfl w.heap.size 27 i0 (.agg #[.int .i64 0, .int .u64 0]) 2 16 Try.underlying23 hi hz0 hz1 hz2 rfl (by decide) u3 k (cellsV (vs.take k)) rfl (hown1.alloc _) ⟨w1.heap.size, 0, none⟩ 1 1 [.int .i64 x, .int .u64 (c : Int)] rfl rfl ?c1 ?c2 ?c3 ?c4 ?c5 ?_)
      case c1 =>
        intro j u hj
        match j, hj with
        | 0, hj => simp at hj; subst hj; simp [Addr.add]
        | 1, hj => simp at hj; subst hj; simp [Addr.add]
      case c2 => intro u hu; simp at hu; rcases hu with rfl | rfl <;> rfl
      case c3 => unfold maxLen; omega
      case c4 => omega
      case c5 => simp; omega
      intro v' w2 hown2 hgrow _
      rw [← sn.out] at hown2
      have hB2 : Below w.heap.size w w2 := (hB1.alloc hs2 _).grown hgrow (by simp; omega) (fun g hg => (hown1.lt g hg).1)
      clear hown1 hown r0 r1
      go_wp2
      go_roundw
      case rel => exact ⟨k + 1, by omega, by go_num, hown2, hB2⟩
      case measure => simp [intOf]; omega
    · obtain rfl : k = vs.length := by omega
      go_wp2
      go_ret
      rw [List.take_length] at hown
      exact ⟨_, rfl, hown, hB⟩
end Go.Proofs.Ytpjlocmohcjpfaa
