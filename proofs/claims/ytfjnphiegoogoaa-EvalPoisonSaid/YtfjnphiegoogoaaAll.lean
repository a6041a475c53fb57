/- A list of values carried from the document's form to the program's, as a contract, for every list. -/
import Derived.Test.YtfjnphiegoogoaaVal
import Derived.Laws.AppendOwn
import Derived.Laws.OwnMore
import Derived.OwnWalk
import Derived.Deep.AppendLies
namespace Go.Proofs.Ytfjnphiegoogoaa
open Go.ChangeShapes Go.WideShapes Go.ChangeAt Go.RowKit Go.Fl

/-- values as cells -/
def cellsV (vs : List (Int × Nat)) : List Value := vs.flatMap fun v => [.int .i64 v.1, .int .u64 (v.2 : Int)]

theorem cellsV_length (vs : List (Int × Nat)) : (cellsV vs).length = vs.length * 2 := by
  induction vs with
  | nil => rfl
  | cons v vs ih => simp only [cellsV, List.flatMap_cons, List.length_append, List.length_cons, List.length_nil] at *; omega
theorem cellsV_snoc (vs : List (Int × Nat)) (k : Nat) (v : Int × Nat) (h : vs[k]? = some v) : cellsV (vs.take (k + 1)) = cellsV (vs.take k) ++ [.int .i64 v.1, .int .u64 (v.2 : Int)] := by
  rw [List.take_add_one, h]
  simp [cellsV]

theorem own_below {w w1 : World} {base : Nat} {e : TypeId} {size n : Nat} {v : Value} {xs : List Value} (h : w.ownsRow base e size v n xs) (hb : Below w.heap.size w w1) : w1.ownsRow base e size v n xs :=
  h.kept (row := none) ⟨hb.os, hb.tape, hb.output, hb.size, fun i hi _ => hb.block i hi⟩ (Classical.em _)

/-- a slice of n values that lies below block B -/
def RowV (w : World) (A : Option Addr) (n : Nat) (vs : List (Int × Nat)) : Prop :=
  vs.length = n ∧ (∀ v ∈ vs, v.2 < 18446744073709551616) ∧ (0 < n → ∃ b off, A = some ⟨b, off, none⟩ ∧ ∀ (i : Nat) (k : Int) (c : Nat), vs[i]? = some (k, c) → w.cell? ⟨b, off + i * 2, none⟩ = some (.int .i64 k) ∧ w.cell? ⟨b, off + i * 2 + 1, none⟩ = some (.int .u64 (c : Int)))

theorem RowV.later {w w1 : World} {A : Option Addr} {n : Nat} {vs : List (Int × Nat)} (h : RowV w A n vs) (hb : Below w.heap.size w w1) : RowV w1 A n vs := by
  refine ⟨h.1, h.2.1, fun hn => ?_⟩
  obtain ⟨b, off, hA, hc⟩ := h.2.2 hn
  exact ⟨b, off, hA, fun i k c hi => ⟨cell_later hb (hc i k c hi).1, cell_later hb (hc i k c hi).2⟩⟩

theorem infoV : (Try.prog.info? 25).map (fun i => (i.zero, i.size, i.bytes)) = some (some (.agg #[.int .i64 0, .int .u64 0]), 2, 16) := by kernel_rfl

def AllR (w : World) (vs : List (Int × Nat)) (m i : Value) (wr : World) : Prop :=
  ∃ k : Nat, k ≤ vs.length ∧ i = .int .i64 (k : Int) ∧ wr.ownsRow w.heap.size 25 2 m k (cellsV (vs.take k)) ∧ Below w.heap.size w wr

/-- what a list of its own answers: it reads as vs -/
def OwnL (w : World) (vs : List (Int × Nat)) (e : Ending) (w' : World) : Prop :=
  ∃ v, e = .returned v ∧ w'.ownsRow w.heap.size 25 2 v vs.length (cellsV vs) ∧ Below w.heap.size w w'

end Go.Proofs.Ytfjnphiegoogoaa
