/- Val, All, EvO, Lk, App, Do, Res -/
import Derived.Test.YtfjnphiegoogoaaZ02
import Derived.Below
import Derived.Laws.StructEq
import Derived.WalkSpells
import Derived.Laws.AppendOwn
import Derived.Laws.OwnMore
import Derived.OwnWalk
import Derived.Deep.AppendLies
import Derived.Test.YtfjnphiegoogoaaZ00
import Derived.Deep.RegionHeld3
import Derived.Deep.RegionWith
import Derived.Deep.RegionLaw
import Derived.Laws.MakeOwn
import Derived.Defers
import Derived.Recover
import Derived.BigRegion
import Derived.Deep.QuietTactic
import Derived.BigQuiet
/- Val -/
namespace Go.Proofs.Ytfjnphiegoogoaa
open Go.ChangeShapes Go.WideShapes Go.ChangeAt Go.RowKit Go.Fl

theorem below1 (w : World) (o : Obj) : Below w.heap.size w (w.alloc o) := (Below.refl _ _).alloc (Nat.le_refl _) _
theorem below2 (w : World) (o p : Obj) : Below w.heap.size w ((w.alloc o).alloc p) := (below1 w o).alloc (by simp) _

theorem below_more {w0 w w1 : World} (h : Below w0.heap.size w0 w) (hb : Below w.heap.size w w1) : Below w0.heap.size w0 w1 := h.trans (hb.mono h.size)

theorem bcell {W w1 : World} (hb : Below W.heap.size W w1) : (∀ b o, b < W.heap.size → w1.cell? ⟨b, o, none⟩ = W.cell? ⟨b, o, none⟩) ∧ (∀ b o, b < W.heap.size → w1.frozen? ⟨b, o, none⟩ = W.frozen? ⟨b, o, none⟩) :=
  ⟨fun b o h => hb.cell (p := ⟨b, o, none⟩) h, fun b o h => hb.frozen (p := ⟨b, o, none⟩) h⟩

theorem put2 {w : World} {g : Nat} {x y : Value} (u v : Value) (h0 : w.cell? ⟨g, 0, none⟩ = some x) (h1 : w.cell? ⟨g, 1, none⟩ = some y) :
    (w.setCell ⟨g, 0, none⟩ u).cell? ⟨g, 0, none⟩ = some u ∧ ((w.setCell ⟨g, 0, none⟩ u).setCell ⟨g, 1, none⟩ v).cell? ⟨g, 1, none⟩ = some v ∧ ((w.setCell ⟨g, 0, none⟩ u).setCell ⟨g, 1, none⟩ v).cell? ⟨g, 0, none⟩ = some u := by
  have e0 : (w.setCell ⟨g, 0, none⟩ u).cell? ⟨g, 0, none⟩ = some u := World.cell?_setCell_same' _ _ _ (by rw [h0]; rfl)
  have e1 : (w.setCell ⟨g, 0, none⟩ u).cell? ⟨g, 1, none⟩ = some y := by rw [World.cell?_setCell_other _ _ _ _ (by simp), h1]
  refine ⟨e0, World.cell?_setCell_same' _ _ _ (by rw [e1]; rfl), ?_⟩
  rw [World.cell?_setCell_other _ _ _ _ (by simp), e0]

theorem eqV (k l b c : Int) (w : World) : (binOp .eql 25 (.agg #[.int .i64 k, .int .u64 b]) (.agg #[.int .i64 l, .int .u64 c])).run Try.prog w = .ok (.bool (decide (k = l ∧ b = c))) w := by
  by_cases h1 : k = l <;> by_cases h2 : b = c <;> simp [go_sem, h1, h2]
theorem eqR (k l b c : Int) (w : World) : (binOp .eql 36 (.agg #[.int .i64 k, .int .u64 b]) (.agg #[.int .i64 l, .int .u64 c])).run Try.prog w = .ok (.bool (decide (k = l ∧ b = c))) w := by
  by_cases h1 : k = l <;> by_cases h2 : b = c <;> simp [go_sem, h1, h2]

theorem block_of_cell {w : World} {a : Addr} {v : Value} (h : w.cell? a = some v) : a.block < w.heap.size := by
  by_cases c : a.block < w.heap.size
  · exact c
  · unfold World.cell? at h
    rw [Array.getElem?_eq_none (by omega)] at h
    simp at h

/-- a struct of two cells that lies in a block that may be written -/
theorem later2 {w w1 : World} {g : Nat} {u v : Value} (hb : Below w.heap.size w w1)
    (h : w.cell? ⟨g, 0, none⟩ = some u ∧ w.cell? ⟨g, 1, none⟩ = some v ∧ w.frozen? ⟨g, 0, none⟩ = false ∧ w.frozen? ⟨g, 1, none⟩ = false) :
    w1.cell? ⟨g, 0, none⟩ = some u ∧ w1.cell? ⟨g, 1, none⟩ = some v ∧ w1.frozen? ⟨g, 0, none⟩ = false ∧ w1.frozen? ⟨g, 1, none⟩ = false := by
  obtain ⟨h0, h1, h2, h3⟩ := h
  have hg : g < w.heap.size := block_of_cell h0
  exact ⟨cell_later hb h0, cell_later hb h1, (hb.frozen (p := ⟨g, 0, none⟩) hg).trans h2, (hb.frozen (p := ⟨g, 1, none⟩) hg).trans h3⟩

theorem ofint_v (n : Int) (w : World) :
    Calls Try.prog 44 #[.int .i64 n] w fun e w' => e = .returned (.agg #[.int .i64 1, .int .u64 (IntKind.u64.wrap n)]) ∧ Below w.heap.size w w' := by
  go_enter Try.func44, Try.ntmps44
  go_wp2
  exact bodyPost_ret (v := .agg #[.int .i64 1, .int .u64 (IntKind.u64.wrap n)]) (by simp [results, Try.results44, go_sem]) rfl ⟨rfl, below1 _ _⟩

theorem ofreal_v (n : Int) (w : World) :
    Calls Try.prog 40 #[.int .u64 n] w fun e w' => e = .returned (.agg #[.int .i64 4, .int .u64 n]) ∧ Below w.heap.size w w' := by
  go_enter Try.func40, Try.ntmps40
  go_wp2
  exact bodyPost_ret (v := .agg #[.int .i64 4, .int .u64 n]) (by simp [results, Try.results40, go_sem]) rfl ⟨rfl, below1 _ _⟩

def tB (x : Bool) : Int := if x then 1 else 0

theorem ofbool_v (x : Bool) (w : World) :
    Calls Try.prog 39 #[.bool x] w fun e w' => e = .returned (.agg #[.int .i64 2, .int .u64 (tB x)]) ∧ Below w.heap.size w w' := by
  cases x
  · go_enter Try.func39, Try.ntmps39
    go_wp2
    exact bodyPost_ret (v := .agg #[.int .i64 2, .int .u64 0]) (by simp [results, Try.results39, go_sem]) rfl ⟨rfl, below1 _ _⟩
  · go_enter Try.func39, Try.ntmps39
    go_wp2
    exact bodyPost_ret (v := .agg #[.int .i64 2, .int .u64 1]) (by simp [results, Try.results39, go_sem]) rfl ⟨rfl, below1 _ _⟩

theorem truth_any (x : Bool) (w : World) :
    Calls Try.prog 12 #[.bool x] w fun e w' => e = .returned (.agg #[.int .i64 2, .int .u64 (tB x)]) ∧ Below w.heap.size w w' := by
  cases x
  · go_enter Try.func12, Try.ntmps12
    go_wp2
    exact bodyPost_ret (v := .agg #[.int .i64 2, .int .u64 0]) (by simp [results, Try.results12, go_sem]) rfl ⟨rfl, below1 _ _⟩
  · go_enter Try.func12, Try.ntmps12
    go_wp2
    exact bodyPost_ret (v := .agg #[.int .i64 2, .int .u64 1]) (by simp [results, Try.results12, go_sem]) rfl ⟨rfl, below1 _ _⟩

/-- what a value counts as: its kind, its bits -/
def clK (k : Int) (b : Nat) : Int := if k = 1 ∨ (k = 2 ∧ b ≤ 1) ∨ (k = 3 ∧ b ≤ 63) ∨ k = 4 then k else 0
def clB (k : Int) (b : Nat) : Nat := if k = 4 then cn b else if k = 1 ∨ (k = 2 ∧ b ≤ 1) ∨ (k = 3 ∧ b ≤ 63) then b else 0

theorem ret_val {k k' b b' : Int} (h1 : k = k') (h2 : b = b') : Ending.returned (.agg #[.int .i64 k, .int .u64 b]) = .returned (.agg #[.int .i64 k', .int .u64 b']) := by rw [h1, h2]

theorem clean_any (k : Int) (b : Nat) (w : World) (hb : b < 18446744073709551616) :
    Calls Try.prog 24 #[.agg #[.int .i64 k, .int .u64 (b : Int)]] w fun e w' => e = .returned (.agg #[.int .i64 (clK k b), .int .u64 ((clB k b : Nat) : Int)]) ∧ Below w.heap.size w w' := by
  by_cases k1 : k = 1
  · subst k1
    have E1 := Lib.hid (show (1 : Int) = clK 1 b by unfold clK; rw [if_pos (by omega)])
    have E2 := Lib.hid (show (b : Int) = ((clB 1 b : Nat) : Int) by unfold clB; rw [if_neg (by omega), if_pos (by omega)])
    go_enter Try.func24, Try.ntmps24
    go_wp2
    exact bodyPost_ret (v := .agg #[.int .i64 1, .int .u64 (b : Int)]) (by simp [results, Try.results24, go_sem]) rfl ⟨ret_val E1.out E2.out, below2 _ _ _⟩
  have f1 : (k == 1) = false := by simpa using k1
  by_cases k2 : k = 2
  · subst k2
    by_cases c : b ≤ 1
    · have E1 := Lib.hid (show (2 : Int) = clK 2 b by unfold clK; rw [if_pos (by omega)])
      have E2 := Lib.hid (show (b : Int) = ((clB 2 b : Nat) : Int) by unfold clB; rw [if_neg (by omega), if_pos (by omega)])
      go_enter Try.func24, Try.ntmps24
      go_wp2
      exact bodyPost_ret (v := .agg #[.int .i64 2, .int .u64 (b : Int)]) (by simp [results, Try.results24, go_sem]) rfl ⟨ret_val E1.out E2.out, below2 _ _ _⟩
    · have E1 := Lib.hid (show (0 : Int) = clK 2 b by unfold clK; rw [if_neg (by omega)])
      have E2 := Lib.hid (show (0 : Int) = ((clB 2 b : Nat) : Int) by unfold clB; rw [if_neg (by omega), if_neg (by omega)]; rfl)
      go_enter Try.func24, Try.ntmps24
      go_wp2
      exact bodyPost_ret (v := .agg #[.int .i64 0, .int .u64 0]) (by simp [results, Try.results24, go_sem]) rfl ⟨ret_val E1.out E2.out, below2 _ _ _⟩
  have f2 : (k == 2) = false := by simpa using k2
  by_cases k3 : k = 3
  · subst k3
    by_cases c : b ≤ 63
    · have c' : b < 64 := by omega
      have E1 := Lib.hid (show (3 : Int) = clK 3 b by unfold clK; rw [if_pos (by omega)])
      have E2 := Lib.hid (show (b : Int) = ((clB 3 b : Nat) : Int) by unfold clB; rw [if_neg (by omega), if_pos (by omega)])
      go_enter Try.func24, Try.ntmps24
      go_wp2
      exact bodyPost_ret (v := .agg #[.int .i64 3, .int .u64 (b : Int)]) (by simp [results, Try.results24, go_sem]) rfl ⟨ret_val E1.out E2.out, below2 _ _ _⟩
    · have E1 := Lib.hid (show (0 : Int) = clK 3 b by unfold clK; rw [if_neg (by omega)])
      have E2 := Lib.hid (show (0 : Int) = ((clB 3 b : Nat) : Int) by unfold clB; rw [if_neg (by omega), if_neg (by omega)]; rfl)
      have c' : ¬ b < 64 := by omega
      go_enter Try.func24, Try.ntmps24
      go_wp2
      exact bodyPost_ret (v := .agg #[.int .i64 0, .int .u64 0]) (by simp [results, Try.results24, go_sem]) rfl ⟨ret_val E1.out E2.out, below2 _ _ _⟩
  have f3 : (k == 3) = false := by simpa using k3
  by_cases k4 : k = 4
  · subst k4
    have E1 := Lib.hid (show (4 : Int) = clK 4 b by unfold clK; rw [if_pos (by omega)])
    have E2 := Lib.hid (show ((cn b : Nat) : Int) = ((clB 4 b : Nat) : Int) by unfold clB; rw [if_pos rfl])
    go_enter Try.func24, Try.ntmps24
    go_wp2_with fail
    refine (canon_any _ _ hb).mono ?_; rintro e w' ⟨rfl, rfl⟩
    go_wp2_with fail
    refine (ofreal_v _ _).mono ?_; rintro e w1 ⟨rfl, hb1⟩
    obtain ⟨hc, hf⟩ := bcell hb1
    have hz : w.heap.size + 1 < w1.heap.size := by have := hb1.size; simp at this; omega
    obtain ⟨_, q1, q2⟩ := put2 (w := w1) (g := w.heap.size + 1) (.int .i64 4) (.int .u64 ((cn b : Nat) : Int)) (x := .int .i64 0) (y := .int .u64 0) (by rw [hc _ _ (by simp)]; simp) (by rw [hc _ _ (by simp)]; simp)
    go_wp2
    exact bodyPost_ret (v := .agg #[.int .i64 4, .int .u64 ((cn b : Nat) : Int)]) (by simp [results, Try.results24, go_sem, q1, q2]) rfl ⟨ret_val E1.out E2.out, (((below2 _ _ _).trans (hb1.mono (by simp; omega))).setCell (by simp) _).setCell (by simp) _⟩
  have f4 : (k == 4) = false := by simpa using k4
  have E1 := Lib.hid (show (0 : Int) = clK k b by unfold clK; rw [if_neg (by omega)])
  have E2 := Lib.hid (show (0 : Int) = ((clB k b : Nat) : Int) by unfold clB; rw [if_neg (by omega), if_neg (by omega)]; rfl)
  clear k1 k2 k3 k4
  go_enter Try.func24, Try.ntmps24
  go_wp2
  exact bodyPost_ret (v := .agg #[.int .i64 0, .int .u64 0]) (by simp [results, Try.results24, go_sem]) rfl ⟨ret_val E1.out E2.out, below2 _ _ _⟩

theorem rclean_any (k : Int) (b : Nat) (w : World) (hb : b < 18446744073709551616) :
    Calls Try.prog 18 #[.agg #[.int .i64 k, .int .u64 (b : Int)]] w fun e w' => e = .returned (.agg #[.int .i64 (clK k b), .int .u64 ((clB k b : Nat) : Int)]) ∧ Below w.heap.size w w' := by
  by_cases k1 : k = 1
  · subst k1
    have E1 := Lib.hid (show (1 : Int) = clK 1 b by unfold clK; rw [if_pos (by omega)])
    have E2 := Lib.hid (show (b : Int) = ((clB 1 b : Nat) : Int) by unfold clB; rw [if_neg (by omega), if_pos (by omega)])
    go_enter Try.func18, Try.ntmps18
    go_wp2
    exact bodyPost_ret (v := .agg #[.int .i64 1, .int .u64 (b : Int)]) (by simp [results, Try.results18, go_sem]) rfl ⟨ret_val E1.out E2.out, below2 _ _ _⟩
  have f1 : (k == 1) = false := by simpa using k1
  by_cases k2 : k = 2
  · subst k2
    by_cases c : b ≤ 1
    · have E1 := Lib.hid (show (2 : Int) = clK 2 b by unfold clK; rw [if_pos (by omega)])
      have E2 := Lib.hid (show (b : Int) = ((clB 2 b : Nat) : Int) by unfold clB; rw [if_neg (by omega), if_pos (by omega)])
      go_enter Try.func18, Try.ntmps18
      go_wp2
      exact bodyPost_ret (v := .agg #[.int .i64 2, .int .u64 (b : Int)]) (by simp [results, Try.results18, go_sem]) rfl ⟨ret_val E1.out E2.out, below2 _ _ _⟩
    · have E1 := Lib.hid (show (0 : Int) = clK 2 b by unfold clK; rw [if_neg (by omega)])
      have E2 := Lib.hid (show (0 : Int) = ((clB 2 b : Nat) : Int) by unfold clB; rw [if_neg (by omega), if_neg (by omega)]; rfl)
      go_enter Try.func18, Try.ntmps18
      go_wp2
      exact bodyPost_ret (v := .agg #[.int .i64 0, .int .u64 0]) (by simp [results, Try.results18, go_sem]) rfl ⟨ret_val E1.out E2.out, below2 _ _ _⟩
  have f2 : (k == 2) = false := by simpa using k2
  by_cases k3 : k = 3
  · subst k3
    by_cases c : b ≤ 63
    · have c' : b < 64 := by omega
      have E1 := Lib.hid (show (3 : Int) = clK 3 b by unfold clK; rw [if_pos (by omega)])
      have E2 := Lib.hid (show (b : Int) = ((clB 3 b : Nat) : Int) by unfold clB; rw [if_neg (by omega), if_pos (by omega)])
      go_enter Try.func18, Try.ntmps18
      go_wp2
      exact bodyPost_ret (v := .agg #[.int .i64 3, .int .u64 (b : Int)]) (by simp [results, Try.results18, go_sem]) rfl ⟨ret_val E1.out E2.out, below2 _ _ _⟩
    · have E1 := Lib.hid (show (0 : Int) = clK 3 b by unfold clK; rw [if_neg (by omega)])
      have E2 := Lib.hid (show (0 : Int) = ((clB 3 b : Nat) : Int) by unfold clB; rw [if_neg (by omega), if_neg (by omega)]; rfl)
      have c' : ¬ b < 64 := by omega
      go_enter Try.func18, Try.ntmps18
      go_wp2
      exact bodyPost_ret (v := .agg #[.int .i64 0, .int .u64 0]) (by simp [results, Try.results18, go_sem]) rfl ⟨ret_val E1.out E2.out, below2 _ _ _⟩
  have f3 : (k == 3) = false := by simpa using k3
  by_cases k4 : k = 4
  · subst k4
    have E1 := Lib.hid (show (4 : Int) = clK 4 b by unfold clK; rw [if_pos (by omega)])
    have E2 := Lib.hid (show ((cn b : Nat) : Int) = ((clB 4 b : Nat) : Int) by unfold clB; rw [if_pos rfl])
    go_enter Try.func18, Try.ntmps18
    go_wp2_with (go_at_call 30; refine (rcanon_any _ _ hb).mono ?_; rintro e w' ⟨rfl, rfl⟩)
    exact bodyPost_ret (v := .agg #[.int .i64 4, .int .u64 ((cn b : Nat) : Int)]) (by simp [results, Try.results18, go_sem]) rfl ⟨ret_val E1.out E2.out, below2 _ _ _⟩
  have f4 : (k == 4) = false := by simpa using k4
  have E1 := Lib.hid (show (0 : Int) = clK k b by unfold clK; rw [if_neg (by omega)])
  have E2 := Lib.hid (show (0 : Int) = ((clB k b : Nat) : Int) by unfold clB; rw [if_neg (by omega), if_neg (by omega)]; rfl)
  clear k1 k2 k3 k4
  go_enter Try.func18, Try.ntmps18
  go_wp2
  exact bodyPost_ret (v := .agg #[.int .i64 0, .int .u64 0]) (by simp [results, Try.results18, go_sem]) rfl ⟨ret_val E1.out E2.out, below2 _ _ _⟩
end Go.Proofs.Ytfjnphiegoogoaa

/- All -/
namespace Go.Proofs.Ytfjnphiegoogoaa
open Go.ChangeShapes Go.WideShapes Go.ChangeAt Go.RowKit Go.Fl

/-- values as cells -/
def cellsV (vs : List (Int × Nat)) : List Value := vs.flatMap fun v => [.int .i64 v.1, .int .u64 (v.2 : Int)]

theorem cellsV_length (vs : List (Int × Nat)) : (cellsV vs).length = vs.length * 2 := by
  induction vs with
  | nil => rfl
  | cons v vs ih => simp only [cellsV, List.flatMap_cons, List.length_append, List.length_cons, List.length_nil] at *; omega
theorem cellsV_snoc (vs : List (Int × Nat)) (k : Nat) (v : Int × Nat) (h : vs[k]? = some v) : cellsV (vs.take (k + 1)) = cellsV (vs.take k) ++ [.int .i64 v.1, .int .u64 (v.2 : Int)] := by
  rw [List.take_add_one, h]
  simp [cellsV]

theorem own_below {w w1 : World} {base : Nat} {e : TypeId} {size n : Nat} {v : Value} {xs : List Value} (h : w.ownsRow base e size v n xs) (hb : Below w.heap.size w w1) : w1.ownsRow base e size v n xs :=
  h.kept (row := none) ⟨hb.os, hb.tape, hb.output, hb.size, fun i hi _ => hb.block i hi⟩ (Classical.em _)

/-- a slice of n values that lies below block B -/
def RowV (w : World) (A : Option Addr) (n : Nat) (vs : List (Int × Nat)) : Prop :=
  vs.length = n ∧ (∀ v ∈ vs, v.2 < 18446744073709551616) ∧ (0 < n → ∃ b off, A = some ⟨b, off, none⟩ ∧ ∀ (i : Nat) (k : Int) (c : Nat), vs[i]? = some (k, c) → w.cell? ⟨b, off + i * 2, none⟩ = some (.int .i64 k) ∧ w.cell? ⟨b, off + i * 2 + 1, none⟩ = some (.int .u64 (c : Int)))

theorem RowV.later {w w1 : World} {A : Option Addr} {n : Nat} {vs : List (Int × Nat)} (h : RowV w A n vs) (hb : Below w.heap.size w w1) : RowV w1 A n vs := by
  refine ⟨h.1, h.2.1, fun hn => ?_⟩
  obtain ⟨b, off, hA, hc⟩ := h.2.2 hn
  exact ⟨b, off, hA, fun i k c hi => ⟨cell_later hb (hc i k c hi).1, cell_later hb (hc i k c hi).2⟩⟩

theorem infoV : (Try.prog.info? 25).map (fun i => (i.zero, i.size, i.bytes)) = some (some (.agg #[.int .i64 0, .int .u64 0]), 2, 16) := by kernel_rfl

def AllR (w : World) (vs : List (Int × Nat)) (m i : Value) (wr : World) : Prop :=
  ∃ k : Nat, k ≤ vs.length ∧ i = .int .i64 (k : Int) ∧ wr.ownsRow w.heap.size 25 2 m k (cellsV (vs.take k)) ∧ Below w.heap.size w wr

/-- what a list of its own answers: it reads as vs -/
def OwnL (w : World) (vs : List (Int × Nat)) (e : Ending) (w' : World) : Prop :=
  ∃ v, e = .returned v ∧ w'.ownsRow w.heap.size 25 2 v vs.length (cellsV vs) ∧ Below w.heap.size w w'

end Go.Proofs.Ytfjnphiegoogoaa

/- EvO -/
namespace Go.Proofs.Ytfjnphiegoogoaa
open Go.ChangeShapes Go.WideShapes Go.ChangeAt Go.RowKit Go.Deep Go.Joins Go.Fl
set_option linter.unusedVariables false
set_option linter.unusedSimpArgs false

/-- an event: its type, its time, its values -/
abbrev Ev := Int × Int × List (Int × Nat)
/-- events as they lie in a slice -/
def EvsAt (w : World) (A : Option Addr) (es : List Ev) : Prop := 0 < es.length → ∃ b off, A = some ⟨b, off, none⟩ ∧ ∀ (i : Nat) (e : Ev), es[i]? = some e → w.cell? ⟨b, off + i * 3, none⟩ = some (.int .i64 e.1) ∧ w.cell? ⟨b, off + i * 3 + 1, none⟩ = some (.int .i64 e.2.1) ∧ ∃ B cap, w.cell? ⟨b, off + i * 3 + 2, none⟩ = some (.slice B e.2.2.length cap) ∧ RowV w B e.2.2.length e.2.2
theorem EvsAt.later {w w1 : World} {A : Option Addr} {es : List Ev} (h : EvsAt w A es) (hb : Below w.heap.size w w1) : EvsAt w1 A es := fun hp => by
  obtain ⟨b, off, e, h⟩ := h hp
  refine ⟨b, off, e, fun i x hi => ?_⟩
  obtain ⟨h0, h1, B, cap, h2, h3⟩ := h i x hi
  exact ⟨cell_later hb h0, cell_later hb h1, B, cap, cell_later hb h2, h3.later hb⟩

section
variable {H : Type} {enc : TypeId × Value → H} {w : World} {base : Nat} {spare : Nat → Bool} {held : Bool}
theorem open_values {fuel : Nat} {v : Value} {y : DataW H × List MemPlace} (h : DataW.trod enc Try.prog w base spare held fuel 57 [v] = some y) (hw : WB Try.prog 57 y.1) :
    ∃ (B : Option Addr) (cap : Nat) (vs : List (Int × Nat)), v = .slice B vs.length cap ∧ RowV w B vs.length vs ∧ vs.length * 16 ≤ 140737488351232 := by
  rcases open_slice_fields Try.underlying57 Try.underlying36 (by kernel_rfl) (by kernel_rfl) h with ⟨hcs, _⟩ | ⟨a, len, cap, m, D, Pl, hcs, _, hl, hm, hmm, hx, hcell⟩
  · simp at hcs
    subst hcs
    exact ⟨none, 0, [], rfl, ⟨rfl, by simp, fun hp => absurd hp (by simp)⟩, by decide⟩
  · simp at hcs
    subst hcs hx
    have hlm : len ≤ m := by rw [hmm]; split <;> omega
    have hb := (wb_slice Try.underlying57 hw).1
    rw [show Try.prog.bytesOf 36 = 16 by kernel_rfl] at hb
    simp only [List.length_map, List.length_range, reachBytes] at hb
    have hv : ∀ i, i < len → ∃ q : Int × Nat, w.cell? (a.add (i * 2)) = some (.int .i64 q.1) ∧ w.cell? (a.add (i * 2 + 1)) = some (.int .u64 (q.2 : Int)) ∧ q.2 < 18446744073709551616 := by
      intro i hi
      obtain ⟨ys, n, _, _, _, hf⟩ := hcell i (by omega)
      obtain ⟨v0, y0, c0, _, t0⟩ := hf 0 _ rfl
      obtain ⟨v1, y1, c1, _, t1⟩ := hf 1 _ rfl
      obtain ⟨k, e0, _, _⟩ := DataW.trod_int Try.underlying3 t0
      obtain ⟨b, e1, _, wb⟩ := DataW.trod_int Try.underlying23 t1
      simp at e0 e1
      subst e0 e1
      obtain ⟨n, rfl, hn⟩ := nat_of_wf wb
      exact ⟨(k, n), c0, c1, hn⟩
    obtain ⟨q, hq⟩ := Go.Deep.choose_lt hv
    refine ⟨some a, cap, (List.range len).map q, by simp, ⟨by simp, ?_, fun hp => ?_⟩, by simpa using hb⟩
    · intro v hm
      obtain ⟨i, hi, rfl⟩ := List.mem_map.1 hm
      exact (hq i (List.mem_range.1 hi)).2.2
    · have hp' : 0 < len := by simpa using hp
      obtain ⟨b, off, rfl⟩ := spot_of (hq 0 hp').1
      refine ⟨b, off, rfl, fun i k c hi => ?_⟩
      have hil : i < len := by have := (List.getElem?_eq_some_iff.1 hi).1; simpa using this
      rw [List.getElem?_map, List.getElem?_range hil] at hi
      simp at hi
      have := hq i hil
      rw [hi, add_plain, add_plain] at this
      exact ⟨this.1, by rw [Nat.add_assoc]; exact this.2.1⟩
end
end Go.Proofs.Ytfjnphiegoogoaa

/- Lk -/
namespace Go.Proofs.Ytfjnphiegoogoaa
open Go.ChangeShapes Go.WideShapes Go.ChangeAt Go.RowKit Go.Fl
set_option linter.unusedVariables false
set_option linter.unusedSimpArgs false

/-- the 64 bits of a whole number -/
def nU (n : Int) : Nat := (IntKind.u64.wrap n).toNat
theorem nU_eq (n : Int) : ((nU n : Nat) : Int) = IntKind.u64.wrap n := by
  unfold nU
  have : 0 ≤ IntKind.u64.wrap n := by rw [IntKind.wrap_u64]; omega
  omega
theorem nU_lt (n : Int) : nU n < 18446744073709551616 := by
  have h := nU_eq n
  have : IntKind.u64.wrap n < 18446744073709551616 := by rw [IntKind.wrap_u64]; omega
  omega

/-- an attribute of an event of a script -/
def attrP (es : List Ev) (p a : Int) : Int × Nat :=
  if p < 0 then (0, 0) else
  match es[p.toNat]? with
  | none => (0, 0)
  | some e => if a = -1 then (1, nU e.2.1) else if a < 0 then (0, 0) else
    match e.2.2[a.toNat]? with
    | none => (0, 0)
    | some v => (clK v.1 v.2, clB v.1 v.2)
/-- the events that a position has -/
def placesP (bs : List (List Int)) (pos : Int) : List Int := if pos < 0 then [] else (bs[pos.toNat]?).getD []

/-- a value is answered -/
def VIs (p : Int × Nat) (w : World) (e : Ending) (w' : World) : Prop := e = .returned (.agg #[.int .i64 p.1, .int .u64 ((p.2 : Nat) : Int)]) ∧ Below w.heap.size w w'
theorem VIs.mk {k : Int} {b : Nat} {x : Int} {w w' : World} (hx : x = (b : Int)) (hb : Below w.heap.size w w') : VIs (k, b) w (.returned (.agg #[.int .i64 k, .int .u64 x])) w' := by
  subst hx; exact ⟨rfl, hb⟩

theorem ofint_e (n : Int) (w : World) :
    Calls Try.prog 79 #[.int .i64 n] w fun e w' => e = .returned (.agg #[.int .i64 1, .int .u64 (IntKind.u64.wrap n)]) ∧ Below w.heap.size w w' := by
  go_enter Try.func79, Try.ntmps79
  go_wp2
  exact bodyPost_ret (v := .agg #[.int .i64 1, .int .u64 (IntKind.u64.wrap n)]) (by simp [results, Try.results79, go_sem]) rfl ⟨rfl, below1 _ _⟩

/-- a look by value -/
abbrev lookV (E B : Option Addr) (ne ce nb cb : Nat) (cur : Int) : Value := .agg #[.slice E ne ce, .slice B nb cb, .int .i64 cur]
abbrev lookO (E B : Option Addr) (ne ce nb cb : Nat) (cur : Int) : Obj := .cells #[.slice E ne ce, .slice B nb cb, .int .i64 cur] 34

/-- a list of whole numbers is answered -/
def PIs (ks : List Int) (w : World) (e : Ending) (w' : World) : Prop := ∃ A cap, e = .returned (.slice A ks.length cap) ∧ IntsAt w' A ks ∧ Below w.heap.size w w'

theorem places_any (E B : Option Addr) (ne ce cb : Nat) (cur : Int) (bs : List (List Int)) (pos : Int) (w : World) (hb : KindsAt w B bs) (hl : bs.length ≤ 9223372036854775807) :
    Calls Try.prog 80 #[lookV E B ne ce bs.length cb cur, .int .i64 pos] w (PIs (placesP bs pos) w) := by
  by_cases h1 : pos < 0
  · have hp : placesP bs pos = [] := by unfold placesP; rw [if_pos h1]
    rw [hp]; clear hp
    go_enter Try.func80, Try.ntmps80
    go_wp2
    go_ret
    exact ⟨none, 0, rfl, fun h => absurd h (by simp), m1 _ _⟩
  obtain ⟨p, rfl⟩ : ∃ p : Nat, pos = (p : Int) := ⟨pos.toNat, by omega⟩
  by_cases h2 : (p : Int) < (bs.length : Int)
  · have hp : placesP bs (p : Int) = bs[p]'(by omega) := by
      unfold placesP; rw [if_neg h1]; simp [List.getElem?_eq_getElem (show p < bs.length by omega)]
    rw [hp]
    have hu := m1 w (lookO E B ne ce bs.length cb cur)
    obtain ⟨b, off, e2, hc⟩ := hb.later hu (by omega)
    obtain ⟨x0, q0, UA, ucap, e3, hI⟩ := hc p _ (List.getElem?_eq_getElem (by omega))
    subst e2 e3
    generalize bs[p] = ks at *
    replace hI := Lib.hid hI
    replace hu := Lib.hid hu
    clear hc hb hp
    go_enter Try.func80, Try.ntmps80
    go_wp2
    go_ret
    exact ⟨_, _, rfl, hI.out, hu.out⟩
  · have hp : placesP bs (p : Int) = [] := by
      unfold placesP; rw [if_neg h1]; simp [List.getElem?_eq_none (show bs.length ≤ p by omega)]
    rw [hp]; clear hp
    go_enter Try.func80, Try.ntmps80
    go_wp2
    go_ret
    exact ⟨none, 0, rfl, fun h => absurd h (by simp), m1 _ _⟩

theorem attrP_in (es : List Ev) (p : Nat) (a : Int) (ev : Ev) (h : es[p]? = some ev) : attrP es (p : Int) a = if a = -1 then (1, nU ev.2.1) else if a < 0 then (0, 0) else
    match ev.2.2[a.toNat]? with
    | none => (0, 0)
    | some v => (clK v.1 v.2, clB v.1 v.2) := by
  unfold attrP
  rw [if_neg (by omega), show ((p : Int)).toNat = p by omega, h]

set_option maxHeartbeats 4000000 in
set_option maxRecDepth 100000 in
theorem attribute_any (E B : Option Addr) (ce nb cb : Nat) (cur : Int) (es : List Ev) (p a : Int) (w : World) (he : EvsAt w E es) (hl : es.length ≤ 9223372036854775807) (hl2 : ∀ e ∈ es, e.2.2.length ≤ 9223372036854775807) :
    Calls Try.prog 78 #[lookV E B es.length ce nb cb cur, .int .i64 p, .int .i64 a] w (VIs (attrP es p a) w) := by
  by_cases h1 : p < 0
  · have hp : attrP es p a = (0, 0) := by unfold attrP; rw [if_pos h1]
    rw [hp]; clear hp
    go_enter Try.func78, Try.ntmps78
    go_wp2
    exact bodyPost_ret (v := .agg #[.int .i64 0, .int .u64 0]) (by simp [results, Try.results78, go_sem]) rfl (.mk rfl (below2 _ _ _))
  obtain ⟨p, rfl⟩ : ∃ q : Nat, p = (q : Int) := ⟨p.toNat, by omega⟩
  by_cases h2 : (p : Int) < (es.length : Int)
  · have hp := attrP_in es p a _ (List.getElem?_eq_getElem (show p < es.length by omega))
    have hlv := hl2 _ (List.getElem_mem (show p < es.length by omega))
    rw [hp]
    have hu := m2 w (lookO E B es.length ce nb cb cur) (.cells #[.int .i64 0, .int .u64 0] 25)
    obtain ⟨b, off, e2, hc⟩ := he.later hu (by omega)
    obtain ⟨q0, q1, VA, vcap, q2, hR⟩ := hc p _ (List.getElem?_eq_getElem (by omega))
    subst e2
    generalize es[p] = ev at *
    obtain ⟨ty, tm, vs⟩ := ev
    simp only at hlv q0 q1 q2 hR ⊢
    clear hc he hp hl2
    replace hu := Lib.hid hu
    by_cases c1 : a = -1
    · rw [if_pos c1]
      have x1 : (a == -1) = true := by simpa using c1
      subst c1
      clear hR q2
      go_enter Try.func78, Try.ntmps78
      go_wp2_with fail
      refine (ofint_e _ _).mono ?_; rintro e w1 ⟨rfl, hb1⟩
      obtain ⟨hc, hf⟩ := bcell hb1
      obtain ⟨_, r1, r2⟩ := put2 (w := w1) (g := w.heap.size + 1) (.int .i64 1) (.int .u64 (IntKind.u64.wrap tm)) (x := .int .i64 0) (y := .int .u64 0) (by rw [hc _ _ (by simp)]; simp [go_sem]) (by rw [hc _ _ (by simp)]; simp [go_sem])
      go_wp2
      exact bodyPost_ret (v := .agg #[.int .i64 1, .int .u64 (IntKind.u64.wrap tm)]) (by simp [results, Try.results78, go_sem, r1, r2]) rfl (.mk (nU_eq _).symm (((below_more hu.out hb1).setCell (by show w.heap.size ≤ w.heap.size + 1; omega) _).setCell (by show w.heap.size ≤ w.heap.size + 1; omega) _))
    rw [if_neg c1]
    have x1 : (a == -1) = false := by simpa using c1
    by_cases c2 : a < 0
    · rw [if_pos c2]
      clear hR q2
      go_enter Try.func78, Try.ntmps78
      go_wp2
      exact bodyPost_ret (v := .agg #[.int .i64 0, .int .u64 0]) (by simp [results, Try.results78, go_sem]) rfl (.mk rfl (by simpa using hu.out))
    rw [if_neg c2]
    obtain ⟨j, rfl⟩ : ∃ q : Nat, a = (q : Int) := ⟨a.toNat, by omega⟩
    by_cases c3 : (j : Int) < (vs.length : Int)
    · have hj : vs[((j : Int)).toNat]? = some (vs[j]'(by omega)) := by rw [show ((j : Int)).toNat = j by omega]; exact List.getElem?_eq_getElem (by omega)
      rw [hj]
      have hbits := hR.2.1 _ (List.getElem_mem (show j < vs.length by omega))
      obtain ⟨b2, off2, e3, hcv⟩ := hR.2.2 (by omega)
      have hjl : j < vs.length := by omega
      have hvk : vs[j]? = some (vs[j].1, vs[j].2) := List.getElem?_eq_getElem hjl
      obtain ⟨z0, z1⟩ := hcv j _ _ hvk
      clear hvk
      subst e3
      generalize vs[j] = v at *
      obtain ⟨k, bb⟩ := v
      simp only at hbits z0 z1 ⊢
      clear hcv hR hj
      have R := Lib.hid (fun w => clean_any k bb w hbits)
      clear hbits
      generalize clK k bb = k2 at *
      generalize clB k bb = b3 at *
      go_enter Try.func78, Try.ntmps78
      go_wp2_with fail
      refine (R.out _).mono ?_; rintro e w1 ⟨rfl, hb1⟩
      obtain ⟨hc, hf⟩ := bcell hb1
      obtain ⟨_, r1, r2⟩ := put2 (w := w1) (g := w.heap.size + 1) (.int .i64 k2) (.int .u64 (b3 : Int)) (x := .int .i64 0) (y := .int .u64 0) (by rw [hc _ _ (by simp)]; simp [go_sem]) (by rw [hc _ _ (by simp)]; simp [go_sem])
      go_wp2
      exact bodyPost_ret (v := .agg #[.int .i64 k2, .int .u64 (b3 : Int)]) (by simp [results, Try.results78, go_sem, r1, r2]) rfl (.mk rfl (((below_more hu.out hb1).setCell (by show w.heap.size ≤ w.heap.size + 1; omega) _).setCell (by show w.heap.size ≤ w.heap.size + 1; omega) _))
    · have hj : vs[((j : Int)).toNat]? = none := by rw [show ((j : Int)).toNat = j by omega]; exact List.getElem?_eq_none (by omega)
      rw [hj]
      clear hR
      go_enter Try.func78, Try.ntmps78
      go_wp2
      exact bodyPost_ret (v := .agg #[.int .i64 0, .int .u64 0]) (by simp [results, Try.results78, go_sem]) rfl (.mk rfl (by simpa using hu.out))
  · have hp : attrP es (p : Int) a = (0, 0) := by
      unfold attrP; rw [if_neg h1]; simp [List.getElem?_eq_none (show es.length ≤ p by omega)]
    rw [hp]; clear hp
    go_enter Try.func78, Try.ntmps78
    go_wp2
    exact bodyPost_ret (v := .agg #[.int .i64 0, .int .u64 0]) (by simp [results, Try.results78, go_sem]) rfl (.mk rfl (below2 _ _ _))
end Go.Proofs.Ytfjnphiegoogoaa

/- App -/
namespace Go.Proofs.Ytfjnphiegoogoaa
open Go.ChangeShapes Go.WideShapes Go.ChangeAt Go.RowKit Go.Fl

theorem below3 (w : World) (o p q : Obj) : Below w.heap.size w (((w.alloc o).alloc p).alloc q) := (below2 w o p).alloc (by simp; omega) _

theorem plus_ok (a b : Int) (w : World) (h1 : -9223372036854775808 ≤ a + b) (h2 : a + b ≤ 9223372036854775807) (hb1 : -9223372036854775808 ≤ b) (hb2 : b ≤ 9223372036854775807) :
    Calls Try.prog 70 #[.int .i64 a, .int .i64 b] w fun e w' => e = .returned (.int .i64 (a + b)) ∧ w = w' := by
  go_enter Try.func70, Try.ntmps70
  go_wp2
  all_goals first | (go_ret; exact ⟨rfl, rfl⟩) | (exfalso; omega)

theorem idle (p : Addr) (w : World) :
    CallsD Try.prog 22 #[.pointer (some p)] .returning w fun e u' w' => e = .returned (.tuple #[]) ∧ u' = .returning ∧ w' = w := by
  refine callsD_of_wpS Try.func22 rfl fun c₀ cs hu => ?_
  apply wpS_seq
  apply wpS_region
  simp [wpOpsS, go_sem, recoverD, hu, Try.ntmps22, Exit.thenS]
  refine wpS_of_wp ?_
  go_wp2
  cases c₀
  simp_all [bodyPostS, results, Try.results22]

theorem two_add (x y : Int) (w : World) (h1 : -9223372036854775808 ≤ x + y) (h2 : x + y ≤ 9223372036854775807) (hy1 : -9223372036854775808 ≤ y) (hy2 : y ≤ 9223372036854775807)
    (p q : Int) (hp : wrap64 p = x) (hq : wrap64 q = y) :
    Calls Try.prog 25 #[.int .i64 1, .agg #[.int .i64 1, .int .u64 p], .agg #[.int .i64 1, .int .u64 q]] w fun e w' => e = .returned (.agg #[.int .i64 1, .int .u64 (IntKind.u64.wrap (x + y))]) ∧ Below w.heap.size w w' := by
  go_enter Try.func25, Try.ntmps25
  go_wp2_with (first | (go_at_call 48; go_in) | (go_at_call 65; go_in) | (go_at_call 50; go_in) | (go_at_call 70; refine (plus_ok _ _ _ h1 h2 hy1 hy2).mono ?_; rintro e w' ⟨rfl, rfl⟩))
  refine (ofint_v _ _).mono ?_; rintro e w1 ⟨rfl, hb1⟩
  obtain ⟨hc, hf⟩ := bcell hb1
  obtain ⟨_, q1, q2⟩ := put2 (w := w1) (g := w.heap.size + 1 + 1) (.int .i64 1) (.int .u64 (IntKind.u64.wrap (x + y))) (x := .int .i64 0) (y := .int .u64 0) (by rw [hc _ _ (by simp)]; simp [go_sem]) (by rw [hc _ _ (by simp)]; simp [go_sem])
  go_wp2
  exact bodyPost_ret (v := .agg #[.int .i64 1, .int .u64 (IntKind.u64.wrap (x + y))]) (by simp [results, Try.results25, go_sem, q1, q2]) rfl ⟨rfl, ((below_more (below3 w _ _ _) hb1).setCell (by show w.heap.size ≤ w.heap.size + 1 + 1; omega) _).setCell (by show w.heap.size ≤ w.heap.size + 1 + 1; omega) _⟩

/-- what stands while Apply's operands are made: both values, the answer's place -/
def ArgsJ (w0 : World) (b off : Nat) (k1 : Int) (b1 : Nat) (k2 : Int) (b2 : Nat) (w' : World) : Prop :=
  w'.cell? ⟨b, off, none⟩ = some (.int .i64 k1) ∧ w'.cell? ⟨b, off + 1, none⟩ = some (.int .u64 (b1 : Int)) ∧ w'.cell? ⟨b, off + 2, none⟩ = some (.int .i64 k2) ∧ w'.cell? ⟨b, off + 2 + 1, none⟩ = some (.int .u64 (b2 : Int)) ∧
  w'.cell? ⟨w0.heap.size, 0, none⟩ = some (.int .i64 0) ∧ w'.cell? ⟨w0.heap.size, 1, none⟩ = some (.int .u64 0) ∧ w'.frozen? ⟨w0.heap.size, 0, none⟩ = false ∧ w'.frozen? ⟨w0.heap.size, 1, none⟩ = false ∧ Below w0.heap.size w0 w'

theorem ArgsJ.later {w0 w w1 : World} {b off : Nat} {k1 k2 : Int} {b1 b2 : Nat} (h : ArgsJ w0 b off k1 b1 k2 b2 w) (hb : Below w.heap.size w w1) : ArgsJ w0 b off k1 b1 k2 b2 w1 := by
  obtain ⟨h0, h1, h2, h3, h4, h5, h6, h7, h8⟩ := h
  have hg := block_of_cell h4
  exact ⟨cell_later hb h0, cell_later hb h1, cell_later hb h2, cell_later hb h3, cell_later hb h4, cell_later hb h5, (hb.frozen (p := ⟨w0.heap.size, 0, none⟩) hg).trans h6, (hb.frozen (p := ⟨w0.heap.size, 1, none⟩) hg).trans h7, below_more h8 hb⟩

set_option maxHeartbeats 4000000 in
/-- Apply of two values where the operator answers. -/
theorem apply_two (op : Int) (A : Option Addr) (cap : Nat) (k1 k2 : Int) (b1 b2 : Nat) (k c : Int) (w : World) (hv : RowV w A 2 [(k1, b1), (k2, b2)])
    (hret : ∀ w, Calls Try.prog 25 #[.int .i64 op, .agg #[.int .i64 (clK k1 b1), .int .u64 ((clB k1 b1 : Nat) : Int)], .agg #[.int .i64 (clK k2 b2), .int .u64 ((clB k2 b2 : Nat) : Int)]] w fun e w' => e = .returned (.agg #[.int .i64 k, .int .u64 c]) ∧ Below w.heap.size w w') :
    Calls Try.prog 15 #[.int .i64 op, .slice A 2 cap] w fun e w' => e = .returned (.agg #[.int .i64 k, .int .u64 c]) ∧ Below w.heap.size w w' := by
  have hmf : ∀ (fn : Fn) (first cap : Array Value) (w : World), (Instr.makeFunc fn first cap).run Try.prog w = .ok (.func fn first cap) w := fun _ _ _ _ => rfl
  obtain ⟨_, hb, hc0⟩ := hv
  obtain ⟨b, off, rfl, hcell⟩ := hc0 (by decide)
  obtain ⟨r0, r1⟩ := hcell 0 k1 b1 rfl
  obtain ⟨r2, r3⟩ := hcell 1 k2 b2 rfl
  have l1 : b1 < 18446744073709551616 := hb (k1, b1) (by simp)
  have l2 : b2 < 18446744073709551616 := hb (k2, b2) (by simp)
  have HR := Lib.hid hret
  clear hcell hc0 hb hret
  go_enter_defers Try.func15, Try.ntmps15
  have base : ArgsJ w b off k1 b1 k2 b2 (w.alloc (.cells #[.int .i64 0, .int .u64 0] 25)).drew := by
    refine ⟨?_, ?_, ?_, ?_, by simp, by simp, by simp, by simp, (below1 _ _).drew⟩
    · simpa using cell_later (below1 w (.cells #[.int .i64 0, .int .u64 0] 25)) r0
    · simpa using cell_later (below1 w (.cells #[.int .i64 0, .int .u64 0] 25)) r1
    · simpa using cell_later (below1 w (.cells #[.int .i64 0, .int .u64 0] 25)) r2
    · simpa using cell_later (below1 w (.cells #[.int .i64 0, .int .u64 0] 25)) r3
  have base' := base
  obtain ⟨s0, s1, s2, s3, s4, s5, s6, s7, s8⟩ := base'
  clear r0 r1 r2 r3
  go_wp2
  refine wp_region_noPanic ?_
  go_region_with (first | (go_at_call 24; refine (clean_any _ _ _ (by assumption)).mono ?_; rintro e w1 ⟨rfl, hb1⟩; have j1 := ArgsJ.later (by assumption) hb1; have j2 := j1; obtain ⟨p0, p1, p2, p3, p4, p5, p6, p7, p8⟩ := j2) | (go_at_call 25; refine (HR.out _).mono ?_; rintro e w1 ⟨rfl, hb1⟩; have j1 := ArgsJ.later (by assumption) hb1; have j2 := j1; obtain ⟨p0, p1, p2, p3, p4, p5, p6, p7, p8⟩ := j2))
  all_goals
    refine NoPanic.normal ?_
    obtain ⟨_, q1, q2⟩ := put2 (.int .i64 k) (.int .u64 c) p4 p5
    go_wp2
    refine leaves_cons (f := 22) (args := #[.pointer (some ⟨w.heap.size, 0, none⟩)]) (by simp) (by simp [go_sem]) ?_
    refine (idle _ _).mono ?_
    rintro e u' w'' ⟨rfl, rfl, rfl⟩
    have B2 := ((p8.setCell (p := ⟨w.heap.size, 0, none⟩) (Nat.le_refl _) (.int .i64 k)).setCell (p := ⟨w.heap.size, 1, none⟩) (Nat.le_refl _) (.int .u64 c))
    simp [Leaves, settle, results, Try.results15, go_sem, q1, q2, B2]
end Go.Proofs.Ytfjnphiegoogoaa

/- Do -/
namespace Go.Proofs.Ytfjnphiegoogoaa
open Go.ChangeShapes Go.WideShapes Go.ChangeAt Go.RowKit Go.Fl

theorem cellsV_at (vs : List (Int × Nat)) : ∀ (i : Nat) (k : Int) (c : Nat), vs[i]? = some (k, c) → (cellsV vs)[i * 2]? = some (.int .i64 k) ∧ (cellsV vs)[i * 2 + 1]? = some (.int .u64 (c : Int)) := by
  induction vs with
  | nil => intro i k c h; simp at h
  | cons v vs ih =>
    intro i k c h
    cases i with
    | zero => simp at h; subst h; exact ⟨rfl, rfl⟩
    | succ i =>
      have := ih i k c (by simpa using h)
      rw [show (i + 1) * 2 = i * 2 + 2 by omega]
      exact this

theorem own_row {w : World} {base : Nat} {e : TypeId} {v : Value} {vs : List (Int × Nat)} (h : w.ownsRow base e 2 v vs.length (cellsV vs)) (hb : ∀ v ∈ vs, v.2 < 18446744073709551616) :
    ∃ A cap, v = .slice A vs.length cap ∧ RowV w A vs.length vs := by
  by_cases z : vs.length = 0
  · have hnil : vs = [] := List.eq_nil_of_length_eq_zero z
    subst hnil
    rcases h.2 with ⟨rfl, _⟩ | ⟨g, cap, cur, rfl, _⟩
    · exact ⟨none, 0, rfl, rfl, hb, fun h => absurd h (by simp)⟩
    · exact ⟨some ⟨g, 0, none⟩, cap, rfl, rfl, hb, fun h => absurd h (by simp)⟩
  · obtain ⟨g, cap, rfl, _, _⟩ := h.form (by omega)
    have hc := h.cells (g := g) rfl
    refine ⟨_, cap, rfl, rfl, hb, fun _ => ⟨g, 0, rfl, fun i k c hi => ?_⟩⟩
    have hx := cellsV_at vs i k c hi
    have e0 := hc _ _ hx.1
    have e1 := hc _ _ hx.2
    constructor
    · rw [show (⟨g, 0 + i * 2, none⟩ : Addr) = (⟨g, 0, none⟩ : Addr).add (i * 2) by unfold Addr.add; split <;> simp_all]; exact e0
    · rw [show (⟨g, 0 + i * 2 + 1, none⟩ : Addr) = (⟨g, 0, none⟩ : Addr).add (i * 2 + 1) by unfold Addr.add; split <;> simp_all]; exact e1

end Go.Proofs.Ytfjnphiegoogoaa

/- Res -/
namespace Go.Proofs.Ytfjnphiegoogoaa
open Go.ChangeShapes Go.WideShapes Go.ChangeAt Go.RowKit Go.Fl

/-- the kind of what an operator makes of one kind; of two alike -/
def r1P (op k : Int) : Int := if op = 6 ∧ (k = 1 ∨ k = 4) then k else if (op = 15 ∧ k = 2) ∨ (op = 17 ∧ k = 4) then 2 else if op = 16 ∧ k = 1 then 4 else 0
def r2P (op k : Int) : Int := if (1 ≤ op ∧ op ≤ 4 ∧ (k = 1 ∨ k = 4)) ∨ (op = 5 ∧ k = 1) then k else if ((op = 7 ∨ op = 8) ∧ 1 ≤ k ∧ k ≤ 4) ∨ (9 ≤ op ∧ op ≤ 12 ∧ (k = 1 ∨ k = 4)) ∨ ((op = 13 ∨ op = 14) ∧ k = 2) then 2 else 0

theorem isnum_any (k : Int) (w : World) :
    Calls Try.prog 65 #[.int .i64 k] w fun e w' => e = .returned (.bool (decide (k = 1 ∨ k = 4))) ∧ w = w' := by
  go_enter Try.func65, Try.ntmps65
  go_wp2
  all_goals go_ret
  all_goals refine ⟨ret_bool ?_, rfl⟩
  all_goals rw [Bool.eq_iff_iff]
  all_goals simp only [decide_eq_true_eq, Bool.or_eq_true, beq_iff_eq, true_iff]
  all_goals omega

theorem one_any (op k : Int) (w : World) :
    Calls Try.prog 38 #[.int .i64 op, .int .i64 k] w fun e w' => e = .returned (.int .i64 (r1P op k)) ∧ w = w' := by
  have E := Lib.hid (rfl : r1P op k = r1P op k)
  by_cases c : k = 1 ∨ k = 4
  · have H := Lib.hid (isnum_any k w)
    have H2 : Hid (Calls Try.prog 65 #[.int .i64 k] w fun e w' => e = .returned (.bool true) ∧ w = w') := by rw [← decide_eq_true c]; exact H
    have C := Lib.hid c
    clear H c E
    go_enter Try.func38, Try.ntmps38
    go_wp2_with (go_at_call 65; refine H2.out.mono ?_; rintro e w' ⟨rfl, rfl⟩)
    all_goals go_ret
    all_goals refine ⟨ret_int ?_, rfl⟩
    all_goals have c := C.out
    all_goals (try simp only [beq_iff_eq, beq_eq_false_iff_ne] at *)
    all_goals unfold r1P
    all_goals ((repeat' split) <;> omega)
  · have H := Lib.hid (isnum_any k w)
    have H2 : Hid (Calls Try.prog 65 #[.int .i64 k] w fun e w' => e = .returned (.bool false) ∧ w = w') := by rw [← decide_eq_false c]; exact H
    have C := Lib.hid c
    clear H c E
    go_enter Try.func38, Try.ntmps38
    go_wp2_with (go_at_call 65; refine H2.out.mono ?_; rintro e w' ⟨rfl, rfl⟩)
    all_goals go_ret
    all_goals refine ⟨ret_int ?_, rfl⟩
    all_goals have c := C.out
    all_goals (try simp only [beq_iff_eq, beq_eq_false_iff_ne] at *)
    all_goals unfold r1P
    all_goals ((repeat' split) <;> omega)

theorem two_any (op k : Int) (w : World) :
    Calls Try.prog 48 #[.int .i64 op, .int .i64 k] w fun e w' => e = .returned (.int .i64 (r2P op k)) ∧ w = w' := by
  have E := Lib.hid (rfl : r2P op k = r2P op k)
  by_cases c : k = 1 ∨ k = 4
  · have H := Lib.hid (isnum_any k w)
    have H2 : Hid (Calls Try.prog 65 #[.int .i64 k] w fun e w' => e = .returned (.bool true) ∧ w = w') := by rw [← decide_eq_true c]; exact H
    have C := Lib.hid c
    clear H c E
    go_enter Try.func48, Try.ntmps48
    go_wp2_with (go_at_call 65; refine H2.out.mono ?_; rintro e w' ⟨rfl, rfl⟩)
    all_goals go_ret
    all_goals refine ⟨ret_int ?_, rfl⟩
    all_goals have c := C.out
    all_goals (try simp only [beq_iff_eq, beq_eq_false_iff_ne] at *)
    all_goals unfold r2P
    all_goals ((repeat' split) <;> omega)
  · have H := Lib.hid (isnum_any k w)
    have H2 : Hid (Calls Try.prog 65 #[.int .i64 k] w fun e w' => e = .returned (.bool false) ∧ w = w') := by rw [← decide_eq_false c]; exact H
    have C := Lib.hid c
    clear H c E
    go_enter Try.func48, Try.ntmps48
    go_wp2_with (go_at_call 65; refine H2.out.mono ?_; rintro e w' ⟨rfl, rfl⟩)
    all_goals go_ret
    all_goals refine ⟨ret_int ?_, rfl⟩
    all_goals have c := C.out
    all_goals (try simp only [beq_iff_eq, beq_eq_false_iff_ne] at *)
    all_goals unfold r2P
    all_goals ((repeat' split) <;> omega)

/-- a slice of ints that reads as zs -/
def RowI (k : IntKind) (w : World) (A : Option Addr) (n : Nat) (zs : List Int) : Prop :=
  zs.length = n ∧ (0 < n → ∃ b off, A = some ⟨b, off, none⟩ ∧ ∀ (i : Nat) (z : Int), zs[i]? = some z → w.cell? ⟨b, off + i, none⟩ = some (.int k z))

/-- the kind of what an operator makes of kinds -/
def resP (op : Int) (zs : List Int) : Int := match zs with
  | [k] => r1P op k
  | [k, l] => if k = l then r2P op k else 0
  | _ => 0

theorem resP_nil (op : Int) : 0 = resP op [] := rfl
theorem resP_one (op k : Int) : r1P op k = resP op [k] := rfl
theorem resP_eq (op k : Int) : r2P op k = resP op [k, k] := by simp [resP]
theorem resP_ne (op k l : Int) (h : ¬ k = l) : 0 = resP op [k, l] := by simp [resP, h]
theorem resP_more (op k l m : Int) (zs : List Int) : 0 = resP op (k :: l :: m :: zs) := rfl


set_option maxHeartbeats 4000000 in
theorem rresult_any (op : Int) (A : Option Addr) (n cap : Nat) (zs : List Int) (w : World) (hv : RowI .i64 w A n zs) (hn : n ≤ 9223372036854775807) :
    Calls Try.prog 34 #[.int .i64 op, .slice A n cap] w fun e w' => e = .returned (.int .i64 (resP op zs)) ∧ ∃ k, w' = w.drewN k := by
  obtain ⟨hl, hc⟩ := hv
  match zs, hl, hc with
  | [], hl, hc =>
    subst hl
    have E := Lib.hid (resP_nil op)
    go_enter Try.func34, Try.ntmps34
    go_wp2_with fail
    go_quiet (fail)
    go_wp2_with fail
    go_ret
    exact ⟨ret_int E.out, _, rfl⟩
  | [k], hl, hc =>
    subst hl
    obtain ⟨b, off, rfl, hcell⟩ := hc (by simp)
    have h0 := hcell 0 k rfl
    simp at h0
    clear hcell hc
    have E := Lib.hid (resP_one op k)
    go_enter Try.func34, Try.ntmps34
    go_wp2
    all_goals go_ret
    all_goals refine ⟨ret_int ?_, 0, rfl⟩
    all_goals rw [← resP_one]
    all_goals (try simp only [beq_iff_eq, beq_eq_false_iff_ne] at *)
    all_goals unfold r1P
    all_goals ((repeat' split) <;> omega)
  | [k, l], hl, hc =>
    subst hl
    obtain ⟨b, off, rfl, hcell⟩ := hc (by simp)
    have h0 := hcell 0 k rfl
    have h1 := hcell 1 l rfl
    simp at h0
    clear hcell hc
    by_cases e : k = l
    · subst e
      have E := Lib.hid (resP_eq op k)
      have e1 : (k != k) = false := by simp
      go_enter Try.func34, Try.ntmps34
      go_wp2_with fail
      go_quiet (fail)
      go_wp2
      all_goals go_ret
      all_goals refine ⟨ret_int ?_, _, rfl⟩
      all_goals rw [← resP_eq]
      all_goals (try simp only [beq_iff_eq, beq_eq_false_iff_ne] at *)
      all_goals unfold r2P
      all_goals ((repeat' split) <;> omega)
    · have E := Lib.hid (resP_ne op k l e)
      have e1 : (k != l) = true := by simpa using e
      clear e
      go_enter Try.func34, Try.ntmps34
      go_wp2_with fail
      go_quiet (fail)
      go_wp2_with fail
      go_ret
      exact ⟨ret_int E.out, _, rfl⟩
  | k :: l :: m :: zs, hl, hc =>
    clear hc
    have f1 : ((n : Int) == 1) = false := by simp at hl ⊢; omega
    have f2 : ((n : Int) != 2) = true := by simp at hl ⊢; omega
    have E := Lib.hid (resP_more op k l m zs)
    clear hl
    go_enter Try.func34, Try.ntmps34
    go_wp2_with fail
    go_quiet (fail)
    go_wp2_with fail
    go_ret
    exact ⟨ret_int E.out, _, rfl⟩
end Go.Proofs.Ytfjnphiegoogoaa
