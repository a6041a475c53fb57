/- What the small functions of package value and of its laws answer, as contracts, for every input. -/
import Derived.Test.YtfjnphiegoogoaaRealE
import Derived.Below
import Derived.Laws.StructEq
import Derived.WalkSpells
namespace Go.Proofs.Ytfjnphiegoogoaa
open Go.ChangeShapes Go.WideShapes Go.ChangeAt Go.RowKit Go.Fl

theorem below1 (w : World) (o : Obj) : Below w.heap.size w (w.alloc o) := (Below.refl _ _).alloc (Nat.le_refl _) _
theorem below2 (w : World) (o p : Obj) : Below w.heap.size w ((w.alloc o).alloc p) := (below1 w o).alloc (by simp) _

theorem below_more {w0 w w1 : World} (h : Below w0.heap.size w0 w) (hb : Below w.heap.size w w1) : Below w0.heap.size w0 w1 := h.trans (hb.mono h.size)

theorem bcell {W w1 : World} (hb : Below W.heap.size W w1) : (∀ b o, b < W.heap.size → w1.cell? ⟨b, o, none⟩ = W.cell? ⟨b, o, none⟩) ∧ (∀ b o, b < W.heap.size → w1.frozen? ⟨b, o, none⟩ = W.frozen? ⟨b, o, none⟩) :=
  ⟨fun b o h => hb.cell (p := ⟨b, o, none⟩) h, fun b o h => hb.frozen (p := ⟨b, o, none⟩) h⟩

theorem put2 {w : World} {g : Nat} {x y : Value} (u v : Value) (h0 : w.cell? ⟨g, 0, none⟩ = some x) (h1 : w.cell? ⟨g, 1, none⟩ = some y) :
    (w.setCell ⟨g, 0, none⟩ u).cell? ⟨g, 0, none⟩ = some u ∧ ((w.setCell ⟨g, 0, none⟩ u).setCell ⟨g, 1, none⟩ v).cell? ⟨g, 1, none⟩ = some v ∧ ((w.setCell ⟨g, 0, none⟩ u).setCell ⟨g, 1, none⟩ v).cell? ⟨g, 0, none⟩ = some u := by
  have e0 : (w.setCell ⟨g, 0, none⟩ u).cell? ⟨g, 0, none⟩ = some u := World.cell?_setCell_same' _ _ _ (by rw [h0]; rfl)
  have e1 : (w.setCell ⟨g, 0, none⟩ u).cell? ⟨g, 1, none⟩ = some y := by rw [World.cell?_setCell_other _ _ _ _ (by simp), h1]
  refine ⟨e0, World.cell?_setCell_same' _ _ _ (by rw [e1]; rfl), ?_⟩
  rw [World.cell?_setCell_other _ _ _ _ (by simp), e0]

theorem eqV (k l b c : Int) (w : World) : (binOp .eql 25 (.agg #[.int .i64 k, .int .u64 b]) (.agg #[.int .i64 l, .int .u64 c])).run Try.prog w = .ok (.bool (decide (k = l ∧ b = c))) w := by
  by_cases h1 : k = l <;> by_cases h2 : b = c <;> simp [go_sem, h1, h2]
theorem eqR (k l b c : Int) (w : World) : (binOp .eql 36 (.agg #[.int .i64 k, .int .u64 b]) (.agg #[.int .i64 l, .int .u64 c])).run Try.prog w = .ok (.bool (decide (k = l ∧ b = c))) w := by
  by_cases h1 : k = l <;> by_cases h2 : b = c <;> simp [go_sem, h1, h2]

theorem block_of_cell {w : World} {a : Addr} {v : Value} (h : w.cell? a = some v) : a.block < w.heap.size := by
  by_cases c : a.block < w.heap.size
  · exact c
  · unfold World.cell? at h
    rw [Array.getElem?_eq_none (by omega)] at h
    simp at h

/-- a struct of two cells that lies in a block that may be written -/
theorem later2 {w w1 : World} {g : Nat} {u v : Value} (hb : Below w.heap.size w w1)
    (h : w.cell? ⟨g, 0, none⟩ = some u ∧ w.cell? ⟨g, 1, none⟩ = some v ∧ w.frozen? ⟨g, 0, none⟩ = false ∧ w.frozen? ⟨g, 1, none⟩ = false) :
    w1.cell? ⟨g, 0, none⟩ = some u ∧ w1.cell? ⟨g, 1, none⟩ = some v ∧ w1.frozen? ⟨g, 0, none⟩ = false ∧ w1.frozen? ⟨g, 1, none⟩ = false := by
  obtain ⟨h0, h1, h2, h3⟩ := h
  have hg : g < w.heap.size := block_of_cell h0
  exact ⟨cell_later hb h0, cell_later hb h1, (hb.frozen (p := ⟨g, 0, none⟩) hg).trans h2, (hb.frozen (p := ⟨g, 1, none⟩) hg).trans h3⟩

theorem ofint_v (n : Int) (w : World) :
    Calls Try.prog 44 #[.int .i64 n] w fun e w' => e = .returned (.agg #[.int .i64 1, .int .u64 (IntKind.u64.wrap n)]) ∧ Below w.heap.size w w' := by
  go_enter Try.func44, Try.ntmps44
  go_wp2
  exact bodyPost_ret (v := .agg #[.int .i64 1, .int .u64 (IntKind.u64.wrap n)]) (by simp [results, Try.results44, go_sem]) rfl ⟨rfl, below1 _ _⟩

theorem ofreal_v (n : Int) (w : World) :
    Calls Try.prog 40 #[.int .u64 n] w fun e w' => e = .returned (.agg #[.int .i64 4, .int .u64 n]) ∧ Below w.heap.size w w' := by
  go_enter Try.func40, Try.ntmps40
  go_wp2
  exact bodyPost_ret (v := .agg #[.int .i64 4, .int .u64 n]) (by simp [results, Try.results40, go_sem]) rfl ⟨rfl, below1 _ _⟩

def tB (x : Bool) : Int := if x then 1 else 0

theorem ofbool_v (x : Bool) (w : World) :
    Calls Try.prog 39 #[.bool x] w fun e w' => e = .returned (.agg #[.int .i64 2, .int .u64 (tB x)]) ∧ Below w.heap.size w w' := by
  cases x
  · go_enter Try.func39, Try.ntmps39
    go_wp2
    exact bodyPost_ret (v := .agg #[.int .i64 2, .int .u64 0]) (by simp [results, Try.results39, go_sem]) rfl ⟨rfl, below1 _ _⟩
  · go_enter Try.func39, Try.ntmps39
    go_wp2
    exact bodyPost_ret (v := .agg #[.int .i64 2, .int .u64 1]) (by simp [results, Try.results39, go_sem]) rfl ⟨rfl, below1 _ _⟩

theorem truth_any (x : Bool) (w : World) :
    Calls Try.prog 12 #[.bool x] w fun e w' => e = .returned (.agg #[.int .i64 2, .int .u64 (tB x)]) ∧ Below w.heap.size w w' := by
  cases x
  · go_enter Try.func12, Try.ntmps12
    go_wp2
    exact bodyPost_ret (v := .agg #[.int .i64 2, .int .u64 0]) (by simp [results, Try.results12, go_sem]) rfl ⟨rfl, below1 _ _⟩
  · go_enter Try.func12, Try.ntmps12
    go_wp2
    exact bodyPost_ret (v := .agg #[.int .i64 2, .int .u64 1]) (by simp [results, Try.results12, go_sem]) rfl ⟨rfl, below1 _ _⟩

/-- what a value counts as: its kind, its bits -/
def clK (k : Int) (b : Nat) : Int := if k = 1 ∨ (k = 2 ∧ b ≤ 1) ∨ (k = 3 ∧ b ≤ 63) ∨ k = 4 then k else 0
def clB (k : Int) (b : Nat) : Nat := if k = 4 then cn b else if k = 1 ∨ (k = 2 ∧ b ≤ 1) ∨ (k = 3 ∧ b ≤ 63) then b else 0

theorem ret_val {k k' b b' : Int} (h1 : k = k') (h2 : b = b') : Ending.returned (.agg #[.int .i64 k, .int .u64 b]) = .returned (.agg #[.int .i64 k', .int .u64 b']) := by rw [h1, h2]

theorem clean_any (k : Int) (b : Nat) (w : World) (hb : b < 18446744073709551616) :
    Calls Try.prog 24 #[.agg #[.int .i64 k, .int .u64 (b : Int)]] w fun e w' => e = .returned (.agg #[.int .i64 (clK k b), .int .u64 ((clB k b : Nat) : Int)]) ∧ Below w.heap.size w w' := by
  by_cases k1 : k = 1
  · subst k1
    have E1 := Lib.hid (show (1 : Int) = clK 1 b by unfold clK; rw [if_pos (by omega)])
    have E2 := Lib.hid (show (b : Int) = ((clB 1 b : Nat) : Int) by unfold clB; rw [if_neg (by omega), if_pos (by omega)])
    go_enter Try.func24, Try.ntmps24
    go_wp2
    exact bodyPost_ret (v := .agg #[.int .i64 1, .int .u64 (b : Int)]) (by simp [results, Try.results24, go_sem]) rfl ⟨ret_val E1.out E2.out, below2 _ _ _⟩
  have f1 : (k == 1) = false := by simpa using k1
  by_cases k2 : k = 2
  · subst k2
    by_cases c : b ≤ 1
    · have E1 := Lib.hid (show (2 : Int) = clK 2 b by unfold clK; rw [if_pos (by omega)])
      have E2 := Lib.hid (show (b : Int) = ((clB 2 b : Nat) : Int) by unfold clB; rw [if_neg (by omega), if_pos (by omega)])
      go_enter Try.func24, Try.ntmps24
      go_wp2
      exact bodyPost_ret (v := .agg #[.int .i64 2, .int .u64 (b : Int)]) (by simp [results, Try.results24, go_sem]) rfl ⟨ret_val E1.out E2.out, below2 _ _ _⟩
    · have E1 := Lib.hid (show (0 : Int) = clK 2 b by unfold clK; rw [if_neg (by omega)])
      have E2 := Lib.hid (show (0 : Int) = ((clB 2 b : Nat) : Int) by unfold clB; rw [if_neg (by omega), if_neg (by omega)]; rfl)
      go_enter Try.func24, Try.ntmps24
      go_wp2
      exact bodyPost_ret (v := .agg #[.int .i64 0, .int .u64 0]) (by simp [results, Try.results24, go_sem]) rfl ⟨ret_val E1.out E2.out, below2 _ _ _⟩
  have f2 : (k == 2) = false := by simpa using k2
  by_cases k3 : k = 3
  · subst k3
    by_cases c : b ≤ 63
    · have c' : b < 64 := by omega
      have E1 := Lib.hid (show (3 : Int) = clK 3 b by unfold clK; rw [if_pos (by omega)])
      have E2 := Lib.hid (show (b : Int) = ((clB 3 b : Nat) : Int) by unfold clB; rw [if_neg (by omega), if_pos (by omega)])
      go_enter Try.func24, Try.ntmps24
      go_wp2
      exact bodyPost_ret (v := .agg #[.int .i64 3, .int .u64 (b : Int)]) (by simp [results, Try.results24, go_sem]) rfl ⟨ret_val E1.out E2.out, below2 _ _ _⟩
    · have E1 := Lib.hid (show (0 : Int) = clK 3 b by unfold clK; rw [if_neg (by omega)])
      have E2 := Lib.hid (show (0 : Int) = ((clB 3 b : Nat) : Int) by unfold clB; rw [if_neg (by omega), if_neg (by omega)]; rfl)
      have c' : ¬ b < 64 := by omega
      go_enter Try.func24, Try.ntmps24
      go_wp2
      exact bodyPost_ret (v := .agg #[.int .i64 0, .int .u64 0]) (by simp [results, Try.results24, go_sem]) rfl ⟨ret_val E1.out E2.out, below2 _ _ _⟩
  have f3 : (k == 3) = false := by simpa using k3
  by_cases k4 : k = 4
  · subst k4
    have E1 := Lib.hid (show (4 : Int) = clK 4 b by unfold clK; rw [if_pos (by omega)])
    have E2 := Lib.hid (show ((cn b : Nat) : Int) = ((clB 4 b : Nat) : Int) by unfold clB; rw [if_pos rfl])
    go_enter Try.func24, Try.ntmps24
    go_wp2_with fail
    refine (canon_any _ _ hb).mono ?_; rintro e w' ⟨rfl, rfl⟩
    go_wp2_with fail
    refine (ofreal_v _ _).mono ?_; rintro e w1 ⟨rfl, hb1⟩
    obtain ⟨hc, hf⟩ := bcell hb1
    have hz : w.heap.size + 1 < w1.heap.size := by have := hb1.size; simp at this; omega
    obtain ⟨_, q1, q2⟩ := put2 (w := w1) (g := w.heap.size + 1) (.int .i64 4) (.int .u64 ((cn b : Nat) : Int)) (x := .int .i64 0) (y := .int .u64 0) (by rw [hc _ _ (by simp)]; simp) (by rw [hc _ _ (by simp)]; simp)
    go_wp2
    exact bodyPost_ret (v := .agg #[.int .i64 4, .int .u64 ((cn b : Nat) : Int)]) (by simp [results, Try.results24, go_sem, q1, q2]) rfl ⟨ret_val E1.out E2.out, (((below2 _ _ _).trans (hb1.mono (by simp; omega))).setCell (by simp) _).setCell (by simp) _⟩
  have f4 : (k == 4) = false := by simpa using k4
  have E1 := Lib.hid (show (0 : Int) = clK k b by unfold clK; rw [if_neg (by omega)])
  have E2 := Lib.hid (show (0 : Int) = ((clB k b : Nat) : Int) by unfold clB; rw [if_neg (by omega), if_neg (by omega)]; rfl)
  clear k1 k2 k3 k4
  go_enter Try.func24, Try.ntmps24
  go_wp2
  exact bodyPost_ret (v := .agg #[.int .i64 0, .int .u64 0]) (by simp [results, Try.results24, go_sem]) rfl ⟨ret_val E1.out E2.out, below2 _ _ _⟩

theorem rclean_any (k : Int) (b : Nat) (w : World) (hb : b < 18446744073709551616) :
    Calls Try.prog 18 #[.agg #[.int .i64 k, .int .u64 (b : Int)]] w fun e w' => e = .returned (.agg #[.int .i64 (clK k b), .int .u64 ((clB k b : Nat) : Int)]) ∧ Below w.heap.size w w' := by
  by_cases k1 : k = 1
  · subst k1
    have E1 := Lib.hid (show (1 : Int) = clK 1 b by unfold clK; rw [if_pos (by omega)])
    have E2 := Lib.hid (show (b : Int) = ((clB 1 b : Nat) : Int) by unfold clB; rw [if_neg (by omega), if_pos (by omega)])
    go_enter Try.func18, Try.ntmps18
    go_wp2
    exact bodyPost_ret (v := .agg #[.int .i64 1, .int .u64 (b : Int)]) (by simp [results, Try.results18, go_sem]) rfl ⟨ret_val E1.out E2.out, below2 _ _ _⟩
  have f1 : (k == 1) = false := by simpa using k1
  by_cases k2 : k = 2
  · subst k2
    by_cases c : b ≤ 1
    · have E1 := Lib.hid (show (2 : Int) = clK 2 b by unfold clK; rw [if_pos (by omega)])
      have E2 := Lib.hid (show (b : Int) = ((clB 2 b : Nat) : Int) by unfold clB; rw [if_neg (by omega), if_pos (by omega)])
      go_enter Try.func18, Try.ntmps18
      go_wp2
      exact bodyPost_ret (v := .agg #[.int .i64 2, .int .u64 (b : Int)]) (by simp [results, Try.results18, go_sem]) rfl ⟨ret_val E1.out E2.out, below2 _ _ _⟩
    · have E1 := Lib.hid (show (0 : Int) = clK 2 b by unfold clK; rw [if_neg (by omega)])
      have E2 := Lib.hid (show (0 : Int) = ((clB 2 b : Nat) : Int) by unfold clB; rw [if_neg (by omega), if_neg (by omega)]; rfl)
      go_enter Try.func18, Try.ntmps18
      go_wp2
      exact bodyPost_ret (v := .agg #[.int .i64 0, .int .u64 0]) (by simp [results, Try.results18, go_sem]) rfl ⟨ret_val E1.out E2.out, below2 _ _ _⟩
  have f2 : (k == 2) = false := by simpa using k2
  by_cases k3 : k = 3
  · subst k3
    by_cases c : b ≤ 63
    · have c' : b < 64 := by omega
      have E1 := Lib.hid (show (3 : Int) = clK 3 b by unfold clK; rw [if_pos (by omega)])
      have E2 := Lib.hid (show (b : Int) = ((clB 3 b : Nat) : Int) by unfold clB; rw [if_neg (by omega), if_pos (by omega)])
      go_enter Try.func18, Try.ntmps18
      go_wp2
      exact bodyPost_ret (v := .agg #[.int .i64 3, .int .u64 (b : Int)]) (by simp [results, Try.results18, go_sem]) rfl ⟨ret_val E1.out E2.out, below2 _ _ _⟩
    · have E1 := Lib.hid (show (0 : Int) = clK 3 b by unfold clK; rw [if_neg (by omega)])
      have E2 := Lib.hid (show (0 : Int) = ((clB 3 b : Nat) : Int) by unfold clB; rw [if_neg (by omega), if_neg (by omega)]; rfl)
      have c' : ¬ b < 64 := by omega
      go_enter Try.func18, Try.ntmps18
      go_wp2
      exact bodyPost_ret (v := .agg #[.int .i64 0, .int .u64 0]) (by simp [results, Try.results18, go_sem]) rfl ⟨ret_val E1.out E2.out, below2 _ _ _⟩
  have f3 : (k == 3) = false := by simpa using k3
  by_cases k4 : k = 4
  · subst k4
    have E1 := Lib.hid (show (4 : Int) = clK 4 b by unfold clK; rw [if_pos (by omega)])
    have E2 := Lib.hid (show ((cn b : Nat) : Int) = ((clB 4 b : Nat) : Int) by unfold clB; rw [if_pos rfl])
    go_enter Try.func18, Try.ntmps18
    go_wp2_with (go_at_call 30; refine (rcanon_any _ _ hb).mono ?_; rintro e w' ⟨rfl, rfl⟩)
    exact bodyPost_ret (v := .agg #[.int .i64 4, .int .u64 ((cn b : Nat) : Int)]) (by simp [results, Try.results18, go_sem]) rfl ⟨ret_val E1.out E2.out, below2 _ _ _⟩
  have f4 : (k == 4) = false := by simpa using k4
  have E1 := Lib.hid (show (0 : Int) = clK k b by unfold clK; rw [if_neg (by omega)])
  have E2 := Lib.hid (show (0 : Int) = ((clB k b : Nat) : Int) by unfold clB; rw [if_neg (by omega), if_neg (by omega)]; rfl)
  clear k1 k2 k3 k4
  go_enter Try.func18, Try.ntmps18
  go_wp2
  exact bodyPost_ret (v := .agg #[.int .i64 0, .int .u64 0]) (by simp [results, Try.results18, go_sem]) rfl ⟨ret_val E1.out E2.out, below2 _ _ _⟩
end Go.Proofs.Ytfjnphiegoogoaa
