/- AND, OR and NOT of values as of three truths (0 false, 1 true, 2 neither), as contracts. -/
import Derived.Test.YtfjnphiegoogoaaLogic
import Derived.Test.YtfjnphiegoogoaaDo
import Derived.Test.YtfjnphiegoogoaaOne
namespace Go.Proofs.Ytfjnphiegoogoaa
open Go.ChangeShapes Go.WideShapes Go.ChangeAt Go.RowKit Go.Fl

def tri (k : Int) (b : Nat) : Nat := if clK k b = 2 then (if clB k b = 0 then 0 else 1) else 2
def tvK (n : Nat) : Int := if n = 2 then 0 else 2
def tvB (n : Nat) : Nat := if n = 1 then 1 else 0
def bt (t x y : Nat) : Nat := if x = t ∨ y = t then t else if x = 2 ∨ y = 2 then 2 else x
def nt (x : Nat) : Nat := if x = 2 then 2 else 1 - x

theorem tri_lt (k : Int) (b : Nat) : tri k b < 3 := by unfold tri; (repeat' split) <;> omega
theorem bt_lt (t x y : Nat) (ht : t < 3) (hx : x < 3) : bt t x y < 3 := by unfold bt; (repeat' split) <;> omega
theorem nt_lt (x : Nat) : nt x < 3 := by unfold nt; split <;> omega
theorem tvB_lt (n : Nat) : tvB n < 18446744073709551616 := by unfold tvB; split <;> omega
theorem tri_tv (n : Nat) (h : n < 3) : tri (tvK n) (tvB n) = n := by
  match n, h with
  | 0, _ => decide
  | 1, _ => decide
  | 2, _ => decide

theorem cl_tri (k : Int) (b : Nat) (h : clK k b = 2) : clB k b = tvB (tri k b) ∧ tri k b < 2 := by
  have h2 : clB k b ≤ 1 := by
    unfold clK at h
    split at h
    · subst h; unfold clB; (repeat' split) <;> omega
    · omega
  unfold tri tvB
  rw [if_pos h]
  (repeat' split) <;> omega

theorem bo_tri (t : Nat) (ht : t < 2) (k : Int) (b : Nat) (l : Int) (c : Nat) :
    boK (clK k b) (clB k b) (clK l c) (clB l c) t = tvK (bt t (tri k b) (tri l c)) ∧ boB (clK k b) (clB k b) (clK l c) (clB l c) t = ((tvB (bt t (tri k b) (tri l c)) : Nat) : Int) := by
  have h1 := cl_tri k b
  have h2 := cl_tri l c
  have n1 : clK k b ≠ 2 → tri k b = 2 := fun h => by unfold tri; rw [if_neg h]
  have n2 : clK l c ≠ 2 → tri l c = 2 := fun h => by unfold tri; rw [if_neg h]
  generalize tri k b = x at *
  generalize tri l c = y at *
  generalize clK k b = p at *
  generalize clB k b = q at *
  generalize clK l c = r at *
  generalize clB l c = s at *
  unfold boK boB tvK tvB bt at *
  by_cases c1 : p = 2 <;> by_cases c2 : r = 2
  · obtain ⟨a1, a2⟩ := h1 c1
    obtain ⟨a3, a4⟩ := h2 c2
    subst c1 c2 a1 a3
    constructor <;> ((repeat' split) <;> omega)
  · obtain ⟨a1, a2⟩ := h1 c1
    have a3 := n2 c2
    subst c1 a1 a3
    constructor <;> ((repeat' split) <;> omega)
  · have a1 := n1 c1
    obtain ⟨a3, a4⟩ := h2 c2
    subst c2 a1 a3
    constructor <;> ((repeat' split) <;> omega)
  · have a1 := n1 c1
    have a3 := n2 c2
    subst a1 a3
    constructor <;> ((repeat' split) <;> omega)

/-- NOT of one value -/
theorem one_not (k : Int) (b : Nat) (w : World) :
    Calls Try.prog 23 #[.int .i64 15, .agg #[.int .i64 (clK k b), .int .u64 ((clB k b : Nat) : Int)]] w fun e w' => e = .returned (.agg #[.int .i64 (tvK (nt (tri k b))), .int .u64 ((tvB (nt (tri k b)) : Nat) : Int)]) ∧ Below w.heap.size w w' := by
  have h1 := cl_tri k b
  have n1 : clK k b ≠ 2 → tri k b = 2 := fun h => by unfold tri; rw [if_neg h]
  generalize tri k b = x at *
  generalize clK k b = p at *
  generalize clB k b = q at *
  by_cases c1 : p = 2
  · obtain ⟨a1, a2⟩ := h1 c1
    subst c1 a1
    have Z := Lib.hid (fun w => one_any 15 2 w)
    rw [show r1P 15 2 = 2 by decide] at Z
    have hx : x = 0 ∨ x = 1 := by omega
    clear h1 n1 a2
    rcases hx with rfl | rfl
    · rw [show tvB 0 = 0 by decide, show tvK (nt 0) = 2 by decide, show tvB (nt 0) = 1 by decide]
      go_enter Try.func23, Try.ntmps23
      go_wp2_with (go_at_call 38; refine (Z.out _).mono ?_; rintro e w' ⟨rfl, rfl⟩)
      refine (ofbool_t _).mono ?_; rintro e w1 ⟨rfl, hb1⟩
      obtain ⟨hc, hf⟩ := bcell hb1
      obtain ⟨_, q1, q2⟩ := put2 (w := w1) (g := w.heap.size + 1) (.int .i64 2) (.int .u64 1) (x := .int .i64 0) (y := .int .u64 0) (by rw [hc _ _ (by simp)]; simp [go_sem]) (by rw [hc _ _ (by simp)]; simp [go_sem])
      go_wp2
      exact bodyPost_ret (v := .agg #[.int .i64 2, .int .u64 1]) (by simp [results, Try.results23, go_sem, q1, q2]) rfl ⟨rfl, ((below_more (below2 w _ _) hb1).setCell (by show w.heap.size ≤ w.heap.size + 1; omega) _).setCell (by show w.heap.size ≤ w.heap.size + 1; omega) _⟩
    · rw [show tvB 1 = 1 by decide, show tvK (nt 1) = 2 by decide, show tvB (nt 1) = 0 by decide]
      go_enter Try.func23, Try.ntmps23
      go_wp2_with (go_at_call 38; refine (Z.out _).mono ?_; rintro e w' ⟨rfl, rfl⟩)
      refine (ofbool_f _).mono ?_; rintro e w1 ⟨rfl, hb1⟩
      obtain ⟨hc, hf⟩ := bcell hb1
      obtain ⟨_, q1, q2⟩ := put2 (w := w1) (g := w.heap.size + 1) (.int .i64 2) (.int .u64 0) (x := .int .i64 0) (y := .int .u64 0) (by rw [hc _ _ (by simp)]; simp [go_sem]) (by rw [hc _ _ (by simp)]; simp [go_sem])
      go_wp2
      exact bodyPost_ret (v := .agg #[.int .i64 2, .int .u64 0]) (by simp [results, Try.results23, go_sem, q1, q2]) rfl ⟨rfl, ((below_more (below2 w _ _) hb1).setCell (by show w.heap.size ≤ w.heap.size + 1; omega) _).setCell (by show w.heap.size ≤ w.heap.size + 1; omega) _⟩
  · obtain rfl := n1 c1
    have Z := Lib.hid (fun w => one_any 15 p w)
    rw [show r1P 15 p = 0 by unfold r1P; (repeat' split) <;> omega] at Z
    clear h1 n1 c1
    rw [show tvK (nt 2) = 0 by decide, show tvB (nt 2) = 0 by decide]
    go_enter Try.func23, Try.ntmps23
    go_wp2_with (go_at_call 38; refine (Z.out _).mono ?_; rintro e w' ⟨rfl, rfl⟩)
    exact bodyPost_ret (v := .agg #[.int .i64 0, .int .u64 0]) (by simp [results, Try.results23, go_sem]) rfl ⟨rfl, below2 _ _ _⟩

end Go.Proofs.Ytfjnphiegoogoaa
