/- The order of matches is one; Same of the program, as a contract. -/
import Derived.Test.YtmebbhlebehliaaDoorOrdB
namespace Go.Proofs.YtmebbhlebehliaaDoor
open Go.ChangeShapes Go.WideShapes Go.ChangeAt Go.RowKit
set_option linter.unusedVariables false
set_option linter.unusedSimpArgs false

/-- an order, told by -1, 0, 1 -/
structure CmpOk {α : Type} (f : α → α → Int) : Prop where
  r : ∀ x y, f x y = -1 ∨ f x y = 0 ∨ f x y = 1
  s : ∀ x y, f y x = - f x y
  t : ∀ x y z, f x y ≤ 0 → f y z ≤ 0 → f x z ≤ 0
theorem CmpOk.eq {α : Type} {f : α → α → Int} (h : CmpOk f) {x y : α} (e : f x y = 0) (z : α) : f x z = f y z := by
  have s1 := h.s x y
  have a := h.t x y z (by omega)
  have b := h.t y x z (by omega)
  have c := h.t z y x
  have d := h.t z x y
  have s2 := h.s x z
  have s3 := h.s y z
  rcases h.r x z with p | p | p <;> rcases h.r y z with q | q | q <;> omega
theorem CmpOk.eq2 {α : Type} {f : α → α → Int} (h : CmpOk f) {y z : α} (e : f y z = 0) (x : α) : f x z = f x y := by
  have s1 := h.s x z
  have s2 := h.s x y
  have s3 := h.s y z
  have := h.eq (x := z) (y := y) (by omega) x
  omega
theorem CmpOk.lt {α : Type} {f : α → α → Int} (h : CmpOk f) {x y z : α} (h1 : f x y ≤ 0) (h2 : f y z ≤ 0) (h3 : f x y ≠ 0 ∨ f y z ≠ 0) : f x z = -1 := by
  have a := h.t x y z h1 h2
  rcases h.r x z with p | p | p
  · exact p
  · exfalso
    have s1 := h.s x z
    have b := h.t y z x h2 (by omega)
    have c := h.t z x y (by omega) h1
    have s2 := h.s x y
    have s3 := h.s y z
    omega
  · omega
theorem cmpOk_int : CmpOk Lib.compareInt where
  r := fun x y => by unfold Lib.compareInt; split <;> (try split) <;> omega
  s := fun x y => by unfold Lib.compareInt; repeat' split <;> omega
  t := fun x y z => by unfold Lib.compareInt; repeat' split <;> omega
def lexL {α : Type} (f : α → α → Int) : List α → List α → Int
  | [], [] => 0
  | [], _ :: _ => -1
  | _ :: _, [] => 1
  | x :: xs, y :: ys => if f x y = 0 then lexL f xs ys else f x y
theorem cL_lex : ∀ xs ys, cL xs ys = lexL Lib.compareInt xs ys
  | [], [] => rfl
  | [], _ :: _ => rfl
  | _ :: _, [] => rfl
  | x :: xs, y :: ys => by simp only [cL, lexL, cL_lex xs ys]
theorem cR_lex : ∀ xs ys, cR xs ys = lexL cL xs ys
  | [], [] => rfl
  | [], _ :: _ => rfl
  | _ :: _, [] => rfl
  | x :: xs, y :: ys => by simp only [cR, lexL, cR_lex xs ys]
theorem CmpOk.lex {α : Type} {f : α → α → Int} (h : CmpOk f) : CmpOk (lexL f) where
  r := by
    intro xs
    induction xs with
    | nil => intro ys; cases ys <;> simp [lexL]
    | cons x xs ih =>
      intro ys
      cases ys with
      | nil => simp [lexL]
      | cons y ys =>
        simp only [lexL]
        split
        · exact ih ys
        · exact h.r x y
  s := by
    intro xs
    induction xs with
    | nil => intro ys; cases ys <;> simp [lexL]
    | cons x xs ih =>
      intro ys
      cases ys with
      | nil => simp [lexL]
      | cons y ys =>
        simp only [lexL]
        have := h.s x y
        have := ih ys
        split <;> split <;> omega
  t := by
    intro xs
    induction xs with
    | nil => intro ys zs; cases ys <;> cases zs <;> simp [lexL]
    | cons x xs ih =>
      intro ys zs
      cases ys with
      | nil => simp [lexL]
      | cons y ys =>
        cases zs with
        | nil => simp [lexL]
        | cons z zs =>
          simp only [lexL]
          intro h1 h2
          by_cases e1 : f x y = 0
          · rw [if_pos e1] at h1
            have e := h.eq e1 z
            by_cases e2 : f y z = 0
            · rw [if_pos e2] at h2
              rw [if_pos (by omega)]
              exact ih ys zs h1 h2
            · rw [if_neg e2] at h2
              rw [if_neg (by omega)]
              omega
          · rw [if_neg e1] at h1
            by_cases e2 : f y z = 0
            · have e := h.eq2 e2 x
              rw [if_neg (by omega)]
              omega
            · rw [if_neg e2] at h2
              have := h.lt h1 h2 (.inl e1)
              rw [if_neg (by omega)]
              omega
theorem cmpOk_L : CmpOk cL := by
  have : cL = lexL Lib.compareInt := funext fun x => funext fun y => cL_lex x y
  rw [this]
  exact cmpOk_int.lex
theorem cmpOk_R : CmpOk cR := by
  have : cR = lexL cL := funext fun x => funext fun y => cR_lex x y
  rw [this]
  exact cmpOk_L.lex
/-- two orders, the one behind the other -/
theorem CmpOk.two {α β : Type} {f : α → α → Int} {g : β → β → Int} (h : CmpOk f) (k : CmpOk g) : CmpOk (fun (x y : α × β) => if f x.1 y.1 = 0 then g x.2 y.2 else f x.1 y.1) where
  r := fun x y => by
    show (if f x.1 y.1 = 0 then g x.2 y.2 else f x.1 y.1) = -1 ∨ (if f x.1 y.1 = 0 then g x.2 y.2 else f x.1 y.1) = 0 ∨ (if f x.1 y.1 = 0 then g x.2 y.2 else f x.1 y.1) = 1
    split
    · exact k.r _ _
    · exact h.r _ _
  s := fun x y => by
    show (if f y.1 x.1 = 0 then g y.2 x.2 else f y.1 x.1) = - (if f x.1 y.1 = 0 then g x.2 y.2 else f x.1 y.1)
    have := h.s x.1 y.1
    have := k.s x.2 y.2
    split <;> split <;> omega
  t := fun x y z => by
    show (if f x.1 y.1 = 0 then g x.2 y.2 else f x.1 y.1) ≤ 0 → (if f y.1 z.1 = 0 then g y.2 z.2 else f y.1 z.1) ≤ 0 → (if f x.1 z.1 = 0 then g x.2 z.2 else f x.1 z.1) ≤ 0
    intro h1 h2
    by_cases e1 : f x.1 y.1 = 0
    · rw [if_pos e1] at h1
      have e := h.eq e1 z.1
      by_cases e2 : f y.1 z.1 = 0
      · rw [if_pos e2] at h2
        rw [if_pos (by omega)]
        exact k.t _ _ _ h1 h2
      · rw [if_neg e2] at h2
        rw [if_neg (by omega)]
        omega
    · rw [if_neg e1] at h1
      by_cases e2 : f y.1 z.1 = 0
      · have e := h.eq2 e2 x.1
        rw [if_neg (by omega)]
        omega
      · rw [if_neg e2] at h2
        have := h.lt h1 h2 (.inl e1)
        rw [if_neg (by omega)]
        omega
theorem ordM_two (s1 b1 : Int) (p1 : List (List Int)) (s2 b2 : Int) (p2 : List (List Int)) :
    ordM s1 b1 p1 s2 b2 p2 = (fun (x y : Int × Int × List (List Int)) => if Lib.compareInt x.1 y.1 = 0 then (fun (x y : Int × List (List Int)) => if Lib.compareInt x.1 y.1 = 0 then cR x.2 y.2 else Lib.compareInt x.1 y.1) x.2 y.2 else Lib.compareInt x.1 y.1) (s1, b1, p1) (s2, b2, p2) := by
  simp only [ordM, orP]
  split
  · split
    · split
      · rename_i h; exact h.symm
      · rfl
    · rfl
  · rfl
theorem cmpOk_M : CmpOk (fun (x y : Int × Int × List (List Int)) => ordM x.1 x.2.1 x.2.2 y.1 y.2.1 y.2.2) := by
  have : (fun (x y : Int × Int × List (List Int)) => ordM x.1 x.2.1 x.2.2 y.1 y.2.1 y.2.2) = (fun (x y : Int × Int × List (List Int)) => if Lib.compareInt x.1 y.1 = 0 then (fun (x y : Int × List (List Int)) => if Lib.compareInt x.1 y.1 = 0 then cR x.2 y.2 else Lib.compareInt x.1 y.1) x.2 y.2 else Lib.compareInt x.1 y.1) :=
    funext fun x => funext fun y => ordM_two _ _ _ _ _ _
  rw [this]
  exact cmpOk_int.two (cmpOk_int.two cmpOk_R)

end Go.Proofs.YtmebbhlebehliaaDoor
