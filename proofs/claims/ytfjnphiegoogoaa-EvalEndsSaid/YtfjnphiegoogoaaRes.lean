/- What Result answers, in package value and in the document's, as contracts, for every operator and every list of kinds. -/
import Derived.Test.YtfjnphiegoogoaaVal
import Derived.Deep.QuietTactic
import Derived.BigQuiet
namespace Go.Proofs.Ytfjnphiegoogoaa
open Go.ChangeShapes Go.WideShapes Go.ChangeAt Go.RowKit Go.Fl

/-- the kind of what an operator makes of one kind; of two alike -/
def r1P (op k : Int) : Int := if op = 6 ∧ (k = 1 ∨ k = 4) then k else if (op = 15 ∧ k = 2) ∨ (op = 17 ∧ k = 4) then 2 else if op = 16 ∧ k = 1 then 4 else 0
def r2P (op k : Int) : Int := if (1 ≤ op ∧ op ≤ 4 ∧ (k = 1 ∨ k = 4)) ∨ (op = 5 ∧ k = 1) then k else if ((op = 7 ∨ op = 8) ∧ 1 ≤ k ∧ k ≤ 4) ∨ (9 ≤ op ∧ op ≤ 12 ∧ (k = 1 ∨ k = 4)) ∨ ((op = 13 ∨ op = 14) ∧ k = 2) then 2 else 0

theorem isnum_any (k : Int) (w : World) :
    Calls Try.prog 65 #[.int .i64 k] w fun e w' => e = .returned (.bool (decide (k = 1 ∨ k = 4))) ∧ w = w' := by
  go_enter Try.func65, Try.ntmps65
  go_wp2
  all_goals go_ret
  all_goals refine ⟨ret_bool ?_, rfl⟩
  all_goals rw [Bool.eq_iff_iff]
  all_goals simp only [decide_eq_true_eq, Bool.or_eq_true, beq_iff_eq, true_iff]
  all_goals omega

theorem one_any (op k : Int) (w : World) :
    Calls Try.prog 38 #[.int .i64 op, .int .i64 k] w fun e w' => e = .returned (.int .i64 (r1P op k)) ∧ w = w' := by
  have E := Lib.hid (rfl : r1P op k = r1P op k)
  by_cases c : k = 1 ∨ k = 4
  · have H := Lib.hid (isnum_any k w)
    have H2 : Hid (Calls Try.prog 65 #[.int .i64 k] w fun e w' => e = .returned (.bool true) ∧ w = w') := by rw [← decide_eq_true c]; exact H
    have C := Lib.hid c
    clear H c E
    go_enter Try.func38, Try.ntmps38
    go_wp2_with (go_at_call 65; refine H2.out.mono ?_; rintro e w' ⟨rfl, rfl⟩)
    all_goals go_ret
    all_goals refine ⟨ret_int ?_, rfl⟩
    all_goals have c := C.out
    all_goals (try simp only [beq_iff_eq, beq_eq_false_iff_ne] at *)
    all_goals unfold r1P
    all_goals ((repeat' split) <;> omega)
  · have H := Lib.hid (isnum_any k w)
    have H2 : Hid (Calls Try.prog 65 #[.int .i64 k] w fun e w' => e = .returned (.bool false) ∧ w = w') := by rw [← decide_eq_false c]; exact H
    have C := Lib.hid c
    clear H c E
    go_enter Try.func38, Try.ntmps38
    go_wp2_with (go_at_call 65; refine H2.out.mono ?_; rintro e w' ⟨rfl, rfl⟩)
    all_goals go_ret
    all_goals refine ⟨ret_int ?_, rfl⟩
    all_goals have c := C.out
    all_goals (try simp only [beq_iff_eq, beq_eq_false_iff_ne] at *)
    all_goals unfold r1P
    all_goals ((repeat' split) <;> omega)

theorem two_any (op k : Int) (w : World) :
    Calls Try.prog 48 #[.int .i64 op, .int .i64 k] w fun e w' => e = .returned (.int .i64 (r2P op k)) ∧ w = w' := by
  have E := Lib.hid (rfl : r2P op k = r2P op k)
  by_cases c : k = 1 ∨ k = 4
  · have H := Lib.hid (isnum_any k w)
    have H2 : Hid (Calls Try.prog 65 #[.int .i64 k] w fun e w' => e = .returned (.bool true) ∧ w = w') := by rw [← decide_eq_true c]; exact H
    have C := Lib.hid c
    clear H c E
    go_enter Try.func48, Try.ntmps48
    go_wp2_with (go_at_call 65; refine H2.out.mono ?_; rintro e w' ⟨rfl, rfl⟩)
    all_goals go_ret
    all_goals refine ⟨ret_int ?_, rfl⟩
    all_goals have c := C.out
    all_goals (try simp only [beq_iff_eq, beq_eq_false_iff_ne] at *)
    all_goals unfold r2P
    all_goals ((repeat' split) <;> omega)
  · have H := Lib.hid (isnum_any k w)
    have H2 : Hid (Calls Try.prog 65 #[.int .i64 k] w fun e w' => e = .returned (.bool false) ∧ w = w') := by rw [← decide_eq_false c]; exact H
    have C := Lib.hid c
    clear H c E
    go_enter Try.func48, Try.ntmps48
    go_wp2_with (go_at_call 65; refine H2.out.mono ?_; rintro e w' ⟨rfl, rfl⟩)
    all_goals go_ret
    all_goals refine ⟨ret_int ?_, rfl⟩
    all_goals have c := C.out
    all_goals (try simp only [beq_iff_eq, beq_eq_false_iff_ne] at *)
    all_goals unfold r2P
    all_goals ((repeat' split) <;> omega)

/-- a slice of ints that reads as zs -/
def RowI (k : IntKind) (w : World) (A : Option Addr) (n : Nat) (zs : List Int) : Prop :=
  zs.length = n ∧ (0 < n → ∃ b off, A = some ⟨b, off, none⟩ ∧ ∀ (i : Nat) (z : Int), zs[i]? = some z → w.cell? ⟨b, off + i, none⟩ = some (.int k z))

/-- the kind of what an operator makes of kinds -/
def resP (op : Int) (zs : List Int) : Int := match zs with
  | [k] => r1P op k
  | [k, l] => if k = l then r2P op k else 0
  | _ => 0

theorem resP_nil (op : Int) : 0 = resP op [] := rfl
theorem resP_one (op k : Int) : r1P op k = resP op [k] := rfl
theorem resP_eq (op k : Int) : r2P op k = resP op [k, k] := by simp [resP]
theorem resP_ne (op k l : Int) (h : ¬ k = l) : 0 = resP op [k, l] := by simp [resP, h]
theorem resP_more (op k l m : Int) (zs : List Int) : 0 = resP op (k :: l :: m :: zs) := rfl


set_option maxHeartbeats 4000000 in
theorem rresult_any (op : Int) (A : Option Addr) (n cap : Nat) (zs : List Int) (w : World) (hv : RowI .i64 w A n zs) (hn : n ≤ 9223372036854775807) :
    Calls Try.prog 34 #[.int .i64 op, .slice A n cap] w fun e w' => e = .returned (.int .i64 (resP op zs)) ∧ ∃ k, w' = w.drewN k := by
  obtain ⟨hl, hc⟩ := hv
  match zs, hl, hc with
  | [], hl, hc =>
    subst hl
    have E := Lib.hid (resP_nil op)
    go_enter Try.func34, Try.ntmps34
    go_wp2_with fail
    go_quiet (fail)
    go_wp2_with fail
    go_ret
    exact ⟨ret_int E.out, _, rfl⟩
  | [k], hl, hc =>
    subst hl
    obtain ⟨b, off, rfl, hcell⟩ := hc (by simp)
    have h0 := hcell 0 k rfl
    simp at h0
    clear hcell hc
    have E := Lib.hid (resP_one op k)
    go_enter Try.func34, Try.ntmps34
    go_wp2
    all_goals go_ret
    all_goals refine ⟨ret_int ?_, 0, rfl⟩
    all_goals rw [← resP_one]
    all_goals (try simp only [beq_iff_eq, beq_eq_false_iff_ne] at *)
    all_goals unfold r1P
    all_goals ((repeat' split) <;> omega)
  | [k, l], hl, hc =>
    subst hl
    obtain ⟨b, off, rfl, hcell⟩ := hc (by simp)
    have h0 := hcell 0 k rfl
    have h1 := hcell 1 l rfl
    simp at h0
    clear hcell hc
    by_cases e : k = l
    · subst e
      have E := Lib.hid (resP_eq op k)
      have e1 : (k != k) = false := by simp
      go_enter Try.func34, Try.ntmps34
      go_wp2_with fail
      go_quiet (fail)
      go_wp2
      all_goals go_ret
      all_goals refine ⟨ret_int ?_, _, rfl⟩
      all_goals rw [← resP_eq]
      all_goals (try simp only [beq_iff_eq, beq_eq_false_iff_ne] at *)
      all_goals unfold r2P
      all_goals ((repeat' split) <;> omega)
    · have E := Lib.hid (resP_ne op k l e)
      have e1 : (k != l) = true := by simpa using e
      clear e
      go_enter Try.func34, Try.ntmps34
      go_wp2_with fail
      go_quiet (fail)
      go_wp2_with fail
      go_ret
      exact ⟨ret_int E.out, _, rfl⟩
  | k :: l :: m :: zs, hl, hc =>
    clear hc
    have f1 : ((n : Int) == 1) = false := by simp at hl ⊢; omega
    have f2 : ((n : Int) != 2) = true := by simp at hl ⊢; omega
    have E := Lib.hid (resP_more op k l m zs)
    clear hl
    go_enter Try.func34, Try.ntmps34
    go_wp2_with fail
    go_quiet (fail)
    go_wp2_with fail
    go_ret
    exact ⟨ret_int E.out, _, rfl⟩
end Go.Proofs.Ytfjnphiegoogoaa
