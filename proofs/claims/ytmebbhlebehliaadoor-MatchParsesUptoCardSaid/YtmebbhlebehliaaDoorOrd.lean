/- Which of two matches is ahead: the program's Order, as a contract. -/
import Derived.Test.YtmebbhlebehliaaDoorMr
import Derived.Test.YtmebbhlebehliaaDoorShelf
import Derived.Test.YtmebbhlebehliaaDoorWords
import Derived.Deep.RegionHeld3
import Derived.BigFrame
namespace Go.Proofs.YtmebbhlebehliaaDoor
open Go.ChangeShapes Go.WideShapes Go.ChangeAt Go.RowKit
set_option linter.unusedVariables false
set_option linter.unusedSimpArgs false

/-- of whole numbers: by the first that differs, then by length -/
def cL : List Int → List Int → Int
  | [], [] => 0
  | [], _ :: _ => -1
  | _ :: _, [] => 1
  | x :: xs, y :: ys => if Lib.compareInt x y = 0 then cL xs ys else Lib.compareInt x y
def cR : List (List Int) → List (List Int) → Int
  | [], [] => 0
  | [], _ :: _ => -1
  | _ :: _, [] => 1
  | x :: xs, y :: ys => if cL x y = 0 then cR xs ys else cL x y
/-- the first that isn't 0 -/
def orP : List Int → Int
  | [] => 0
  | x :: r => if x = 0 then orP r else x
def ordM (s1 b1 : Int) (p1 : List (List Int)) (s2 b2 : Int) (p2 : List (List Int)) : Int :=
  orP [Lib.compareInt s1 s2, Lib.compareInt b1 b2, cR p1 p2]
theorem sret_bool {a b : Bool} (h : a = b) : Ending.returned (.bool a) = .returned (.bool b) := by rw [h]
theorem sret_int {a b : Int} (h : a = b) : Ending.returned (.int .i64 a) = .returned (.int .i64 b) := by rw [h]
theorem drop_at {α : Type} {l : List α} {k : Nat} (h : k < l.length) : l.drop k = l[k] :: l.drop (k + 1) := List.drop_eq_getElem_cons h
theorem drop_end {α : Type} {l : List α} {k : Nat} (h : ¬ k < l.length) : l.drop k = [] := List.drop_eq_nil_of_le (by omega)

set_option maxHeartbeats 4000000 in
set_option maxRecDepth 100000 in
theorem or_any (A : Option Addr) (ca : Nat) (xs : List Int) (w : World) (hA : IntsAt w A xs) (hx : xs.length ≤ 9223372036854775806) :
    Calls Tryd.prog 23 #[.slice A xs.length ca] w fun e w' => e = .returned (.int .i64 (orP xs)) ∧ w = w' := by
  replace hA := Lib.hid hA
  go_enter Tryd.func23, Tryd.ntmps23
  go_wp2_with fail
  go_loopw [8] (fun i wr => ∃ k : Nat, k ≤ xs.length ∧ i = .int .i64 (k : Int) ∧ orP xs = orP (xs.drop k) ∧ w = wr) (fun i _ => xs.length - (intOf i).toNat)
  case atStart => exact ⟨0, Nat.zero_le _, rfl, rfl, rfl⟩
  case round =>
    obtain ⟨k, hk, rfl, ho, rfl⟩ := hrel
    by_cases hlt : k < xs.length
    · obtain ⟨b, off, rfl, hc⟩ := hA.out (by omega)
      have r0 := hc k _ (List.getElem?_eq_getElem hlt)
      have k0 : (0 : Int) ≤ (k : Int) := by omega
      have k1 : (k : Int) < (xs.length : Int) := by omega
      rw [drop_at hlt] at ho
      simp only [orP] at ho
      clear hc
      generalize xs[k] = x at *
      by_cases h0 : x = 0
      · subst h0
        rw [if_pos rfl] at ho
        replace ho := Lib.hid ho
        go_wp2_with fail
        go_roundw
        case rel => exact ⟨k + 1, by omega, by go_num, ho.out, by first | rfl | trivial⟩
        case measure => simp [intOf]; omega
      · rw [if_neg h0] at ho
        replace ho := Lib.hid ho
        have h0b : (x != 0) = true := by simpa using h0
        go_wp2_with fail
        go_ret
        exact ⟨sret_int ho.out.symm, rfl⟩
    · rw [drop_end hlt] at ho
      have hke : k = xs.length := by omega
      subst hke
      replace ho := Lib.hid ho
      go_wp2_with fail
      go_ret
      exact ⟨sret_int ho.out.symm, rfl⟩

set_option maxHeartbeats 4000000 in
set_option maxRecDepth 100000 in
theorem icompare_any (A B : Option Addr) (ca cb : Nat) (xs ys : List Int) (w : World) (hA : IntsAt w A xs) (hB : IntsAt w B ys) (hx : xs.length ≤ 9223372036854775806) (hy : ys.length ≤ 9223372036854775806) :
    Calls Tryd.prog 26 #[.slice A xs.length ca, .slice B ys.length cb] w fun e w' => e = .returned (.int .i64 (cL xs ys)) ∧ w = w' := by
  replace hA := Lib.hid hA
  replace hB := Lib.hid hB
  go_enter Tryd.func26, Tryd.ntmps26
  go_wp2_with fail
  go_loopw [11] (fun i wr => ∃ k : Nat, k ≤ xs.length ∧ k ≤ ys.length ∧ i = .int .i64 (k : Int) ∧ cL xs ys = cL (xs.drop k) (ys.drop k) ∧ w = wr) (fun i _ => xs.length - (intOf i).toNat)
  case atStart => exact ⟨0, Nat.zero_le _, Nat.zero_le _, rfl, rfl, rfl⟩
  case round =>
    obtain ⟨k, hk, hk2, rfl, ho, rfl⟩ := hrel
    have k0 : (0 : Int) ≤ (k : Int) := by omega
    by_cases hlt : k < xs.length
    · obtain ⟨b, off, rfl, hc⟩ := hA.out (by omega)
      have r0 := hc k _ (List.getElem?_eq_getElem hlt)
      have k1 : (k : Int) < (xs.length : Int) := by omega
      clear hc
      by_cases hlt2 : k < ys.length
      · obtain ⟨b2, off2, rfl, hc2⟩ := hB.out (by omega)
        have r1 := hc2 k _ (List.getElem?_eq_getElem hlt2)
        have k2 : (k : Int) < (ys.length : Int) := by omega
        have k3 : ¬ (k : Int) ≥ (ys.length : Int) := by omega
        clear hc2
        rw [drop_at hlt, drop_at hlt2] at ho
        simp only [cL] at ho
        generalize xs[k] = x at *
        generalize ys[k] = y at *
        have CC := Tryd.cmp_Compare_int x y w
        generalize Lib.compareInt x y = c at *
        replace CC := Lib.hid CC
        by_cases h0 : c = 0
        · subst h0
          rw [if_pos rfl] at ho
          replace ho := Lib.hid ho
          go_wp2_with (go_at_call 24; refine CC.out.mono ?_; rintro e w1 ⟨rfl, rfl⟩)
          go_roundw
          case rel => exact ⟨k + 1, by omega, by omega, by go_num, ho.out, by first | rfl | trivial⟩
          case measure => simp [intOf]; omega
        · rw [if_neg h0] at ho
          replace ho := Lib.hid ho
          have h0b : (c != 0) = true := by simpa using h0
          go_wp2_with (go_at_call 24; refine CC.out.mono ?_; rintro e w1 ⟨rfl, rfl⟩)
          go_ret
          exact ⟨sret_int ho.out.symm, rfl⟩
      · rw [drop_at hlt, drop_end hlt2] at ho
        simp only [cL] at ho
        have k3 : (k : Int) ≥ (ys.length : Int) := by omega
        replace ho := Lib.hid ho
        go_wp2_with fail
        go_ret
        exact ⟨sret_int ho.out.symm, rfl⟩
    · have k1 : ¬ (k : Int) < (xs.length : Int) := by omega
      have hke : k = xs.length := by omega
      by_cases hlt2 : k < ys.length
      · have k2 : (xs.length : Int) < (ys.length : Int) := by omega
        rw [drop_end hlt, drop_at hlt2] at ho
        simp only [cL] at ho
        replace ho := Lib.hid ho
        subst hke
        go_wp2_with fail
        go_ret
        exact ⟨sret_int ho.out.symm, rfl⟩
      · have k2 : ¬ (xs.length : Int) < (ys.length : Int) := by omega
        rw [drop_end hlt, drop_end hlt2] at ho
        simp only [cL] at ho
        replace ho := Lib.hid ho
        subst hke
        go_wp2_with fail
        go_ret
        exact ⟨sret_int ho.out.symm, rfl⟩

set_option maxHeartbeats 4000000 in
set_option maxRecDepth 100000 in
theorem rcompare_any (A B : Option Addr) (ca cb : Nat) (xs ys : List (List Int)) (w : World) (hA : RowsAt w A xs) (hB : RowsAt w B ys) (hx : xs.length ≤ 9223372036854775806) (hy : ys.length ≤ 9223372036854775806) (hx2 : ∀ l ∈ xs, l.length ≤ 9223372036854775806) (hy2 : ∀ l ∈ ys, l.length ≤ 9223372036854775806) :
    Calls Tryd.prog 25 #[.slice A xs.length ca, .slice B ys.length cb, .func (.func 26) #[] #[]] w fun e w' => e = .returned (.int .i64 (cR xs ys)) ∧ w = w' := by
  replace hA := Lib.hid hA
  replace hB := Lib.hid hB
  replace hx2 := Lib.hid hx2
  replace hy2 := Lib.hid hy2
  go_enter Tryd.func25, Tryd.ntmps25
  go_wp2_with fail
  go_loopw [13] (fun i wr => ∃ k : Nat, k ≤ xs.length ∧ k ≤ ys.length ∧ i = .int .i64 (k : Int) ∧ cR xs ys = cR (xs.drop k) (ys.drop k) ∧ w = wr) (fun i _ => xs.length - (intOf i).toNat)
  case atStart => exact ⟨0, Nat.zero_le _, Nat.zero_le _, rfl, rfl, rfl⟩
  case round =>
    obtain ⟨k, hk, hk2, rfl, ho, rfl⟩ := hrel
    have k0 : (0 : Int) ≤ (k : Int) := by omega
    by_cases hlt : k < xs.length
    · obtain ⟨b, off, rfl, hc⟩ := hA.out (by omega)
      obtain ⟨u, r0, A1, c1, rfl, hI1⟩ := hc k _ (List.getElem?_eq_getElem hlt)
      have k1 : (k : Int) < (xs.length : Int) := by omega
      have m1 := hx2.out _ (List.getElem_mem hlt)
      clear hc
      by_cases hlt2 : k < ys.length
      · obtain ⟨b2, off2, rfl, hc2⟩ := hB.out (by omega)
        obtain ⟨u2, r1, A2, c2, rfl, hI2⟩ := hc2 k _ (List.getElem?_eq_getElem hlt2)
        have k2 : (k : Int) < (ys.length : Int) := by omega
        have k3 : ¬ (k : Int) ≥ (ys.length : Int) := by omega
        have m2 := hy2.out _ (List.getElem_mem hlt2)
        clear hc2
        rw [drop_at hlt, drop_at hlt2] at ho
        simp only [cR] at ho
        generalize xs[k] = x at *
        generalize ys[k] = y at *
        have CC := icompare_any A1 A2 c1 c2 x y w hI1 hI2 m1 m2
        generalize cL x y = c at *
        replace CC := Lib.hid CC
        clear hI1 hI2 m1 m2
        by_cases h0 : c = 0
        · subst h0
          rw [if_pos rfl] at ho
          replace ho := Lib.hid ho
          go_wp2_with (go_at_call 26; refine CC.out.mono ?_; rintro e w1 ⟨rfl, rfl⟩)
          go_roundw
          case rel => exact ⟨k + 1, by omega, by omega, by go_num, ho.out, by first | rfl | trivial⟩
          case measure => simp [intOf]; omega
        · rw [if_neg h0] at ho
          replace ho := Lib.hid ho
          have h0b : (c != 0) = true := by simpa using h0
          go_wp2_with (go_at_call 26; refine CC.out.mono ?_; rintro e w1 ⟨rfl, rfl⟩)
          go_ret
          exact ⟨sret_int ho.out.symm, rfl⟩
      · rw [drop_at hlt, drop_end hlt2] at ho
        simp only [cR] at ho
        have k3 : (k : Int) ≥ (ys.length : Int) := by omega
        clear hI1
        replace ho := Lib.hid ho
        go_wp2_with fail
        go_ret
        exact ⟨sret_int ho.out.symm, rfl⟩
    · have k1 : ¬ (k : Int) < (xs.length : Int) := by omega
      have hke : k = xs.length := by omega
      by_cases hlt2 : k < ys.length
      · have k2 : (xs.length : Int) < (ys.length : Int) := by omega
        rw [drop_end hlt, drop_at hlt2] at ho
        simp only [cR] at ho
        replace ho := Lib.hid ho
        subst hke
        go_wp2_with fail
        go_ret
        exact ⟨sret_int ho.out.symm, rfl⟩
      · have k2 : ¬ (xs.length : Int) < (ys.length : Int) := by omega
        rw [drop_end hlt, drop_end hlt2] at ho
        simp only [cR] at ho
        replace ho := Lib.hid ho
        subst hke
        go_wp2_with fail
        go_ret
        exact ⟨sret_int ho.out.symm, rfl⟩
end Go.Proofs.YtmebbhlebehliaaDoor
