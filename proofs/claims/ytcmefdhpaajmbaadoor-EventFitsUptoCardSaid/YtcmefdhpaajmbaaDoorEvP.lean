/- Which kinds may be, which events fit them, as contracts. -/
import Derived.Test.YtcmefdhpaajmbaaDoorEvK
import Derived.Test.YtcmefdhpaajmbaaDoorAll
import Derived.Deep.RegionHeld3
import Derived.Deep.RegionWith
import Derived.Deep.CutRange
import Derived.Deep.DeepCutAuto
import Derived.Deep.QuietTactic
import Derived.BigQuiet
namespace Go.Proofs.YtcmefdhpaajmbaaDoor
open Go.ChangeShapes Go.WideShapes Go.ChangeAt Go.RowKit
set_option linter.unusedVariables false
set_option linter.unusedSimpArgs false

theorem known_any (k : Int) (w : World) :
    Calls Tryd.prog 22 #[.int .i64 k] w fun e w' => e = .returned (.bool (decide (1 ≤ k ∧ k < 5))) ∧ w = w' := by
  by_cases c1 : 1 ≤ k
  · by_cases c2 : k < 5
    · rw [decide_eq_true (p := 1 ≤ k ∧ k < 5) ⟨c1, c2⟩]
      go_enter Tryd.func22, Tryd.ntmps22
      go_wp2
      go_ret
      exact ⟨rfl, rfl⟩
    · rw [decide_eq_false (p := 1 ≤ k ∧ k < 5) (fun h => c2 h.2)]
      go_enter Tryd.func22, Tryd.ntmps22
      go_wp2
      go_ret
      exact ⟨rfl, rfl⟩
  · rw [decide_eq_false (p := 1 ≤ k ∧ k < 5) (fun h => c1 h.1)]
    go_enter Tryd.func22, Tryd.ntmps22
    go_wp2
    go_ret
    exact ⟨rfl, rfl⟩

def OkRow (ks : List Int) : Prop := ks.length ≤ 8 ∧ ∀ (i : Nat) (k : Int), ks[i]? = some k → 1 ≤ k ∧ k < 5
def PossP (kss : List (List Int)) (n : Int) : Prop := (kss.length : Int) ≤ 16 ∧ 0 ≤ n ∧ n ≤ 64 ∧ ∀ (i : Nat) (ks : List Int), kss[i]? = some ks → OkRow ks
def PossTo (kss : List (List Int)) (k : Nat) : Prop := ∀ (i : Nat) (ks : List Int), i < k → kss[i]? = some ks → OkRow ks
def RowTo (ks : List Int) (j : Nat) : Prop := ∀ (i : Nat) (k : Int), i < j → ks[i]? = some k → 1 ≤ k ∧ k < 5
theorem RowTo.step {ks : List Int} {j : Nat} {k : Int} (h : RowTo ks j) (hk : ks[j]? = some k) (h1 : 1 ≤ k ∧ k < 5) : RowTo ks (j + 1) := fun i x hi hx => by
  by_cases c : i < j
  · exact h i x c hx
  · obtain rfl : i = j := by omega
    rw [hk] at hx
    injection hx with hx
    subst hx
    exact h1
theorem PossTo.step {kss : List (List Int)} {j : Nat} {ks : List Int} (h : PossTo kss j) (hk : kss[j]? = some ks) (h1 : OkRow ks) : PossTo kss (j + 1) := fun i x hi hx => by
  by_cases c : i < j
  · exact h i x c hx
  · obtain rfl : i = j := by omega
    rw [hk] at hx
    injection hx with hx
    subst hx
    exact h1
theorem RowTo.all {ks : List Int} (h : RowTo ks ks.length) : ∀ (i : Nat) (k : Int), ks[i]? = some k → 1 ≤ k ∧ k < 5 := fun i k hi => h i k (List.getElem?_eq_some_iff.1 hi).1 hi
theorem PossTo.all {kss : List (List Int)} (h : PossTo kss kss.length) : ∀ (i : Nat) (ks : List Int), kss[i]? = some ks → OkRow ks := fun i k hi => h i k (List.getElem?_eq_some_iff.1 hi).1 hi
/-- an answer of yes or no -/
def Says (p : Prop) (w : World) (e : Ending) (w' : World) : Prop := ∃ q : Bool, e = .returned (.bool q) ∧ (q = true ↔ p) ∧ Below w.heap.size w w'
theorem Says.yes {p : Prop} {w w' : World} {e : Ending} (he : e = .returned (.bool true)) (h : p) (hb : Below w.heap.size w w') : Says p w e w' := ⟨true, he, by simp [h], hb⟩
theorem Says.no {p : Prop} {w w' : World} {e : Ending} (he : e = .returned (.bool false)) (h : ¬ p) (hb : Below w.heap.size w w') : Says p w e w' := ⟨false, he, by simp [h], hb⟩

set_option maxHeartbeats 4000000 in
theorem possible_any (A : Option Addr) (cap : Nat) (kss : List (List Int)) (n : Int) (w : World) (hc : KindsAt w A kss) :
    Calls Tryd.prog 12 #[.slice A kss.length cap, .int .i64 n] w (Says (PossP kss n) w) := by
  by_cases c1 : (16 : Int) < (kss.length : Int)
  · have hno : ¬ PossP kss n := fun h => by have := h.1; omega
    replace hno := Lib.hid hno
    go_enter Tryd.func12, Tryd.ntmps12
    go_wp2
    go_ret
    exact .no rfl hno.out (Below.refl _ _)
  · by_cases c2 : n < 0
    · have hno : ¬ PossP kss n := fun h => by have := h.2.1; omega
      replace hno := Lib.hid hno
      go_enter Tryd.func12, Tryd.ntmps12
      go_wp2
      go_ret
      exact .no rfl hno.out (Below.refl _ _)
    · by_cases c3 : 64 < n
      · have hno : ¬ PossP kss n := fun h => by have := h.2.2.1; omega
        replace hno := Lib.hid hno
        go_enter Tryd.func12, Tryd.ntmps12
        go_wp2
        go_ret
        exact .no rfl hno.out (Below.refl _ _)
      · have d1 : (kss.length : Int) ≤ 16 := by omega
        have d2 : 0 ≤ n := by omega
        have d3 : n ≤ 64 := by omega
        replace hc := Lib.hid hc
        go_enter Tryd.func12, Tryd.ntmps12
        go_wp2_with fail
        go_loopw [22] (fun i wr => ∃ k : Nat, k ≤ kss.length ∧ i = .int .i64 (k : Int) ∧ Hid (PossTo kss k) ∧ w = wr) (fun i _ => kss.length - (intOf i).toNat)
        case atStart => exact ⟨0, Nat.zero_le _, rfl, Lib.hid (fun i ks h => by omega), rfl⟩
        case round =>
          obtain ⟨k, hk, rfl, hP, rfl⟩ := hrel
          by_cases hlt : k < kss.length
          · obtain ⟨b, off, rfl, hcell⟩ := hc.out (by omega)
            have hvk : kss[k]? = some kss[k] := List.getElem?_eq_getElem hlt
            obtain ⟨u, r0, UA, ucap, rfl, hI⟩ := hcell k _ hvk
            generalize kss[k] = ks at *
            replace hvk := Lib.hid hvk
            replace hI := Lib.hid hI
            clear hcell
            by_cases c4 : (8 : Int) < (ks.length : Int)
            · have hno : ¬ PossP kss n := fun h => by have := (h.2.2.2 k ks hvk.out).1; omega
              replace hno := Lib.hid hno
              go_wp2
              go_ret
              exact .no rfl hno.out (Below.refl _ _)
            · have c5 : (ks.length : Int) ≤ 8 := by omega
              go_wp2_with fail
              go_loopw [31] (fun i wr => ∃ j : Nat, j ≤ ks.length ∧ i = .int .i64 (j : Int) ∧ Hid (RowTo ks j) ∧ w = wr) (fun i _ => ks.length - (intOf i).toNat)
              case atStart => exact ⟨0, Nat.zero_le _, rfl, Lib.hid (fun i ks h => by omega), rfl⟩
              case round =>
                obtain ⟨j, hj, rfl, hR, rfl⟩ := hrel
                by_cases hlt2 : j < ks.length
                · obtain ⟨b2, off2, rfl, hcell2⟩ := hI.out (by omega)
                  have hvj : ks[j]? = some ks[j] := List.getElem?_eq_getElem hlt2
                  have q0 := hcell2 j _ hvj
                  generalize ks[j] = x at *
                  replace hvj := Lib.hid hvj
                  clear hcell2
                  by_cases c6 : 1 ≤ x ∧ x < 5
                  · have CC := known_any x w
                    rw [decide_eq_true c6] at CC
                    replace CC := Lib.hid CC
                    replace c6 := Lib.hid c6
                    go_wp2_with fail
                    refine CC.out.mono ?_; rintro e w1 ⟨rfl, rfl⟩
                    go_wp2
                    go_roundw
                    case rel => exact ⟨j + 1, by omega, by go_num, Lib.hid (hR.out.step hvj.out c6.out), by first | rfl | trivial⟩
                    case measure => simp [intOf]; omega
                  · have hno : ¬ PossP kss n := fun h => c6 ((h.2.2.2 k ks hvk.out).2 j x hvj.out)
                    replace hno := Lib.hid hno
                    have CC := known_any x w
                    rw [decide_eq_false c6] at CC
                    replace CC := Lib.hid CC
                    replace c6 := Lib.hid c6
                    go_wp2_with fail
                    refine CC.out.mono ?_; rintro e w1 ⟨rfl, rfl⟩
                    go_wp2
                    go_ret
                    exact .no rfl hno.out (Below.refl _ _)
                · obtain rfl : j = ks.length := by omega
                  go_wp2
                  go_roundw
                  case rel => exact ⟨k + 1, by omega, by go_num, Lib.hid (hP.out.step hvk.out ⟨by omega, hR.out.all⟩), by first | rfl | trivial⟩
                  case measure => simp [intOf]; omega
          · obtain rfl : k = kss.length := by omega
            go_wp2
            go_ret
            exact .yes rfl ⟨d1, d2, d3, hP.out.all⟩ (Below.refl _ _)
end Go.Proofs.YtcmefdhpaajmbaaDoor
