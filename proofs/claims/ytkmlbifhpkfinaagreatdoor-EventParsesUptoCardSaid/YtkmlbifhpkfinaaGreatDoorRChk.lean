/- Check of schemas in the document's package, as a contract. -/
import Derived.Test.YtkmlbifhpkfinaaGreatDoorChkB
namespace Go.Proofs.YtkmlbifhpkfinaaGreatDoor
open Go.ChangeShapes Go.WideShapes Go.ChangeAt Go.RowKit
set_option linter.unusedVariables false
set_option linter.unusedSimpArgs false

set_option maxHeartbeats 4000000 in
theorem rbad_any (A : Option Addr) (cap : Nat) (ss : List ByteArray) (w : World) (hc : SymsAt w A ss) (hn : ss.length ≤ 9223372036854775807) :
    Calls Tryz.prog 45 #[.slice A ss.length cap] w (Tells (¬ DistinctP ss) w) := by
  replace hc := Lib.hid hc
  go_enter Tryz.func45, Tryz.ntmps45
  go_wp2_with fail
  go_loopw [8] (fun i wr => ∃ k : Nat, k ≤ ss.length ∧ i = .int .i64 (k : Int) ∧ Below w.heap.size w wr ∧ Hid (∀ (i : Nat) (x : ByteArray), i < k → ss[i]? = some x → NameP x ∧ ∀ (j : Nat) (y : ByteArray), j < i → ss[j]? = some y → (y.toList == x.toList) = false)) (fun i _ => ss.length - (intOf i).toNat)
  case atStart => exact ⟨0, Nat.zero_le _, rfl, Below.refl _ _, Lib.hid (fun j y h => by omega)⟩
  case round =>
    obtain ⟨k, hk, rfl, hB, H⟩ := hrel
    by_cases hlt : k < ss.length
    · obtain ⟨b, off, rfl, hcell⟩ := hc.out (by omega)
      have hx : ss[k]? = some ss[k] := List.getElem?_eq_getElem hlt
      have r0 := cell_later hB (hcell k _ hx)
      generalize ss[k] = x at *
      replace hx := Lib.hid hx
      replace hcell := Lib.hid hcell
      have k0 : (0 : Int) ≤ (k : Int) := by omega
      have k1 : (k : Int) < (ss.length : Int) := by omega
      obtain ⟨wo, rfl⟩ : ∃ wo : World, wo = wr := ⟨_, rfl⟩
      go_wp2_with fail
      refine (rname_any x _).mono ?_; rintro e w1 ⟨q, rfl, hq, hb1⟩
      have hB1 := mmore hB hb1
      cases q
      · have hN : ¬ NameP x := by simpa using hq
        replace hN := Lib.hid hN
        clear hq
        go_wp2_with fail
        go_ret
        exact tells_yes (fun h => hN.out (h k x hx.out).1) hB1
      · have hN : NameP x := by simpa using hq
        replace hN := Lib.hid hN
        clear hq
        go_wp2_with fail
        go_loopw [5] (fun i wr => ∃ j : Nat, j ≤ k ∧ i = .int .i64 (j : Int) ∧ w1 = wr ∧ Hid (∀ (i : Nat) (y : ByteArray), i < j → ss[i]? = some y → (y.toList == x.toList) = false)) (fun i _ => k - (intOf i).toNat)
        case atStart => exact ⟨0, Nat.zero_le _, rfl, rfl, Lib.hid (fun j y h => by omega)⟩
        case round =>
          obtain ⟨j, hj, rfl, rfl, H2⟩ := hrel
          by_cases hjl : j < k
          · have hy : ss[j]? = some (ss[j]'(by omega)) := List.getElem?_eq_getElem (by omega)
            have r1 := cell_later hB1 (hcell.out j _ hy)
            generalize ss[j]'(by omega) = y at *
            replace hy := Lib.hid hy
            have j0 : (0 : Int) ≤ (j : Int) := by omega
            have j1 : (j : Int) < (ss.length : Int) := by omega
            have j2 : (j : Int) < (k : Int) := by omega
            obtain ⟨p, hp⟩ : ∃ p, (y.toList == x.toList) = p := ⟨_, rfl⟩
            have hp2 := Lib.hid hp
            cases p
            · go_wp2_with fail
              go_roundw
              case rel => exact ⟨j + 1, by omega, by go_num, (by first | rfl | trivial), Lib.hid (fun i z h hz => by
                by_cases c : i < j
                · exact H2.out i z c hz
                · obtain rfl : i = j := by omega
                  rw [hy.out] at hz
                  injection hz with hz
                  rw [← hz]; exact hp2.out)⟩
              case measure => simp [intOf]; omega
            · go_wp2_with fail
              go_ret
              exact tells_yes (fun h => by have := (h k x hx.out).2 j y hjl hy.out; rw [hp2.out] at this; cases this) hB1
          · obtain rfl : j = k := by omega
            go_wp2_with fail
            go_roundw
            case rel => exact ⟨j + 1, by omega, by go_num, hB1, Lib.hid (fun i z h hz => by
              by_cases c : i < j
              · exact H.out i z c hz
              · obtain rfl : i = j := by omega
                rw [hx.out] at hz
                injection hz with hz
                subst hz
                exact ⟨hN.out, fun jj y hjj hyj => H2.out jj y hjj hyj⟩)⟩
            case measure => simp [intOf]; omega
    · obtain rfl : k = ss.length := by omega
      go_wp2_with fail
      go_ret
      exact tells_no (fun h => h (fun i x hx => H.out i x (List.getElem?_eq_some_iff.1 hx).1 hx)) hB
end Go.Proofs.YtkmlbifhpkfinaaGreatDoor
