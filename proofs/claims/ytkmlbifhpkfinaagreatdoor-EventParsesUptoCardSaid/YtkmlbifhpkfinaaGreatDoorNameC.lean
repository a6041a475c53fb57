/- Names and words in the document's package, as contracts. -/
import Derived.Test.YtkmlbifhpkfinaaGreatDoorNameB
namespace Go.Proofs.YtkmlbifhpkfinaaGreatDoor
open Go.ChangeShapes Go.WideShapes Go.ChangeAt Go.RowKit
set_option linter.unusedVariables false
set_option linter.unusedSimpArgs false

theorem wordL_length : wordL.length = 25 := rfl
theorem words_cell (w : World) (k : Nat) (h : k < 25) : ∃ x : ByteArray, (w.alloc (.cells (wordL.map fun l => Value.string ⟨l.toArray⟩).toArray 9)).cell? ⟨w.heap.size, k, none⟩ = some (.string x) ∧ wordL[k]? = some x.toList := by
  have hk : k < wordL.length := h
  have hb := Blk.made w 9 (wordL.map fun l => Value.string ⟨l.toArray⟩).toArray
  refine ⟨⟨(wordL[k]'hk).toArray⟩, ?_, ?_⟩
  · rw [hb.cell k]
    simp [List.getElem?_eq_getElem hk]
  · rw [List.getElem?_eq_getElem hk, ByteArray.toList_eq]

set_option maxHeartbeats 4000000 in
set_option maxRecDepth 100000 in
theorem rword_any (s : ByteArray) (w : World) :
    Calls Tryz.prog 98 #[.string s] w fun e w' => e = .returned (.bool (wordB s)) ∧ Below w.heap.size w w' := by
  go_enter Tryz.func98, Tryz.ntmps98
  go_wp2_with (go_at_call 115; refine (words_any _).mono ?_; rintro e w' ⟨rfl, rfl⟩)
  have HC := Lib.hid (fun k h => words_cell w k h)
  have hB := m1 w (.cells (wordL.map fun l => Value.string ⟨l.toArray⟩).toArray 9)
  generalize w.alloc (.cells (wordL.map fun l => Value.string ⟨l.toArray⟩).toArray 9) = u at *
  go_loop [7] (fun i => ∃ k : Nat, k ≤ 25 ∧ i = .int .i64 (k : Int) ∧ Hid (∀ (j : Nat) (l : List UInt8), j < k → wordL[j]? = some l → (s.toList == l) = false)) (fun i => 25 - (intOf i).toNat)
  case atStart => exact ⟨0, by omega, rfl, Lib.hid (fun j l h => by omega)⟩
  case round =>
    obtain ⟨k, hk, rfl, H⟩ := hrel
    by_cases hlt : k < 25
    · obtain ⟨x, hx, hl⟩ := HC.out k hlt
      obtain ⟨b, hb⟩ : ∃ b, (x.toList == s.toList) = b := ⟨_, rfl⟩
      have hb2 : (s.toList == x.toList) = b := by rw [← hb, Bool.eq_iff_iff, beq_iff_eq, beq_iff_eq]; exact ⟨Eq.symm, Eq.symm⟩
      replace hb2 := Lib.hid hb2
      replace hl := Lib.hid hl
      have k1 : (k : Int) < 25 := by omega
      cases b
      · go_wp2_with fail
        go_round
        case rel => exact ⟨k + 1, by omega, by go_num, Lib.hid (fun j l h hj => by
          by_cases c : j < k
          · exact H.out j l c hj
          · obtain rfl : j = k := by omega
            rw [hl.out] at hj
            injection hj with hj
            rw [← hj]; exact hb2.out)⟩
        case measure => simp [intOf]; omega
      · go_wp2_with fail
        go_ret
        refine ⟨sret_bool ?_, hB⟩
        symm
        unfold wordB
        rw [List.any_eq_true]
        exact ⟨x.toList, List.mem_of_getElem? hl.out, hb2.out⟩
    · obtain rfl : k = 25 := by omega
      go_wp2_with fail
      go_ret
      refine ⟨sret_bool ?_, hB⟩
      symm
      unfold wordB
      rw [List.any_eq_false]
      intro l hl
      obtain ⟨j, hj⟩ := List.getElem?_of_mem hl
      have hlt := (List.getElem?_eq_some_iff.1 hj).1
      rw [wordL_length] at hlt
      rw [H.out j l hlt hj]
      decide

set_option maxHeartbeats 4000000 in
set_option maxRecDepth 100000 in
theorem rname_any (s : ByteArray) (w : World) :
    Calls Tryz.prog 70 #[.string s] w (Names s w) := by
  by_cases h0 : s.size < 1 ∨ 24 < s.size
  · have hn : ¬ NameP s := fun h => by have h1 := h.1; have h2 := h.2.1; omega
    replace hn := Lib.hid hn
    rcases h0 with h0 | h0
    all_goals go_enter Tryz.func70, Tryz.ntmps70
    all_goals go_wp2
    all_goals go_ret
    all_goals exact names_no hn.out (Below.refl _ _)
  have h1 : (1 : Int) ≤ (s.size : Int) := by omega
  have h24 : (s.size : Int) ≤ 24 := by omega
  have hp0 : 0 < s.size := by omega
  obtain ⟨l, hl⟩ : ∃ b, letC ((s[0]'hp0).toNat : Int) = b := ⟨_, rfl⟩
  have CL := Lib.hid (fun w => rletter_any ((s[0]'hp0).toNat : Int) w)
  rw [hl] at CL
  cases l
  · have hn : ¬ NameP s := fun h => by have := h.2.2.1 hp0; rw [hl] at this; cases this
    replace hn := Lib.hid hn
    replace hl := Lib.hid hl
    go_enter Tryz.func70, Tryz.ntmps70
    go_wp2_with (go_at_call 97; refine (CL.out _).mono ?_; rintro e w' ⟨rfl, rfl⟩)
    go_ret
    exact names_no hn.out (Below.refl _ _)
  replace hl := Lib.hid hl
  obtain ⟨x, hx⟩ : ∃ b, wordB s = b := ⟨_, rfl⟩
  have CW := Lib.hid (fun w => rword_any s w)
  rw [hx] at CW
  cases x
  · replace hx := Lib.hid hx
    go_enter Tryz.func70, Tryz.ntmps70
    go_wp2_with (first | (go_at_call 97; refine (CL.out _).mono ?_; rintro e w' ⟨rfl, rfl⟩) | (go_at_call 98; refine (CW.out _).mono ?_; rintro e u ⟨rfl, hB⟩))
    go_loop [3] (fun i => ∃ k : Nat, k ≤ s.size ∧ i = .int .i64 (k : Int) ∧ Hid (∀ (j : Nat) (h : j < s.size), j < k → okC (s[j].toNat : Int) = true)) (fun i => s.size - (intOf i).toNat)
    case atStart => exact ⟨0, by omega, rfl, Lib.hid (fun j h h' => by omega)⟩
    case round =>
      obtain ⟨k, hk, rfl, H⟩ := hrel
      by_cases hlt : k < s.size
      · obtain ⟨c, hc⟩ : ∃ c, (s[k]'hlt).toNat = c := ⟨_, rfl⟩
        have k1 : (k : Int) < (s.size : Int) := by omega
        have k0 : (0 : Int) ≤ (k : Int) := by omega
        obtain ⟨l2, hl2⟩ : ∃ b, letC (c : Int) = b := ⟨_, rfl⟩
        obtain ⟨g, hg⟩ : ∃ b, digC (c : Int) = b := ⟨_, rfl⟩
        have CL2 := Lib.hid (fun w => rletter_any (c : Int) w)
        have CD2 := Lib.hid (fun w => rdigit_any (c : Int) w)
        rw [hl2] at CL2
        rw [hg] at CD2
        have hno : okC (c : Int) = false → ¬ NameP s := fun hk h => by
          have h := h.2.2.2.1 k hlt
          rw [hc, hk] at h
          cases h
        have hyes : okC (c : Int) = true → ∀ (j : Nat) (h : j < s.size), j < k + 1 → okC (s[j].toNat : Int) = true := fun hok j h hj => by
          by_cases cc : j < k
          · exact H.out j h cc
          · obtain rfl : j = k := by omega
            rw [hc]
            exact hok
        replace hno := Lib.hid hno
        replace hyes := Lib.hid hyes
        by_cases h95 : c = 95
        all_goals have f95 : ((c : Int) != 95) = !decide (c = 95) := by rw [Bool.eq_iff_iff]; simp; omega
        all_goals (first | rw [decide_eq_true h95] at f95 | rw [decide_eq_false h95] at f95)
        all_goals simp only [Bool.not_true, Bool.not_false] at f95
        all_goals have hok : okC (c : Int) = (l2 || g || decide (c = 95)) := by unfold okC; rw [hl2, hg]; congr 1; rw [Bool.eq_iff_iff]; simp; omega
        all_goals (first | rw [decide_eq_true h95] at hok | rw [decide_eq_false h95] at hok)
        all_goals replace h95 := Lib.hid h95
        all_goals replace hl2 := Lib.hid hl2
        all_goals replace hg := Lib.hid hg
        all_goals replace hok := Lib.hid hok
        all_goals cases l2 <;> cases g
        all_goals go_wp2_with (first | (go_at_call 97; refine (CL2.out _).mono ?_; rintro e w' ⟨rfl, rfl⟩) | (go_at_call 46; refine (CD2.out _).mono ?_; rintro e w' ⟨rfl, rfl⟩))
        all_goals first
          | (go_ret; exact names_no (hno.out (by rw [hok.out]; rfl)) hB)
          | (go_round
             case rel => exact ⟨k + 1, by omega, by go_num, Lib.hid (hyes.out (by rw [hok.out]; rfl))⟩
             case measure => simp [intOf]; omega)
      · obtain rfl : k = s.size := by omega
        go_wp2_with fail
        go_ret
        exact ⟨true, rfl, by simp only [true_iff]; exact ⟨by omega, by omega, fun _ => hl.out, fun i h => H.out i h h, hx.out⟩, hB⟩
  · have hn : ¬ NameP s := fun h => by have := h.2.2.2.2; rw [hx] at this; cases this
    replace hn := Lib.hid hn
    replace hx := Lib.hid hx
    go_enter Tryz.func70, Tryz.ntmps70
    go_wp2_with (first | (go_at_call 97; refine (CL.out _).mono ?_; rintro e w' ⟨rfl, rfl⟩) | (go_at_call 98; refine (CW.out _).mono ?_; rintro e u ⟨rfl, hB⟩))
    go_ret
    exact names_no hn.out hB
end Go.Proofs.YtkmlbifhpkfinaaGreatDoor
