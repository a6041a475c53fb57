/- Names: what both packages answer of them, as contracts. -/
import Derived.Test.YtkmlbifhpkfinaaGreatDoorName
namespace Go.Proofs.YtkmlbifhpkfinaaGreatDoor
open Go.ChangeShapes Go.WideShapes Go.ChangeAt Go.RowKit
set_option linter.unusedVariables false
set_option linter.unusedSimpArgs false

def okC (c : Int) : Bool := letC c || digC c || c == 95
def NameP (s : ByteArray) : Prop := 1 ≤ s.size ∧ s.size ≤ 24 ∧ (∀ (h : 0 < s.size), letC (s[0].toNat : Int) = true) ∧ (∀ (i : Nat) (h : i < s.size), okC (s[i].toNat : Int) = true) ∧ wordB s = false
/-- it answers whether s is a name -/
def Names (s : ByteArray) (w : World) (e : Ending) (w' : World) : Prop := ∃ b : Bool, e = .returned (.bool b) ∧ (b = true ↔ NameP s) ∧ Below w.heap.size w w'
theorem names_no {s : ByteArray} {w w' : World} (h : ¬ NameP s) (hb : Below w.heap.size w w') : Names s w (.returned (.bool false)) w' := ⟨false, rfl, by simp [h], hb⟩
theorem iter_below (w : World) (s : ByteArray) (pos : Nat) : Below w.heap.size w (w.iter s pos) := m1 _ _

theorem letC_le {c : Int} (h : letC c = true) : c ≤ 122 := by
  unfold letC at h
  simp at h
  omega
theorem okC_le {c : Int} (h : okC c = true) : c ≤ 122 := by
  unfold okC at h
  simp only [Bool.or_eq_true, beq_iff_eq] at h
  rcases h with (h | h) | h
  · exact letC_le h
  · unfold digC at h; simp at h; omega
  · omega
theorem not_name_at {s : ByteArray} {pos r d : Nat} (hp : pos < s.size) (hc : (r = (s[pos]'hp).toNat ∧ d = 1) ∨ (128 ≤ r ∧ 1 ≤ d ∧ 128 ≤ (s[pos]'hp).toNat)) (hl : letC (r : Int) = false) (hx : pos = 0 ∨ (digC (r : Int) = false ∧ ¬ r = 95)) : ¬ NameP s := by
  rintro ⟨_, _, h3, h4, _⟩
  rcases hx with rfl | ⟨hg, h95⟩
  · have h := h3 hp
    rcases hc with ⟨rfl, _⟩ | ⟨_, _, hb⟩
    · rw [h] at hl; cases hl
    · have := letC_le h; omega
  · have h := h4 pos hp
    rcases hc with ⟨rfl, _⟩ | ⟨_, _, hb⟩
    · unfold okC at h
      rw [hl, hg] at h
      simp at h
      omega
    · have := okC_le h; omega
theorem name_at {s : ByteArray} {pos r d : Nat} (hp : pos < s.size) (hc : (r = (s[pos]'hp).toNat ∧ d = 1) ∨ (128 ≤ r ∧ 1 ≤ d ∧ 128 ≤ (s[pos]'hp).toNat)) (hx : letC (r : Int) = true ∨ (¬ pos = 0 ∧ (digC (r : Int) = true ∨ r = 95)))
    (H1 : ∀ (i : Nat) (h : i < s.size), i < pos → okC (s[i].toNat : Int) = true) (H2 : 0 < pos → ∀ (h : 0 < s.size), letC (s[0].toNat : Int) = true) :
    d = 1 ∧ (∀ (i : Nat) (h : i < s.size), i < pos + d → okC (s[i].toNat : Int) = true) ∧ (0 < pos + d → ∀ (h : 0 < s.size), letC (s[0].toNat : Int) = true) := by
  have ok : okC (r : Int) = true := by
    unfold okC
    rcases hx with h | ⟨_, h | h⟩
    · rw [h]; rfl
    · rw [h]; simp
    · subst h; simp
  have hr := okC_le ok
  rcases hc with ⟨rfl, rfl⟩ | ⟨hb, _, _⟩
  · refine ⟨rfl, fun i h hi => ?_, fun _ h => ?_⟩
    · by_cases c : i < pos
      · exact H1 i h c
      · obtain rfl : i = pos := by omega
        exact ok
    · by_cases c : 0 < pos
      · exact H2 c h
      · obtain rfl : pos = 0 := by omega
        rcases hx with h | ⟨h, _⟩
        · exact h
        · exact absurd rfl h
  · omega

set_option maxHeartbeats 4000000 in
set_option maxRecDepth 100000 in
theorem name_any (s : ByteArray) (w : World) :
    Calls Tryz.prog 99 #[.string s] w (Names s w) := by
  by_cases h0 : s.size = 0
  · obtain rfl : s = ⟨#[]⟩ := by
      obtain ⟨d⟩ := s
      have : d.size = 0 := h0
      rw [Array.eq_empty_of_size_eq_zero this]
    go_enter Tryz.func99, Tryz.ntmps99
    go_wp2
    go_ret
    exact names_no (fun h => absurd h.1 (by decide)) (Below.refl _ _)
  have he : s.toList.isEmpty = false := by
    obtain ⟨d⟩ := s
    cases hx : (ByteArray.mk d).toList with
    | nil =>
      exfalso
      apply h0
      have : (ByteArray.mk d).toList.length = d.size := by simp [ByteArray.toList_eq]
      rw [hx] at this
      exact this.symm
    | cons a l => rfl
  by_cases h24 : 24 < s.size
  · go_enter Tryz.func99, Tryz.ntmps99
    go_wp2
    go_ret
    exact names_no (fun h => by have := h.2.1; omega) (Below.refl _ _)
  have hle : ¬ (24 : Int) < (s.size : Int) := by omega
  go_enter Tryz.func99, Tryz.ntmps99
  go_wp2_with fail
  go_loopw [3] (fun i w' => ∃ pos : Nat, w' = w.iter s pos ∧ pos ≤ s.size ∧ Hid (∀ (i : Nat) (h : i < s.size), i < pos → okC (s[i].toNat : Int) = true) ∧ Hid (0 < pos → ∀ (h : 0 < s.size), letC (s[0].toNat : Int) = true)) (fun _ w' => s.size - w'.iterPos w.heap.size)
  case atStart => exact ⟨0, rfl, Nat.zero_le _, Lib.hid (fun i h h' => by omega), Lib.hid (fun h => by omega)⟩
  case round =>
    obtain ⟨pos, rfl, hpos, H1, H2⟩ := hrel
    by_cases hp : pos < s.size
    · obtain ⟨r, d, hrd, hcase⟩ : ∃ r d, Utf8.decode s pos = (r, d) ∧ ((r = (s[pos]'hp).toNat ∧ d = 1) ∨ (128 ≤ r ∧ 1 ≤ d ∧ 128 ≤ (s[pos]'hp).toNat)) := by
        by_cases ha : (s[pos]'hp).toNat < 128
        · exact ⟨_, _, decode_ascii s pos hp ha, .inl ⟨rfl, rfl⟩⟩
        · have := decode_high s pos hp (by omega)
          exact ⟨_, _, rfl, .inr ⟨this.1, this.2, by omega⟩⟩
      have hnx : ∀ ty, (Instr.next (.pointer (some ⟨w.heap.size, 0, none⟩)) true ty).run Tryz.prog (w.iter s pos) = .ok (.tuple #[.bool true, .int .i64 pos, .int .i32 (r : Int)]) (w.iter s (pos + d)) := fun ty => by
        rw [run_next_any w s pos ty hp, hrd]
      clear hrd
      obtain ⟨l, hl⟩ : ∃ b, letC (r : Int) = b := ⟨_, rfl⟩
      obtain ⟨g, hg⟩ : ∃ b, digC (r : Int) = b := ⟨_, rfl⟩
      have CL := Lib.hid (fun w => letter_any (r : Int) w)
      have CD := Lib.hid (fun w => digit_any (r : Int) w)
      rw [hl] at CL
      rw [hg] at CD
      replace hl := Lib.hid hl
      replace hg := Lib.hid hg
      replace hcase := Lib.hid hcase
      by_cases hz : pos = 0
      all_goals by_cases h95 : r = 95
      all_goals have fz : ((pos : Int) == 0) = decide (pos = 0) := by rw [Bool.eq_iff_iff]; simp
      all_goals have f95 : ((r : Int) != 95) = !decide (r = 95) := by rw [Bool.eq_iff_iff]; simp; omega
      all_goals (first | rw [decide_eq_true hz] at fz | rw [decide_eq_false hz] at fz)
      all_goals (first | rw [decide_eq_true h95] at f95 | rw [decide_eq_false h95] at f95)
      all_goals simp only [Bool.not_true, Bool.not_false] at f95
      all_goals replace hz := Lib.hid hz
      all_goals replace h95 := Lib.hid h95
      all_goals cases l <;> cases g
      all_goals go_wp2_with (first | (go_at_call 116; refine (CL.out _).mono ?_; rintro e w' ⟨rfl, rfl⟩) | (go_at_call 117; refine (CD.out _).mono ?_; rintro e w' ⟨rfl, rfl⟩))
      all_goals first
        | (go_ret; exact names_no (not_name_at hp hcase.out hl.out (by first | exact .inl hz.out | exact .inr ⟨hg.out, h95.out⟩)) (iter_below _ _ _))
        | (have hx := name_at hp hcase.out (by first | exact .inl hl.out | exact .inr ⟨hz.out, .inl hg.out⟩ | exact .inr ⟨hz.out, .inr h95.out⟩) H1.out H2.out
           have hd1 := hx.1
           have hx2 := Lib.hid hx.2
           clear hx
           go_roundw
           case rel => exact ⟨pos + d, rfl, by omega, Lib.hid hx2.out.1, Lib.hid hx2.out.2⟩
           case measure => simp; omega)
    · obtain rfl : pos = s.size := by omega
      have hnx : ∀ ty, (Instr.next (.pointer (some ⟨w.heap.size, 0, none⟩)) true ty).run Tryz.prog (w.iter s s.size) = _ := fun ty => run_next_end w s s.size ty hp
      obtain ⟨x, hx⟩ : ∃ b, wordB s = b := ⟨_, rfl⟩
      have CW := Lib.hid (fun w => word_any s w)
      rw [hx] at CW
      replace hx := Lib.hid hx
      go_wp2_with (go_at_call 118; refine (CW.out _).mono ?_; rintro e w' ⟨rfl, rfl⟩)
      all_goals go_ret
      all_goals refine ⟨!x, rfl, ?_, iter_below _ _ _⟩
      all_goals have hx := hx.out
      all_goals unfold NameP
      all_goals rw [hx]
      all_goals refine ⟨fun h => ⟨by omega, by omega, fun h' => H2.out h' h', fun i h' => H1.out i h' h', by simpa using h⟩, fun h => by simpa using h.2.2.2.2⟩
end Go.Proofs.YtkmlbifhpkfinaaGreatDoor
