/- 'awake' of the statements on schemas answers true, as a contract. -/
import Derived.Test.YtpjlocmohcjpfaaSchC
import Derived.Test.YtpjlocmohcjpfaaSto
import Derived.Test.YtpjlocmohcjpfaaNameC
namespace Go.Proofs.Ytpjlocmohcjpfaa
open Go.ChangeShapes Go.WideShapes Go.ChangeAt Go.RowKit
set_option linter.unusedVariables false
set_option linter.unusedSimpArgs false

def oneT : List ST := [(⟨#[84]⟩, [(⟨#[120]⟩, 1)]), (⟨#[85]⟩, [])]
def oneS : List ByteArray := [⟨#[97, 110, 110]⟩]
theorem one_type : typeOf oneT ⟨#[85]⟩ = 1 := by
  simp [typeOf, place, placeFrom, oneT, ByteArray.toList_eq]
theorem one_attr : attrOf oneT 0 ⟨#[120]⟩ = 0 := by
  simp [attrOf, fieldOf, place, placeFrom, oneT, ByteArray.toList_eq]
theorem one_kind : kindOf oneT 0 0 = 1 := by
  simp [kindOf, oneT]
theorem one_sym : textOf oneS ⟨#[98, 111, 98]⟩ = -1 := by
  simp [textOf, place, placeFrom, oneS, ByteArray.toList_eq]
theorem one_name : NameP ⟨#[97, 95, 49]⟩ := by
  refine ⟨by decide, by decide, fun h => (by decide : letC (97 : Int) = true), fun i h => ?_, ?_⟩
  · match i, h with
    | 0, _ => exact (by decide : okC (97 : Int) = true)
    | 1, _ => exact (by decide : okC (95 : Int) = true)
    | 2, _ => exact (by decide : okC (49 : Int) = true)
    | i + 3, h => exact absurd h (by show ¬ i + 3 < 3; omega)
  · simp [wordB, wordL, ByteArray.toList_eq]

set_option maxHeartbeats 1000000 in
theorem one_any (w : World) :
    Calls Try.prog 46 #[] w fun e w' => ∃ v1 v2, e = .returned (.agg #[v1, v2]) ∧ TypesIn w' v1 oneT ∧ SymsIn w' v2 oneS ∧ Below w.heap.size w w' := by
  go_enter Try.func46, Try.ntmps46
  go_wp2
  refine bodyPost_ret (v := .agg #[.slice (some ⟨w.heap.size + 1 + 1, 0, none⟩) 2 2, .slice (some ⟨w.heap.size + 1 + 1 + 1, 0, none⟩) 1 1]) (by simp [results, Try.results46, go_sem]) rfl ⟨_, _, rfl, ⟨_, _, rfl, fun _ => ⟨w.heap.size + 1 + 1, 0, rfl, fun i t h => ?_⟩⟩, ⟨_, 1, rfl, ⟨Nat.le_refl _, by unfold maxLen; omega⟩, fun _ => ⟨w.heap.size + 1 + 1 + 1, 0, rfl, fun i s h => ?_⟩⟩, (((m1 _ _).alloc (by simp) _).alloc (by simp; omega) _).alloc (by simp; omega) _⟩
  · match i, h with
    | 0, h =>
      simp [oneT] at h
      subst h
      exact ⟨.slice (some ⟨w.heap.size + 1, 0, none⟩) 1 1, by simp [go_sem], by simp [go_sem], _, 1, rfl, fun _ => ⟨w.heap.size + 1, 0, rfl, fun j f hf => by
        match j, hf with
        | 0, hf => simp at hf; subst hf; exact ⟨by simp [go_sem], by simp [go_sem]⟩⟩⟩
    | 1, h =>
      simp [oneT] at h
      subst h
      exact ⟨.slice none 0 0, by simp [go_sem], by simp [go_sem], none, 0, rfl, fun hp => by simp at hp⟩
  · match i, h with
    | 0, h =>
      simp [oneS] at h
      subst h
      simp [go_sem]

theorem TypesIn.slice {w : World} {v : Value} {ts : List ST} (h : TypesIn w v ts) : ∃ A cap, v = .slice A ts.length cap ∧ TypesAt w A ts := h
theorem SymsIn.slice {w : World} {v : Value} {ss : List ByteArray} (h : SymsIn w v ss) : ∃ A cap, v = .slice A ss.length cap ∧ SymsAt w A ss := by
  obtain ⟨A, cap, e, _, h⟩ := h
  exact ⟨A, cap, e, h⟩
theorem SymsIn.slice2 {w : World} {v : Value} {ss : List ByteArray} (h : SymsIn w v ss) : ∃ A cap, v = .slice A ss.length cap ∧ ss.length ≤ cap ∧ cap ≤ maxLen ∧ SymsAt w A ss := by
  obtain ⟨A, cap, e, ⟨h1, h2⟩, h⟩ := h
  exact ⟨A, cap, e, h1, h2, h⟩

set_option maxHeartbeats 4000000 in
set_option maxRecDepth 100000 in
theorem sawake_any (w : World) : Calls Try.prog 15 #[] w fun e w' => e = .returned (.bool true) ∧ Below w.heap.size w w' := by
  have hfl : ∀ x ∈ oneT, x.2.length ≤ 9223372036854775807 := by decide
  have N1 := Lib.hid one_name
  have C1 := Lib.hid one_type
  have C2 := Lib.hid one_attr
  have C3 := Lib.hid one_kind
  have C4 := Lib.hid one_sym
  go_enter Try.func15, Try.ntmps15
  go_wp2_with fail
  refine (one_any _).mono ?_; rintro e w1 ⟨v1, v2, rfl, hT, hS, hb1⟩
  go_wp2_with fail
  refine (sto_any v1 v2 oneT oneS _ hT hS (by decide) (by decide) (by decide)).mono ?_; rintro e w2 ⟨x1, x2, rfl, hT2, hS2, hb2⟩
  obtain ⟨A, cap, rfl, hTA⟩ := hT2.slice
  obtain ⟨B, capB, rfl, hSB⟩ := hS2.slice
  have hB2 := mmore hb1 hb2
  have hb3 := m1 w2 (.cells #[.slice A oneT.length cap, .slice B oneS.length capB] 46)
  have hTA3 := Lib.hid (hTA.later hb3)
  have hSB3 := Lib.hid (hSB.later hb3)
  have q0 : (w2.alloc (.cells #[.slice A oneT.length cap, .slice B oneS.length capB] 46)).cell? ⟨w2.heap.size, 0, none⟩ = some (.slice A oneT.length cap) := by simp [go_sem]
  have q1 : (w2.alloc (.cells #[.slice A oneT.length cap, .slice B oneS.length capB] 46)).cell? ⟨w2.heap.size, 1, none⟩ = some (.slice B oneS.length capB) := by simp [go_sem]
  replace hB2 := Lib.hid (mmore hB2 hb3)
  clear hT hS hT2 hS2 hTA hSB hb1 hb2 hb3
  go_wp2_with fail
  generalize w2.alloc (.cells #[.slice A oneT.length cap, .slice B oneS.length capB] 46) = u at *
  generalize w2.heap.size = g at *
  refine (name_any _ _).mono ?_; rintro e w3 ⟨b, rfl, hb, hb3⟩
  obtain rfl : b = true := hb.2 N1.out
  have q0 := cell_later hb3 q0
  have q1 := cell_later hb3 q1
  have hB3 := Lib.hid (mmore hB2.out hb3)
  have hT3 := Lib.hid (hTA3.out.later hb3)
  have hS3 := Lib.hid (hSB3.out.later hb3)
  clear hb hb3 hB2 hTA3 hSB3
  go_wp2_with fail
  refine (type_any A cap _ oneT _ _ hT3.out (by decide)).mono ?_; rintro e w4 ⟨rfl, hb3⟩
  rw [C1.out]
  have q0 := cell_later hb3 q0
  have q1 := cell_later hb3 q1
  have hB4 := Lib.hid (mmore hB3.out hb3)
  have hT4 := Lib.hid (hT3.out.later hb3)
  have hS4 := Lib.hid (hS3.out.later hb3)
  clear hb3 hB3 hT3 hS3
  go_wp2_with fail
  refine (attr_any A cap _ oneT 0 _ _ hT4.out (by decide) hfl).mono ?_; rintro e w5 ⟨rfl, hb3⟩
  rw [C2.out]
  have q0 := cell_later hb3 q0
  have q1 := cell_later hb3 q1
  have hB5 := Lib.hid (mmore hB4.out hb3)
  have hT5 := Lib.hid (hT4.out.later hb3)
  have hS5 := Lib.hid (hS4.out.later hb3)
  clear hb3 hB4 hT4 hS4
  go_wp2_with fail
  refine (kind_any A cap _ oneT 0 0 _ hT5.out (by decide) hfl).mono ?_; rintro e w6 ⟨rfl, hb3⟩
  rw [C3.out]
  have q0 := cell_later hb3 q0
  have q1 := cell_later hb3 q1
  have hB6 := Lib.hid (mmore hB5.out hb3)
  have hS6 := Lib.hid (hS5.out.later hb3)
  clear hb3 hB5 hT5 hS5
  go_wp2_with fail
  refine (sym_any B capB _ oneS _ _ hS6.out (by decide)).mono ?_; rintro e w7 ⟨rfl, hb3⟩
  rw [C4.out]
  have hB7 := Lib.hid (mmore hB6.out hb3)
  clear hb3 hB6 hS6 q0 q1
  go_wp2_with fail
  go_ret
  exact ⟨rfl, hB7.out⟩
end Go.Proofs.Ytpjlocmohcjpfaa
