/- What both packages spell of a token that stands in a text. -/
import Derived.Test.YteojcohmocbakaaDoorLexK
namespace Go.Proofs.YteojcohmocbakaaDoor
open Go.ChangeShapes Go.WideShapes Go.ChangeAt Go.RowKit
set_option linter.unusedVariables false
set_option linter.unusedSimpArgs false

theorem quote_text (t : List UInt8) : (⟨#[39]⟩ : ByteArray) ++ ba t ++ ⟨#[39]⟩ = ba (39 :: t ++ [39]) := by
  rw [← ba_of ((⟨#[39]⟩ : ByteArray) ++ ba t ++ ⟨#[39]⟩), list_append, list_append, ba_list]
  rfl
theorem spelt_both {p : Tok} {z : List UInt8} (h : SpellR p z) (hz : z.length ≤ 4000) :
    (∀ (a : Int) (w : World), Tab w → Calls Tryd.prog 12 #[tokA p a] w fun e w' => e = .returned (.string (ba z)) ∧ Below w.heap.size w w') ∧
    (∀ (a : Int) (w : World), Calls Tryd.prog 13 #[tokA p a] w fun e w' => e = .returned (.string (ba z)) ∧ Below w.heap.size w w') := by
  cases h with
  | fin => exact ⟨fun a w _ => spell_fin _ _ _ _ w, fun a w => rspell_text 0 (.inl rfl) _ _ _ _ w⟩
  | text k t hk =>
    have hs : (ba z).size ≤ 4000 := by rw [ba_size]; exact hz
    exact ⟨fun a w _ => spell_text k hk _ _ _ _ w hs, fun a w => rspell_text k (.inr hk) _ _ _ _ w⟩
  | sym t =>
    have hs : (ba t).size ≤ 4000 := by rw [ba_size]; simp at hz; omega
    rw [← quote_text]
    exact ⟨fun a w _ => spell_sym _ _ _ _ w hs, fun a w => rspell_sym _ _ _ _ w hs⟩
  | int W hW h0 hD =>
    have hi : Lib.itoa (digV z : Int) = z := by
      unfold Lib.itoa
      rw [if_neg (by omega), Int.toNat_natCast, dec_digV _ z rfl h0.1 hW h0.2]
    constructor
    · intro a w ht
      have := spell_int (ba []) (digV z : Int) 0 a w (by omega) (by omega) ht
      rw [hi] at this
      exact this
    · intro a w
      have := rspell_int (ba []) (digV z : Int) 0 a w (by omega) (by omega)
      rw [hi] at this
      exact this
  | real W P hW hP h0 hp h15 =>
    exact ⟨fun a w ht => spell_real _ _ _ a _ w fun w1 hb => decimal_F W P w1 hW hP h0 hp h15 (ht.later hb), fun a w => rspell_real _ _ _ a _ w fun w1 => point_F W P w1 hW hP h0 hp h15⟩
/-- each token of a scan that ends well, the end too: how it is spelt, and where -/
theorem spelt_at {s : ByteArray} {T : List (Tok × Nat)} {e : Bool × Nat} (h : ScanR 0 s.data.toList T e) : ∀ p ∈ T ++ [((⟨0, [], 0, 0⟩ : Tok), s.size)], ∃ z, SpellR p.1 z ∧ p.2 + z.length ≤ s.size ∧ s.extract p.2 (p.2 + z.length) = ba z := by
  intro p hp
  rcases List.mem_append.1 hp with hp | hp
  · obtain ⟨z, h1, _, h3, h4, _⟩ := h.spelt p hp
    rw [list_size, Nat.zero_add] at h3
    refine ⟨z, h1, h3, ?_⟩
    rw [← ba_of (s.extract _ _), ext_list, Nat.add_sub_cancel_left]
    rw [Nat.sub_zero] at h4
    rw [h4]
  · simp at hp
    subst hp
    refine ⟨[], .fin, by simp, ?_⟩
    rw [← ba_of (s.extract _ _), ext_list]
    simp
end Go.Proofs.YteojcohmocbakaaDoor
