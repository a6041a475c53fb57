/- How tokens are spelt: lists. -/
import Derived.Test.YteojcohmocbakaaDoorLexH
namespace Go.Proofs.YteojcohmocbakaaDoor
open Go.ChangeShapes Go.WideShapes Go.ChangeAt Go.RowKit
set_option linter.unusedVariables false
set_option linter.unusedSimpArgs false

theorem digV_zero (l : List UInt8) : digV (48 :: l) = digV l := by
  rw [digV_cons]
  rfl
theorem dec_len_pos (n : Nat) : 1 ≤ (Lib.decDigits n).length := by
  rw [Lib.decDigits]
  split
  · simp
  · simp
theorem dec_zero : Lib.decDigits 0 = [48] := by
  rw [Lib.decDigits, dif_pos (by omega)]
  rfl
/-- digits are those of their number behind noughts -/
theorem pad_dig : ∀ (l : List UInt8), l ≠ [] → (∀ x ∈ l, digC (x.toNat : Int) = true) → (Lib.decDigits (digV l)).length ≤ l.length ∧ List.replicate (l.length - (Lib.decDigits (digV l)).length) 48 ++ Lib.decDigits (digV l) = l
  | [], h, _ => absurd rfl h
  | c :: l, _, hd => by
    by_cases hc : c.toNat = 48
    · obtain rfl : c = 48 := UInt8.toNat_inj.1 hc
      rw [digV_zero]
      cases l with
      | nil =>
        rw [show digV [] = 0 from rfl, dec_zero]
        exact ⟨Nat.le_refl _, rfl⟩
      | cons d l =>
        obtain ⟨h1, h2⟩ := pad_dig (d :: l) (by simp) (fun x hx => hd x (by simp only [List.mem_cons] at hx ⊢; exact .inr hx))
        refine ⟨by rw [List.length_cons]; omega, ?_⟩
        rw [show (48 :: d :: l).length - (Lib.decDigits (digV (d :: l))).length = ((d :: l).length - (Lib.decDigits (digV (d :: l))).length) + 1 by rw [List.length_cons (a := 48)]; omega]
        rw [List.replicate_succ, List.cons_append, h2]
    · have h := dec_digV _ (c :: l) rfl (by simp) hd (fun h => absurd h hc)
      rw [h]
      exact ⟨Nat.le_refl _, by simp⟩
theorem digV_app : ∀ (P W : List UInt8), digV (W ++ P) = digV W * 10 ^ P.length + digV P := by
  intro P
  have H : ∀ (n : Nat) (P : List UInt8), P.length = n → ∀ W, digV (W ++ P) = digV W * 10 ^ P.length + digV P := by
    intro n
    induction n with
    | zero =>
      intro P h W
      obtain rfl := List.length_eq_zero_iff.1 h
      simp [digV]
    | succ n ih =>
      intro P h W
      obtain ⟨m, c, rfl⟩ : ∃ m c, P = m ++ [c] := ⟨P.dropLast, P.getLast (by intro e; rw [e] at h; simp at h), (List.dropLast_concat_getLast _).symm⟩
      have hm : m.length = n := by simp at h; exact h
      rw [← List.append_assoc, digV_snoc, digV_snoc, ih m hm W, List.length_append, List.length_cons, List.length_nil, Nat.pow_add, Nat.zero_add, Nat.pow_one]
      rw [Nat.add_mul, Nat.mul_assoc]
      omega
  exact H _ P rfl
def noLead (W : List UInt8) : Prop := W ≠ [] ∧ ((W.headD 0).toNat = 48 → W.length = 1)
/-- the digits of a number with a point, noughts ahead -/
theorem point_dig (W P : List UInt8) (hW : ∀ x ∈ W, digC (x.toNat : Int) = true) (hP : ∀ x ∈ P, digC (x.toNat : Int) = true) (h0 : noLead W) :
    List.replicate (P.length + 1 - (Lib.decDigits (digV (W ++ P))).length) 48 ++ Lib.decDigits (digV (W ++ P)) = W ++ P := by
  have hall : ∀ x ∈ W ++ P, digC (x.toNat : Int) = true := fun x hx => by
    rcases List.mem_append.1 hx with h | h
    · exact hW x h
    · exact hP x h
  have hne : W ++ P ≠ [] := by
    intro h
    exact h0.1 (List.append_eq_nil_iff.1 h).1
  by_cases h48 : (W.headD 0).toNat = 48
  · have hl := h0.2 h48
    obtain ⟨h1, h2⟩ := pad_dig _ hne hall
    rw [List.length_append, hl, Nat.add_comm] at h2
    exact h2
  · have hd := dec_digV _ (W ++ P) rfl hne hall (fun h => by
      cases W with
      | nil => exact absurd rfl h0.1
      | cons c W => exact absurd h h48)
    rw [hd, List.length_append]
    have : 1 ≤ W.length := by
      cases W with
      | nil => exact absurd rfl h0.1
      | cons c W => simp
    rw [show P.length + 1 - (W.length + P.length) = 0 by omega]
    rfl
/-- how a token is spelt: its bytes, of one that a text begins with -/
inductive SpellR : Tok → List UInt8 → Prop
  | fin : SpellR ⟨0, [], 0, 0⟩ []
  | text (k : Int) (t : List UInt8) (hk : k = 1 ∨ k = 2 ∨ k = 6) : SpellR ⟨k, t, 0, 0⟩ t
  | sym (t : List UInt8) : SpellR ⟨5, t, 0, 0⟩ (39 :: t ++ [39])
  | int (W : List UInt8) (hW : ∀ x ∈ W, digC (x.toNat : Int) = true) (h0 : noLead W) (hD : digV W < 9223372036854775808) : SpellR ⟨3, [], digV W, 0⟩ W
  | real (W P : List UInt8) (hW : ∀ x ∈ W, digC (x.toNat : Int) = true) (hP : ∀ x ∈ P, digC (x.toNat : Int) = true) (h0 : noLead W) (hp : P ≠ []) (h15 : W.length + P.length ≤ 15) : SpellR ⟨4, [], digV (W ++ P), P.length⟩ (W ++ 46 :: P)
theorem fracF_take (l : List UInt8) (h : (fracF l).length ≠ 0) : l.take (1 + (fracF l).length) = 46 :: fracF l := by
  cases l with
  | nil => exact absurd rfl h
  | cons c r =>
    rw [fracF_cons] at h ⊢
    split at h
    · rename_i hc
      rw [if_pos hc]
      obtain rfl : c = 46 := UInt8.toNat_inj.1 hc
      rw [Nat.add_comm, List.take_succ_cons, runL_take]
    · exact absurd rfl h
theorem first_spell (l : List UInt8) (h : (firstF l).2 ≠ 0) : SpellR (firstF l).1 (l.take (firstF l).2) := by
  cases l with
  | nil => exact absurd rfl h
  | cons c r =>
    rw [firstF_cons] at h ⊢
    split at h
    · rename_i hc
      rw [if_pos hc]
      unfold wordF at h ⊢
      split at h
      · rename_i h1
        rw [if_pos h1, runL_take]
        exact .text 1 _ (.inl rfl)
      · rename_i h1
        rw [if_neg h1]
        split at h
        · rename_i h2
          rw [if_pos h2, runL_take]
          exact .text 2 _ (.inr (.inl rfl))
        · exact absurd rfl h
    · rename_i hc
      rw [if_neg hc]
      split at h
      · rename_i hd
        rw [if_pos hd]
        have hW := runL_all digC (c :: r)
        have hWc : runL digC (c :: r) = c :: runL digC r := by rw [runL_cons, if_pos hd]
        have hP := fracF_dig ((c :: r).drop (runL digC (c :: r)).length)
        unfold numF at h ⊢
        split at h
        · exact absurd rfl h
        · rename_i h1
          rw [if_neg h1]
          have hh : (runL digC (c :: r)).headD 0 = (c :: r).headD 0 := by rw [hWc]; rfl
          have h0 : noLead (runL digC (c :: r)) := by
            refine ⟨by rw [hWc]; simp, fun h2 => ?_⟩
            rw [hh] at h2
            have h3 : 1 ≤ (runL digC (c :: r)).length := by rw [hWc]; simp
            apply Classical.byContradiction
            intro h4
            exact h1 (.inr ⟨h2, by omega⟩)
          have hDD : digV (runL digC (c :: r) ++ fracF ((c :: r).drop (runL digC (c :: r)).length)) < 9223372036854775808 := Classical.byContradiction fun h2 => h1 (.inl h2)
          split at h
          · rename_i h2
            rw [if_pos h2]
            have he := List.length_eq_zero_iff.1 h2
            rw [he, List.append_nil] at hDD ⊢
            rw [runL_take]
            exact .int _ hW h0 hDD
          · rename_i h2
            rw [if_neg h2]
            split at h
            · exact absurd rfl h
            · rename_i h3
              rw [if_neg h3]
              have hs : (c :: r).take ((runL digC (c :: r)).length + 1 + (fracF ((c :: r).drop (runL digC (c :: r)).length)).length) = runL digC (c :: r) ++ 46 :: fracF ((c :: r).drop (runL digC (c :: r)).length) := by
                have ht := fracF_take ((c :: r).drop (runL digC (c :: r)).length) h2
                rw [Nat.add_assoc, List.take_add, runL_take, ht]
              rw [hs]
              exact .real _ _ hW hP h0 (fun h4 => h2 (by rw [h4]; rfl)) (by omega)
      · rename_i hd
        rw [if_neg hd]
        split at h
        · rename_i hq
          rw [if_pos hq]
          obtain rfl : c = 39 := UInt8.toNat_inj.1 hq
          unfold symF at h ⊢
          split at h
          · rename_i h1
            rw [if_pos h1]
            have h2 := h1.2
            have hs : (39 :: r : List UInt8).take ((runL okC r).length + 2) = 39 :: runL okC r ++ [39] := by
              rw [show (runL okC r).length + 2 = ((runL okC r).length + 1) + 1 by omega, List.take_succ_cons, List.take_add, runL_take]
              cases hr : r.drop (runL okC r).length with
              | nil => rw [hr] at h2; cases h2
              | cons d q =>
                rw [hr] at h2
                simp at h2
                subst h2
                rfl
            rw [hs]
            exact .sym _
          · exact absurd rfl h
        · rename_i hq
          rw [if_neg hq]
          unfold signF at h ⊢
          split at h
          · rename_i h1
            rw [if_pos h1]
            have h2 := h1.2
            cases r with
            | nil => cases h2
            | cons d q =>
              simp at h2
              subst h2
              exact .text 6 _ (.inr (.inr rfl))
          · rename_i h1
            rw [if_neg h1]
            split at h
            · rename_i h2
              rw [if_pos h2]
              exact .text 6 _ (.inr (.inr rfl))
            · exact absurd rfl h
/-- each token of a scan is spelt where it stands -/
theorem ScanR.spelt {a : Nat} {l : List UInt8} {T : List (Tok × Nat)} {e : Bool × Nat} (h : ScanR a l T e) : ∀ p ∈ T, ∃ z, SpellR p.1 z ∧ a ≤ p.2 ∧ p.2 + z.length ≤ a + l.length ∧ (l.drop (p.2 - a)).take z.length = z ∧ 1 ≤ z.length := by
  induction h with
  | fin a => intro p hp; cases hp
  | blank a c r T e h k ih =>
    intro p hp
    obtain ⟨z, h1, h2, h3, h4, h5⟩ := ih p hp
    refine ⟨z, h1, by omega, by rw [List.length_cons]; omega, ?_, h5⟩
    rw [show p.2 - a = (p.2 - (a + 1)) + 1 by omega]
    exact h4
  | tok a c r T e h hn k ih =>
    intro p hp
    rcases List.mem_cons.1 hp with rfl | hp
    · have hle := firstF_le (c :: r)
      have hz : ((c :: r).take (firstF (c :: r)).2).length = (firstF (c :: r)).2 := by rw [List.length_take]; omega
      refine ⟨_, first_spell (c :: r) hn, Nat.le_refl _, ?_, ?_, ?_⟩
      · show a + _ ≤ _
        omega
      · show ((c :: r).drop (a - a)).take _ = _
        rw [Nat.sub_self, hz]
        rfl
      · rw [hz]; omega
    · obtain ⟨z, h1, h2, h3, h4, h5⟩ := ih p hp
      have hle := firstF_le (c :: r)
      rw [List.length_drop] at h3
      refine ⟨z, h1, by omega, by omega, ?_, h5⟩
      rw [List.drop_drop] at h4
      rw [show (firstF (c :: r)).2 + (p.2 - (a + (firstF (c :: r)).2)) = p.2 - a by omega] at h4
      exact h4
  | bad a c r h hn => intro p hp; cases hp
end Go.Proofs.YteojcohmocbakaaDoor
