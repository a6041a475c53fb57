/- Hexadecimal digits of 64-bit numbers: plain lists, no Go in sight. -/
import Derived.Laws.BytesArg
import Derived.Lib.Hide
import Derived.Lib.RepeatB
namespace Go.Proofs.YtkmlbifhpkfinaaGreatDoor
open Go.RowKit
set_option linter.unusedVariables false
set_option linter.unusedSimpArgs false

/-- a digit's byte -/
def hexC (d : Nat) : UInt8 := if d < 10 then UInt8.ofNat (48 + d) else UInt8.ofNat (87 + d)
/-- k digits, noughts ahead -/
def hexK : Nat → Nat → List UInt8
  | 0, _ => []
  | k + 1, n => hexK k (n / 16) ++ [hexC (n % 16)]
/-- as many digits as there are, one of nought -/
def hexD (n : Nat) : List UInt8 := if h : n < 16 then [hexC n] else hexD (n / 16) ++ [hexC (n % 16)]
theorem hexD_small {n : Nat} (h : n < 16) : hexD n = [hexC n] := by rw [hexD, dif_pos h]
theorem hexD_big {n : Nat} (h : ¬ n < 16) : hexD n = hexD (n / 16) ++ [hexC (n % 16)] := by rw [hexD, dif_neg h]
theorem hexK_len : ∀ k n, (hexK k n).length = k
  | 0, _ => rfl
  | k + 1, n => by simp [hexK, hexK_len k]
theorem hexK_zero : ∀ k, hexK k 0 = List.replicate k 48
  | 0 => rfl
  | k + 1 => by
    rw [hexK, show (0 : Nat) / 16 = 0 from rfl, hexK_zero k, List.replicate_succ']
    rfl
theorem hexD_pos (n : Nat) : 1 ≤ (hexD n).length := by
  rw [hexD]; split <;> simp
theorem hexK_D : ∀ k n, 0 < k → n < 16 ^ k → (hexD n).length ≤ k ∧ hexK k n = List.replicate (k - (hexD n).length) 48 ++ hexD n
  | 0, _, h, _ => by omega
  | k + 1, n, _, hn => by
    by_cases h : n < 16
    · rw [hexD_small h, hexK, show n / 16 = 0 by omega, hexK_zero, show n % 16 = n by omega]
      exact ⟨by simp, by simp⟩
    · have hk : 0 < k := by
        rcases Nat.eq_zero_or_pos k with rfl | h2
        · simp at hn; omega
        · exact h2
      have hd : n / 16 < 16 ^ k := by rw [Nat.pow_succ] at hn; omega
      obtain ⟨h1, h2⟩ := hexK_D k (n / 16) hk hd
      rw [hexD_big h, hexK, h2]
      refine ⟨by simp; omega, ?_⟩
      rw [List.length_append, List.length_singleton, Nat.add_sub_add_right, List.append_assoc]
theorem hexD_len {n : Nat} (h : n < 18446744073709551616) : (hexD n).length ≤ 16 := (hexK_D 16 n (by decide) (by simpa using h)).1
theorem hex16_D {n : Nat} (h : n < 18446744073709551616) : hexK 16 n = List.replicate (16 - (hexD n).length) 48 ++ hexD n := (hexK_D 16 n (by decide) (by simpa using h)).2

/-- a byte's worth, as strconv takes it: great letters too -/
def hexV (c : Nat) : Option Nat := if 48 ≤ c ∧ c ≤ 57 then some (c - 48) else if 97 ≤ (c ||| 32) ∧ (c ||| 32) ≤ 102 then some ((c ||| 32) - 87) else none
inductive HexR where
  | ok (n : Nat)
  | syntaxE
  | rangeE
def hexP : Nat → List UInt8 → HexR
  | acc, [] => .ok acc
  | acc, c :: r => match hexV c.toNat with
    | none => .syntaxE
    | some d => if 1152921504606846976 ≤ acc then .rangeE else hexP (acc * 16 + d) r
theorem hexV_C : ∀ d, d < 16 → hexV (hexC d).toNat = some d := by decide
theorem hexP_app : ∀ (l : List UInt8) (acc n : Nat) (d : Nat), d < 16 → hexP acc l = .ok n → hexP acc (l ++ [hexC d]) = (if 1152921504606846976 ≤ n then .rangeE else .ok (n * 16 + d))
  | [], acc, n, d, hd, h => by
    simp [hexP] at h
    subst h
    simp [hexP, hexV_C d hd]
  | c :: r, acc, n, d, hd, h => by
    simp only [hexP, List.cons_append] at h ⊢
    cases hc : hexV c.toNat with
    | none => rw [hc] at h; cases h
    | some e =>
      rw [hc] at h
      simp only at h ⊢
      split at h
      · cases h
      · rename_i h2
        rw [if_neg h2]
        exact hexP_app r _ n d hd h
theorem hexP_K : ∀ k n, k ≤ 16 → n < 16 ^ k → hexP 0 (hexK k n) = .ok n
  | 0, n, _, h => by simp at h; subst h; rfl
  | k + 1, n, hk, h => by
    have hd : n / 16 < 16 ^ k := by rw [Nat.pow_succ] at h; omega
    have ih := hexP_K k (n / 16) (by omega) hd
    have hm : n % 16 < 16 := Nat.mod_lt _ (by decide)
    have hl : 16 ^ k ≤ 16 ^ 15 := Nat.pow_le_pow_right (by decide) (by omega)
    have e15 : (16 : Nat) ^ 15 = 1152921504606846976 := by decide
    rw [hexK, hexP_app _ _ _ _ hm ih, if_neg (by omega)]
    congr 1
    omega
theorem hexP_16 {n : Nat} (h : n < 18446744073709551616) : hexP 0 (hexK 16 n) = .ok n := hexP_K 16 n (by decide) (by simpa using h)
theorem hexP_lt : ∀ (l : List UInt8) (acc n : Nat), acc < 18446744073709551616 → hexP acc l = .ok n → n < 18446744073709551616
  | [], acc, n, h, hp => by simp [hexP] at hp; omega
  | c :: r, acc, n, h, hp => by
    simp only [hexP] at hp
    cases hc : hexV c.toNat with
    | none => rw [hc] at hp; cases hp
    | some d =>
      rw [hc] at hp
      simp only at hp
      split at hp
      · cases hp
      · have hd : d < 16 := by
          unfold hexV at hc
          split at hc
          · simp at hc; omega
          · split at hc
            · simp at hc; omega
            · cases hc
        exact hexP_lt r _ n (by omega) hp
/-- the text of a number: a mark and sixteen digits -/
def textB (n : Nat) : List UInt8 := 35 :: hexK 16 n
theorem textB_len (n : Nat) : (textB n).length = 17 := by simp [textB, hexK_len]
theorem textB_inj {m n : Nat} (hm : m < 18446744073709551616) (hn : n < 18446744073709551616) (h : textB m = textB n) : m = n := by
  have h2 : hexK 16 m = hexK 16 n := by unfold textB at h; exact (List.cons.inj h).2
  have h3 := hexP_16 hm
  rw [h2, hexP_16 hn] at h3
  exact (HexR.ok.inj h3).symm
end Go.Proofs.YtkmlbifhpkfinaaGreatDoor
