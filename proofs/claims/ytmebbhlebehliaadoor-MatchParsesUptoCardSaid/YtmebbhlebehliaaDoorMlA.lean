/- The line of a match taken apart again: plain lists. -/
import Derived.Test.YtmebbhlebehliaaDoorMtA
import Derived.Test.YtmebbhlebehliaaDoorGoodQ
import Derived.Lib.ItoaLen
import Derived.Lib.ItoaMem
namespace Go.Proofs.YtmebbhlebehliaaDoor
open Go.RowKit
set_option linter.unusedVariables false
set_option linter.unusedSimpArgs false

def bl (l : List UInt8) : ByteArray := ⟨l.toArray⟩
theorem bl_list (l : List UInt8) : (bl l).data.toList = l := by simp [bl]
theorem bl_of (s : ByteArray) : bl s.data.toList = s := by cases s; simp [bl]
theorem bl_size (l : List UInt8) : (bl l).size = l.length := by simp [bl, ByteArray.size]
theorem list_len (s : ByteArray) : s.data.toList.length = s.size := Array.length_toList
theorem bl_ext {s : ByteArray} {l : List UInt8} (h : s.data.toList = l) : s = bl l := by rw [← h, bl_of]
theorem ext_list (s : ByteArray) (a b : Nat) : (s.extract a b).data.toList = (s.data.toList.drop a).take (b - a) := by
  rw [ByteArray.data_extract, Array.toList_extract, List.extract_eq_take_drop]

def digB (l : List UInt8) : Prop := ∀ c ∈ l, 48 ≤ c.toNat ∧ c.toNat ≤ 57
theorem ofNat_dig : ∀ d : Nat, d < 10 → (UInt8.ofNat (48 + d)).toNat = 48 + d := by decide
theorem dd_dig (u : Nat) : digB (Lib.decDigits u) := by
  induction u using Lib.decDigits.induct with
  | case1 u h =>
    rw [Lib.decDigits, dif_pos h]
    intro c hc
    have hc := List.mem_singleton.1 hc
    subst hc
    rw [ofNat_dig u h]
    omega
  | case2 u h ih =>
    rw [Lib.decDigits, dif_neg h]
    intro c hc
    rcases List.mem_append.1 hc with hc | hc
    · exact ih c hc
    · have hc := List.mem_singleton.1 hc
      subst hc
      rw [ofNat_dig _ (Nat.mod_lt _ (by decide))]
      omega
theorem dd_ne (u : Nat) : Lib.decDigits u ≠ [] := by
  rw [Lib.decDigits]
  split <;> simp
theorem pu_snoc : ∀ (l : List UInt8) (acc n d : Nat), d < 10 → Lib.parseUint10 acc l = .ok n → n * 10 + d < 18446744073709551616 → Lib.parseUint10 acc (l ++ [UInt8.ofNat (48 + d)]) = .ok (n * 10 + d)
  | [], acc, n, d, hd, h, hn => by
    simp [Lib.parseUint10] at h
    subst h
    have := ofNat_dig d hd
    simp only [List.nil_append, Lib.parseUint10, this]
    rw [if_pos (by omega), if_neg (by omega), if_neg (by omega)]
    congr 1
    omega
  | c :: r, acc, n, d, hd, h, hn => by
    simp only [Lib.parseUint10, List.cons_append] at h ⊢
    split at h
    · rename_i h1
      rw [if_pos h1]
      split at h
      · cases h
      · rename_i h2
        rw [if_neg h2]
        split at h
        · cases h
        · rename_i h3
          rw [if_neg h3]
          exact pu_snoc r _ n d hd h hn
    · cases h
theorem pu_dd (u : Nat) : u < 18446744073709551616 → Lib.parseUint10 0 (Lib.decDigits u) = .ok u := by
  induction u using Lib.decDigits.induct with
  | case1 u h =>
    intro _
    rw [Lib.decDigits, dif_pos h]
    have := pu_snoc [] 0 0 u h rfl (by omega)
    simpa using this
  | case2 u h ih =>
    intro hu
    rw [Lib.decDigits, dif_neg h]
    have := pu_snoc (Lib.decDigits (u / 10)) 0 (u / 10) (u % 10) (Nat.mod_lt _ (by decide)) (ih (by omega)) (by omega)
    rw [this]
    congr 1
    omega
theorem itoa_nn {x : Int} (h : 0 ≤ x) : Lib.itoa x = Lib.decDigits x.toNat := by unfold Lib.itoa; rw [if_neg (by omega)]
theorem itoa_dig {x : Int} (h : 0 ≤ x) : digB (Lib.itoa x) := by rw [itoa_nn h]; exact dd_dig _
theorem itoa_ne {x : Int} (h : 0 ≤ x) : Lib.itoa x ≠ [] := by rw [itoa_nn h]; exact dd_ne _
theorem atoi_itoa {x : Int} (h : 0 ≤ x) (h1 : x ≤ 9223372036854775807) : Lib.atoiAll (Lib.itoa x) = .ok x := by
  have hp := pu_dd x.toNat (by omega)
  have hd := itoa_dig h
  rw [← itoa_nn h] at hp
  cases hl : Lib.itoa x with
  | nil => exact absurd hl (itoa_ne h)
  | cons c r =>
    rw [hl] at hp hd
    have hc := hd c (by simp)
    rw [Lib.atoiAll_plain c r (by omega) (by omega)]
    unfold Lib.parseMag
    rw [if_neg (by simp), hp]
    simp only [Lib.signless]
    rw [if_neg (by omega)]
    congr 1
    omega

/-- the words of a list, the one that has begun -/
def tcL : Option (List UInt8) → List UInt8 → List ByteArray
  | none, [] => []
  | some w, [] => [bl w]
  | none, c :: r => if spC c.toNat then tcL none r else tcL (some [c]) r
  | some w, c :: r => if spC c.toNat then bl w :: tcL none r else tcL (some (w ++ [c])) r
theorem toCome_tc (s : ByteArray) : ∀ (n : Nat) (st : Option Nat) (i : Nat), n + i = s.size → (∀ a, st = some a → a < i) → wordsTo s n st i = tcL (st.map fun a => (s.data.toList.drop a).take (i - a)) (s.data.toList.drop i)
  | 0, none, i, h, _ => by
    rw [List.drop_eq_nil_of_le (by rw [list_len]; omega)]
    rfl
  | 0, some a, i, h, ha => by
    have hnil : s.data.toList.drop i = [] := List.drop_eq_nil_of_le (by rw [list_len]; omega)
    rw [hnil]
    simp only [wordsTo, tcL, Option.map_some]
    rw [show s.size = i by omega]
    rw [bl_ext (ext_list s a i)]
  | n + 1, st, i, h, ha => by
    have hi : i < s.size := by omega
    have hd : s.data.toList.drop i = s.data.toList[i]'(by rw [list_len]; exact hi) :: s.data.toList.drop (i + 1) := List.drop_eq_getElem_cons (by rw [list_len]; exact hi)
    have hb : byteAt s i = (s.data.toList[i]'(by rw [list_len]; exact hi)).toNat := by
      rw [byteAt_of hi]
      congr 1
    rw [hd]
    generalize hc : s.data.toList[i]'(by rw [list_len]; exact hi) = c at *
    cases st with
    | none =>
      simp only [wordsTo, hb, Option.map_none, tcL]
      split
      · have := toCome_tc s n none (i + 1) (by omega) (by simp)
        simpa using this
      · have := toCome_tc s n (some i) (i + 1) (by omega) (by simp)
        rw [this]
        simp only [Option.map_some]
        rw [show i + 1 - i = 1 by omega, hd]
        rfl
    | some a =>
      have hai := ha a rfl
      simp only [wordsTo, hb, Option.map_some, tcL]
      split
      · have := toCome_tc s n none (i + 1) (by omega) (by simp)
        rw [this, bl_ext (ext_list s a i)]
        rfl
      · have := toCome_tc s n (some a) (i + 1) (by omega) (fun b hb => by simp at hb; omega)
        rw [this]
        simp only [Option.map_some]
        have e : (s.data.toList.drop a).take (i + 1 - a) = (s.data.toList.drop a).take (i - a) ++ [c] := by
          rw [show i + 1 - a = i - a + 1 by omega, List.take_add_one, List.getElem?_drop, show a + (i - a) = i by omega]
          rw [List.getElem?_eq_getElem (by rw [list_len]; exact hi), hc]
          rfl
        rw [e]
theorem fields_tc (s : ByteArray) : fieldsOf s = tcL none s.data.toList := by
  have := toCome_tc s s.size none 0 (by omega) (by simp)
  simpa [fieldsOf] using this
theorem sp_dig {c : UInt8} (h : 48 ≤ c.toNat ∧ c.toNat ≤ 57) : spC c.toNat = false := by
  unfold spC
  simp
  omega
theorem tc_word : ∀ (l w r : List UInt8), digB l → tcL (some w) (l ++ r) = tcL (some (w ++ l)) r
  | [], w, r, _ => by simp
  | c :: l, w, r, h => by
    simp only [List.cons_append, tcL]
    rw [if_neg (by rw [sp_dig (h c (by simp))]; simp), tc_word l (w ++ [c]) r (fun d hd => h d (by simp [hd]))]
    simp
theorem tc_first (l r : List UInt8) (h : digB l) (hne : l ≠ []) : tcL none (l ++ r) = tcL (some l) r := by
  cases l with
  | nil => exact absurd rfl hne
  | cons c l =>
    simp only [List.cons_append, tcL]
    rw [if_neg (by rw [sp_dig (h c (by simp))]; simp), tc_word l [c] r (fun d hd => h d (by simp [hd]))]
    simp
theorem tc_places : ∀ (xs : List Int), (∀ x ∈ xs, 0 ≤ x) → tcL none (placesB xs) = xs.map fun x => bl (Lib.itoa x)
  | [], _ => by simp [placesB, tcL]
  | [x], h => by
    simp only [placesB, List.append_nil, tcL]
    rw [if_pos (by decide)]
    have := tc_first (Lib.itoa x) [] (itoa_dig (h x (by simp))) (itoa_ne (h x (by simp)))
    rw [List.append_nil] at this
    rw [this]
    rfl
  | x :: y :: r, h => by
    have ih := tc_places (y :: r) (fun z hz => h z (by simp at hz ⊢; right; exact hz))
    have e : placesB (x :: y :: r) = 32 :: (Lib.itoa x ++ placesB (y :: r)) := rfl
    rw [e]
    simp only [tcL]
    rw [if_pos (by decide), tc_first _ _ (itoa_dig (h x (by simp))) (itoa_ne (h x (by simp)))]
    have e2 : placesB (y :: r) = 32 :: (Lib.itoa y ++ placesB r) := rfl
    rw [e2] at ih ⊢
    simp only [tcL, List.map_cons] at ih ⊢
    rw [if_pos (by decide)] at ih ⊢
    rw [ih]
theorem fields_places (xs : List Int) (h : ∀ x ∈ xs, 0 ≤ x) : fieldsOf (bl (placesB xs)) = xs.map fun x => bl (Lib.itoa x) := by rw [fields_tc, bl_list, tc_places xs h]
theorem fields_head {x y : Int} (hx : 0 ≤ x) (hy : 0 ≤ y) : fieldsOf (bl (Lib.itoa x ++ 32 :: Lib.itoa y)) = [bl (Lib.itoa x), bl (Lib.itoa y)] := by
  rw [fields_tc, bl_list, tc_first _ _ (itoa_dig hx) (itoa_ne hx)]
  simp only [tcL]
  rw [if_pos (by decide)]
  have := tc_first (Lib.itoa y) [] (itoa_dig hy) (itoa_ne hy)
  rw [List.append_nil] at this
  rw [this]
  rfl

theorem idx_no : ∀ (l : List UInt8) (c : UInt8), c ∉ l → Lib.indexByte l c = -1
  | [], _, _ => rfl
  | b :: l, c, h => by
    simp at h
    unfold Lib.indexByte
    rw [if_neg (by simp; exact fun e => h.1 e.symm), idx_no l c h.2]
    rfl
theorem idx_at : ∀ (l r : List UInt8) (c : UInt8), c ∉ l → Lib.indexByte (l ++ c :: r) c = (l.length : Int)
  | [], r, c, _ => by simp [Lib.indexByte]
  | b :: l, r, c, h => by
    simp at h
    rw [List.cons_append]
    unfold Lib.indexByte
    rw [if_neg (by simp; exact fun e => h.1 e.symm), idx_at l r c h.2, if_neg (by simp)]
    simp
theorem split_last (n : Nat) (c : UInt8) (l : List UInt8) (h : c ∉ l) : splitN n c (bl l) = [bl l] := by
  cases n with
  | zero => rfl
  | succ n =>
    simp only [splitN]
    rw [if_pos]
    rw [bl_list, idx_no l c h]
    decide
theorem split_more (n : Nat) (c : UInt8) (l r : List UInt8) (h : c ∉ l) : splitN (n + 1) c (bl (l ++ c :: r)) = bl l :: splitN n c (bl r) := by
  simp only [splitN]
  have e := idx_at l r c h
  rw [bl_list, e, if_neg (by omega)]
  congr 1
  · apply bl_ext
    rw [ext_list, bl_list]
    simp
  · congr 1
    apply bl_ext
    rw [ext_list, bl_list, bl_size, Int.toNat_natCast]
    have e2 : (l ++ c :: r).drop (l.length + 1) = r := by
      rw [show l ++ c :: r = (l ++ [c]) ++ r by simp]
      exact List.drop_left' (by simp)
    rw [e2]
    exact List.take_of_length_le (by simp; omega)
def noSemi (l : List UInt8) : Prop := (59 : UInt8) ∉ l
theorem dig_no {l : List UInt8} (h : digB l) (c : UInt8) (hc : c.toNat < 48 ∨ 57 < c.toNat) : c ∉ l := fun hm => by have := h c hm; omega
theorem places_no : ∀ (xs : List Int), (∀ x ∈ xs, 0 ≤ x) → ∀ c : UInt8, (c.toNat < 48 ∨ 57 < c.toNat) → c ≠ 32 → c ∉ placesB xs
  | [], _, c, _, _ => by simp [placesB]
  | x :: r, h, c, hc, hn => by
    simp only [placesB, List.mem_cons, List.mem_append, not_or]
    exact ⟨hn, dig_no (itoa_dig (h x (by simp))) c hc, places_no r (fun y hy => h y (by simp [hy])) c hc hn⟩
theorem split_parts : ∀ (bs : List (List Int)) (n i : Nat) (pre : List UInt8), (∀ l ∈ bs, ∀ x ∈ l, 0 ≤ x) → (59 : UInt8) ∉ pre → 0 < i → bs.length ≤ n → splitN n 59 (bl (pre ++ partsB i bs)) = bl pre :: bs.map fun l => bl (placesB l)
  | [], n, i, pre, _, hp, _, _ => by
    simp only [partsB, List.append_nil, List.map_nil]
    exact split_last n 59 pre hp
  | l :: r, n, i, pre, h, hp, hi, hn => by
    obtain ⟨m, rfl⟩ : ∃ m, n = m + 1 := ⟨n - 1, by simp at hn; omega⟩
    have e : pre ++ partsB i (l :: r) = pre ++ 59 :: (placesB l ++ partsB (i + 1) r) := by
      simp only [partsB]
      rw [if_pos hi]
      rfl
    rw [e, split_more m 59 pre _ hp, split_parts r m (i + 1) (placesB l) (fun k hk => h k (by simp [hk])) (places_no l (h l (by simp)) 59 (by decide) (by decide)) (by omega) (by simp at hn; omega)]
    rfl
theorem parts_len : ∀ (bs : List (List Int)) (i : Nat), 0 < i → bs.length ≤ (partsB i bs).length
  | [], _, _ => by simp [partsB]
  | l :: r, i, hi => by
    have := parts_len r (i + 1) (by omega)
    simp only [partsB, List.length_append, List.length_cons]
    rw [if_pos hi]
    simp
    omega
theorem split_line (l : List Int) (r : List (List Int)) (h : ∀ k ∈ l :: r, ∀ x ∈ k, 0 ≤ x) : splitOf 59 (bl (partsB 0 (l :: r))) = (l :: r).map fun l => bl (placesB l) := by
  have e : partsB 0 (l :: r) = placesB l ++ partsB 1 r := by simp [partsB]
  unfold splitOf
  rw [e, split_parts r _ 1 (placesB l) (fun k hk => h k (by simp [hk])) (places_no l (h l (by simp)) 59 (by decide) (by decide)) (by omega) (by
    rw [bl_size, List.length_append]
    have := parts_len r 1 (by omega)
    omega)]
  rfl

/-- what a good match's numbers are -/
theorem scR_full : ∀ {bs : List (List Int)} {a z : Int}, scR a bs = some z → ∀ l ∈ bs, l ≠ []
  | [], _, _, _, l, hl => by simp at hl
  | k :: r, a, z, h, l, hl => by
    simp only [scR] at h
    split at h
    · cases h
    · rename_i hk
      cases h1 : scL a k with
      | none => rw [h1] at h; cases h
      | some y =>
        rw [h1] at h
        rcases List.mem_cons.1 hl with rfl | hl
        · exact hk
        · exact scR_full (a := y) h l hl
theorem good_facts {st br : Int} {bs : List (List Int)} {n : Int} (h : goodP st br bs n = true) : 0 ≤ br ∧ 0 ≤ st ∧ bs ≠ [] ∧ (∀ l ∈ bs, l ≠ []) ∧ (∀ l ∈ bs, ∀ x ∈ l, 0 ≤ x ∧ x < n) := by
  have hr := good_range h
  unfold goodP at h
  cases h1 : scR (-1) bs with
  | none => rw [h1] at h; cases h
  | some z =>
    rw [h1] at h
    simp only [Bool.and_eq_true, decide_eq_true_eq] at h
    obtain ⟨⟨⟨⟨g0, g1⟩, g2⟩, g3⟩, g4⟩ := h
    have hf := scR_full h1
    have hz : 0 ≤ z := by
      cases bs with
      | nil => simp at g1
      | cons l r =>
        cases l with
        | nil => exact absurd rfl (hf [] (by simp))
        | cons x xs =>
          have := (scR_le h1).2 (x :: xs) (by simp) x (by simp)
          omega
    refine ⟨g0, by omega, fun e => by rw [e] at g1; simp at g1, hf, fun l hl x hx => ?_⟩
    have := hr l hl x hx
    omega
theorem places_len : ∀ (xs : List Int), (∀ x ∈ xs, 0 ≤ x ∧ x < 9223372036854775807) → (placesB xs).length ≤ 22 * xs.length
  | [], _ => by simp [placesB]
  | x :: r, h => by
    have ih := places_len r (fun y hy => h y (by simp [hy]))
    have hx := h x (by simp)
    have := Lib.itoa_length_le x (by omega) (by omega)
    simp only [placesB, List.length_cons, List.length_append]
    omega
theorem parts_lenU : ∀ (bs : List (List Int)) (i : Nat), (∀ l ∈ bs, ∀ x ∈ l, 0 ≤ x ∧ x < 9223372036854775807) → (partsB i bs).length ≤ 22 * bs.flatten.length + bs.length
  | [], _, _ => by simp [partsB]
  | l :: r, i, h => by
    have ih := parts_lenU r (i + 1) (fun k hk => h k (by simp [hk]))
    have hl := places_len l (h l (by simp))
    simp only [partsB, List.length_append, List.flatten_cons, List.length_cons]
    split
    · simp only [List.length_cons, List.length_nil]; omega
    · simp only [List.length_nil]; omega
theorem rows_le : ∀ (bs : List (List Int)), (∀ l ∈ bs, l ≠ []) → bs.length ≤ bs.flatten.length
  | [], _ => by simp
  | l :: r, h => by
    have ih := rows_le r (fun k hk => h k (by simp [hk]))
    have := List.length_pos_iff.2 (h l (by simp))
    simp only [List.length_cons, List.flatten_cons, List.length_append]
    omega
theorem asc_dig {l : List UInt8} (h : digB l) : ∀ c ∈ l, c.toNat < 128 := fun c hc => by have := h c hc; omega
theorem asc_places : ∀ (xs : List Int), (∀ x ∈ xs, 0 ≤ x) → ∀ c ∈ placesB xs, c.toNat < 128
  | [], _, c, hc => by simp [placesB] at hc
  | x :: r, h, c, hc => by
    simp only [placesB, List.mem_cons, List.mem_append] at hc
    rcases hc with rfl | hc | hc
    · decide
    · exact asc_dig (itoa_dig (h x (by simp))) c hc
    · exact asc_places r (fun y hy => h y (by simp [hy])) c hc
theorem asc_bl {l : List UInt8} (h : ∀ c ∈ l, c.toNat < 128) : ∀ (i : Nat) (hi : i < (bl l).size), ((bl l)[i]'hi).toNat < 128 := asc_of (by
  rw [bl_list, List.all_eq_true]
  intro c hc
  simpa using h c hc)
theorem itoa_len {x : Int} (h : 0 ≤ x) (h1 : x ≤ 9223372036854775807) : (Lib.itoa x).length ≤ 21 := Lib.itoa_length_le x (by omega) h1
theorem nums_places (xs : List Int) (h : ∀ x ∈ xs, 0 ≤ x ∧ x < 9223372036854775807) (hl : xs.length ≤ 1048576) : NumsOk (bl (placesB xs)) xs := by
  have h0 : ∀ x ∈ xs, 0 ≤ x := fun x hx => (h x hx).1
  have hz := places_len xs h
  refine ⟨by rw [bl_size]; omega, asc_bl (asc_places xs h0), ?_, ?_, by omega⟩
  · rw [fields_places xs h0, List.map_map]
    apply List.map_congr_left
    intro x hx
    simp only [Function.comp_apply, bl_list]
    exact atoi_itoa (h0 x hx) (by have := h x hx; omega)
  · rw [fields_places xs h0]
    intro y hy
    obtain ⟨x, hx, rfl⟩ := List.mem_map.1 hy
    rw [bl_size]
    have := itoa_len (h0 x hx) (by have := h x hx; omega)
    omega
theorem nums_head {x y : Int} (hx : 0 ≤ x) (hx1 : x ≤ 9223372036854775807) (hy : 0 ≤ y) (hy1 : y ≤ 9223372036854775807) : NumsOk (bl (Lib.itoa x ++ 32 :: Lib.itoa y)) [x, y] := by
  have lx := itoa_len hx hx1
  have ly := itoa_len hy hy1
  refine ⟨by rw [bl_size]; simp; omega, asc_bl ?_, ?_, ?_, by simp⟩
  · intro c hc
    rcases List.mem_append.1 hc with hc | hc
    · exact asc_dig (itoa_dig hx) c hc
    · rcases List.mem_cons.1 hc with rfl | hc
      · decide
      · exact asc_dig (itoa_dig hy) c hc
  · rw [fields_head hx hy]
    simp only [List.map_cons, List.map_nil, bl_list]
    rw [atoi_itoa hx hx1, atoi_itoa hy hy1]
  · rw [fields_head hx hy]
    intro z hz
    simp only [List.mem_cons, List.not_mem_nil, or_false] at hz
    rcases hz with rfl | rfl
    · rw [bl_size]; omega
    · rw [bl_size]; omega
/-- all that reading a good match's line asks -/
theorem line_read {st br : Int} {bs : List (List Int)} (hg : goodP st br bs 9223372036854775807 = true) (hst : st ≤ 9223372036854775807) (hbr : br ≤ 9223372036854775807) (hlen : bs.flatten.length ≤ 1048576) :
    (lineB st br bs).length + 64 ≤ 140737488355328 ∧ (lineOf st br bs).size ≤ 281474976710656 ∧ bs.length * 24 ≤ 140737488355328 ∧ lineOf st br bs ≠ ⟨#[]⟩ ∧
    ∃ k : Nat, Lib.indexByte (lineOf st br bs).data.toList 58 = (k : Int) ∧ NumsOk ((lineOf st br bs).extract 0 k) [st, br] ∧ (splitOf 59 ((lineOf st br bs).extract (k + 1) (lineOf st br bs).size)).length = bs.length ∧
      ∀ (i : Nat) (x : ByteArray) (ns : List Int), (splitOf 59 ((lineOf st br bs).extract (k + 1) (lineOf st br bs).size))[i]? = some x → bs[i]? = some ns → NumsOk x ns := by
  obtain ⟨b0, s0, hne, hfull, hrange⟩ := good_facts hg
  have hrows := rows_le bs hfull
  have hpl := parts_lenU bs 0 hrange
  have lst := itoa_len s0 hst
  have lbr := itoa_len b0 hbr
  have hL : lineOf st br bs = bl (lineB st br bs) := by unfold lineOf; rw [if_pos hg]; rfl
  have hLB : lineB st br bs = (Lib.itoa st ++ 32 :: Lib.itoa br) ++ 58 :: partsB 0 bs := by unfold lineB; simp
  have hll : (lineB st br bs).length ≤ 24 * 1048576 := by rw [hLB]; simp; omega
  rw [hL]
  refine ⟨by omega, by rw [bl_size]; omega, by omega, ?_, (Lib.itoa st ++ 32 :: Lib.itoa br).length, ?_, ?_, ?_⟩
  · intro e
    have := congrArg (fun b : ByteArray => b.data.toList) e
    simp only [bl_list] at this
    rw [hLB] at this
    simp at this
  · rw [bl_list, hLB]
    apply idx_at
    intro hm
    rcases List.mem_append.1 hm with hm | hm
    · exact dig_no (itoa_dig s0) 58 (by decide) hm
    · rcases List.mem_cons.1 hm with hm | hm
      · cases hm
      · exact dig_no (itoa_dig b0) 58 (by decide) hm
  · rw [bl_ext (ext_list (bl (lineB st br bs)) 0 _), bl_list, hLB]
    have e : List.take ((Lib.itoa st ++ 32 :: Lib.itoa br).length - 0) (List.drop 0 ((Lib.itoa st ++ 32 :: Lib.itoa br) ++ 58 :: partsB 0 bs)) = Lib.itoa st ++ 32 :: Lib.itoa br := by
      rw [List.drop_zero, Nat.sub_zero]
      exact List.take_left' rfl
    rw [e]
    exact nums_head s0 hst b0 hbr
  · have ht : (bl (lineB st br bs)).extract ((Lib.itoa st ++ 32 :: Lib.itoa br).length + 1) (bl (lineB st br bs)).size = bl (partsB 0 bs) := by
      apply bl_ext
      rw [ext_list, bl_list, bl_size, hLB]
      have e : List.drop ((Lib.itoa st ++ 32 :: Lib.itoa br).length + 1) ((Lib.itoa st ++ 32 :: Lib.itoa br) ++ 58 :: partsB 0 bs) = partsB 0 bs := by
        rw [show (Lib.itoa st ++ 32 :: Lib.itoa br) ++ 58 :: partsB 0 bs = ((Lib.itoa st ++ 32 :: Lib.itoa br) ++ [58]) ++ partsB 0 bs by simp]
        exact List.drop_left' (by simp; omega)
      rw [e]
      apply List.take_of_length_le
      simp
      omega
    rw [ht]
    cases bs with
    | nil => exact absurd rfl hne
    | cons l r =>
      rw [split_line l r (fun k hk x hx => (hrange k hk x hx).1)]
      refine ⟨by simp, fun i x ns hx hn => ?_⟩
      rw [List.getElem?_map, hn] at hx
      simp only [Option.map_some, Option.some.injEq] at hx
      subst hx
      have hm := List.mem_of_getElem? hn
      refine nums_places ns (hrange ns hm) ?_
      have : ns.length ≤ (l :: r).flatten.length := List.Sublist.length_le (List.sublist_flatten_of_mem hm)
      omega
end Go.Proofs.YtmebbhlebehliaaDoor
