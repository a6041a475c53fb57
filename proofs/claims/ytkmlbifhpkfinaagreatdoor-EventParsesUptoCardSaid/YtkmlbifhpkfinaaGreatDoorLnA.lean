/- The line of an event: plain lists. -/
import Derived.Test.YtkmlbifhpkfinaaGreatDoorEvW
import Derived.Test.YtkmlbifhpkfinaaGreatDoorTxC
import Derived.Lib.ItoaLen
import Derived.Lib.ItoaMem
import Derived.Lib.Join
import Derived.Lib.ParseIntBTie
namespace Go.Proofs.YtkmlbifhpkfinaaGreatDoor
open Go.RowKit Go.Fl
set_option linter.unusedVariables false
set_option linter.unusedSimpArgs false

def bl (l : List UInt8) : ByteArray := ⟨l.toArray⟩
theorem bl_list (l : List UInt8) : (bl l).data.toList = l := by simp [bl]
theorem bl_of (s : ByteArray) : bl s.data.toList = s := by cases s; simp [bl]
theorem bl_size (l : List UInt8) : (bl l).size = l.length := by simp [bl, ByteArray.size]
theorem list_len (s : ByteArray) : s.data.toList.length = s.size := Array.length_toList
theorem bl_ext {s : ByteArray} {l : List UInt8} (h : s.data.toList = l) : s = bl l := by rw [← h, bl_of]
theorem bl_inj {a b : List UInt8} (h : bl a = bl b) : a = b := by rw [← bl_list a, h, bl_list]
theorem ext_list (s : ByteArray) (a b : Nat) : (s.extract a b).data.toList = (s.data.toList.drop a).take (b - a) := by
  rw [ByteArray.data_extract, Array.toList_extract, List.extract_eq_take_drop]

def noSp (l : List UInt8) : Prop := ∀ c ∈ l, (c == 32) = false
theorem ofNat_dig : ∀ d : Nat, d < 10 → (UInt8.ofNat (48 + d)).toNat = 48 + d := by decide
theorem dd_dig (u : Nat) : ∀ c ∈ Lib.decDigits u, 48 ≤ c.toNat ∧ c.toNat ≤ 57 := by
  induction u using Lib.decDigits.induct with
  | case1 u h =>
    rw [Lib.decDigits, dif_pos h]
    intro c hc
    have hc := List.mem_singleton.1 hc
    subst hc
    rw [ofNat_dig u h]
    omega
  | case2 u h ih =>
    rw [Lib.decDigits, dif_neg h]
    intro c hc
    rcases List.mem_append.1 hc with hc | hc
    · exact ih c hc
    · have hc := List.mem_singleton.1 hc
      subst hc
      rw [ofNat_dig _ (Nat.mod_lt _ (by decide))]
      omega
theorem dd_ne (u : Nat) : Lib.decDigits u ≠ [] := by
  rw [Lib.decDigits]
  split <;> simp
theorem pu_snoc : ∀ (l : List UInt8) (acc n d : Nat), d < 10 → Lib.parseUint10 acc l = .ok n → n * 10 + d < 18446744073709551616 → Lib.parseUint10 acc (l ++ [UInt8.ofNat (48 + d)]) = .ok (n * 10 + d)
  | [], acc, n, d, hd, h, hn => by
    simp [Lib.parseUint10] at h
    subst h
    have := ofNat_dig d hd
    simp only [List.nil_append, Lib.parseUint10, this]
    rw [if_pos (by omega), if_neg (by omega), if_neg (by omega)]
    congr 1
    omega
  | c :: r, acc, n, d, hd, h, hn => by
    simp only [Lib.parseUint10, List.cons_append] at h ⊢
    split at h
    · rename_i h1
      rw [if_pos h1]
      split at h
      · cases h
      · rename_i h2
        rw [if_neg h2]
        split at h
        · cases h
        · rename_i h3
          rw [if_neg h3]
          exact pu_snoc r _ n d hd h hn
    · cases h
theorem pu_dd (u : Nat) : u < 18446744073709551616 → Lib.parseUint10 0 (Lib.decDigits u) = .ok u := by
  induction u using Lib.decDigits.induct with
  | case1 u h =>
    intro _
    rw [Lib.decDigits, dif_pos h]
    have := pu_snoc [] 0 0 u h rfl (by omega)
    simpa using this
  | case2 u h ih =>
    intro hu
    rw [Lib.decDigits, dif_neg h]
    have := pu_snoc (Lib.decDigits (u / 10)) 0 (u / 10) (u % 10) (Nat.mod_lt _ (by decide)) (ih (by omega)) (by omega)
    rw [this]
    congr 1
    omega
theorem pm_dd (u : Nat) (h : u < 18446744073709551616) : Lib.parseMag (Lib.decDigits u) = .ok u := by
  unfold Lib.parseMag
  rw [if_neg (dd_ne u), pu_dd u h]
theorem parse_itoa {x : Int} (h0 : -9223372036854775808 ≤ x) (h1 : x ≤ 9223372036854775807) : Lib.parseIntB 64 (Lib.itoa x) = .ok x := by
  rw [Lib.parseIntB_64]
  by_cases h : 0 ≤ x
  · obtain ⟨u, rfl⟩ : ∃ u : Nat, x = (u : Int) := ⟨x.toNat, by omega⟩
    rw [Lib.itoa_nonneg]
    have hp := pm_dd u (by omega)
    have hd := dd_dig u
    cases hl : Lib.decDigits u with
    | nil => exact absurd hl (dd_ne u)
    | cons c r =>
      rw [hl] at hp hd
      have hc := hd c (by simp)
      unfold Lib.atoiAll
      simp only []
      rw [if_neg (by omega), hp]
      simp only []
      rw [if_neg (by omega), if_neg (by omega), if_neg (by omega)]
  · obtain ⟨u, rfl, hu⟩ : ∃ u : Nat, x = -(u : Int) ∧ 1 ≤ u := ⟨(-x).toNat, by omega, by omega⟩
    rw [Lib.itoa_neg u hu]
    have hp := pm_dd u (by omega)
    have e45 : (45 : UInt8).toNat = 45 := rfl
    unfold Lib.atoiAll
    simp only [e45]
    rw [if_pos (by decide), hp]
    simp only []
    rw [if_neg (by simp), if_neg (by simp; omega)]
    rfl
theorem itoa_inj {x y : Int} (h0 : -9223372036854775808 ≤ x) (h1 : x ≤ 9223372036854775807) (g0 : -9223372036854775808 ≤ y) (g1 : y ≤ 9223372036854775807) (h : Lib.itoa x = Lib.itoa y) : x = y := by
  have := parse_itoa h0 h1
  rw [h, parse_itoa g0 g1] at this
  injection this with this
  exact this.symm
theorem dig_nosp {c : UInt8} (h : 48 ≤ c.toNat ∧ c.toNat ≤ 57) : (c == 32) = false := by
  apply beq_eq_false_iff_ne.2
  rintro rfl
  have : (32 : UInt8).toNat = 32 := rfl
  omega
theorem itoa_nosp (x : Int) : noSp (Lib.itoa x) := by
  by_cases h : 0 ≤ x
  · obtain ⟨u, rfl⟩ : ∃ u : Nat, x = (u : Int) := ⟨x.toNat, by omega⟩
    rw [Lib.itoa_nonneg]
    exact fun c hc => dig_nosp (dd_dig u c hc)
  · obtain ⟨u, rfl, hu⟩ : ∃ u : Nat, x = -(u : Int) ∧ 1 ≤ u := ⟨(-x).toNat, by omega, by omega⟩
    rw [Lib.itoa_neg u hu]
    intro c hc
    rcases List.mem_cons.1 hc with rfl | hc
    · decide
    · exact dig_nosp (dd_dig u c hc)
theorem hexC_nosp : ∀ d, d < 16 → (hexC d == 32) = false := by decide
theorem hexK_nosp : ∀ k n, noSp (hexK k n)
  | 0, n => by intro c hc; simp [hexK] at hc
  | k + 1, n => by
    intro c hc
    simp only [hexK] at hc
    rcases List.mem_append.1 hc with hc | hc
    · exact hexK_nosp k _ c hc
    · have hc := List.mem_singleton.1 hc
      subst hc
      exact hexC_nosp _ (Nat.mod_lt _ (by decide))
theorem textB_nosp (n : Nat) : noSp (textB n) := by
  intro c hc
  rcases List.mem_cons.1 hc with rfl | hc
  · decide
  · exact hexK_nosp _ _ c hc
theorem name_nosp {s : ByteArray} (h : NameP s) : noSp s.data.toList := by
  intro c hc
  obtain ⟨i, hi, rfl⟩ := List.getElem_of_mem hc
  have hi2 : i < s.size := by rw [list_len] at hi; exact hi
  have hk := h.2.2.2.1 i hi2
  apply beq_eq_false_iff_ne.2
  intro e
  have e2 : s[i] = (32 : UInt8) := e
  rw [e2] at hk
  exact absurd hk (by decide)

/-- words with blanks between them -/
def joinW (ws : List (List UInt8)) : List UInt8 := Lib.join ws [32]
theorem joinW_nil : joinW [] = [] := rfl
theorem joinW_one (a : List UInt8) : joinW [a] = a := by simp [joinW, Lib.join, List.intercalate]
theorem joinW_cons (a b : List UInt8) (r : List (List UInt8)) : joinW (a :: b :: r) = a ++ 32 :: joinW (b :: r) := by simp [joinW, Lib.join, List.intercalate]
/-- a list at its first blank -/
def cutL : List UInt8 → List UInt8
  | [] => []
  | c :: r => if c == 32 then [] else c :: cutL r
def cutR : List UInt8 → List UInt8
  | [] => []
  | c :: r => if c == 32 then r else cutR r
theorem cutL_len : ∀ l : List UInt8, (cutL l).length ≤ l.length
  | [] => by simp [cutL]
  | c :: r => by have := cutL_len r; simp only [cutL]; split <;> simp; omega
theorem cutR_len : ∀ l : List UInt8, (cutR l).length ≤ l.length
  | [] => by simp [cutR]
  | c :: r => by have := cutR_len r; simp only [cutR]; split <;> simp; omega
theorem cutL_word : ∀ (a r : List UInt8), noSp a → cutL (a ++ 32 :: r) = a ∧ cutR (a ++ 32 :: r) = r
  | [], r, _ => by simp [cutL, cutR]
  | c :: a, r, h => by
    obtain ⟨h1, h2⟩ := cutL_word a r (fun d hd => h d (by simp [hd]))
    have hc := h c (by simp)
    simp only [List.cons_append, cutL, cutR, hc]
    simp [h1, h2]
theorem cutL_last : ∀ (a : List UInt8), noSp a → cutL a = a ∧ cutR a = []
  | [], _ => by simp [cutL, cutR]
  | c :: a, h => by
    obtain ⟨h1, h2⟩ := cutL_last a (fun d hd => h d (by simp [hd]))
    have hc := h c (by simp)
    simp only [cutL, cutR, hc]
    simp [h1, h2]
theorem cut_words (a : List UInt8) (ws : List (List UInt8)) (h : noSp a) : cutL (joinW (a :: ws)) = a ∧ cutR (joinW (a :: ws)) = joinW ws := by
  cases ws with
  | nil => rw [joinW_one, joinW_nil]; exact cutL_last a h
  | cons b r => rw [joinW_cons]; exact cutL_word a _ h
theorem index_cut : ∀ l : List UInt8, (Lib.indexByte l 32 = -1 ∧ cutL l = l ∧ cutR l = []) ∨ (∃ k : Nat, Lib.indexByte l 32 = (k : Int) ∧ k < l.length ∧ cutL l = l.take k ∧ cutR l = l.drop (k + 1))
  | [] => by left; simp [Lib.indexByte, cutL, cutR]
  | c :: r => by
    by_cases hc : c == 32
    · right
      exact ⟨0, by simp [Lib.indexByte, hc], by simp, by simp [cutL, hc], by simp [cutR, hc]⟩
    · have hc' : (c == 32) = false := by simpa using hc
      rcases index_cut r with ⟨h1, h2, h3⟩ | ⟨k, h1, h2, h3, h4⟩
      · left
        simp [Lib.indexByte, hc', h1, cutL, cutR, h2, h3]
      · right
        refine ⟨k + 1, ?_, by simp; omega, by simp [cutL, hc', h3], by simp [cutR, hc', h4]⟩
        simp only [Lib.indexByte, hc', h1]
        have hk0 : ((k : Int) == -1) = false := by simp
        simp [hk0]

/-- the word of a value -/
def trueB : List UInt8 := [116, 114, 117, 101]
def falseB : List UInt8 := [102, 97, 108, 115, 101]
def wordW (ss : List ByteArray) (v : Int × Nat) : List UInt8 :=
  if v.1 = 1 then Lib.itoa (wrap64 (v.2 : Int))
  else if v.1 = 2 then (if v.2 = 1 then trueB else falseB)
  else if v.1 = 3 then 39 :: ((ss[v.2]?).map (·.data.toList)).getD []
  else textB (cn v.2)
def lineW (ts : List ST) (ss : List ByteArray) (ty tm : Int) (vs : List (Int × Nat)) : List (List UInt8) :=
  ((ts[ty.toNat]?).map (·.1.data.toList)).getD [] :: Lib.itoa tm :: vs.map (wordW ss)
def lineB (ts : List ST) (ss : List ByteArray) (ty tm : Int) (vs : List (Int × Nat)) : List UInt8 := joinW (lineW ts ss ty tm vs)
theorem wrap64_range (x : Int) : -9223372036854775808 ≤ wrap64 x ∧ wrap64 x ≤ 9223372036854775807 := by unfold wrap64; omega
theorem wrap64_back (b : Nat) (h : b < 18446744073709551616) : IntKind.u64.wrap (wrap64 (b : Int)) = (b : Int) := by
  rw [IntKind.wrap_u64]; unfold wrap64; omega
theorem clB_bool {k : Int} {b : Nat} (h : clK k b = k) (hk : k = 2) : b = 0 ∨ b = 1 := by
  subst hk
  unfold clK at h
  split at h
  · rename_i h1; omega
  · omega
theorem clB_real {k : Int} {b : Nat} (h : clB k b = b) (hk : k = 4) : cn b = b := by
  subst hk
  simpa [clB] using h

section
variable {ts : List ST} {ss : List ByteArray} {ty tm : Int} {vs : List (Int × Nat)}
theorem ok_well (h : CheckIs ts ss 0) : WellP ts ss ∧ KindsP ts ∧ ¬ LongP ts ss := by
  unfold CheckIs at h
  rcases h with ⟨_, e⟩ | ⟨_, _, e⟩ | ⟨_, _, _, e⟩ | ⟨h1, h2, h3, _⟩
  · omega
  · omega
  · omega
  · exact ⟨h2, h3, h1⟩
/-- a valid event's type, time and values -/
theorem ok_parts (h : EvOk ts ss ty tm vs) : ∃ (t : Nat) (x : ST), ty = (t : Int) ∧ ts[t]? = some x ∧ 0 ≤ tm ∧ tm ≤ 1152921504606846976 ∧ vs.length = x.2.length ∧ NameP x.1 ∧ x.2.length ≤ 8 ∧
    ∀ (i : Nat) (v : Int × Nat) (f : SF), vs[i]? = some v → x.2[i]? = some f → ValP (ss.length : Int) f.2 v ∧ 1 ≤ f.2 ∧ f.2 ≤ 4 := by
  obtain ⟨hc, h0, h1, t, ks, rfl, hk, hf⟩ := h
  obtain ⟨hw, hkd, hl⟩ := ok_well hc
  unfold ksOf at hk
  rw [List.getElem?_map] at hk
  obtain ⟨x, hx, rfl⟩ := Option.map_eq_some_iff.1 hk
  refine ⟨t, x, rfl, hx, h0, h1, ?_, ?_, ?_, fun i v f hv hff => ?_⟩
  · rw [← ksT_length]; exact hf.1
  · exact (hw.2.1 t x.1 (by rw [List.getElem?_map, hx]; rfl)).1
  · exact Nat.le_of_not_lt fun h8 => hl (.inr (.inr ⟨t, x, hx, h8⟩))
  · have := hkd t x hx i f hff
    exact ⟨hf.2 i v f.2 hv (by unfold ksT; rw [List.getElem?_map, hff]; rfl), this.1, this.2⟩
theorem ok_sym (hc : CheckIs ts ss 0) {n : Nat} (h : n < ss.length) : NameP ss[n] := ((ok_well hc).1.2.2 n ss[n] (List.getElem?_eq_getElem h)).1
theorem ok_type (hc : CheckIs ts ss 0) {t : Nat} {x : ST} (hx : ts[t]? = some x) : typeOf ts x.1 = (t : Int) := by
  refine place_hit _ ts t x hx (by simp) fun j y hj hy => ?_
  exact ((ok_well hc).1.2.1 t x.1 (by rw [List.getElem?_map, hx]; rfl)).2 j y.1 hj (by rw [List.getElem?_map, hy]; rfl)
theorem ok_symOf (hc : CheckIs ts ss 0) {t : Nat} {x : ByteArray} (hx : ss[t]? = some x) : textOf ss x = (t : Int) := by
  refine place_hit _ ss t x hx (by simp) fun j y hj hy => ?_
  exact ((ok_well hc).1.2.2 t x hx).2 j y hj hy
theorem word_nosp (hc : CheckIs ts ss 0) {x : Int} {v : Int × Nat} (h : ValP (ss.length : Int) x v) : noSp (wordW ss v) := by
  unfold wordW
  split
  · exact itoa_nosp _
  · split
    · split <;> (intro c hc; revert c; decide)
    · split
      · rename_i h3
        have hl := h.2.2.2 h3
        have hl2 : v.2 < ss.length := by omega
        intro c hcc
        rcases List.mem_cons.1 hcc with rfl | hcc
        · decide
        · rw [List.getElem?_eq_getElem hl2] at hcc
          exact name_nosp (ok_sym hc hl2) c hcc
      · exact textB_nosp _
end
end Go.Proofs.YtkmlbifhpkfinaaGreatDoor
