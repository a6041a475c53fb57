/- The schema that is made of kinds alone: its names; what the document's Check finds in it. -/
import Derived.Test.YtcmefdhpaajmbaaDoorEvW
import Derived.Test.YtcmefdhpaajmbaaDoorEvF
import Derived.Lib.ItoaMem
import Derived.Lib.ItoaLen
namespace Go.Proofs.YtcmefdhpaajmbaaDoor
open Go.RowKit
set_option linter.unusedVariables false
set_option linter.unusedSimpArgs false

def digB (l : List UInt8) : Prop := ∀ c ∈ l, 48 ≤ c.toNat ∧ c.toNat ≤ 57
theorem ofNat_dig : ∀ d : Nat, d < 10 → (UInt8.ofNat (48 + d)).toNat = 48 + d := by decide
theorem dd_dig (u : Nat) : digB (Lib.decDigits u) := by
  induction u using Lib.decDigits.induct with
  | case1 u h =>
    rw [Lib.decDigits, dif_pos h]
    intro c hc
    have hc := List.mem_singleton.1 hc
    subst hc
    rw [ofNat_dig u h]
    omega
  | case2 u h ih =>
    rw [Lib.decDigits, dif_neg h]
    intro c hc
    rcases List.mem_append.1 hc with hc | hc
    · exact ih c hc
    · have hc := List.mem_singleton.1 hc
      subst hc
      rw [ofNat_dig _ (Nat.mod_lt _ (by decide))]
      omega
/-- the number that digits spell -/
def valD (l : List UInt8) : Nat := l.foldl (fun a c => a * 10 + (c.toNat - 48)) 0
theorem val_dd (u : Nat) : valD (Lib.decDigits u) = u := by
  induction u using Lib.decDigits.induct with
  | case1 u h =>
    rw [Lib.decDigits, dif_pos h]
    simp only [valD, List.foldl_cons, List.foldl_nil]
    rw [ofNat_dig u h]
    omega
  | case2 u h ih =>
    rw [Lib.decDigits, dif_neg h]
    unfold valD at ih ⊢
    rw [List.foldl_append, ih]
    simp only [List.foldl_cons, List.foldl_nil]
    rw [ofNat_dig _ (Nat.mod_lt _ (by decide))]
    omega
theorem dd_inj {a b : Nat} (h : Lib.decDigits a = Lib.decDigits b) : a = b := by rw [← val_dd a, h, val_dd]
/-- a letter and a number -/
def nmB (c : UInt8) (i : Nat) : ByteArray := ⟨(c :: Lib.decDigits i).toArray⟩
theorem nm_inj {c : UInt8} {i j : Nat} (h : nmB c i = nmB c j) : i = j := by
  have := congrArg (fun b : ByteArray => b.data.toList) h
  simp [nmB] at this
  exact dd_inj this
/-- the schema's types, of rows of kinds from a place on -/
def fldsOf (ks : List Int) : List SF := ks.mapIdx fun k f => (nmB 102 k, f)
def typsOf (kss : List (List Int)) : List ST := kss.mapIdx fun i ks => (nmB 84 i, fldsOf ks)
def symsMade (n : Nat) : List ByteArray := (List.range n).map (nmB 115)
theorem flds_len (ks : List Int) : (fldsOf ks).length = ks.length := by simp [fldsOf]
theorem typs_len (kss : List (List Int)) : (typsOf kss).length = kss.length := by simp [typsOf]
theorem syms_len (n : Nat) : (symsMade n).length = n := by simp [symsMade]
theorem ks_flds (ks : List Int) : (fldsOf ks).map (·.2) = ks := by
  apply List.ext_getElem?
  intro i
  simp [fldsOf]
  cases ks[i]? <;> rfl
theorem ks_typs (kss : List (List Int)) : ksOf (typsOf kss) = kss := by
  unfold ksOf typsOf
  apply List.ext_getElem?
  intro i
  simp only [List.getElem?_map, List.getElem?_mapIdx]
  cases kss[i]? with
  | none => rfl
  | some ks => simp [ksT, ks_flds]
theorem dd_ne (u : Nat) : Lib.decDigits u ≠ [] := by
  rw [Lib.decDigits]
  split <;> simp
theorem dd_len20 {u : Nat} (h : u < 18446744073709551616) : (Lib.decDigits u).length ≤ 20 := by
  rw [Lib.decDigits_length]
  exact Lib.nDigits_le20 u h
theorem words_up : ∀ l ∈ wordL, ∀ b ∈ l, 65 ≤ b.toNat := by decide
theorem nm_list (c : UInt8) (i : Nat) : (nmB c i).data.toList = c :: Lib.decDigits i := by simp [nmB]
theorem nm_size (c : UInt8) (i : Nat) : (nmB c i).size = (Lib.decDigits i).length + 1 := by
  show (c :: Lib.decDigits i).toArray.size = _
  simp
theorem nm_get (c : UInt8) (i k : Nat) (h : k < (nmB c i).size) : (nmB c i)[k]'h = (c :: Lib.decDigits i)[k]'(by rw [nm_size] at h; simpa using h) := by
  show (nmB c i).data[k] = _
  simp [nmB]
theorem name_nm {c : UInt8} (hc : letC (c.toNat : Int) = true) {i : Nat} (h : i < 18446744073709551616) : NameP (nmB c i) := by
  have hl := dd_len20 h
  have hd := dd_dig i
  have hz := nm_size c i
  refine ⟨by omega, by omega, fun h0 => ?_, fun k hk => ?_, ?_⟩
  · rw [nm_get c i 0 h0]
    exact hc
  · rw [nm_get c i k hk]
    cases k with
    | zero => simp [okC, hc]
    | succ k =>
      have hm : (c :: Lib.decDigits i)[k + 1]'(by rw [nm_size] at hk; simpa using hk) ∈ Lib.decDigits i := by
        simp only [List.getElem_cons_succ]
        exact List.getElem_mem _
      have := hd _ hm
      generalize (c :: Lib.decDigits i)[k + 1]'(by rw [nm_size] at hk; simpa using hk) = x at *
      unfold okC digC
      simp
      omega
  · unfold wordB
    rw [List.any_eq_false]
    intro l hl2
    simp only [beq_iff_eq]
    intro e
    rw [ByteArray.toList_eq, nm_list] at e
    cases hx : Lib.decDigits i with
    | nil => exact dd_ne i hx
    | cons d r =>
      have h1 := hd d (by rw [hx]; simp)
      have h2 := words_up l hl2 d (by rw [← e, hx]; simp)
      omega
theorem nm_differ {c : UInt8} {i j : Nat} (h : i ≠ j) : ((nmB c i).toList == (nmB c j).toList) = false := by
  simp
  intro e
  rw [ByteArray.toList_eq, ByteArray.toList_eq, nm_list, nm_list] at e
  exact h (dd_inj (List.cons.inj e).2)
/-- names that are numbered are distinct -/
theorem distinct_nm {c : UInt8} (hc : letC (c.toNat : Int) = true) {l : List ByteArray} (hl : ∀ (i : Nat) (x : ByteArray), l[i]? = some x → x = nmB c i) (hn : l.length < 18446744073709551616) : DistinctP l := fun i x hx => by
  have hi := (List.getElem?_eq_some_iff.1 hx).1
  obtain rfl := hl i x hx
  refine ⟨name_nm hc (by omega), fun j y hj hy => ?_⟩
  obtain rfl := hl j y hy
  exact nm_differ (by omega)
theorem check_made (kss : List (List Int)) (n : Nat) : CheckIs (typsOf kss) (symsMade n) 0 ↔ PossP kss (n : Int) := by
  constructor
  · intro h
    have := poss_of h
    rwa [ks_typs, syms_len] at this
  · rintro ⟨h1, h2, h3, h4⟩
    have hrow : ∀ (i : Nat) (t : ST), (typsOf kss)[i]? = some t → ∃ ks, kss[i]? = some ks ∧ t = (nmB 84 i, fldsOf ks) := fun i t ht => by
      unfold typsOf at ht
      rw [List.getElem?_mapIdx] at ht
      cases hk : kss[i]? with
      | none => rw [hk] at ht; cases ht
      | some ks =>
        rw [hk] at ht
        exact ⟨ks, rfl, (Option.some.inj ht).symm⟩
    refine .inr (.inr (.inr ⟨?_, ⟨?_, ?_, ?_⟩, ?_, rfl⟩))
    · unfold LongP
      rw [typs_len, syms_len]
      rintro (h | h | ⟨i, t, ht, h⟩)
      · omega
      · omega
      · obtain ⟨ks, hk, rfl⟩ := hrow i t ht
        have := (h4 i ks hk).1
        simp only [flds_len] at h
        omega
    · intro i t ht
      obtain ⟨ks, hk, rfl⟩ := hrow i t ht
      have h8 := (h4 i ks hk).1
      refine distinct_nm (c := 102) (by decide) (fun j x hx => ?_) (by simp [flds_len]; omega)
      simp only [fldsOf, List.getElem?_map, List.getElem?_mapIdx] at hx
      cases hj : ks[j]? with
      | none => rw [hj] at hx; cases hx
      | some f => rw [hj] at hx; exact (Option.some.inj hx).symm
    · refine distinct_nm (c := 84) (by decide) (fun j x hx => ?_) (by simp [typs_len]; omega)
      rw [List.getElem?_map] at hx
      cases hj : (typsOf kss)[j]? with
      | none => rw [hj] at hx; cases hx
      | some t =>
        rw [hj] at hx
        obtain ⟨ks, _, rfl⟩ := hrow j t hj
        exact (Option.some.inj hx).symm
    · refine distinct_nm (c := 115) (by decide) (fun j x hx => ?_) (by rw [syms_len]; omega)
      unfold symsMade at hx
      rw [List.getElem?_map] at hx
      cases hj : (List.range n)[j]? with
      | none => rw [hj] at hx; cases hx
      | some m =>
        rw [hj] at hx
        have hm := List.getElem?_eq_some_iff.1 hj
        obtain ⟨h5, h6⟩ := hm
        simp at h6
        subst h6
        exact (Option.some.inj hx).symm
    · intro i t ht j f hf
      obtain ⟨ks, hk, rfl⟩ := hrow i t ht
      simp only [fldsOf, List.getElem?_mapIdx] at hf
      cases hj : ks[j]? with
      | none => rw [hj] at hf; cases hf
      | some k =>
        rw [hj] at hf
        obtain rfl := (Option.some.inj hf).symm
        have := (h4 i ks hk).2 j k hj
        simp only
        omega
/-- how many symbols are made -/
def symN (m : Int) : Nat := if m < 65 then m.toNat else 65
theorem fits_valid (kss : List (List Int)) (m ty tm : Int) (vs : List (Int × Nat)) : (PossP kss m ∧ EvP kss m ty tm vs) ↔ (0 ≤ m ∧ EvOk (typsOf kss) (symsMade (symN m)) ty tm vs) := by
  unfold EvOk
  rw [check_made, ks_typs, syms_len]
  by_cases h0 : 0 ≤ m
  · by_cases h1 : m < 65
    · have e : ((symN m : Nat) : Int) = m := by unfold symN; rw [if_pos h1]; omega
      rw [e]
      exact ⟨fun h => ⟨h0, h⟩, fun h => h.2⟩
    · have e : ((symN m : Nat) : Int) = 65 := by unfold symN; rw [if_neg h1]; rfl
      rw [e]
      constructor
      · rintro ⟨⟨_, _, h, _⟩, _⟩; omega
      · rintro ⟨_, ⟨_, _, h, _⟩, _⟩; omega
  · constructor
    · rintro ⟨⟨_, h, _⟩, _⟩; omega
    · rintro ⟨h, _⟩; omega
end Go.Proofs.YtcmefdhpaajmbaaDoor
