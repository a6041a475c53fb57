/- Rows of bytes: how a list of bytes lies in memory, and what its text is. -/
import Derived.Test.YtlfhgmoafgjdcaaProg
import Derived.Test.YtlfhgmoafgjdcaaMem
import Derived.Test.YtlfhgmoafgjdcaaWords
import Derived.Test.YtlfhgmoafgjdcaaWrP
import Derived.Laws.BytesString
import Derived.Laws.BitsAllLaws
import Derived.Laws.ShiftsVarLaws
namespace Go.Proofs.Ytlfhgmoafgjdcaa
open Go.ChangeShapes Go.WideShapes Go.ChangeAt Go.RowKit
set_option linter.unusedVariables false
set_option linter.unusedSimpArgs false

/-- bytes as cells -/
def bcells (l : List Nat) : List Value := l.map fun c => Value.int .u8 ((c : Nat) : Int)
theorem bcells_length (l : List Nat) : (bcells l).length = l.length := by simp [bcells]
theorem bcells_get {l : List Nat} {j c : Nat} (h : l[j]? = some c) : (bcells l)[j]? = some (.int .u8 (c : Int)) := by simp [bcells, h]
theorem bcells_one (l : List Nat) : ∀ u ∈ bcells l, u.oneCell' = true := fun u hu => by obtain ⟨z, _, rfl⟩ := List.mem_map.1 hu; rfl
theorem bcells_append (a b : List Nat) : bcells (a ++ b) = bcells a ++ bcells b := by simp [bcells]
/-- bytes as a text -/
def strOf (l : List Nat) : ByteArray := ⟨(l.map UInt8.ofNat).toArray⟩
theorem strOf_fold (l : List Nat) : (l.map fun c => ((c : Nat) : Int)).foldl (fun r n => r.push (UInt8.ofNat n.toNat)) ByteArray.empty = strOf l := by
  have key : ∀ (l : List Nat) (s : ByteArray), (l.map fun c => ((c : Nat) : Int)).foldl (fun r n => r.push (UInt8.ofNat n.toNat)) s = ⟨s.data ++ (l.map UInt8.ofNat).toArray⟩ := by
    intro l
    induction l with
    | nil => intro s; simp
    | cons c l ih =>
      intro s
      rw [List.map_cons, List.foldl_cons, ih]
      simp [ByteArray.push]
  rw [key]
  simp [strOf]
theorem ofNat_inj8 {a b : Nat} (ha : a < 256) (hb : b < 256) (h : UInt8.ofNat a = UInt8.ofNat b) : a = b := by
  have := congrArg UInt8.toNat h
  simp at this
  omega
theorem map8_inj : ∀ {a b : List Nat}, Byt a → Byt b → a.map UInt8.ofNat = b.map UInt8.ofNat → a = b
  | [], [], _, _, _ => rfl
  | [], _ :: _, _, _, h => by simp at h
  | _ :: _, [], _, _, h => by simp at h
  | x :: a, y :: b, ha, hb, h => by
    simp only [List.map_cons, List.cons.injEq] at h
    rw [ofNat_inj8 (ha x (by simp)) (hb y (by simp)) h.1, map8_inj (fun c hc => ha c (by simp [hc])) (fun c hc => hb c (by simp [hc])) h.2]
theorem strOf_inj {a b : List Nat} (ha : Byt a) (hb : Byt b) (h : strOf a = strOf b) : a = b := by
  unfold strOf at h
  injection h with h
  exact map8_inj ha hb (by simpa using h)
theorem strOf_append (a b : List Nat) : strOf (a ++ b) = strOf a ++ strOf b := by
  unfold strOf
  apply ByteArray.ext
  simp
theorem strOf_size (l : List Nat) : (strOf l).size = l.length := by simp [strOf, ByteArray.size]
/-- bytes as they lie -/
abbrev Bys (w : World) (A : Option Addr) (l : List Nat) : Prop := Reads w w.heap.size 1 A l.length (bcells l)
theorem Bys.later {w w1 : World} {A : Option Addr} {l : List Nat} (h : Bys w A l) (hb : Below w.heap.size w w1) : Bys w1 A l := (Reads.below h hb).more hb.size
theorem Bys.of_own {w : World} {base : Nat} {e : TypeId} {A : Option Addr} {l : List Nat} {n c : Nat} (h : w.ownsRow base e 1 (.slice A n c) n (bcells l)) : n = l.length ∧ Bys w A l := by
  have hl : n = l.length := by have := h.1; rw [bcells_length] at this; omega
  subst hl
  exact ⟨rfl, Reads.of_own h⟩
theorem Bys.nil (w : World) (A : Option Addr) : Bys w A [] := ⟨by simp [bcells], fun h => by simp at h⟩
theorem Bys.at_ {w : World} {A : Option Addr} {l : List Nat} (h : Bys w A l) {j c : Nat} (hj : l[j]? = some c) : ∃ ad, A = some ad ∧ ad.block < w.heap.size ∧ w.cell? (ad.add j) = some (.int .u8 (c : Int)) := by
  have hl : j < l.length := (List.getElem?_eq_some_iff.1 hj).1
  obtain ⟨ad, u, rfl, hb, hu, hc⟩ := Reads.at_ h hl
  rw [bcells_get hj] at hu
  injection hu with hu
  exact ⟨ad, rfl, hb, by rw [hc, hu]⟩
theorem run_cells {P : Program} {w : World} {ad : Addr} {l : List Nat} (h : Bys w (some ad) l) : (loadCells ad l.length).run P w = .ok ((l.map fun c => ((c : Nat) : Int)).map (Value.int .u8)).toArray w := by
  have := run_loadCells_list (P := P) (w := w) ad (bcells l) (fun j v hv => by
    have hl : j < l.length := by have := (List.getElem?_eq_some_iff.1 hv).1; rwa [bcells_length] at this
    obtain ⟨ad', e, _, hc⟩ := h.2 (by omega)
    injection e with e
    subst e
    exact hc j v hv)
  rw [bcells_length] at this
  rw [this]
  simp [bcells, Function.comp_def]
theorem conv_str {w : World} {A : Option Addr} {l : List Nat} {n c : Nat} (hn : n = l.length) (h : Bys w A l) : (convert 31 9 (.slice A n c)).run Try.prog w = .ok (.string (strOf l)) w := by
  subst hn
  rw [run_convert_bytes_string w _ _ 5 A l.length c Try.underlying31 Try.underlying5 Try.underlying9]
  cases A with
  | none =>
    have : l = [] := by
      rcases Nat.eq_zero_or_pos l.length with h0 | h0
      · exact List.eq_nil_of_length_eq_zero h0
      · obtain ⟨ad, e, _⟩ := h.2 h0; cases e
    subst this
    rfl
  | some ad =>
    rw [run_bytesToString w ad l.length c _ (run_cells h), strOf_fold]
theorem toList_neM {a b : ByteArray} (h : a ≠ b) : (a.toList == b.toList) = false := by
  simp
  intro e
  exact h (by
    apply ByteArray.ext
    apply Array.ext'
    rw [ByteArray.toList_eq, ByteArray.toList_eq] at e
    exact e)
theorem Bys.pre {w : World} {A : Option Addr} {l : List Nat} {k : Nat} (h : Bys w A l) (hk : k ≤ l.length) : Bys w A (l.take k) := by
  have hl : (l.take k).length = k := by rw [List.length_take]; omega
  refine ⟨by rw [bcells_length, Nat.mul_one], fun hp => ?_⟩
  obtain ⟨ad, h1, h2, h3⟩ := h.2 (by omega)
  refine ⟨ad, h1, h2, fun j u hu => h3 j u ?_⟩
  have hj : j < k := by have := (List.getElem?_eq_some_iff.1 hu).1; rw [bcells_length, hl] at this; exact this
  unfold bcells at hu ⊢
  rw [List.getElem?_map, List.getElem?_take_of_lt hj] at hu
  rw [List.getElem?_map, hu]
/-- the text of the first bytes -/
theorem conv_pre {w : World} {A : Option Addr} {l l' : List Nat} {k c : Nat} (hk : k ≤ l.length) (he : l.take k = l') (h : Bys w A l) : (convert 31 9 (.slice A k c)).run Try.prog w = .ok (.string (strOf l')) w := by
  subst he
  exact conv_str (by rw [List.length_take]; omega) (h.pre hk)
theorem infoB : (Try.prog.info? 5).map (fun i => (i.zero, i.size, i.bytes)) = some (some (.int .u8 0), 1, 1) := by kernel_rfl
theorem bslice_of {W : World} {base n : Nat} {e : TypeId} {size : Nat} {v : Value} {xs : List Value} (h : W.ownsRow base e size v n xs) : ∃ a c, v = .slice a n c ∧ n ≤ c ∧ c ≤ maxLen := by
  rcases h.2 with ⟨rfl, h0⟩ | ⟨g, cap, cur, rfl, _, _, h1, h2, _⟩
  · exact ⟨none, 0, by rw [h0], by omega, by decide⟩
  · exact ⟨_, _, rfl, h1, h2⟩
theorem bbelow_grown {w0 W w1 : World} {v : Value} {base : Nat} {e : TypeId} {size n : Nat} {xs : List Value} (h : Below w0.heap.size w0 W) (hb : w0.heap.size ≤ base) (ho : W.ownsRow base e size v n xs) (hg : W.grownBy w1 v.ownBlock) : Below w0.heap.size w0 w1 :=
  h.grown hg h.size (fun j ej => by
    rcases ho.2 with ⟨rfl, _⟩ | ⟨g, cap, cur, rfl, hg0, _⟩
    · simp [Value.ownBlock] at ej
    · obtain rfl : g = j := by simpa [Value.ownBlock] using ej
      omega)
/-! ### numbers turned about -/
theorem u64_not (a : Nat) (ha : a < 18446744073709551616) : bits .xor .u64 IntKind.u64.max (a : Int) = ((18446744073709551615 - a : Nat) : Int) := by
  show IntKind.u64.wrap ((BitVec.ofInt 64 IntKind.u64.max ^^^ BitVec.ofInt 64 (a : Int)).toNat : Int) = _
  have h1 : BitVec.ofInt 64 IntKind.u64.max = BitVec.allOnes 64 := by decide
  rw [h1, BitVec.allOnes_xor, BitVec.toNat_not, ofInt_u64 a ha, IntKind.wrap_u64]
  omega
theorem i64_notN (a : Nat) (ha : a < 9223372036854775808) : bits .xor .i64 (-1) (a : Int) = -1 - (a : Int) := by
  show IntKind.i64.wrap ((BitVec.ofInt 64 (-1) ^^^ BitVec.ofInt 64 (a : Int)).toNat : Int) = _
  have h1 : BitVec.ofInt 64 (-1) = BitVec.allOnes 64 := by decide
  rw [h1, BitVec.allOnes_xor, BitVec.toNat_not, ofInt_u64 a (by omega)]
  simp [IntKind.wrap, IntKind.bits, IntKind.signed]
  omega
theorem zig_bits {m : Int} (h1 : -9223372036854775808 ≤ m) (h : m < 0) : bits .xor .u64 IntKind.u64.max (IntKind.u64.wrap (2 * IntKind.u64.wrap m)) = (zig m : Int) := by
  have e : IntKind.u64.wrap (2 * IntKind.u64.wrap m) = ((18446744073709551616 + 2 * m).toNat : Int) := by
    rw [IntKind.wrap_u64, IntKind.wrap_u64]
    omega
  rw [e, u64_not _ (by omega)]
  unfold zig
  rw [if_pos h]
  omega
theorem zig_bits2 {m : Int} (h1 : -9223372036854775808 ≤ m) (h : m < 0) : IntKind.u64.wrap (IntKind.u64.wrap (2 * IntKind.u64.wrap (IntKind.i64.wrap (-IntKind.i64.wrap (m + 1)))) + 1) = (zig m : Int) := by
  have e : IntKind.i64.wrap (-IntKind.i64.wrap (m + 1)) = -(m + 1) := by
    simp only [IntKind.wrap_i64]
    omega
  rw [e]
  simp only [IntKind.wrap_u64]
  unfold zig
  rw [if_pos h]
  omega
theorem zig_plus {m : Int} (h2 : m ≤ 9223372036854775807) (h : ¬ m < 0) : IntKind.u64.wrap (2 * IntKind.u64.wrap m) = (zig m : Int) := by
  simp only [IntKind.wrap_u64]
  unfold zig
  rw [if_neg h]
  omega

/-- bytes that a call made, as they lie: a row of the call's own -/
def OwnB (base : Nat) (w : World) (l : List Nat) (e : Ending) (w' : World) : Prop :=
  ∃ A c, e = .returned (.slice A l.length c) ∧ w'.ownsRow base 5 1 (.slice A l.length c) l.length (bcells l) ∧ Below w.heap.size w w'
end Go.Proofs.Ytlfhgmoafgjdcaa
