/- Rows of bytes that a call makes and writes: plain facts for WireJoins. -/
import Derived.Test.YtcchbbnlcilanaaWrA
namespace Go.Proofs.Ytcchbbnlcilanaa
open Go.ChangeShapes Go.WideShapes Go.ChangeAt Go.RowKit
set_option linter.unusedVariables false
set_option linter.unusedSimpArgs false

/-- a block of bytes of the call's own -/
def BBlk (w : World) (g : Nat) (l : List Nat) : Prop := Blk w g 5 (bcells l).toArray
theorem BBlk.bys {w : World} {g : Nat} {l : List Nat} (h : BBlk w g l) : Bys w (some ⟨g, 0, none⟩) l := by
  refine ⟨by rw [bcells_length, Nat.mul_one], fun hl => ⟨_, rfl, h.lt, fun j u hu => ?_⟩⟩
  have hadd : (⟨g, 0, none⟩ : Addr).add j = ⟨g, j, none⟩ := by unfold Addr.add; split <;> simp_all
  rw [hadd, h.cell, List.getElem?_toArray, hu]
theorem BBlk.put {w : World} {g : Nat} {l : List Nat} (h : BBlk w g l) (i c : Nat) : BBlk (w.setCell ⟨g, i, none⟩ (.int .u8 (c : Int))) g (l.set i c) := by
  unfold BBlk
  have := h.put_ i (.int .u8 (c : Int))
  rw [List.setIfInBounds_toArray] at this
  rw [show bcells (l.set i c) = (bcells l).set i (.int .u8 (c : Int)) by simp [bcells, List.map_set]]
  exact this
theorem BBlk.cell_ {w : World} {g : Nat} {l : List Nat} (h : BBlk w g l) {i c : Nat} (hc : l[i]? = some c) : w.cell? ⟨g, i, none⟩ = some (.int .u8 (c : Int)) := by
  rw [Blk.cell h, List.getElem?_toArray, bcells_get hc]
theorem zeros_cells (n : Nat) : madeCells #[Value.int .u8 0] n = (bcells (List.replicate n 0)).toArray := by
  apply Array.ext'
  rw [toList_madeCells_one]
  simp [bcells]
/-- both, as far as they were xored -/
def upTo (x : List Nat) (N k : Nat) : List Nat := x.take k ++ List.replicate (N - k) 0
theorem upTo_zero (x : List Nat) (N : Nat) : upTo x N 0 = List.replicate N 0 := by simp [upTo]
theorem upTo_all {x : List Nat} {N : Nat} (h : x.length = N) : upTo x N N = x := by
  unfold upTo
  rw [Nat.sub_self, List.replicate_zero, List.append_nil, ← h, List.take_length]
theorem upTo_set {x : List Nat} {N k c : Nat} (h : x.length = N) (hk : k < N) (hc : x[k]? = some c) : (upTo x N k).set k c = upTo x N (k + 1) := by
  unfold upTo
  have hl : (x.take k).length = k := by rw [List.length_take]; omega
  rw [List.set_append_right _ _ (by omega), hl, Nat.sub_self, show N - k = (N - (k + 1)) + 1 by omega, List.replicate_succ, List.set_cons_zero, List.take_succ_eq_append_getElem (by omega), (List.getElem?_eq_some_iff.1 hc).2, List.append_assoc]
  rfl
theorem upTo_get {x : List Nat} {N k : Nat} (h : x.length = N) (hk : k < N) : (upTo x N k)[k]? = some 0 := by
  unfold upTo
  have hl : (x.take k).length = k := by rw [List.length_take]; omega
  rw [List.getElem?_append_right (by omega), hl, Nat.sub_self, List.getElem?_replicate, if_pos (by omega)]
theorem upTo_length {x : List Nat} {N k : Nat} (h : x.length = N) (hk : k ≤ N) : (upTo x N k).length = N := by
  unfold upTo
  rw [List.length_append, List.length_take, List.length_replicate]
  omega
theorem xorL_length {a b : List Nat} {N : Nat} (ha : a.length = N) (hb : b.length = N) : (xorL a b).length = N := by unfold xorL; simp; omega
theorem xorL_get {a b : List Nat} {k c d : Nat} (ha : a[k]? = some c) (hb : b[k]? = some d) : (xorL a b)[k]? = some (c ^^^ d) := by
  unfold xorL
  rw [List.getElem?_zipWith, ha, hb]
theorem xor_byt {c d : Nat} (hc : c < 256) (hd : d < 256) : c ^^^ d < 256 := by
  have : c ^^^ d < 2 ^ 8 := Nat.xor_lt_two_pow (by omega) (by omega)
  omega
theorem xorL_byt {a b : List Nat} (ha : Byt a) (hb : Byt b) : Byt (xorL a b) := by
  intro c hc
  obtain ⟨i, hi⟩ := List.getElem?_of_mem hc
  unfold xorL at hi
  rw [List.getElem?_zipWith] at hi
  cases h1 : a[i]? with
  | none => rw [h1] at hi; cases hi
  | some x => cases h2 : b[i]? with
    | none => rw [h1, h2] at hi; cases hi
    | some y =>
      rw [h1, h2] at hi
      injection hi with hi
      subst hi
      exact xor_byt (ha.get h1) (hb.get h2)
theorem zeros_byt (n : Nat) : Byt (List.replicate n 0) := fun c hc => by rw [List.eq_of_mem_replicate hc]; decide
theorem set_byt {l : List Nat} (h : Byt l) (k : Nat) {d : Nat} (hd : d < 256) : Byt (l.set k d) := fun c hc => by
  rcases List.mem_or_eq_of_mem_set hc with h1 | rfl
  · exact h c h1
  · exact hd
/-- the bit of a byte that is turned -/
theorem bit_turned {c q : Nat} (hc : c < 256) (hq : q < 8) : bits .xor .u8 (c : Int) (IntKind.u8.wrap ((2 : Int) ^ q)) = ((c ^^^ 2 ^ q : Nat) : Int) ∧ c ^^^ 2 ^ q < 256 ∧ c ^^^ 2 ^ q ≠ c := by
  have h2 : 2 ^ q < 256 := by
    have : 2 ^ q ≤ 2 ^ 7 := Nat.pow_le_pow_right (by decide) (by omega)
    omega
  have h3 : ((2 : Int) ^ q) = ((2 ^ q : Nat) : Int) := by rw [Int.natCast_pow]; rfl
  have e : IntKind.u8.wrap ((2 : Int) ^ q) = ((2 ^ q : Nat) : Int) := by
    rw [IntKind.wrap_u8', h3]
    generalize 2 ^ q = p at *
    omega
  refine ⟨by rw [e, u8_xor_nat _ _ hc h2], xor_byt hc h2, fun h => ?_⟩
  have h3 := congrArg (c ^^^ ·) h
  simp only [← Nat.xor_assoc, Nat.xor_self, Nat.zero_xor] at h3
  have := Nat.pow_pos (n := q) (show 0 < 2 by decide)
  omega
end Go.Proofs.Ytcchbbnlcilanaa
