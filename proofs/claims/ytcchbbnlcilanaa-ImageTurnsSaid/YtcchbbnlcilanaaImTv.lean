/- A byte of a row of the call's own is put; bytes that Decode refuses. -/
import Derived.Test.YtcchbbnlcilanaaImTu
namespace Go.Proofs.Ytcchbbnlcilanaa
open Go.ChangeShapes Go.WideShapes Go.ChangeAt Go.RowKit
set_option linter.unusedVariables false
set_option linter.unusedSimpArgs false
theorem own_set {w : World} {base : Nat} {A : Option Addr} {l : List Nat} {c k : Nat} (ho : w.ownsRow base 5 1 (.slice A l.length c) l.length (bcells l)) (hk : k < l.length) : ∃ g, A = some ⟨g, 0, none⟩ ∧ base ≤ g ∧ w.frozen? ⟨g, k, none⟩ = false ∧ (∃ u, w.cell? ⟨g, k, none⟩ = some u) ∧ ∀ d : Nat, Bys (w.setCell ⟨g, k, none⟩ (.int .u8 (d : Int))) (some ⟨g, 0, none⟩) (l.set k d) := by
  rcases ho.2 with ⟨_, h0⟩ | ⟨g, cap, cur, he, k1, k2, k3, k4, k5, k6⟩
  · omega
  · have hA : A = some ⟨g, 0, none⟩ := by injection he
    subst hA
    have hB : Blk w g 5 cur := k2
    rw [Nat.mul_one] at k5 k6
    have hcap : l.length ≤ cap := by first | exact k3 | omega
    refine ⟨g, rfl, k1, hB.free k, ⟨cur[k]'(by omega), by rw [hB.cell]; exact Array.getElem?_eq_getElem _⟩, fun d => ?_⟩
    have hP := hB.put_ k (.int .u8 (d : Int))
    refine ⟨by rw [bcells_length, Nat.mul_one], fun hl => ⟨_, rfl, ?_, fun j u hu => ?_⟩⟩
    · exact hP.lt
    · have hadd : (⟨g, 0, none⟩ : Addr).add j = ⟨g, j, none⟩ := by unfold Addr.add; split <;> simp_all
      rw [hadd, hP.cell]
      have hj : j < l.length := by
        have := (List.getElem?_eq_some_iff.1 hu).1
        simpa [bcells_length] using this
      have e1 : bcells (l.set k d) = (bcells l).set k (.int .u8 (d : Int)) := by unfold bcells; rw [List.map_set]
      rw [e1, List.getElem?_set] at hu
      rw [Array.getElem?_setIfInBounds]
      by_cases hkj : k = j
      · subst hkj
        rw [if_pos rfl, if_pos (by rw [bcells_length]; exact hk)] at hu
        rw [if_pos rfl, if_pos (by omega)]
        exact hu
      · rw [if_neg hkj] at hu
        rw [if_neg hkj, ← hu, ← k6, List.getElem?_take_of_lt hj, Array.getElem?_toList]
theorem decode_no (A : Option Addr) (l : List Nat) (n c : Nat) (w : World) (hn : n = l.length) (hl : Byt l) (h : Bys w A l) (hc : l.length ≤ c) (h63 : l.length ≤ 140737488355000) (h0 : (decP l).1 ≠ 0) :
    Calls Try.prog 14 #[.slice A n c] w fun e w' => Below w.heap.size w w' ∧ ∃ k, e = .returned (.tuple #[zT, .int .i64 k]) ∧ (k != 0) = true := by
  subst hn
  obtain ⟨k, hk, hk0, _⟩ := decP_none h0
  refine (decode_any A l c w hl h hc h63).mono ?_
  rintro e w' ⟨hb, tv, rfl, ht⟩
  rw [hk] at ht ⊢
  subst ht
  exact ⟨hb, k, rfl, by simpa using hk0⟩
theorem rem_in (a : Int) {n : Nat} (hn : 0 < n) (hn2 : n ≤ 65536) : ∃ K : Nat, K < n ∧ wrap64 ((IntKind.u64.wrap a).tmod (n : Int)) = (K : Int) := by
  have h0 : 0 ≤ IntKind.u64.wrap a := by rw [IntKind.wrap_u64]; omega
  have e := Int.tmod_eq_emod_of_nonneg (b := (n : Int)) h0
  have h1 : 0 ≤ IntKind.u64.wrap a % (n : Int) := Int.emod_nonneg _ (by omega)
  have h2 : IntKind.u64.wrap a % (n : Int) < (n : Int) := Int.emod_lt_of_pos _ (by omega)
  rw [e]
  generalize IntKind.u64.wrap a % (n : Int) = r at *
  refine ⟨r.toNat, by omega, ?_⟩
  unfold wrap64
  omega
end Go.Proofs.Ytcchbbnlcilanaa
