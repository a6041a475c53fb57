/- Rows of bytes, and of reads, that are handed in. -/
import Derived.Test.YtlfhgmoafgjdcaaWrA
import Derived.Test.YtlfhgmoafgjdcaaWb
namespace Go.Proofs.Ytlfhgmoafgjdcaa
open Go.ChangeShapes Go.WideShapes Go.ChangeAt Go.RowKit Go.Deep Go.Joins
set_option linter.unusedVariables false
set_option linter.unusedSimpArgs false
section
variable {H : Type} {enc : TypeId × Value → H} {w : World} {base : Nat} {spare : Nat → Bool} {held : Bool}
theorem wf_u8 {n : Int} (h : (Lit.int .u8 n).wf = true) : 0 ≤ n ∧ n < 256 := by
  simp [Lit.wf, IntKind.min, IntKind.max, IntKind.bits, IntKind.signed] at h
  omega
theorem wf_i64 {n : Int} (h : (Lit.int .i64 n).wf = true) : -9223372036854775808 ≤ n ∧ n ≤ 9223372036854775807 := by
  simp [Lit.wf, IntKind.min, IntKind.max, IntKind.bits, IntKind.signed] at h
  omega
theorem wf_u64 {n : Int} (h : (Lit.int .u64 n).wf = true) : ∃ m : Nat, n = (m : Int) ∧ m < 18446744073709551616 := by
  simp [Lit.wf, IntKind.min, IntKind.max, IntKind.bits, IntKind.signed] at h
  exact ⟨n.toNat, by omega, by omega⟩
set_option maxRecDepth 100000 in
theorem open_bytesT {r : Reach} {b0 : Nat} {v : Value} {d : DataW H} {p : List MemPlace} (hv : Value.okWide Try.prog w r b0 31 v) (h : DataW.Trod enc Try.prog w base spare held 31 v d p) (hw : WB Try.prog 31 d) :
    ∃ (A : Option Addr) (cap : Nat) (l : List Nat), v = .slice A l.length cap ∧ Bys w A l ∧ Byt l ∧ l.length ≤ cap ∧ cap ≤ maxLen ∧ l.length ≤ 140737488351232 := by
  obtain ⟨A0, len, cap, rfl⟩ := okWide_slice Try.underlying31 hv
  obtain ⟨fuel, h⟩ := h
  rcases open_ints Try.underlying31 Try.underlying5 (by kernel_rfl) h with ⟨hcs, _⟩ | ⟨x, l, c, zs, hcs, _, hl, hm, hz, hx, hcell, hwz⟩
  · simp [Value.cells] at hcs
    obtain ⟨rfl, rfl, rfl⟩ := hcs
    exact ⟨none, 0, [], rfl, Bys.nil _ _, Byt.nil, Nat.le_refl _, by decide, by decide⟩
  · simp [Value.cells] at hcs
    obtain ⟨rfl, rfl, rfl⟩ := hcs
    simp only [Prod.mk.injEq] at hx
    obtain ⟨rfl, rfl⟩ := hx
    have hb := (wb_slice Try.underlying31 hw).1
    rw [show Try.prog.bytesOf 5 = 1 by kernel_rfl] at hb
    simp only [lits, List.length_map, List.length_take, reachBytes] at hb
    have hlz : len ≤ zs.length := by rw [hz]; split <;> omega
    have hll : ((zs.take len).map Int.toNat).length = len := by rw [List.length_map, List.length_take]; omega
    refine ⟨some x, cap, (zs.take len).map Int.toNat, by rw [hll], ?_, ?_, by rw [hll]; exact hl, hm, by rw [hll]; omega⟩
    · refine ⟨by rw [bcells_length, Nat.mul_one], fun hp => ⟨x, rfl, ?_, fun j u hu => ?_⟩⟩
      · rw [hll] at hp
        have := mblock (hcell 0 (by omega))
        rwa [block_of_add] at this
      · have hj : j < len := by have := (List.getElem?_eq_some_iff.1 hu).1; rw [bcells_length, hll] at this; exact this
        have hj2 : zs[j]? = some zs[j] := List.getElem?_eq_getElem (by omega)
        have hc := hcell j (by omega)
        rw [List.getD_eq_getElem?_getD, hj2] at hc
        rw [bcells_get (c := zs[j].toNat) (by rw [List.getElem?_map, List.getElem?_take_of_lt hj, hj2]; rfl)] at hu
        injection hu with hu
        have := wf_u8 (hwz zs[j] (List.getElem_mem _))
        rw [hc, ← hu]
        show some (Value.int .u8 zs[j]) = some (.int .u8 ((zs[j].toNat : Nat) : Int))
        rw [Int.toNat_of_nonneg this.1]
    · intro c hc
      obtain ⟨z, hz1, rfl⟩ := List.mem_map.1 hc
      have := wf_u8 (hwz z (List.mem_of_mem_take hz1))
      omega
/-- reads: which, from, to -/
abbrev StepP := Int × Int × Int
def StepsAt (w : World) (A : Option Addr) (ss : List StepP) : Prop := 0 < ss.length → ∃ b off, A = some ⟨b, off, none⟩ ∧ ∀ i s, ss[i]? = some s → w.cell? ⟨b, off + i * 3, none⟩ = some (.int .i64 s.1) ∧ w.cell? ⟨b, off + i * 3 + 1, none⟩ = some (.int .i64 s.2.1) ∧ w.cell? ⟨b, off + i * 3 + 2, none⟩ = some (.int .i64 s.2.2)
theorem StepsAt.later {w w1 : World} {A : Option Addr} {ss : List StepP} (h : StepsAt w A ss) (hb : Below w.heap.size w w1) : StepsAt w1 A ss := fun hp => by
  obtain ⟨b, off, h1, h2⟩ := h hp
  exact ⟨b, off, h1, fun i s hi => ⟨mlater hb (h2 i s hi).1, mlater hb (h2 i s hi).2.1, mlater hb (h2 i s hi).2.2⟩⟩
end
end Go.Proofs.Ytlfhgmoafgjdcaa
