/- Of two tables that are alike, wherever they lie, the document's Same says yes. -/
import Derived.Test.YtlfhgmoafgjdcaaOuD
import Derived.Test.YtlfhgmoafgjdcaaScB
import Derived.Test.YtlfhgmoafgjdcaaImH
namespace Go.Proofs.Ytlfhgmoafgjdcaa
open Go.ChangeShapes Go.WideShapes Go.ChangeAt Go.RowKit
set_option linter.unusedVariables false
set_option linter.unusedSimpArgs false
def codeP (x : TCode) : CodeP := ⟨x.1, x.2.1, x.2.2.1, x.2.2.2.1, x.2.2.2.2⟩
theorem code_in {base : Nat} {w : World} {b o : Nat} {x : TCode} (hp : pCode base w b o x) (hok : ∀ n, Itm.c n ∈ iCode x → n ≤ 1048576) (hwf : ∀ i ∈ iCode x, wfI i) : ∃ v : CV, CodeIn w (codeP x) v ∧
    w.cell? ⟨b, o, none⟩ = some (.int .i64 (codeP x).regs) ∧ w.cell? ⟨b, o + 1, none⟩ = some (.int .i64 (codeP x).slots) ∧ w.cell? ⟨b, o + 2, none⟩ = some (.slice v.xA (codeP x).ins.length v.xC) ∧ w.cell? ⟨b, o + 3, none⟩ = some (.slice v.cA (codeP x).cs.length v.cC) ∧ w.cell? ⟨b, o + 4, none⟩ = some (.slice v.lA (codeP x).list.length v.lC) := by
  obtain ⟨p0, p1, ⟨A2, c2, p2, q2, g2⟩, ⟨A3, c3, p3, q3, g3⟩, ⟨A4, c4, p4, q4, g4⟩⟩ := hp
  have k2 : x.2.2.1.length ≤ 1048576 := hok _ (by simp [iCode, itL])
  have k3 : x.2.2.2.1.length ≤ 1048576 := hok _ (by simp [iCode, itL])
  have k4 : x.2.2.2.2.length ≤ 1048576 := hok _ (by simp [iCode, itL])
  refine ⟨⟨A2, c2, A3, c3, A4, c4⟩, ⟨?_, ⟨rfl, ?_, ?_⟩, ?_, by show x.2.2.1.length * 32 ≤ _; omega, by show x.2.2.2.1.length * 16 ≤ _; omega, by show x.2.2.2.2.length * 32 ≤ _; omega⟩, p0, p1, p2, p3, p4⟩
  · intro hl
    obtain ⟨b', off, e1, _, e3⟩ := q2 hl
    exact ⟨b', off, e1, fun i y hi => e3 i y hi⟩
  · intro v hv
    exact hwf (.b v.2) (by simp only [iCode, List.mem_append]; exact .inr (.inr (.inr (.inl (by unfold itL; exact List.mem_cons_of_mem _ (List.mem_flatMap.2 ⟨v, hv, by simp [iValue]⟩))))))
  · intro hl
    obtain ⟨b', off, e1, _, e3⟩ := q3 hl
    exact ⟨b', off, e1, fun i k c hi => e3 i (k, c) hi⟩
  · intro hl
    obtain ⟨b', off, e1, _, e3⟩ := q4 hl
    exact ⟨b', off, e1, fun i y hi => e3 i y hi⟩
/-- what plain writes may be written -/
theorem plainI_ok {x : TTable} (hok : ∀ n, Itm.c n ∈ iTable x → n ≤ 1048576) (hwf : ∀ i ∈ iTable x, wfI i) : (∀ i ∈ plainI x, wfI i) := by
  have hkey : x.1.2.1.length ≤ 1048576 := hok _ (by simp [iTable, itL])
  have hkin : x.1.2.2.1.length ≤ 1048576 := hok _ (by simp [iTable, itL])
  intro i hi
  simp only [plainI, nI, List.mem_append, List.map_cons, List.map_nil, List.mem_cons, List.not_mem_nil, or_false, List.mem_map, List.mem_flatMap] at hi
  rcases hi with (rfl | rfl | rfl | rfl | rfl) | ⟨z, hz, rfl⟩ | rfl | ⟨l, hl, hi⟩ | hi
  · exact hwf _ (by simp [iTable])
  · exact hwf _ (by simp [iTable])
  · exact hwf _ (by simp [iTable])
  · exact hwf _ (by simp [iTable])
  · show _ ∧ _; omega
  · exact hwf _ (by simp only [iTable, List.mem_append]; exact .inr (.inl (by unfold itL; exact List.mem_cons_of_mem _ (List.mem_flatMap.2 ⟨z, hz, by simp [iInt]⟩))))
  · show _ ∧ _; omega
  · have hlm : ∀ j ∈ iInts l, j ∈ iTable x := fun j hj => by simp only [iTable, List.mem_append]; exact .inr (.inr (.inl (by unfold itL; exact List.mem_cons_of_mem _ (List.mem_flatMap.2 ⟨l, hl, hj⟩))))
    have hll : l.length ≤ 1048576 := hok _ (hlm _ (by simp [iInts, itL]))
    simp only [kI, nI, List.mem_append, List.map_cons, List.map_nil, List.mem_cons, List.not_mem_nil, or_false, List.mem_map] at hi
    rcases hi with rfl | ⟨z, hz, rfl⟩
    · show _ ∧ _; omega
    · exact hwf _ (hlm _ (by unfold iInts itL; exact List.mem_cons_of_mem _ (List.mem_flatMap.2 ⟨z, hz, by simp [iInt]⟩)))
  · exact hwf _ (by simp only [iTable, List.mem_append]; exact .inr (.inr (.inr (.inr (.inr (.inr (.inl hi)))))))
theorem nI_eq (l : List Int) : nI l = l.flatMap iInt := by
  induction l with
  | nil => rfl
  | cons a l ih =>
    show Itm.n a :: nI l = iInt a ++ l.flatMap iInt
    rw [ih]
    rfl
theorem encL_kI (l : List Int) : encL (kI l) = encL (iInts l) := by
  unfold kI iInts itL
  rw [nI_eq l, encL_append, encL_cons, show encL (nI [(l.length : Int)]) = encI (Itm.c l.length) by simp [nI, encL, encI]]
theorem encL_kIs : ∀ ls : List (List Int), encL (ls.flatMap kI) = encL (ls.flatMap iInts)
  | [] => rfl
  | l :: ls => by rw [List.flatMap_cons, List.flatMap_cons, encL_append, encL_append, encL_kI, encL_kIs ls]
theorem plain_len (x : TTable) : (encL (plainI x)).length ≤ (encL (iTable x)).length := by
  have e1 : ∀ z, encL [Itm.n z] = uintL (zig z) := fun z => by simp [encL, encI]
  have e2 : encL (itL iInt x.1.2.1) = uintL (zig (x.1.2.1.length : Int)) ++ encL (nI x.1.2.1) := by unfold itL; rw [encL_cons, nI_eq]; rfl
  have e3 : encL (itL iInts x.1.2.2.1) = uintL (zig (x.1.2.2.1.length : Int)) ++ encL (x.1.2.2.1.flatMap kI) := by unfold itL; rw [encL_cons, encL_kIs]; rfl
  have e4 : encL (nI [x.1.1, x.1.2.2.2.1, x.1.2.2.2.2.1, x.1.2.2.2.2.2, (x.1.2.1.length : Int)]) = uintL (zig x.1.1) ++ (uintL (zig x.1.2.2.2.1) ++ (uintL (zig x.1.2.2.2.2.1) ++ (uintL (zig x.1.2.2.2.2.2) ++ uintL (zig (x.1.2.1.length : Int))))) := by simp [nI, encL, encI]
  have e5 : encL (nI [(x.1.2.2.1.length : Int)]) = uintL (zig (x.1.2.2.1.length : Int)) := by simp [nI, encL, encI]
  unfold plainI iTable
  simp only [encL_append, List.length_append, e1, e2, e3, e4, e5]
  omega
/-- eight values that are a table x in this world, small enough to be written -/
structure TabOk (x : TTable) : Prop where
  ok : ∀ n, Itm.c n ∈ iTable x → n ≤ 1048576
  wf : ∀ i ∈ iTable x, wfI i
  len : (encL (iTable x)).length ≤ 100000000000
theorem TabOk.of_ok {x : TTable} (ok : ∀ i ∈ iTable x, okI i = true) (wf : ∀ i ∈ iTable x, wfI i) (len : (encL (iTable x)).length ≤ 100000) : TabOk x := ⟨fun n hn => by
  have := ok _ hn
  simp only [okI, decide_eq_true_eq] at this
  omega, wf, by omega⟩
theorem TabOk.plain {x : TTable} (h : TabOk x) : (∀ i ∈ plainI x, wfI i) ∧ LenOk [] (plainI x) := ⟨plainI_ok h.ok h.wf, by
  have := plain_len x
  have := h.len
  unfold LenOk
  rw [List.nil_append]
  omega⟩
end Go.Proofs.Ytlfhgmoafgjdcaa
