/- One text of several (Wb, VmL, VmN, VmJ, VmO, VmK, VmQ, DrP, DrQ, DrA, DrB, DrC, DrD). -/
import Derived.Test.YteniipolcdnmfaaMem
import Derived.Deep.Slices
import Derived.Deep.Fields
import Derived.Deep.SlicePairs
import Derived.ChangeSame
import Derived.SizedLaws
import Derived.OpenShut
import Derived.Lib.SmallJoins
import Derived.Test.YteniipolcdnmfaaVmD
import Derived.Test.YteniipolcdnmfaaIMp
import Derived.Test.YteniipolcdnmfaaVmF
import Derived.Test.YteniipolcdnmfaaVmP
import Derived.Test.YteniipolcdnmfaaVmE
import Derived.Deep.RegionLaw
namespace Go.Proofs.Yteniipolcdnmfaa
open Go.ChangeShapes Go.WideShapes Go.ChangeAt Go.RowKit Go.Deep Go.Joins
set_option linter.unusedVariables false
set_option linter.unusedSimpArgs false

section
variable {H : Type} {P : Program}
/-- what is read of d is within the reach -/
def WB (P : Program) (t : TypeId) (d : DataW H) : Prop := ∀ n ∈ d.weights P t, n ≤ reachBytes
theorem wb_each {ts : List TypeId} {ds : List (DataW H)} (h : (DataW.weightsEach P ts ds).all (· ≤ reachBytes) = true) {j : Nat} {t : TypeId} {d : DataW H} (ht : ts[j]? = some t) (hd : ds[j]? = some d) : WB P t d := fun n hn => by
  have := List.all_eq_true.1 h n (DataW.weights_mem_each ht hd n hn)
  simpa using this
theorem wb_agg {t : TypeId} {fs : Array Field} {parts : List (DataW H)} (hu : P.underlying t = some (.struct fs)) (h : WB P t (.agg parts)) {j : Nat} {ft : TypeId} {d : DataW H} (ht : (fs.toList.map (·.type))[j]? = some ft) (hd : parts[j]? = some d) : WB P ft d := fun n hn =>
  h n (by simp only [DataW.weights, hu]; exact DataW.weights_mem_each ht hd n hn)
theorem mem_weightsAll {e : TypeId} : ∀ {elems : List (DataW H)} {d : DataW H} {n : Nat}, d ∈ elems → n ∈ d.weights P e → n ∈ DataW.weightsAll P e elems
  | [], _, _, h, _ => by simp at h
  | a :: r, d, n, h, hn => by
    simp only [DataW.weightsAll, List.mem_append]
    rcases List.mem_cons.1 h with rfl | h
    · exact .inl hn
    · exact .inr (mem_weightsAll h hn)
theorem wb_slice {t e : TypeId} {elems spare : List (DataW H)} (hu : P.underlying t = some (.slice e)) (h : WB P t (.slice elems spare)) : elems.length * P.bytesOf e ≤ reachBytes ∧ ∀ d ∈ elems, WB P e d := by
  refine ⟨?_, fun d hd n hn => h n ?_⟩
  · have := h ((elems.length + spare.length) * P.bytesOf e) (by simp [DataW.weights, hu])
    exact Nat.le_trans (Nat.mul_le_mul_right _ (Nat.le_add_right _ _)) this
  · simp only [DataW.weights, hu, List.mem_cons, List.mem_append]
    exact .inr (.inl (mem_weightsAll hd hn))
end

section
variable {H : Type} {enc : TypeId × Value → H} {P : Program} {w : World} {base : Nat} {spare : Nat → Bool} {held : Bool}
/-- a slice of structs whose fields are of one cell each (from the guide's page of structs) -/
theorem open_slice_fields {t e : TypeId} {fs : Array Field} {fuel : Nat} {cs : List Value} {x : DataW H × List MemPlace} (ht : P.underlying t = some (.slice e)) (he : P.underlying e = some (.struct fs))
    (hone : oneCellFields P fs = true) (hC : P.cellsOf e = fs.size) (h : DataW.trod enc P w base spare held fuel t cs = some x) :
    (cs = [.slice none 0 0] ∧ x = (.nil, [])) ∨
    ∃ (a : Addr) (len cap m : Nat) (D : Nat → DataW H) (Pl : Nat → List MemPlace), cs = [.slice (some a) len cap] ∧ base ≤ a.block ∧ len ≤ cap ∧ cap ≤ maxLen ∧ m = (if spare a.block then cap else len) ∧
      x = (.slice ((List.range len).map D) ((List.range (m - len)).map fun j => D (len + j)), MemPlace.row a (m * fs.size) ++ (List.range m).flatMap Pl) ∧
      ∀ i, i < m → ∃ (ys : List (DataW H × List MemPlace)) (n : Nat), D i = .agg (ys.map (·.1)) ∧ Pl i = ys.flatMap (·.2) ∧ ys.length = fs.size ∧
        ∀ (j : Nat) (f : Field), fs[j]? = some f → ∃ (v : Value) (y : DataW H × List MemPlace), w.cell? (a.add (i * fs.size + j)) = some v ∧ ys[j]? = some y ∧ DataW.trod enc P w base spare held n f.type [v] = some y := by
  rcases open_slice ht h with h0 | ⟨a, len, cap, m, n, D, Pl, hcs, hb, hl, hm, hmm, hx, hi⟩
  · exact .inl h0
  · refine .inr ⟨a, len, cap, m, D, Pl, hcs, hb, hl, hm, hmm, by rw [hC] at hx; exact hx, fun i him => ?_⟩
    obtain ⟨cs', hc, ht'⟩ := hi i him
    rw [hC] at hc
    obtain ⟨ys, n', hn', hy, hlen, hyl, hf⟩ := DataW.trod_struct he ht'
    obtain ⟨_, hcl, hat⟩ := World.cells?_some hc
    simp only [Prod.mk.injEq] at hy
    refine ⟨ys, n', hy.1, hy.2, hyl, fun j f hj => ?_⟩
    obtain ⟨ho, hk⟩ := hone_of hone j f hj
    have hjl : j < fs.size := (Array.getElem?_eq_some_iff.1 hj).1
    have hcell := hat j hjl
    have hv : cs'[j]? = some (cs'[j]'(by omega)) := List.getElem?_eq_getElem (by omega)
    have h1 := hf j f hj
    rw [ho, hk] at h1
    have hone' : (cs'.drop j).take 1 = [cs'[j]'(by omega)] := by
      rw [List.drop_eq_getElem_cons (by omega)]
      rfl
    rw [hone'] at h1
    have hys : ys[j]? = some (ys[j]'(by omega)) := List.getElem?_eq_getElem (by omega)
    refine ⟨_, _, ?_, hys, h1.trans hys⟩
    rw [← Go.Deep.add_add, hcell, hv]

theorem okWide_arr {P : Program} {w : World} {r : Reach} {b0 n : Nat} {t e : TypeId} {v : Value} (ht : P.underlying t = some (.array n e)) (h : Value.okWide P w r b0 t v) : ∃ cs, v = .agg cs ∧ cs.size = P.cellsOf t := by
  simp only [Value.okWide, ht] at h
  obtain ⟨cs, h1, h2, _⟩ := h
  exact ⟨cs, h1, h2⟩
/-- two whole numbers in an array -/
theorem open_two {r : Reach} {b0 : Nat} {t e : TypeId} {v : Value} {d : DataW H} {p : List MemPlace} (ht : P.underlying t = some (.array 2 e)) (he : P.underlying e = some (.int .i64)) (hC : P.cellsOf t = 2) (hc : P.cellsOf e = 1)
    (hv : Value.okWide P w r b0 t v) (h : DataW.Trod enc P w base spare held t v d p) : ∃ a b : Int, v = .agg #[.int .i64 a, .int .i64 b] ∧ (Lit.int .i64 a).wf = true ∧ (Lit.int .i64 b).wf = true := by
  obtain ⟨cs, rfl, hs⟩ := okWide_arr ht hv
  obtain ⟨l⟩ := cs
  rw [hC] at hs
  match l, hs with
  | [c0, c1], _ =>
    obtain ⟨fuel, hf⟩ := h
    obtain ⟨xs, m, _, _, _, hl, hx⟩ := DataW.trod_array ht hf
    have h0 := hx 0 (by omega)
    have h1 := hx 1 (by omega)
    rw [hc] at h0 h1
    match xs, hl with
    | [y0, y1], _ =>
      simp [Value.cells] at h0 h1
      obtain ⟨a, e0, _, wa⟩ := DataW.trod_int he h0
      obtain ⟨b, e1, _, wb⟩ := DataW.trod_int he h1
      simp at e0 e1
      subst e0 e1
      exact ⟨a, b, rfl, wa, wb⟩

theorem spot_no {w : World} {a : Addr} {v : Value} (h : w.cell? a = some v) : a.spot = none := by
  unfold World.cell? at h
  split at h
  · split at h
    · cases h
    · rename_i hs; simpa using hs
  · cases h
theorem add_plain {b off : Nat} (n : Nat) : (⟨b, off, none⟩ : Addr).add n = ⟨b, off + n, none⟩ := by unfold Addr.add; split <;> simp_all
theorem spot_of {w : World} {a : Addr} {v : Value} (h : w.cell? (a.add 0) = some v) : ∃ b off, a = ⟨b, off, none⟩ := by
  obtain ⟨b, off, sp⟩ := a
  have h1 : (⟨b, off, sp⟩ : Addr).spot = none := spot_no h
  exact ⟨b, off, by simp only at h1; rw [h1]⟩
end
end Go.Proofs.Yteniipolcdnmfaa
namespace Go.Proofs.Yteniipolcdnmfaa
open Go.ChangeShapes Go.WideShapes Go.ChangeAt Go.RowKit Go.Deep Go.Joins Go.Fl
set_option linter.unusedVariables false
set_option linter.unusedSimpArgs false
section
variable {H : Type} {enc : TypeId × Value → H} {P : Program} {w : World} {base : Nat} {spare : Nat → Bool} {held : Bool}
theorem array5 {α : Type} {cs : Array α} (h : cs.size = 5) : ∃ c0 c1 c2 c3 c4, cs = #[c0, c1, c2, c3, c4] := by
  obtain ⟨l⟩ := cs
  match l, h with
  | [c0, c1, c2, c3, c4], _ => exact ⟨c0, c1, c2, c3, c4, rfl⟩
theorem open_agg5 {r : Reach} {b0 : Nat} {t : TypeId} {f0 f1 f2 f3 f4 : Field} {v : Value} {d : DataW H} {p : List MemPlace} (hs : P.underlying t = some (.struct #[f0, f1, f2, f3, f4])) (hone : oneCellFields P #[f0, f1, f2, f3, f4] = true) (hC : P.cellsOf t = 5)
    (hv : Value.okWide P w r b0 t v) (h : DataW.Trod enc P w base spare held t v d p) :
    ∃ (v0 v1 v2 v3 v4 : Value) (y0 y1 y2 y3 y4 : DataW H × List MemPlace) (n : Nat), v = .agg #[v0, v1, v2, v3, v4] ∧ d = .agg [y0.1, y1.1, y2.1, y3.1, y4.1] ∧
      DataW.trod enc P w base spare held n f0.type [v0] = some y0 ∧ DataW.trod enc P w base spare held n f1.type [v1] = some y1 ∧ DataW.trod enc P w base spare held n f2.type [v2] = some y2 ∧ DataW.trod enc P w base spare held n f3.type [v3] = some y3 ∧ DataW.trod enc P w base spare held n f4.type [v4] = some y4 := by
  obtain ⟨cs, rfl, hsz⟩ := okWide_struct hs hv
  obtain ⟨c0, c1, c2, c3, c4, rfl⟩ := array5 (hsz.trans hC)
  obtain ⟨fuel, hf⟩ := h
  obtain ⟨xs, n, _, hx, hl, hlen, hq⟩ := DataW.trod_struct hs hf
  match xs, hlen with
  | [y0, y1, y2, y3, y4], _ =>
    obtain ⟨o0, k0⟩ := hone_of hone 0 f0 rfl
    obtain ⟨o1, k1⟩ := hone_of hone 1 f1 rfl
    obtain ⟨o2, k2⟩ := hone_of hone 2 f2 rfl
    obtain ⟨o3, k3⟩ := hone_of hone 3 f3 rfl
    obtain ⟨o4, k4⟩ := hone_of hone 4 f4 rfl
    have h0 := hq 0 f0 rfl
    have h1 := hq 1 f1 rfl
    have h2 := hq 2 f2 rfl
    have h3 := hq 3 f3 rfl
    have h4 := hq 4 f4 rfl
    simp only [Prod.mk.injEq] at hx
    exact ⟨c0, c1, c2, c3, c4, y0, y1, y2, y3, y4, n, rfl, by simpa using hx.1, by simpa [Value.cells, o0, k0] using h0, by simpa [Value.cells, o1, k1] using h1, by simpa [Value.cells, o2, k2] using h2, by simpa [Value.cells, o3, k3] using h3, by simpa [Value.cells, o4, k4] using h4⟩
end
section
variable {H : Type} {enc : TypeId × Value → H} {w : World} {base : Nat} {spare : Nat → Bool} {held : Bool}
theorem open_valuesV {fuel : Nat} {v : Value} {y : DataW H × List MemPlace} (h : DataW.trod enc Try.prog w base spare held fuel 23 [v] = some y) (hw : WB Try.prog 23 y.1) :
    ∃ (B : Option Addr) (cap : Nat) (vs : List (Int × Nat)), v = .slice B vs.length cap ∧ RowV w B vs.length vs ∧ vs.length * 16 ≤ 140737488351232 := by
  rcases open_slice_fields Try.underlying23 Try.underlying34 (by kernel_rfl) (by kernel_rfl) h with ⟨hcs, _⟩ | ⟨a, len, cap, m, D, Pl, hcs, _, hl, hm, hmm, hx, hcell⟩
  · simp at hcs
    subst hcs
    exact ⟨none, 0, [], rfl, ⟨rfl, by simp, fun hp => absurd hp (by simp)⟩, by decide⟩
  · simp at hcs
    subst hcs hx
    have hlm : len ≤ m := by rw [hmm]; split <;> omega
    have hb := (wb_slice Try.underlying23 hw).1
    rw [show Try.prog.bytesOf 34 = 16 by kernel_rfl] at hb
    simp only [List.length_map, List.length_range, reachBytes] at hb
    have hv : ∀ i, i < len → ∃ q : Int × Nat, w.cell? (a.add (i * 2)) = some (.int .i64 q.1) ∧ w.cell? (a.add (i * 2 + 1)) = some (.int .u64 (q.2 : Int)) ∧ q.2 < 18446744073709551616 := by
      intro i hi
      obtain ⟨ys, n, _, _, _, hf⟩ := hcell i (by omega)
      obtain ⟨v0, y0, c0, _, t0⟩ := hf 0 _ rfl
      obtain ⟨v1, y1, c1, _, t1⟩ := hf 1 _ rfl
      obtain ⟨k, e0, _, _⟩ := DataW.trod_int Try.underlying3 t0
      obtain ⟨b, e1, _, wb⟩ := DataW.trod_int Try.underlying32 t1
      simp at e0 e1
      subst e0 e1
      obtain ⟨n, rfl, hn⟩ := nat_of_wf wb
      exact ⟨(k, n), c0, c1, hn⟩
    obtain ⟨q, hq⟩ := Go.Deep.choose_lt hv
    refine ⟨some a, cap, (List.range len).map q, by simp, ⟨by simp, ?_, fun hp => ?_⟩, by simpa using hb⟩
    · intro v hm
      obtain ⟨i, hi, rfl⟩ := List.mem_map.1 hm
      exact (hq i (List.mem_range.1 hi)).2.2
    · have hp' : 0 < len := by simpa using hp
      obtain ⟨b, off, rfl⟩ := spot_of (hq 0 hp').1
      refine ⟨b, off, rfl, fun i k c hi => ?_⟩
      have hil : i < len := by have := (List.getElem?_eq_some_iff.1 hi).1; simpa using this
      rw [List.getElem?_map, List.getElem?_range hil] at hi
      simp at hi
      have := hq i hil
      rw [hi, add_plain, add_plain] at this
      exact ⟨this.1, by rw [Nat.add_assoc]; exact this.2.1⟩
theorem open_inss {fuel : Nat} {v : Value} {y : DataW H × List MemPlace} (h : DataW.trod enc Try.prog w base spare held fuel 24 [v] = some y) (hw : WB Try.prog 24 y.1) :
    ∃ (B : Option Addr) (cap : Nat) (l : List I4), v = .slice B l.length cap ∧ QuadAt w B l ∧ l.length * 32 ≤ 140737488351232 := by
  rcases open_slice_fields Try.underlying24 Try.underlying42 (by kernel_rfl) (by kernel_rfl) h with ⟨hcs, _⟩ | ⟨a, len, cap, m, D, Pl, hcs, _, hl, hm, hmm, hx, hcell⟩
  · simp at hcs
    subst hcs
    exact ⟨none, 0, [], rfl, QuadAt.nil _ _, by decide⟩
  · simp at hcs
    subst hcs hx
    have hlm : len ≤ m := by rw [hmm]; split <;> omega
    have hb := (wb_slice Try.underlying24 hw).1
    rw [show Try.prog.bytesOf 42 = 32 by kernel_rfl] at hb
    simp only [List.length_map, List.length_range, reachBytes] at hb
    have hv : ∀ i, i < len → ∃ q : I4, w.cell? (a.add (i * 4)) = some (.int .i64 q.1) ∧ w.cell? (a.add (i * 4 + 1)) = some (.int .i64 q.2.1) ∧ w.cell? (a.add (i * 4 + 2)) = some (.int .i64 q.2.2.1) ∧ w.cell? (a.add (i * 4 + 3)) = some (.int .i64 q.2.2.2) := by
      intro i hi
      obtain ⟨ys, n, _, _, _, hf⟩ := hcell i (by omega)
      obtain ⟨v0, y0, c0, _, t0⟩ := hf 0 _ rfl
      obtain ⟨v1, y1, c1, _, t1⟩ := hf 1 _ rfl
      obtain ⟨v2, y2, c2, _, t2⟩ := hf 2 _ rfl
      obtain ⟨v3, y3, c3, _, t3⟩ := hf 3 _ rfl
      obtain ⟨k0, e0, _, _⟩ := DataW.trod_int Try.underlying3 t0
      obtain ⟨k1, e1, _, _⟩ := DataW.trod_int Try.underlying3 t1
      obtain ⟨k2, e2, _, _⟩ := DataW.trod_int Try.underlying3 t2
      obtain ⟨k3, e3, _, _⟩ := DataW.trod_int Try.underlying3 t3
      simp at e0 e1 e2 e3
      subst e0 e1 e2 e3
      exact ⟨(k0, k1, k2, k3), c0, c1, c2, c3⟩
    obtain ⟨q, hq⟩ := Go.Deep.choose_lt hv
    refine ⟨some a, cap, (List.range len).map q, by simp, fun hp => ?_, by simpa using hb⟩
    have hp' : 0 < len := by simpa using hp
    obtain ⟨b, off, rfl⟩ := spot_of (hq 0 hp').1
    refine ⟨b, off, rfl, fun i x hi => ?_⟩
    have hil : i < len := by have := (List.getElem?_eq_some_iff.1 hi).1; simpa using this
    rw [List.getElem?_map, List.getElem?_range hil] at hi
    simp at hi
    subst hi
    obtain ⟨h0, h1, h2, h3⟩ := hq i hil
    rw [add_plain] at h0 h1 h2 h3
    exact ⟨h0, by rw [Nat.add_assoc]; exact h1, by rw [Nat.add_assoc]; exact h2, by rw [Nat.add_assoc]; exact h3⟩
theorem open_inps {fuel : Nat} {v : Value} {y : DataW H × List MemPlace} (h : DataW.trod enc Try.prog w base spare held fuel 22 [v] = some y) (hw : WB Try.prog 22 y.1) :
    ∃ (B : Option Addr) (cap : Nat) (l : List I4), v = .slice B l.length cap ∧ QuadAt w B l ∧ l.length * 32 ≤ 140737488351232 := by
  rcases open_slice_fields Try.underlying22 Try.underlying31 (by kernel_rfl) (by kernel_rfl) h with ⟨hcs, _⟩ | ⟨a, len, cap, m, D, Pl, hcs, _, hl, hm, hmm, hx, hcell⟩
  · simp at hcs
    subst hcs
    exact ⟨none, 0, [], rfl, QuadAt.nil _ _, by decide⟩
  · simp at hcs
    subst hcs hx
    have hlm : len ≤ m := by rw [hmm]; split <;> omega
    have hb := (wb_slice Try.underlying22 hw).1
    rw [show Try.prog.bytesOf 31 = 32 by kernel_rfl] at hb
    simp only [List.length_map, List.length_range, reachBytes] at hb
    have hv : ∀ i, i < len → ∃ q : I4, w.cell? (a.add (i * 4)) = some (.int .i64 q.1) ∧ w.cell? (a.add (i * 4 + 1)) = some (.int .i64 q.2.1) ∧ w.cell? (a.add (i * 4 + 2)) = some (.int .i64 q.2.2.1) ∧ w.cell? (a.add (i * 4 + 3)) = some (.int .i64 q.2.2.2) := by
      intro i hi
      obtain ⟨ys, n, _, _, _, hf⟩ := hcell i (by omega)
      obtain ⟨v0, y0, c0, _, t0⟩ := hf 0 _ rfl
      obtain ⟨v1, y1, c1, _, t1⟩ := hf 1 _ rfl
      obtain ⟨v2, y2, c2, _, t2⟩ := hf 2 _ rfl
      obtain ⟨v3, y3, c3, _, t3⟩ := hf 3 _ rfl
      obtain ⟨k0, e0, _, _⟩ := DataW.trod_int Try.underlying3 t0
      obtain ⟨k1, e1, _, _⟩ := DataW.trod_int Try.underlying3 t1
      obtain ⟨k2, e2, _, _⟩ := DataW.trod_int Try.underlying3 t2
      obtain ⟨k3, e3, _, _⟩ := DataW.trod_int Try.underlying3 t3
      simp at e0 e1 e2 e3
      subst e0 e1 e2 e3
      exact ⟨(k0, k1, k2, k3), c0, c1, c2, c3⟩
    obtain ⟨q, hq⟩ := Go.Deep.choose_lt hv
    refine ⟨some a, cap, (List.range len).map q, by simp, fun hp => ?_, by simpa using hb⟩
    have hp' : 0 < len := by simpa using hp
    obtain ⟨b, off, rfl⟩ := spot_of (hq 0 hp').1
    refine ⟨b, off, rfl, fun i x hi => ?_⟩
    have hil : i < len := by have := (List.getElem?_eq_some_iff.1 hi).1; simpa using this
    rw [List.getElem?_map, List.getElem?_range hil] at hi
    simp at hi
    subst hi
    obtain ⟨h0, h1, h2, h3⟩ := hq i hil
    rw [add_plain] at h0 h1 h2 h3
    exact ⟨h0, by rw [Nat.add_assoc]; exact h1, by rw [Nat.add_assoc]; exact h2, by rw [Nat.add_assoc]; exact h3⟩
set_option maxRecDepth 100000 in
theorem open_code {r : Reach} {b0 : Nat} {v : Value} {d : DataW H} {p : List MemPlace} (hv : Value.okWide Try.prog w r b0 26 v) (h : DataW.Trod enc Try.prog w base spare held 26 v d p) (hw : WB Try.prog 26 d) :
    ∃ (c : CodeP) (x : CV), v = codeV c x ∧ CodeIn w c x ∧ c.ins.length * 32 ≤ 140737488351232 ∧ c.cs.length * 16 ≤ 140737488351232 ∧ c.list.length * 32 ≤ 140737488351232 := by
  obtain ⟨v0, v1, v2, v3, v4, y0, y1, y2, y3, y4, n, rfl, rfl, t0, t1, t2, t3, t4⟩ := open_agg5 Try.underlying26 (by kernel_rfl) (by kernel_rfl) hv h
  obtain ⟨rg, e0, _, _⟩ := DataW.trod_int Try.underlying3 t0
  obtain ⟨sl, e1, _, _⟩ := DataW.trod_int Try.underlying3 t1
  simp at e0 e1
  subst e0 e1
  have hW2 : WB Try.prog 22 y2.1 := wb_agg Try.underlying26 hw (j := 2) rfl rfl
  have hW3 : WB Try.prog 23 y3.1 := wb_agg Try.underlying26 hw (j := 3) rfl rfl
  have hW4 : WB Try.prog 24 y4.1 := wb_agg Try.underlying26 hw (j := 4) rfl rfl
  obtain ⟨B2, c2, l2, rfl, q2, z2⟩ := open_inps t2 hW2
  obtain ⟨B3, c3, l3, rfl, q3, z3⟩ := open_valuesV t3 hW3
  obtain ⟨B4, c4, l4, rfl, q4, z4⟩ := open_inss t4 hW4
  exact ⟨⟨rg, sl, l2, l3, l4⟩, ⟨B2, c2, B3, c3, B4, c4⟩, rfl, ⟨q2, q3, q4, by show l2.length * 32 ≤ _; omega, by show l3.length * 16 ≤ _; omega, by show l4.length * 32 ≤ _; omega⟩, z2, z3, z4⟩
end
end Go.Proofs.Yteniipolcdnmfaa
namespace Go.Proofs.Yteniipolcdnmfaa
open Go.ChangeShapes Go.WideShapes Go.ChangeAt Go.RowKit Go.Deep Go.Joins Go.Fl
set_option linter.unusedVariables false
section
variable {H : Type} {enc : TypeId × Value → H} {w : World} {base : Nat} {spare : Nat → Bool} {held : Bool}
set_option maxRecDepth 100000 in
theorem open_valuesT {r : Reach} {b0 : Nat} {v : Value} {d : DataW H} {p : List MemPlace} (hv : Value.okWide Try.prog w r b0 23 v) (h : DataW.Trod enc Try.prog w base spare held 23 v d p) (hw : WB Try.prog 23 d) :
    ∃ (B : Option Addr) (cap : Nat) (vs : List (Int × Nat)), v = .slice B vs.length cap ∧ RowV w B vs.length vs ∧ vs.length * 16 ≤ 140737488351232 := by
  obtain ⟨A0, len, cap, rfl⟩ := okWide_slice Try.underlying23 hv
  obtain ⟨fuel, h⟩ := h
  exact open_valuesV (v := .slice A0 len cap) (by simpa [Value.cells] using h) hw
set_option maxRecDepth 100000 in
theorem open_inssT {r : Reach} {b0 : Nat} {v : Value} {d : DataW H} {p : List MemPlace} (hv : Value.okWide Try.prog w r b0 24 v) (h : DataW.Trod enc Try.prog w base spare held 24 v d p) (hw : WB Try.prog 24 d) :
    ∃ (B : Option Addr) (cap : Nat) (l : List I4), v = .slice B l.length cap ∧ QuadAt w B l ∧ l.length * 32 ≤ 140737488351232 := by
  obtain ⟨A0, len, cap, rfl⟩ := okWide_slice Try.underlying24 hv
  obtain ⟨fuel, h⟩ := h
  exact open_inss (v := .slice A0 len cap) (by simpa [Value.cells] using h) hw
end
end Go.Proofs.Yteniipolcdnmfaa
namespace Go.Proofs.Yteniipolcdnmfaa
open Go.ChangeShapes Go.WideShapes Go.ChangeAt Go.RowKit Go.Fl
set_option linter.unusedVariables false
set_option linter.unusedSimpArgs false

theorem bdrewN9 {B : Nat} {a w : World} (h : Below B a w) (n : Nat) : Below B a (w.drewN n) := ⟨h.os, h.tape, h.output, h.size, h.block⟩
def valV (v : VN) : Value := .agg #[.int .i64 v.1, .int .u64 (v.2 : Int)]
def zeroVV : Value := .agg #[.int .i64 0, .int .u64 0]
/-- what a map holds is what a list of registers holds -/
def RelM (f : Int → Option Value) (l : List VN) : Prop := ∀ i, (f i).getD zeroVV = valV (rdV l i)
theorem RelM.blanks (n : Nat) : RelM (fun _ => none) (blank n) := fun i => by
  unfold rdV blank
  split
  · rw [List.getElem?_replicate]; split <;> rfl
  · rfl
theorem rd_wr (l : List VN) (i j : Int) (v : VN) (h0 : 0 ≤ i) (h1 : i < (l.length : Int)) : rdV (wrV l i v) j = if j = i then v else rdV l j := by
  obtain ⟨k, rfl⟩ : ∃ k : Nat, i = (k : Int) := ⟨i.toNat, by omega⟩
  have hk : k < l.length := by omega
  rw [wrV_in]
  unfold rdV
  by_cases hj : 0 ≤ j
  · rw [if_pos hj, if_pos hj]
    by_cases e : j = (k : Int)
    · subst e
      rw [if_pos rfl, Int.toNat_natCast, List.getElem?_set_self hk]; rfl
    · rw [if_neg e, List.getElem?_set_ne (by omega)]
  · rw [if_neg hj, if_neg hj, if_neg (by omega)]
theorem RelM.put {f : Int → Option Value} {l : List VN} (h : RelM f l) (i n : Int) (v : VN) (hn : l.length = n.toNat) :
    RelM (if 0 ≤ i ∧ i < n then iput f i (valV v) else f) (wrV l i v) := by
  by_cases hi : 0 ≤ i ∧ i < n
  · rw [if_pos hi]
    intro j
    rw [rd_wr l i j v hi.1 (by omega)]
    unfold iput
    by_cases e : j = i
    · rw [if_pos e, if_pos e]; rfl
    · rw [if_neg e, if_neg e]; exact h j
  · rw [if_neg hi, wrV_out v (by omega)]
    exact h
theorem zeroRI : ∃ j, Try.prog.info? 36 = some j ∧ j.zero = some zeroVV := by
  obtain ⟨i0, hi, hz0, _⟩ := info_parts infoR
  exact ⟨i0, hi, hz0⟩
set_option maxHeartbeats 1000000 in
theorem roperands_any (op : Int) (w : World) : Calls Try.prog 13 #[.int .i64 op] w fun e w' => e = .returned (.int .i64 (opsP op : Int)) ∧ Below w.heap.size w w' := by
  have c : op = 6 ∨ op = 15 ∨ op = 16 ∨ op = 17 ∨ (op ≠ 6 ∧ op ≠ 15 ∧ op ≠ 16 ∧ op ≠ 17) := by omega
  rcases c with rfl | rfl | rfl | rfl | ⟨n6, n15, n16, n17⟩
  · go_enter Try.func13, Try.ntmps13
    go_wp2
    go_ret
    exact ⟨rfl, Below.refl _ _⟩
  · go_enter Try.func13, Try.ntmps13
    go_wp2
    go_ret
    exact ⟨rfl, Below.refl _ _⟩
  · go_enter Try.func13, Try.ntmps13
    go_wp2
    go_ret
    exact ⟨rfl, Below.refl _ _⟩
  · go_enter Try.func13, Try.ntmps13
    go_wp2
    go_ret
    exact ⟨rfl, Below.refl _ _⟩
  · have f6 : (op == 6) = false := by simpa using n6
    have f15 : (op == 15) = false := by simpa using n15
    have f16 : (op == 16) = false := by simpa using n16
    have f17 : (op == 17) = false := by simpa using n17
    by_cases ha : op ≥ 1
    · by_cases hb : op ≤ 14
      · have hE := Lib.hid (show opsP op = 2 by unfold opsP; rw [if_neg (by omega), if_pos (by omega)])
        clear n6 n15 n16 n17
        go_enter Try.func13, Try.ntmps13
        go_wp2
        go_ret
        exact ⟨by rw [hE.out]; rfl, Below.refl _ _⟩
      · have hE := Lib.hid (show opsP op = 0 by unfold opsP; rw [if_neg (by omega), if_neg (by omega)])
        clear n6 n15 n16 n17
        go_enter Try.func13, Try.ntmps13
        go_wp2
        go_ret
        exact ⟨by rw [hE.out]; rfl, Below.refl _ _⟩
    · have hE := Lib.hid (show opsP op = 0 by unfold opsP; rw [if_neg (by omega), if_neg (by omega)])
      clear n6 n15 n16 n17
      go_enter Try.func13, Try.ntmps13
      go_wp2
      go_ret
      exact ⟨by rw [hE.out]; rfl, Below.refl _ _⟩
/-- the map holds this now -/
def POut (r : Nat) (f : Int → Option Value) (w : World) (e : Ending) (w' : World) : Prop := e = .returned (.tuple #[]) ∧ IMap w' r f ∧ w.grownBy w' (some r)
theorem cl_zero : clV (0, 0) = (0, 0) := clV_self clean_zero
/-- between two rounds, and within one -/
structure RJ (w : World) (c : CodeP) (v : CV) (rR rS : Nat) (s : List VN × List VN) (u : World) : Prop where
  code : CodeAt u w.heap.size c v
  res : Blk u (w.heap.size + 1) 36 #[.int .i64 0, .int .u64 0]
  mR : ∃ f, IMap u rR f ∧ RelM f s.1
  mS : ∃ f, IMap u rS f ∧ RelM f s.2
  bel : Below w.heap.size w u
theorem RJ.later {w u u1 : World} {c : CodeP} {v : CV} {rR rS : Nat} {s : List VN × List VN} (h : RJ w c v rR rS s u) (hb : Below u.heap.size u u1) : RJ w c v rR rS s u1 := by
  obtain ⟨f, hf, hr⟩ := h.mR
  obtain ⟨g, hg, hs⟩ := h.mS
  exact ⟨h.code.later hb, h.res.kept hb, ⟨f, hf.later hb, hr⟩, ⟨g, hg.later hb, hs⟩, below_more h.bel hb⟩
theorem RJ.stepR {w u u1 : World} {c : CodeP} {v : CV} {rR rS : Nat} {s : List VN × List VN} {f' : Int → Option Value} {l : List VN} (h : RJ w c v rR rS s u) (hM : IMap u1 rR f') (hr : RelM f' l) (hG : u.grownBy u1 (some rR)) (hR : w.heap.size + 2 ≤ rR) (hne : rR ≠ rS) : RJ w c v rR rS (l, s.2) u1 := by
  obtain ⟨g, hg, hs⟩ := h.mS
  have cel : ∀ i x, u.cell? ⟨w.heap.size, i, none⟩ = some x → u1.cell? ⟨w.heap.size, i, none⟩ = some x := fun i x hv => hG.cell hv (by simp; omega)
  obtain ⟨a0, a1, a2, a3, a4⟩ := h.code
  exact ⟨⟨cel _ _ a0, cel _ _ a1, cel _ _ a2, cel _ _ a3, cel _ _ a4⟩, h.res.grown hG (by simp; omega), ⟨f', hM, hr⟩, ⟨g, hg.grown hG (by simp; exact fun e => hne e.symm), hs⟩,
    ⟨hG.os.trans h.bel.os, hG.tape.trans h.bel.tape, hG.output.trans h.bel.output, Nat.le_trans h.bel.size hG.size, fun k hk => (hG.block k (Nat.lt_of_lt_of_le hk h.bel.size) (by simp; omega)).trans (h.bel.block k hk)⟩⟩
theorem RJ.stepS {w u u1 : World} {c : CodeP} {v : CV} {rR rS : Nat} {s : List VN × List VN} {f' : Int → Option Value} {l : List VN} (h : RJ w c v rR rS s u) (hM : IMap u1 rS f') (hr : RelM f' l) (hG : u.grownBy u1 (some rS)) (hR : w.heap.size + 2 ≤ rS) (hne : rR ≠ rS) : RJ w c v rR rS (s.1, l) u1 := by
  obtain ⟨g, hg, hs⟩ := h.mR
  have cel : ∀ i x, u.cell? ⟨w.heap.size, i, none⟩ = some x → u1.cell? ⟨w.heap.size, i, none⟩ = some x := fun i x hv => hG.cell hv (by simp; omega)
  obtain ⟨a0, a1, a2, a3, a4⟩ := h.code
  exact ⟨⟨cel _ _ a0, cel _ _ a1, cel _ _ a2, cel _ _ a3, cel _ _ a4⟩, h.res.grown hG (by simp; omega), ⟨g, hg.grown hG (by simp; exact hne), hs⟩, ⟨f', hM, hr⟩,
    ⟨hG.os.trans h.bel.os, hG.tape.trans h.bel.tape, hG.output.trans h.bel.output, Nat.le_trans h.bel.size hG.size, fun k hk => (hG.block k (Nat.lt_of_lt_of_le hk h.bel.size) (by simp; omega)).trans (h.bel.block k hk)⟩⟩
/-- a list of n of two values in a block of its own -/
def PfW (n : Nat) (p q : VN) : Value → World → Prop := fun v w => ∃ g, v = .slice (some ⟨g, 0, none⟩) n 2 ∧ RowV w (some ⟨g, 0, none⟩) n ([p, q].take n)
theorem pfw_mono (n : Nat) (p q : VN) : G.MonoW (PfW n p q) := fun _ _ _ ⟨g, e, h⟩ hb => ⟨g, e, h.later hb⟩
theorem row_take {w : World} {g : Nat} {p q : VN} (h : RowV w (some ⟨g, 0, none⟩) 2 [p, q]) (n : Nat) (hn : n ≤ 2) : RowV w (some ⟨g, 0, none⟩) n ([p, q].take n) := by
  refine ⟨by simp; omega, fun v hv => h.2.1 v (List.mem_of_mem_take hv), fun hp => ?_⟩
  obtain ⟨b, off, hA, hc⟩ := h.2.2 (by omega)
  exact ⟨b, off, hA, fun i k c hi => hc i k c (by rw [List.getElem?_take] at hi; split at hi; exact hi; cases hi)⟩

end Go.Proofs.Yteniipolcdnmfaa
namespace Go.Proofs.Yteniipolcdnmfaa
open Go.ChangeShapes Go.WideShapes Go.ChangeAt Go.RowKit Go.Fl
set_option linter.unusedVariables false
set_option linter.unusedSimpArgs false
theorem rleaf_any (op : Int) (w : World) : Calls Try.prog 17 #[.int .i64 op] w (BOut (leafB op) w) := by
  by_cases h41 : op = 41
  · subst h41
    have hE := Lib.hid (show true = leafB 41 by decide)
    go_enter Try.func17, Try.ntmps17
    go_wp2
    go_ret
    first | exact bout_eq hE.out (Below.refl _ _) | exact ⟨by rw [← hE.out]; simp; omega, Below.refl _ _⟩
  by_cases h42 : op = 42
  · subst h42
    have hE := Lib.hid (show true = leafB 42 by decide)
    go_enter Try.func17, Try.ntmps17
    go_wp2
    go_ret
    first | exact bout_eq hE.out (Below.refl _ _) | exact ⟨by rw [← hE.out]; simp; omega, Below.refl _ _⟩
  have f41 : (op == 41) = false := by simpa using h41
  have f42 : (op == 42) = false := by simpa using h42
  by_cases h25 : op ≥ 25
  · by_cases h31 : op ≤ 31
    · have hE := Lib.hid (show true = leafB op by simp [leafB]; omega)
      clear h41 h42
      go_enter Try.func17, Try.ntmps17
      go_wp2
      go_ret
      first | exact bout_eq hE.out (Below.refl _ _) | exact ⟨by rw [← hE.out]; simp; omega, Below.refl _ _⟩
    · have hE := Lib.hid (show false = leafB op by simp [leafB]; omega)
      clear h41 h42
      go_enter Try.func17, Try.ntmps17
      go_wp2
      go_ret
      first | exact bout_eq hE.out (Below.refl _ _) | exact ⟨by rw [← hE.out]; simp; omega, Below.refl _ _⟩
  · have hE := Lib.hid (show false = leafB op by simp [leafB]; omega)
    clear h41 h42
    go_enter Try.func17, Try.ntmps17
    go_wp2
    go_ret
    first | exact bout_eq hE.out (Below.refl _ _) | exact ⟨by rw [← hE.out]; simp; omega, Below.refl _ _⟩

set_option maxHeartbeats 8000000 in
theorem rinput_any (op kd ps at_ : Int) (w : World) : Calls Try.prog 7 #[.agg #[.int .i64 op, .int .i64 kd, .int .i64 ps, .int .i64 at_]] w (BOut (inputB (op, kd, ps, at_)) w) := by
  have hw := m1 w (.cells #[.int .i64 op, .int .i64 kd, .int .i64 ps, .int .i64 at_] 31)
  have i0 : (w.alloc (.cells #[.int .i64 op, .int .i64 kd, .int .i64 ps, .int .i64 at_] 31)).cell? ⟨w.heap.size, 0, none⟩ = some (.int .i64 op) := by simp
  have i1 : (w.alloc (.cells #[.int .i64 op, .int .i64 kd, .int .i64 ps, .int .i64 at_] 31)).cell? ⟨w.heap.size, 1, none⟩ = some (.int .i64 kd) := by simp
  have i2 : (w.alloc (.cells #[.int .i64 op, .int .i64 kd, .int .i64 ps, .int .i64 at_] 31)).cell? ⟨w.heap.size, 2, none⟩ = some (.int .i64 ps) := by simp
  have i3 : (w.alloc (.cells #[.int .i64 op, .int .i64 kd, .int .i64 ps, .int .i64 at_] 31)).cell? ⟨w.heap.size, 3, none⟩ = some (.int .i64 at_) := by simp
  generalize hr : inputB (op, kd, ps, at_) = r
  replace hr := Lib.hid hr.symm
  have L := rleaf_any op
  cases hl : leafB op with
  | false =>
    rw [hl] at L
    replace L := Lib.hid L
    have hE := Lib.hid (show false = r by rw [hr.out]; simp [inputB, hl]; try omega)
    clear hr hl
    go_enter Try.func7, Try.ntmps7
    go_wp2_with fail
    refine (L.out _).mono ?_; rintro e w1 ⟨rfl, hb1⟩
    replace i0 := cell_later hb1 i0
    replace i1 := cell_later hb1 i1
    replace i2 := cell_later hb1 i2
    replace i3 := cell_later hb1 i3
    replace hw := below_more hw hb1
    clear hb1 L
    go_wp2
    go_ret
    first | exact bout_eq hE.out hw | exact ⟨by rw [← hE.out]; simp; omega, hw⟩
  | true =>
    rw [hl] at L
    replace L := Lib.hid L
    by_cases k1 : kd ≥ 1
    · by_cases k2 : kd ≤ 4
      · by_cases p1 : ps ≥ 0
        · by_cases p2 : ps ≤ 7
          · by_cases a1 : at_ ≥ -1
            · by_cases a2 : at_ ≤ 7
              · by_cases h41 : op = 41
                · have f41 : (op != 41) = false := by simp [h41]
                  by_cases p0 : ps = 0
                  · have fp : (ps == 0) = true := by simp [p0]
                    have h25 : ¬ op = 25 := by omega
                    have f25 : (op != 25) = true := by simpa using h25
                    have hE := Lib.hid (show true = r by rw [hr.out]; simp [inputB, hl]; try omega)
                    clear hr hl h25 h41 p0
                    go_enter Try.func7, Try.ntmps7
                    go_wp2_with fail
                    refine (L.out _).mono ?_; rintro e w1 ⟨rfl, hb1⟩
                    replace i0 := cell_later hb1 i0
                    replace i1 := cell_later hb1 i1
                    replace i2 := cell_later hb1 i2
                    replace i3 := cell_later hb1 i3
                    replace hw := below_more hw hb1
                    clear hb1 L
                    go_wp2
                    go_ret
                    first | exact bout_eq hE.out hw | exact ⟨by rw [← hE.out]; simp; omega, hw⟩
                  · have fp : (ps == 0) = false := by simpa using p0
                    have hE := Lib.hid (show false = r by rw [hr.out]; simp [inputB, hl]; try omega)
                    clear hr hl h41 p0
                    go_enter Try.func7, Try.ntmps7
                    go_wp2_with fail
                    refine (L.out _).mono ?_; rintro e w1 ⟨rfl, hb1⟩
                    replace i0 := cell_later hb1 i0
                    replace i1 := cell_later hb1 i1
                    replace i2 := cell_later hb1 i2
                    replace i3 := cell_later hb1 i3
                    replace hw := below_more hw hb1
                    clear hb1 L
                    go_wp2
                    go_ret
                    first | exact bout_eq hE.out hw | exact ⟨by rw [← hE.out]; simp; omega, hw⟩
                · have f41 : (op != 41) = true := by simpa using h41
                  by_cases h25 : op = 25
                  · have f25 : (op != 25) = false := by simp [h25]
                    by_cases a0 : at_ = 0
                    · have fa : (at_ == 0) = true := by simp [a0]
                      have hE := Lib.hid (show true = r by rw [hr.out]; simp [inputB, hl]; try omega)
                      clear hr hl h25 a0 h41
                      go_enter Try.func7, Try.ntmps7
                      go_wp2_with fail
                      refine (L.out _).mono ?_; rintro e w1 ⟨rfl, hb1⟩
                      replace i0 := cell_later hb1 i0
                      replace i1 := cell_later hb1 i1
                      replace i2 := cell_later hb1 i2
                      replace i3 := cell_later hb1 i3
                      replace hw := below_more hw hb1
                      clear hb1 L
                      go_wp2
                      go_ret
                      first | exact bout_eq hE.out hw | exact ⟨by rw [← hE.out]; simp; omega, hw⟩
                    · have fa : (at_ == 0) = false := by simpa using a0
                      have hE := Lib.hid (show false = r by rw [hr.out]; simp [inputB, hl]; try omega)
                      clear hr a0 hl h25 h41
                      go_enter Try.func7, Try.ntmps7
                      go_wp2_with fail
                      refine (L.out _).mono ?_; rintro e w1 ⟨rfl, hb1⟩
                      replace i0 := cell_later hb1 i0
                      replace i1 := cell_later hb1 i1
                      replace i2 := cell_later hb1 i2
                      replace i3 := cell_later hb1 i3
                      replace hw := below_more hw hb1
                      clear hb1 L
                      go_wp2
                      go_ret
                      first | exact bout_eq hE.out hw | exact ⟨by rw [← hE.out]; simp; omega, hw⟩
                  · have f25 : (op != 25) = true := by simpa using h25
                    have hE := Lib.hid (show true = r by rw [hr.out]; simp [inputB, hl]; try omega)
                    clear hr h25 hl h41
                    go_enter Try.func7, Try.ntmps7
                    go_wp2_with fail
                    refine (L.out _).mono ?_; rintro e w1 ⟨rfl, hb1⟩
                    replace i0 := cell_later hb1 i0
                    replace i1 := cell_later hb1 i1
                    replace i2 := cell_later hb1 i2
                    replace i3 := cell_later hb1 i3
                    replace hw := below_more hw hb1
                    clear hb1 L
                    go_wp2
                    go_ret
                    first | exact bout_eq hE.out hw | exact ⟨by rw [← hE.out]; simp; omega, hw⟩
              · have hE := Lib.hid (show false = r by rw [hr.out]; simp [inputB, hl]; try omega)
                clear hr hl
                go_enter Try.func7, Try.ntmps7
                go_wp2_with fail
                refine (L.out _).mono ?_; rintro e w1 ⟨rfl, hb1⟩
                replace i0 := cell_later hb1 i0
                replace i1 := cell_later hb1 i1
                replace i2 := cell_later hb1 i2
                replace i3 := cell_later hb1 i3
                replace hw := below_more hw hb1
                clear hb1 L
                go_wp2
                go_ret
                first | exact bout_eq hE.out hw | exact ⟨by rw [← hE.out]; simp; omega, hw⟩
            · have hE := Lib.hid (show false = r by rw [hr.out]; simp [inputB, hl]; try omega)
              clear hr hl
              go_enter Try.func7, Try.ntmps7
              go_wp2_with fail
              refine (L.out _).mono ?_; rintro e w1 ⟨rfl, hb1⟩
              replace i0 := cell_later hb1 i0
              replace i1 := cell_later hb1 i1
              replace i2 := cell_later hb1 i2
              replace i3 := cell_later hb1 i3
              replace hw := below_more hw hb1
              clear hb1 L
              go_wp2
              go_ret
              first | exact bout_eq hE.out hw | exact ⟨by rw [← hE.out]; simp; omega, hw⟩
          · have hE := Lib.hid (show false = r by rw [hr.out]; simp [inputB, hl]; try omega)
            clear hr hl
            go_enter Try.func7, Try.ntmps7
            go_wp2_with fail
            refine (L.out _).mono ?_; rintro e w1 ⟨rfl, hb1⟩
            replace i0 := cell_later hb1 i0
            replace i1 := cell_later hb1 i1
            replace i2 := cell_later hb1 i2
            replace i3 := cell_later hb1 i3
            replace hw := below_more hw hb1
            clear hb1 L
            go_wp2
            go_ret
            first | exact bout_eq hE.out hw | exact ⟨by rw [← hE.out]; simp; omega, hw⟩
        · have hE := Lib.hid (show false = r by rw [hr.out]; simp [inputB, hl]; try omega)
          clear hr hl
          go_enter Try.func7, Try.ntmps7
          go_wp2_with fail
          refine (L.out _).mono ?_; rintro e w1 ⟨rfl, hb1⟩
          replace i0 := cell_later hb1 i0
          replace i1 := cell_later hb1 i1
          replace i2 := cell_later hb1 i2
          replace i3 := cell_later hb1 i3
          replace hw := below_more hw hb1
          clear hb1 L
          go_wp2
          go_ret
          first | exact bout_eq hE.out hw | exact ⟨by rw [← hE.out]; simp; omega, hw⟩
      · have hE := Lib.hid (show false = r by rw [hr.out]; simp [inputB, hl]; try omega)
        clear hr hl
        go_enter Try.func7, Try.ntmps7
        go_wp2_with fail
        refine (L.out _).mono ?_; rintro e w1 ⟨rfl, hb1⟩
        replace i0 := cell_later hb1 i0
        replace i1 := cell_later hb1 i1
        replace i2 := cell_later hb1 i2
        replace i3 := cell_later hb1 i3
        replace hw := below_more hw hb1
        clear hb1 L
        go_wp2
        go_ret
        first | exact bout_eq hE.out hw | exact ⟨by rw [← hE.out]; simp; omega, hw⟩
    · have hE := Lib.hid (show false = r by rw [hr.out]; simp [inputB, hl]; try omega)
      clear hr hl
      go_enter Try.func7, Try.ntmps7
      go_wp2_with fail
      refine (L.out _).mono ?_; rintro e w1 ⟨rfl, hb1⟩
      replace i0 := cell_later hb1 i0
      replace i1 := cell_later hb1 i1
      replace i2 := cell_later hb1 i2
      replace i3 := cell_later hb1 i3
      replace hw := below_more hw hb1
      clear hb1 L
      go_wp2
      go_ret
      first | exact bout_eq hE.out hw | exact ⟨by rw [← hE.out]; simp; omega, hw⟩

def readsR (x : I4) : List Int := if x.1 = 52 then [x.2.2.1] else [x.2.2.1, x.2.2.2].take (opsP x.1)
theorem readsR_len (x : I4) : (readsR x).length ≤ 2 := by unfold readsR; split <;> simp <;> omega
set_option maxHeartbeats 2000000 in
theorem rreads_any (op d ia ib : Int) (w : World) : Calls Try.prog 14 #[.agg #[.int .i64 op, .int .i64 d, .int .i64 ia, .int .i64 ib]] w (IOut (readsR (op, d, ia, ib)) w) := by
  have hw := m1 w (.cells #[.int .i64 op, .int .i64 d, .int .i64 ia, .int .i64 ib] 42)
  by_cases h52 : op = 52
  · subst h52
    rw [show readsR (52, d, ia, ib) = [ia] from rfl]
    go_enter Try.func14, Try.ntmps14
    go_wp2
    go_ret
    exact ⟨_, _, rfl, by simpa using isAt_one (w.alloc (.cells #[.int .i64 52, .int .i64 d, .int .i64 ia, .int .i64 ib] 42)) ia, hw.alloc (by simp) _⟩
  have hR : readsR (op, d, ia, ib) = [ia, ib].take (opsP op) := by
    unfold readsR
    rw [if_neg h52]
  rw [hR]
  clear hR
  have f52 : (op == 52) = false := by simpa using h52
  have O := Lib.hid (roperands_any op)
  have hi : InsAt (w.alloc (.cells #[.int .i64 op, .int .i64 d, .int .i64 ia, .int .i64 ib] 42)) w.heap.size (op, d, ia, ib) := insAt_new w (op, d, ia, ib)
  have hn : opsP op = 0 ∨ opsP op = 1 ∨ opsP op = 2 := by have := ops_le op; omega
  generalize opsP op = n at *
  clear h52
  have i0 := hi.1
  rcases hn with rfl | rfl | rfl
  · go_enter Try.func14, Try.ntmps14
    go_upto_region 3 with (fail)
    clear i0
    generalize w.alloc (.cells #[.int .i64 op, .int .i64 d, .int .i64 ia, .int .i64 ib] 42) = u0 at *
    have KD := G.keepsD_true []
    refine G.region_words (fun w' => InsAt w' w.heap.size (op, d, ia, ib) ∧ Below w.heap.size w w') [G.isW (.pointer (some ⟨w.heap.size, 2, none⟩)), G.isW (.int .i64 ia), G.isW (.pointer (some ⟨w.heap.size, 3, none⟩)), G.isW (.int .i64 ib), TwI ia ib 2, G.isW (.pointer (some ⟨w.heap.size, 0, none⟩)), G.isW (.int .i64 op), G.isW (.int .i64 0), TwI ia ib 0, TwI ia ib 0] (by kernel_rfl) (by repeat' (first | exact G.monoL_nil | exact G.is_mono _ | exact G.any_mono | exact twi_mono _ _ _ | refine G.monoL_cons ?_ ?_)) (by kernel_rfl) (by kernel_rfl) (fun _ _ h hb => ⟨h.1.later hb, below_more h.2 hb⟩) ⟨hi.later (Below.refl _ _).drew, hw.drew⟩ ?_ ?_
    · intro KC
      refine G.stepsL_cons (fun a u hc hdd hd hk hdep => ?_) ?_
      ·
        have d1 : (a.tmps[1]?).getD undef = (.pointer (some ⟨w.heap.size, 0, none⟩)) := hk 1 (by kernel_rfl)
        refine G.step_val KC KD hc hdd rfl (.pointer (some ⟨w.heap.size, 2, none⟩)) u (G.wanted_plain rfl) ?_ rfl (Below.refl _ _)
        first | (go_simp; done) | rfl | (simp [go_sem, *]; done)
      refine G.stepsL_cons (fun a u hc hdd hd hk hdep => ?_) ?_
      ·
        have d9 : (a.tmps[9]?).getD undef = (.pointer (some ⟨w.heap.size, 2, none⟩)) := hdep ⟨0, .data⟩ (by simp) rfl
        refine G.step_val KC KD hc hdd rfl (.int .i64 ia) u (G.wanted_plain rfl) ?_ rfl (Below.refl _ _)
        obtain ⟨i0, i1, i2, i3⟩ := hc.1
        first | (go_simp; done) | rfl | (simp [go_sem, *]; done)
      refine G.stepsL_cons (fun a u hc hdd hd hk hdep => ?_) ?_
      ·
        have d1 : (a.tmps[1]?).getD undef = (.pointer (some ⟨w.heap.size, 0, none⟩)) := hk 1 (by kernel_rfl)
        refine G.step_val KC KD hc hdd rfl (.pointer (some ⟨w.heap.size, 3, none⟩)) u (G.wanted_plain rfl) ?_ rfl (Below.refl _ _)
        first | (go_simp; done) | rfl | (simp [go_sem, *]; done)
      refine G.stepsL_cons (fun a u hc hdd hd hk hdep => ?_) ?_
      ·
        have d11 : (a.tmps[11]?).getD undef = (.pointer (some ⟨w.heap.size, 3, none⟩)) := hdep ⟨2, .data⟩ (by simp) rfl
        refine G.step_val KC KD hc hdd rfl (.int .i64 ib) u (G.wanted_plain rfl) ?_ rfl (Below.refl _ _)
        obtain ⟨i0, i1, i2, i3⟩ := hc.1
        first | (go_simp; done) | rfl | (simp [go_sem, *]; done)
      refine G.stepsL_cons (fun a u hc hdd hd hk hdep => ?_) ?_
      ·
        have d10 : (a.tmps[10]?).getD undef = (.int .i64 ia) := hdep ⟨1, .data⟩ (by simp) rfl
        have d12 : (a.tmps[12]?).getD undef = (.int .i64 ib) := hdep ⟨3, .data⟩ (by simp) rfl
        refine G.step_val KC KD hc hdd rfl (.slice (some ⟨u.heap.size, 0, none⟩) 2 2) (u.alloc (.cells #[.int .i64 ia, .int .i64 ib] 3)) (G.wanted_plain rfl) ?_ ⟨u.heap.size, rfl, isAt_two u ia ib⟩ (m1 _ _)
        first | (go_simp; done) | rfl | (simp [go_sem, *]; done)
      refine G.stepsL_cons (fun a u hc hdd hd hk hdep => ?_) ?_
      ·
        have d1 : (a.tmps[1]?).getD undef = (.pointer (some ⟨w.heap.size, 0, none⟩)) := hk 1 (by kernel_rfl)
        refine G.step_val KC KD hc hdd rfl (.pointer (some ⟨w.heap.size, 0, none⟩)) u (G.wanted_plain rfl) ?_ rfl (Below.refl _ _)
        first | (go_simp; done) | rfl | (simp [go_sem, *]; done)
      refine G.stepsL_cons (fun a u hc hdd hd hk hdep => ?_) ?_
      ·
        have d14 : (a.tmps[14]?).getD undef = (.pointer (some ⟨w.heap.size, 0, none⟩)) := hdep ⟨5, .data⟩ (by simp) rfl
        refine G.step_val KC KD hc hdd rfl (.int .i64 op) u (G.wanted_plain rfl) ?_ rfl (Below.refl _ _)
        obtain ⟨i0, i1, i2, i3⟩ := hc.1
        first | (go_simp; done) | rfl | (simp [go_sem, *]; done)
      refine G.stepsL_cons (fun a u hc hdd hd hk hdep => ?_) ?_
      ·
        have d15 : (a.tmps[15]?).getD undef = (.int .i64 op) := hdep ⟨6, .data⟩ (by simp) rfl
        refine G.step_call KC KD hc hdd rfl 13 #[.int .i64 op] (G.wanted_plain rfl) (by first | (go_simp; done) | rfl) ?_
        exact (O.out u).mono (by rintro e w' ⟨rfl, hb⟩; exact ⟨_, rfl, rfl, hb⟩)
      refine G.stepsL_cons (fun a u hc hdd hd hk hdep => ?_) ?_
      ·
        have d13' : (TwI ia ib 2) ((a.tmps[13]?).getD undef) u := hdep ⟨4, .data⟩ (by simp) rfl
        obtain ⟨g4, d13, h4⟩ := d13'
        have d16 : (a.tmps[16]?).getD undef = (.int .i64 0) := hdep ⟨7, .data⟩ (by simp) rfl
        refine G.step_val KC KD hc hdd rfl (.slice (some ⟨g4, 0, none⟩) 0 2) u (G.wanted_plain rfl) ?_ ⟨g4, rfl, h4⟩ (Below.refl _ _)
        first | (go_simp; done) | rfl | (simp [go_sem, *]; done)
      refine G.stepsL_cons (fun a u hc hdd hd hk hdep => ?_) ?_
      ·
        have d17' : (TwI ia ib 0) ((a.tmps[17]?).getD undef) u := hdep ⟨8, .data⟩ (by simp) rfl
        obtain ⟨g8, d17, h8⟩ := d17'
        refine G.step_val KC KD hc hdd rfl (.slice (some ⟨g8, 0, none⟩) 0 2) u (G.wanted_plain rfl) ?_ ⟨g8, rfl, h8⟩ (Below.refl _ _)
        first | (go_simp; done) | rfl | (simp [go_sem, *]; done)
      exact G.stepsL_nil
    intro vs' wN hN hh
    obtain ⟨g, e9, h9⟩ : TwI ia ib 0 (vs' 9) wN := by
      obtain ⟨-, -, -, -, -, -, -, -, -, eX, -⟩ := hh
      exact eX
    clear hh
    set_option maxRecDepth 100000 in simp only [List.take_succ_cons, List.take_zero, putAll, Act.put, List.setIfInBounds_toArray, List.set_cons_zero, List.set_cons_succ, Nat.reduceAdd, e9]
    obtain ⟨-, hB⟩ := hN
    go_wp2
    go_ret
    exact ⟨some ⟨g, 0, none⟩, 2, rfl, h9.take 0, hB⟩
  · go_enter Try.func14, Try.ntmps14
    go_upto_region 3 with (fail)
    clear i0
    generalize w.alloc (.cells #[.int .i64 op, .int .i64 d, .int .i64 ia, .int .i64 ib] 42) = u0 at *
    have KD := G.keepsD_true []
    refine G.region_words (fun w' => InsAt w' w.heap.size (op, d, ia, ib) ∧ Below w.heap.size w w') [G.isW (.pointer (some ⟨w.heap.size, 2, none⟩)), G.isW (.int .i64 ia), G.isW (.pointer (some ⟨w.heap.size, 3, none⟩)), G.isW (.int .i64 ib), TwI ia ib 2, G.isW (.pointer (some ⟨w.heap.size, 0, none⟩)), G.isW (.int .i64 op), G.isW (.int .i64 1), TwI ia ib 1, TwI ia ib 1] (by kernel_rfl) (by repeat' (first | exact G.monoL_nil | exact G.is_mono _ | exact G.any_mono | exact twi_mono _ _ _ | refine G.monoL_cons ?_ ?_)) (by kernel_rfl) (by kernel_rfl) (fun _ _ h hb => ⟨h.1.later hb, below_more h.2 hb⟩) ⟨hi.later (Below.refl _ _).drew, hw.drew⟩ ?_ ?_
    · intro KC
      refine G.stepsL_cons (fun a u hc hdd hd hk hdep => ?_) ?_
      ·
        have d1 : (a.tmps[1]?).getD undef = (.pointer (some ⟨w.heap.size, 0, none⟩)) := hk 1 (by kernel_rfl)
        refine G.step_val KC KD hc hdd rfl (.pointer (some ⟨w.heap.size, 2, none⟩)) u (G.wanted_plain rfl) ?_ rfl (Below.refl _ _)
        first | (go_simp; done) | rfl | (simp [go_sem, *]; done)
      refine G.stepsL_cons (fun a u hc hdd hd hk hdep => ?_) ?_
      ·
        have d9 : (a.tmps[9]?).getD undef = (.pointer (some ⟨w.heap.size, 2, none⟩)) := hdep ⟨0, .data⟩ (by simp) rfl
        refine G.step_val KC KD hc hdd rfl (.int .i64 ia) u (G.wanted_plain rfl) ?_ rfl (Below.refl _ _)
        obtain ⟨i0, i1, i2, i3⟩ := hc.1
        first | (go_simp; done) | rfl | (simp [go_sem, *]; done)
      refine G.stepsL_cons (fun a u hc hdd hd hk hdep => ?_) ?_
      ·
        have d1 : (a.tmps[1]?).getD undef = (.pointer (some ⟨w.heap.size, 0, none⟩)) := hk 1 (by kernel_rfl)
        refine G.step_val KC KD hc hdd rfl (.pointer (some ⟨w.heap.size, 3, none⟩)) u (G.wanted_plain rfl) ?_ rfl (Below.refl _ _)
        first | (go_simp; done) | rfl | (simp [go_sem, *]; done)
      refine G.stepsL_cons (fun a u hc hdd hd hk hdep => ?_) ?_
      ·
        have d11 : (a.tmps[11]?).getD undef = (.pointer (some ⟨w.heap.size, 3, none⟩)) := hdep ⟨2, .data⟩ (by simp) rfl
        refine G.step_val KC KD hc hdd rfl (.int .i64 ib) u (G.wanted_plain rfl) ?_ rfl (Below.refl _ _)
        obtain ⟨i0, i1, i2, i3⟩ := hc.1
        first | (go_simp; done) | rfl | (simp [go_sem, *]; done)
      refine G.stepsL_cons (fun a u hc hdd hd hk hdep => ?_) ?_
      ·
        have d10 : (a.tmps[10]?).getD undef = (.int .i64 ia) := hdep ⟨1, .data⟩ (by simp) rfl
        have d12 : (a.tmps[12]?).getD undef = (.int .i64 ib) := hdep ⟨3, .data⟩ (by simp) rfl
        refine G.step_val KC KD hc hdd rfl (.slice (some ⟨u.heap.size, 0, none⟩) 2 2) (u.alloc (.cells #[.int .i64 ia, .int .i64 ib] 3)) (G.wanted_plain rfl) ?_ ⟨u.heap.size, rfl, isAt_two u ia ib⟩ (m1 _ _)
        first | (go_simp; done) | rfl | (simp [go_sem, *]; done)
      refine G.stepsL_cons (fun a u hc hdd hd hk hdep => ?_) ?_
      ·
        have d1 : (a.tmps[1]?).getD undef = (.pointer (some ⟨w.heap.size, 0, none⟩)) := hk 1 (by kernel_rfl)
        refine G.step_val KC KD hc hdd rfl (.pointer (some ⟨w.heap.size, 0, none⟩)) u (G.wanted_plain rfl) ?_ rfl (Below.refl _ _)
        first | (go_simp; done) | rfl | (simp [go_sem, *]; done)
      refine G.stepsL_cons (fun a u hc hdd hd hk hdep => ?_) ?_
      ·
        have d14 : (a.tmps[14]?).getD undef = (.pointer (some ⟨w.heap.size, 0, none⟩)) := hdep ⟨5, .data⟩ (by simp) rfl
        refine G.step_val KC KD hc hdd rfl (.int .i64 op) u (G.wanted_plain rfl) ?_ rfl (Below.refl _ _)
        obtain ⟨i0, i1, i2, i3⟩ := hc.1
        first | (go_simp; done) | rfl | (simp [go_sem, *]; done)
      refine G.stepsL_cons (fun a u hc hdd hd hk hdep => ?_) ?_
      ·
        have d15 : (a.tmps[15]?).getD undef = (.int .i64 op) := hdep ⟨6, .data⟩ (by simp) rfl
        refine G.step_call KC KD hc hdd rfl 13 #[.int .i64 op] (G.wanted_plain rfl) (by first | (go_simp; done) | rfl) ?_
        exact (O.out u).mono (by rintro e w' ⟨rfl, hb⟩; exact ⟨_, rfl, rfl, hb⟩)
      refine G.stepsL_cons (fun a u hc hdd hd hk hdep => ?_) ?_
      ·
        have d13' : (TwI ia ib 2) ((a.tmps[13]?).getD undef) u := hdep ⟨4, .data⟩ (by simp) rfl
        obtain ⟨g4, d13, h4⟩ := d13'
        have d16 : (a.tmps[16]?).getD undef = (.int .i64 1) := hdep ⟨7, .data⟩ (by simp) rfl
        refine G.step_val KC KD hc hdd rfl (.slice (some ⟨g4, 0, none⟩) 1 2) u (G.wanted_plain rfl) ?_ ⟨g4, rfl, h4⟩ (Below.refl _ _)
        first | (go_simp; done) | rfl | (simp [go_sem, *]; done)
      refine G.stepsL_cons (fun a u hc hdd hd hk hdep => ?_) ?_
      ·
        have d17' : (TwI ia ib 1) ((a.tmps[17]?).getD undef) u := hdep ⟨8, .data⟩ (by simp) rfl
        obtain ⟨g8, d17, h8⟩ := d17'
        refine G.step_val KC KD hc hdd rfl (.slice (some ⟨g8, 0, none⟩) 1 2) u (G.wanted_plain rfl) ?_ ⟨g8, rfl, h8⟩ (Below.refl _ _)
        first | (go_simp; done) | rfl | (simp [go_sem, *]; done)
      exact G.stepsL_nil
    intro vs' wN hN hh
    obtain ⟨g, e9, h9⟩ : TwI ia ib 1 (vs' 9) wN := by
      obtain ⟨-, -, -, -, -, -, -, -, -, eX, -⟩ := hh
      exact eX
    clear hh
    set_option maxRecDepth 100000 in simp only [List.take_succ_cons, List.take_zero, putAll, Act.put, List.setIfInBounds_toArray, List.set_cons_zero, List.set_cons_succ, Nat.reduceAdd, e9]
    obtain ⟨-, hB⟩ := hN
    go_wp2
    go_ret
    exact ⟨some ⟨g, 0, none⟩, 2, rfl, h9.take 1, hB⟩
  · go_enter Try.func14, Try.ntmps14
    go_upto_region 3 with (fail)
    clear i0
    generalize w.alloc (.cells #[.int .i64 op, .int .i64 d, .int .i64 ia, .int .i64 ib] 42) = u0 at *
    have KD := G.keepsD_true []
    refine G.region_words (fun w' => InsAt w' w.heap.size (op, d, ia, ib) ∧ Below w.heap.size w w') [G.isW (.pointer (some ⟨w.heap.size, 2, none⟩)), G.isW (.int .i64 ia), G.isW (.pointer (some ⟨w.heap.size, 3, none⟩)), G.isW (.int .i64 ib), TwI ia ib 2, G.isW (.pointer (some ⟨w.heap.size, 0, none⟩)), G.isW (.int .i64 op), G.isW (.int .i64 2), TwI ia ib 2, TwI ia ib 2] (by kernel_rfl) (by repeat' (first | exact G.monoL_nil | exact G.is_mono _ | exact G.any_mono | exact twi_mono _ _ _ | refine G.monoL_cons ?_ ?_)) (by kernel_rfl) (by kernel_rfl) (fun _ _ h hb => ⟨h.1.later hb, below_more h.2 hb⟩) ⟨hi.later (Below.refl _ _).drew, hw.drew⟩ ?_ ?_
    · intro KC
      refine G.stepsL_cons (fun a u hc hdd hd hk hdep => ?_) ?_
      ·
        have d1 : (a.tmps[1]?).getD undef = (.pointer (some ⟨w.heap.size, 0, none⟩)) := hk 1 (by kernel_rfl)
        refine G.step_val KC KD hc hdd rfl (.pointer (some ⟨w.heap.size, 2, none⟩)) u (G.wanted_plain rfl) ?_ rfl (Below.refl _ _)
        first | (go_simp; done) | rfl | (simp [go_sem, *]; done)
      refine G.stepsL_cons (fun a u hc hdd hd hk hdep => ?_) ?_
      ·
        have d9 : (a.tmps[9]?).getD undef = (.pointer (some ⟨w.heap.size, 2, none⟩)) := hdep ⟨0, .data⟩ (by simp) rfl
        refine G.step_val KC KD hc hdd rfl (.int .i64 ia) u (G.wanted_plain rfl) ?_ rfl (Below.refl _ _)
        obtain ⟨i0, i1, i2, i3⟩ := hc.1
        first | (go_simp; done) | rfl | (simp [go_sem, *]; done)
      refine G.stepsL_cons (fun a u hc hdd hd hk hdep => ?_) ?_
      ·
        have d1 : (a.tmps[1]?).getD undef = (.pointer (some ⟨w.heap.size, 0, none⟩)) := hk 1 (by kernel_rfl)
        refine G.step_val KC KD hc hdd rfl (.pointer (some ⟨w.heap.size, 3, none⟩)) u (G.wanted_plain rfl) ?_ rfl (Below.refl _ _)
        first | (go_simp; done) | rfl | (simp [go_sem, *]; done)
      refine G.stepsL_cons (fun a u hc hdd hd hk hdep => ?_) ?_
      ·
        have d11 : (a.tmps[11]?).getD undef = (.pointer (some ⟨w.heap.size, 3, none⟩)) := hdep ⟨2, .data⟩ (by simp) rfl
        refine G.step_val KC KD hc hdd rfl (.int .i64 ib) u (G.wanted_plain rfl) ?_ rfl (Below.refl _ _)
        obtain ⟨i0, i1, i2, i3⟩ := hc.1
        first | (go_simp; done) | rfl | (simp [go_sem, *]; done)
      refine G.stepsL_cons (fun a u hc hdd hd hk hdep => ?_) ?_
      ·
        have d10 : (a.tmps[10]?).getD undef = (.int .i64 ia) := hdep ⟨1, .data⟩ (by simp) rfl
        have d12 : (a.tmps[12]?).getD undef = (.int .i64 ib) := hdep ⟨3, .data⟩ (by simp) rfl
        refine G.step_val KC KD hc hdd rfl (.slice (some ⟨u.heap.size, 0, none⟩) 2 2) (u.alloc (.cells #[.int .i64 ia, .int .i64 ib] 3)) (G.wanted_plain rfl) ?_ ⟨u.heap.size, rfl, isAt_two u ia ib⟩ (m1 _ _)
        first | (go_simp; done) | rfl | (simp [go_sem, *]; done)
      refine G.stepsL_cons (fun a u hc hdd hd hk hdep => ?_) ?_
      ·
        have d1 : (a.tmps[1]?).getD undef = (.pointer (some ⟨w.heap.size, 0, none⟩)) := hk 1 (by kernel_rfl)
        refine G.step_val KC KD hc hdd rfl (.pointer (some ⟨w.heap.size, 0, none⟩)) u (G.wanted_plain rfl) ?_ rfl (Below.refl _ _)
        first | (go_simp; done) | rfl | (simp [go_sem, *]; done)
      refine G.stepsL_cons (fun a u hc hdd hd hk hdep => ?_) ?_
      ·
        have d14 : (a.tmps[14]?).getD undef = (.pointer (some ⟨w.heap.size, 0, none⟩)) := hdep ⟨5, .data⟩ (by simp) rfl
        refine G.step_val KC KD hc hdd rfl (.int .i64 op) u (G.wanted_plain rfl) ?_ rfl (Below.refl _ _)
        obtain ⟨i0, i1, i2, i3⟩ := hc.1
        first | (go_simp; done) | rfl | (simp [go_sem, *]; done)
      refine G.stepsL_cons (fun a u hc hdd hd hk hdep => ?_) ?_
      ·
        have d15 : (a.tmps[15]?).getD undef = (.int .i64 op) := hdep ⟨6, .data⟩ (by simp) rfl
        refine G.step_call KC KD hc hdd rfl 13 #[.int .i64 op] (G.wanted_plain rfl) (by first | (go_simp; done) | rfl) ?_
        exact (O.out u).mono (by rintro e w' ⟨rfl, hb⟩; exact ⟨_, rfl, rfl, hb⟩)
      refine G.stepsL_cons (fun a u hc hdd hd hk hdep => ?_) ?_
      ·
        have d13' : (TwI ia ib 2) ((a.tmps[13]?).getD undef) u := hdep ⟨4, .data⟩ (by simp) rfl
        obtain ⟨g4, d13, h4⟩ := d13'
        have d16 : (a.tmps[16]?).getD undef = (.int .i64 2) := hdep ⟨7, .data⟩ (by simp) rfl
        refine G.step_val KC KD hc hdd rfl (.slice (some ⟨g4, 0, none⟩) 2 2) u (G.wanted_plain rfl) ?_ ⟨g4, rfl, h4⟩ (Below.refl _ _)
        first | (go_simp; done) | rfl | (simp [go_sem, *]; done)
      refine G.stepsL_cons (fun a u hc hdd hd hk hdep => ?_) ?_
      ·
        have d17' : (TwI ia ib 2) ((a.tmps[17]?).getD undef) u := hdep ⟨8, .data⟩ (by simp) rfl
        obtain ⟨g8, d17, h8⟩ := d17'
        refine G.step_val KC KD hc hdd rfl (.slice (some ⟨g8, 0, none⟩) 2 2) u (G.wanted_plain rfl) ?_ ⟨g8, rfl, h8⟩ (Below.refl _ _)
        first | (go_simp; done) | rfl | (simp [go_sem, *]; done)
      exact G.stepsL_nil
    intro vs' wN hN hh
    obtain ⟨g, e9, h9⟩ : TwI ia ib 2 (vs' 9) wN := by
      obtain ⟨-, -, -, -, -, -, -, -, -, eX, -⟩ := hh
      exact eX
    clear hh
    set_option maxRecDepth 100000 in simp only [List.take_succ_cons, List.take_zero, putAll, Act.put, List.setIfInBounds_toArray, List.set_cons_zero, List.set_cons_succ, Nat.reduceAdd, e9]
    obtain ⟨-, hB⟩ := hN
    go_wp2
    go_ret
    exact ⟨some ⟨g, 0, none⟩, 2, rfl, h9.take 2, hB⟩
end Go.Proofs.Yteniipolcdnmfaa
namespace Go.Proofs.Yteniipolcdnmfaa
open Go.ChangeShapes Go.WideShapes Go.ChangeAt Go.RowKit Go.Fl
set_option linter.unusedVariables false
set_option linter.unusedSimpArgs false

def cellsI (l : List I4) : List Value := l.flatMap fun x => [.int .i64 x.1, .int .i64 x.2.1, .int .i64 x.2.2.1, .int .i64 x.2.2.2]
theorem cellsI_length (l : List I4) : (cellsI l).length = l.length * 4 := by
  induction l with
  | nil => rfl
  | cons x xs ih => simp [cellsI] at ih ⊢; omega
theorem cellsI_append (l m : List I4) : cellsI (l ++ m) = cellsI l ++ cellsI m := by simp [cellsI]
theorem cellsI_at (l : List I4) : ∀ (i : Nat) (x : I4), l[i]? = some x → (cellsI l)[i * 4]? = some (.int .i64 x.1) ∧ (cellsI l)[i * 4 + 1]? = some (.int .i64 x.2.1) ∧ (cellsI l)[i * 4 + 2]? = some (.int .i64 x.2.2.1) ∧ (cellsI l)[i * 4 + 3]? = some (.int .i64 x.2.2.2) := by
  induction l with
  | nil => intro i x h; simp at h
  | cons v vs ih =>
    intro i x h
    cases i with
    | zero => simp at h; subst h; exact ⟨rfl, rfl, rfl, rfl⟩
    | succ i =>
      have := ih i x (by simpa using h)
      rw [show (i + 1) * 4 = i * 4 + 4 by omega]
      exact this
theorem cellsI_get (l : List I4) : ∀ (j : Nat) (u : Value), (cellsI l)[j]? = some u → ∃ (i : Nat) (x : I4), l[i]? = some x ∧ ((j = i * 4 ∧ u = .int .i64 x.1) ∨ (j = i * 4 + 1 ∧ u = .int .i64 x.2.1) ∨ (j = i * 4 + 2 ∧ u = .int .i64 x.2.2.1) ∨ (j = i * 4 + 3 ∧ u = .int .i64 x.2.2.2)) := by
  induction l with
  | nil => intro j u h; simp [cellsI] at h
  | cons v vs ih =>
    intro j u h
    match j, h with
    | 0, h => simp [cellsI] at h; exact ⟨0, v, rfl, .inl ⟨rfl, h.symm⟩⟩
    | 1, h => simp [cellsI] at h; exact ⟨0, v, rfl, .inr (.inl ⟨rfl, h.symm⟩)⟩
    | 2, h => simp [cellsI] at h; exact ⟨0, v, rfl, .inr (.inr (.inl ⟨rfl, h.symm⟩))⟩
    | 3, h => simp [cellsI] at h; exact ⟨0, v, rfl, .inr (.inr (.inr ⟨rfl, h.symm⟩))⟩
    | j + 4, h =>
      obtain ⟨i, x, hx, hj⟩ := ih j u (by simpa [cellsI] using h)
      refine ⟨i + 1, x, by simpa using hx, ?_⟩
      rcases hj with ⟨rfl, hu⟩ | ⟨rfl, hu⟩ | ⟨rfl, hu⟩ | ⟨rfl, hu⟩
      · exact .inl ⟨by omega, hu⟩
      · exact .inr (.inl ⟨by omega, hu⟩)
      · exact .inr (.inr (.inl ⟨by omega, hu⟩))
      · exact .inr (.inr (.inr ⟨by omega, hu⟩))
theorem cellsV_get (l : List VN) : ∀ (j : Nat) (u : Value), (cellsV l)[j]? = some u → ∃ (i : Nat) (x : VN), l[i]? = some x ∧ ((j = i * 2 ∧ u = .int .i64 x.1) ∨ (j = i * 2 + 1 ∧ u = .int .u64 (x.2 : Int))) := by
  induction l with
  | nil => intro j u h; simp [cellsV] at h
  | cons v vs ih =>
    intro j u h
    match j, h with
    | 0, h => simp [cellsV] at h; exact ⟨0, v, rfl, .inl ⟨rfl, h.symm⟩⟩
    | 1, h => simp [cellsV] at h; exact ⟨0, v, rfl, .inr ⟨rfl, h.symm⟩⟩
    | j + 2, h =>
      obtain ⟨i, x, hx, hj⟩ := ih j u (by simpa [cellsV] using h)
      refine ⟨i + 1, x, by simpa using hx, ?_⟩
      rcases hj with ⟨rfl, hu⟩ | ⟨rfl, hu⟩
      · exact .inl ⟨by omega, hu⟩
      · exact .inr ⟨by omega, hu⟩
theorem addP (b off i : Nat) : (⟨b, off, none⟩ : Addr).add i = ⟨b, off + i, none⟩ := by unfold Addr.add; split <;> simp_all
theorem one_cells (l : List I4) : ∀ u ∈ cellsI l, u.oneCell' = true := by
  intro u hu
  simp only [cellsI, List.mem_flatMap] at hu
  obtain ⟨x, _, hu⟩ := hu
  simp at hu
  rcases hu with rfl | rfl | rfl | rfl <;> rfl
theorem one_cellsV (l : List VN) : ∀ u ∈ cellsV l, u.oneCell' = true := by
  intro u hu
  simp only [cellsV, List.mem_flatMap] at hu
  obtain ⟨x, _, hu⟩ := hu
  simp at hu
  rcases hu with rfl | rfl <;> rfl
theorem quad_reads {w : World} {A : Option Addr} {l : List I4} (h : QuadAt w A l) : Reads w w.heap.size 4 A l.length (cellsI l) := by
  refine ⟨cellsI_length l, fun hn => ?_⟩
  obtain ⟨b, off, rfl, hc⟩ := h hn
  have h0 := (hc 0 l[0] (List.getElem?_eq_getElem hn)).1
  refine ⟨_, rfl, mblock h0, fun j u hu => ?_⟩
  obtain ⟨i, x, hx, hj⟩ := cellsI_get l j u hu
  rw [addP]
  rcases hj with ⟨rfl, rfl⟩ | ⟨rfl, rfl⟩ | ⟨rfl, rfl⟩ | ⟨rfl, rfl⟩
  · exact (hc i x hx).1
  · rw [← Nat.add_assoc]; exact (hc i x hx).2.1
  · rw [← Nat.add_assoc]; exact (hc i x hx).2.2.1
  · rw [← Nat.add_assoc]; exact (hc i x hx).2.2.2
theorem row_reads {w : World} {A : Option Addr} {l : List VN} (h : RowV w A l.length l) : Reads w w.heap.size 2 A l.length (cellsV l) := by
  refine ⟨cellsV_length l, fun hn => ?_⟩
  obtain ⟨b, off, rfl, hc⟩ := h.2.2 hn
  have h0 := (hc 0 l[0].1 l[0].2 (List.getElem?_eq_getElem hn)).1
  refine ⟨_, rfl, mblock h0, fun j u hu => ?_⟩
  obtain ⟨i, x, hx, hj⟩ := cellsV_get l j u hu
  rw [addP]
  rcases hj with ⟨rfl, rfl⟩ | ⟨rfl, rfl⟩
  · exact (hc i x.1 x.2 hx).1
  · rw [← Nat.add_assoc]; exact (hc i x.1 x.2 hx).2
theorem own_quad {w : World} {base : Nat} {e : TypeId} {v : Value} {l : List I4} (h : w.ownsRow base e 4 v l.length (cellsI l)) : ∃ A cap, v = .slice A l.length cap ∧ QuadAt w A l := by
  by_cases z : l.length = 0
  · have hnil : l = [] := List.eq_nil_of_length_eq_zero z
    subst hnil
    rcases h.2 with ⟨rfl, _⟩ | ⟨g, cap, cur, rfl, _⟩
    · exact ⟨none, 0, rfl, QuadAt.nil _ _⟩
    · exact ⟨some ⟨g, 0, none⟩, cap, rfl, QuadAt.nil _ _⟩
  · obtain ⟨g, cap, rfl, _, _⟩ := h.form (by omega)
    have hc := h.cells (g := g) rfl
    refine ⟨_, cap, rfl, fun _ => ⟨g, 0, rfl, fun i x hi => ?_⟩⟩
    obtain ⟨h0, h1, h2, h3⟩ := cellsI_at l i x hi
    have e0 := hc _ _ h0
    have e1 := hc _ _ h1
    have e2 := hc _ _ h2
    have e3 := hc _ _ h3
    rw [addP] at e0 e1 e2 e3
    exact ⟨e0, by rw [Nat.add_assoc]; exact e1, by rw [Nat.add_assoc]; exact e2, by rw [Nat.add_assoc]; exact e3⟩
theorem infoIns : (Try.prog.info? 42).map (fun i => (i.zero, i.size, i.bytes)) = some (some (.agg #[.int .i64 0, .int .i64 0, .int .i64 0, .int .i64 0]), 4, 32) := by kernel_rfl
theorem infoInp : (Try.prog.info? 31).map (fun i => (i.zero, i.size, i.bytes)) = some (some (.agg #[.int .i64 0, .int .i64 0, .int .i64 0, .int .i64 0]), 4, 32) := by kernel_rfl
/-- the same code, in memory of its own -/
def TOut (c : CodeP) (w : World) (e : Ending) (w' : World) : Prop := ∃ v : CV, e = .returned (codeV c v) ∧ CodeIn w' c v ∧ (w'.ownsRow w.heap.size 31 4 (.slice v.xA c.ins.length v.xC) c.ins.length (cellsI c.ins) ∧ w'.ownsRow w.heap.size 34 2 (.slice v.cA c.cs.length v.cC) c.cs.length (cellsV c.cs) ∧ w'.ownsRow w.heap.size 42 4 (.slice v.lA c.list.length v.lC) c.list.length (cellsI c.list)) ∧ Below w.heap.size w w'
theorem own_off {w : World} {base : Nat} {e : TypeId} {size n : Nat} {v : Value} {xs : List Value} (h : w.ownsRow base e size v n xs) {g : Nat} (hg : g < base) : v.ownBlock ≠ some g := fun e => by
  have := (h.lt g e).1
  omega
theorem mown_grow {w w1 : World} {row : Option Nat} {base : Nat} {e : TypeId} {size n : Nat} {v : Value} {xs : List Value} (h : w.ownsRow base e size v n xs) (hg : w.grownBy w1 row) (hr : row = none) : w1.ownsRow base e size v n xs := by
  subst hr
  exact h.kept hg (Classical.em _)
theorem own_quadS {w : World} {base n cap : Nat} {e : TypeId} {A : Option Addr} {l : List I4} (h : w.ownsRow base e 4 (.slice A n cap) l.length (cellsI l)) : QuadAt w A l := by
  obtain ⟨A', c', he, hq⟩ := own_quad h
  injection he with h1
  rw [h1]; exact hq
theorem own_rowS {w : World} {base n cap : Nat} {e : TypeId} {A : Option Addr} {l : List VN} (h : w.ownsRow base e 2 (.slice A n cap) l.length (cellsV l)) (hb : ∀ v ∈ l, v.2 < 18446744073709551616) : RowV w A l.length l := by
  obtain ⟨A', c', he, hq⟩ := own_row h hb
  injection he with h1
  rw [h1]; exact hq
end Go.Proofs.Yteniipolcdnmfaa
namespace Go.Proofs.Yteniipolcdnmfaa
open Go.ChangeShapes Go.WideShapes Go.ChangeAt Go.RowKit Go.Fl
set_option linter.unusedVariables false
set_option linter.unusedSimpArgs false

/-- what a map of yeses holds is what has been written -/
def RelB (f : Int → Option Value) (s : Int → Bool) : Prop := ∀ i, (f i).getD (.bool false) = .bool (s i)
theorem RelB.none : RelB (fun _ => Option.none) (fun _ => false) := fun _ => rfl
theorem RelB.put {f : Int → Option Value} {s : Int → Bool} (h : RelB f s) (i : Int) : RelB (iput f i (.bool true)) (putB s i) := fun j => by
  unfold iput putB
  by_cases e : j = i
  · simp [e]
  · simp only [e, if_false, decide_false, Bool.false_or]; exact h j
theorem infoBB : ∃ j, Try.prog.info? 4 = some j ∧ j.zero = some (.bool false) := by
  have h : (Try.prog.info? 4).map (·.zero) = some (some (.bool false)) := by kernel_rfl
  cases hj : Try.prog.info? 4 with
  | none => rw [hj] at h; cases h
  | some j => rw [hj] at h; injection h with h; exact ⟨j, rfl, h⟩
theorem lookB {f : Int → Option Value} {s : Int → Bool} {u : World} {r : Nat} (h : IMap u r f) (hr : RelB f s) (x : Int) :
    (Instr.lookup 44 (.map (some r)) (.int .i64 x) false).run Try.prog u = .ok (.bool (s x)) u := by
  obtain ⟨j, h1, h2⟩ := infoBB
  rw [run_lookup_I (P := Try.prog) Try.underlying44 Try.underlying3 h1 h2 h x, hr x]
theorem upB {f : Int → Option Value} {u : World} {r : Nat} (h : IMap u r f) (x : Int) :
    ∃ u', (Instr.mapUpdate 44 (.map (some r)) (.int .i64 x) (.bool true)).run Try.prog u = .ok () u' ∧ IMap u' r (iput f x (.bool true)) ∧ u.grownBy u' (some r) :=
  run_update_I (P := Try.prog) Try.underlying44 Try.underlying3 h x (.bool true)
/-- what one instruction answers to -/
def stepG (c : CodeP) (last : Bool) (s : WrS) (x : I4) : Bool := (last == decide (x.1 = 52)) && formedB x && thereB c x && hasB s x
/-- where the code, the maps lie -/
structure DJ (w : World) (c : CodeP) (v : CV) (rR rS : Nat) (u : World) : Prop where
  code : CodeAt u w.heap.size c v
  mR : ∃ f, IMap u rR f
  mS : ∃ f, IMap u rS f
  bel : Below w.heap.size w u
/-- so far all is right: what has been written is what the maps hold, slots that are there alone -/
def DS (c : CodeP) (rR rS : Nat) (s : WrS) (u : World) : Prop := (∃ f, IMap u rR f ∧ RelB f s.1) ∧ (∃ f, IMap u rS f ∧ RelB f s.2) ∧ ∀ a, s.2 a = true → 0 ≤ a ∧ a < c.slots
theorem DJ.later {w u u1 : World} {c : CodeP} {v : CV} {rR rS : Nat} (h : DJ w c v rR rS u) (hb : Below u.heap.size u u1) : DJ w c v rR rS u1 := by
  obtain ⟨f, hf⟩ := h.mR
  obtain ⟨g, hg⟩ := h.mS
  exact ⟨h.code.later hb, ⟨f, hf.later hb⟩, ⟨g, hg.later hb⟩, below_more h.bel hb⟩
theorem DS.later {c : CodeP} {rR rS : Nat} {s : WrS} {u u1 : World} (h : DS c rR rS s u) (hb : Below u.heap.size u u1) : DS c rR rS s u1 := by
  obtain ⟨⟨f, hf, h1⟩, ⟨g, hg, h2⟩, h3⟩ := h
  exact ⟨⟨f, hf.later hb, h1⟩, ⟨g, hg.later hb, h2⟩, h3⟩
theorem DJ.put {w u u1 : World} {c : CodeP} {v : CV} {rR rS r : Nat} {f : Int → Option Value} (h : DJ w c v rR rS u) (hM : IMap u1 r f) (hG : u.grownBy u1 (some r)) (hr : r = rR ∨ r = rS) (h1 : w.heap.size + 1 ≤ rR ∧ w.heap.size + 1 ≤ rS) : DJ w c v rR rS u1 := by
  have hlt : w.heap.size < r := by omega
  have cel : ∀ i x, u.cell? ⟨w.heap.size, i, none⟩ = some x → u1.cell? ⟨w.heap.size, i, none⟩ = some x := fun i x hv => hG.cell hv (by simp; omega)
  obtain ⟨a0, a1, a2, a3, a4⟩ := h.code
  obtain ⟨fR, hR⟩ := h.mR
  obtain ⟨fS, hS⟩ := h.mS
  refine ⟨⟨cel _ _ a0, cel _ _ a1, cel _ _ a2, cel _ _ a3, cel _ _ a4⟩, ?_, ?_, ⟨hG.os.trans h.bel.os, hG.tape.trans h.bel.tape, hG.output.trans h.bel.output, Nat.le_trans h.bel.size hG.size, fun k hk => (hG.block k (Nat.lt_of_lt_of_le hk h.bel.size) (by simp; omega)).trans (h.bel.block k hk)⟩⟩
  · by_cases e : rR = r
    · exact ⟨f, e ▸ hM⟩
    · exact ⟨fR, hR.grown hG (by simp; exact e)⟩
  · by_cases e : rS = r
    · exact ⟨f, e ▸ hM⟩
    · exact ⟨fS, hS.grown hG (by simp; exact e)⟩
theorem DS.putR {c : CodeP} {rR rS : Nat} {s : WrS} {u u1 : World} {f : Int → Option Value} (h2 : ∃ g, IMap u rS g ∧ RelB g s.2) (h3 : ∀ a, s.2 a = true → 0 ≤ a ∧ a < c.slots) (hr : RelB f s.1) {i : Int} (hM : IMap u1 rR (iput f i (.bool true))) (hG : u.grownBy u1 (some rR)) (hne : rR ≠ rS) : DS c rR rS (putB s.1 i, s.2) u1 := by
  obtain ⟨g, hg, hs⟩ := h2
  exact ⟨⟨_, hM, hr.put i⟩, ⟨g, hg.grown hG (by simp; exact fun e => hne e.symm), hs⟩, h3⟩
theorem DS.putS {c : CodeP} {rR rS : Nat} {s : WrS} {u u1 : World} {f : Int → Option Value} (h1 : ∃ g, IMap u rR g ∧ RelB g s.1) (h3 : ∀ a, s.2 a = true → 0 ≤ a ∧ a < c.slots) (hr : RelB f s.2) {i : Int} (hi : 0 ≤ i ∧ i < c.slots) (hM : IMap u1 rS (iput f i (.bool true))) (hG : u.grownBy u1 (some rS)) (hne : rR ≠ rS) : DS c rR rS (s.1, putB s.2 i) u1 := by
  obtain ⟨g, hg, hs⟩ := h1
  refine ⟨⟨g, hg.grown hG (by simp; exact hne), hs⟩, ⟨_, hM, hr.put i⟩, fun a ha => ?_⟩
  unfold putB at ha
  simp only [Bool.or_eq_true, decide_eq_true_eq] at ha
  rcases ha with rfl | ha
  · exact hi
  · exact h3 a ha
theorem all_snoc (l : List Int) (k : Nat) (z : Int) (s : Int → Bool) (h : l[k]? = some z) : (l.take (k + 1)).all s = ((l.take k).all s && s z) := by
  rw [List.take_add_one, h, List.all_append]; simp
theorem any_snoc {α : Type} (l : List α) (k : Nat) (z : α) (p : α → Bool) (h : l[k]? = some z) : (l.take (k + 1)).all p = ((l.take k).all p && p z) := by
  rw [List.take_add_one, h, List.all_append]; simp
theorem goodL_step (c : CodeP) (s : WrS) (l : List I4) (k : Nat) (x : I4) (h : l[k]? = some x) (hl : (l.drop (k + 1) = []) ↔ k + 1 = l.length) :
    goodL c s (l.drop k) = (stepG c (decide (k + 1 = l.length)) s x && goodL c (noteP s x) (l.drop (k + 1))) := by
  obtain ⟨hk, e⟩ := List.getElem?_eq_some_iff.1 h
  rw [List.drop_eq_getElem_cons hk, e]
  show ((decide (l.drop (k + 1) = []) == decide (x.1 = 52)) && _ && _ && _ && _) = _
  rw [show decide (l.drop (k + 1) = []) = decide (k + 1 = l.length) by congr 1; exact propext hl]
  rfl
section
variable {c : CodeP} {s : WrS} {op d ia ib : Int} {lb : Bool}
theorem sg_bad1 (h : opsP op < 2) (h53 : op ≠ 53) (hb : ib ≠ 0) : stepG c lb s (op, d, ia, ib) = false := by
  have : formedB (op, d, ia, ib) = false := by
    unfold formedB
    dsimp only
    (repeat' split) <;> first | (exfalso; omega) | (simp [hb]; done) | (simp; omega)
  unfold stepG; rw [this]; simp
theorem sg_bad2 (h : lb ≠ decide (op = 52)) : stepG c lb s (op, d, ia, ib) = false := by
  unfold stepG
  have : (lb == decide (op = 52)) = false := by simpa using h
  dsimp only
  rw [this]; rfl
theorem sg_52 : stepG c true s (52, d, ia, 0) = (s.1 ia && decide (d = 0)) := by
  have e1 : formedB (52, d, ia, 0) = decide (d = 0) := by simp [formedB]
  have e2 : thereB c (52, d, ia, 0) = true := by simp [thereB, writesB, ops52]
  have e3 : hasB s (52, d, ia, 0) = s.1 ia := by simp [hasB, readsP]
  unfold stepG; rw [e1, e2, e3]; simp [Bool.and_comm]
theorem sg_53 : stepG c false s (53, d, ia, ib) = (decide (d = 0) && belowB ia c.slots && s.1 ib) := by
  have e1 : formedB (53, d, ia, ib) = decide (d = 0) := by simp [formedB]
  have e2 : thereB c (53, d, ia, ib) = belowB ia c.slots := by simp [thereB, writesB, ops53]
  have e3 : hasB s (53, d, ia, ib) = s.1 ib := by simp [hasB, readsP]
  unfold stepG; rw [e1, e2, e3]; simp
theorem sg_50 : stepG c false s (50, d, ia, 0) = (belowB d c.regs && belowB ia c.ins.length) := by
  have e1 : formedB (50, d, ia, 0) = true := by simp [formedB]
  have e2 : thereB c (50, d, ia, 0) = (belowB d c.regs && belowB ia c.ins.length) := by simp [thereB, writesB]
  have e3 : hasB s (50, d, ia, 0) = true := by simp [hasB, readsP, ops50]
  unfold stepG; rw [e1, e2, e3]; simp
theorem sg_51 : stepG c false s (51, d, ia, 0) = (belowB d c.regs && belowB ia c.cs.length) := by
  have e1 : formedB (51, d, ia, 0) = true := by simp [formedB]
  have e2 : thereB c (51, d, ia, 0) = (belowB d c.regs && belowB ia c.cs.length) := by simp [thereB, writesB]
  have e3 : hasB s (51, d, ia, 0) = true := by simp [hasB, readsP, ops51]
  unfold stepG; rw [e1, e2, e3]; simp
theorem sg_54 : stepG c false s (54, d, ia, 0) = (belowB d c.regs && belowB ia c.slots && s.2 ia) := by
  have e1 : formedB (54, d, ia, 0) = true := by simp [formedB]
  have e2 : thereB c (54, d, ia, 0) = (belowB d c.regs && belowB ia c.slots) := by simp [thereB, writesB]
  have e3 : hasB s (54, d, ia, 0) = s.2 ia := by simp [hasB, readsP, ops54]
  unfold stepG; rw [e1, e2, e3]; simp
theorem sg_op (hp : 0 < opsP op) (hb : opsP op = 1 → ib = 0) (n0 : op ≠ 50) (n1 : op ≠ 51) (n2 : op ≠ 52) (n3 : op ≠ 53) (n4 : op ≠ 54) : stepG c false s (op, d, ia, ib) = (belowB d c.regs && (readsR (op, d, ia, ib)).all s.1) := by
  have hle := ops_le op
  have e1 : formedB (op, d, ia, ib) = true := by
    unfold formedB
    rw [if_neg (by dsimp only; omega), if_neg n3, if_neg n2]
    by_cases h1 : opsP op = 1
    · rw [if_pos h1]; simpa using hb h1
    · rw [if_neg h1]; simp; omega
  have e2 : thereB c (op, d, ia, ib) = belowB d c.regs := by simp [thereB, writesB, n0, n1, n3, n4, hp]
  have e3 : hasB s (op, d, ia, ib) = (readsR (op, d, ia, ib)).all s.1 := by simp [hasB, readsP, readsR, n2, n3, n4]
  have e4 : (false == decide (op = 52)) = true := by simp [n2]
  unfold stepG; dsimp only; rw [e1, e2, e3, e4]; simp
theorem sg_none (hp : opsP op = 0) (n0 : op ≠ 50) (n1 : op ≠ 51) (n2 : op ≠ 52) (n3 : op ≠ 53) (n4 : op ≠ 54) : stepG c lb s (op, d, ia, ib) = false := by
  have e1 : formedB (op, d, ia, ib) = false := by
    unfold formedB
    rw [if_neg (by dsimp only; omega), if_neg n3, if_neg n2, if_neg (by dsimp only; omega)]
    simp [hp]
  unfold stepG; rw [e1]; simp
theorem nt_53 : noteP s (53, d, ia, ib) = (s.1, putB s.2 ia) := rfl
theorem nt_w (n3 : op ≠ 53) (hw : writesB op = true) : noteP s (op, d, ia, ib) = (putB s.1 d, s.2) := by
  unfold noteP
  rw [if_neg n3, if_pos hw]
end
theorem slot4_keeps : G.KeepsD (fun (a : Act) (_ : World) => (a.tmps[4]?).getD undef = .bool true) [4] := fun a d v w w' h _ hL => by
  have hd : d ≠ some 4 := fun e => by subst e; simp at hL
  cases d with
  | none => exact h
  | some d =>
    have : ¬ d = 4 := fun e => hd (by rw [e])
    unfold Act.put
    simp [this]
    simpa using h
theorem bdrewQ {B : Nat} {a w : World} (h : Below B a w) (n : Nat) : Below B a (w.drewN n) := ⟨h.os, h.tape, h.output, h.size, h.block⟩
end Go.Proofs.Yteniipolcdnmfaa
namespace Go.Proofs.Yteniipolcdnmfaa
open Go.ChangeShapes Go.WideShapes Go.ChangeAt Go.RowKit Go.Fl
set_option linter.unusedVariables false
set_option linter.unusedSimpArgs false

/-- what an instruction of plain code is like, k of them standing ahead -/
structure PIns (c : CodeP) (k : Nat) (op d a b : Int) : Prop where
  tell : ((k : Int) = c.regs) ↔ op = 52
  endD : (k : Int) = c.regs → d = 0
  midD : (k : Int) ≠ c.regs → d = (k : Int)
  noB : opsP op < 2 → b = 0
  a0 : 0 ≤ a
  b0 : 0 ≤ b
  opA : 0 < opsP op → a < (k : Int) ∧ b < (k : Int)
  endA : (k : Int) = c.regs → a < (k : Int)
  insA : op = 50 → a < (c.ins.length : Int)
  conA : op = 51 → a < (c.cs.length : Int)
  known : opsP op = 0 → op = 50 ∨ op = 51 ∨ op = 52
def PlainC (c : CodeP) : Prop := c.slots = 0 ∧ 1 ≤ c.regs ∧ (c.list.length : Int) - 1 = c.regs ∧ ∀ (k : Nat) (x : I4), c.list[k]? = some x → PIns c k x.1 x.2.1 x.2.2.1 x.2.2.2
/-- what stands ahead of a place is such -/
def PlainTo (c : CodeP) (n : Nat) : Prop := ∀ (k : Nat) (x : I4), k < n → c.list[k]? = some x → PIns c k x.1 x.2.1 x.2.2.1 x.2.2.2
/-- the registers that an instruction reads (the document's list) -/
def rdsP (x : I4) : List Int := if x.1 = 52 then [x.2.2.1] else [x.2.2.1, x.2.2.2].take (opsP x.1)
/-- what is needed, one instruction taken account of -/
def needAt (f : Int → Bool) (k : Nat) (x : I4) : Int → Bool := if f (k : Int) = true then fun j => decide (j ∈ rdsP x) || f j else f
/-- and all from place k downwards (k of them) -/
def needTo (l : List I4) : Nat → (Int → Bool) → (Int → Bool)
  | 0, f => f
  | k + 1, f => needTo l k (match l[k]? with | some x => needAt f k x | none => f)
def needOf (c : CodeP) : Int → Bool := needTo c.list c.list.length fun j => decide (j = c.regs)
theorem needAt_mono (f : Int → Bool) (k : Nat) (x : I4) (j : Int) (h : f j = true) : needAt f k x j = true := by
  unfold needAt; split <;> simp [h]
theorem needTo_mono (l : List I4) : ∀ (k : Nat) (f : Int → Bool) (j : Int), f j = true → needTo l k f j = true
  | 0, _, _, h => h
  | k + 1, f, j, h => by
    unfold needTo
    refine needTo_mono l k _ j ?_
    cases l[k]? with
    | none => exact h
    | some x => exact needAt_mono f k x j h
/-- where all that is read stands ahead, a place at or above k isn't changed any more -/
theorem needTo_above (l : List I4) (hr : ∀ (k : Nat) (x : I4), l[k]? = some x → ∀ r ∈ rdsP x, r < (k : Int)) : ∀ (k : Nat) (f : Int → Bool) (j : Int), (k : Int) ≤ j + 1 → needTo l k f j = f j
  | 0, _, _, _ => rfl
  | k + 1, f, j, h => by
    unfold needTo
    rw [needTo_above l hr k _ j (by omega)]
    cases hx : l[k]? with
    | none => rfl
    | some x =>
      show needAt f k x j = f j
      unfold needAt
      split
      · have : ¬ j ∈ rdsP x := fun hm => by have := hr k x hx j hm; omega
        simp [this]
      · rfl
/-- what a needed instruction reads is needed -/
theorem needTo_closed (l : List I4) (hr : ∀ (k : Nat) (x : I4), l[k]? = some x → ∀ r ∈ rdsP x, r < (k : Int)) : ∀ (n : Nat) (f : Int → Bool) (k : Nat) (x : I4), k < n → l[k]? = some x → needTo l n f (k : Int) = true → ∀ r ∈ rdsP x, needTo l n f r = true
  | 0, _, _, _, h, _, _, _, _ => absurd h (by omega)
  | n + 1, f, k, x, h, hx, hn, r, hm => by
    unfold needTo at hn ⊢
    by_cases e : k = n
    · subst e
      rw [hx] at hn ⊢
      rw [needTo_above l hr k _ _ (by omega)] at hn
      refine needTo_mono l k _ r ?_
      have hf : f (k : Int) = true := by
        replace hn : needAt f k x (k : Int) = true := hn
        unfold needAt at hn
        cases hf : f (k : Int) with
        | true => rfl
        | false => rw [if_neg (by rw [hf]; simp)] at hn; rw [hf] at hn; exact hn
      show needAt f k x r = true
      unfold needAt
      rw [if_pos hf]
      simp [hm]
    · exact needTo_closed l hr n _ k x (by omega) hx hn r hm
theorem rds_lt {c : CodeP} (h : PlainC c) (k : Nat) (x : I4) (hx : c.list[k]? = some x) (r : Int) (hm : r ∈ rdsP x) : 0 ≤ r ∧ r < (k : Int) := by
  have p := h.2.2.2 k x hx
  unfold rdsP at hm
  by_cases e : x.1 = 52
  · rw [if_pos e] at hm
    simp at hm
    subst hm
    exact ⟨p.a0, p.endA (p.tell.2 e)⟩
  · rw [if_neg e] at hm
    rcases Nat.lt_or_ge 0 (opsP x.1) with h0 | h0
    · have hm' : r ∈ [x.2.2.1, x.2.2.2] := List.mem_of_mem_take hm
      have := p.opA h0
      simp at hm'
      rcases hm' with rfl | rfl
      · exact ⟨p.a0, this.1⟩
      · exact ⟨p.b0, this.2⟩
    · rw [show opsP x.1 = 0 by omega] at hm
      simp at hm
theorem need_end {c : CodeP} : needOf c c.regs = true := needTo_mono _ _ _ _ (by simp)
theorem need_reads {c : CodeP} (h : PlainC c) (k : Nat) (x : I4) (hx : c.list[k]? = some x) (hn : needOf c (k : Int) = true) (r : Int) (hm : r ∈ rdsP x) : needOf c r = true :=
  needTo_closed c.list (fun k x hx r hm => (rds_lt h k x hx r hm).2) _ _ k x (List.getElem?_eq_some_iff.1 hx).1 hx hn r hm
end Go.Proofs.Yteniipolcdnmfaa
namespace Go.Proofs.Yteniipolcdnmfaa
open Go.ChangeShapes Go.WideShapes Go.ChangeAt Go.RowKit Go.Fl
set_option linter.unusedVariables false
set_option linter.unusedSimpArgs false

/-- a list with a thing behind it, unless it is there -/
def putP {α : Type} [DecidableEq α] (l : List α) (x : α) : List α := if x ∈ l then l else l ++ [x]
/-- its place there -/
def plcP {α : Type} [DecidableEq α] (l : List α) (x : α) : Nat := l.idxOf x
theorem putP_at {α : Type} [DecidableEq α] (l : List α) (x : α) : (putP l x)[plcP l x]? = some x := by
  unfold putP plcP
  split
  · rename_i h
    rw [List.getElem?_eq_getElem (List.idxOf_lt_length_of_mem h)]
    rw [List.getElem_idxOf]
  · rename_i h
    rw [List.idxOf_eq_length h]
    simp
theorem putP_pre {α : Type} [DecidableEq α] (l : List α) (x : α) : l <+: putP l x := by
  unfold putP
  split
  · exact List.prefix_refl l
  · exact List.prefix_append l [x]
theorem putP_len {α : Type} [DecidableEq α] (l : List α) (x : α) : (putP l x).length ≤ l.length + 1 := by
  unfold putP; split <;> simp
/-- what is written so far: what registers became; inputs, constants, instructions -/
structure DrS where
  bec : Int → Int
  ins : List I4
  cs : List VN
  list : List I4
def inAt (c : CodeP) (a : Int) : I4 := (c.ins[a.toNat]?).getD (0, 0, 0, 0)
def csAt (c : CodeP) (a : Int) : VN := (c.cs[a.toNat]?).getD (0, 0)
def drA (c : CodeP) (s : DrS) (x : I4) : Int := if x.1 = 51 then (plcP s.cs (csAt c x.2.2.1) : Int) else if x.1 = 50 then (plcP s.ins (inAt c x.2.2.1) : Int) else s.bec x.2.2.1
def drB (s : DrS) (x : I4) : Int := if opsP x.1 = 2 then s.bec x.2.2.2 else 0
def drPut (c : CodeP) (s : DrS) (k : Nat) (x : I4) : DrS :=
  ⟨fun j => if j = (k : Int) then (s.list.length : Int) else s.bec j, if x.1 = 50 then putP s.ins (inAt c x.2.2.1) else s.ins, if x.1 = 51 then putP s.cs (csAt c x.2.2.1) else s.cs, s.list ++ [(x.1, (s.list.length : Int), drA c s x, drB s x)]⟩
def drStep (c : CodeP) (s : DrS) (k : Nat) (x : I4) : DrS := if needOf c (k : Int) = true then drPut c s k x else s
def drTo (c : CodeP) : Nat → DrS
  | 0 => ⟨fun _ => 0, [], [], []⟩
  | k + 1 => match c.list[k]? with | some x => drStep c (drTo c k) k x | none => drTo c k
def endD (l : List I4) : List I4 := match l[l.length - 1]? with | some x => l.set (l.length - 1) (x.1, 0, x.2.2.1, x.2.2.2) | none => l
def drOf (c : CodeP) : CodeP := ⟨((drTo c c.list.length).list.length : Int) - 1, 0, (drTo c c.list.length).ins, (drTo c c.list.length).cs, endD (drTo c c.list.length).list⟩
theorem drTo_at (c : CodeP) (k : Nat) (x : I4) (h : c.list[k]? = some x) : drTo c (k + 1) = drStep c (drTo c k) k x := by
  show (match c.list[k]? with | some x => drStep c (drTo c k) k x | none => drTo c k) = _
  rw [h]
theorem drStep_pre (c : CodeP) (s : DrS) (k : Nat) (x : I4) : s.ins <+: (drStep c s k x).ins ∧ s.cs <+: (drStep c s k x).cs ∧ s.list <+: (drStep c s k x).list := by
  unfold drStep
  split
  · refine ⟨?_, ?_, List.prefix_append _ _⟩
    · show s.ins <+: if x.1 = 50 then _ else _
      split
      · exact putP_pre _ _
      · exact List.prefix_refl _
    · show s.cs <+: if x.1 = 51 then _ else _
      split
      · exact putP_pre _ _
      · exact List.prefix_refl _
  · exact ⟨List.prefix_refl _, List.prefix_refl _, List.prefix_refl _⟩
theorem drTo_pre1 (c : CodeP) (k : Nat) : (drTo c k).ins <+: (drTo c (k + 1)).ins ∧ (drTo c k).cs <+: (drTo c (k + 1)).cs ∧ (drTo c k).list <+: (drTo c (k + 1)).list := by
  cases h : c.list[k]? with
  | none =>
    have : drTo c (k + 1) = drTo c k := by
      show (match c.list[k]? with | some x => drStep c (drTo c k) k x | none => drTo c k) = _
      rw [h]
    rw [this]
    exact ⟨List.prefix_refl _, List.prefix_refl _, List.prefix_refl _⟩
  | some x => rw [drTo_at c k x h]; exact drStep_pre c _ k x
theorem drTo_pre (c : CodeP) (k : Nat) : ∀ m, (drTo c k).ins <+: (drTo c (k + m)).ins ∧ (drTo c k).cs <+: (drTo c (k + m)).cs ∧ (drTo c k).list <+: (drTo c (k + m)).list
  | 0 => ⟨List.prefix_refl _, List.prefix_refl _, List.prefix_refl _⟩
  | m + 1 => by
    have h1 := drTo_pre c k m
    have h2 := drTo_pre1 c (k + m)
    exact ⟨h1.1.trans h2.1, h1.2.1.trans h2.2.1, h1.2.2.trans h2.2.2⟩
theorem drTo_len (c : CodeP) : ∀ k, (drTo c k).ins.length ≤ k ∧ (drTo c k).cs.length ≤ k ∧ (drTo c k).list.length ≤ k
  | 0 => ⟨Nat.le_refl _, Nat.le_refl _, Nat.le_refl _⟩
  | k + 1 => by
    have h := drTo_len c k
    cases hx : c.list[k]? with
    | none =>
      have : drTo c (k + 1) = drTo c k := by
        show (match c.list[k]? with | some x => drStep c (drTo c k) k x | none => drTo c k) = _
        rw [hx]
      rw [this]
      omega
    | some x =>
      rw [drTo_at c k x hx]
      unfold drStep
      split
      · refine ⟨?_, ?_, ?_⟩
        · show (if x.1 = 50 then _ else _ : List I4).length ≤ _
          split
          · have := putP_len (drTo c k).ins (inAt c x.2.2.1); omega
          · omega
        · show (if x.1 = 51 then _ else _ : List VN).length ≤ _
          split
          · have := putP_len (drTo c k).cs (csAt c x.2.2.1); omega
          · omega
        · show (_ ++ [_] : List I4).length ≤ _
          simp; omega
      · omega
theorem pre_at {α : Type} {a b : List α} (h : a <+: b) {i : Nat} {x : α} (hx : a[i]? = some x) : b[i]? = some x := by
  obtain ⟨t, rfl⟩ := h
  rw [List.getElem?_append_left (List.getElem?_eq_some_iff.1 hx).1]; exact hx
/-- an input is there twice -/
def Twice (c : CodeP) : Prop := ∃ i k : Nat, k < i ∧ i < c.ins.length ∧ c.ins[i]? = c.ins[k]?
/-- what is handed over for an input: the last that the document's loop meets, going down from place k -/
def lookTo (ci : List I4) (inputs : List VN) (x : I4) : Nat → VN → VN
  | 0, v => v
  | k + 1, v => lookTo ci inputs x k (if ci[k]? = some x ∧ k < inputs.length then rdV inputs (k : Int) else v)
def lookI (c : CodeP) (inputs : List VN) (x : I4) : VN := lookTo c.ins inputs x c.ins.length (0, 0)
def leftOf (c : CodeP) (inputs : List VN) : List VN := (drOf c).ins.map (lookI c inputs)
theorem rdV_nat (l : List VN) (k : Nat) : rdV l (k : Int) = (l[k]?).getD (0, 0) := by
  unfold rdV; rw [if_pos (by omega), Int.toNat_natCast]
theorem lookTo_one (ci : List I4) (inputs : List VN) (x : I4) (j : Nat) (hj : ci[j]? = some x) (hd : ∀ i k : Nat, k < i → i < ci.length → ci[i]? ≠ ci[k]?) : ∀ (n : Nat) (v : VN), n ≤ ci.length →
    lookTo ci inputs x n v = if j < n ∧ j < inputs.length then rdV inputs (j : Int) else v
  | 0, v, _ => by simp [lookTo]
  | n + 1, v, hn => by
    unfold lookTo
    rw [lookTo_one ci inputs x j hj hd n _ (by omega)]
    by_cases e : n = j
    · subst e
      rw [if_neg (by omega)]
      by_cases h : n < inputs.length
      · rw [if_pos ⟨hj, h⟩, if_pos ⟨by omega, h⟩]
      · rw [if_neg (by simp [h]), if_neg (by simp [h])]
    · have hne : ¬ (ci[n]? = some x ∧ n < inputs.length) := by
        rintro ⟨h, -⟩
        rw [← hj] at h
        have hjl := (List.getElem?_eq_some_iff.1 hj).1
        rcases Nat.lt_or_gt_of_ne e with h1 | h1
        · exact hd j n h1 hjl h.symm
        · exact hd n j h1 (by omega) h
      rw [if_neg hne]
      by_cases h : j < n ∧ j < inputs.length
      · rw [if_pos h, if_pos ⟨by omega, h.2⟩]
      · rw [if_neg h, if_neg (by omega)]
theorem lookI_one {c : CodeP} (hd : ¬ Twice c) (inputs : List VN) (j : Nat) (x : I4) (hj : c.ins[j]? = some x) : lookI c inputs x = rdV inputs (j : Int) := by
  have hjl := (List.getElem?_eq_some_iff.1 hj).1
  unfold lookI
  rw [lookTo_one c.ins inputs x j hj (fun i k h1 h2 h3 => hd ⟨i, k, h1, h2, h3⟩) _ _ (Nat.le_refl _), rdV_nat]
  by_cases h : j < inputs.length
  · rw [if_pos ⟨hjl, h⟩]
  · rw [if_neg (by omega), List.getElem?_eq_none (by omega)]; rfl
/-- what an instruction of plain code writes -/
def valP (ins cs : List VN) (r : List VN) (op a b : Int) : VN :=
  if opsP op = 1 then appP op [rdV r a] else if opsP op = 2 then appP op [rdV r a, rdV r b] else if op = 50 then clV (rdV ins a) else clV (rdV cs a)
theorem step_plain (ins cs : List VN) (s : List VN × List VN) (op d a b : Int) (h : opsP op = 0 → op = 50 ∨ op = 51) : stepP ins cs s (op, d, a, b) = (wrV s.1 d (valP ins cs s.1 op a b), s.2) := by
  unfold stepP valP
  dsimp only
  by_cases h1 : opsP op = 1
  · rw [if_pos h1, if_pos h1]
  rw [if_neg h1, if_neg h1]
  by_cases h2 : opsP op = 2
  · rw [if_pos h2, if_pos h2]
  rw [if_neg h2, if_neg h2]
  have := ops_le op
  rcases h (by omega) with e | e
  · rw [if_pos e, if_pos e]
  · have e0 : ¬ op = 50 := by omega
    rw [if_neg e0, if_pos e, if_neg e0]
theorem rd_wr_ne (l : List VN) (k j : Nat) (v : VN) (h : k ≠ j) : rdV (wrV l (k : Int) v) (j : Int) = rdV l (j : Int) := by
  rw [wrV_in, rdV_nat, rdV_nat, List.getElem?_set_ne h]
theorem rd_wr_eq (l : List VN) (k : Nat) (v : VN) (h : k < l.length) : rdV (wrV l (k : Int) v) (k : Int) = v := by
  rw [wrV_in, rdV_nat, List.getElem?_set_self h]; rfl
/-- the two runs side by side, k instructions of the code having been run -/
structure SimD (c : CodeP) (k R : Nat) (sc sd : List VN × List VN) : Prop where
  lc : sc.1.length = nregs c.regs
  ld : sd.1.length = R
  rel : ∀ j : Nat, j < k → needOf c (j : Int) = true → ∃ m : Nat, (drTo c k).bec (j : Int) = (m : Int) ∧ m < (drTo c k).list.length ∧ rdV sd.1 (m : Int) = rdV sc.1 (j : Int)
theorem endD_at {l : List I4} {m : Nat} (h : m + 1 < l.length) : (endD l)[m]? = l[m]? := by
  unfold endD
  cases hx : l[l.length - 1]? with
  | none => rfl
  | some x => exact List.getElem?_set_ne (by omega)
theorem endD_last {l : List I4} {m : Nat} {x : I4} (h : m + 1 = l.length) (hx : l[m]? = some x) : (endD l)[m]? = some (x.1, 0, x.2.2.1, x.2.2.2) := by
  unfold endD
  rw [show l.length - 1 = m by omega, hx]
  exact List.getElem?_set_self (by omega)
theorem runP_at (ins cs : List VN) (s : List VN × List VN) (l : List I4) (k : Nat) (x : I4) (h : l[k]? = some x) : runP ins cs s (l.drop k) = if x.1 = 52 then rdV s.1 x.2.2.1 else runP ins cs (stepP ins cs s x) (l.drop (k + 1)) := by
  obtain ⟨hk, e⟩ := List.getElem?_eq_some_iff.1 h
  rw [List.drop_eq_getElem_cons hk, e]
  rfl
theorem dr_sim {c : CodeP} (hp : PlainC c) (h1024 : c.list.length ≤ 1024) (hd : ¬ Twice c) (inputs : List VN) (R : Nat) (hR : R = (drTo c c.list.length).list.length - 1) :
    ∀ (n k : Nat), k + n = c.list.length → ∀ sc sd, SimD c k R sc sd → runP (leftOf c inputs) (drOf c).cs sd ((drOf c).list.drop (drTo c k).list.length) = runP inputs c.cs sc (c.list.drop k) := by
  intro n
  have hlen : (c.list.length : Int) - 1 = c.regs := hp.2.2.1
  have h1 : 1 ≤ c.regs := hp.2.1
  induction n with
  | zero =>
    intro k hk sc sd hs
    have hk0 : k = c.list.length := by omega
    subst hk0
    have e : (drOf c).list.length = (drTo c c.list.length).list.length := by
      show (endD _).length = _
      unfold endD
      split <;> simp
    rw [List.drop_length, ← e, List.drop_length]; rfl
  | succ n ih =>
    intro k hk sc sd hs
    have hkl : k < c.list.length := by omega
    obtain ⟨⟨op, d, a, b⟩, hx⟩ : ∃ x, c.list[k]? = some x := ⟨_, List.getElem?_eq_getElem hkl⟩
    have p := hp.2.2.2 k _ hx
    dsimp only at p
    have hstep := drTo_at c k _ hx
    rw [runP_at inputs c.cs sc c.list k _ hx]
    dsimp only
    have hnr : nregs c.regs = c.list.length - 1 := by unfold nregs; omega
    cases hn : needOf c (k : Int) with
    | false =>
      have h52 : ¬ op = 52 := fun e => by
        have := p.tell.2 e
        rw [this, need_end] at hn
        cases hn
      have hkr : (k : Int) ≠ c.regs := fun e => h52 (p.tell.1 e)
      have hdr : drTo c (k + 1) = drTo c k := by
        rw [hstep]; unfold drStep; rw [if_neg (by rw [hn]; simp)]
      rw [if_neg h52, step_plain _ _ _ _ _ _ _ (fun h0 => by rcases p.known h0 with e | e | e <;> omega), ← hdr]
      refine ih (k + 1) (by omega) _ _ ⟨by rw [wrV_length]; exact hs.lc, hs.ld, fun j hj hjn => ?_⟩
      have hjk : j ≠ k := fun e => by rw [e, hn] at hjn; cases hjn
      obtain ⟨m, e1, e2, e3⟩ := hs.rel j (by omega) hjn
      refine ⟨m, by rw [hdr]; exact e1, by rw [hdr]; exact e2, ?_⟩
      rw [e3]
      dsimp only
      rw [p.midD hkr, rd_wr_ne _ _ _ _ (Ne.symm hjk)]
    | true =>
      have hdr : drTo c (k + 1) = drPut c (drTo c k) k (op, d, a, b) := by
        rw [hstep]; unfold drStep; rw [if_pos hn]
      obtain ⟨m, hm⟩ : ∃ m, m = (drTo c k).list.length := ⟨_, rfl⟩
      have hL1 : (drTo c (k + 1)).list = (drTo c k).list ++ [(op, (m : Int), drA c (drTo c k) (op, d, a, b), drB (drTo c k) (op, d, a, b))] := by rw [hdr, hm]; rfl
      have hpre := drTo_pre c (k + 1) n
      rw [show k + 1 + n = c.list.length by omega] at hpre
      have hent : (drTo c c.list.length).list[m]? = some (op, (m : Int), drA c (drTo c k) (op, d, a, b), drB (drTo c k) (op, d, a, b)) := by
        refine pre_at hpre.2.2 ?_
        rw [hL1, hm]
        simp
      have hrd := need_reads hp k _ hx hn
      by_cases h52 : op = 52
      · subst h52
        have hkr := p.tell.2 rfl
        have hn0 : n = 0 := by omega
        subst hn0
        have hlast : m + 1 = (drTo c c.list.length).list.length := by
          rw [show c.list.length = k + 1 by omega, hL1, hm]; simp
        rw [if_pos rfl, ← hm, runP_at _ _ _ (drOf c).list m _ (endD_last hlast hent), if_pos rfl]
        have ha0 := p.a0
        have haL := p.endA hkr
        obtain ⟨ja, rfl⟩ : ∃ j : Nat, a = (j : Int) := ⟨a.toNat, by omega⟩
        obtain ⟨q, e1, _, e3⟩ := hs.rel ja (by omega) (hrd _ (by simp [rdsP]))
        dsimp only
        rw [show drA c (drTo c k) (52, d, (ja : Int), b) = (drTo c k).bec (ja : Int) from rfl, e1, e3]
      · have hkr : (k : Int) ≠ c.regs := fun e => h52 (p.tell.1 e)
        have hendk := hp.2.2.2 (c.list.length - 1) _ (List.getElem?_eq_getElem (by omega))
        -- the instruction that tells stands behind
        have hmore : m + 1 < (drTo c c.list.length).list.length := by
          have hz : needOf c ((c.list.length - 1 : Nat) : Int) = true := by
            rw [show ((c.list.length - 1 : Nat) : Int) = c.regs by omega]; exact need_end
          have hq := drTo_at c (c.list.length - 1) _ (List.getElem?_eq_getElem (by omega))
          rw [show c.list.length - 1 + 1 = c.list.length by omega] at hq
          have hq2 : (drTo c c.list.length).list.length = (drTo c (c.list.length - 1)).list.length + 1 := by
            rw [hq]; unfold drStep; rw [if_pos hz]; unfold drPut; simp
          have hp3 := drTo_pre c (k + 1) (c.list.length - 1 - (k + 1))
          rw [show k + 1 + (c.list.length - 1 - (k + 1)) = c.list.length - 1 by omega] at hp3
          have := hp3.2.2.length_le
          rw [hL1] at this
          simp at this
          omega
        have hent2 : (drOf c).list[m]? = some (op, (m : Int), drA c (drTo c k) (op, d, a, b), drB (drTo c k) (op, d, a, b)) := by
          show (endD _)[m]? = _
          rw [endD_at hmore]; exact hent
        rw [if_neg h52, ← hm, runP_at _ _ _ _ m _ hent2, if_neg h52]
        have hkn : opsP op = 0 → op = 50 ∨ op = 51 := fun h0 => by rcases p.known h0 with e | e | e <;> omega
        rw [step_plain _ _ _ _ _ _ _ hkn, step_plain _ _ _ _ _ _ _ hkn]
        have hmR : m < R := by omega
        -- the value is the same
        have hval : valP (leftOf c inputs) (drOf c).cs sd.1 op (drA c (drTo c k) (op, d, a, b)) (drB (drTo c k) (op, d, a, b)) = valP inputs c.cs sc.1 op a b := by
          have ha0 := p.a0
          have hb0 := p.b0
          by_cases z1 : opsP op = 1
          · have hlt := p.opA (by omega)
            have e50 : ¬ op = 50 := fun e => by rw [e, ops50] at z1; cases z1
            have e51 : ¬ op = 51 := fun e => by rw [e, ops51] at z1; cases z1
            obtain ⟨ja, rfl⟩ : ∃ j : Nat, a = (j : Int) := ⟨a.toNat, by omega⟩
            obtain ⟨q, e1, _, e3⟩ := hs.rel ja (by omega) (hrd _ (by simp [rdsP, h52, z1]))
            unfold valP
            rw [if_pos z1, if_pos z1, show drA c (drTo c k) (op, d, (ja : Int), b) = (drTo c k).bec (ja : Int) by simp [drA, e50, e51], e1, e3]
          by_cases z2 : opsP op = 2
          · have hlt := p.opA (by omega)
            have e50 : ¬ op = 50 := fun e => by rw [e, ops50] at z2; cases z2
            have e51 : ¬ op = 51 := fun e => by rw [e, ops51] at z2; cases z2
            obtain ⟨ja, rfl⟩ : ∃ j : Nat, a = (j : Int) := ⟨a.toNat, by omega⟩
            obtain ⟨jb, rfl⟩ : ∃ j : Nat, b = (j : Int) := ⟨b.toNat, by omega⟩
            obtain ⟨q, e1, _, e3⟩ := hs.rel ja (by omega) (hrd _ (by simp [rdsP, h52, z2]))
            obtain ⟨q2, f1, _, f3⟩ := hs.rel jb (by omega) (hrd _ (by simp [rdsP, h52, z2]))
            unfold valP
            rw [if_neg z1, if_neg z1, if_pos z2, if_pos z2, show drA c (drTo c k) (op, d, (ja : Int), (jb : Int)) = (drTo c k).bec (ja : Int) by simp [drA, e50, e51], show drB (drTo c k) (op, d, (ja : Int), (jb : Int)) = (drTo c k).bec (jb : Int) by simp [drB, z2], e1, e3, f1, f3]
          have z0 : opsP op = 0 := by have := ops_le op; omega
          rcases hkn z0 with e | e
          · subst e
            have hia := p.insA rfl
            obtain ⟨ja, rfl⟩ : ∃ j : Nat, a = (j : Int) := ⟨a.toNat, by omega⟩
            have hin : c.ins[ja]? = some (inAt c (ja : Int)) := by
              unfold inAt
              rw [Int.toNat_natCast, List.getElem?_eq_getElem (by omega)]; rfl
            unfold valP
            rw [if_neg z1, if_neg z1, if_neg z2, if_neg z2, if_pos rfl, if_pos rfl]
            congr 1
            have hi1 : (drTo c (k + 1)).ins = putP (drTo c k).ins (inAt c (ja : Int)) := by rw [hdr]; rfl
            have hat := pre_at hpre.1 (by rw [hi1]; exact putP_at (drTo c k).ins (inAt c (ja : Int)))
            show rdV (leftOf c inputs) (plcP (drTo c k).ins (inAt c (ja : Int)) : Int) = _
            rw [rdV_nat]
            unfold leftOf
            rw [List.getElem?_map, show (drOf c).ins = (drTo c c.list.length).ins from rfl, hat]
            show lookI c inputs (inAt c (ja : Int)) = _
            exact lookI_one hd inputs ja _ hin
          · subst e
            have hia := p.conA rfl
            obtain ⟨ja, rfl⟩ : ∃ j : Nat, a = (j : Int) := ⟨a.toNat, by omega⟩
            have hin : c.cs[ja]? = some (csAt c (ja : Int)) := by
              unfold csAt
              rw [Int.toNat_natCast, List.getElem?_eq_getElem (by omega)]; rfl
            unfold valP
            rw [if_neg z1, if_neg z1, if_neg z2, if_neg z2, if_neg (by decide), if_neg (by decide)]
            congr 1
            have hi1 : (drTo c (k + 1)).cs = putP (drTo c k).cs (csAt c (ja : Int)) := by rw [hdr]; rfl
            have hat := pre_at hpre.2.1 (by rw [hi1]; exact putP_at (drTo c k).cs (csAt c (ja : Int)))
            show rdV (drOf c).cs (plcP (drTo c k).cs (csAt c (ja : Int)) : Int) = _
            rw [rdV_nat, rdV_nat, show (drOf c).cs = (drTo c c.list.length).cs from rfl, hat, hin]
        rw [hval]
        have hl2 : m + 1 = (drTo c (k + 1)).list.length := by rw [hL1, hm]; simp
        rw [hl2]
        refine ih (k + 1) (by omega) _ _ ⟨by rw [wrV_length]; exact hs.lc, by rw [wrV_length]; exact hs.ld, fun j hj hjn => ?_⟩
        dsimp only
        rw [p.midD hkr]
        by_cases hjk : j = k
        · subst hjk
          refine ⟨m, by rw [hdr, hm]; simp [drPut], by omega, ?_⟩
          rw [rd_wr_eq _ _ _ (by rw [hs.ld]; exact hmR), rd_wr_eq _ _ _ (by rw [hs.lc]; omega)]
        · obtain ⟨q, e1, e2, e3⟩ := hs.rel j (by omega) hjn
          have hne : ¬ (j : Int) = (k : Int) := by omega
          refine ⟨q, by rw [hdr]; simp [drPut, hne, e1], by omega, ?_⟩
          rw [rd_wr_ne _ _ _ _ (by omega), rd_wr_ne _ _ _ _ (by omega), e3]
/-- what is left tells the same -/
theorem dr_same {c : CodeP} (hp : PlainC c) (h1024 : c.list.length ≤ 1024) (hd : ¬ Twice c) (inputs : List VN) : codeRun (drOf c) (leftOf c inputs) = codeRun c inputs := by
  have hl := (drTo_len c c.list.length).2.2
  have := dr_sim hp h1024 hd inputs _ rfl c.list.length 0 (by omega) (blank (nregs c.regs), blank (nslots c.slots)) (blank (nregs (drOf c).regs), blank (nslots (drOf c).slots)) ⟨by simp [blank], by
    show (blank (nregs (((drTo c c.list.length).list.length : Int) - 1))).length = _
    unfold nregs blank
    rw [List.length_replicate]
    omega, fun j hj => absurd hj (by omega)⟩
  exact this
theorem plain_goodL {c : CodeP} (hp : PlainC c) : ∀ (n k : Nat), k + n = c.list.length → ∀ s : WrS, (∀ j : Nat, j < k → s.1 (j : Int) = true) → goodL c s (c.list.drop k) = true := by
  intro n
  have hlen : (c.list.length : Int) - 1 = c.regs := hp.2.2.1
  induction n with
  | zero =>
    intro k hk s hs
    rw [show k = c.list.length by omega, List.drop_length]; rfl
  | succ n ih =>
    intro k hk s hs
    have hkl : k < c.list.length := by omega
    obtain ⟨⟨op, d, a, b⟩, hx⟩ : ∃ x, c.list[k]? = some x := ⟨_, List.getElem?_eq_getElem hkl⟩
    have p := hp.2.2.2 k _ hx
    dsimp only at p
    have e := (List.getElem?_eq_some_iff.1 hx).2
    rw [List.drop_eq_getElem_cons hkl, e]
    have hle := ops_le op
    have h1 : (decide (c.list.drop (k + 1) = []) == decide (op = 52)) = true := by
      have hnil : c.list.drop (k + 1) = [] ↔ c.list.length ≤ k + 1 := List.drop_eq_nil_iff
      by_cases h52 : op = 52
      · have := p.tell.2 h52
        rw [decide_eq_true (hnil.2 (by omega)), decide_eq_true h52]; rfl
      · have : ¬ (k : Int) = c.regs := fun e => h52 (p.tell.1 e)
        rw [decide_eq_false (fun e => absurd (hnil.1 e) (by omega)), decide_eq_false h52]; rfl
    have hno : op ≠ 53 ∧ op ≠ 54 := ⟨fun e => by subst e; rcases p.known (by decide) with e | e | e <;> omega, fun e => by subst e; rcases p.known (by decide) with e | e | e <;> omega⟩
    have h2 : formedB (op, d, a, b) = true := by
      unfold formedB
      dsimp only
      by_cases c1 : op = 50 ∨ op = 51 ∨ op = 54
      · rw [if_pos c1]
        have : opsP op < 2 := by rcases c1 with e | e | e <;> subst e <;> decide
        simpa using p.noB this
      rw [if_neg c1, if_neg hno.1]
      by_cases c2 : op = 52
      · rw [if_pos c2]
        have := p.endD (p.tell.2 c2)
        have h0 : opsP op < 2 := by subst c2; decide
        simp [this, p.noB h0]
      rw [if_neg c2]
      by_cases c3 : opsP op = 1
      · rw [if_pos c3]; simpa using p.noB (by omega)
      · rw [if_neg c3]
        have : opsP op ≠ 0 := fun h0 => by rcases p.known h0 with e | e | e <;> omega
        simp; omega
    have h3 : thereB c (op, d, a, b) = true := by
      unfold thereB
      dsimp only
      have w1 : (!writesB op || belowB d c.regs) = true := by
        by_cases hr : (k : Int) = c.regs
        · have := p.tell.1 hr
          subst this
          rfl
        · have := p.midD hr
          have : belowB d c.regs = true := by simp [belowB]; omega
          rw [this, Bool.or_true]
      rw [w1, Bool.true_and]
      have ha := p.a0
      split
      · rename_i e; have := p.insA e; simp [belowB]; omega
      split
      · rename_i e; have := p.conA e; simp [belowB]; omega
      split
      · rename_i e; rcases e with e | e
        · exact absurd e hno.1
        · exact absurd e hno.2
      · rfl
    have h4 : hasB s (op, d, a, b) = true := by
      unfold hasB
      have : (readsP (op, d, a, b)).all s.1 = true := by
        rw [List.all_eq_true]
        intro r hr
        have hr2 : r ∈ rdsP (op, d, a, b) := by
          unfold readsP at hr
          unfold rdsP
          dsimp only at hr ⊢
          by_cases e : op = 52
          · rw [if_pos e] at hr ⊢; exact hr
          · rw [if_neg e, if_neg hno.1] at hr
            rw [if_neg e]; exact hr
        have := rds_lt hp k _ hx r hr2
        obtain ⟨j, rfl⟩ : ∃ j : Nat, r = (j : Int) := ⟨r.toNat, by omega⟩
        exact hs j (by omega)
      rw [this]
      dsimp only
      rw [if_neg hno.2]; rfl
    show ((decide (c.list.drop (k + 1) = []) == decide (op = 52)) && formedB (op, d, a, b) && thereB c (op, d, a, b) && hasB s (op, d, a, b) && goodL c (noteP s (op, d, a, b)) (c.list.drop (k + 1))) = true
    rw [h1, h2, h3, h4, Bool.true_and, Bool.true_and, Bool.true_and, Bool.true_and]
    by_cases hr : (k : Int) = c.regs
    · rw [show k + 1 = c.list.length by omega, List.drop_length]; rfl
    · refine ih (k + 1) (by omega) _ fun j hj => ?_
      have h52 : op ≠ 52 := fun e => hr (p.tell.2 e)
      have hw : writesB op = true := by
        unfold writesB
        by_cases z : opsP op = 0
        · rcases p.known z with e | e | e
          · simp [e]
          · simp [e]
          · exact absurd e h52
        · simp; omega
      show (noteP s (op, d, a, b)).1 (j : Int) = true
      unfold noteP
      rw [if_neg hno.1, if_pos hw]
      show (decide ((j : Int) = d) || s.1 (j : Int)) = true
      rw [p.midD hr]
      by_cases e : j = k
      · simp [e]
      · rw [hs j (by omega), Bool.or_true]
theorem plain_good {c : CodeP} (hp : PlainC c) (h1024 : c.list.length ≤ 1024) : goodC c = (c.ins.all inputB && c.cs.all cleanB) := by
  have h := plain_goodL hp c.list.length 0 (by omega) noneW fun j hj => absurd hj (by omega)
  rw [List.drop_zero] at h
  have h2 : sizesB c = true := by
    have := hp.1
    have := hp.2.1
    have := hp.2.2.1
    simp [sizesB]; omega
  unfold goodC
  rw [h, h2]; rfl
end Go.Proofs.Yteniipolcdnmfaa
namespace Go.Proofs.Yteniipolcdnmfaa
open Go.ChangeShapes Go.WideShapes Go.ChangeAt Go.RowKit Go.Fl
set_option linter.unusedVariables false
set_option linter.unusedSimpArgs false
noncomputable def plainB (c : CodeP) : Bool := @decide (PlainC c) (Classical.propDecidable _)
theorem plainB_true {c : CodeP} (h : PlainC c) : plainB c = true := by unfold plainB; exact @decide_eq_true _ (Classical.propDecidable _) h
theorem plainB_false {c : CodeP} (h : ¬ PlainC c) : plainB c = false := by unfold plainB; exact @decide_eq_false _ (Classical.propDecidable _) h
theorem plainB_is {c : CodeP} (h : plainB c = true) : PlainC c := by
  by_cases e : PlainC c
  · exact e
  · rw [plainB_false e] at h; cases h
theorem plainTo_snoc {c : CodeP} {k : Nat} {op d ia ib : Int} (h : PlainTo c k) (hx : c.list[k]? = some (op, d, ia, ib)) (hp : PIns c k op d ia ib) : PlainTo c (k + 1) := fun j x hj hxj => by
  by_cases e : j = k
  · subst e
    rw [hx] at hxj
    injection hxj with hxj
    subst hxj
    exact hp
  · exact h j x (by omega) hxj
set_option maxHeartbeats 400000000 in
set_option maxRecDepth 100000 in
theorem rplain_any (c : CodeP) (v : CV) (w : World) (hc : CodeIn w c v) : Calls Try.prog 5 #[codeV c v] w (BOut (plainB c) w) := by
  obtain ⟨xA, xC, cA, cC, lA, lC⟩ := v
  have hL := Lib.hid (show QuadAt w lA c.list from hc.list)
  have szL : c.list.length ≤ 9223372036854775806 := by have := hc.szL; omega
  have szI : c.ins.length ≤ 9223372036854775806 := by have := hc.szI; omega
  have szC : c.cs.length ≤ 9223372036854775806 := by have := hc.szC; omega
  obtain ⟨r, hr⟩ : ∃ r, plainB c = r := ⟨_, rfl⟩
  rw [hr]
  replace hr := Lib.hid hr
  have hw := m1 w (.cells #[.int .i64 c.regs, .int .i64 c.slots, .slice xA c.ins.length xC, .slice cA c.cs.length cC, .slice lA c.list.length lC] 26)
  have hcode : CodeAt (w.alloc (.cells #[.int .i64 c.regs, .int .i64 c.slots, .slice xA c.ins.length xC, .slice cA c.cs.length cC, .slice lA c.list.length lC] 26)) w.heap.size c ⟨xA, xC, cA, cC, lA, lC⟩ := CodeAt.new w c ⟨xA, xC, cA, cC, lA, lC⟩
  show Calls _ _ #[.agg #[.int .i64 c.regs, .int .i64 c.slots, .slice xA c.ins.length xC, .slice cA c.cs.length cC, .slice lA c.list.length lC]] _ _
  clear hc
  have hwr : IntKind.i64.wrap ((c.list.length : Int) - 1) = (c.list.length : Int) - 1 := by rw [IntKind.wrap_i64]; omega
  go_enter Try.func5, Try.ntmps5
  go_upto_region 1 with (fail)
  generalize w.alloc (.cells #[.int .i64 c.regs, .int .i64 c.slots, .slice xA c.ins.length xC, .slice cA c.cs.length cC, .slice lA c.list.length lC] 26) = uu at *
  obtain ⟨s0, s1, s2, s3, s4⟩ := id hcode
  dsimp only at s2 s3 s4
  by_cases hs : c.slots = 0
  case neg =>
    have hF := Lib.hid (show false = r by rw [← hr.out]; exact (plainB_false fun p => hs p.1).symm)
    have ts : (c.slots != 0) = true := by simpa using hs
    go_wp2
    go_ret
    exact bout_eq hF.out hw
  have ts : (c.slots != 0) = false := by simpa using hs
  by_cases hg : c.regs < 1
  · have hF := Lib.hid (show false = r by rw [← hr.out]; exact (plainB_false fun p => absurd p.2.1 (by omega)).symm)
    go_wp2
    go_ret
    exact bout_eq hF.out hw
  by_cases hlr : (c.list.length : Int) - 1 = c.regs
  case neg =>
    have hF := Lib.hid (show false = r by rw [← hr.out]; exact (plainB_false fun p => hlr p.2.2.1).symm)
    have tl : ((c.list.length : Int) - 1 != c.regs) = true := by simpa using hlr
    go_wp2
    go_ret
    exact bout_eq hF.out hw
  have tl : ((c.list.length : Int) - 1 != c.regs) = false := by simpa using hlr
  replace hlr := Lib.hid hlr
  replace hs := Lib.hid hs
  have hreg : 1 ≤ c.regs := by omega
  clear hg
  have hD0 := Lib.hid (And.intro hcode hw)
  clear hcode
  go_wp2_with fail
  clear s0 s1 s2 s3 s4 ts tl
  go_loopw [27] (fun i wr => ∃ k : Nat, k ≤ c.list.length ∧ i = .int .i64 (k : Int) ∧ PlainTo c k ∧ CodeAt wr w.heap.size c ⟨xA, xC, cA, cC, lA, lC⟩ ∧ Below w.heap.size w wr) (fun i _ => c.list.length - (intOf i).toNat)
  case atStart => exact ⟨0, Nat.zero_le _, rfl, fun j x hj _ => absurd hj (by omega), hD0.out⟩
  case round =>
    clear hD0 hw
    obtain ⟨k, hk, rfl, hT, hD⟩ := hrel
    by_cases hlt : k < c.list.length
    · have hlr := hlr.out
      obtain ⟨bb, off, rfl, hcells⟩ := hL.out (by omega)
      have hx := List.getElem?_eq_getElem hlt
      obtain ⟨q0, q1, q2, q3⟩ := hcells k _ hx
      replace q0 := cell_later hD.2 q0
      replace q1 := cell_later hD.2 q1
      replace q2 := cell_later hD.2 q2
      replace q3 := cell_later hD.2 q3
      clear hcells
      obtain ⟨s0, s1, s2, s3, s4⟩ := hD.1
      dsimp only at s2 s3 s4
      generalize c.list[k] = x at *
      obtain ⟨op, d, ia, ib⟩ := x
      dsimp only at q0 q1 q2 q3
      have hno : ¬ PIns c k op d ia ib → r = false := fun h => by
        rw [← hr.out]
        exact plainB_false fun hp => h (hp.2.2.2 k _ hx)
      replace hx := Lib.hid hx
      replace hT := Lib.hid hT
      have O := Lib.hid (roperands_any op)
      have k0 : (0 : Int) ≤ (k : Int) := by omega
      have k1 : (k : Int) < (c.list.length : Int) := by omega
      have k3 := Lib.hid hlt
      have hb := m1 wr (.cells #[.int .i64 op, .int .i64 d, .int .i64 ia, .int .i64 ib] 42)
      have hi : InsAt (wr.alloc (.cells #[.int .i64 op, .int .i64 d, .int .i64 ia, .int .i64 ib] 42)) wr.heap.size (op, d, ia, ib) := insAt_new wr (op, d, ia, ib)
      replace hD := And.intro (hD.1.later hb) (below_more hD.2 hb)
      clear hb
      go_upto_region 6 with (fail)
      generalize wr.alloc (.cells #[.int .i64 op, .int .i64 d, .int .i64 ia, .int .i64 ib] 42) = u1 at *
      generalize wr.heap.size = gx at *
      clear q0 q1 q2 q3 s0 s1 s2 s3 s4
      obtain ⟨i0, i1, i2, i3⟩ := id hi
      dsimp only at i0 i1 i2 i3
      go_wp2_with fail
      refine (O.out _).mono ?_; rintro e u2 ⟨rfl, hb⟩
      replace hD := And.intro (hD.1.later hb) (below_more hD.2 hb)
      replace hi := hi.later hb
      clear hb i0 i1 i2 i3 O
      obtain ⟨i0, i1, i2, i3⟩ := id hi
      dsimp only at i0 i1 i2 i3
      obtain ⟨s0, s1, s2, s3, s4⟩ := id hD.1
      dsimp only at s2 s3 s4
      obtain ⟨n9, hn⟩ : ∃ n, opsP op = n := ⟨_, rfl⟩
      rw [hn]
      by_cases h52 : op = 52
      · as_aux_lemma =>
          have hn9 : opsP op = 0 := by rw [h52]; decide
          have t50 : (op == 50) = false := by first | simpa using (by omega : op = 50) | simpa using (by omega : op ≠ 50)
          have s50 : (op != 50) = true := by first | simpa using (by omega : op = 50) | simpa using (by omega : op ≠ 50)
          have t51 : (op == 51) = false := by first | simpa using (by omega : op = 51) | simpa using (by omega : op ≠ 51)
          have s51 : (op != 51) = true := by first | simpa using (by omega : op = 51) | simpa using (by omega : op ≠ 51)
          have t52 : (op == 52) = true := by first | simpa using (by omega : op = 52) | simpa using (by omega : op ≠ 52)
          have s52 : (op != 52) = false := by first | simpa using (by omega : op = 52) | simpa using (by omega : op ≠ 52)
          rw [hn9] at hn
          subst hn
          by_cases he : (k : Int) = c.regs
          · have te : ((k : Int) == c.regs) = true := by simpa using he
            by_cases hd : d = 0
            · have td : (d != 0) = false := by simp [hd]
              by_cases hb : ib = 0
              · have tb : (ib != 0) = false := by simp [hb]
                have tb2 : ¬ ib < 0 := by omega
                by_cases ha : ¬ ia < 0
                · by_cases hak : ¬ ia ≥ (k : Int)
                  · have hP : PIns c k op d ia ib := ⟨⟨fun h => by omega, fun h => by omega⟩, fun h => by omega, fun h => by omega, fun h => by omega, by omega, by omega, fun h => by omega, fun h => by omega, fun h => by omega, fun h => by omega, fun h => by omega⟩
                    have hT2 := Lib.hid (plainTo_snoc hT.out hx.out hP)
                    clear hT hno hL hP
                    try clear hd
                    try clear hb
                    try clear he
                    try clear h52
                    try clear h50
                    try clear h51
                    try clear hn9
                    clear hlr
                    go_wp2
                    go_roundw
                    case rel => exact ⟨k + 1, by have := k3.out; omega, by go_num, hT2.out, hD⟩
                    case measure => have := k3.out; simp [intOf]; omega
                  · have hak := Decidable.not_not.1 hak
                    have hF := Lib.hid (show false = r from (hno fun p => absurd (p.endA he) (by omega)).symm)
                    clear hT hno hL k3
                    go_wp2
                    go_ret
                    exact bout_eq hF.out hD.2
                · have ha := Decidable.not_not.1 ha
                  have hF := Lib.hid (show false = r from (hno fun p => absurd p.a0 (by omega)).symm)
                  clear hT hno hL k3
                  go_wp2
                  go_ret
                  exact bout_eq hF.out hD.2
              · have tb : (ib != 0) = true := by simpa using hb
                have hF := Lib.hid (show false = r from (hno fun p => hb (p.noB (by omega))).symm)
                clear hT hno hL k3
                go_wp2
                go_ret
                exact bout_eq hF.out hD.2
            · have td : (d != 0) = true := by simpa using hd
              have hF := Lib.hid (show false = r from (hno fun p => hd (p.endD he)).symm)
              clear hT hno hL k3
              go_wp2
              go_ret
              exact bout_eq hF.out hD.2
          · have te : ((k : Int) == c.regs) = false := by simpa using he
            have hF := Lib.hid (show false = r from (hno fun p => he (p.tell.2 (by omega))).symm)
            clear hT hno hL k3
            go_wp2
            go_ret
            exact bout_eq hF.out hD.2
      by_cases h50 : op = 50
      · as_aux_lemma =>
          have hn9 : opsP op = 0 := by rw [h50]; decide
          have t50 : (op == 50) = true := by first | simpa using (by omega : op = 50) | simpa using (by omega : op ≠ 50)
          have s50 : (op != 50) = false := by first | simpa using (by omega : op = 50) | simpa using (by omega : op ≠ 50)
          have t51 : (op == 51) = false := by first | simpa using (by omega : op = 51) | simpa using (by omega : op ≠ 51)
          have s51 : (op != 51) = true := by first | simpa using (by omega : op = 51) | simpa using (by omega : op ≠ 51)
          have t52 : (op == 52) = false := by first | simpa using (by omega : op = 52) | simpa using (by omega : op ≠ 52)
          have s52 : (op != 52) = true := by first | simpa using (by omega : op = 52) | simpa using (by omega : op ≠ 52)
          rw [hn9] at hn
          subst hn
          by_cases he : (k : Int) = c.regs
          · have te : ((k : Int) == c.regs) = true := by simpa using he
            have hF := Lib.hid (show false = r from (hno fun p => absurd (p.tell.1 he) (by omega)).symm)
            clear hT hno hL k3
            go_wp2
            go_ret
            exact bout_eq hF.out hD.2
          · have te : ((k : Int) == c.regs) = false := by simpa using he
            by_cases hd : d = (k : Int)
            · have td : (d != (k : Int)) = false := by simp [hd]
              by_cases hb : ib = 0
              · have tb : (ib != 0) = false := by simp [hb]
                have tb2 : ¬ ib < 0 := by omega
                by_cases ha : ¬ ia < 0
                · by_cases hal : ¬ ia ≥ (c.ins.length : Int)
                  · have hP : PIns c k op d ia ib := ⟨⟨fun h => by omega, fun h => by omega⟩, fun h => by omega, fun h => by omega, fun h => by omega, by omega, by omega, fun h => by omega, fun h => by omega, fun h => by omega, fun h => by omega, fun h => by omega⟩
                    have hT2 := Lib.hid (plainTo_snoc hT.out hx.out hP)
                    clear hT hno hL hP
                    try clear hd
                    try clear hb
                    try clear he
                    try clear h52
                    try clear h50
                    try clear h51
                    try clear hn9
                    clear hlr
                    go_wp2
                    go_roundw
                    case rel => exact ⟨k + 1, by have := k3.out; omega, by go_num, hT2.out, hD⟩
                    case measure => have := k3.out; simp [intOf]; omega
                  · have hal := Decidable.not_not.1 hal
                    have hF := Lib.hid (show false = r from (hno fun p => absurd (p.insA h50) (by omega)).symm)
                    clear hT hno hL k3
                    go_wp2
                    go_ret
                    exact bout_eq hF.out hD.2
                · have ha := Decidable.not_not.1 ha
                  have hF := Lib.hid (show false = r from (hno fun p => absurd p.a0 (by omega)).symm)
                  clear hT hno hL k3
                  go_wp2
                  go_ret
                  exact bout_eq hF.out hD.2
              · have tb : (ib != 0) = true := by simpa using hb
                have hF := Lib.hid (show false = r from (hno fun p => hb (p.noB (by omega))).symm)
                clear hT hno hL k3
                go_wp2
                go_ret
                exact bout_eq hF.out hD.2
            · have td : (d != (k : Int)) = true := by simpa using hd
              have hF := Lib.hid (show false = r from (hno fun p => hd (p.midD he)).symm)
              clear hT hno hL k3
              go_wp2
              go_ret
              exact bout_eq hF.out hD.2
      by_cases h51 : op = 51
      · as_aux_lemma =>
          have hn9 : opsP op = 0 := by rw [h51]; decide
          have t50 : (op == 50) = false := by first | simpa using (by omega : op = 50) | simpa using (by omega : op ≠ 50)
          have s50 : (op != 50) = true := by first | simpa using (by omega : op = 50) | simpa using (by omega : op ≠ 50)
          have t51 : (op == 51) = true := by first | simpa using (by omega : op = 51) | simpa using (by omega : op ≠ 51)
          have s51 : (op != 51) = false := by first | simpa using (by omega : op = 51) | simpa using (by omega : op ≠ 51)
          have t52 : (op == 52) = false := by first | simpa using (by omega : op = 52) | simpa using (by omega : op ≠ 52)
          have s52 : (op != 52) = true := by first | simpa using (by omega : op = 52) | simpa using (by omega : op ≠ 52)
          rw [hn9] at hn
          subst hn
          by_cases he : (k : Int) = c.regs
          · have te : ((k : Int) == c.regs) = true := by simpa using he
            have hF := Lib.hid (show false = r from (hno fun p => absurd (p.tell.1 he) (by omega)).symm)
            clear hT hno hL k3
            go_wp2
            go_ret
            exact bout_eq hF.out hD.2
          · have te : ((k : Int) == c.regs) = false := by simpa using he
            by_cases hd : d = (k : Int)
            · have td : (d != (k : Int)) = false := by simp [hd]
              by_cases hb : ib = 0
              · have tb : (ib != 0) = false := by simp [hb]
                have tb2 : ¬ ib < 0 := by omega
                by_cases ha : ¬ ia < 0
                · by_cases hal : ¬ ia ≥ (c.cs.length : Int)
                  · have hP : PIns c k op d ia ib := ⟨⟨fun h => by omega, fun h => by omega⟩, fun h => by omega, fun h => by omega, fun h => by omega, by omega, by omega, fun h => by omega, fun h => by omega, fun h => by omega, fun h => by omega, fun h => by omega⟩
                    have hT2 := Lib.hid (plainTo_snoc hT.out hx.out hP)
                    clear hT hno hL hP
                    try clear hd
                    try clear hb
                    try clear he
                    try clear h52
                    try clear h50
                    try clear h51
                    try clear hn9
                    clear hlr
                    go_wp2
                    go_roundw
                    case rel => exact ⟨k + 1, by have := k3.out; omega, by go_num, hT2.out, hD⟩
                    case measure => have := k3.out; simp [intOf]; omega
                  · have hal := Decidable.not_not.1 hal
                    have hF := Lib.hid (show false = r from (hno fun p => absurd (p.conA h51) (by omega)).symm)
                    clear hT hno hL k3
                    go_wp2
                    go_ret
                    exact bout_eq hF.out hD.2
                · have ha := Decidable.not_not.1 ha
                  have hF := Lib.hid (show false = r from (hno fun p => absurd p.a0 (by omega)).symm)
                  clear hT hno hL k3
                  go_wp2
                  go_ret
                  exact bout_eq hF.out hD.2
              · have tb : (ib != 0) = true := by simpa using hb
                have hF := Lib.hid (show false = r from (hno fun p => hb (p.noB (by omega))).symm)
                clear hT hno hL k3
                go_wp2
                go_ret
                exact bout_eq hF.out hD.2
            · have td : (d != (k : Int)) = true := by simpa using hd
              have hF := Lib.hid (show false = r from (hno fun p => hd (p.midD he)).symm)
              clear hT hno hL k3
              go_wp2
              go_ret
              exact bout_eq hF.out hD.2
      have hle := ops_le op
      have hc9 : opsP op = 1 ∨ opsP op = 2 ∨ opsP op = 0 := by omega
      rcases hc9 with hn9 | hn9 | hn9
      · as_aux_lemma =>
          have t50 : (op == 50) = false := by first | simpa using (by omega : op = 50) | simpa using (by omega : op ≠ 50)
          have s50 : (op != 50) = true := by first | simpa using (by omega : op = 50) | simpa using (by omega : op ≠ 50)
          have t51 : (op == 51) = false := by first | simpa using (by omega : op = 51) | simpa using (by omega : op ≠ 51)
          have s51 : (op != 51) = true := by first | simpa using (by omega : op = 51) | simpa using (by omega : op ≠ 51)
          have t52 : (op == 52) = false := by first | simpa using (by omega : op = 52) | simpa using (by omega : op ≠ 52)
          have s52 : (op != 52) = true := by first | simpa using (by omega : op = 52) | simpa using (by omega : op ≠ 52)
          rw [hn9] at hn
          subst hn
          by_cases he : (k : Int) = c.regs
          · have te : ((k : Int) == c.regs) = true := by simpa using he
            have hF := Lib.hid (show false = r from (hno fun p => absurd (p.tell.1 he) (by omega)).symm)
            clear hT hno hL k3
            go_wp2
            go_ret
            exact bout_eq hF.out hD.2
          · have te : ((k : Int) == c.regs) = false := by simpa using he
            by_cases hd : d = (k : Int)
            · have td : (d != (k : Int)) = false := by simp [hd]
              by_cases hb : ib = 0
              · have tb : (ib != 0) = false := by simp [hb]
                have tb2 : ¬ ib < 0 := by omega
                by_cases ha : ¬ ia < 0
                · by_cases hak : ¬ ia ≥ (k : Int)
                  · have hbk : ¬ ib ≥ (k : Int) := by omega
                    have hP : PIns c k op d ia ib := ⟨⟨fun h => by omega, fun h => by omega⟩, fun h => by omega, fun h => by omega, fun h => by omega, by omega, by omega, fun h => by omega, fun h => by omega, fun h => by omega, fun h => by omega, fun h => by omega⟩
                    have hT2 := Lib.hid (plainTo_snoc hT.out hx.out hP)
                    clear hT hno hL hP
                    try clear hd
                    try clear hb
                    try clear he
                    try clear h52
                    try clear h50
                    try clear h51
                    try clear hn9
                    clear hlr
                    go_wp2
                    go_roundw
                    case rel => exact ⟨k + 1, by have := k3.out; omega, by go_num, hT2.out, hD⟩
                    case measure => have := k3.out; simp [intOf]; omega
                  · have hak := Decidable.not_not.1 hak
                    have hF := Lib.hid (show false = r from (hno fun p => absurd (p.opA (by omega)).1 (by omega)).symm)
                    clear hT hno hL k3
                    go_wp2
                    go_ret
                    exact bout_eq hF.out hD.2
                · have ha := Decidable.not_not.1 ha
                  have hF := Lib.hid (show false = r from (hno fun p => absurd p.a0 (by omega)).symm)
                  clear hT hno hL k3
                  go_wp2
                  go_ret
                  exact bout_eq hF.out hD.2
              · have tb : (ib != 0) = true := by simpa using hb
                have hF := Lib.hid (show false = r from (hno fun p => hb (p.noB (by omega))).symm)
                clear hT hno hL k3
                go_wp2
                go_ret
                exact bout_eq hF.out hD.2
            · have td : (d != (k : Int)) = true := by simpa using hd
              have hF := Lib.hid (show false = r from (hno fun p => hd (p.midD he)).symm)
              clear hT hno hL k3
              go_wp2
              go_ret
              exact bout_eq hF.out hD.2
      · as_aux_lemma =>
          have t50 : (op == 50) = false := by first | simpa using (by omega : op = 50) | simpa using (by omega : op ≠ 50)
          have s50 : (op != 50) = true := by first | simpa using (by omega : op = 50) | simpa using (by omega : op ≠ 50)
          have t51 : (op == 51) = false := by first | simpa using (by omega : op = 51) | simpa using (by omega : op ≠ 51)
          have s51 : (op != 51) = true := by first | simpa using (by omega : op = 51) | simpa using (by omega : op ≠ 51)
          have t52 : (op == 52) = false := by first | simpa using (by omega : op = 52) | simpa using (by omega : op ≠ 52)
          have s52 : (op != 52) = true := by first | simpa using (by omega : op = 52) | simpa using (by omega : op ≠ 52)
          rw [hn9] at hn
          subst hn
          by_cases he : (k : Int) = c.regs
          · have te : ((k : Int) == c.regs) = true := by simpa using he
            have hF := Lib.hid (show false = r from (hno fun p => absurd (p.tell.1 he) (by omega)).symm)
            clear hT hno hL k3
            go_wp2
            go_ret
            exact bout_eq hF.out hD.2
          · have te : ((k : Int) == c.regs) = false := by simpa using he
            by_cases hd : d = (k : Int)
            · have td : (d != (k : Int)) = false := by simp [hd]
              by_cases ha : ¬ ia < 0
              · by_cases hbb : ¬ ib < 0
                · by_cases hak : ¬ ia ≥ (k : Int)
                  · by_cases hbk : ¬ ib ≥ (k : Int)
                    · have hP : PIns c k op d ia ib := ⟨⟨fun h => by omega, fun h => by omega⟩, fun h => by omega, fun h => by omega, fun h => by omega, by omega, by omega, fun h => by omega, fun h => by omega, fun h => by omega, fun h => by omega, fun h => by omega⟩
                      have hT2 := Lib.hid (plainTo_snoc hT.out hx.out hP)
                      clear hT hno hL hP
                      try clear hd
                      try clear hb
                      try clear he
                      try clear h52
                      try clear h50
                      try clear h51
                      try clear hn9
                      clear hlr
                      go_wp2
                      go_roundw
                      case rel => exact ⟨k + 1, by have := k3.out; omega, by go_num, hT2.out, hD⟩
                      case measure => have := k3.out; simp [intOf]; omega
                    · have hbk := Decidable.not_not.1 hbk
                      have hF := Lib.hid (show false = r from (hno fun p => absurd (p.opA (by omega)).2 (by omega)).symm)
                      clear hT hno hL k3
                      go_wp2
                      go_ret
                      exact bout_eq hF.out hD.2
                  · have hak := Decidable.not_not.1 hak
                    have hF := Lib.hid (show false = r from (hno fun p => absurd (p.opA (by omega)).1 (by omega)).symm)
                    clear hT hno hL k3
                    go_wp2
                    go_ret
                    exact bout_eq hF.out hD.2
                · have hbb := Decidable.not_not.1 hbb
                  have hF := Lib.hid (show false = r from (hno fun p => absurd p.b0 (by omega)).symm)
                  clear hT hno hL k3
                  go_wp2
                  go_ret
                  exact bout_eq hF.out hD.2
              · have ha := Decidable.not_not.1 ha
                have hF := Lib.hid (show false = r from (hno fun p => absurd p.a0 (by omega)).symm)
                clear hT hno hL k3
                go_wp2
                go_ret
                exact bout_eq hF.out hD.2
            · have td : (d != (k : Int)) = true := by simpa using hd
              have hF := Lib.hid (show false = r from (hno fun p => hd (p.midD he)).symm)
              clear hT hno hL k3
              go_wp2
              go_ret
              exact bout_eq hF.out hD.2
      · as_aux_lemma =>
          have t50 : (op == 50) = false := by first | simpa using (by omega : op = 50) | simpa using (by omega : op ≠ 50)
          have s50 : (op != 50) = true := by first | simpa using (by omega : op = 50) | simpa using (by omega : op ≠ 50)
          have t51 : (op == 51) = false := by first | simpa using (by omega : op = 51) | simpa using (by omega : op ≠ 51)
          have s51 : (op != 51) = true := by first | simpa using (by omega : op = 51) | simpa using (by omega : op ≠ 51)
          have t52 : (op == 52) = false := by first | simpa using (by omega : op = 52) | simpa using (by omega : op ≠ 52)
          have s52 : (op != 52) = true := by first | simpa using (by omega : op = 52) | simpa using (by omega : op ≠ 52)
          rw [hn9] at hn
          subst hn
          by_cases he : (k : Int) = c.regs
          · have te : ((k : Int) == c.regs) = true := by simpa using he
            have hF := Lib.hid (show false = r from (hno fun p => absurd (p.tell.1 he) (by omega)).symm)
            clear hT hno hL k3
            go_wp2
            go_ret
            exact bout_eq hF.out hD.2
          · have te : ((k : Int) == c.regs) = false := by simpa using he
            by_cases hd : d = (k : Int)
            · have td : (d != (k : Int)) = false := by simp [hd]
              by_cases hb : ib = 0
              · have tb : (ib != 0) = false := by simp [hb]
                have tb2 : ¬ ib < 0 := by omega
                by_cases ha : ¬ ia < 0
                · have hF := Lib.hid (show false = r from (hno fun p => by rcases p.known hn9 with e | e | e <;> omega).symm)
                  clear hT hno hL k3
                  go_wp2
                  go_ret
                  exact bout_eq hF.out hD.2
                · have ha := Decidable.not_not.1 ha
                  have hF := Lib.hid (show false = r from (hno fun p => absurd p.a0 (by omega)).symm)
                  clear hT hno hL k3
                  go_wp2
                  go_ret
                  exact bout_eq hF.out hD.2
              · have tb : (ib != 0) = true := by simpa using hb
                have hF := Lib.hid (show false = r from (hno fun p => hb (p.noB (by omega))).symm)
                clear hT hno hL k3
                go_wp2
                go_ret
                exact bout_eq hF.out hD.2
            · have td : (d != (k : Int)) = true := by simpa using hd
              have hF := Lib.hid (show false = r from (hno fun p => hd (p.midD he)).symm)
              clear hT hno hL k3
              go_wp2
              go_ret
              exact bout_eq hF.out hD.2
    · obtain rfl : k = c.list.length := by omega
      have hF := Lib.hid (show true = r by rw [← hr.out]; exact (plainB_true ⟨hs.out, hreg, hlr.out, fun k x hx => hT k x (List.getElem?_eq_some_iff.1 hx).1 hx⟩).symm)
      clear hT
      go_wp2
      go_ret
      exact bout_eq hF.out hD.2
end Go.Proofs.Yteniipolcdnmfaa
namespace Go.Proofs.Yteniipolcdnmfaa
open Go.ChangeShapes Go.WideShapes Go.ChangeAt Go.RowKit Go.Fl
set_option linter.unusedVariables false
set_option linter.unusedSimpArgs false
theorem step_append_own {P : Program} {w : World} {ops : Array Oper} {o : Oper} {a : Act} {K : Act → World → Prop} {Q : Exit → Act → World → Prop} {E : Prop} (hgd : o.guard = none) (s x : Operand) (t : TypeId)
    (ho : o.op = .call { callee := .builtin .append, args := #[s, x], argTypes := #[t, t] })
    (base : Nat) (e : TypeId) (i : TypeInfo) (z : Value) (size bytes : Nat) (ht : P.underlying t = some (.slice e)) (hi : P.info? e = some i) (hz : i.zero = some z)
    (hsize : i.size = size) (hby : i.bytes = bytes) (hzs : z.cells.size = size) (hsz : 0 < size)
    (v : Value) (n : Nat) (xs : List Value) (hs : a.eval s = v) (hown : w.ownsRow base e size v n xs)
    (ad : Addr) (m c : Nat) (news : List Value) (hx : a.eval x = .slice (some ad) m c) (hl : news.length = m * size) (hnews : ∀ j u, news[j]? = some u → w.cell? (ad.add j) = some u) (h1 : ∀ u ∈ news, u.oneCell' = true)
    (h63 : n + m ≤ maxLen) (hbytes : (n + m) * bytes ≤ 140737488355328) (hbase : base ≤ w.heap.size)
    (h : ∀ v' w', w'.ownsRow base e size v' (n + m) (xs ++ news) → w.grownBy w' v.ownBlock → K (a.put o.dst v') w') :
    if Region.wanted o (yielded ops a.tmps) = true then Oper.wp P o a w K Q else E := by
  have hw : Region.wanted o (yielded ops a.tmps) = true := by simp [Region.wanted, hgd]
  rw [if_pos hw]
  exact wp_append_own w s x t ho base e i z size bytes ht hi hz hsize hby hzs hsz v n xs hs hown ad m c news hx hl hnews h1 h63 hbytes hbase fun v' w' h2 h3 _ => h v' w' h2 h3
theorem news_2 (w : World) (t : TypeId) (x y : Value) : ∀ (j : Nat) (u : Value), [x, y][j]? = some u → (w.alloc (.cells #[x, y] t)).cell? ((⟨w.heap.size, 0, none⟩ : Addr).add j) = some u := by
  intro j u hj
  match j, hj with
  | 0, hj => simp at hj; subst hj; simp [Addr.add]
  | 1, hj => simp at hj; subst hj; simp [Addr.add]
theorem news_4 (w : World) (t : TypeId) (x y z v : Value) : ∀ (j : Nat) (u : Value), [x, y, z, v][j]? = some u → (w.alloc (.cells #[x, y, z, v] t)).cell? ((⟨w.heap.size, 0, none⟩ : Addr).add j) = some u := by
  intro j u hj
  match j, hj with
  | 0, hj => simp at hj; subst hj; simp [Addr.add]
  | 1, hj => simp at hj; subst hj; simp [Addr.add]
  | 2, hj => simp at hj; subst hj; simp [Addr.add]
  | 3, hj => simp at hj; subst hj; simp [Addr.add]
theorem one_2 (a b : Int) : ∀ u ∈ [Value.int .i64 a, Value.int .u64 b], u.oneCell' = true := by
  intro u hu; simp at hu; rcases hu with rfl | rfl <;> rfl
theorem one_4 (a b c d : Int) : ∀ u ∈ [Value.int .i64 a, Value.int .i64 b, Value.int .i64 c, Value.int .i64 d], u.oneCell' = true := by
  intro u hu; simp at hu; rcases hu with rfl | rfl | rfl | rfl <;> rfl
theorem cellsV_append (l m : List VN) : cellsV (l ++ m) = cellsV l ++ cellsV m := by simp [cellsV]

/-- code that is being written: block g, and rows of its own from B on -/
def OutC (B g : Nat) (s : DrS) (vI vC vL : Value) (u : World) : Prop :=
  Blk u g 26 #[.int .i64 0, .int .i64 0, vI, vC, vL] ∧ u.ownsRow B 31 4 vI s.ins.length (cellsI s.ins) ∧ u.ownsRow B 34 2 vC s.cs.length (cellsV s.cs) ∧ u.ownsRow B 42 4 vL s.list.length (cellsI s.list)
def OutJ (B g : Nat) (s : DrS) (u : World) : Prop := ∃ vI vC vL, OutC B g s vI vC vL u
theorem OutC.later {B g : Nat} {s : DrS} {vI vC vL : Value} {u u1 : World} (h : OutC B g s vI vC vL u) (hb : Below u.heap.size u u1) : OutC B g s vI vC vL u1 :=
  ⟨h.1.kept hb, mown_below h.2.1 hb, mown_below h.2.2.1 hb, mown_below h.2.2.2 hb⟩
theorem OutC.drew {B g : Nat} {s : DrS} {vI vC vL : Value} {u : World} (h : OutC B g s vI vC vL u) : OutC B g s vI vC vL u.drew := h.later (Below.refl _ _).drew
theorem OutJ.later {B g : Nat} {s : DrS} {u u1 : World} (h : OutJ B g s u) (hb : Below u.heap.size u u1) : OutJ B g s u1 := by
  obtain ⟨vI, vC, vL, h⟩ := h
  exact ⟨vI, vC, vL, h.later hb⟩
/-- only block g has changed, and from B on blocks of such cells -/
structure GrT (T : TypeId) (B g : Nat) (u u' : World) : Prop where
  os : u'.os = u.os
  tape : u'.tape = u.tape
  output : u'.output = u.output
  size : u.heap.size ≤ u'.heap.size
  block : ∀ k, k < u.heap.size → k ≠ g → (k < B ∨ ∀ cs f, u.heap[k]? ≠ some (.cells cs T f)) → u'.heap[k]? = u.heap[k]?
theorem GrT.ofBelow {T : TypeId} {B g : Nat} {u u' : World} (h : Below u.heap.size u u') : GrT T B g u u' := ⟨h.os, h.tape, h.output, h.size, fun k hk _ _ => h.block k hk⟩
theorem GrT.trans {T : TypeId} {B g : Nat} {u u1 u2 : World} (h : GrT T B g u u1) (h2 : GrT T B g u1 u2) : GrT T B g u u2 :=
  ⟨h2.os.trans h.os, h2.tape.trans h.tape, h2.output.trans h.output, Nat.le_trans h.size h2.size, fun k hk hg hT => by
    have e := h.block k hk hg hT
    rw [h2.block k (Nat.lt_of_lt_of_le hk h.size) hg (by rw [e]; exact hT), e]⟩
theorem GrT.below {T : TypeId} {B g : Nat} {w u u' : World} (h : GrT T B g u u') (hw : Below w.heap.size w u) (h1 : w.heap.size ≤ B) (h2 : w.heap.size ≤ g) : Below w.heap.size w u' :=
  ⟨h.os.trans hw.os, h.tape.trans hw.tape, h.output.trans hw.output, Nat.le_trans hw.size h.size, fun k hk => (h.block k (Nat.lt_of_lt_of_le hk hw.size) (by omega) (.inl (by omega))).trans (hw.block k hk)⟩
theorem GrT.blk {T T2 : TypeId} {B g gx : Nat} {u u' : World} {cs : Array Value} (h : GrT T B g u u') (hk : Blk u gx T2 cs) (hg : gx ≠ g) (hT : T2 ≠ T) : Blk u' gx T2 cs := by
  unfold Blk at *
  rw [h.block gx (Array.getElem?_eq_some_iff.1 hk).1 hg (.inr fun cs f e => ?_)]
  · exact hk
  · rw [hk] at e
    injection e with e
    injection e with _ e
    exact hT e
theorem GrT.imap {T : TypeId} {B g r : Nat} {u u' : World} {f : Int → Option Value} (h : GrT T B g u u') (hk : IMap u r f) (hg : r ≠ g) : IMap u' r f := by
  refine hk.same (h.block r hk.lt hg (.inr fun cs f e => ?_))
  obtain ⟨es, c, hk, _⟩ := hk
  rw [hk] at e
  cases e
theorem outC_putI {B g : Nat} {s : DrS} {vI vC vL v' : Value} {u wr wz w3 : World} {x0 x1 x2 x3 : Int} (hB : B ≤ g) (hbel : Below u.heap.size u wr) (h : OutC B g s vI vC vL wr)
    (hO3 : w3.ownsRow B 31 4 v' (s.ins.length + 1) (cellsI s.ins ++ [.int .i64 x0, .int .i64 x1, .int .i64 x2, .int .i64 x3])) (hd : Below wr.heap.size wr wz) (hgrow : wz.grownBy w3 vI.ownBlock) :
    Blk w3 g 26 #[.int .i64 0, .int .i64 0, vI, vC, vL] ∧ OutC B g { s with ins := s.ins ++ [(x0, x1, x2, x3)] } v' vC vL (w3.setCell ⟨g, 2, none⟩ v') ∧ GrT 31 B g u (w3.setCell ⟨g, 2, none⟩ v') := by
  obtain ⟨kb, oI, oC, oL⟩ := h
  have kb2 := (kb.kept hd).grown hgrow (kb.own_ne oI (by decide))
  have p1 := mown_ne oC oI (by decide)
  have p2 := mown_ne oL oI (by decide)
  have q1 := (mown_below oC hd).kept hgrow p1
  have q2 := (mown_below oL hd).kept hgrow p2
  have o1 := mown_set q1 (p := ⟨g, 2, none⟩) (fun e => kb2.own_ne q1 (by decide) e.symm) v'
  have o2 := mown_set q2 (p := ⟨g, 2, none⟩) (fun e => kb2.own_ne q2 (by decide) e.symm) v'
  have oR := mown_set hO3 (p := ⟨g, 2, none⟩) (fun e => kb2.own_ne hO3 (by decide) e.symm) v'
  have kb4 : Blk (w3.setCell ⟨g, 2, none⟩ v') g 26 #[.int .i64 0, .int .i64 0, v', vC, vL] := by simpa using kb2.put_ 2 v'
  have hsz : s.ins.length + 1 = (s.ins ++ [(x0, x1, x2, x3)]).length := by simp
  have hcl : cellsI s.ins ++ [.int .i64 x0, .int .i64 x1, .int .i64 x2, .int .i64 x3] = cellsI (s.ins ++ [(x0, x1, x2, x3)]) := by rw [cellsI_append]; rfl
  rw [hsz, hcl] at oR
  refine ⟨kb2, ⟨kb4, oR, o1, o2⟩, ⟨hgrow.os.trans (hd.os.trans hbel.os), hgrow.tape.trans (hd.tape.trans hbel.tape), hgrow.output.trans (hd.output.trans hbel.output), ?_, fun k hk hkg hT => ?_⟩⟩
  · have e1 := hbel.size
    have e2 := hd.size
    have e3 := hgrow.size
    have e4 := (mset w3 ⟨g, 2, none⟩ v').size
    omega
  · have e1 := hbel.size
    have e2 := hd.size
    have hne : some k ≠ vI.ownBlock := fun e => by
      have hlt := (oI.lt k e.symm).1
      rcases hT with hT | hT
      · omega
      · rcases oI.2 with ⟨e0, _⟩ | ⟨g1, cap, cur, e0, _, hh, _⟩
        · rw [e0] at e; cases e
        · rw [e0] at e
          injection e with e
          subst e
          rw [hbel.block k hk] at hh
          exact hT _ _ hh
    have e3 := hgrow.size
    rw [(mset w3 ⟨g, 2, none⟩ v').block k (by omega) (by simp; exact hkg), hgrow.block k (by omega) hne, hd.block k (by omega), hbel.block k hk]
theorem outC_putC {B g : Nat} {s : DrS} {vI vC vL v' : Value} {u wr wz w3 : World} {x0 : Int} {x1 : Nat} (hB : B ≤ g) (hbel : Below u.heap.size u wr) (h : OutC B g s vI vC vL wr)
    (hO3 : w3.ownsRow B 34 2 v' (s.cs.length + 1) (cellsV s.cs ++ [.int .i64 x0, .int .u64 (x1 : Int)])) (hd : Below wr.heap.size wr wz) (hgrow : wz.grownBy w3 vC.ownBlock) :
    Blk w3 g 26 #[.int .i64 0, .int .i64 0, vI, vC, vL] ∧ OutC B g { s with cs := s.cs ++ [(x0, x1)] } vI v' vL (w3.setCell ⟨g, 3, none⟩ v') ∧ GrT 34 B g u (w3.setCell ⟨g, 3, none⟩ v') := by
  obtain ⟨kb, oI, oC, oL⟩ := h
  have kb2 := (kb.kept hd).grown hgrow (kb.own_ne oC (by decide))
  have p1 := mown_ne oI oC (by decide)
  have p2 := mown_ne oL oC (by decide)
  have q1 := (mown_below oI hd).kept hgrow p1
  have q2 := (mown_below oL hd).kept hgrow p2
  have o1 := mown_set q1 (p := ⟨g, 3, none⟩) (fun e => kb2.own_ne q1 (by decide) e.symm) v'
  have o2 := mown_set q2 (p := ⟨g, 3, none⟩) (fun e => kb2.own_ne q2 (by decide) e.symm) v'
  have oR := mown_set hO3 (p := ⟨g, 3, none⟩) (fun e => kb2.own_ne hO3 (by decide) e.symm) v'
  have kb4 : Blk (w3.setCell ⟨g, 3, none⟩ v') g 26 #[.int .i64 0, .int .i64 0, vI, v', vL] := by simpa using kb2.put_ 3 v'
  have hsz : s.cs.length + 1 = (s.cs ++ [(x0, x1)]).length := by simp
  have hcl : cellsV s.cs ++ [.int .i64 x0, .int .u64 (x1 : Int)] = cellsV (s.cs ++ [(x0, x1)]) := by rw [cellsV_append]; rfl
  rw [hsz, hcl] at oR
  refine ⟨kb2, ⟨kb4, o1, oR, o2⟩, ⟨hgrow.os.trans (hd.os.trans hbel.os), hgrow.tape.trans (hd.tape.trans hbel.tape), hgrow.output.trans (hd.output.trans hbel.output), ?_, fun k hk hkg hT => ?_⟩⟩
  · have e1 := hbel.size
    have e2 := hd.size
    have e3 := hgrow.size
    have e4 := (mset w3 ⟨g, 3, none⟩ v').size
    omega
  · have e1 := hbel.size
    have e2 := hd.size
    have hne : some k ≠ vC.ownBlock := fun e => by
      have hlt := (oC.lt k e.symm).1
      rcases hT with hT | hT
      · omega
      · rcases oC.2 with ⟨e0, _⟩ | ⟨g1, cap, cur, e0, _, hh, _⟩
        · rw [e0] at e; cases e
        · rw [e0] at e
          injection e with e
          subst e
          rw [hbel.block k hk] at hh
          exact hT _ _ hh
    have e3 := hgrow.size
    rw [(mset w3 ⟨g, 3, none⟩ v').block k (by omega) (by simp; exact hkg), hgrow.block k (by omega) hne, hd.block k (by omega), hbel.block k hk]
theorem outC_putL {B g : Nat} {s : DrS} {vI vC vL v' : Value} {u wr wz w3 : World} {x0 x1 x2 x3 : Int} (hB : B ≤ g) (hbel : Below u.heap.size u wr) (h : OutC B g s vI vC vL wr)
    (hO3 : w3.ownsRow B 42 4 v' (s.list.length + 1) (cellsI s.list ++ [.int .i64 x0, .int .i64 x1, .int .i64 x2, .int .i64 x3])) (hd : Below wr.heap.size wr wz) (hgrow : wz.grownBy w3 vL.ownBlock) :
    Blk w3 g 26 #[.int .i64 0, .int .i64 0, vI, vC, vL] ∧ OutC B g { s with list := s.list ++ [(x0, x1, x2, x3)] } vI vC v' (w3.setCell ⟨g, 4, none⟩ v') ∧ GrT 42 B g u (w3.setCell ⟨g, 4, none⟩ v') := by
  obtain ⟨kb, oI, oC, oL⟩ := h
  have kb2 := (kb.kept hd).grown hgrow (kb.own_ne oL (by decide))
  have p1 := mown_ne oI oL (by decide)
  have p2 := mown_ne oC oL (by decide)
  have q1 := (mown_below oI hd).kept hgrow p1
  have q2 := (mown_below oC hd).kept hgrow p2
  have o1 := mown_set q1 (p := ⟨g, 4, none⟩) (fun e => kb2.own_ne q1 (by decide) e.symm) v'
  have o2 := mown_set q2 (p := ⟨g, 4, none⟩) (fun e => kb2.own_ne q2 (by decide) e.symm) v'
  have oR := mown_set hO3 (p := ⟨g, 4, none⟩) (fun e => kb2.own_ne hO3 (by decide) e.symm) v'
  have kb4 : Blk (w3.setCell ⟨g, 4, none⟩ v') g 26 #[.int .i64 0, .int .i64 0, vI, vC, v'] := by simpa using kb2.put_ 4 v'
  have hsz : s.list.length + 1 = (s.list ++ [(x0, x1, x2, x3)]).length := by simp
  have hcl : cellsI s.list ++ [.int .i64 x0, .int .i64 x1, .int .i64 x2, .int .i64 x3] = cellsI (s.list ++ [(x0, x1, x2, x3)]) := by rw [cellsI_append]; rfl
  rw [hsz, hcl] at oR
  refine ⟨kb2, ⟨kb4, o1, o2, oR⟩, ⟨hgrow.os.trans (hd.os.trans hbel.os), hgrow.tape.trans (hd.tape.trans hbel.tape), hgrow.output.trans (hd.output.trans hbel.output), ?_, fun k hk hkg hT => ?_⟩⟩
  · have e1 := hbel.size
    have e2 := hd.size
    have e3 := hgrow.size
    have e4 := (mset w3 ⟨g, 4, none⟩ v').size
    omega
  · have e1 := hbel.size
    have e2 := hd.size
    have hne : some k ≠ vL.ownBlock := fun e => by
      have hlt := (oL.lt k e.symm).1
      rcases hT with hT | hT
      · omega
      · rcases oL.2 with ⟨e0, _⟩ | ⟨g1, cap, cur, e0, _, hh, _⟩
        · rw [e0] at e; cases e
        · rw [e0] at e
          injection e with e
          subst e
          rw [hbel.block k hk] at hh
          exact hT _ _ hh
    have e3 := hgrow.size
    rw [(mset w3 ⟨g, 4, none⟩ v').block k (by omega) (by simp; exact hkg), hgrow.block k (by omega) hne, hd.block k (by omega), hbel.block k hk]
/-- what stands is a thing of a list, or is put behind it -/
def PutO (T : TypeId) (B g : Nat) (p : Nat) (s' : DrS) (u : World) (e : Ending) (u' : World) : Prop := e = .returned (.int .i64 (p : Int)) ∧ OutJ B g s' u' ∧ GrT T B g u u'
theorem idxOf_le {α : Type} [DecidableEq α] : ∀ (l : List α) (x : α) (k : Nat), l[k]? = some x → l.idxOf x ≤ k
  | [], _, _, h => by simp at h
  | y :: l, x, 0, h => by simp at h; subst h; simp
  | y :: l, x, k + 1, h => by
    have := idxOf_le l x k (by simpa using h)
    rw [List.idxOf_cons]
    cases y == x
    · exact Nat.succ_le_succ this
    · exact Nat.zero_le _
theorem plc_here {α : Type} [DecidableEq α] {l : List α} {x : α} {k : Nat} (h : l[k]? = some x) (hn : ∀ j y, j < k → l[j]? = some y → y ≠ x) : plcP l x = k ∧ putP l x = l := by
  have hm : x ∈ l := List.mem_of_getElem? h
  refine ⟨?_, by unfold putP; rw [if_pos hm]⟩
  unfold plcP
  have hlt := List.idxOf_lt_length_of_mem hm
  have hat : l[l.idxOf x]? = some x := by rw [List.getElem?_eq_getElem hlt, List.getElem_idxOf]
  rcases Nat.lt_trichotomy (l.idxOf x) k with h1 | h1 | h1
  · exact absurd rfl (hn _ _ h1 hat)
  · exact h1
  · have := idxOf_le l x k h
    omega
theorem plc_none {α : Type} [DecidableEq α] {l : List α} {x : α} (hn : ∀ j y, j < l.length → l[j]? = some y → y ≠ x) : plcP l x = l.length ∧ putP l x = l ++ [x] := by
  have hm : x ∉ l := fun h => by
    obtain ⟨j, hj⟩ := List.mem_iff_getElem?.1 h
    exact hn j x (List.getElem?_eq_some_iff.1 hj).1 hj rfl
  exact ⟨by unfold plcP; exact List.idxOf_eq_length hm, by unfold putP; rw [if_neg hm]⟩
theorem eql4 (a b c d e f g h : Int) (w : World) : (binOp .eql 31 (.agg #[.int .i64 a, .int .i64 b, .int .i64 c, .int .i64 d]) (.agg #[.int .i64 e, .int .i64 f, .int .i64 g, .int .i64 h])).run Try.prog w = .ok (.bool (decide ((a, b, c, d) = (e, f, g, h)))) w := by
  by_cases h0 : a = e <;> by_cases h1 : b = f <;> by_cases h2 : c = g <;> by_cases h3 : d = h <;> simp [go_sem, h0, h1, h2, h3]
theorem eql2 (a c : Int) (b d : Nat) (w : World) : (binOp .eql 34 (.agg #[.int .i64 a, .int .u64 (b : Int)]) (.agg #[.int .i64 c, .int .u64 (d : Int)])).run Try.prog w = .ok (.bool (decide ((a, b) = (c, d)))) w := by
  by_cases h0 : a = c <;> by_cases h1 : (b : Int) = (d : Int) <;> simp [go_sem, h0, h1] <;> omega
set_option maxHeartbeats 8000000 in
set_option maxRecDepth 100000 in
theorem rinput_put (B g : Nat) (s : DrS) (x0 x1 x2 x3 : Int) (u : World) (h : OutJ B g s u) (hB : B ≤ g) (hs : s.ins.length ≤ 3000) (hbt : ∀ v ∈ s.cs, v.2 < 18446744073709551616) :
    Calls Try.prog 15 #[.pointer (some ⟨g, 0, none⟩), .agg #[.int .i64 x0, .int .i64 x1, .int .i64 x2, .int .i64 x3]] u (PutO 31 B g (plcP s.ins (x0, x1, x2, x3)) { s with ins := putP s.ins (x0, x1, x2, x3) } u) := by
  obtain ⟨vI, vC, vL, hC⟩ := h
  have hB0 := Lib.hid hB
  obtain ⟨i0, hi, hz0, hz1, hz2⟩ := info_parts infoInp
  obtain ⟨rA, rC, e0, qI⟩ : ∃ A cap, vI = .slice A s.ins.length cap ∧ QuadAt u A s.ins := by
    obtain ⟨kb, oI, oC, oL⟩ := hC
    exact own_quad oI
  subst e0
  have hgl := hC.1.lt
  have h1 := m1 u (.cells #[.int .i64 x0, .int .i64 x1, .int .i64 x2, .int .i64 x3] 31)
  have kx := Lib.hid (Blk.made u 31 #[.int .i64 x0, .int .i64 x1, .int .i64 x2, .int .i64 x3])
  replace qI := Lib.hid (qI.later h1)
  replace hC := hC.later h1
  have hgx : g < u.heap.size := hgl
  have hgs : u.heap.size ≤ (u.alloc (.cells #[.int .i64 x0, .int .i64 x1, .int .i64 x2, .int .i64 x3] 31)).heap.size := h1.size
  go_enter Try.func15, Try.ntmps15
  go_upto_region 1 with (fail)
  have h1 := Lib.hid h1
  generalize u.alloc (.cells #[.int .i64 x0, .int .i64 x1, .int .i64 x2, .int .i64 x3] 31) = u1 at *
  obtain ⟨gx, hgxe⟩ : ∃ x, u.heap.size = x := ⟨_, rfl⟩
  rw [hgxe] at kx
  rw [hgxe]
  replace hgxe := Lib.hid hgxe
  have c2 : u1.cell? ⟨g, 2, none⟩ = some (.slice rA s.ins.length rC) := hC.1.cell 2
  replace hC := Lib.hid hC
  replace hz1 := Lib.hid hz1
  replace hz2 := Lib.hid hz2
  replace hi := Lib.hid hi
  replace hbt := Lib.hid hbt
  obtain ⟨N, hN⟩ : ∃ n, s.ins.length = n := ⟨_, rfl⟩
  have hN9 : (N : Int) ≤ 3000 := by omega
  rw [hN] at c2
  go_wp2_with fail
  go_loopw [12] (fun i wr => ∃ k : Nat, k ≤ N ∧ i = .int .i64 (k : Int) ∧ (∀ j y, j < k → s.ins[j]? = some y → y ≠ (x0, x1, x2, x3)) ∧ Below u1.heap.size u1 wr) (fun i _ => N - (intOf i).toNat)
  case atStart => exact ⟨0, Nat.zero_le _, rfl, fun j y hj => absurd hj (by omega), Below.refl _ _⟩
  case round =>
    clear c2
    obtain ⟨k, hk, rfl, hT, hB⟩ := hrel
    by_cases hlt : k < s.ins.length
    · obtain ⟨bb, off, hA, hcells⟩ := qI.out (by omega)
      have hx := List.getElem?_eq_getElem hlt
      obtain ⟨q0, q1, q2, q3⟩ := hcells k _ hx
      replace q0 := cell_later hB q0
      replace q1 := cell_later hB q1
      replace q2 := cell_later hB q2
      replace q3 := cell_later hB q3
      have d0 : wr.cell? ⟨gx, 0, none⟩ = some (.int .i64 x0) := (kx.out.kept hB).cell 0
      have d1 : wr.cell? ⟨gx, 1, none⟩ = some (.int .i64 x1) := (kx.out.kept hB).cell 1
      have d2 : wr.cell? ⟨gx, 2, none⟩ = some (.int .i64 x2) := (kx.out.kept hB).cell 2
      have d3 : wr.cell? ⟨gx, 3, none⟩ = some (.int .i64 x3) := (kx.out.kept hB).cell 3
      have e0 : ∀ o : Obj, (wr.alloc o).cell? ⟨gx, 0, none⟩ = some (.int .i64 x0) := fun o => cell_later (m1 wr o) d0
      have e1 : ∀ o : Obj, (wr.alloc o).cell? ⟨gx, 1, none⟩ = some (.int .i64 x1) := fun o => cell_later (m1 wr o) d1
      have e2 : ∀ o : Obj, (wr.alloc o).cell? ⟨gx, 2, none⟩ = some (.int .i64 x2) := fun o => cell_later (m1 wr o) d2
      have e3 : ∀ o : Obj, (wr.alloc o).cell? ⟨gx, 3, none⟩ = some (.int .i64 x3) := fun o => cell_later (m1 wr o) d3
      clear hcells
      replace hT := Lib.hid hT
      have hbt2 := hbt.out
      generalize s.ins[k] = y at *
      obtain ⟨y0, y1, y2, y3⟩ := y
      dsimp only at q0 q1 q2 q3
      have hB2 := hB.alloc hB.size (.cells #[.int .i64 y0, .int .i64 y1, .int .i64 y2, .int .i64 y3] 31)
      have k0 : (0 : Int) ≤ (k : Int) := by omega
      have k1 : (k : Int) < (N : Int) := by omega
      have k3 := Lib.hid hlt
      replace hx := Lib.hid hx
      replace hN := Lib.hid hN
      subst hA
      by_cases he : (x0, x1, x2, x3) = (y0, y1, y2, y3)
      · have he4 : ∀ w, (binOp .eql 31 (.agg #[.int .i64 x0, .int .i64 x1, .int .i64 x2, .int .i64 x3]) (.agg #[.int .i64 y0, .int .i64 y1, .int .i64 y2, .int .i64 y3])).run Try.prog w = .ok (.bool true) w := fun w => by rw [eql4]; simp only [he, decide_true]
        have hP := Lib.hid (plc_here (x := (x0, x1, x2, x3)) (by rw [he]; exact hx.out) hT.out)
        replace he := Lib.hid he
        clear hbt2
        go_wp2
        go_ret
        have hB3 := mmore h1.out hB2
        exact ⟨by rw [hP.out.1]; rfl, ⟨_, _, _, by rw [show { s with ins := putP s.ins (x0, x1, x2, x3) } = s by rw [hP.out.2]]; exact hC.out.later hB2⟩, GrT.ofBelow hB3⟩
      · have he4 : ∀ w, (binOp .eql 31 (.agg #[.int .i64 x0, .int .i64 x1, .int .i64 x2, .int .i64 x3]) (.agg #[.int .i64 y0, .int .i64 y1, .int .i64 y2, .int .i64 y3])).run Try.prog w = .ok (.bool false) w := fun w => by rw [eql4]; simp only [he, decide_false]
        have hT2 : ∀ j y, j < k + 1 → s.ins[j]? = some y → y ≠ (x0, x1, x2, x3) := fun j y hj hy => by
          by_cases e : j = k
          · subst e
            rw [hx.out] at hy
            injection hy with hy
            rw [← hy]; exact fun e => he e.symm
          · exact hT.out j y (by omega) hy
        replace hT2 := Lib.hid hT2
        replace he := Lib.hid he
        clear hbt2 hT
        go_wp2
        go_roundw
        case rel => exact ⟨k + 1, by have := k3.out; have := hN.out; omega, by go_num, hT2.out, hB2⟩
        case measure => have := k3.out; have := hN.out; simp [intOf]; omega
    · obtain rfl : k = N := by omega
      have hP := Lib.hid (plc_none (l := s.ins) (x := (x0, x1, x2, x3)) (by rw [hN]; exact hT))
      clear hT hlt
      have d0 : wr.cell? ⟨gx, 0, none⟩ = some (.int .i64 x0) := (kx.out.kept hB).cell 0
      have d1 : wr.cell? ⟨gx, 1, none⟩ = some (.int .i64 x1) := (kx.out.kept hB).cell 1
      have d2 : wr.cell? ⟨gx, 2, none⟩ = some (.int .i64 x2) := (kx.out.kept hB).cell 2
      have d3 : wr.cell? ⟨gx, 3, none⟩ = some (.int .i64 x3) := (kx.out.kept hB).cell 3
      have hCw := hC.out.later hB
      have c2 : wr.cell? ⟨g, 2, none⟩ = some (.slice rA s.ins.length rC) := hCw.1.cell 2
      rw [hN] at c2
      have hO : wr.drew.ownsRow B 31 4 (.slice rA k rC) k (cellsI s.ins) := by
        have := hCw.2.1
        rw [hN] at this
        exact mown_below this (Below.refl _ _).drew
      have xf : ∀ o : Obj, (wr.alloc o).cell? ⟨g, 2, none⟩ = some (.slice rA k rC) := fun o => cell_later (m1 wr o) c2
      have n3 : k + 1 ≤ maxLen := by unfold maxLen; omega
      have n4 : (k + 1) * 32 ≤ 140737488355328 := by omega
      have n5 : B ≤ wr.drew.heap.size := by
        have e1 := hB.size
        have : wr.drew.heap.size = wr.heap.size := rfl
        omega
      have hw1 : IntKind.i64.wrap ((k : Int) + 1 - 1) = (k : Int) := by rw [IntKind.wrap_i64]; omega
      have hw2 : IntKind.i64.wrap (k : Int) = (k : Int) := by rw [IntKind.wrap_i64]; omega
      have hBw := Lib.hid (mmore h1.out hB)
      replace hCw := Lib.hid hCw
      clear hB
      replace hN := Lib.hid hN
      go_upto_region 7 with (fail)
      go_region_law (refine step_append_own rfl (.tmp 26) (.tmp 28) 22 rfl B 31 i0 (.agg #[.int .i64 0, .int .i64 0, .int .i64 0, .int .i64 0]) 4 32 Try.underlying22 hi.out hz0 hz1.out hz2.out rfl (by decide) (.slice rA k rC) k (cellsI s.ins) rfl (hO.alloc _) ⟨wr.drew.heap.size, 0, none⟩ 1 1 [.int .i64 x0, .int .i64 x1, .int .i64 x2, .int .i64 x3] rfl rfl (news_4 _ _ _ _ _ _) (one_4 _ _ _ _) n3 n4 (Nat.le_trans n5 (by simp)) ?_; intro v' w3 hO3 hgrow; obtain ⟨g3, cap3, rfl, _, _⟩ := hO3.form (by omega); have hR := outC_putI (u := u) (v' := .slice (some ⟨g3, 0, none⟩) (k + 1) cap3) hB0.out hBw.out hCw.out (by rw [hN.out]; exact hO3) ((Below.refl wr.heap.size wr).alloc (Nat.le_refl _) (.cells #[.int .i64 x0, .int .i64 x1, .int .i64 x2, .int .i64 x3] 31)).drew (by rw [hN.out]; exact hgrow); have y2 : w3.cell? ⟨g, 2, none⟩ = some (.slice rA s.ins.length rC) := hR.1.cell 2; have y3 := hR.1.free 2; replace hR := Lib.hid hR.2; clear hgrow hO3)
      all_goals have z2 : (w3.setCell ⟨g, 2, none⟩ (.slice (some ⟨g3, 0, none⟩) (k + 1) cap3)).cell? ⟨g, 2, none⟩ = some (.slice (some ⟨g3, 0, none⟩) (k + 1) cap3) := hR.out.1.1.cell 2
      all_goals generalize w3.setCell ⟨g, 2, none⟩ (.slice (some ⟨g3, 0, none⟩) (k + 1) cap3) = w4 at *
      all_goals clear y2 y3 xf c2
      all_goals go_wp2
      all_goals go_ret
      all_goals exact ⟨by rw [hP.out.1, hN.out]; rfl, ⟨_, _, _, by rw [show ({ s with ins := putP s.ins (x0, x1, x2, x3) } : DrS) = { s with ins := s.ins ++ [(x0, x1, x2, x3)] } by rw [hP.out.2]]; exact hR.out.1⟩, hR.out.2⟩
set_option maxHeartbeats 8000000 in
set_option maxRecDepth 100000 in
theorem rconstant_put (B g : Nat) (s : DrS) (x0 : Int) (x1 : Nat) (u : World) (h : OutJ B g s u) (hB : B ≤ g) (hs : s.cs.length ≤ 3000) (hbt : ∀ v ∈ s.cs, v.2 < 18446744073709551616) :
    Calls Try.prog 16 #[.pointer (some ⟨g, 0, none⟩), .agg #[.int .i64 x0, .int .u64 (x1 : Int)]] u (PutO 34 B g (plcP s.cs (x0, x1)) { s with cs := putP s.cs (x0, x1) } u) := by
  obtain ⟨vI, vC, vL, hC⟩ := h
  have hB0 := Lib.hid hB
  obtain ⟨i0, hi, hz0, hz1, hz2⟩ := info_parts infoV
  obtain ⟨rA, rC, e0, qI⟩ : ∃ A cap, vC = .slice A s.cs.length cap ∧ RowV u A s.cs.length s.cs := by
    obtain ⟨kb, oI, oC, oL⟩ := hC
    exact own_row oC hbt
  subst e0
  have hgl := hC.1.lt
  have h1 := m1 u (.cells #[.int .i64 x0, .int .u64 (x1 : Int)] 34)
  have kx := Lib.hid (Blk.made u 34 #[.int .i64 x0, .int .u64 (x1 : Int)])
  replace qI := Lib.hid (qI.later h1)
  replace hC := hC.later h1
  have hgx : g < u.heap.size := hgl
  have hgs : u.heap.size ≤ (u.alloc (.cells #[.int .i64 x0, .int .u64 (x1 : Int)] 34)).heap.size := h1.size
  go_enter Try.func16, Try.ntmps16
  go_upto_region 1 with (fail)
  have h1 := Lib.hid h1
  generalize u.alloc (.cells #[.int .i64 x0, .int .u64 (x1 : Int)] 34) = u1 at *
  obtain ⟨gx, hgxe⟩ : ∃ x, u.heap.size = x := ⟨_, rfl⟩
  rw [hgxe] at kx
  rw [hgxe]
  replace hgxe := Lib.hid hgxe
  have c2 : u1.cell? ⟨g, 3, none⟩ = some (.slice rA s.cs.length rC) := hC.1.cell 3
  replace hC := Lib.hid hC
  replace hz1 := Lib.hid hz1
  replace hz2 := Lib.hid hz2
  replace hi := Lib.hid hi
  replace hbt := Lib.hid hbt
  obtain ⟨N, hN⟩ : ∃ n, s.cs.length = n := ⟨_, rfl⟩
  have hN9 : (N : Int) ≤ 3000 := by omega
  rw [hN] at c2
  go_wp2_with fail
  go_loopw [12] (fun i wr => ∃ k : Nat, k ≤ N ∧ i = .int .i64 (k : Int) ∧ (∀ j y, j < k → s.cs[j]? = some y → y ≠ (x0, x1)) ∧ Below u1.heap.size u1 wr) (fun i _ => N - (intOf i).toNat)
  case atStart => exact ⟨0, Nat.zero_le _, rfl, fun j y hj => absurd hj (by omega), Below.refl _ _⟩
  case round =>
    clear c2
    obtain ⟨k, hk, rfl, hT, hB⟩ := hrel
    by_cases hlt : k < s.cs.length
    · obtain ⟨bb, off, hA, hcells⟩ := qI.out.2.2 (by omega)
      have hx := List.getElem?_eq_getElem hlt
      obtain ⟨q0, q1⟩ := hcells k s.cs[k].1 s.cs[k].2 hx
      replace q0 := cell_later hB q0
      replace q1 := cell_later hB q1
      have d0 : wr.cell? ⟨gx, 0, none⟩ = some (.int .i64 x0) := (kx.out.kept hB).cell 0
      have d1 : wr.cell? ⟨gx, 1, none⟩ = some (.int .u64 (x1 : Int)) := (kx.out.kept hB).cell 1
      have e0 : ∀ o : Obj, (wr.alloc o).cell? ⟨gx, 0, none⟩ = some (.int .i64 x0) := fun o => cell_later (m1 wr o) d0
      have e1 : ∀ o : Obj, (wr.alloc o).cell? ⟨gx, 1, none⟩ = some (.int .u64 (x1 : Int)) := fun o => cell_later (m1 wr o) d1
      clear hcells
      replace hT := Lib.hid hT
      have hbt2 := hbt.out
      generalize s.cs[k] = y at *
      obtain ⟨y0, y1⟩ := y
      dsimp only at q0 q1
      have hB2 := hB.alloc hB.size (.cells #[.int .i64 y0, .int .u64 (y1 : Int)] 34)
      have k0 : (0 : Int) ≤ (k : Int) := by omega
      have k1 : (k : Int) < (N : Int) := by omega
      have k3 := Lib.hid hlt
      replace hx := Lib.hid hx
      replace hN := Lib.hid hN
      subst hA
      by_cases he : (x0, x1) = (y0, y1)
      · have he4 : ∀ w, (binOp .eql 34 (.agg #[.int .i64 x0, .int .u64 (x1 : Int)]) (.agg #[.int .i64 y0, .int .u64 (y1 : Int)])).run Try.prog w = .ok (.bool true) w := fun w => by rw [eql2]; simp only [he, decide_true]
        have hP := Lib.hid (plc_here (x := (x0, x1)) (by rw [he]; exact hx.out) hT.out)
        replace he := Lib.hid he
        clear hbt2
        go_wp2
        go_ret
        have hB3 := mmore h1.out hB2
        exact ⟨by rw [hP.out.1]; rfl, ⟨_, _, _, by rw [show { s with cs := putP s.cs (x0, x1) } = s by rw [hP.out.2]]; exact hC.out.later hB2⟩, GrT.ofBelow hB3⟩
      · have he4 : ∀ w, (binOp .eql 34 (.agg #[.int .i64 x0, .int .u64 (x1 : Int)]) (.agg #[.int .i64 y0, .int .u64 (y1 : Int)])).run Try.prog w = .ok (.bool false) w := fun w => by rw [eql2]; simp only [he, decide_false]
        have hT2 : ∀ j y, j < k + 1 → s.cs[j]? = some y → y ≠ (x0, x1) := fun j y hj hy => by
          by_cases e : j = k
          · subst e
            rw [hx.out] at hy
            injection hy with hy
            rw [← hy]; exact fun e => he e.symm
          · exact hT.out j y (by omega) hy
        replace hT2 := Lib.hid hT2
        replace he := Lib.hid he
        clear hbt2 hT
        go_wp2
        go_roundw
        case rel => exact ⟨k + 1, by have := k3.out; have := hN.out; omega, by go_num, hT2.out, hB2⟩
        case measure => have := k3.out; have := hN.out; simp [intOf]; omega
    · obtain rfl : k = N := by omega
      have hP := Lib.hid (plc_none (l := s.cs) (x := (x0, x1)) (by rw [hN]; exact hT))
      clear hT hlt
      have d0 : wr.cell? ⟨gx, 0, none⟩ = some (.int .i64 x0) := (kx.out.kept hB).cell 0
      have d1 : wr.cell? ⟨gx, 1, none⟩ = some (.int .u64 (x1 : Int)) := (kx.out.kept hB).cell 1
      have hCw := hC.out.later hB
      have c2 : wr.cell? ⟨g, 3, none⟩ = some (.slice rA s.cs.length rC) := hCw.1.cell 3
      rw [hN] at c2
      have hO : wr.drew.ownsRow B 34 2 (.slice rA k rC) k (cellsV s.cs) := by
        have := hCw.2.2.1
        rw [hN] at this
        exact mown_below this (Below.refl _ _).drew
      have xf : ∀ o : Obj, (wr.alloc o).cell? ⟨g, 3, none⟩ = some (.slice rA k rC) := fun o => cell_later (m1 wr o) c2
      have n3 : k + 1 ≤ maxLen := by unfold maxLen; omega
      have n4 : (k + 1) * 16 ≤ 140737488355328 := by omega
      have n5 : B ≤ wr.drew.heap.size := by
        have e1 := hB.size
        have : wr.drew.heap.size = wr.heap.size := rfl
        omega
      have hw1 : IntKind.i64.wrap ((k : Int) + 1 - 1) = (k : Int) := by rw [IntKind.wrap_i64]; omega
      have hw2 : IntKind.i64.wrap (k : Int) = (k : Int) := by rw [IntKind.wrap_i64]; omega
      have hBw := Lib.hid (mmore h1.out hB)
      replace hCw := Lib.hid hCw
      clear hB
      replace hN := Lib.hid hN
      go_upto_region 7 with (fail)
      go_region_law (refine step_append_own rfl (.tmp 26) (.tmp 28) 23 rfl B 34 i0 (.agg #[.int .i64 0, .int .u64 0]) 2 16 Try.underlying23 hi.out hz0 hz1.out hz2.out rfl (by decide) (.slice rA k rC) k (cellsV s.cs) rfl (hO.alloc _) ⟨wr.drew.heap.size, 0, none⟩ 1 1 [.int .i64 x0, .int .u64 (x1 : Int)] rfl rfl (news_2 _ _ _ _) (one_2 _ _) n3 n4 (Nat.le_trans n5 (by simp)) ?_; intro v' w3 hO3 hgrow; obtain ⟨g3, cap3, rfl, _, _⟩ := hO3.form (by omega); have hR := outC_putC (u := u) (v' := .slice (some ⟨g3, 0, none⟩) (k + 1) cap3) hB0.out hBw.out hCw.out (by rw [hN.out]; exact hO3) ((Below.refl wr.heap.size wr).alloc (Nat.le_refl _) (.cells #[.int .i64 x0, .int .u64 (x1 : Int)] 34)).drew (by rw [hN.out]; exact hgrow); have y2 : w3.cell? ⟨g, 3, none⟩ = some (.slice rA s.cs.length rC) := hR.1.cell 3; have y3 := hR.1.free 3; replace hR := Lib.hid hR.2; clear hgrow hO3)
      all_goals have z2 : (w3.setCell ⟨g, 3, none⟩ (.slice (some ⟨g3, 0, none⟩) (k + 1) cap3)).cell? ⟨g, 3, none⟩ = some (.slice (some ⟨g3, 0, none⟩) (k + 1) cap3) := hR.out.1.1.cell 3
      all_goals generalize w3.setCell ⟨g, 3, none⟩ (.slice (some ⟨g3, 0, none⟩) (k + 1) cap3) = w4 at *
      all_goals clear y2 y3 xf c2
      all_goals go_wp2
      all_goals go_ret
      all_goals exact ⟨by rw [hP.out.1, hN.out]; rfl, ⟨_, _, _, by rw [show ({ s with cs := putP s.cs (x0, x1) } : DrS) = { s with cs := s.cs ++ [(x0, x1)] } by rw [hP.out.2]]; exact hR.out.1⟩, hR.out.2⟩
end Go.Proofs.Yteniipolcdnmfaa
namespace Go.Proofs.Yteniipolcdnmfaa
open Go.ChangeShapes Go.WideShapes Go.ChangeAt Go.RowKit Go.Fl
set_option linter.unusedVariables false
set_option linter.unusedSimpArgs false
/-- what a map of ints holds -/
def RelI (f : Int → Option Value) (s : Int → Int) : Prop := ∀ i, (f i).getD (.int .i64 0) = .int .i64 (s i)
theorem RelI.none : RelI (fun _ => Option.none) (fun _ => 0) := fun _ => rfl
theorem RelI.put {f : Int → Option Value} {s : Int → Int} (h : RelI f s) (i v : Int) : RelI (iput f i (.int .i64 v)) (fun j => if j = i then v else s j) := fun j => by
  unfold iput
  by_cases e : j = i
  · simp [e]
  · simp only [e, if_false]; exact h j
theorem infoIJ : ∃ j, Try.prog.info? 3 = some j ∧ j.zero = some (.int .i64 0) := by
  have h : (Try.prog.info? 3).map (·.zero) = some (some (.int .i64 0)) := by kernel_rfl
  cases hj : Try.prog.info? 3 with
  | none => rw [hj] at h; cases h
  | some j => rw [hj] at h; injection h with h; exact ⟨j, rfl, h⟩
theorem lookIJ {f : Int → Option Value} {s : Int → Int} {u : World} {r : Nat} (h : IMap u r f) (hr : RelI f s) (x : Int) :
    (Instr.lookup 48 (.map (some r)) (.int .i64 x) false).run Try.prog u = .ok (.int .i64 (s x)) u := by
  obtain ⟨j, h1, h2⟩ := infoIJ
  rw [run_lookup_I (P := Try.prog) Try.underlying48 Try.underlying3 h1 h2 h x, hr x]
theorem upIJ {f : Int → Option Value} {u : World} {r : Nat} (h : IMap u r f) (x v : Int) :
    ∃ u', (Instr.mapUpdate 48 (.map (some r)) (.int .i64 x) (.int .i64 v)).run Try.prog u = .ok () u' ∧ IMap u' r (iput f x (.int .i64 v)) ∧ u.grownBy u' (some r) :=
  run_update_I (P := Try.prog) Try.underlying48 Try.underlying3 h x (.int .i64 v)
/-- what the loop over what is read has made of what is needed -/
def needJ (F : Int → Bool) (i : Int) (l : List Int) : Int → Bool := if F i = true then fun z => decide (z ∈ l) || F z else F
theorem needJ_at (F : Int → Bool) (i : Int) (l : List Int) : needJ F i l i = F i := by
  unfold needJ
  cases h : F i <;> simp [h]
theorem needJ_nil (F : Int → Bool) (i : Int) : needJ F i [] = F := by
  unfold needJ
  split
  · funext z; simp
  · rfl
theorem needJ_yes {F : Int → Bool} {i : Int} {l : List Int} {j : Nat} {z : Int} (h : l[j]? = some z) (hF : F i = true) : needJ F i (l.take (j + 1)) = putB (needJ F i (l.take j)) z := by
  unfold needJ putB
  rw [if_pos hF, if_pos hF]
  funext y
  rw [List.take_add_one, h]
  by_cases e : y = z <;> simp [e]
theorem needJ_no {F : Int → Bool} {i : Int} {l m : List Int} (hF : F i = false) : needJ F i l = needJ F i m := by
  unfold needJ
  rw [if_neg (by simp [hF]), if_neg (by simp [hF])]
theorem need_step {l : List I4} {k : Nat} {x : I4} (F : Int → Bool) (h : l[k]? = some x) : needTo l (k + 1) F = needTo l k (needJ F (k : Int) (readsR x)) := by
  show needTo l k (match l[k]? with | some x => needAt F k x | none => F) = _
  rw [h]; rfl
theorem dr_bits {c : CodeP} (h : ∀ v ∈ c.cs, v.2 < 18446744073709551616) : ∀ k, ∀ v ∈ (drTo c k).cs, v.2 < 18446744073709551616
  | 0, v, hv => by simp [drTo] at hv
  | k + 1, v, hv => by
    cases hx : c.list[k]? with
    | none =>
      have : drTo c (k + 1) = drTo c k := by
        show (match c.list[k]? with | some x => drStep c (drTo c k) k x | none => drTo c k) = _
        rw [hx]
      rw [this] at hv
      exact dr_bits h k v hv
    | some x =>
      rw [drTo_at c k x hx] at hv
      unfold drStep at hv
      by_cases hn : needOf c (k : Int) = true
      · rw [if_pos hn] at hv
        replace hv : v ∈ (if x.1 = 51 then putP (drTo c k).cs (csAt c x.2.2.1) else (drTo c k).cs) := hv
        by_cases h51 : x.1 = 51
        · rw [if_pos h51] at hv
          unfold putP at hv
          by_cases hm : csAt c x.2.2.1 ∈ (drTo c k).cs
          · rw [if_pos hm] at hv; exact dr_bits h k v hv
          · rw [if_neg hm] at hv
            rcases List.mem_append.1 hv with hv | hv
            · exact dr_bits h k v hv
            · simp at hv
              subst hv
              unfold csAt
              cases he : c.cs[x.2.2.1.toNat]? with
              | none => decide
              | some u => exact h u (List.mem_of_getElem? he)
        · rw [if_neg h51] at hv; exact dr_bits h k v hv
      · rw [if_neg hn] at hv; exact dr_bits h k v hv
theorem dr_pos {c : CodeP} (hp : PlainC c) : 0 < (drTo c c.list.length).list.length := by
  have h1 := hp.2.1
  have h2 := hp.2.2.1
  have hl : c.list.length - 1 < c.list.length := by omega
  have hz : needOf c ((c.list.length - 1 : Nat) : Int) = true := by
    rw [show ((c.list.length - 1 : Nat) : Int) = c.regs by omega]; exact need_end
  have hq := drTo_at c (c.list.length - 1) _ (List.getElem?_eq_getElem hl)
  rw [show c.list.length - 1 + 1 = c.list.length by omega] at hq
  rw [hq]; unfold drStep; rw [if_pos hz]; unfold drPut; simp
theorem endD_len (l : List I4) : (endD l).length = l.length := by
  unfold endD
  split <;> simp
theorem quad_far {w : World} {b : Nat} {p : Addr} {v : Value} {l : List I4} (h : QuadAt w (some ⟨b, 0, none⟩) l) (hp : p.block ≠ b) : QuadAt (w.setCell p v) (some ⟨b, 0, none⟩) l := fun hn => by
  obtain ⟨b', off, e, hc⟩ := h hn
  injection e with e
  injection e with e1 e2
  subst e1 e2
  have far : ∀ j, (w.setCell p v).cell? ⟨b, j, none⟩ = w.cell? ⟨b, j, none⟩ := fun j => World.cell?_setCell_far w p ⟨b, j, none⟩ v hp
  exact ⟨b, 0, rfl, fun i x hi => by rw [far, far, far, far]; exact hc i x hi⟩
theorem quad_endD {w : World} {b m : Nat} {l : List I4} {old : Value} (hm : m + 1 = l.length) (h : QuadAt w (some ⟨b, 0, none⟩) l) (hold : w.cell? ⟨b, m * 4 + 1, none⟩ = some old) : QuadAt (w.setCell ⟨b, m * 4 + 1, none⟩ (.int .i64 0)) (some ⟨b, 0, none⟩) (endD l) := fun hn => by
  rw [endD_len] at hn
  obtain ⟨b', off, e, hc⟩ := h hn
  injection e with e
  injection e with e1 e2
  subst e1 e2
  have other : ∀ j, j ≠ m * 4 + 1 → (w.setCell ⟨b, m * 4 + 1, none⟩ (.int .i64 0)).cell? ⟨b, j, none⟩ = w.cell? ⟨b, j, none⟩ := fun j hj => by
    rw [World.cell?_setCell_other]
    intro e
    injection e with _ e
    omega
  refine ⟨b, 0, rfl, fun i x hi => ?_⟩
  have hil : i < l.length := by have := (List.getElem?_eq_some_iff.1 hi).1; rw [endD_len] at this; exact this
  by_cases e : i = m
  · subst e
    have hx := List.getElem?_eq_getElem hil
    rw [endD_last hm hx] at hi
    injection hi with hi
    subst hi
    obtain ⟨h0, h1, h2, h3⟩ := hc i _ hx
    refine ⟨by rw [other _ (by omega)]; exact h0, ?_, by rw [other _ (by omega)]; exact h2, by rw [other _ (by omega)]; exact h3⟩
    rw [Nat.zero_add]
    apply World.cell?_setCell_same
    exact hold
  · rw [endD_at (by omega)] at hi
    rw [other _ (by omega), other _ (by omega), other _ (by omega), other _ (by omega)]
    exact hc i x hi
theorem zeroCode : (Try.prog.info? 26).map (·.zero) = some (some (.agg #[.int .i64 0, .int .i64 0, .slice none 0 0, .slice none 0 0, .slice none 0 0])) := by kernel_rfl
/-- the code that is handed over, in a block of its own; the result's block; what is needed -/
structure D1 (w : World) (r1 : Nat) (cs : Array Value) (F : Int → Bool) (u : World) : Prop where
  code : Blk u w.heap.size 26 cs
  res : Blk u (w.heap.size + 1) 26 #[.int .i64 0, .int .i64 0, .slice none 0 0, .slice none 0 0, .slice none 0 0]
  need : ∃ f, IMap u r1 f ∧ RelB f F
  bel : Below w.heap.size w u
theorem D1.later {w u u1 : World} {r1 : Nat} {cs : Array Value} {F : Int → Bool} (h : D1 w r1 cs F u) (hb : Below u.heap.size u u1) : D1 w r1 cs F u1 := by
  obtain ⟨f, h1, h2⟩ := h.need
  exact ⟨h.code.kept hb, h.res.kept hb, ⟨f, h1.later hb, h2⟩, below_more h.bel hb⟩
theorem grown_below {w u u1 : World} {r : Nat} (hw : Below w.heap.size w u) (hG : u.grownBy u1 (some r)) (hr : w.heap.size ≤ r) : Below w.heap.size w u1 :=
  ⟨hG.os.trans hw.os, hG.tape.trans hw.tape, hG.output.trans hw.output, Nat.le_trans hw.size hG.size, fun k hk => (hG.block k (Nat.lt_of_lt_of_le hk hw.size) (by simp; omega)).trans (hw.block k hk)⟩
theorem D1.put {w u u1 : World} {r1 : Nat} {cs : Array Value} {F F' : Int → Bool} {f : Int → Option Value} (h : D1 w r1 cs F u) (hM : IMap u1 r1 f) (hR : RelB f F') (hG : u.grownBy u1 (some r1)) (hr : w.heap.size + 2 ≤ r1) : D1 w r1 cs F' u1 :=
  ⟨h.code.grown hG (by simp; omega), h.res.grown hG (by simp; omega), ⟨f, hM, hR⟩, grown_below h.bel hG (by omega)⟩
/-- and code that is being written, and what registers became -/
structure D2 (w : World) (c : CodeP) (r1 r2 g : Nat) (cs : Array Value) (s : DrS) (u : World) : Prop where
  d1 : D1 w r1 cs (needOf c) u
  out : OutJ w.heap.size g s u
  bec : ∃ f, IMap u r2 f ∧ RelI f s.bec
theorem D2.later {w u u1 : World} {c : CodeP} {r1 r2 g : Nat} {cs : Array Value} {s : DrS} (h : D2 w c r1 r2 g cs s u) (hb : Below u.heap.size u u1) : D2 w c r1 r2 g cs s u1 := by
  obtain ⟨f, h1, h2⟩ := h.bec
  exact ⟨h.d1.later hb, h.out.later hb, ⟨f, h1.later hb, h2⟩⟩
theorem D2.gr {w u u1 : World} {c : CodeP} {r1 r2 g : Nat} {cs : Array Value} {s s' : DrS} {T : TypeId} (h : D2 w c r1 r2 g cs s u) (ho : OutJ w.heap.size g s' u1) (hg : GrT T w.heap.size g u u1) (hs : s'.bec = s.bec) (hT : 26 ≠ T) (h1 : w.heap.size + 2 ≤ g) (h2 : r1 ≠ g) (h3 : r2 ≠ g) : D2 w c r1 r2 g cs s' u1 := by
  obtain ⟨f, e1, e2⟩ := h.bec
  obtain ⟨f1, m1, m2⟩ := h.d1.need
  exact ⟨⟨hg.blk h.d1.code (by omega) hT, hg.blk h.d1.res (by omega) hT, ⟨f1, hg.imap m1 h2, m2⟩, hg.below h.d1.bel (Nat.le_refl _) (by omega)⟩, ho, ⟨f, hg.imap e1 h3, by rw [hs]; exact e2⟩⟩
theorem OutJ.put {B g r : Nat} {s : DrS} {u u1 : World} {f : Int → Option Value} (h : OutJ B g s u) (hM : IMap u r f) (hG : u.grownBy u1 (some r)) (hr : r ≠ g) : OutJ B g s u1 := by
  obtain ⟨vI, vC, vL, kb, oI, oC, oL⟩ := h
  have no : ∀ {e : TypeId} {sz n : Nat} {v : Value} {xs : List Value}, u.ownsRow B e sz v n xs → v.ownBlock ≠ some r := fun ho e0 => by
    obtain ⟨es, cl, hm, _⟩ := hM
    rcases ho.2 with ⟨e1, _⟩ | ⟨g1, cap, cur, e1, _, hh, _⟩
    · rw [e1] at e0; cases e0
    · rw [e1] at e0
      simp [Value.ownBlock] at e0
      subst e0
      rw [hm] at hh
      cases hh
  exact ⟨vI, vC, vL, kb.grown hG (by simp; exact fun e => hr e.symm), oI.kept hG (.inr (no oI)), oC.kept hG (.inr (no oC)), oL.kept hG (.inr (no oL))⟩
theorem D2.bput {w u u1 : World} {c : CodeP} {r1 r2 g : Nat} {cs : Array Value} {s : DrS} {f0 f : Int → Option Value} {b' : Int → Int} (h : D2 w c r1 r2 g cs s u) (h0 : IMap u r2 f0) (hM : IMap u1 r2 f) (hR : RelI f b') (hG : u.grownBy u1 (some r2)) (h1 : w.heap.size + 2 ≤ r2) (h2 : r1 ≠ r2) (h3 : r2 ≠ g) : D2 w c r1 r2 g cs { s with bec := b' } u1 := by
  obtain ⟨f1, m1, m2⟩ := h.d1.need
  have ho := h.out.put h0 hG h3
  obtain ⟨vI, vC, vL, ho⟩ := ho
  exact ⟨⟨h.d1.code.grown hG (by simp; omega), h.d1.res.grown hG (by simp; omega), ⟨f1, m1.grown hG (by simp; exact h2), m2⟩, grown_below h.d1.bel hG (by omega)⟩, ⟨vI, vC, vL, ho⟩, ⟨f, hM, hR⟩⟩
/-- code is answered, in memory of its own -/
def DrO (c : CodeP) (w : World) (e : Ending) (w' : World) : Prop := ∃ v : CV, e = .returned (codeV c v) ∧ CodeIn w' c v ∧ Below w.heap.size w w'
theorem cell_gmap {u u1 : World} {r : Nat} {f : Int → Option Value} {a : Addr} {v : Value} (hM : IMap u r f) (hG : u.grownBy u1 (some r)) (h : u.cell? a = some v) : u1.cell? a = some v := by
  refine hG.cell h fun e => ?_
  obtain ⟨es, cl, hm, _⟩ := hM
  injection e with e
  rw [← e] at hm
  simp [World.cell?, hm] at h
theorem IsAt.gmap {u u1 : World} {r : Nat} {f : Int → Option Value} {A : Option Addr} {l : List Int} (h : IsAt u A l) (hM : IMap u r f) (hG : u.grownBy u1 (some r)) : IsAt u1 A l := fun hn => by
  obtain ⟨b, off, e, hc⟩ := h hn
  exact ⟨b, off, e, fun i z hz => cell_gmap hM hG (hc i z hz)⟩
theorem cast_pred (k : Nat) : (((k + 1 : Nat) : Int) - 1) = (k : Int) := by omega
set_option maxHeartbeats 400000000 in
set_option maxRecDepth 100000 in
theorem rdrop_any (c : CodeP) (v : CV) (w : World) (hc : CodeIn w c v) (hp : PlainC c) (h1024 : c.list.length ≤ 1024) : Calls Try.prog 6 #[codeV c v] w (DrO (drOf c) w) := by
  obtain ⟨xA, xC, cA, cC, lA, lC⟩ := v
  have hL := Lib.hid (show QuadAt w lA c.list from hc.list)
  have hI := Lib.hid (show QuadAt w xA c.ins from hc.ins)
  have hCs := Lib.hid (show RowV w cA c.cs.length c.cs from hc.cs)
  have szI : c.ins.length ≤ 9223372036854775806 := by have := hc.szI; omega
  have szC : c.cs.length ≤ 9223372036854775806 := by have := hc.szC; omega
  have hbts := Lib.hid (dr_bits hc.cs.2.1)
  have hreg : c.regs = (c.list.length : Int) - 1 := hp.2.2.1.symm
  have hr1 : 1 ≤ c.regs := hp.2.1
  replace hreg := Lib.hid hreg
  replace hp := Lib.hid hp
  have e1 := Blk.made w 26 #[.int .i64 c.regs, .int .i64 c.slots, .slice xA c.ins.length xC, .slice cA c.cs.length cC, .slice lA c.list.length lC]
  have e2 := Blk.made (w.alloc (.cells #[.int .i64 c.regs, .int .i64 c.slots, .slice xA c.ins.length xC, .slice cA c.cs.length cC, .slice lA c.list.length lC] 26)) 26 #[.int .i64 0, .int .i64 0, .slice none 0 0, .slice none 0 0, .slice none 0 0]
  have hb2 := m2 w (.cells #[.int .i64 c.regs, .int .i64 c.slots, .slice xA c.ins.length xC, .slice cA c.cs.length cC, .slice lA c.list.length lC] 26) (.cells #[.int .i64 0, .int .i64 0, .slice none 0 0, .slice none 0 0, .slice none 0 0] 26)
  have e1 := e1.kept (m1 _ (.cells #[.int .i64 0, .int .i64 0, .slice none 0 0, .slice none 0 0, .slice none 0 0] 26))
  have hsz : (w.alloc (.cells #[.int .i64 c.regs, .int .i64 c.slots, .slice xA c.ins.length xC, .slice cA c.cs.length cC, .slice lA c.list.length lC] 26)).heap.size = w.heap.size + 1 := by simp
  have hsz2 : ((w.alloc (.cells #[.int .i64 c.regs, .int .i64 c.slots, .slice xA c.ins.length xC, .slice cA c.cs.length cC, .slice lA c.list.length lC] 26)).alloc (.cells #[.int .i64 0, .int .i64 0, .slice none 0 0, .slice none 0 0, .slice none 0 0] 26)).heap.size = w.heap.size + 2 := by simp
  rw [hsz] at e2
  clear hc hsz
  show Calls _ _ #[.agg #[.int .i64 c.regs, .int .i64 c.slots, .slice xA c.ins.length xC, .slice cA c.cs.length cC, .slice lA c.list.length lC]] _ _
  go_enter Try.func6, Try.ntmps6
  go_upto_region 1 with (fail)
  generalize (w.alloc (.cells #[.int .i64 c.regs, .int .i64 c.slots, .slice xA c.ins.length xC, .slice cA c.cs.length cC, .slice lA c.list.length lC] 26)).alloc (.cells #[.int .i64 0, .int .i64 0, .slice none 0 0, .slice none 0 0, .slice none 0 0] 26) = u0 at *
  have hmk : ∀ w, (Instr.makeMap 44 none).run Try.prog w = .ok (.map (some w.heap.size)) (w.alloc (.map #[] 0)) := fun w => run_makeMap_plain w _
  have c0 : u0.cell? ⟨w.heap.size, 0, none⟩ = some (.int .i64 c.regs) := e1.cell 0
  have c0' : ∀ o : Obj, (u0.alloc o).cell? ⟨w.heap.size, 0, none⟩ = some (.int .i64 c.regs) := fun o => cell_later (m1 u0 o) c0
  obtain ⟨u1, hup, hM, hG⟩ := upB (IMap.new u0) c.regs
  have hR := RelB.none.put c.regs
  have hD0 : D1 w u0.heap.size #[.int .i64 c.regs, .int .i64 c.slots, .slice xA c.ins.length xC, .slice cA c.cs.length cC, .slice lA c.list.length lC] (fun j => decide (j = c.regs)) u1 := by
    have a1 := e1.kept (m1 u0 (.map #[] 0))
    have a2 := e2.kept (m1 u0 (.map #[] 0))
    refine ⟨a1.grown hG (by simp; omega), a2.grown hG (by simp; omega), ⟨_, hM, ?_⟩, grown_below (below_more hb2 (m1 u0 (.map #[] 0))) hG (by omega)⟩
    have : (fun j => decide (j = c.regs)) = putB (fun _ => false) c.regs := by funext j; simp [putB]
    rw [this]; exact hR
  have c1 : u1.cell? ⟨w.heap.size, 0, none⟩ = some (.int .i64 c.regs) := hD0.code.cell 0
  have hr1g : w.heap.size + 2 ≤ u0.heap.size := by omega
  clear hR hM e1 e2 hb2
  obtain ⟨r1, hr1e⟩ : ∃ x, u0.heap.size = x := ⟨_, rfl⟩
  rw [hr1e] at hD0 hr1g hup
  replace hr1e := Lib.hid hr1e
  replace hr1g := Lib.hid hr1g
  have hmk0 : (Instr.makeMap 44 none).run Try.prog u0 = .ok (.map (some r1)) (u0.alloc (.map #[] 0)) := by rw [← hr1e.out]; exact hmk u0
  clear hmk hG
  replace hD0 := Lib.hid hD0
  go_upto_region 2 with (fail)
  clear hmk0 hup c0 c0' hsz2
  go_wp2_with fail
  go_loopw [4] (fun i wr => ∃ (k : Nat) (F : Int → Bool), k ≤ c.list.length ∧ i = .int .i64 ((k : Int) - 1) ∧ needTo c.list k F = needOf c ∧ D1 w r1 #[.int .i64 c.regs, .int .i64 c.slots, .slice xA c.ins.length xC, .slice cA c.cs.length cC, .slice lA c.list.length lC] F wr) (fun i _ => (intOf i + 1).toNat)
  case atStart => exact ⟨c.list.length, _, Nat.le_refl _, by rw [hreg.out], rfl, hD0.out⟩
  case round =>
    clear hD0 c1
    obtain ⟨k1, F, hk, rfl, hN, hD⟩ := hrel
    by_cases hlt : 0 < k1
    · obtain ⟨k, rfl⟩ : ∃ k, k1 = k + 1 := ⟨k1 - 1, by omega⟩
      have hkl : k < c.list.length := by omega
      obtain ⟨bb, off, rfl, hcells⟩ := hL.out (by omega)
      have hx := List.getElem?_eq_getElem hkl
      obtain ⟨q0, q1, q2, q3⟩ := hcells k _ hx
      have hst := need_step F hx
      replace q0 := cell_later hD.bel q0
      replace q1 := cell_later hD.bel q1
      replace q2 := cell_later hD.bel q2
      replace q3 := cell_later hD.bel q3
      clear hcells
      generalize c.list[k] = x at *
      obtain ⟨op, d, ia, ib⟩ := x
      dsimp only at q0 q1 q2 q3
      have hN2 := Lib.hid (hst.symm.trans hN)
      clear hN hst hx
      have RD := Lib.hid (rreads_any op d ia ib)
      have hl2 := readsR_len (op, d, ia, ib)
      obtain ⟨l, hl⟩ : ∃ l, l = readsR (op, d, ia, ib) := ⟨_, rfl⟩
      rw [← hl] at RD hl2 hN2
      clear hl
      have s4 : wr.cell? ⟨w.heap.size, 4, none⟩ = some (.slice (some ⟨bb, off, none⟩) c.list.length lC) := hD.code.cell 4
      rw [cast_pred]
      have k0 : (k : Int) ≥ 0 := by omega
      have k2 : (k : Int) < (c.list.length : Int) := by omega
      have hkk := Lib.hid hkl
      clear hkl hlt hk
      go_wp2_with fail
      refine (RD.out _).mono ?_; rintro e u3 ⟨LA, lc, rfl, hLs, hb⟩
      replace hD := hD.later hb
      clear hb q0 q1 q2 q3 s4 RD
      replace hLs := Lib.hid hLs
      have hD0' := Lib.hid hD
      go_wp2_with fail
      go_loopw [30] (fun i wr => ∃ j : Nat, j ≤ l.length ∧ i = .int .i64 (j : Int) ∧ D1 w r1 #[.int .i64 c.regs, .int .i64 c.slots, .slice xA c.ins.length xC, .slice cA c.cs.length cC, .slice (some ⟨bb, off, none⟩) c.list.length lC] (needJ F (k : Int) (l.take j)) wr ∧ IsAt wr LA l) (fun i _ => l.length - (intOf i).toNat)
      case atStart => exact ⟨0, Nat.zero_le _, rfl, by rw [List.take_zero, needJ_nil]; exact hD0'.out, hLs.out⟩
      case round =>
        clear hD0' hD hLs
        obtain ⟨j, hj, rfl, hD, hLs⟩ := hrel
        by_cases hjl : j < l.length
        · obtain ⟨b3, off3, hA3, hcells⟩ := hLs (by omega)
          have hx := List.getElem?_eq_getElem hjl
          have z0 := hcells j _ hx
          clear hcells
          generalize l[j] = z at *
          obtain ⟨f, hf, hrf⟩ := id hD.need
          have hlk := lookB hf hrf (k : Int)
          rw [needJ_at] at hlk
          have j0 : (0 : Int) ≤ (j : Int) := by omega
          have j1 : (j : Int) < (l.length : Int) := by omega
          have j3 := Lib.hid hjl
          obtain ⟨w3, hup, hM, hG⟩ := upB hf z
          have hRz := hrf.put z
          cases hFk : F (k : Int) with
          | false =>
            rw [hFk] at hlk
            have hn := needJ_no (l := l.take j) (m := l.take (j + 1)) hFk
            have hD2 := Lib.hid hD
            replace hn := Lib.hid hn
            have hls2 := Lib.hid hLs
            clear hup hM hG hRz hf hrf hD hLs hx hFk
            subst hA3
            go_wp2
            go_roundw
            case rel => exact ⟨j + 1, by have := j3.out; omega, by go_num, by rw [← hn.out]; exact hD2.out, hls2.out⟩
            case measure => have := j3.out; simp [intOf]; omega
          | true =>
            rw [hFk] at hlk
            have hn := needJ_yes hx hFk
            rw [← hn] at hRz
            have hD2 := Lib.hid (hD.put hM hRz hG hr1g.out)
            have hls2 := Lib.hid (hLs.gmap hf hG)
            clear hM hG hRz hf hrf hD hLs hx hFk hn
            subst hA3
            go_wp2
            go_roundw
            case rel => exact ⟨j + 1, by have := j3.out; omega, by go_num, hD2.out, hls2.out⟩
            case measure => have := j3.out; simp [intOf]; omega
        · obtain rfl : j = l.length := by omega
          rw [List.take_length] at hD
          have hD2 := Lib.hid hD
          have hwk : IntKind.i64.wrap ((k : Int) - 1) = (k : Int) - 1 := by rw [IntKind.wrap_i64]; omega
          clear hD hLs hj
          go_wp2
          go_roundw
          case rel => exact ⟨k, _, by have := hkk.out; omega, by go_num, hN2.out, hD2.out⟩
          case measure => simp [intOf]
    · obtain rfl : k1 = 0 := by omega
      have hneg : ¬ ((0 : Nat) : Int) - 1 ≥ 0 := by omega
      replace hN : F = needOf c := hN
      subst hN
      have e1 := Blk.made wr 26 #[.int .i64 0, .int .i64 0, .slice none 0 0, .slice none 0 0, .slice none 0 0]
      have mB := IMap.new (wr.alloc (.cells #[.int .i64 0, .int .i64 0, .slice none 0 0, .slice none 0 0, .slice none 0 0] 26))
      have hsz : (wr.alloc (.cells #[.int .i64 0, .int .i64 0, .slice none 0 0, .slice none 0 0, .slice none 0 0] 26)).heap.size = wr.heap.size + 1 := by simp
      rw [hsz] at mB
      have hbm := m1 (wr.alloc (.cells #[.int .i64 0, .int .i64 0, .slice none 0 0, .slice none 0 0, .slice none 0 0] 26)) (.map #[] 0)
      replace e1 := e1.kept hbm
      have hb2 := m2 wr (.cells #[.int .i64 0, .int .i64 0, .slice none 0 0, .slice none 0 0, .slice none 0 0] 26) (.map #[] 0)
      have hr1l : r1 < wr.heap.size := by obtain ⟨f, hf, _⟩ := hD.need; exact hf.lt
      have hwl : w.heap.size ≤ wr.heap.size := hD.bel.size
      have hD2 : D2 w c r1 (wr.heap.size + 1) wr.heap.size #[.int .i64 c.regs, .int .i64 c.slots, .slice xA c.ins.length xC, .slice cA c.cs.length cC, .slice lA c.list.length lC] (drTo c 0) ((wr.alloc (.cells #[.int .i64 0, .int .i64 0, .slice none 0 0, .slice none 0 0, .slice none 0 0] 26)).alloc (.map #[] 0)) := by
        refine ⟨hD.later hb2, ⟨.slice none 0 0, .slice none 0 0, .slice none 0 0, e1, World.ownsRow_nil _ _ _ _, World.ownsRow_nil _ _ _ _, World.ownsRow_nil _ _ _ _⟩, ⟨_, mB, RelI.none⟩⟩
      have hg2 := hr1g.out
      clear e1 mB hbm hb2 hsz hD hk
      have hmk : (Instr.makeMap 48 none).run Try.prog (wr.alloc (.cells #[.int .i64 0, .int .i64 0, .slice none 0 0, .slice none 0 0, .slice none 0 0] 26)) = .ok (.map (some (wr.heap.size + 1))) ((wr.alloc (.cells #[.int .i64 0, .int .i64 0, .slice none 0 0, .slice none 0 0, .slice none 0 0] 26)).alloc (.map #[] 0)) := by
        have := run_makeMap_plain (P := Try.prog) (wr.alloc (.cells #[.int .i64 0, .int .i64 0, .slice none 0 0, .slice none 0 0, .slice none 0 0] 26)) 48
        simpa using this
      go_upto_region 13 with (fail)
      clear hmk
      generalize (wr.alloc (.cells #[.int .i64 0, .int .i64 0, .slice none 0 0, .slice none 0 0, .slice none 0 0] 26)).alloc (.map #[] 0) = u5 at *
      obtain ⟨r2, hr2⟩ : ∃ x, wr.heap.size + 1 = x := ⟨_, rfl⟩
      obtain ⟨g, hg⟩ : ∃ x, wr.heap.size = x := ⟨_, rfl⟩
      rw [hr2, hg] at hD2
      rw [hr2, hg]
      have hne : w.heap.size + 2 ≤ r1 ∧ w.heap.size + 2 ≤ g ∧ w.heap.size + 2 ≤ r2 ∧ r1 ≠ g ∧ r1 ≠ r2 ∧ r2 ≠ g := by omega
      replace hne := Lib.hid hne
      clear hr2 hg hr1l hwl hg2
      have c4 : u5.cell? ⟨w.heap.size, 4, none⟩ = some (.slice lA c.list.length lC) := hD2.d1.code.cell 4
      replace hD2 := Lib.hid hD2
      go_wp2_with fail
      clear c4
      go_loopw [46] (fun i wr => ∃ k : Nat, k ≤ c.list.length ∧ i = .int .i64 (k : Int) ∧ D2 w c r1 r2 g #[.int .i64 c.regs, .int .i64 c.slots, .slice xA c.ins.length xC, .slice cA c.cs.length cC, .slice lA c.list.length lC] (drTo c k) wr) (fun i _ => c.list.length - (intOf i).toNat)
      case atStart => exact ⟨0, Nat.zero_le _, rfl, hD2.out⟩
      case round =>
        clear hD2
        obtain ⟨k, hk, rfl, hD⟩ := hrel
        by_cases hlt : k < c.list.length
        · obtain ⟨bb, off, rfl, hcells⟩ := hL.out (by omega)
          have hx := List.getElem?_eq_getElem hlt
          obtain ⟨q0, q1, q2, q3⟩ := hcells k _ hx
          have hstep := drTo_at c k _ hx
          have p := hp.out.2.2.2 k _ hx
          replace q0 := cell_later hD.d1.bel q0
          replace q1 := cell_later hD.d1.bel q1
          replace q2 := cell_later hD.d1.bel q2
          replace q3 := cell_later hD.d1.bel q3
          clear hcells
          generalize c.list[k] = x at *
          obtain ⟨op, d, ia, ib⟩ := x
          dsimp only at q0 q1 q2 q3 p
          have hbk := hbts.out k
          have hlen := drTo_len c k
          obtain ⟨s, hs⟩ : ∃ s, drTo c k = s := ⟨_, rfl⟩
          rw [hs] at hD hstep hbk hlen
          replace hstep := Lib.hid hstep
          replace hbk := Lib.hid hbk
          replace p := Lib.hid p
          clear hx
          have k0 : (0 : Int) ≤ (k : Int) := by omega
          have k1 : (k : Int) < (c.list.length : Int) := by omega
          have k3 := Lib.hid hlt
          have kx := Blk.made wr 42 #[.int .i64 op, .int .i64 d, .int .i64 ia, .int .i64 ib]
          have hgx : wr.heap.size ≠ g := by obtain ⟨_, _, _, h⟩ := hD.out; have := h.1.lt; omega
          replace hD := hD.later (m1 wr (.cells #[.int .i64 op, .int .i64 d, .int .i64 ia, .int .i64 ib] 42))
          replace hgx := Lib.hid hgx
          go_upto_region 16 with (fail)
          generalize wr.alloc (.cells #[.int .i64 op, .int .i64 d, .int .i64 ia, .int .i64 ib] 42) = u1 at *
          generalize wr.heap.size = gx at *
          clear q0 q1 q2 q3
          have i2 : u1.cell? ⟨gx, 2, none⟩ = some (.int .i64 ia) := kx.cell 2
          obtain ⟨f, hf, hrf⟩ := id hD.d1.need
          have hlk := lookB hf hrf (k : Int)
          clear hf hrf
          cases hnk : needOf c (k : Int) with
          | false =>
            rw [hnk] at hlk
            have hs2 : drTo c (k + 1) = s := by rw [hstep.out]; unfold drStep; rw [if_neg (by rw [hnk]; simp)]
            rw [← hs2] at hD
            replace hD := Lib.hid hD
            clear hnk hs2 hs kx hstep p
            go_wp2
            go_roundw
            case rel => exact ⟨k + 1, by have := k3.out; omega, by go_num, hD.out⟩
            case measure => have := k3.out; simp [intOf]; omega
          | true =>
            rw [hnk] at hlk
            have hs2 : drTo c (k + 1) = drPut c s k (op, d, ia, ib) := by rw [hstep.out]; unfold drStep; rw [if_pos hnk]
            replace hs2 := Lib.hid hs2
            clear hnk hs hstep
            obtain ⟨f, hf, hrf⟩ := id hD.bec
            have hlb := lookIJ hf hrf ia
            clear hf hrf
            go_upto_region 18 with (fail)
            have i0 : u1.cell? ⟨gx, 0, none⟩ = some (.int .i64 op) := kx.cell 0
            have O := Lib.hid (roperands_any op)
            clear hlk hlb i2
            obtain ⟨n9, hn⟩ : ∃ n, opsP op = n := ⟨_, rfl⟩
            rw [hn] at O
            replace hn := Lib.hid hn
            go_wp2_with fail
            refine (O.out _).mono ?_; rintro e u2 ⟨rfl, hb⟩
            replace hD := hD.later hb
            replace kx := kx.kept hb
            clear hb i0
            go_upto_if 62 with (fail)
            go_cut [12] from 63 to 66 (fun b w' => b = .int .i64 (drB s (op, d, ia, ib)) ∧ D2 w c r1 r2 g #[.int .i64 c.regs, .int .i64 c.slots, .slice xA c.ins.length xC, .slice cA c.cs.length cC, .slice (some ⟨bb, off, none⟩) c.list.length lC] s w' ∧ Blk w' gx 42 #[.int .i64 op, .int .i64 d, .int .i64 ia, .int .i64 ib])
            case first =>
              have i3 : u2.cell? ⟨gx, 3, none⟩ = some (.int .i64 ib) := kx.cell 3
              obtain ⟨f, hf, hrf⟩ := id hD.bec
              have hlb := lookIJ hf hrf ib
              clear hf hrf
              by_cases h2 : n9 = 2
              · subst h2
                have hE : drB s (op, d, ia, ib) = s.bec ib := by unfold drB; rw [if_pos hn.out]
                replace hE := Lib.hid hE
                go_wp2_with fail
                go_meet
                exact ⟨by rw [hE.out], hD, kx⟩
              · have t2 : ((n9 : Int) == 2) = false := by simp; omega
                have t3 : ¬ (n9 : Int) = 2 := by omega
                have hE : drB s (op, d, ia, ib) = 0 := by unfold drB; rw [if_neg (by rw [hn.out]; exact h2)]
                replace hE := Lib.hid hE
                clear h2
                go_wp2_with fail
                go_meet
                exact ⟨by rw [hE.out], hD, kx⟩
            case rest =>
              obtain ⟨rfl, hD, kx⟩ := hcut
              have hinne := hne.out
              have i0 : wc.cell? ⟨gx, 0, none⟩ = some (.int .i64 op) := kx.cell 0
              have i2 : wc.cell? ⟨gx, 2, none⟩ = some (.int .i64 ia) := kx.cell 2
              obtain ⟨bB, hbB⟩ : ∃ b, b = drB s (op, d, ia, ib) := ⟨_, rfl⟩
              rw [← hbB]
              replace hbB := Lib.hid hbB
              clear O hn
              go_upto_if 69 with (fail)
              go_cut [11] from 70 to 77 (fun a w' => a = .int .i64 (if op = 50 then (plcP s.ins (inAt c ia) : Int) else s.bec ia) ∧ D2 w c r1 r2 g #[.int .i64 c.regs, .int .i64 c.slots, .slice xA c.ins.length xC, .slice cA c.cs.length cC, .slice (some ⟨bb, off, none⟩) c.list.length lC] { s with ins := if op = 50 then putP s.ins (inAt c ia) else s.ins } w' ∧ Blk w' gx 42 #[.int .i64 op, .int .i64 d, .int .i64 ia, .int .i64 ib])
              case first =>
                by_cases h50 : op = 50
                · subst h50
                  have hia := p.out.insA rfl
                  have ha0 := p.out.a0
                  obtain ⟨ja, hja⟩ : ∃ j : Nat, ia = (j : Int) := ⟨ia.toNat, by omega⟩
                  subst hja
                  have hjl : ja < c.ins.length := by omega
                  obtain ⟨b4, o4, rfl, hc4⟩ := hI.out (by omega)
                  have hxx := List.getElem?_eq_getElem hjl
                  obtain ⟨q0, q1, q2, q3⟩ := hc4 ja _ hxx
                  replace q0 := cell_later hD.d1.bel q0
                  replace q1 := cell_later hD.d1.bel q1
                  replace q2 := cell_later hD.d1.bel q2
                  replace q3 := cell_later hD.d1.bel q3
                  have hin : inAt c (ja : Int) = c.ins[ja] := by unfold inAt; rw [Int.toNat_natCast, hxx]; rfl
                  clear hc4 hxx
                  generalize c.ins[ja] = y at *
                  obtain ⟨y0, y1, y2, y3⟩ := y
                  dsimp only at q0 q1 q2 q3
                  have c2 : wc.cell? ⟨w.heap.size, 2, none⟩ = some (.slice (some ⟨b4, o4, none⟩) c.ins.length xC) := hD.d1.code.cell 2
                  have PI := Lib.hid (rinput_put w.heap.size g s y0 y1 y2 y3)
                  replace hin := Lib.hid hin
                  have j0 : (0 : Int) ≤ (ja : Int) := by omega
                  have j1 : (ja : Int) < (c.ins.length : Int) := by omega
                  have hls : s.ins.length ≤ 3000 := by omega
                  replace hls := Lib.hid hls
                  clear hlen hlt hk
                  go_wp2_with fail
                  refine (PI.out _ hD.out (by omega) hls.out hbk.out).mono ?_; rintro e u2 ⟨rfl, hO, hG⟩
                  have hD2 := Lib.hid (hD.gr hO hG rfl (by decide) hinne.2.1 hinne.2.2.2.1 hinne.2.2.2.2.2)
                  have kx2 := Lib.hid (hG.blk kx hgx.out (by decide))
                  clear hO hG hD kx c2 q0 q1 q2 q3 i0 i2 PI
                  go_wp2_with fail
                  go_meet
                  refine ⟨by rw [if_pos trivial, hin.out], ?_, kx2.out⟩
                  rw [if_pos trivial, hin.out]
                  exact hD2.out
                · have t50 : (op == 50) = false := by simpa using h50
                  replace h50 := Lib.hid h50
                  go_wp2_with fail
                  go_meet
                  refine ⟨by rw [if_neg h50.out], ?_, kx⟩
                  rw [if_neg h50.out]
                  exact hD
              case rest =>
                clear i0 i2 hD kx
                obtain ⟨rfl, hD, kx⟩ := hcut
                have i0 : wc.cell? ⟨gx, 0, none⟩ = some (.int .i64 op) := kx.cell 0
                have i2 : wc.cell? ⟨gx, 2, none⟩ = some (.int .i64 ia) := kx.cell 2
                obtain ⟨s1, hs1⟩ : ∃ s1, s1 = ({ s with ins := if op = 50 then putP s.ins (inAt c ia) else s.ins } : DrS) := ⟨_, rfl⟩
                rw [← hs1] at hD
                have hs1c : s1.cs = s.cs := by rw [hs1]
                have hs1l : s1.list = s.list := by rw [hs1]
                have hs1b : s1.bec = s.bec := by rw [hs1]
                replace hs1 := Lib.hid hs1
                replace hs1b := Lib.hid hs1b
                replace hs1l := Lib.hid hs1l
                replace hs1c := Lib.hid hs1c
                obtain ⟨a0, ha0⟩ : ∃ a0, a0 = (if op = 50 then (plcP s.ins (inAt c ia) : Int) else s.bec ia) := ⟨_, rfl⟩
                rw [← ha0]
                replace ha0 := Lib.hid ha0
                go_upto_if 80 with (fail)
                go_cut [11] from 81 to 88 (fun a w' => a = .int .i64 (drA c s (op, d, ia, ib)) ∧ D2 w c r1 r2 g #[.int .i64 c.regs, .int .i64 c.slots, .slice xA c.ins.length xC, .slice cA c.cs.length cC, .slice (some ⟨bb, off, none⟩) c.list.length lC] { s1 with cs := if op = 51 then putP s1.cs (csAt c ia) else s1.cs } w' ∧ Blk w' gx 42 #[.int .i64 op, .int .i64 d, .int .i64 ia, .int .i64 ib])
                case first =>
                  by_cases h51 : op = 51
                  · subst h51
                    have hia := p.out.conA rfl
                    have hia0 := p.out.a0
                    obtain ⟨ja, hja⟩ : ∃ j : Nat, ia = (j : Int) := ⟨ia.toNat, by omega⟩
                    subst hja
                    have hjl : ja < c.cs.length := by omega
                    obtain ⟨b4, o4, rfl, hc4⟩ := hCs.out.2.2 (by omega)
                    have hxx := List.getElem?_eq_getElem hjl
                    obtain ⟨q0, q1⟩ := hc4 ja c.cs[ja].1 c.cs[ja].2 hxx
                    have hbit := hCs.out.2.1 _ (List.getElem_mem hjl)
                    replace q0 := cell_later hD.d1.bel q0
                    replace q1 := cell_later hD.d1.bel q1
                    have hin : csAt c (ja : Int) = c.cs[ja] := by unfold csAt; rw [Int.toNat_natCast, hxx]; rfl
                    clear hc4 hxx
                    generalize c.cs[ja] = y at *
                    obtain ⟨y0, y1⟩ := y
                    dsimp only at q0 q1 hbit
                    have c3 : wc.cell? ⟨w.heap.size, 3, none⟩ = some (.slice (some ⟨b4, o4, none⟩) c.cs.length cC) := hD.d1.code.cell 3
                    have PI := Lib.hid (rconstant_put w.heap.size g s1 y0 y1)
                    have hA : drA c s (51, d, (ja : Int), ib) = (plcP s1.cs (y0, y1) : Int) := by rw [hs1c.out, ← hin]; rfl
                    replace hin := Lib.hid hin
                    replace hA := Lib.hid hA
                    have j0 : (0 : Int) ≤ (ja : Int) := by omega
                    have j1 : (ja : Int) < (c.cs.length : Int) := by omega
                    have hls : s1.cs.length ≤ 3000 := by rw [hs1c.out]; omega
                    have hbk1 : ∀ v ∈ s1.cs, v.2 < 18446744073709551616 := by rw [hs1c.out]; exact hbk.out
                    replace hls := Lib.hid hls
                    replace hbk1 := Lib.hid hbk1
                    clear hlen hlt hk
                    go_wp2_with fail
                    refine (PI.out _ hD.out (by omega) hls.out hbk1.out).mono ?_; rintro e u2 ⟨rfl, hO, hG⟩
                    have hD2 := Lib.hid (hD.gr hO hG rfl (by decide) hinne.2.1 hinne.2.2.2.1 hinne.2.2.2.2.2)
                    have kx2 := Lib.hid (hG.blk kx hgx.out (by decide))
                    clear hO hG hD kx c3 q0 q1 i0 i2 PI
                    go_wp2_with fail
                    go_meet
                    refine ⟨by rw [hA.out], ?_, kx2.out⟩
                    rw [if_pos trivial, hin.out]
                    exact hD2.out
                  · have t51 : (op == 51) = false := by simpa using h51
                    have hA : drA c s (op, d, ia, ib) = a0 := by rw [ha0.out]; unfold drA; rw [if_neg h51]
                    replace hA := Lib.hid hA
                    replace h51 := Lib.hid h51
                    go_wp2_with fail
                    go_meet
                    refine ⟨by rw [hA.out], ?_, kx⟩
                    rw [if_neg h51.out]
                    exact hD
                case rest =>
                  clear i0 i2 hD kx ha0
                  obtain ⟨rfl, hD, kx⟩ := hcut
                  obtain ⟨aA, haA⟩ : ∃ b, b = drA c s (op, d, ia, ib) := ⟨_, rfl⟩
                  rw [← haA]
                  replace haA := Lib.hid haA
                  obtain ⟨s2, hs2e⟩ : ∃ s2, s2 = ({ s1 with cs := if op = 51 then putP s1.cs (csAt c ia) else s1.cs } : DrS) := ⟨_, rfl⟩
                  rw [← hs2e] at hD
                  have hs2l : s2.list = s.list := by rw [hs2e]; exact hs1l.out
                  replace hs2e := Lib.hid hs2e
                  have i0 : wc.cell? ⟨gx, 0, none⟩ = some (.int .i64 op) := kx.cell 0
                  obtain ⟨N, hN⟩ : ∃ n, s2.list.length = n := ⟨_, rfl⟩
                  have hNk : N ≤ 1024 := by rw [← hN, hs2l]; omega
                  obtain ⟨f, hf, hrf⟩ := id hD.bec
                  obtain ⟨w3, hup, hM, hG⟩ := upIJ hf (k : Int) (N : Int)
                  have hD3 := hD.bput hf hM (hrf.put (k : Int) (N : Int)) hG hinne.2.2.1 hinne.2.2.2.2.1 hinne.2.2.2.2.2
                  have i0' := cell_gmap hf hG i0
                  obtain ⟨vI, vC, vL, hC⟩ := hD.out
                  obtain ⟨oA, oC, e0, qL⟩ := own_quad hC.2.2.2
                  subst e0
                  have c4 : wc.cell? ⟨g, 4, none⟩ = some (.slice oA s2.list.length oC) := hC.1.cell 4
                  have c4' := cell_gmap hf hG c4
                  rw [hN] at c4 c4'
                  have hC3 : OutC w.heap.size g { s2 with bec := fun j => if j = (k : Int) then (N : Int) else s2.bec j } vI vC (.slice oA s2.list.length oC) w3 := by
                    obtain ⟨kb, oI, oCC, oL⟩ := hC
                    have no : ∀ {e : TypeId} {sz n : Nat} {v : Value} {xs : List Value}, wc.ownsRow w.heap.size e sz v n xs → v.ownBlock ≠ some r2 := fun ho e0 => by
                      obtain ⟨es, cl, hm, _⟩ := hf
                      rcases ho.2 with ⟨e1, _⟩ | ⟨g1, cap, cur, e1, _, hh, _⟩
                      · rw [e1] at e0; cases e0
                      · rw [e1] at e0
                        simp [Value.ownBlock] at e0
                        subst e0
                        rw [hm] at hh
                        cases hh
                    exact ⟨kb.grown hG (by simp; exact fun e => hinne.2.2.2.2.2 e.symm), oI.kept hG (.inr (no oI)), oCC.kept hG (.inr (no oCC)), oL.kept hG (.inr (no oL))⟩
                  have hO : w3.drew.ownsRow w.heap.size 42 4 (.slice oA N oC) N (cellsI s2.list) := by
                    have := hC3.2.2.2
                    rw [show ({ s2 with bec := fun j => if j = (k : Int) then (N : Int) else s2.bec j } : DrS).list = s2.list from rfl, hN] at this
                    exact mown_below this (Below.refl _ _).drew
                  have xf : ∀ o : Obj, (w3.alloc o).cell? ⟨g, 4, none⟩ = some (.slice oA N oC) := fun o => cell_later (m1 w3 o) c4'
                  have n3 : N + 1 ≤ maxLen := by unfold maxLen; omega
                  have n4 : (N + 1) * 32 ≤ 140737488355328 := by omega
                  have n5 : w.heap.size ≤ w3.drew.heap.size := hD3.d1.bel.size
                  have hbase : w.heap.size ≤ g := by omega
                  obtain ⟨i9, hi, hz0, hz1, hz2⟩ := info_parts infoIns
                  replace hN := Lib.hid hN
                  replace hbase := Lib.hid hbase
                  replace hi := Lib.hid hi
                  replace hz1 := Lib.hid hz1
                  replace hz2 := Lib.hid hz2
                  replace hC3 := Lib.hid hC3
                  replace hD3 := Lib.hid hD3
                  replace hs2l := Lib.hid hs2l
                  have hfin : drPut c s k (op, d, ia, ib) = ({ s2 with bec := fun j => if j = (k : Int) then (N : Int) else s2.bec j, list := s2.list ++ [(op, (N : Int), aA, bB)] } : DrS) := by
                    rw [hbB.out, haA.out, ← hN.out, hs2l.out, hs2e.out, hs1.out]; rfl
                  replace hfin := Lib.hid hfin
                  have hwn : IntKind.i64.wrap ((k : Int) + 1) = (k : Int) + 1 := by rw [IntKind.wrap_i64]; omega
                  clear hC hD hM hG hrf hf kx qL hlen
                  go_upto_region 25 with (fail)
                  clear hup c4 i0
                  go_region_law (refine step_append_own rfl (.tmp 100) (.tmp 111) 24 rfl w.heap.size 42 i9 (.agg #[.int .i64 0, .int .i64 0, .int .i64 0, .int .i64 0]) 4 32 Try.underlying24 hi.out hz0 hz1.out hz2.out rfl (by decide) (.slice oA N oC) N (cellsI s2.list) rfl (hO.alloc _) ⟨w3.drew.heap.size, 0, none⟩ 1 1 [.int .i64 op, .int .i64 (N : Int), .int .i64 aA, .int .i64 bB] rfl rfl (news_4 _ _ _ _ _ _) (one_4 _ _ _ _) n3 n4 (Nat.le_trans n5 (by simp)) ?_; intro v' w5 hO3 hgrow; obtain ⟨g3, cap3, rfl, _, _⟩ := hO3.form (by omega); have hR := outC_putL (u := w3) (v' := .slice (some ⟨g3, 0, none⟩) (N + 1) cap3) hbase.out (Below.refl _ _) hC3.out (by rw [show ({ s2 with bec := fun j => if j = (k : Int) then (N : Int) else s2.bec j } : DrS).list = s2.list from rfl, hN.out]; exact hO3) ((Below.refl w3.heap.size w3).alloc (Nat.le_refl _) (.cells #[.int .i64 op, .int .i64 (N : Int), .int .i64 aA, .int .i64 bB] 42)).drew (by rw [show ({ s2 with bec := fun j => if j = (k : Int) then (N : Int) else s2.bec j } : DrS).list = s2.list from rfl, hN.out]; exact hgrow); have y2 : w5.cell? ⟨g, 4, none⟩ = some (.slice oA s2.list.length oC) := hR.1.cell 4; have y3 := hR.1.free 4; replace hR := Lib.hid hR.2; clear hgrow hO3)
                  all_goals have hD6 := Lib.hid (hD3.out.gr ⟨_, _, _, hR.out.1⟩ hR.out.2 rfl (by decide) hinne.2.1 hinne.2.2.2.1 hinne.2.2.2.2.2)
                  all_goals generalize w5.setCell ⟨g, 4, none⟩ (.slice (some ⟨g3, 0, none⟩) (N + 1) cap3) = w6 at *
                  all_goals clear y2 y3 xf c4' i0' hR hO
                  all_goals go_wp2
                  all_goals go_roundw
                  all_goals first | exact ⟨k + 1, by have := k3.out; omega, by go_num, by rw [hs2.out, hfin.out]; exact hD6.out⟩ | (have := k3.out; simp [intOf]; omega)
        · obtain rfl : k = c.list.length := by omega
          have hpos := dr_pos hp.out
          have hlen := drTo_len c c.list.length
          have hbk := hbts.out c.list.length
          have hdr : drOf c = ⟨((drTo c c.list.length).list.length : Int) - 1, 0, (drTo c c.list.length).ins, (drTo c c.list.length).cs, endD (drTo c c.list.length).list⟩ := rfl
          obtain ⟨s, hs⟩ : ∃ s, drTo c c.list.length = s := ⟨_, rfl⟩
          rw [hs] at hD hpos hlen hbk hdr
          obtain ⟨N, hN⟩ : ∃ n, s.list.length = n := ⟨_, rfl⟩
          rw [hN] at hpos hdr hlen
          obtain ⟨m, hm⟩ : ∃ m, m + 1 = N := ⟨N - 1, by omega⟩
          obtain ⟨vI, vC, vL, kb, oI, oC, oL⟩ := hD.out
          have hinne := hne.out
          have res := hD.d1.res
          have hB := hD.d1.bel
          obtain ⟨gL, capL, e3, bL, qL⟩ : ∃ gL capL, vL = .slice (some ⟨gL, 0, none⟩) N capL ∧ (∃ cur, Blk wr gL 42 cur) ∧ QuadAt wr (some ⟨gL, 0, none⟩) s.list := by
            obtain ⟨A, cap, e, q⟩ := own_quad oL
            rcases oL.2 with ⟨_, h0⟩ | ⟨g1, cap1, cur, e1, _, hh, _⟩
            · omega
            · rw [e1] at e
              injection e with e
              subst e
              exact ⟨g1, cap1, by rw [e1, hN], ⟨cur, hh⟩, q⟩
          subst e3
          obtain ⟨cur, bL⟩ := bL
          obtain ⟨iA, iC, e1, -⟩ := own_quad oI
          obtain ⟨rA, rC, e2, -⟩ := own_row oC hbk
          subst e1 e2
          have hggL : g ≠ gL := fun e => by
            subst e
            unfold Blk at kb bL
            rw [kb] at bL
            injection bL with e
            injection e with _ e
            exact absurd e (by decide)
          have hrL : gL ≠ w.heap.size + 1 := fun e => by
            subst e
            unfold Blk at res bL
            rw [res] at bL
            injection bL with e
            injection e with _ e
            exact absurd e (by decide)
          have hgr : g ≠ w.heap.size + 1 := by omega
          have hLB : w.heap.size ≤ gL := (oL.lt gL rfl).1
          have offI := (fun e => kb.own_ne oI (by decide) e.symm : Value.ownBlock (.slice iA s.ins.length iC) ≠ some g)
          have offC := (fun e => kb.own_ne oC (by decide) e.symm : Value.ownBlock (.slice rA s.cs.length rC) ≠ some g)
          have offI2 := (fun e => bL.own_ne oI (by decide) e.symm : Value.ownBlock (.slice iA s.ins.length iC) ≠ some gL)
          have offC2 := (fun e => bL.own_ne oC (by decide) e.symm : Value.ownBlock (.slice rA s.cs.length rC) ≠ some gL)
          have offI3 := (fun e => res.own_ne oI (by decide) e.symm : Value.ownBlock (.slice iA s.ins.length iC) ≠ some (w.heap.size + 1))
          have offC3 := (fun e => res.own_ne oC (by decide) e.symm : Value.ownBlock (.slice rA s.cs.length rC) ≠ some (w.heap.size + 1))
          have hw1 : IntKind.i64.wrap ((N : Int) - 1) = (m : Int) := by rw [IntKind.wrap_i64]; omega
          have hm0 : (0 : Int) ≤ (m : Int) := by omega
          have hm1 : (m : Int) < (N : Int) := by omega
          -- region 27
          have c4 : wr.cell? ⟨g, 4, none⟩ = some (.slice (some ⟨gL, 0, none⟩) N capL) := by have := kb.cell 4; simpa using this
          have c0 : wr.cell? ⟨g, 0, none⟩ = some (.int .i64 0) := by have := kb.cell 0; simpa using this
          have f0 := kb.free 0
          have x1 : Blk (wr.setCell ⟨g, 0, none⟩ (.int .i64 (m : Int))) g 26 #[.int .i64 (m : Int), .int .i64 0, .slice iA s.ins.length iC, .slice rA s.cs.length rC, .slice (some ⟨gL, 0, none⟩) N capL] := by simpa using kb.put_ 0 (.int .i64 (m : Int))
          have x2 := bL.else_ (p := ⟨g, 0, none⟩) hggL (.int .i64 (m : Int))
          have x3 := res.else_ (p := ⟨g, 0, none⟩) hgr (.int .i64 (m : Int))
          have oI1 := mown_set oI (p := ⟨g, 0, none⟩) offI (.int .i64 (m : Int))
          have oC1 := mown_set oC (p := ⟨g, 0, none⟩) offC (.int .i64 (m : Int))
          have qL1 : QuadAt (wr.setCell ⟨g, 0, none⟩ (.int .i64 (m : Int))) (some ⟨gL, 0, none⟩) s.list := quad_far qL hggL
          have hB1 := hB.setCell (p := ⟨g, 0, none⟩) (by show w.heap.size ≤ g; omega) (.int .i64 (m : Int))
          clear kb oI oC oL res hB bL hD hs
          replace hm := Lib.hid hm
          replace hN := Lib.hid hN
          replace hdr := Lib.hid hdr
          go_upto_region 28 with (fail)
          clear c4 c0 f0 qL
          generalize wr.setCell ⟨g, 0, none⟩ (.int .i64 (m : Int)) = y1 at *
          have c4 : y1.cell? ⟨g, 4, none⟩ = some (.slice (some ⟨gL, 0, none⟩) N capL) := x1.cell 4
          have c0 : y1.cell? ⟨g, 0, none⟩ = some (.int .i64 (m : Int)) := x1.cell 0
          obtain ⟨old, hold⟩ : ∃ v, y1.cell? ⟨gL, m * 4 + 1, none⟩ = some v := by
            obtain ⟨b, off, e, hc⟩ := qL1 (by rw [hN.out]; omega)
            injection e with e
            injection e with e1 e2
            subst e1 e2
            have hl : m < s.list.length := by have := hN.out; have := hm.out; omega
            have := (hc m _ (List.getElem?_eq_getElem hl)).2.1
            rw [Nat.zero_add] at this
            exact ⟨_, this⟩
          have fold := x2.free (m * 4 + 1)
          have x4 := x1.else_ (p := ⟨gL, m * 4 + 1, none⟩) hggL.symm (.int .i64 0)
          have x5 := x3.else_ (p := ⟨gL, m * 4 + 1, none⟩) hrL (.int .i64 0)
          have oI2 := mown_set oI1 (p := ⟨gL, m * 4 + 1, none⟩) offI2 (.int .i64 0)
          have oC2 := mown_set oC1 (p := ⟨gL, m * 4 + 1, none⟩) offC2 (.int .i64 0)
          have qL2 := quad_endD (by rw [hN.out]; exact hm.out) qL1 hold
          have hB2 := hB1.setCell (p := ⟨gL, m * 4 + 1, none⟩) hLB (.int .i64 0)
          clear x1 x2 x3 oI1 oC1 qL1 hB1
          go_region_law (fail)
          all_goals clear c4 c0 hold fold
          all_goals generalize y1.setCell ⟨gL, m * 4 + 1, none⟩ (.int .i64 0) = y2 at *
          all_goals (
            have z0 : y2.cell? ⟨g, 0, none⟩ = some (.int .i64 (m : Int)) := x4.cell 0
            have z1 : y2.cell? ⟨g, 1, none⟩ = some (.int .i64 0) := x4.cell 1
            have z2 : y2.cell? ⟨g, 2, none⟩ = some (.slice iA s.ins.length iC) := x4.cell 2
            have z3 : y2.cell? ⟨g, 3, none⟩ = some (.slice rA s.cs.length rC) := x4.cell 3
            have z4 : y2.cell? ⟨g, 4, none⟩ = some (.slice (some ⟨gL, 0, none⟩) N capL) := x4.cell 4
            have b0 : y2.cell? ⟨w.heap.size + 1, 0, none⟩ = some (.int .i64 0) := x5.cell 0
            have b1 : y2.cell? ⟨w.heap.size + 1, 1, none⟩ = some (.int .i64 0) := x5.cell 1
            have b2 : y2.cell? ⟨w.heap.size + 1, 2, none⟩ = some (.slice none 0 0) := x5.cell 2
            have b3 : y2.cell? ⟨w.heap.size + 1, 3, none⟩ = some (.slice none 0 0) := x5.cell 3
            have b4 : y2.cell? ⟨w.heap.size + 1, 4, none⟩ = some (.slice none 0 0) := x5.cell 4
            have d0 := x5.free 0
            have d1 := x5.free 1
            have d2 := x5.free 2
            have d3 := x5.free 3
            have d4 := x5.free 4
            have tB : Blk (((((y2.setCell ⟨w.heap.size + 1, 0, none⟩ (.int .i64 (m : Int))).setCell ⟨w.heap.size + 1, 1, none⟩ (.int .i64 0)).setCell ⟨w.heap.size + 1, 2, none⟩ (.slice iA s.ins.length iC)).setCell ⟨w.heap.size + 1, 3, none⟩ (.slice rA s.cs.length rC)).setCell ⟨w.heap.size + 1, 4, none⟩ (.slice (some ⟨gL, 0, none⟩) N capL)) (w.heap.size + 1) 26 #[.int .i64 (m : Int), .int .i64 0, .slice iA s.ins.length iC, .slice rA s.cs.length rC, .slice (some ⟨gL, 0, none⟩) N capL] := by simpa using (((((x5.put_ 0 (.int .i64 (m : Int))).put_ 1 (.int .i64 0)).put_ 2 (.slice iA s.ins.length iC)).put_ 3 (.slice rA s.cs.length rC)).put_ 4 (.slice (some ⟨gL, 0, none⟩) N capL))
            have oI3 := (mown_set (mown_set (mown_set (mown_set (mown_set oI2 (p := ⟨w.heap.size + 1, 0, none⟩) offI3 (.int .i64 (m : Int))) (p := ⟨w.heap.size + 1, 1, none⟩) offI3 (.int .i64 0)) (p := ⟨w.heap.size + 1, 2, none⟩) offI3 (.slice iA s.ins.length iC)) (p := ⟨w.heap.size + 1, 3, none⟩) offI3 (.slice rA s.cs.length rC)) (p := ⟨w.heap.size + 1, 4, none⟩) offI3 (.slice (some ⟨gL, 0, none⟩) N capL))
            have oC3 := (mown_set (mown_set (mown_set (mown_set (mown_set oC2 (p := ⟨w.heap.size + 1, 0, none⟩) offC3 (.int .i64 (m : Int))) (p := ⟨w.heap.size + 1, 1, none⟩) offC3 (.int .i64 0)) (p := ⟨w.heap.size + 1, 2, none⟩) offC3 (.slice iA s.ins.length iC)) (p := ⟨w.heap.size + 1, 3, none⟩) offC3 (.slice rA s.cs.length rC)) (p := ⟨w.heap.size + 1, 4, none⟩) offC3 (.slice (some ⟨gL, 0, none⟩) N capL))
            have qL3 := (quad_far (p := ⟨w.heap.size + 1, 4, none⟩) (v := (.slice (some ⟨gL, 0, none⟩) N capL)) (quad_far (p := ⟨w.heap.size + 1, 3, none⟩) (v := (.slice rA s.cs.length rC)) (quad_far (p := ⟨w.heap.size + 1, 2, none⟩) (v := (.slice iA s.ins.length iC)) (quad_far (p := ⟨w.heap.size + 1, 1, none⟩) (v := (.int .i64 0)) (quad_far (p := ⟨w.heap.size + 1, 0, none⟩) (v := (.int .i64 (m : Int))) qL2 hrL.symm) hrL.symm) hrL.symm) hrL.symm) hrL.symm)
            have hB3 := (((((hB2.setCell (p := ⟨w.heap.size + 1, 0, none⟩) (by show w.heap.size ≤ w.heap.size + 1; omega) (.int .i64 (m : Int))).setCell (p := ⟨w.heap.size + 1, 1, none⟩) (by show w.heap.size ≤ w.heap.size + 1; omega) (.int .i64 0)).setCell (p := ⟨w.heap.size + 1, 2, none⟩) (by show w.heap.size ≤ w.heap.size + 1; omega) (.slice iA s.ins.length iC)).setCell (p := ⟨w.heap.size + 1, 3, none⟩) (by show w.heap.size ≤ w.heap.size + 1; omega) (.slice rA s.cs.length rC)).setCell (p := ⟨w.heap.size + 1, 4, none⟩) (by show w.heap.size ≤ w.heap.size + 1; omega) (.slice (some ⟨gL, 0, none⟩) N capL))
            clear oI2 oC2 qL2 hB2 x4 x5
            replace oI3 := Lib.hid oI3
            replace oC3 := Lib.hid oC3
            replace qL3 := Lib.hid qL3
            replace hB3 := Lib.hid hB3
            replace tB := Lib.hid tB
            go_wp2
            generalize (((((y2.setCell ⟨w.heap.size + 1, 0, none⟩ (.int .i64 (m : Int))).setCell ⟨w.heap.size + 1, 1, none⟩ (.int .i64 0)).setCell ⟨w.heap.size + 1, 2, none⟩ (.slice iA s.ins.length iC)).setCell ⟨w.heap.size + 1, 3, none⟩ (.slice rA s.cs.length rC)).setCell ⟨w.heap.size + 1, 4, none⟩ (.slice (some ⟨gL, 0, none⟩) N capL)) = y3 at *
            have t0 : y3.cell? ⟨w.heap.size + 1, 0, none⟩ = some (.int .i64 (m : Int)) := tB.out.cell 0
            have t1 : y3.cell? ⟨w.heap.size + 1, 1, none⟩ = some (.int .i64 0) := tB.out.cell 1
            have t2 : y3.cell? ⟨w.heap.size + 1, 2, none⟩ = some (.slice iA s.ins.length iC) := tB.out.cell 2
            have t3 : y3.cell? ⟨w.heap.size + 1, 3, none⟩ = some (.slice rA s.cs.length rC) := tB.out.cell 3
            have t4 : y3.cell? ⟨w.heap.size + 1, 4, none⟩ = some (.slice (some ⟨gL, 0, none⟩) N capL) := tB.out.cell 4
            refine bodyPost_ret (v := .agg #[.int .i64 (m : Int), .int .i64 0, .slice iA s.ins.length iC, .slice rA s.cs.length rC, .slice (some ⟨gL, 0, none⟩) N capL]) (by simp [results, Try.results6, go_sem, t0, t1, t2, t3, t4]) rfl ?_
            have hle : (endD s.list).length = N := by rw [endD_len]; exact hN.out
            have hNm : ((N : Int) - 1) = (m : Int) := by have := hm.out; omega
            have hdr2 := hdr.out
            rw [hNm] at hdr2
            refine ⟨⟨iA, iC, rA, rC, some ⟨gL, 0, none⟩, capL⟩, by rw [hdr2]; unfold codeV; dsimp only; rw [hle], ?_, by first | exact hB3.out | exact hB3.out.drew⟩
            rw [hdr2]
            exact ⟨own_quadS oI3.out, own_rowS oC3.out hbk, qL3.out, by show s.ins.length * 32 ≤ _; omega, by show s.cs.length * 16 ≤ _; omega, by show (endD s.list).length * 32 ≤ _; rw [hle]; omega⟩)
end Go.Proofs.Yteniipolcdnmfaa
namespace Go.Proofs.Yteniipolcdnmfaa
open Go.ChangeShapes Go.WideShapes Go.ChangeAt Go.RowKit Go.Fl
set_option linter.unusedVariables false
set_option linter.unusedSimpArgs false
noncomputable def twiceB (c : CodeP) : Bool := @decide (Twice c) (Classical.propDecidable _)
theorem twiceB_true {c : CodeP} (h : Twice c) : twiceB c = true := by unfold twiceB; exact @decide_eq_true _ (Classical.propDecidable _) h
theorem twiceB_false {c : CodeP} (h : ¬ Twice c) : twiceB c = false := by unfold twiceB; exact @decide_eq_false _ (Classical.propDecidable _) h
theorem twiceB_not {c : CodeP} (h : twiceB c = false) : ¬ Twice c := fun e => by rw [twiceB_true e] at h; cases h
set_option maxHeartbeats 8000000 in
set_option maxRecDepth 100000 in
theorem twice_any (c : CodeP) (v : CV) (w : World) (hc : CodeIn w c v) : Calls Try.prog 9 #[codeV c v] w (BOut (twiceB c) w) := by
  obtain ⟨xA, xC, cA, cC, lA, lC⟩ := v
  have hI := Lib.hid (show QuadAt w xA c.ins from hc.ins)
  have szI : c.ins.length ≤ 9223372036854775806 := by have := hc.szI; omega
  obtain ⟨r, hr⟩ : ∃ r, twiceB c = r := ⟨_, rfl⟩
  rw [hr]
  replace hr := Lib.hid hr
  have hw := m1 w (.cells #[.int .i64 c.regs, .int .i64 c.slots, .slice xA c.ins.length xC, .slice cA c.cs.length cC, .slice lA c.list.length lC] 26)
  have hcode : CodeAt (w.alloc (.cells #[.int .i64 c.regs, .int .i64 c.slots, .slice xA c.ins.length xC, .slice cA c.cs.length cC, .slice lA c.list.length lC] 26)) w.heap.size c ⟨xA, xC, cA, cC, lA, lC⟩ := CodeAt.new w c ⟨xA, xC, cA, cC, lA, lC⟩
  show Calls _ _ #[.agg #[.int .i64 c.regs, .int .i64 c.slots, .slice xA c.ins.length xC, .slice cA c.cs.length cC, .slice lA c.list.length lC]] _ _
  clear hc
  go_enter Try.func9, Try.ntmps9
  go_upto_region 1 with (fail)
  generalize w.alloc (.cells #[.int .i64 c.regs, .int .i64 c.slots, .slice xA c.ins.length xC, .slice cA c.cs.length cC, .slice lA c.list.length lC] 26) = uu at *
  have s2 : uu.cell? ⟨w.heap.size, 2, none⟩ = some (.slice xA c.ins.length xC) := hcode.2.2.1
  clear hcode
  have hw' := Lib.hid hw
  have s2' := Lib.hid s2
  go_wp2_with fail
  clear s2 hw
  go_loopw [8] (fun i wr => ∃ n : Nat, n ≤ c.ins.length ∧ i = .int .i64 (n : Int) ∧ (∀ a b : Nat, b < a → a < n → c.ins[a]? ≠ c.ins[b]?) ∧ Below uu.heap.size uu wr) (fun i _ => c.ins.length - (intOf i).toNat)
  case atStart => exact ⟨0, Nat.zero_le _, rfl, fun a b h1 h2 => absurd h2 (by omega), Below.refl _ _⟩
  case round =>
    obtain ⟨n, hn, rfl, hT, hB⟩ := hrel
    by_cases hlt : n < c.ins.length
    · have n0 : (0 : Int) ≤ (n : Int) := by omega
      have n1 : (n : Int) < (c.ins.length : Int) := by omega
      have n3 := Lib.hid hlt
      obtain ⟨bb, off, rfl, hcells⟩ := hI.out (by omega)
      have hx := List.getElem?_eq_getElem hlt
      obtain ⟨p0, p1, p2, p3⟩ := hcells n _ hx
      replace p0 := cell_later hB (cell_later hw'.out p0)
      replace p1 := cell_later hB (cell_later hw'.out p1)
      replace p2 := cell_later hB (cell_later hw'.out p2)
      replace p3 := cell_later hB (cell_later hw'.out p3)
      have s2 := cell_later hB s2'.out
      generalize hxe : c.ins[n] = x at *
      obtain ⟨x0, x1, x2, x3⟩ := x
      dsimp only at p0 p1 p2 p3
      replace hx := Lib.hid hx
      replace hxe := Lib.hid hxe
      replace hT := Lib.hid hT
      replace hcells := Lib.hid hcells
      go_wp2_with fail
      go_loopw [12] (fun i wr2 => ∃ k : Nat, k ≤ n ∧ i = .int .i64 (k : Int) ∧ (∀ b : Nat, b < k → c.ins[n]? ≠ c.ins[b]?) ∧ Below wr.heap.size wr wr2) (fun i _ => n - (intOf i).toNat)
      case atStart => exact ⟨0, Nat.zero_le _, rfl, fun b h1 => absurd h1 (by omega), Below.refl _ _⟩
      case round =>
        obtain ⟨k, hk, rfl, hT2, hB2⟩ := hrel
        by_cases hlk : k < n
        · have k0 : (0 : Int) ≤ (k : Int) := by omega
          have k1 : (k : Int) < (n : Int) := by omega
          have k2 : (k : Int) < (c.ins.length : Int) := by omega
          have k3 := Lib.hid hlk
          have hkl : k < c.ins.length := by omega
          have hy := List.getElem?_eq_getElem hkl
          obtain ⟨q0, q1, q2, q3⟩ := hcells.out k _ hy
          replace q0 := cell_later hB2 (cell_later hB (cell_later hw'.out q0))
          replace q1 := cell_later hB2 (cell_later hB (cell_later hw'.out q1))
          replace q2 := cell_later hB2 (cell_later hB (cell_later hw'.out q2))
          replace q3 := cell_later hB2 (cell_later hB (cell_later hw'.out q3))
          replace p0 := cell_later hB2 p0
          replace p1 := cell_later hB2 p1
          replace p2 := cell_later hB2 p2
          replace p3 := cell_later hB2 p3
          replace s2 := cell_later hB2 s2
          generalize c.ins[k] = y at *
          obtain ⟨y0, y1, y2, y3⟩ := y
          dsimp only at q0 q1 q2 q3
          replace hy := Lib.hid hy
          replace hT2 := Lib.hid hT2
          replace hB := Lib.hid hB
          replace hB2 := Lib.hid hB2
          by_cases he : (x0, x1, x2, x3) = (y0, y1, y2, y3)
          · have he4 : ∀ w, (binOp .eql 31 (.agg #[.int .i64 x0, .int .i64 x1, .int .i64 x2, .int .i64 x3]) (.agg #[.int .i64 y0, .int .i64 y1, .int .i64 y2, .int .i64 y3])).run Try.prog w = .ok (.bool true) w := fun w => by rw [eql4]; simp only [he, decide_true]
            have hF := Lib.hid (show true = r by rw [← hr.out]; exact (twiceB_true ⟨n, k, hlk, hlt, by rw [hx.out, hy.out, he]⟩).symm)
            replace he := Lib.hid he
            clear hkl hlk
            go_upto_region 7 with (fail)
            go_quiet (fail)
            go_wp2
            go_ret
            have hBx := below_more (mmore hw'.out hB.out) hB2.out
            exact bout_eq hF.out (by first | exact hBx | exact ⟨hBx.os, hBx.tape, hBx.output, hBx.size, hBx.block⟩)
          · have he4 : ∀ w, (binOp .eql 31 (.agg #[.int .i64 x0, .int .i64 x1, .int .i64 x2, .int .i64 x3]) (.agg #[.int .i64 y0, .int .i64 y1, .int .i64 y2, .int .i64 y3])).run Try.prog w = .ok (.bool false) w := fun w => by rw [eql4]; simp only [he, decide_false]
            have hT3 : ∀ b : Nat, b < k + 1 → c.ins[n]? ≠ c.ins[b]? := fun b hb => by
              by_cases e : b = k
              · subst e
                rw [hx.out, hy.out]
                intro e; injection e with e; exact he e
              · exact hT2.out b (by omega)
            replace hT3 := Lib.hid hT3
            replace he := Lib.hid he
            clear hkl hlk hT2
            go_upto_region 7 with (fail)
            go_quiet (fail)
            go_wp2
            go_roundw
            case rel =>
              have hBx := hB2.out
              exact ⟨k + 1, by have := k3.out; omega, by go_num, hT3.out, by first | exact hBx | exact ⟨hBx.os, hBx.tape, hBx.output, hBx.size, hBx.block⟩⟩
            case measure => have := k3.out; simp [intOf]; omega
        · obtain rfl : k = n := by omega
          have hT3 : ∀ a b : Nat, b < a → a < k + 1 → c.ins[a]? ≠ c.ins[b]? := fun a b h1 h2 => by
            by_cases e : a = k
            · subst e; exact hT2 b h1
            · exact hT.out a b h1 (by omega)
          replace hT3 := Lib.hid hT3
          have hB3 := Lib.hid (mmore hB hB2)
          clear hT2 hB hB2 hlk p0 p1 p2 p3 s2
          go_wp2
          go_roundw
          case rel => exact ⟨k + 1, by have := n3.out; omega, by go_num, hT3.out, hB3.out⟩
          case measure => have := n3.out; simp [intOf]; omega
    · obtain rfl : n = c.ins.length := by omega
      have hF := Lib.hid (show false = r by rw [← hr.out]; exact (twiceB_false fun ⟨a, b, h1, h2, h3⟩ => hT a b h1 h2 h3).symm)
      have hBx := Lib.hid (mmore hw'.out hB)
      clear hT hB
      go_wp2
      go_ret
      exact bout_eq hF.out hBx.out
end Go.Proofs.Yteniipolcdnmfaa
