/- What Apply answers in the document's package, as a contract, for every list of values. -/
import Derived.Test.YteniipolcdnmfaaRCmpR
import Derived.Test.YteniipolcdnmfaaOpen
import Derived.Test.YteniipolcdnmfaaWords
import Derived.Deep.RegionHeld3
namespace Go.Proofs.Yteniipolcdnmfaa
open Go.ChangeShapes Go.WideShapes Go.ChangeAt Go.RowKit Go.Fl
set_option linter.unusedVariables false
set_option linter.unusedSimpArgs false

theorem infoR : (Try.prog.info? 36).map (fun i => (i.zero, i.size, i.bytes)) = some (some (.agg #[.int .i64 0, .int .u64 0]), 2, 16) := by kernel_rfl
theorem infoK : (Try.prog.info? 3).map (fun i => (i.zero, i.size, i.bytes)) = some (some (.int .i64 0), 1, 8) := by kernel_rfl

/-- two rows of the call's own whose elements are of two types lie apart -/
theorem own_own_ne {w : World} {base base' : Nat} {e e' : TypeId} {size size' n n' : Nat} {v v' : Value} {xs xs' : List Value} (h : w.ownsRow base e size v n xs) (h' : w.ownsRow base' e' size' v' n' xs') (hne : e ≠ e') : v.ownBlock = none ∨ v.ownBlock ≠ v'.ownBlock := by
  rcases h.2 with ⟨rfl, _⟩ | ⟨g, cap, cur, rfl, _, hh, _⟩
  · left; rfl
  · right
    intro e1
    rcases h'.2 with ⟨rfl, _⟩ | ⟨g', cap', cur', rfl, _, hh', _⟩
    · simp [Value.ownBlock] at e1
    · have : g = g' := by simpa [Value.ownBlock] using e1
      subst this
      rw [hh] at hh'
      injection hh' with h1
      injection h1 with _ h2
      exact hne h2

def cleans (vs : List (Int × Nat)) : List (Int × Nat) := vs.map fun v => (clK v.1 v.2, clB v.1 v.2)
def kinds (vs : List (Int × Nat)) : List Int := vs.map fun v => clK v.1 v.2
def cellsK (zs : List Int) : List Value := zs.map fun z => .int .i64 z
theorem cleans_snoc (vs : List (Int × Nat)) (k : Nat) (v : Int × Nat) (h : vs[k]? = some v) : cellsV ((cleans vs).take (k + 1)) = cellsV ((cleans vs).take k) ++ [.int .i64 (clK v.1 v.2), .int .u64 ((clB v.1 v.2 : Nat) : Int)] :=
  cellsV_snoc (cleans vs) k (clK v.1 v.2, clB v.1 v.2) (by simp [cleans, h])
theorem kinds_snoc (vs : List (Int × Nat)) (k : Nat) (v : Int × Nat) (h : vs[k]? = some v) : cellsK ((kinds vs).take (k + 1)) = cellsK ((kinds vs).take k) ++ [.int .i64 (clK v.1 v.2)] := by
  rw [List.take_add_one]
  simp [cellsK, kinds, h]
theorem own_rowK {w : World} {base n : Nat} {e : TypeId} {v : Value} {zs : List Int} (hn : zs.length = n) (h : w.ownsRow base e 1 v n (cellsK zs)) : ∃ A cap, v = .slice A n cap ∧ RowI .i64 w A n zs := by
  subst hn
  by_cases z : zs.length = 0
  · have hnil : zs = [] := List.eq_nil_of_length_eq_zero z
    subst hnil
    rcases h.2 with ⟨rfl, _⟩ | ⟨g, cap, cur, rfl, _⟩
    · exact ⟨none, 0, rfl, rfl, fun h => absurd h (by simp)⟩
    · exact ⟨some ⟨g, 0, none⟩, cap, rfl, rfl, fun h => absurd h (by simp)⟩
  · obtain ⟨g, cap, rfl, _, _⟩ := h.form (by omega)
    have hc := h.cells (g := g) rfl
    refine ⟨_, cap, rfl, rfl, fun _ => ⟨g, 0, rfl, fun i z hi => ?_⟩⟩
    have hx : (cellsK zs)[i]? = some (.int .i64 z) := by simp [cellsK, hi]
    have := hc _ _ hx
    rw [show (⟨g, 0 + i, none⟩ : Addr) = (⟨g, 0, none⟩ : Addr).add i by unfold Addr.add; split <;> simp_all]
    exact this

def RAppR (u : World) (vs : List (Int × Nat)) (l m i : Value) (wr : World) : Prop :=
  ∃ k : Nat, k ≤ vs.length ∧ i = .int .i64 (k : Int) ∧ wr.ownsRow u.heap.size 36 2 l k (cellsV ((cleans vs).take k)) ∧ wr.ownsRow u.heap.size 3 1 m k (cellsK ((kinds vs).take k)) ∧ Below u.heap.size u wr

/-! ### the end, in plain words -/
theorem cells_two {w : World} {b off : Nat} {v1 v2 : Int × Nat} (h : ∀ (i : Nat) (k : Int) (c : Nat), [v1, v2][i]? = some (k, c) → w.cell? ⟨b, off + i * 2, none⟩ = some (.int .i64 k) ∧ w.cell? ⟨b, off + i * 2 + 1, none⟩ = some (.int .u64 (c : Int))) :
    w.cell? ⟨b, off, none⟩ = some (.int .i64 v1.1) ∧ w.cell? ⟨b, off + 1, none⟩ = some (.int .u64 (v1.2 : Int)) ∧ w.cell? ⟨b, off + 2, none⟩ = some (.int .i64 v2.1) ∧ w.cell? ⟨b, off + 2 + 1, none⟩ = some (.int .u64 (v2.2 : Int)) := by
  have h0 := h 0 v1.1 v1.2 rfl
  have h1 := h 1 v2.1 v2.2 rfl
  simp only [Nat.zero_mul, Nat.add_zero, Nat.one_mul] at h0 h1
  exact ⟨h0.1, h0.2, h1.1, h1.2⟩
theorem cells_one {w : World} {b off : Nat} {v1 : Int × Nat} (h : ∀ (i : Nat) (k : Int) (c : Nat), [v1][i]? = some (k, c) → w.cell? ⟨b, off + i * 2, none⟩ = some (.int .i64 k) ∧ w.cell? ⟨b, off + i * 2 + 1, none⟩ = some (.int .u64 (c : Int))) :
    w.cell? ⟨b, off, none⟩ = some (.int .i64 v1.1) ∧ w.cell? ⟨b, off + 1, none⟩ = some (.int .u64 (v1.2 : Int)) := by
  have h0 := h 0 v1.1 v1.2 rfl
  simp only [Nat.zero_mul, Nat.add_zero] at h0
  exact h0

theorem app_none (op : Int) (vs : List (Int × Nat)) (h : vs.length = 2 → op ≠ 13 ∧ op ≠ 14) (hz : resP op (kinds vs) = 0) : appP op vs = (0, 0) := by
  match vs, h, hz with
  | [], _, _ => rfl
  | [a], _, hz =>
    have hz : r1P op (clK a.1 a.2) = 0 := hz
    show appOne op (clK a.1 a.2) (clB a.1 a.2) = (0, 0)
    generalize clK a.1 a.2 = k at *
    unfold r1P at hz
    unfold appOne
    (repeat' split at hz) <;> (repeat' split) <;> first | rfl | (exfalso; omega)
  | [a, b], h, hz =>
    obtain ⟨n13, n14⟩ := h rfl
    have hz : resP op [clK a.1 a.2, clK b.1 b.2] = 0 := hz
    show appTwo op (clK a.1 a.2) (clB a.1 a.2) (clK b.1 b.2) (clB b.1 b.2) = (0, 0)
    unfold appTwo
    rw [if_neg n13, if_neg n14, if_pos]
    by_cases e : clK a.1 a.2 = clK b.1 b.2
    · right
      rw [← e] at hz
      rw [resP_eq]; exact hz
    · exact .inl e
  | _ :: _ :: _ :: _, _, _ => rfl

theorem clean_clean (k : Int) (b : Nat) : isClean (clK k b, clB k b) := by
  have h := cn_cn b
  unfold isClean clK clB
  simp only
  (repeat' split) <;> first | omega | simp_all
theorem res_shape (op : Int) (vs : List (Int × Nat)) (hz : resP op (kinds vs) ≠ 0) : (∃ a, vs = [a] ∧ r1P op (clK a.1 a.2) ≠ 0) ∨ ∃ a b, vs = [a, b] ∧ clK a.1 a.2 = clK b.1 b.2 ∧ r2P op (clK a.1 a.2) ≠ 0 := by
  match vs, hz with
  | [], hz => exact absurd rfl hz
  | [a], hz => exact .inl ⟨a, rfl, hz⟩
  | [a, b], hz =>
    right
    have hz : resP op [clK a.1 a.2, clK b.1 b.2] ≠ 0 := hz
    by_cases e : clK a.1 a.2 = clK b.1 b.2
    · refine ⟨a, b, rfl, e, ?_⟩
      rw [← e, ← resP_eq] at hz
      exact hz
    · exact absurd (resP_ne op _ _ e).symm hz
  | _ :: _ :: _ :: _, hz => exact absurd rfl hz

theorem two_shape (op x : Int) (hr : r2P op x ≠ 0) (n13 : op ≠ 13) (n14 : op ≠ 14) : (7 ≤ op ∧ op ≤ 12 ∧ r2P op x = 2) ∨ (x = 4 ∧ 1 ≤ op ∧ op ≤ 4) ∨ (x = 1 ∧ 1 ≤ op ∧ op ≤ 5) := by
  unfold r2P at hr ⊢
  (repeat' split at hr) <;> (repeat' split) <;> omega
theorem one_shape (op x : Int) (hr : r1P op x ≠ 0) : (op = 6 ∧ x = 1) ∨ (op = 6 ∧ x = 4) ∨ (op = 15 ∧ x = 2) ∨ (op = 16 ∧ x = 1) ∨ (op = 17 ∧ x = 4) := by
  unfold r1P at hr
  (repeat' split at hr) <;> omega
theorem not_b2n (c : Nat) (h : isClean (2, c)) : appOne 15 2 c = (2, b2n (wrap64 (c : Int) == 0)) := by
  have hc : c ≤ 1 := by
    have := cl_bool 2 c h.1
    have e : clB 2 c = c := h.2
    rw [e] at this; exact this
  unfold appOne
  rw [if_pos ⟨rfl, rfl⟩]
  have e : (wrap64 (c : Int) == 0) = decide (c = 0) := by
    rw [Bool.eq_iff_iff]; simp; unfold wrap64; omega
  rw [e]
  unfold b2n
  by_cases z : c = 0 <;> simp [z]

end Go.Proofs.Yteniipolcdnmfaa
