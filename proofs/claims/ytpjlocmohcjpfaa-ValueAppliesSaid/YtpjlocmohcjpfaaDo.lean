/- What 'do' and 'awake' answer, as contracts. -/
import Derived.Test.YtpjlocmohcjpfaaApp
namespace Go.Proofs.Ytpjlocmohcjpfaa
open Go.ChangeShapes Go.WideShapes Go.ChangeAt Go.RowKit Go.Fl

theorem cellsV_at (vs : List (Int × Nat)) : ∀ (i : Nat) (k : Int) (c : Nat), vs[i]? = some (k, c) → (cellsV vs)[i * 2]? = some (.int .i64 k) ∧ (cellsV vs)[i * 2 + 1]? = some (.int .u64 (c : Int)) := by
  induction vs with
  | nil => intro i k c h; simp at h
  | cons v vs ih =>
    intro i k c h
    cases i with
    | zero => simp at h; subst h; exact ⟨rfl, rfl⟩
    | succ i =>
      have := ih i k c (by simpa using h)
      rw [show (i + 1) * 2 = i * 2 + 2 by omega]
      exact this

theorem own_row {w : World} {base : Nat} {e : TypeId} {v : Value} {vs : List (Int × Nat)} (h : w.ownsRow base e 2 v vs.length (cellsV vs)) (hb : ∀ v ∈ vs, v.2 < 18446744073709551616) :
    ∃ A cap, v = .slice A vs.length cap ∧ RowV w A vs.length vs := by
  by_cases z : vs.length = 0
  · have hnil : vs = [] := List.eq_nil_of_length_eq_zero z
    subst hnil
    rcases h.2 with ⟨rfl, _⟩ | ⟨g, cap, cur, rfl, _⟩
    · exact ⟨none, 0, rfl, rfl, hb, fun h => absurd h (by simp)⟩
    · exact ⟨some ⟨g, 0, none⟩, cap, rfl, rfl, hb, fun h => absurd h (by simp)⟩
  · obtain ⟨g, cap, rfl, _, _⟩ := h.form (by omega)
    have hc := h.cells (g := g) rfl
    refine ⟨_, cap, rfl, rfl, hb, fun _ => ⟨g, 0, rfl, fun i k c hi => ?_⟩⟩
    have hx := cellsV_at vs i k c hi
    have e0 := hc _ _ hx.1
    have e1 := hc _ _ hx.2
    constructor
    · rw [show (⟨g, 0 + i * 2, none⟩ : Addr) = (⟨g, 0, none⟩ : Addr).add (i * 2) by unfold Addr.add; split <;> simp_all]; exact e0
    · rw [show (⟨g, 0 + i * 2 + 1, none⟩ : Addr) = (⟨g, 0, none⟩ : Addr).add (i * 2 + 1) by unfold Addr.add; split <;> simp_all]; exact e1

set_option maxHeartbeats 1000000 in
/-- 'do' of a list, where Apply answers. -/
theorem do_of (op : Int) (A : Option Addr) (n cap : Nat) (vs : List (Int × Nat)) (k c : Int) (w : World) (hv : RowV w A n vs) (hreach : n * 16 ≤ 140737488351232)
    (happ : ∀ (A' : Option Addr) (cap' : Nat) (w : World), RowV w A' n vs → Calls Try.prog 11 #[.int .i64 op, .slice A' n cap'] w fun e w' => e = .returned (.agg #[.int .i64 k, .int .u64 c]) ∧ Below w.heap.size w w') :
    Calls Try.prog 38 #[.int .i64 op, .slice A n cap] w fun e w' => e = .returned (.agg #[.int .i64 k, .int .u64 c]) ∧ Below w.heap.size w w' := by
  have hn := hv.1
  have hbits := hv.2.1
  have HV := Lib.hid (hv.later (below1 w (.cells #[.int .i64 0, .int .u64 0] 29)))
  have HA := Lib.hid happ
  clear hv happ
  go_enter Try.func38, Try.ntmps38
  go_wp2_with fail
  refine (all_any A n cap vs _ HV.out hreach).mono ?_
  rintro e w1 ⟨v, rfl, hown, hb1⟩
  have hbits' := Lib.hid hbits
  clear hbits
  obtain ⟨A', cap', rfl, hrow⟩ := own_row hown hbits'.out
  rw [hn] at hrow
  have HR := Lib.hid hrow
  clear hrow hown
  subst hn
  go_wp2_with fail
  refine (HA.out A' cap' _ HR.out).mono ?_
  rintro e w2 ⟨rfl, hb2⟩
  go_wp2_with fail
  refine (of_any _ _ _).mono ?_
  rintro e w3 ⟨rfl, hb3⟩
  have hbb := below_more (below_more (below_more (below1 w _) hb1) hb2) hb3
  obtain ⟨hc, hf⟩ := bcell (below_more (below_more hb1 hb2) hb3)
  obtain ⟨_, q1, q2⟩ := put2 (w := w3) (g := w.heap.size) (.int .i64 k) (.int .u64 c) (x := .int .i64 0) (y := .int .u64 0) (by rw [hc _ _ (by simp)]; simp) (by rw [hc _ _ (by simp)]; simp)
  have hs := (below_more (below_more hb1 hb2) hb3).size
  clear hb1 hb2 hb3
  go_wp2
  exact bodyPost_ret (v := .agg #[.int .i64 k, .int .u64 c]) (by simp [results, Try.results38, go_sem, q1, q2]) rfl ⟨rfl, (hbb.setCell (p := ⟨w.heap.size, 0, none⟩) (Nat.le_refl _) _).setCell (p := ⟨w.heap.size, 1, none⟩) (Nat.le_refl _) _⟩

end Go.Proofs.Ytpjlocmohcjpfaa
