/- What registers are read and written by, as contracts; how many operands an operator has. -/
import Derived.Test.YteniipolcdnmfaaVmA
namespace Go.Proofs.Yteniipolcdnmfaa
open Go.ChangeShapes Go.WideShapes Go.ChangeAt Go.RowKit Go.Fl
set_option linter.unusedVariables false
set_option linter.unusedSimpArgs false

theorem rdV_out {l : List VN} {i : Int} (h : i < 0 ∨ (l.length : Int) ≤ i) : rdV l i = (0, 0) := by
  unfold rdV
  split
  · rw [List.getElem?_eq_none (by omega)]; rfl
  · rfl
theorem rdV_in {l : List VN} {k : Nat} (h : k < l.length) : l[k]? = some ((rdV l (k : Int)).1, (rdV l (k : Int)).2) := by
  unfold rdV
  rw [if_pos (by omega), Int.toNat_natCast, List.getElem?_eq_getElem h]
  rfl
theorem wrV_out {l : List VN} {i : Int} (v : VN) (h : i < 0 ∨ (l.length : Int) ≤ i) : wrV l i v = l := by
  unfold wrV
  split
  · rw [List.set_eq_of_length_le (by omega)]
  · rfl
theorem wrV_in (l : List VN) (k : Nat) (v : VN) : wrV l (k : Int) v = l.set k v := by
  unfold wrV
  rw [if_pos (by omega), Int.toNat_natCast]
/-- a value is answered -/
def VOut (v : VN) (w : World) (e : Ending) (w' : World) : Prop := e = .returned (.agg #[.int .i64 v.1, .int .u64 (v.2 : Int)]) ∧ Below w.heap.size w w'

set_option maxHeartbeats 1000000 in
theorem vread_any (A : Option Addr) (n c : Nat) (vs : List VN) (i : Int) (w : World) (hv : RowV w A n vs) (hn : n ≤ 9223372036854775807) :
    Calls Try.prog 19 #[.slice A n c, .int .i64 i] w (VOut (rdV vs i) w) := by
  have hl := hv.1
  by_cases h0 : i < 0
  · have hE := Lib.hid (rdV_out (l := vs) (.inl h0))
    go_enter Try.func19, Try.ntmps19
    go_wp2
    exact bodyPost_ret (v := .agg #[.int .i64 0, .int .u64 0]) (by simp [results, Try.results19, go_sem]) rfl ⟨by rw [hE.out]; rfl, below1 _ _⟩
  by_cases h1 : i < (n : Int)
  · obtain ⟨k, rfl⟩ : ∃ k : Nat, i = (k : Int) := ⟨i.toNat, by omega⟩
    have hk : k < vs.length := by omega
    obtain ⟨b, off, rfl, hc⟩ := hv.2.2 (by omega)
    obtain ⟨r0, r1⟩ := hc k _ _ (rdV_in hk)
    have r0 := cell_later (below1 w (.cells #[.int .i64 0, .int .u64 0] 34)) r0
    have r1 := cell_later (below1 w (.cells #[.int .i64 0, .int .u64 0] 34)) r1
    have k1 : k < n := by omega
    clear hv hc hk hl
    generalize rdV vs (k : Int) = v at *
    obtain ⟨vk, vb⟩ := v
    go_enter Try.func19, Try.ntmps19
    go_wp2
    exact bodyPost_ret (v := .agg #[.int .i64 vk, .int .u64 (vb : Int)]) (by simp [results, Try.results19, go_sem]) rfl ⟨rfl, below1 _ _⟩
  · have hE := Lib.hid (rdV_out (l := vs) (i := i) (.inr (by omega)))
    go_enter Try.func19, Try.ntmps19
    go_wp2
    exact bodyPost_ret (v := .agg #[.int .i64 0, .int .u64 0]) (by simp [results, Try.results19, go_sem]) rfl ⟨by rw [hE.out]; rfl, below1 _ _⟩

/-- block g holds these values now, and nothing else has changed below -/
def WOut (g : Nat) (vs : List VN) (w : World) (e : Ending) (w' : World) : Prop := e = .returned (.tuple #[]) ∧ Rg w' g vs ∧ w.grownBy w' (some g)
set_option maxHeartbeats 1000000 in
theorem vwrite_any (g n c : Nat) (vs : List VN) (i : Int) (v : VN) (w : World) (hv : Rg w g vs) (hl : vs.length = n) (hn : n ≤ 9223372036854775807) :
    Calls Try.prog 43 #[.slice (some ⟨g, 0, none⟩) n c, .int .i64 i, .agg #[.int .i64 v.1, .int .u64 (v.2 : Int)]] w (WOut g (wrV vs i v) w) := by
  obtain ⟨vk, vb⟩ := v
  have hg := hv.lt
  have hv1 := hv.kept (below1 w (.cells #[.int .i64 vk, .int .u64 (vb : Int)] 34))
  have hG := mgrows (below1 w (.cells #[.int .i64 vk, .int .u64 (vb : Int)] 34)) (some g)
  by_cases h0 : i < 0
  · have hE := Lib.hid (wrV_out (l := vs) (vk, vb) (.inl h0))
    go_enter Try.func43, Try.ntmps43
    go_wp2
    refine bodyPost_end (results_none rfl _ _ _) rfl ?_
    exact ⟨rfl, by rw [hE.out]; exact hv1, hG⟩
  by_cases h1 : i < (n : Int)
  · obtain ⟨k, rfl⟩ : ∃ k : Nat, i = (k : Int) := ⟨i.toNat, by omega⟩
    have hk : k < vs.length := by omega
    obtain ⟨r0, r1, f0, f1⟩ := hv.cells (rdV_in hk)
    have k1 : k < n := by omega
    have hS := (hv.set k (vk, vb)).kept (below1 _ (.cells #[.int .i64 vk, .int .u64 (vb : Int)] 34))
    have hE := Lib.hid (wrV_in vs k (vk, vb))
    replace hS := Lib.hid hS
    replace hG := Lib.hid (((mset w ⟨g, k * 2, none⟩ (.int .i64 vk)).trans (mset _ ⟨g, k * 2 + 1, none⟩ (.int .u64 (vb : Int)))).trans (mgrows (below1 _ (.cells #[.int .i64 vk, .int .u64 (vb : Int)] 34)) (some g)))
    have hne : ¬ g = w.heap.size := by omega
    have hne2 : ¬ w.heap.size = g := by omega
    clear hv hv1 hl hk
    generalize rdV vs (k : Int) = u at *
    go_enter Try.func43, Try.ntmps43
    go_wp2
    refine bodyPost_end (results_none rfl _ _ _) rfl ?_
    exact ⟨rfl, by rw [hE.out]; exact hS.out, hG.out⟩
  · have hE := Lib.hid (wrV_out (l := vs) (i := i) (vk, vb) (.inr (by omega)))
    go_enter Try.func43, Try.ntmps43
    go_wp2
    refine bodyPost_end (results_none rfl _ _ _) rfl ?_
    exact ⟨rfl, by rw [hE.out]; exact hv1, hG⟩

set_option maxHeartbeats 1000000 in
theorem operands_any (op : Int) (w : World) : Calls Try.prog 27 #[.int .i64 op] w fun e w' => e = .returned (.int .i64 (opsP op : Int)) ∧ Below w.heap.size w w' := by
  by_cases h6 : op = 6
  · subst h6
    go_enter Try.func27, Try.ntmps27
    go_wp2
    go_ret
    exact ⟨rfl, Below.refl _ _⟩
  by_cases h15 : op = 15
  · subst h15
    go_enter Try.func27, Try.ntmps27
    go_wp2
    go_ret
    exact ⟨rfl, Below.refl _ _⟩
  by_cases h16 : op = 16
  · subst h16
    go_enter Try.func27, Try.ntmps27
    go_wp2
    go_ret
    exact ⟨rfl, Below.refl _ _⟩
  by_cases h17 : op = 17
  · subst h17
    go_enter Try.func27, Try.ntmps27
    go_wp2
    go_ret
    exact ⟨rfl, Below.refl _ _⟩
  have f6 : (op == 6) = false := by simpa using h6
  have f15 : (op == 15) = false := by simpa using h15
  have f16 : (op == 16) = false := by simpa using h16
  have f17 : (op == 17) = false := by simpa using h17
  by_cases ha : 1 ≤ op
  · by_cases hb : op ≤ 17
    · have hE := Lib.hid (show opsP op = 2 by unfold opsP; rw [if_neg (by omega), if_pos (by omega)])
      go_enter Try.func27, Try.ntmps27
      go_wp2
      go_ret
      exact ⟨by rw [hE.out]; rfl, Below.refl _ _⟩
    · have hE := Lib.hid (show opsP op = 0 by unfold opsP; rw [if_neg (by omega), if_neg (by omega)])
      go_enter Try.func27, Try.ntmps27
      go_wp2
      go_ret
      exact ⟨by rw [hE.out]; rfl, Below.refl _ _⟩
  · have hE := Lib.hid (show opsP op = 0 by unfold opsP; rw [if_neg (by omega), if_neg (by omega)])
    go_enter Try.func27, Try.ntmps27
    go_wp2
    go_ret
    exact ⟨by rw [hE.out]; rfl, Below.refl _ _⟩
end Go.Proofs.Yteniipolcdnmfaa
