/- A pool's free numbers as a heap: the methods that container/heap calls. -/
import Derived.Test.YtdgbnibnhajfoaaHpP
import Derived.Test.YtdgbnibnhajfoaaPoB
import Derived.Test.YtdgbnibnhajfoaaShelf
namespace Go.Proofs.Ytdgbnibnhajfoaa
open Go.ChangeShapes Go.WideShapes Go.ChangeAt Go.RowKit
set_option linter.unusedVariables false
set_option linter.unusedSimpArgs false

theorem meth_info (name : String) {r : Option (Array FieldStep × Option (FuncId × Bool))} (h : (Try.prog.info? 75).map (fun i => (i.methods.find? (·.name == name)).map fun m => (m.path, m.func)) = some r) {x : Array FieldStep × Option (FuncId × Bool)} (hr : r = some x) :
    ∃ i m, Try.prog.info? 75 = some i ∧ i.methods.find? (·.name == name) = some m ∧ m.path = x.1 ∧ m.func = x.2 := by
  subst hr
  cases hi : Try.prog.info? 75 with
  | none => rw [hi] at h; cases h
  | some i =>
    rw [hi] at h
    simp only [Option.map_some, Option.some.injEq] at h
    cases hm : i.methods.find? (·.name == name) with
    | none => rw [hm] at h; cases h
    | some m =>
      rw [hm] at h
      simp only [Option.map_some, Option.some.injEq] at h
      exact ⟨i, m, rfl, hm, by rw [← h], by rw [← h]⟩
theorem meth_row (name : String) (f : Nat) (h : (Try.prog.info? 75).map (fun i => (i.methods.find? (·.name == name)).map fun m => (m.path, m.func)) = some (some (#[⟨56, 0, true⟩], some (f, false)))) (n p o : Nat) (u : World) (A : Option Addr) (k c : Nat) (hc : u.cell? ⟨p, o, none⟩ = some (.slice A k c)) :
    (Go.method (n + 1) 75 (.pointer (some ⟨p, o, none⟩)) name).run Try.prog u = .ok (f, .slice A k c) u := by
  obtain ⟨i, m, h1, h2, h3, h4⟩ := meth_info name h rfl
  unfold Go.method
  simp [typeInfo, h1, h2, h3, h4, follow, run_underlying Try.underlying56, run_underlying Try.underlying54, receiverAt, Place.get, asAddr, fieldPlace, loadVar, Result.andThen, go_sem, hc]
theorem meth_own (name : String) (f : Nat) (h : (Try.prog.info? 75).map (fun i => (i.methods.find? (·.name == name)).map fun m => (m.path, m.func)) = some (some (#[], some (f, true)))) (n p o : Nat) (u : World) :
    (Go.method (n + 1) 75 (.pointer (some ⟨p, o, none⟩)) name).run Try.prog u = .ok (f, .pointer (some ⟨p, o, none⟩)) u := by
  obtain ⟨i, m, h1, h2, h3, h4⟩ := meth_info name h rfl
  unfold Go.method
  simp [typeInfo, h1, h2, h3, h4, follow, run_underlying Try.underlying75, receiverAt, Place.get, Result.andThen, go_sem]
theorem meth_len (n p o : Nat) (u : World) (A : Option Addr) (k c : Nat) (hc : u.cell? ⟨p, o, none⟩ = some (.slice A k c)) : (Go.method (n + 1) 75 (.pointer (some ⟨p, o, none⟩)) "Len").run Try.prog u = .ok (31, .slice A k c) u := meth_row "Len" 31 (by kernel_rfl) n p o u A k c hc
theorem meth_less (n p o : Nat) (u : World) (A : Option Addr) (k c : Nat) (hc : u.cell? ⟨p, o, none⟩ = some (.slice A k c)) : (Go.method (n + 1) 75 (.pointer (some ⟨p, o, none⟩)) "Less").run Try.prog u = .ok (53, .slice A k c) u := meth_row "Less" 53 (by kernel_rfl) n p o u A k c hc
theorem meth_swap (n p o : Nat) (u : World) (A : Option Addr) (k c : Nat) (hc : u.cell? ⟨p, o, none⟩ = some (.slice A k c)) : (Go.method (n + 1) 75 (.pointer (some ⟨p, o, none⟩)) "Swap").run Try.prog u = .ok (55, .slice A k c) u := meth_row "Swap" 55 (by kernel_rfl) n p o u A k c hc
theorem meth_push (n p o : Nat) (u : World) : (Go.method (n + 1) 75 (.pointer (some ⟨p, o, none⟩)) "Push").run Try.prog u = .ok (57, .pointer (some ⟨p, o, none⟩)) u := meth_own "Push" 57 (by kernel_rfl) n p o u
theorem meth_pop (n p o : Nat) (u : World) : (Go.method (n + 1) 75 (.pointer (some ⟨p, o, none⟩)) "Pop").run Try.prog u = .ok (56, .pointer (some ⟨p, o, none⟩)) u := meth_own "Pop" 56 (by kernel_rfl) n p o u

/-- the free numbers lie here: the slice's cell, its row -/
structure NX (B p o : Nat) (v : Value) (l : List Int) (w : World) : Prop where
  cell : w.cell? ⟨p, o, none⟩ = some v
  row : w.ownsRow B 3 1 v l.length (l.map (Value.int .i64))
  ne : v.ownBlock ≠ some p
theorem NX.form {B p o : Nat} {v : Value} {l : List Int} {w : World} (h : NX B p o v l w) (hl : 0 < l.length) : ∃ g cap, v = .slice (some ⟨g, 0, none⟩) l.length cap ∧ B ≤ g ∧ g < w.heap.size ∧ ∀ k, k < l.length → w.cell? ⟨g, k, none⟩ = some (.int .i64 (hget l k)) ∧ w.frozen? ⟨g, k, none⟩ = false := by
  obtain ⟨g, cap, rfl, h1, h2⟩ := h.row.form hl
  refine ⟨g, cap, rfl, h1, h2, fun k hk => ⟨?_, h.row.frozenAt k⟩⟩
  rw [h.row.cellAt k (by omega), List.getElem?_map, at_hget hk]
  rfl
theorem NX.drew {B p o : Nat} {v : Value} {l : List Int} {w : World} (h : NX B p o v l w) (n : Nat) : NX B p o v l (w.drewN n) := ⟨h.cell, h.row, h.ne⟩
theorem less_any {B p o : Nat} {v : Value} {l : List Int} {w : World} (h : NX B p o v l w) {i j : Nat} (hi : i < l.length) (hj : j < l.length) (hs : l.length < 1000000) :
    Calls Try.prog 53 #[v, .int .i64 (i : Int), .int .i64 (j : Int)] w fun e w' => e = .returned (.bool (decide (hget l i < hget l j))) ∧ ∃ n, w' = w.drewN n := by
  obtain ⟨g, cap, rfl, _, _, hc⟩ := h.form (by omega)
  exact Try.IntSlice_Less g 0 cap l.length w (hget l) (fun t ht => by rw [Nat.zero_add]; exact (hc t ht).1) i j hi hj (by omega)
theorem swap_any {B p o : Nat} {v : Value} {l : List Int} {w : World} (h : NX B p o v l w) {i j : Nat} (hi : i < l.length) (hj : j < l.length) (hs : l.length < 1000000) :
    Calls Try.prog 55 #[v, .int .i64 (i : Int), .int .i64 (j : Int)] w fun e w' => e = .returned (.tuple #[]) ∧ NX B p o v (swapL l i j) w' ∧ w.grownBy w' v.ownBlock := by
  obtain ⟨g, cap, rfl, _, _, hc⟩ := h.form (by omega)
  have e0 : ∀ k : Nat, (⟨g, 0 + k, none⟩ : Addr) = ⟨g, k, none⟩ := fun k => by rw [Nat.zero_add]
  refine (Try.IntSlice_Swap g 0 cap l.length w (hget l i) (hget l j) i j hi hj (by omega) (by rw [e0]; exact (hc i hi).1) (by rw [e0]; exact (hc j hj).1) (by rw [e0]; exact (hc i hi).2) (by rw [e0]; exact (hc j hj).2)).mono ?_
  rintro e w' ⟨rfl, q, rfl⟩
  rw [e0, e0]
  obtain ⟨s1, g1⟩ := h.row.stored i (.int .i64 (hget l j))
  obtain ⟨s2, g2⟩ := s1.stored j (.int .i64 (hget l i))
  have hg : w.grownBy ((w.setCell ⟨g, i, none⟩ (.int .i64 (hget l j))).setCell ⟨g, j, none⟩ (.int .i64 (hget l i))) (some g) := mgrown g1 g2 fun k hk => .inl hk
  have hne : some p ≠ some g := fun e => h.ne (by rw [e]; rfl)
  refine ⟨rfl, ⟨?_, ?_, h.ne⟩, mgrown hg (mgrows (below_dn _ q) (some g)) fun k hk => .inl hk⟩
  · exact hg.cell h.cell hne
  · rw [swapL_len]
    have e : ((l.map (Value.int .i64)).set i (.int .i64 (hget l j))).set j (.int .i64 (hget l i)) = (swapL l i j).map (Value.int .i64) := by unfold swapL; rw [List.map_set, List.map_set]
    rw [← e]
    exact s2
end Go.Proofs.Ytdgbnibnhajfoaa
