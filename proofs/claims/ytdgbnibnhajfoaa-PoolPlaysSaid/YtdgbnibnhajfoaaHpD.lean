/- A pool's free numbers as a heap: Push and Pop, of the numbers and of container/heap. -/
import Derived.Test.YtdgbnibnhajfoaaHpC
import Derived.Test.YtdgbnibnhajfoaaPoC
namespace Go.Proofs.Ytdgbnibnhajfoaa
open Go.ChangeShapes Go.WideShapes Go.ChangeAt Go.RowKit
set_option linter.unusedVariables false
set_option linter.unusedSimpArgs false

theorem PX.toN {B p M : Nat} {vA vF : Value} {s : PS} {w : World} (h : PX B p M vA vF s w) : NX B p 2 vF s.free w := ⟨h.blk.cell 2, h.free, fun e => h.ne_A.2.1 e.symm⟩
theorem PX.ofN {B p M : Nat} {vA vF : Value} {s : PS} {w w' : World} {l : List Int} (h : PX B p M vA vF s w) (hN : NX B p 2 vF l w') (hg : w.grownBy w' vF.ownBlock) : PX B p M vA vF { s with free := l } w' := by
  obtain ⟨n1, n2, n3, n4, n5, n6⟩ := h.ne_A
  refine ⟨h.blk.grown hg n2, h.all.kept hg ?_, hN.row, h.num.grown hg (fun e => n5 e.symm), h.low⟩
  rcases n6 with n6 | n6
  · exact .inl n6
  · exact .inr n6
/-- a pool's row of free numbers has grown -/
theorem PX.growF {B p M : Nat} {vA vF v' : Value} {s : PS} {u w3 : World} {k : Int} (h : PX B p M vA vF s u) (hO : w3.ownsRow B 3 1 v' (s.free.length + 1) (s.free.map (Value.int .i64) ++ [.int .i64 k])) (hG : u.grownBy w3 vF.ownBlock) :
    w3.frozen? ⟨p, 2, none⟩ = false ∧ w3.cell? ⟨p, 2, none⟩ = some vF ∧ PX B p M vA v' { s with free := s.free ++ [k] } (w3.setCell ⟨p, 2, none⟩ v') ∧ PFr (fun k => k = p ∨ vF.ownBlock = some k) u (w3.setCell ⟨p, 2, none⟩ v') := by
  obtain ⟨n1, n2, n3, n4, n5, n6⟩ := h.ne_A
  have b3 := h.blk.grown hG n2
  have f3 : w3.ownsRow B 68 5 vA s.all.length (cellsP s.all) := h.all.kept hG (by
    rcases n6 with n6 | n6
    · exact .inl n6
    · exact .inr n6)
  have m3 : EMap encL w3 M _ := h.num.grown hG (fun e => n5 e.symm)
  have hs := mset w3 ⟨p, 2, none⟩ v'
  have nv : v'.ownBlock ≠ some p := fun e => b3.own_ne hO (by decide) e.symm
  refine ⟨b3.free 2, b3.cell 2, ⟨b3.put_ 2 v', mown_set f3 (fun e => n1 e.symm) _, ?_, m3.grown hs (fun e => n3 (by injection e with e; exact e.symm)), h.low⟩, ?_⟩
  · have := mown_set (p := ⟨p, 2, none⟩) hO nv v'
    simpa using this
  · exact (PFr.of_grown hG fun k e => .inr e).trans (D' := fun k => k = p) (PFr.of_grown hs fun k e => by injection e with e; exact e.symm) fun k e => .inl (.inl e)
theorem news_int (w : World) (u : Value) : ∀ (j : Nat) (y : Value), [u][j]? = some y → (w.alloc (.cells #[u] 3)).cell? ((⟨w.heap.size, 0, none⟩ : Addr).add j) = some y := by
  intro j y hj
  match j, hj with
  | 0, hj => simp at hj; subst hj; simp [Addr.add]
  | n + 1, hj => simp at hj
theorem infoI2 : (Try.prog.info? 3).map (fun i => (i.zero, i.size, i.bytes)) = some (some (.int .i64 0), 1, 8) := by kernel_rfl
theorem assert_int (k : Int) (u : World) : (Instr.typeAssert (.iface 3 (.int .i64 k)) 20 3 false).run Try.prog u = .ok (.int .i64 k) u := by
  simp [Instr.typeAssert, run_underlying Try.underlying3, Result.andThen]
theorem npush_mid {B p M n : Nat} {vA vF v' : Value} {s : PS} {w w3 : World} {k : Int} {o : Obj} (h : PX B p M vA vF s w) (hN : s.free.length = n) (hO : w3.ownsRow B 3 1 v' (n + 1) (s.free.map (Value.int .i64) ++ [.int .i64 k])) (hG : (w.drew.alloc o).grownBy w3 vF.ownBlock)
    (hown : v'.ownBlock = vF.ownBlock ∨ v'.ownBlock = some (w.drew.alloc o).heap.size) :
    ∃ g3 cap3, v' = .slice (some ⟨g3, 0, none⟩) (n + 1) cap3 ∧ w3.frozen? ⟨p, 2, none⟩ = false ∧ w3.cell? ⟨p, 2, none⟩ = some vF ∧ Hid (∃ vF', PX B p M vA vF' { s with free := s.free ++ [k] } (w3.setCell ⟨p, 2, none⟩ v') ∧ PFr (fun k => k = p ∨ vF.ownBlock = some k) w (w3.setCell ⟨p, 2, none⟩ v') ∧ ∀ k, vF'.ownBlock = some k → vF.ownBlock = some k ∨ w.heap.size ≤ k) := by
  subst hN
  have hb : Below w.heap.size w (w.drew.alloc o) := (Below.refl _ _).drew.trans (m1 w.drew o)
  obtain ⟨q1, q2, q3, q4⟩ := (h.later hb).growF hO hG
  obtain ⟨g3, cap3, rfl, _, _⟩ := hO.form (by omega)
  refine ⟨g3, cap3, rfl, q1, q2, Lib.hid ⟨_, q3, (PFr.of_below hb).trans q4 fun k e => .inl e, fun k hk => ?_⟩⟩
  rcases hown with e | e
  · left; rw [← e]; exact hk
  · right
    rw [e] at hk
    injection hk with hk
    rw [← hk]; exact hb.size
set_option maxHeartbeats 4000000 in
set_option maxRecDepth 100000 in
theorem npush_any (B p M : Nat) (vA vF : Value) (s : PS) (w : World) (h : PX B p M vA vF s w) (k : Int) (hn : s.free.length < 1000000) :
    Calls Try.prog 57 #[.pointer (some ⟨p, 2, none⟩), .iface 3 (.int .i64 k)] w fun e w' => e = .returned (.tuple #[]) ∧
      ∃ vF', PX B p M vA vF' { s with free := s.free ++ [k] } w' ∧ PFr (fun k => k = p ∨ vF.ownBlock = some k) w w' ∧ ∀ k, vF'.ownBlock = some k → vF.ownBlock = some k ∨ w.heap.size ≤ k := by
  obtain ⟨i0, hi, hz0, hz1, hz2⟩ := info_parts infoI2
  have d2 := h.blk.cell 2
  simp at d2
  have hplt := h.blk.lt
  have hlow : B ≤ w.heap.size := Nat.le_of_lt (Nat.lt_of_le_of_lt h.low.1 hplt)
  have hO := h.free
  obtain ⟨n, hN⟩ : ∃ n, s.free.length = n := ⟨_, rfl⟩
  rw [hN] at hO hn
  replace h := Lib.hid h
  replace hi := Lib.hid hi
  replace hz1 := Lib.hid hz1
  replace hz2 := Lib.hid hz2
  replace hN := Lib.hid hN
  have c3 : n + 1 ≤ maxLen := by unfold maxLen; omega
  have c4 : (n + 1) * 8 ≤ 140737488355328 := by omega
  have hta := fun u => assert_int k u
  go_enter Try.func57, Try.ntmps57
  go_region_law (first | (refine step_append_any _ rfl (.tmp 8) (.tmp 11) 54 rfl B 3 i0 (.int .i64 0) 1 8 Try.underlying54 hi.out hz0 hz1.out hz2.out rfl (by decide) vF n (s.free.map (Value.int .i64)) rfl (hO.alloc _) (w.heap.size + 1) (some ⟨w.heap.size, 0, none⟩) 1 1 [.int .i64 k] rfl ⟨rfl, fun _ => ⟨_, rfl, Nat.lt_succ_self _, news_int w _⟩⟩ (by intro u hu; simp at hu; subst hu; rfl) c3 c4 (Nat.le_trans hlow (by simp)) ?_; intro v' w3 hO3 hG3 hown3; obtain ⟨g3, cap3, rfl, q1, q2, q3⟩ := npush_mid h.out hN.out hO3 hG3 hown3; clear hO3 hG3 hown3))
  all_goals go_wp2
  all_goals refine bodyPost_end (results_none rfl _ _ _) rfl ?_
  all_goals
    obtain ⟨vF', e1, e2, e3⟩ := q3.out
    exact ⟨rfl, vF', e1, e2, e3⟩
end Go.Proofs.Ytdgbnibnhajfoaa
