/- A pool in memory: what lies where, what is found in it. -/
import Derived.Test.YtdgbnibnhajfoaaMem
import Derived.Test.YtdgbnibnhajfoaaWords
import Derived.Test.YtdgbnibnhajfoaaKm
import Derived.RegionTactic
import Derived.BigRegion
import Derived.Deep.RegionHeld3
import Derived.Deep.RegionWith
import Derived.Deep.RegionLaw
import Derived.Deep.CutRange
import Derived.Deep.DeepCutAuto
import Derived.Deep.QuietTactic
import Derived.BigQuiet
import Derived.Laws.StructEq
namespace Go.Proofs.Ytdgbnibnhajfoaa
open Go.ChangeShapes Go.WideShapes Go.ChangeAt Go.RowKit
set_option linter.unusedVariables false
set_option linter.unusedSimpArgs false

/-- a cell of a pool -/
structure Cl where
  prev : Int
  event : Int
  fresh : Bool
  own : Int
  holds : Int
def clC (c : Cl) : List Value := [.int .i64 c.prev, .int .i64 c.event, .bool c.fresh, .int .i64 c.own, .int .i64 c.holds]
def cellsP (l : List Cl) : List Value := l.flatMap clC
abbrev Ln := Int × Int × Bool
def encL (k : Ln) : Value := .agg #[.int .i64 k.1, .int .i64 k.2.1, .bool k.2.2]
/-- a pool -/
structure PS where
  most : Int
  all : List Cl
  free : List Int
  num : Ln → Option Int
def findP (s : PS) (i : Int) : Option Cl := if 0 ≤ i then (s.all[i.toNat]?).bind fun c => if c.holds = 0 then none else some c else none

theorem cellsP_len : ∀ l : List Cl, (cellsP l).length = l.length * 5
  | [] => rfl
  | c :: l => by
    have := cellsP_len l
    unfold cellsP at *
    rw [List.flatMap_cons, List.length_append, this, List.length_cons]
    simp [clC]
    omega
theorem cellsP_at : ∀ (l : List Cl) (k j : Nat) (c : Cl), l[k]? = some c → j < 5 → (cellsP l)[k * 5 + j]? = (clC c)[j]?
  | [], k, j, c, h, hj => by simp at h
  | a :: l, 0, j, c, h, hj => by
    simp at h
    subst h
    unfold cellsP
    rw [List.flatMap_cons, List.getElem?_append_left (by simp [clC]; omega)]
    simp
  | a :: l, k + 1, j, c, h, hj => by
    have := cellsP_at l k j c (by simpa using h) hj
    unfold cellsP at *
    rw [List.flatMap_cons, List.getElem?_append_right (by simp [clC]; omega), ← this]
    congr 1
    simp [clC]
    omega
theorem cellsP_set : ∀ (l : List Cl) (k j : Nat) (c c' : Cl) (v : Value), l[k]? = some c → j < 5 → (clC c).set j v = clC c' → (cellsP l).set (k * 5 + j) v = cellsP (l.set k c')
  | [], k, j, c, c', v, h, hj, hc => by simp at h
  | a :: l, 0, j, c, c', v, h, hj, hc => by
    simp at h
    subst h
    unfold cellsP
    rw [List.flatMap_cons, List.set_append_left _ _ (by simp [clC]; omega), List.set_cons_zero, List.flatMap_cons, ← hc]
    simp
  | a :: l, k + 1, j, c, c', v, h, hj, hc => by
    have := cellsP_set l k j c c' v (by simpa using h) hj hc
    unfold cellsP at *
    rw [List.flatMap_cons, List.set_append_right _ _ (by simp [clC]; omega), List.set_cons_succ, List.flatMap_cons, ← this]
    congr 2
    simp [clC]
    omega

/-- a pool lies here: its block, its map, its two rows -/
structure PX (B p M : Nat) (vA vF : Value) (s : PS) (w : World) : Prop where
  blk : Blk w p 60 #[.int .i64 s.most, vA, vF, .map (some M)]
  all : w.ownsRow B 68 5 vA s.all.length (cellsP s.all)
  free : w.ownsRow B 3 1 vF s.free.length (s.free.map (Value.int .i64))
  num : EMap encL w M fun k => (s.num k).map (Value.int .i64)
  low : B ≤ p ∧ B ≤ M
/-- all blocks but these are as they were -/
structure PFr (D : Nat → Prop) (w w' : World) : Prop where
  os : w'.os = w.os
  tape : w'.tape = w.tape
  output : w'.output = w.output
  size : w.heap.size ≤ w'.heap.size
  block : ∀ k, k < w.heap.size → ¬ D k → w'.heap[k]? = w.heap[k]?
theorem PFr.refl (D : Nat → Prop) (w : World) : PFr D w w := ⟨rfl, rfl, rfl, Nat.le_refl _, fun _ _ _ => rfl⟩
theorem PFr.of_below {D : Nat → Prop} {w w' : World} (h : Below w.heap.size w w') : PFr D w w' := ⟨h.os, h.tape, h.output, h.size, fun k hk _ => h.block k hk⟩
theorem PFr.of_grown {D : Nat → Prop} {w w' : World} {r : Option Nat} (h : w.grownBy w' r) (hr : ∀ k, r = some k → D k) : PFr D w w' :=
  ⟨h.os, h.tape, h.output, h.size, fun k hk hd => h.block k hk fun e => hd (hr k e.symm)⟩
/-- what was made between may have changed as well -/
theorem PFr.trans {D D' : Nat → Prop} {w w1 w2 : World} (h : PFr D w w1) (h2 : PFr D' w1 w2) (hd : ∀ k, D' k → D k ∨ w.heap.size ≤ k) : PFr D w w2 :=
  ⟨h2.os.trans h.os, h2.tape.trans h.tape, h2.output.trans h.output, Nat.le_trans h.size h2.size, fun k hk hn =>
    (h2.block k (Nat.lt_of_lt_of_le hk h.size) fun e => by rcases hd k e with e | e; exact hn e; omega).trans (h.block k hk hn)⟩
theorem PFr.below {D : Nat → Prop} {w w1 w2 : World} (hb : Below w.heap.size w w1) (h : PFr D w1 w2) (hd : ∀ k, D k → w.heap.size ≤ k) : Below w.heap.size w w2 :=
  ⟨h.os.trans hb.os, h.tape.trans hb.tape, h.output.trans hb.output, Nat.le_trans hb.size h.size, fun k hk =>
    (h.block k (Nat.lt_of_lt_of_le hk hb.size) fun e => by have := hd k e; omega).trans (hb.block k hk)⟩
theorem PFr.more {D D' : Nat → Prop} {w w1 : World} (h : PFr D w w1) (hd : ∀ k, D k → D' k) : PFr D' w w1 := ⟨h.os, h.tape, h.output, h.size, fun k hk hn => h.block k hk fun e => hn (hd k e)⟩
/-- the blocks that a pool has -/
def Has (p M : Nat) (vA vF : Value) (k : Nat) : Prop := k = p ∨ k = M ∨ vA.ownBlock = some k ∨ vF.ownBlock = some k
/-- a pool lies at p, in such blocks -/
def PAt (B p : Nat) (D : Nat → Prop) (s : PS) (w : World) : Prop := ∃ M vA vF, PX B p M vA vF s w ∧ ∀ k, Has p M vA vF k → D k
theorem PAt.more {B p : Nat} {D D' : Nat → Prop} {s : PS} {w : World} (h : PAt B p D s w) (hd : ∀ k, D k → D' k) : PAt B p D' s w := by
  obtain ⟨M, vA, vF, h, h2⟩ := h
  exact ⟨M, vA, vF, h, fun k hk => hd k (h2 k hk)⟩
theorem EMap.ne_blk {w : World} {r g : Nat} {f : Ln → Option Value} {t : TypeId} {cs : Array Value} (h : EMap encL w r f) (hb : Blk w g t cs) : g ≠ r := by
  rintro rfl
  obtain ⟨es, c, h, _⟩ := h
  unfold Blk at hb
  rw [h] at hb
  cases hb
theorem EMap.ne_own {w : World} {r B size n : Nat} {f : Ln → Option Value} {e : TypeId} {v : Value} {xs : List Value} (h : EMap encL w r f) (ho : w.ownsRow B e size v n xs) : v.ownBlock ≠ some r := by
  intro hv
  obtain ⟨es, c, h, _⟩ := h
  rcases ho.2 with ⟨rfl, _⟩ | ⟨g, cap, cur, rfl, _, hh, _⟩
  · cases hv
  · obtain rfl : g = r := by simpa [Value.ownBlock] using hv
    rw [h] at hh
    cases hh
theorem PX.fr {B p M : Nat} {vA vF : Value} {s : PS} {w w' : World} {D : Nat → Prop} (h : PX B p M vA vF s w) (hf : PFr D w w') (hd : ∀ k, Has p M vA vF k → ¬ D k) : PX B p M vA vF s w' := by
  have hk : ∀ {e : TypeId} {size n : Nat} {v : Value} {xs : List Value}, w.ownsRow B e size v n xs → (∀ k, v.ownBlock = some k → ¬ D k) → w'.ownsRow B e size v n xs := fun {e size n v xs} ho hn => by
    refine ⟨ho.1, ?_⟩
    rcases ho.2 with h0 | ⟨g, cap, cur, hv, hb, hg, hr⟩
    · exact .inl h0
    · refine .inr ⟨g, cap, cur, hv, hb, (hf.block g ?_ (hn g (by rw [hv]; rfl))).trans hg, hr⟩
      exact (Array.getElem?_eq_some_iff.1 hg).1
  exact ⟨(hf.block p h.blk.lt (hd p (.inl rfl))).trans h.blk, hk h.all fun k e => hd k (.inr (.inr (.inl e))), hk h.free fun k e => hd k (.inr (.inr (.inr e))), h.num.same (hf.block M h.num.lt (hd M (.inr (.inl rfl)))), h.low⟩
theorem PX.later {B p M : Nat} {vA vF : Value} {s : PS} {w w' : World} (h : PX B p M vA vF s w) (hb : Below w.heap.size w w') : PX B p M vA vF s w' := h.fr (D := fun _ => False) (.of_below hb) fun _ _ => id
theorem PAt.later {B p : Nat} {D : Nat → Prop} {s : PS} {w w' : World} (h : PAt B p D s w) (hb : Below w.heap.size w w') : PAt B p D s w' := by
  obtain ⟨M, vA, vF, h, h2⟩ := h
  exact ⟨M, vA, vF, h.later hb, h2⟩
theorem PAt.fr {B p : Nat} {D D' : Nat → Prop} {s : PS} {w w' : World} (h : PAt B p D s w) (hf : PFr D' w w') (hd : ∀ k, D k → ¬ D' k) : PAt B p D s w' := by
  obtain ⟨M, vA, vF, h, h2⟩ := h
  exact ⟨M, vA, vF, h.fr hf fun k hk => hd k (h2 k hk), h2⟩

/-- where a cell lies -/
theorem PX.cl {B p M : Nat} {vA vF : Value} {s : PS} {w : World} (h : PX B p M vA vF s w) {k : Nat} {c : Cl} (hc : s.all[k]? = some c) :
    ∃ A cap, vA = .slice (some ⟨A, 0, none⟩) s.all.length cap ∧ s.all.length ≤ cap ∧ cap ≤ maxLen ∧ w.cell? ⟨A, k * 5, none⟩ = some (.int .i64 c.prev) ∧ w.cell? ⟨A, k * 5 + 1, none⟩ = some (.int .i64 c.event) ∧ w.cell? ⟨A, k * 5 + 2, none⟩ = some (.bool c.fresh) ∧
      w.cell? ⟨A, k * 5 + 3, none⟩ = some (.int .i64 c.own) ∧ w.cell? ⟨A, k * 5 + 4, none⟩ = some (.int .i64 c.holds) := by
  have hlt : k < s.all.length := (List.getElem?_eq_some_iff.1 hc).1
  rcases h.all.2 with ⟨_, h0⟩ | ⟨A, cap, cur, hv, hb, hg, h1, h2, h3, h4⟩
  · omega
  · have hat : ∀ j, j < 5 → w.cell? ⟨A, k * 5 + j, none⟩ = (clC c)[j]? := fun j hj => by
      have := (hv ▸ h.all).cellAt (k * 5 + j) (by omega)
      rw [this]; exact cellsP_at _ _ _ _ hc hj
    exact ⟨A, cap, hv, h1, h2, hat 0 (by omega), hat 1 (by omega), hat 2 (by omega), hat 3 (by omega), hat 4 (by omega)⟩
theorem PX.len {B p M : Nat} {vA vF : Value} {s : PS} {w : World} (h : PX B p M vA vF s w) : ∃ A cap, vA = .slice A s.all.length cap ∧ s.all.length ≤ maxLen := by
  rcases h.all.2 with ⟨hv, h0⟩ | ⟨A, cap, cur, hv, hb, hg, h1, h2, h3, h4⟩
  · exact ⟨none, 0, by rw [hv, h0], by rw [h0]; decide⟩
  · exact ⟨_, cap, hv, Nat.le_trans h1 h2⟩
theorem PX.lenF {B p M : Nat} {vA vF : Value} {s : PS} {w : World} (h : PX B p M vA vF s w) : ∃ A cap, vF = .slice A s.free.length cap ∧ s.free.length ≤ maxLen := by
  rcases h.free.2 with ⟨hv, h0⟩ | ⟨A, cap, cur, hv, hb, hg, h1, h2, h3, h4⟩
  · exact ⟨none, 0, by rw [hv, h0], by rw [h0]; decide⟩
  · exact ⟨_, cap, hv, Nat.le_trans h1 h2⟩

set_option maxHeartbeats 4000000 in
theorem lfind_some (B p M : Nat) (vA vF : Value) (s : PS) (w : World) (h : PX B p M vA vF s w) (k : Nat) (c : Cl) (hc : findP s (k : Int) = some c) :
    ∃ A cap, vA = .slice (some ⟨A, 0, none⟩) s.all.length cap ∧ Calls Try.prog 30 #[.pointer (some ⟨p, 1, none⟩), .int .i64 (k : Int)] w fun e w' => e = .returned (.pointer (some ⟨A, k * 5, none⟩)) ∧ w = w' := by
  obtain ⟨hc, hz⟩ : s.all[k]? = some c ∧ ¬ c.holds = 0 := by
    unfold findP at hc
    rw [if_pos (by omega), Int.toNat_natCast] at hc
    cases hk : s.all[k]? with
    | none => rw [hk] at hc; cases hc
    | some d =>
      rw [hk] at hc
      simp only [Option.bind_some] at hc
      split at hc
      · cases hc
      · injection hc with hc; subst hc; exact ⟨rfl, by assumption⟩
  obtain ⟨A, cap, hv, h1, h2, c0, c1, c2, c3, c4⟩ := h.cl hc
  have hlt : k < s.all.length := (List.getElem?_eq_some_iff.1 hc).1
  refine ⟨A, cap, hv, ?_⟩
  have d1 : w.cell? ⟨p, 1, none⟩ = some (.slice (some ⟨A, 0, none⟩) s.all.length cap) := by rw [h.blk.cell 1, ← hv]; rfl
  have n9 : (s.all.length : Int) ≤ 9223372036854775807 := by unfold maxLen at h2; omega
  generalize s.all.length = n at *
  have k1 : ((k : Int) < (n : Int)) := by omega
  have k2 : (0 : Int) ≤ (k : Int) := by omega
  have hz2 : (c.holds == 0) = false := by simp [hz]
  clear h hc hlt h1 h2 hv c0 c1 c2 c3
  go_enter Try.func30, Try.ntmps30
  go_wp2
  go_ret
  exact ⟨rfl, rfl⟩
set_option maxHeartbeats 4000000 in
theorem lfind_none (B p M : Nat) (vA vF : Value) (s : PS) (w : World) (h : PX B p M vA vF s w) (i : Int) (hi : -9223372036854775808 ≤ i ∧ i ≤ 9223372036854775807) (hc : findP s i = none) :
    Calls Try.prog 30 #[.pointer (some ⟨p, 1, none⟩), .int .i64 i] w fun e w' => e = .returned (.pointer none) ∧ w = w' := by
  obtain ⟨A, cap, hv, h2⟩ := h.len
  have d1 : w.cell? ⟨p, 1, none⟩ = some (.slice A s.all.length cap) := by rw [h.blk.cell 1, ← hv]; rfl
  have n9 : (s.all.length : Int) ≤ 9223372036854775807 := by unfold maxLen at h2; omega
  by_cases h0 : i < 0
  · generalize s.all.length = n at *
    clear h hc h2 hv
    go_enter Try.func30, Try.ntmps30
    go_wp2
    go_ret
    exact ⟨rfl, rfl⟩
  by_cases h1 : (s.all.length : Int) ≤ i
  · generalize s.all.length = n at *
    clear h hc h2 hv
    go_enter Try.func30, Try.ntmps30
    go_wp2
    go_ret
    exact ⟨rfl, rfl⟩
  obtain ⟨k, rfl⟩ := Int.eq_ofNat_of_zero_le (Int.not_lt.1 h0)
  have hlt : k < s.all.length := by omega
  obtain ⟨A', cap', hv', h1', h2', c0, c1, c2, c3, c4⟩ := h.cl (List.getElem?_eq_getElem hlt)
  have hz : (s.all[k]).holds = 0 := by
    unfold findP at hc
    rw [if_pos (by omega)] at hc
    simp only [Int.ofNat_eq_natCast, Int.toNat_natCast, List.getElem?_eq_getElem hlt, Option.bind_some] at hc
    split at hc
    · assumption
    · cases hc
  rw [hv'] at hv
  cases hv
  rw [hz] at c4
  have k1 : ((k : Int) < (s.all.length : Int)) := by omega
  have k2 : (0 : Int) ≤ (k : Int) := by omega
  clear h hc h1 h2 h1' h2' hv' c0 c1 c2 c3 h0 hz hi hlt
  generalize s.all.length = n at *
  show Calls _ _ #[_, .int .i64 (k : Int)] _ _
  go_enter Try.func30, Try.ntmps30
  go_wp2
  go_ret
  exact ⟨rfl, rfl⟩
end Go.Proofs.Ytdgbnibnhajfoaa
