/- A pool: what is found, counted, held; one more hold. -/
import Derived.Test.YtdgbnibnhajfoaaPoA
namespace Go.Proofs.Ytdgbnibnhajfoaa
open Go.ChangeShapes Go.WideShapes Go.ChangeAt Go.RowKit
set_option linter.unusedVariables false
set_option linter.unusedSimpArgs false

theorem below_dn (w : World) (n : Nat) : Below w.heap.size w (w.drewN n) := ⟨rfl, rfl, rfl, Nat.le_refl _, fun _ _ => rfl⟩
/-- how a call ends that has turned a pool -/
def POut (B p : Nat) (D : Nat → Prop) (w : World) (s : PS) (w' : World) : Prop := PAt B p (fun k => D k ∨ w.heap.size ≤ k) s w' ∧ PFr D w w'
theorem POut.same {B p : Nat} {D : Nat → Prop} {w : World} {s : PS} (h : PAt B p D s w) : POut B p D w s w := ⟨h.more fun k hk => .inl hk, .refl _ _⟩
theorem PX.ne_A {B p M : Nat} {vA vF : Value} {s : PS} {w : World} (h : PX B p M vA vF s w) : some p ≠ vA.ownBlock ∧ some p ≠ vF.ownBlock ∧ p ≠ M ∧ vA.ownBlock ≠ some M ∧ vF.ownBlock ≠ some M ∧ (vA.ownBlock = none ∨ vA.ownBlock ≠ vF.ownBlock) :=
  ⟨h.blk.own_ne h.all (by decide), h.blk.own_ne h.free (by decide), h.num.ne_blk h.blk, h.num.ne_own h.all, h.num.ne_own h.free, mown_ne h.all h.free (by decide)⟩
/-- a cell of a pool's row is stored -/
theorem PX.put {B p M A n cap : Nat} {vF : Value} {s : PS} {w : World} (h : PX B p M (.slice (some ⟨A, 0, none⟩) n cap) vF s w) {k j : Nat} {c c' : Cl} {v : Value} (hc : s.all[k]? = some c) (hj : j < 5) (hs : (clC c).set j v = clC c') :
    PX B p M (.slice (some ⟨A, 0, none⟩) n cap) vF { s with all := s.all.set k c' } (w.setCell ⟨A, k * 5 + j, none⟩ v) ∧ w.grownBy (w.setCell ⟨A, k * 5 + j, none⟩ v) (some A) ∧ w.frozen? ⟨A, k * 5 + j, none⟩ = false := by
  obtain ⟨A', cap', hv', _⟩ := h.cl hc
  cases hv'
  obtain ⟨n1, n2, n3, n4, n5, n6⟩ := h.ne_A
  obtain ⟨o1, o2⟩ := h.all.stored (k * 5 + j) v
  rw [cellsP_set _ _ _ _ _ _ hc hj hs] at o1
  refine ⟨⟨h.blk.grown o2 (fun e => n1 (by rw [e]; rfl)), by simpa using o1, ?_, ?_, h.low⟩, o2, h.all.frozenAt _⟩
  · refine h.free.kept o2 (.inr fun e => ?_)
    rcases n6 with n6 | n6
    · cases n6
    · exact n6 (by rw [e]; rfl)
  · exact h.num.grown o2 (fun e => n4 (by rw [e]; rfl))
theorem findP_some {s : PS} {k : Nat} {c : Cl} : findP s (k : Int) = some c ↔ s.all[k]? = some c ∧ ¬ c.holds = 0 := by
  unfold findP
  rw [if_pos (by omega), Int.toNat_natCast]
  cases hk : s.all[k]? with
  | none => simp
  | some d =>
    simp only [Option.bind_some]
    constructor
    · intro h
      split at h
      · cases h
      · injection h with h; subst h; exact ⟨rfl, by assumption⟩
    · rintro ⟨h1, h2⟩
      injection h1 with h1
      subst h1
      rw [if_neg h2]
theorem findP_nat {s : PS} {i : Int} {c : Cl} (h : findP s i = some c) : ∃ k : Nat, i = k ∧ s.all[k]? = some c ∧ ¬ c.holds = 0 := by
  have h0 : 0 ≤ i := by
    unfold findP at h
    split at h
    · assumption
    · cases h
  obtain ⟨k, rfl⟩ := Int.eq_ofNat_of_zero_le h0
  exact ⟨k, rfl, findP_some.1 h⟩

theorem find_nil (i : Int) (w : World) : Calls Try.prog 24 #[.pointer none, .int .i64 i] w fun e w' => e = .returned (.pointer none) ∧ w = w' := by
  go_enter Try.func24, Try.ntmps24
  go_wp2
  go_ret
  exact ⟨rfl, rfl⟩
theorem find_some (B p M : Nat) (vA vF : Value) (s : PS) (w : World) (h : PX B p M vA vF s w) (k : Nat) (c : Cl) (hc : findP s (k : Int) = some c) :
    ∃ A cap, vA = .slice (some ⟨A, 0, none⟩) s.all.length cap ∧ Calls Try.prog 24 #[.pointer (some ⟨p, 0, none⟩), .int .i64 (k : Int)] w fun e w' => e = .returned (.pointer (some ⟨A, k * 5, none⟩)) ∧ w = w' := by
  obtain ⟨A, cap, hv, C⟩ := lfind_some B p M vA vF s w h k c hc
  refine ⟨A, cap, hv, ?_⟩
  clear h hc hv
  replace C := Lib.hid C
  go_enter Try.func24, Try.ntmps24
  go_wp2_with fail
  refine C.out.mono ?_
  rintro e w1 ⟨rfl, rfl⟩
  go_wp2
  go_ret
  exact ⟨rfl, rfl⟩
theorem find_none (B p M : Nat) (vA vF : Value) (s : PS) (w : World) (h : PX B p M vA vF s w) (i : Int) (hi : -9223372036854775808 ≤ i ∧ i ≤ 9223372036854775807) (hc : findP s i = none) :
    Calls Try.prog 24 #[.pointer (some ⟨p, 0, none⟩), .int .i64 i] w fun e w' => e = .returned (.pointer none) ∧ w = w' := by
  have C := Lib.hid (lfind_none B p M vA vF s w h i hi hc)
  clear h hc
  go_enter Try.func24, Try.ntmps24
  go_wp2_with fail
  refine C.out.mono ?_
  rintro e w1 ⟨rfl, rfl⟩
  go_wp2
  go_ret
  exact ⟨rfl, rfl⟩

theorem lenI_any (A : Option Addr) (n c : Nat) (w : World) : Calls Try.prog 31 #[.slice A n c] w fun e w' => e = .returned (.int .i64 (n : Int)) ∧ w = w' := by
  go_enter Try.func31, Try.ntmps31
  go_wp2
  go_ret
  exact ⟨rfl, rfl⟩
def usedP (s : PS) : Int := (s.all.length : Int) - s.free.length
set_option maxHeartbeats 4000000 in
theorem count_any (B p M : Nat) (vA vF : Value) (s : PS) (w : World) (h : PX B p M vA vF s w) :
    Calls Try.prog 27 #[.pointer (some ⟨p, 1, none⟩)] w fun e w' => e = .returned (.int .i64 (usedP s)) ∧ ∃ n, w' = w.drewN n := by
  obtain ⟨A, cap, hv, h2⟩ := h.len
  obtain ⟨A', cap', hv', h2'⟩ := h.lenF
  have d1 : w.cell? ⟨p, 1, none⟩ = some (.slice A s.all.length cap) := by rw [h.blk.cell 1, ← hv]; rfl
  have d2 : w.cell? ⟨p, 2, none⟩ = some (.slice A' s.free.length cap') := by rw [h.blk.cell 2, ← hv']; rfl
  unfold usedP
  clear h hv hv'
  generalize s.all.length = n at *
  generalize s.free.length = m at *
  have hw : IntKind.i64.wrap ((n : Int) - (m : Int)) = (n : Int) - (m : Int) := by rw [IntKind.wrap_i64]; unfold maxLen at h2 h2'; omega
  have C := Lib.hid (fun u => lenI_any A' m cap' u)
  clear h2 h2'
  go_enter Try.func27, Try.ntmps27
  go_upto_region 1 with (fail)
  go_quiet (first | (go_at_call 31; (refine (C.out _).mono ?_; rintro e w1 ⟨rfl, rfl⟩; exact ⟨rfl, _, rfl⟩)))
  all_goals go_wp2
  all_goals go_ret
  all_goals exact ⟨rfl, _, rfl⟩

theorem used_nil (w : World) : Calls Try.prog 17 #[.pointer none] w fun e w' => e = .returned (.int .i64 0) ∧ w = w' := by
  go_enter Try.func17, Try.ntmps17
  go_wp2
  go_ret
  exact ⟨rfl, rfl⟩
theorem usedX (B p M : Nat) (vA vF : Value) (s : PS) (w : World) (h : PX B p M vA vF s w) :
    Calls Try.prog 17 #[.pointer (some ⟨p, 0, none⟩)] w fun e w' => e = .returned (.int .i64 (usedP s)) ∧ ∃ n, w' = w.drewN n := by
  have C := Lib.hid (count_any B p M vA vF s w h)
  clear h
  go_enter Try.func17, Try.ntmps17
  go_wp2_with fail
  refine C.out.mono ?_
  rintro e w1 ⟨rfl, n, rfl⟩
  go_wp2
  go_ret
  exact ⟨rfl, n, rfl⟩
theorem used_any {B p : Nat} {D : Nat → Prop} {s : PS} {w : World} (h : PAt B p D s w) :
    Calls Try.prog 17 #[.pointer (some ⟨p, 0, none⟩)] w fun e w' => e = .returned (.int .i64 (usedP s)) ∧ ∃ n, w' = w.drewN n := by
  obtain ⟨M, vA, vF, h, _⟩ := h
  exact usedX B p M vA vF s w h

def heldP (s : PS) (i : Int) : Int := match findP s i with | some c => c.holds | none => 0
theorem held_nil (i : Int) (w : World) : Calls Try.prog 19 #[.pointer none, .int .i64 i] w fun e w' => e = .returned (.int .i64 0) ∧ w = w' := by
  have C := Lib.hid (fun u => find_nil i u)
  go_enter Try.func19, Try.ntmps19
  go_wp2_with fail
  refine (C.out _).mono ?_
  rintro e w1 ⟨rfl, rfl⟩
  go_wp2
  go_ret
  exact ⟨rfl, rfl⟩
theorem held_any {B p : Nat} {D : Nat → Prop} {s : PS} {w : World} (h : PAt B p D s w) (i : Int) (hi : -9223372036854775808 ≤ i ∧ i ≤ 9223372036854775807) :
    Calls Try.prog 19 #[.pointer (some ⟨p, 0, none⟩), .int .i64 i] w fun e w' => e = .returned (.int .i64 (heldP s i)) ∧ w = w' := by
  obtain ⟨M, vA, vF, h, _⟩ := h
  unfold heldP
  cases hf : findP s i with
  | none =>
    have C := Lib.hid (find_none B p M vA vF s w h i hi hf)
    clear h hf
    go_enter Try.func19, Try.ntmps19
    go_wp2_with fail
    refine C.out.mono ?_
    rintro e w1 ⟨rfl, rfl⟩
    go_wp2
    go_ret
    exact ⟨rfl, rfl⟩
  | some c =>
    obtain ⟨k, rfl, hc, hz⟩ := findP_nat hf
    obtain ⟨A, cap, hv, C⟩ := find_some B p M vA vF s w h k c hf
    obtain ⟨A', cap', hv', _, _, c0, c1, c2, c3, c4⟩ := h.cl hc
    rw [hv] at hv'
    cases hv'
    replace C := Lib.hid C
    clear h hf hc hz c0 c1 c2 c3 hv hi
    go_enter Try.func19, Try.ntmps19
    go_wp2_with fail
    refine C.out.mono ?_
    rintro e w1 ⟨rfl, rfl⟩
    go_wp2
    go_ret
    exact ⟨rfl, rfl⟩

/-- one more hold of the cell at k -/
def holdP (s : PS) (k : Nat) (c : Cl) : PS := { s with all := s.all.set k { c with own := c.own + 1, holds := c.holds + 1 } }
theorem hold_nil (i : Int) (w : World) : Calls Try.prog 13 #[.pointer none, .int .i64 i] w fun e w' => e = .returned (.bool false) ∧ w = w' := by
  have C := Lib.hid (fun u => find_nil i u)
  go_enter Try.func13, Try.ntmps13
  go_wp2_with fail
  refine (C.out _).mono ?_
  rintro e w1 ⟨rfl, rfl⟩
  go_wp2
  go_ret
  exact ⟨rfl, rfl⟩
theorem hold_none {B p : Nat} {D : Nat → Prop} {s : PS} {w : World} (h : PAt B p D s w) (i : Int) (hi : -9223372036854775808 ≤ i ∧ i ≤ 9223372036854775807) (hf : findP s i = none) :
    Calls Try.prog 13 #[.pointer (some ⟨p, 0, none⟩), .int .i64 i] w fun e w' => e = .returned (.bool false) ∧ w = w' := by
  obtain ⟨M, vA, vF, h, _⟩ := h
  have C := Lib.hid (find_none B p M vA vF s w h i hi hf)
  clear h hf
  go_enter Try.func13, Try.ntmps13
  go_wp2_with fail
  refine C.out.mono ?_
  rintro e w1 ⟨rfl, rfl⟩
  go_wp2
  go_ret
  exact ⟨rfl, rfl⟩
set_option maxHeartbeats 4000000 in
theorem hold_some {B p : Nat} {D : Nat → Prop} {s : PS} {w : World} (h : PAt B p D s w) (k : Nat) (c : Cl) (hf : findP s (k : Int) = some c) (h1 : 0 ≤ c.own ∧ c.own < 4611686018427387904) (h2 : 0 ≤ c.holds ∧ c.holds < 4611686018427387904) :
    Calls Try.prog 13 #[.pointer (some ⟨p, 0, none⟩), .int .i64 (k : Int)] w fun e w' => e = .returned (.bool true) ∧ POut B p D w (holdP s k c) w' := by
  obtain ⟨M, vA, vF, h, hD⟩ := h
  obtain ⟨hc, hz⟩ := findP_some.1 hf
  obtain ⟨A, cap, hv, C⟩ := find_some B p M vA vF s w h k c hf
  subst hv
  obtain ⟨A', cap', hv', _, _, c0, c1, c2, c3, c4⟩ := h.cl hc
  cases hv'
  have hlt : k < s.all.length := (List.getElem?_eq_some_iff.1 hc).1
  obtain ⟨p1, g1, f3⟩ := h.put (j := 3) (v := .int .i64 (c.own + 1)) (c' := { c with own := c.own + 1 }) hc (by omega) rfl
  have hc1 : ({ s with all := s.all.set k { c with own := c.own + 1 } } : PS).all[k]? = some { c with own := c.own + 1 } := by simp [hlt]
  obtain ⟨A', cap', hv', _, _, e0, e1, e2, e3, e4⟩ := p1.cl hc1
  simp only [List.length_set] at hv'
  cases hv'
  obtain ⟨p2, g2, f4⟩ := p1.put (j := 4) (v := .int .i64 (c.holds + 1)) (c' := { c with own := c.own + 1, holds := c.holds + 1 }) hc1 (by omega) rfl
  have hfin : POut B p D w (holdP s k c) ((w.setCell ⟨A, k * 5 + 3, none⟩ (.int .i64 (c.own + 1))).setCell ⟨A, k * 5 + 4, none⟩ (.int .i64 (c.holds + 1))) := by
    have hA : D A := hD A (.inr (.inr (.inl rfl)))
    refine ⟨⟨M, .slice (some ⟨A, 0, none⟩) s.all.length cap, vF, ?_, fun q hq => .inl (hD q hq)⟩, (PFr.of_grown g1 (fun q e => by injection e with e; subst e; exact hA)).trans (PFr.of_grown (D := D) g2 (fun q e => by injection e with e; subst e; exact hA)) fun q hq => .inl hq⟩
    · have : holdP s k c = { s with all := (s.all.set k { c with own := c.own + 1 }).set k { c with own := c.own + 1, holds := c.holds + 1 } } := by unfold holdP; rw [List.set_set]
      rw [this]
      exact p2
  replace hfin := Lib.hid hfin
  have w1 : IntKind.i64.wrap (c.own + 1) = c.own + 1 := by rw [IntKind.wrap_i64]; omega
  have w2 : IntKind.i64.wrap (c.holds + 1) = c.holds + 1 := by rw [IntKind.wrap_i64]; omega
  replace C := Lib.hid C
  clear p1 p2 g1 g2 h hf hc hc1 hz c0 c1 c2 e0 e1 e2 e3 hlt h1 h2 hD
  go_enter Try.func13, Try.ntmps13
  go_wp2_with fail
  refine C.out.mono ?_
  rintro e w1 ⟨rfl, rfl⟩
  go_wp2
  go_ret
  exact ⟨rfl, hfin.out⟩
end Go.Proofs.Ytdgbnibnhajfoaa
