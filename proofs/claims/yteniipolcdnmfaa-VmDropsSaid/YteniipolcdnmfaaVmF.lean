/- What has been written, as it lies in memory; which instructions may stand, as contracts. -/
import Derived.Test.YteniipolcdnmfaaVmE
namespace Go.Proofs.Yteniipolcdnmfaa
open Go.ChangeShapes Go.WideShapes Go.ChangeAt Go.RowKit Go.Fl
set_option linter.unusedVariables false
set_option linter.unusedSimpArgs false

/-- a row of ints -/
def IsAt (w : World) (A : Option Addr) (l : List Int) : Prop := 0 < l.length → ∃ b off, A = some ⟨b, off, none⟩ ∧ ∀ (i : Nat) (z : Int), l[i]? = some z → w.cell? ⟨b, off + i, none⟩ = some (.int .i64 z)
theorem IsAt.later {w w1 : World} {A : Option Addr} {l : List Int} (h : IsAt w A l) (hb : Below w.heap.size w w1) : IsAt w1 A l := fun hn => by
  obtain ⟨b, off, hA, hc⟩ := h hn
  exact ⟨b, off, hA, fun i z hi => cell_later hb (hc i z hi)⟩
/-- block g holds these yeses and noes -/
def boolsA (bs : List Bool) : Array Value := (bs.map Value.bool).toArray
def Bl (w : World) (g : Nat) (bs : List Bool) : Prop := Blk w g 4 (boolsA bs)
theorem Bl.lt {w : World} {g : Nat} {bs : List Bool} (h : Bl w g bs) : g < w.heap.size := Blk.lt h
theorem Bl.kept {w w1 : World} {g : Nat} {bs : List Bool} (h : Bl w g bs) (hb : Below w.heap.size w w1) : Bl w1 g bs := Blk.kept h hb
theorem Bl.grown {w w1 : World} {row : Option Nat} {g : Nat} {bs : List Bool} (h : Bl w g bs) (hg : w.grownBy w1 row) (hne : some g ≠ row) : Bl w1 g bs := Blk.grown h hg hne
theorem Bl.cell {w : World} {g : Nat} {bs : List Bool} (h : Bl w g bs) {k : Nat} (hk : k < bs.length) : w.cell? ⟨g, k, none⟩ = some (.bool bs[k]) := by
  rw [Blk.cell h]; simp [boolsA, hk]
theorem Bl.free {w : World} {g : Nat} {bs : List Bool} (h : Bl w g bs) (k : Nat) : w.frozen? ⟨g, k, none⟩ = false := Blk.free h k
theorem Bl.set {w : World} {g : Nat} {bs : List Bool} (h : Bl w g bs) (k : Nat) (x : Bool) : Bl (w.setCell ⟨g, k, none⟩ (.bool x)) g (bs.set k x) := by
  have := Blk.put_ h k (.bool x)
  unfold Bl
  rw [show boolsA (bs.set k x) = (boolsA bs).setIfInBounds k (.bool x) by simp [boolsA, List.map_set]]
  exact this
def bfn (bs : List Bool) : Int → Bool := fun i => if 0 ≤ i then (bs[i.toNat]?).getD false else false
theorem bfn_out {bs : List Bool} {i : Int} (h : i < 0 ∨ (bs.length : Int) ≤ i) : bfn bs i = false := by
  unfold bfn
  split
  · rw [List.getElem?_eq_none (by omega)]; rfl
  · rfl
theorem bfn_in {bs : List Bool} {k : Nat} (h : k < bs.length) : bfn bs (k : Int) = bs[k] := by
  unfold bfn
  rw [if_pos (by omega), Int.toNat_natCast, List.getElem?_eq_getElem h]; rfl
theorem bfn_put {bs : List Bool} {k : Nat} (h : k < bs.length) : bfn (bs.set k true) = putB (bfn bs) (k : Int) := by
  funext j
  unfold putB bfn
  by_cases hj : 0 ≤ j
  · rw [if_pos hj, if_pos hj]
    by_cases e : j = (k : Int)
    · subst e
      rw [Int.toNat_natCast, List.getElem?_set_self h]
      simp
    · rw [List.getElem?_set_ne (by omega)]
      simp [e]
  · rw [if_neg hj, if_neg hj]
    have : ¬ j = (k : Int) := by omega
    simp [this]
theorem bfn_none (n : Nat) : bfn (List.replicate n false) = fun _ => false := by
  funext j
  unfold bfn
  split
  · rw [List.getElem?_replicate]; split <;> rfl
  · rfl
/-- what has been written: its block W, the blocks of its two lists -/
structure WrIn (W gr gs : Nat) (br bs : List Bool) (w : World) : Prop where
  c0 : w.cell? ⟨W, 0, none⟩ = some (.slice (some ⟨gr, 0, none⟩) br.length br.length)
  c1 : w.cell? ⟨W, 1, none⟩ = some (.slice (some ⟨gs, 0, none⟩) bs.length bs.length)
  r : Bl w gr br
  s : Bl w gs bs
  nW : W ≠ gr ∧ W ≠ gs
  ne : gr ≠ gs
  nr64 : br.length ≤ 9223372036854775807
  ns64 : bs.length ≤ 9223372036854775807
theorem WrIn.later {W gr gs : Nat} {br bs : List Bool} {w w1 : World} (h : WrIn W gr gs br bs w) (hb : Below w.heap.size w w1) : WrIn W gr gs br bs w1 := { h with c0 := cell_later hb h.c0, c1 := cell_later hb h.c1, r := h.r.kept hb, s := h.s.kept hb }
/-- words: two ints in a block of its own; the first n of them -/
def TwI (p q : Int) (n : Nat) : Value → World → Prop := fun v w => ∃ g, v = .slice (some ⟨g, 0, none⟩) n 2 ∧ IsAt w (some ⟨g, 0, none⟩) [p, q]
theorem twi_mono (p q : Int) (n : Nat) : G.MonoW (TwI p q n) := fun _ _ _ ⟨g, e, h⟩ hb => ⟨g, e, h.later hb⟩
theorem IsAt.take {w : World} {A : Option Addr} {l : List Int} (h : IsAt w A l) (n : Nat) : IsAt w A (l.take n) := fun hn => by
  obtain ⟨b, off, hA, hc⟩ := h (by simp at hn; omega)
  exact ⟨b, off, hA, fun i z hi => hc i z (by rw [List.getElem?_take] at hi; split at hi; exact hi; cases hi)⟩
def IOut (l : List Int) (w : World) (e : Ending) (w' : World) : Prop := ∃ A cap, e = .returned (.slice A l.length cap) ∧ IsAt w' A l ∧ Below w.heap.size w w'
theorem isAt_one (w : World) (z : Int) : IsAt (w.alloc (.cells #[.int .i64 z] 3)) (some ⟨w.heap.size, 0, none⟩) [z] := fun _ => ⟨w.heap.size, 0, rfl, fun i y h => by
  match i, h with
  | 0, h => simp at h; subst h; simp⟩
theorem isAt_two (w : World) (z y : Int) : IsAt (w.alloc (.cells #[.int .i64 z, .int .i64 y] 3)) (some ⟨w.heap.size, 0, none⟩) [z, y] := fun _ => ⟨w.heap.size, 0, rfl, fun i x h => by
  match i, h with
  | 0, h => simp at h; subst h; simp
  | 1, h => simp at h; subst h; simp⟩
theorem bdrewNr {w u : World} (h : Below w.heap.size w u) (n : Nat) : Below w.heap.size w (u.drewN n) := ⟨h.os, h.tape, h.output, h.size, h.block⟩
theorem reads_len (x : I4) : (readsP x).length ≤ 2 := by unfold readsP; (repeat' split) <;> simp
  <;> omega

set_option maxHeartbeats 2000000 in
theorem reads_any (op d ia ib : Int) (w : World) : Calls Try.prog 47 #[.agg #[.int .i64 op, .int .i64 d, .int .i64 ia, .int .i64 ib]] w (IOut (readsP (op, d, ia, ib)) w) := by
  have hw := m1 w (.cells #[.int .i64 op, .int .i64 d, .int .i64 ia, .int .i64 ib] 42)
  by_cases h52 : op = 52
  · subst h52
    rw [show readsP (52, d, ia, ib) = [ia] from rfl]
    go_enter Try.func47, Try.ntmps47
    go_wp2
    go_ret
    exact ⟨_, _, rfl, by simpa using isAt_one (w.alloc (.cells #[.int .i64 52, .int .i64 d, .int .i64 ia, .int .i64 ib] 42)) ia, hw.alloc (by simp) _⟩
  by_cases h53 : op = 53
  · subst h53
    rw [show readsP (53, d, ia, ib) = [ib] from rfl]
    go_enter Try.func47, Try.ntmps47
    go_wp2
    go_ret
    exact ⟨_, _, rfl, by simpa using isAt_one (w.alloc (.cells #[.int .i64 53, .int .i64 d, .int .i64 ia, .int .i64 ib] 42)) ib, hw.alloc (by simp) _⟩
  have hR : readsP (op, d, ia, ib) = [ia, ib].take (opsP op) := by
    unfold readsP
    rw [if_neg h52, if_neg h53]
  rw [hR]
  clear hR
  have f52 : (op == 52) = false := by simpa using h52
  have f53 : (op == 53) = false := by simpa using h53
  have O := Lib.hid (operands_any op)
  have hi : InsAt (w.alloc (.cells #[.int .i64 op, .int .i64 d, .int .i64 ia, .int .i64 ib] 42)) w.heap.size (op, d, ia, ib) := insAt_new w (op, d, ia, ib)
  have hn : opsP op = 0 ∨ opsP op = 1 ∨ opsP op = 2 := by have := ops_le op; omega
  generalize opsP op = n at *
  clear h52 h53
  have i0 := hi.1
  rcases hn with rfl | rfl | rfl
  · go_enter Try.func47, Try.ntmps47
    go_upto_region 6 with (fail)
    clear i0
    generalize w.alloc (.cells #[.int .i64 op, .int .i64 d, .int .i64 ia, .int .i64 ib] 42) = u0 at *
    have KD := G.keepsD_true []
    refine G.region_words (fun w' => InsAt w' w.heap.size (op, d, ia, ib) ∧ Below w.heap.size w w') [G.isW (.pointer (some ⟨w.heap.size, 2, none⟩)), G.isW (.int .i64 ia), G.isW (.pointer (some ⟨w.heap.size, 3, none⟩)), G.isW (.int .i64 ib), TwI ia ib 2, G.isW (.pointer (some ⟨w.heap.size, 0, none⟩)), G.isW (.int .i64 op), G.isW (.int .i64 0), TwI ia ib 0, TwI ia ib 0] (by kernel_rfl) (by repeat' (first | exact G.monoL_nil | exact G.is_mono _ | exact G.any_mono | exact twi_mono _ _ _ | refine G.monoL_cons ?_ ?_)) (by kernel_rfl) (by kernel_rfl) (fun _ _ h hb => ⟨h.1.later hb, below_more h.2 hb⟩) ⟨hi.later (Below.refl _ _).drew, hw.drew⟩ ?_ ?_
    · intro KC
      refine G.stepsL_cons (fun a u hc hdd hd hk hdep => ?_) ?_
      ·
        have d1 : (a.tmps[1]?).getD undef = (.pointer (some ⟨w.heap.size, 0, none⟩)) := hk 1 (by kernel_rfl)
        refine G.step_val KC KD hc hdd rfl (.pointer (some ⟨w.heap.size, 2, none⟩)) u (G.wanted_plain rfl) ?_ rfl (Below.refl _ _)
        first | (go_simp; done) | rfl | (simp [go_sem, *]; done)
      refine G.stepsL_cons (fun a u hc hdd hd hk hdep => ?_) ?_
      ·
        have d15 : (a.tmps[15]?).getD undef = (.pointer (some ⟨w.heap.size, 2, none⟩)) := hdep ⟨0, .data⟩ (by simp) rfl
        refine G.step_val KC KD hc hdd rfl (.int .i64 ia) u (G.wanted_plain rfl) ?_ rfl (Below.refl _ _)
        obtain ⟨i0, i1, i2, i3⟩ := hc.1
        first | (go_simp; done) | rfl | (simp [go_sem, *]; done)
      refine G.stepsL_cons (fun a u hc hdd hd hk hdep => ?_) ?_
      ·
        have d1 : (a.tmps[1]?).getD undef = (.pointer (some ⟨w.heap.size, 0, none⟩)) := hk 1 (by kernel_rfl)
        refine G.step_val KC KD hc hdd rfl (.pointer (some ⟨w.heap.size, 3, none⟩)) u (G.wanted_plain rfl) ?_ rfl (Below.refl _ _)
        first | (go_simp; done) | rfl | (simp [go_sem, *]; done)
      refine G.stepsL_cons (fun a u hc hdd hd hk hdep => ?_) ?_
      ·
        have d17 : (a.tmps[17]?).getD undef = (.pointer (some ⟨w.heap.size, 3, none⟩)) := hdep ⟨2, .data⟩ (by simp) rfl
        refine G.step_val KC KD hc hdd rfl (.int .i64 ib) u (G.wanted_plain rfl) ?_ rfl (Below.refl _ _)
        obtain ⟨i0, i1, i2, i3⟩ := hc.1
        first | (go_simp; done) | rfl | (simp [go_sem, *]; done)
      refine G.stepsL_cons (fun a u hc hdd hd hk hdep => ?_) ?_
      ·
        have d16 : (a.tmps[16]?).getD undef = (.int .i64 ia) := hdep ⟨1, .data⟩ (by simp) rfl
        have d18 : (a.tmps[18]?).getD undef = (.int .i64 ib) := hdep ⟨3, .data⟩ (by simp) rfl
        refine G.step_val KC KD hc hdd rfl (.slice (some ⟨u.heap.size, 0, none⟩) 2 2) (u.alloc (.cells #[.int .i64 ia, .int .i64 ib] 3)) (G.wanted_plain rfl) ?_ ⟨u.heap.size, rfl, isAt_two u ia ib⟩ (m1 _ _)
        first | (go_simp; done) | rfl | (simp [go_sem, *]; done)
      refine G.stepsL_cons (fun a u hc hdd hd hk hdep => ?_) ?_
      ·
        have d1 : (a.tmps[1]?).getD undef = (.pointer (some ⟨w.heap.size, 0, none⟩)) := hk 1 (by kernel_rfl)
        refine G.step_val KC KD hc hdd rfl (.pointer (some ⟨w.heap.size, 0, none⟩)) u (G.wanted_plain rfl) ?_ rfl (Below.refl _ _)
        first | (go_simp; done) | rfl | (simp [go_sem, *]; done)
      refine G.stepsL_cons (fun a u hc hdd hd hk hdep => ?_) ?_
      ·
        have d20 : (a.tmps[20]?).getD undef = (.pointer (some ⟨w.heap.size, 0, none⟩)) := hdep ⟨5, .data⟩ (by simp) rfl
        refine G.step_val KC KD hc hdd rfl (.int .i64 op) u (G.wanted_plain rfl) ?_ rfl (Below.refl _ _)
        obtain ⟨i0, i1, i2, i3⟩ := hc.1
        first | (go_simp; done) | rfl | (simp [go_sem, *]; done)
      refine G.stepsL_cons (fun a u hc hdd hd hk hdep => ?_) ?_
      ·
        have d21 : (a.tmps[21]?).getD undef = (.int .i64 op) := hdep ⟨6, .data⟩ (by simp) rfl
        refine G.step_call KC KD hc hdd rfl 27 #[.int .i64 op] (G.wanted_plain rfl) (by first | (go_simp; done) | rfl) ?_
        exact (O.out u).mono (by rintro e w' ⟨rfl, hb⟩; exact ⟨_, rfl, rfl, hb⟩)
      refine G.stepsL_cons (fun a u hc hdd hd hk hdep => ?_) ?_
      ·
        have d19' : (TwI ia ib 2) ((a.tmps[19]?).getD undef) u := hdep ⟨4, .data⟩ (by simp) rfl
        obtain ⟨g4, d19, h4⟩ := d19'
        have d22 : (a.tmps[22]?).getD undef = (.int .i64 0) := hdep ⟨7, .data⟩ (by simp) rfl
        refine G.step_val KC KD hc hdd rfl (.slice (some ⟨g4, 0, none⟩) 0 2) u (G.wanted_plain rfl) ?_ ⟨g4, rfl, h4⟩ (Below.refl _ _)
        first | (go_simp; done) | rfl | (simp [go_sem, *]; done)
      refine G.stepsL_cons (fun a u hc hdd hd hk hdep => ?_) ?_
      ·
        have d23' : (TwI ia ib 0) ((a.tmps[23]?).getD undef) u := hdep ⟨8, .data⟩ (by simp) rfl
        obtain ⟨g8, d23, h8⟩ := d23'
        refine G.step_val KC KD hc hdd rfl (.slice (some ⟨g8, 0, none⟩) 0 2) u (G.wanted_plain rfl) ?_ ⟨g8, rfl, h8⟩ (Below.refl _ _)
        first | (go_simp; done) | rfl | (simp [go_sem, *]; done)
      exact G.stepsL_nil
    intro vs' wN hN hh
    obtain ⟨g, e9, h9⟩ : TwI ia ib 0 (vs' 9) wN := by
      obtain ⟨-, -, -, -, -, -, -, -, -, eX, -⟩ := hh
      exact eX
    clear hh
    set_option maxRecDepth 100000 in simp only [List.take_succ_cons, List.take_zero, putAll, Act.put, List.setIfInBounds_toArray, List.set_cons_zero, List.set_cons_succ, Nat.reduceAdd, e9]
    obtain ⟨-, hB⟩ := hN
    go_wp2
    go_ret
    exact ⟨some ⟨g, 0, none⟩, 2, rfl, h9.take 0, hB⟩
  · go_enter Try.func47, Try.ntmps47
    go_upto_region 6 with (fail)
    clear i0
    generalize w.alloc (.cells #[.int .i64 op, .int .i64 d, .int .i64 ia, .int .i64 ib] 42) = u0 at *
    have KD := G.keepsD_true []
    refine G.region_words (fun w' => InsAt w' w.heap.size (op, d, ia, ib) ∧ Below w.heap.size w w') [G.isW (.pointer (some ⟨w.heap.size, 2, none⟩)), G.isW (.int .i64 ia), G.isW (.pointer (some ⟨w.heap.size, 3, none⟩)), G.isW (.int .i64 ib), TwI ia ib 2, G.isW (.pointer (some ⟨w.heap.size, 0, none⟩)), G.isW (.int .i64 op), G.isW (.int .i64 1), TwI ia ib 1, TwI ia ib 1] (by kernel_rfl) (by repeat' (first | exact G.monoL_nil | exact G.is_mono _ | exact G.any_mono | exact twi_mono _ _ _ | refine G.monoL_cons ?_ ?_)) (by kernel_rfl) (by kernel_rfl) (fun _ _ h hb => ⟨h.1.later hb, below_more h.2 hb⟩) ⟨hi.later (Below.refl _ _).drew, hw.drew⟩ ?_ ?_
    · intro KC
      refine G.stepsL_cons (fun a u hc hdd hd hk hdep => ?_) ?_
      ·
        have d1 : (a.tmps[1]?).getD undef = (.pointer (some ⟨w.heap.size, 0, none⟩)) := hk 1 (by kernel_rfl)
        refine G.step_val KC KD hc hdd rfl (.pointer (some ⟨w.heap.size, 2, none⟩)) u (G.wanted_plain rfl) ?_ rfl (Below.refl _ _)
        first | (go_simp; done) | rfl | (simp [go_sem, *]; done)
      refine G.stepsL_cons (fun a u hc hdd hd hk hdep => ?_) ?_
      ·
        have d15 : (a.tmps[15]?).getD undef = (.pointer (some ⟨w.heap.size, 2, none⟩)) := hdep ⟨0, .data⟩ (by simp) rfl
        refine G.step_val KC KD hc hdd rfl (.int .i64 ia) u (G.wanted_plain rfl) ?_ rfl (Below.refl _ _)
        obtain ⟨i0, i1, i2, i3⟩ := hc.1
        first | (go_simp; done) | rfl | (simp [go_sem, *]; done)
      refine G.stepsL_cons (fun a u hc hdd hd hk hdep => ?_) ?_
      ·
        have d1 : (a.tmps[1]?).getD undef = (.pointer (some ⟨w.heap.size, 0, none⟩)) := hk 1 (by kernel_rfl)
        refine G.step_val KC KD hc hdd rfl (.pointer (some ⟨w.heap.size, 3, none⟩)) u (G.wanted_plain rfl) ?_ rfl (Below.refl _ _)
        first | (go_simp; done) | rfl | (simp [go_sem, *]; done)
      refine G.stepsL_cons (fun a u hc hdd hd hk hdep => ?_) ?_
      ·
        have d17 : (a.tmps[17]?).getD undef = (.pointer (some ⟨w.heap.size, 3, none⟩)) := hdep ⟨2, .data⟩ (by simp) rfl
        refine G.step_val KC KD hc hdd rfl (.int .i64 ib) u (G.wanted_plain rfl) ?_ rfl (Below.refl _ _)
        obtain ⟨i0, i1, i2, i3⟩ := hc.1
        first | (go_simp; done) | rfl | (simp [go_sem, *]; done)
      refine G.stepsL_cons (fun a u hc hdd hd hk hdep => ?_) ?_
      ·
        have d16 : (a.tmps[16]?).getD undef = (.int .i64 ia) := hdep ⟨1, .data⟩ (by simp) rfl
        have d18 : (a.tmps[18]?).getD undef = (.int .i64 ib) := hdep ⟨3, .data⟩ (by simp) rfl
        refine G.step_val KC KD hc hdd rfl (.slice (some ⟨u.heap.size, 0, none⟩) 2 2) (u.alloc (.cells #[.int .i64 ia, .int .i64 ib] 3)) (G.wanted_plain rfl) ?_ ⟨u.heap.size, rfl, isAt_two u ia ib⟩ (m1 _ _)
        first | (go_simp; done) | rfl | (simp [go_sem, *]; done)
      refine G.stepsL_cons (fun a u hc hdd hd hk hdep => ?_) ?_
      ·
        have d1 : (a.tmps[1]?).getD undef = (.pointer (some ⟨w.heap.size, 0, none⟩)) := hk 1 (by kernel_rfl)
        refine G.step_val KC KD hc hdd rfl (.pointer (some ⟨w.heap.size, 0, none⟩)) u (G.wanted_plain rfl) ?_ rfl (Below.refl _ _)
        first | (go_simp; done) | rfl | (simp [go_sem, *]; done)
      refine G.stepsL_cons (fun a u hc hdd hd hk hdep => ?_) ?_
      ·
        have d20 : (a.tmps[20]?).getD undef = (.pointer (some ⟨w.heap.size, 0, none⟩)) := hdep ⟨5, .data⟩ (by simp) rfl
        refine G.step_val KC KD hc hdd rfl (.int .i64 op) u (G.wanted_plain rfl) ?_ rfl (Below.refl _ _)
        obtain ⟨i0, i1, i2, i3⟩ := hc.1
        first | (go_simp; done) | rfl | (simp [go_sem, *]; done)
      refine G.stepsL_cons (fun a u hc hdd hd hk hdep => ?_) ?_
      ·
        have d21 : (a.tmps[21]?).getD undef = (.int .i64 op) := hdep ⟨6, .data⟩ (by simp) rfl
        refine G.step_call KC KD hc hdd rfl 27 #[.int .i64 op] (G.wanted_plain rfl) (by first | (go_simp; done) | rfl) ?_
        exact (O.out u).mono (by rintro e w' ⟨rfl, hb⟩; exact ⟨_, rfl, rfl, hb⟩)
      refine G.stepsL_cons (fun a u hc hdd hd hk hdep => ?_) ?_
      ·
        have d19' : (TwI ia ib 2) ((a.tmps[19]?).getD undef) u := hdep ⟨4, .data⟩ (by simp) rfl
        obtain ⟨g4, d19, h4⟩ := d19'
        have d22 : (a.tmps[22]?).getD undef = (.int .i64 1) := hdep ⟨7, .data⟩ (by simp) rfl
        refine G.step_val KC KD hc hdd rfl (.slice (some ⟨g4, 0, none⟩) 1 2) u (G.wanted_plain rfl) ?_ ⟨g4, rfl, h4⟩ (Below.refl _ _)
        first | (go_simp; done) | rfl | (simp [go_sem, *]; done)
      refine G.stepsL_cons (fun a u hc hdd hd hk hdep => ?_) ?_
      ·
        have d23' : (TwI ia ib 1) ((a.tmps[23]?).getD undef) u := hdep ⟨8, .data⟩ (by simp) rfl
        obtain ⟨g8, d23, h8⟩ := d23'
        refine G.step_val KC KD hc hdd rfl (.slice (some ⟨g8, 0, none⟩) 1 2) u (G.wanted_plain rfl) ?_ ⟨g8, rfl, h8⟩ (Below.refl _ _)
        first | (go_simp; done) | rfl | (simp [go_sem, *]; done)
      exact G.stepsL_nil
    intro vs' wN hN hh
    obtain ⟨g, e9, h9⟩ : TwI ia ib 1 (vs' 9) wN := by
      obtain ⟨-, -, -, -, -, -, -, -, -, eX, -⟩ := hh
      exact eX
    clear hh
    set_option maxRecDepth 100000 in simp only [List.take_succ_cons, List.take_zero, putAll, Act.put, List.setIfInBounds_toArray, List.set_cons_zero, List.set_cons_succ, Nat.reduceAdd, e9]
    obtain ⟨-, hB⟩ := hN
    go_wp2
    go_ret
    exact ⟨some ⟨g, 0, none⟩, 2, rfl, h9.take 1, hB⟩
  · go_enter Try.func47, Try.ntmps47
    go_upto_region 6 with (fail)
    clear i0
    generalize w.alloc (.cells #[.int .i64 op, .int .i64 d, .int .i64 ia, .int .i64 ib] 42) = u0 at *
    have KD := G.keepsD_true []
    refine G.region_words (fun w' => InsAt w' w.heap.size (op, d, ia, ib) ∧ Below w.heap.size w w') [G.isW (.pointer (some ⟨w.heap.size, 2, none⟩)), G.isW (.int .i64 ia), G.isW (.pointer (some ⟨w.heap.size, 3, none⟩)), G.isW (.int .i64 ib), TwI ia ib 2, G.isW (.pointer (some ⟨w.heap.size, 0, none⟩)), G.isW (.int .i64 op), G.isW (.int .i64 2), TwI ia ib 2, TwI ia ib 2] (by kernel_rfl) (by repeat' (first | exact G.monoL_nil | exact G.is_mono _ | exact G.any_mono | exact twi_mono _ _ _ | refine G.monoL_cons ?_ ?_)) (by kernel_rfl) (by kernel_rfl) (fun _ _ h hb => ⟨h.1.later hb, below_more h.2 hb⟩) ⟨hi.later (Below.refl _ _).drew, hw.drew⟩ ?_ ?_
    · intro KC
      refine G.stepsL_cons (fun a u hc hdd hd hk hdep => ?_) ?_
      ·
        have d1 : (a.tmps[1]?).getD undef = (.pointer (some ⟨w.heap.size, 0, none⟩)) := hk 1 (by kernel_rfl)
        refine G.step_val KC KD hc hdd rfl (.pointer (some ⟨w.heap.size, 2, none⟩)) u (G.wanted_plain rfl) ?_ rfl (Below.refl _ _)
        first | (go_simp; done) | rfl | (simp [go_sem, *]; done)
      refine G.stepsL_cons (fun a u hc hdd hd hk hdep => ?_) ?_
      ·
        have d15 : (a.tmps[15]?).getD undef = (.pointer (some ⟨w.heap.size, 2, none⟩)) := hdep ⟨0, .data⟩ (by simp) rfl
        refine G.step_val KC KD hc hdd rfl (.int .i64 ia) u (G.wanted_plain rfl) ?_ rfl (Below.refl _ _)
        obtain ⟨i0, i1, i2, i3⟩ := hc.1
        first | (go_simp; done) | rfl | (simp [go_sem, *]; done)
      refine G.stepsL_cons (fun a u hc hdd hd hk hdep => ?_) ?_
      ·
        have d1 : (a.tmps[1]?).getD undef = (.pointer (some ⟨w.heap.size, 0, none⟩)) := hk 1 (by kernel_rfl)
        refine G.step_val KC KD hc hdd rfl (.pointer (some ⟨w.heap.size, 3, none⟩)) u (G.wanted_plain rfl) ?_ rfl (Below.refl _ _)
        first | (go_simp; done) | rfl | (simp [go_sem, *]; done)
      refine G.stepsL_cons (fun a u hc hdd hd hk hdep => ?_) ?_
      ·
        have d17 : (a.tmps[17]?).getD undef = (.pointer (some ⟨w.heap.size, 3, none⟩)) := hdep ⟨2, .data⟩ (by simp) rfl
        refine G.step_val KC KD hc hdd rfl (.int .i64 ib) u (G.wanted_plain rfl) ?_ rfl (Below.refl _ _)
        obtain ⟨i0, i1, i2, i3⟩ := hc.1
        first | (go_simp; done) | rfl | (simp [go_sem, *]; done)
      refine G.stepsL_cons (fun a u hc hdd hd hk hdep => ?_) ?_
      ·
        have d16 : (a.tmps[16]?).getD undef = (.int .i64 ia) := hdep ⟨1, .data⟩ (by simp) rfl
        have d18 : (a.tmps[18]?).getD undef = (.int .i64 ib) := hdep ⟨3, .data⟩ (by simp) rfl
        refine G.step_val KC KD hc hdd rfl (.slice (some ⟨u.heap.size, 0, none⟩) 2 2) (u.alloc (.cells #[.int .i64 ia, .int .i64 ib] 3)) (G.wanted_plain rfl) ?_ ⟨u.heap.size, rfl, isAt_two u ia ib⟩ (m1 _ _)
        first | (go_simp; done) | rfl | (simp [go_sem, *]; done)
      refine G.stepsL_cons (fun a u hc hdd hd hk hdep => ?_) ?_
      ·
        have d1 : (a.tmps[1]?).getD undef = (.pointer (some ⟨w.heap.size, 0, none⟩)) := hk 1 (by kernel_rfl)
        refine G.step_val KC KD hc hdd rfl (.pointer (some ⟨w.heap.size, 0, none⟩)) u (G.wanted_plain rfl) ?_ rfl (Below.refl _ _)
        first | (go_simp; done) | rfl | (simp [go_sem, *]; done)
      refine G.stepsL_cons (fun a u hc hdd hd hk hdep => ?_) ?_
      ·
        have d20 : (a.tmps[20]?).getD undef = (.pointer (some ⟨w.heap.size, 0, none⟩)) := hdep ⟨5, .data⟩ (by simp) rfl
        refine G.step_val KC KD hc hdd rfl (.int .i64 op) u (G.wanted_plain rfl) ?_ rfl (Below.refl _ _)
        obtain ⟨i0, i1, i2, i3⟩ := hc.1
        first | (go_simp; done) | rfl | (simp [go_sem, *]; done)
      refine G.stepsL_cons (fun a u hc hdd hd hk hdep => ?_) ?_
      ·
        have d21 : (a.tmps[21]?).getD undef = (.int .i64 op) := hdep ⟨6, .data⟩ (by simp) rfl
        refine G.step_call KC KD hc hdd rfl 27 #[.int .i64 op] (G.wanted_plain rfl) (by first | (go_simp; done) | rfl) ?_
        exact (O.out u).mono (by rintro e w' ⟨rfl, hb⟩; exact ⟨_, rfl, rfl, hb⟩)
      refine G.stepsL_cons (fun a u hc hdd hd hk hdep => ?_) ?_
      ·
        have d19' : (TwI ia ib 2) ((a.tmps[19]?).getD undef) u := hdep ⟨4, .data⟩ (by simp) rfl
        obtain ⟨g4, d19, h4⟩ := d19'
        have d22 : (a.tmps[22]?).getD undef = (.int .i64 2) := hdep ⟨7, .data⟩ (by simp) rfl
        refine G.step_val KC KD hc hdd rfl (.slice (some ⟨g4, 0, none⟩) 2 2) u (G.wanted_plain rfl) ?_ ⟨g4, rfl, h4⟩ (Below.refl _ _)
        first | (go_simp; done) | rfl | (simp [go_sem, *]; done)
      refine G.stepsL_cons (fun a u hc hdd hd hk hdep => ?_) ?_
      ·
        have d23' : (TwI ia ib 2) ((a.tmps[23]?).getD undef) u := hdep ⟨8, .data⟩ (by simp) rfl
        obtain ⟨g8, d23, h8⟩ := d23'
        refine G.step_val KC KD hc hdd rfl (.slice (some ⟨g8, 0, none⟩) 2 2) u (G.wanted_plain rfl) ?_ ⟨g8, rfl, h8⟩ (Below.refl _ _)
        first | (go_simp; done) | rfl | (simp [go_sem, *]; done)
      exact G.stepsL_nil
    intro vs' wN hN hh
    obtain ⟨g, e9, h9⟩ : TwI ia ib 2 (vs' 9) wN := by
      obtain ⟨-, -, -, -, -, -, -, -, -, eX, -⟩ := hh
      exact eX
    clear hh
    set_option maxRecDepth 100000 in simp only [List.take_succ_cons, List.take_zero, putAll, Act.put, List.setIfInBounds_toArray, List.set_cons_zero, List.set_cons_succ, Nat.reduceAdd, e9]
    obtain ⟨-, hB⟩ := hN
    go_wp2
    go_ret
    exact ⟨some ⟨g, 0, none⟩, 2, rfl, h9.take 2, hB⟩

set_option maxHeartbeats 4000000 in
theorem has_any (W gr gs : Nat) (br bs : List Bool) (op d ia ib : Int) (w : World) (h : WrIn W gr gs br bs w) (hp : op = 54 → 0 ≤ ia ∧ ia < (bs.length : Int)) :
    Calls Try.prog 37 #[.pointer (some ⟨W, 0, none⟩), .agg #[.int .i64 op, .int .i64 d, .int .i64 ia, .int .i64 ib]] w (BOut (hasB (bfn br, bfn bs) (op, d, ia, ib)) w) := by
  have hw := m1 w (.cells #[.int .i64 op, .int .i64 d, .int .i64 ia, .int .i64 ib] 42)
  have hi : InsAt (w.alloc (.cells #[.int .i64 op, .int .i64 d, .int .i64 ia, .int .i64 ib] 42)) w.heap.size (op, d, ia, ib) := insAt_new w (op, d, ia, ib)
  replace h := h.later hw
  have hH : hasB (bfn br, bfn bs) (op, d, ia, ib) = ((readsP (op, d, ia, ib)).all (bfn br) && (if op = 54 then bfn bs ia else true)) := rfl
  have R := reads_any op d ia ib
  have hl2 := reads_len (op, d, ia, ib)
  generalize hasB (bfn br, bfn bs) (op, d, ia, ib) = r at *
  generalize readsP (op, d, ia, ib) = l at *
  replace hH := Lib.hid hH
  replace R := Lib.hid R
  replace hp := Lib.hid hp
  go_enter Try.func37, Try.ntmps37
  go_upto_region 1 with (fail)
  have q0 := hi.1
  have q1 := hi.2.1
  have q2 := hi.2.2.1
  have q3 := hi.2.2.2
  generalize w.alloc (.cells #[.int .i64 op, .int .i64 d, .int .i64 ia, .int .i64 ib] 42) = u at *
  go_wp2_with fail
  refine (R.out _).mono ?_; rintro e w1 ⟨A, cap, rfl, hA, hb1⟩
  replace h := h.later hb1
  replace hi := hi.later hb1
  replace hw := below_more hw hb1
  clear R hb1 q0 q1 q2 q3
  go_wp2_with fail
  go_loopw [10] (fun i wr => ∃ k : Nat, k ≤ l.length ∧ i = .int .i64 (k : Int) ∧ (l.take k).all (bfn br) = true ∧ wr = w1) (fun i _ => l.length - (intOf i).toNat)
  case atStart => exact ⟨0, Nat.zero_le _, rfl, rfl, rfl⟩
  case round =>
    obtain ⟨k, hk, rfl, hall, rfl⟩ := hrel
    replace hall := Lib.hid hall
    have c0 := h.c0
    have c1 := h.c1
    by_cases hlt : k < l.length
    · obtain ⟨bb, off, rfl, hc⟩ := hA (by omega)
      have hz := List.getElem?_eq_getElem hlt
      have hcell := hc k _ hz
      have hstep : ∀ x, bfn br l[k] = x → (l.take (k + 1)).all (bfn br) = x := fun x hx => by
        rw [List.take_add_one, hz, List.all_append, hall.out]; simp [hx]
      have hno : bfn br l[k] = false → r = false := fun hx => by
        have : l.all (bfn br) = false := by
          rw [List.all_eq_false]
          exact ⟨l[k], List.getElem_mem hlt, by simp [hx]⟩
        rw [hH.out, this]; rfl
      clear hz hc
      generalize l[k] = z at *
      have k0 : (0 : Int) ≤ (k : Int) := by omega
      have k1 : (k : Int) < (l.length : Int) := by omega
      have k3 := Lib.hid hlt
      by_cases z0 : z < 0
      · have hr := Lib.hid (hno (bfn_out (.inl z0)))
        clear hno hstep hk hlt
        go_wp2
        go_ret
        exact bout_eq hr.out.symm hw
      by_cases z1 : (br.length : Int) ≤ z
      · have hr := Lib.hid (hno (bfn_out (.inr z1)))
        have z2 : z ≥ (br.length : Int) := z1
        clear hno hstep hk hlt
        go_wp2
        go_ret
        exact bout_eq hr.out.symm hw
      obtain ⟨j, rfl⟩ : ∃ j : Nat, z = (j : Int) := ⟨z.toNat, by omega⟩
      have hj : j < br.length := by omega
      have hcj := h.r.cell hj
      have hbj := bfn_in hj
      have z2 : ¬ (j : Int) ≥ (br.length : Int) := by omega
      have z3 : (j : Int) < (br.length : Int) := by omega
      have z4 : (0 : Int) ≤ (j : Int) := by omega
      cases hx : br[j] with
      | false =>
        rw [hx] at hcj hbj
        have hr := Lib.hid (hno hbj)
        clear hno hstep hk hlt hx hbj z0 z1
        go_wp2
        go_ret
        exact bout_eq hr.out.symm hw
      | true =>
        rw [hx] at hcj hbj
        have hst := Lib.hid (hstep true hbj)
        clear hno hstep hx hbj z0 z1 hk
        go_wp2
        go_roundw
        case rel => exact ⟨k + 1, by have := k3.out; omega, by go_num, hst.out, by first | rfl | trivial⟩
        case measure => have := k3.out; simp [intOf]; omega
    · obtain rfl : k = l.length := by omega
      have hall := hall.out
      rw [List.take_length] at hall
      replace hH := hH.out
      rw [hall, Bool.true_and] at hH
      have i0 := hi.1
      have i2 := hi.2.2.1
      clear hA hk hlt
      by_cases h54 : op = 54
      · rw [if_pos h54] at hH
        obtain ⟨p0, p1⟩ := hp.out h54
        subst h54
        obtain ⟨j, rfl⟩ : ∃ j : Nat, ia = (j : Int) := ⟨ia.toNat, by omega⟩
        have hj : j < bs.length := by omega
        have hcj := h.s.cell hj
        rw [bfn_in hj] at hH
        generalize bs[j] = x at *
        replace hH := Lib.hid hH
        clear hi
        go_wp2_with fail
        go_quiet (fail)
        go_wp2
        go_ret
        exact bout_eq hH.out.symm (bdrewNr hw _)
      · rw [if_neg h54] at hH
        have f54 : (op != 54) = true := by simpa using h54
        replace hH := Lib.hid hH
        clear h54 hi hp
        go_wp2_with fail
        go_quiet (fail)
        go_wp2
        go_ret
        exact bout_eq hH.out.symm (bdrewNr hw _)

/-- what has been written is this now -/
def NOut (W gr gs : Nat) (br bs : List Bool) (s : WrS) (w : World) (e : Ending) (w' : World) : Prop := ∃ br' bs', e = .returned (.tuple #[]) ∧ WrIn W gr gs br' bs' w' ∧ br'.length = br.length ∧ bs'.length = bs.length ∧ (bfn br', bfn bs') = s ∧ ButRS gr gs w w'
theorem WrIn.putR {W gr gs : Nat} {br bs : List Bool} {w : World} (h : WrIn W gr gs br bs w) (k : Nat) (x : Bool) : WrIn W gr gs (br.set k x) bs (w.setCell ⟨gr, k, none⟩ (.bool x)) :=
  ⟨by rw [World.cell?_setCell_other _ _ _ _ (by simp; intro e; exact absurd e.symm h.nW.1)]; simpa using h.c0, by rw [World.cell?_setCell_other _ _ _ _ (by simp; intro e; exact absurd e.symm h.nW.1)]; exact h.c1,
    h.r.set k x, Blk.else_ h.s h.ne _, h.nW, h.ne, by simpa using h.nr64, h.ns64⟩
theorem WrIn.putS {W gr gs : Nat} {br bs : List Bool} {w : World} (h : WrIn W gr gs br bs w) (k : Nat) (x : Bool) : WrIn W gr gs br (bs.set k x) (w.setCell ⟨gs, k, none⟩ (.bool x)) :=
  ⟨by rw [World.cell?_setCell_other _ _ _ _ (by simp; intro e; exact absurd e.symm h.nW.2)]; exact h.c0, by rw [World.cell?_setCell_other _ _ _ _ (by simp; intro e; exact absurd e.symm h.nW.2)]; simpa using h.c1,
    Blk.else_ h.r (fun e => h.ne e.symm) _, h.s.set k x, h.nW, h.ne, h.nr64, by simpa using h.ns64⟩
set_option maxHeartbeats 4000000 in
theorem note_any (W gr gs : Nat) (br bs : List Bool) (op d ia ib : Int) (w : World) (h : WrIn W gr gs br bs w) (hp : op = 53 → 0 ≤ ia ∧ ia < (bs.length : Int)) (hq : writesB op = true → 0 ≤ d ∧ d < (br.length : Int)) :
    Calls Try.prog 38 #[.pointer (some ⟨W, 0, none⟩), .agg #[.int .i64 op, .int .i64 d, .int .i64 ia, .int .i64 ib]] w (NOut W gr gs br bs (noteP (bfn br, bfn bs) (op, d, ia, ib)) w) := by
  have hw := m1 w (.cells #[.int .i64 op, .int .i64 d, .int .i64 ia, .int .i64 ib] 42)
  have hi : InsAt (w.alloc (.cells #[.int .i64 op, .int .i64 d, .int .i64 ia, .int .i64 ib] 42)) w.heap.size (op, d, ia, ib) := insAt_new w (op, d, ia, ib)
  replace h := h.later hw
  have i0 := hi.1
  by_cases h53 : op = 53
  · obtain ⟨p0, p1⟩ := hp h53
    obtain ⟨j, rfl⟩ : ∃ j : Nat, ia = (j : Int) := ⟨ia.toNat, by omega⟩
    have hj : j < bs.length := by omega
    have hE := Lib.hid (show (bfn br, bfn (bs.set j true)) = noteP (bfn br, bfn bs) (op, d, (j : Int), ib) by unfold noteP; rw [if_pos h53, bfn_put hj])
    have f53 : (op == 53) = true := by simpa using h53
    have z4 : (0 : Int) ≤ (j : Int) := by omega
    clear h53 hp hq
    go_enter Try.func38, Try.ntmps38
    go_upto_region 2 with (fail)
    clear i0
    generalize w.alloc (.cells #[.int .i64 op, .int .i64 d, .int .i64 (j : Int), .int .i64 ib] 42) = u0 at *
    have KD := G.keepsD_true []
    have KC : G.KeepsC (fun w' => WrIn W gr gs br bs w' ∧ InsAt w' w.heap.size (op, d, (j : Int), ib) ∧ Below w.heap.size w w') := fun _ _ h hb => ⟨h.1.later hb, h.2.1.later hb, below_more h.2.2 hb⟩
    refine G.region_wordsG 7 (fun w' => WrIn W gr gs br bs w' ∧ InsAt w' w.heap.size (op, d, (j : Int), ib) ∧ Below w.heap.size w w') (fun _ _ => True) [G.isW (.pointer (some ⟨W, 0, none⟩)), G.isW (.pointer (some ⟨W, 0, none⟩)), G.isW (.pointer (some ⟨W, 1, none⟩)), G.isW (.slice (some ⟨gs, 0, none⟩) bs.length bs.length), G.isW (.pointer (some ⟨w.heap.size, 2, none⟩)), G.isW (.int .i64 (j : Int)), G.isW (.pointer (some ⟨gs, j, none⟩))] (by kernel_rfl) (by repeat' (first | exact G.monoL_nil | exact G.is_mono _ | exact G.any_mono | refine G.monoL_cons ?_ ?_)) (by kernel_rfl) (by kernel_rfl) ⟨h.later (Below.refl _ _).drew, hi.later (Below.refl _ _).drew, hw.drew⟩ trivial ?_ ?_
    ·
      refine G.stepsL_cons (fun a u hc hdd hd hk hdep => ?_) ?_
      ·
        have d0 : (a.tmps[0]?).getD undef = (.pointer (some ⟨W, 0, none⟩)) := hk 0 (by kernel_rfl)
        refine G.step_val KC KD hc hdd rfl (.pointer (some ⟨W, 0, none⟩)) u (G.wanted_plain rfl) ?_ rfl (Below.refl _ _)
        first | (go_simp; done) | rfl | (simp [go_sem, *]; done)
      refine G.stepsL_cons (fun a u hc hdd hd hk hdep => ?_) ?_
      ·
        have d7 : (a.tmps[7]?).getD undef = (.pointer (some ⟨W, 0, none⟩)) := hdep ⟨0, .data⟩ (by simp) rfl
        refine G.step_val KC KD hc hdd rfl (.pointer (some ⟨W, 0, none⟩)) u (G.wanted_plain rfl) ?_ rfl (Below.refl _ _)
        first | (go_simp; done) | rfl | (simp [go_sem, *]; done)
      refine G.stepsL_cons (fun a u hc hdd hd hk hdep => ?_) ?_
      ·
        have d8 : (a.tmps[8]?).getD undef = (.pointer (some ⟨W, 0, none⟩)) := hdep ⟨1, .data⟩ (by simp) rfl
        refine G.step_val KC KD hc hdd rfl (.pointer (some ⟨W, 1, none⟩)) u (G.wanted_plain rfl) ?_ rfl (Below.refl _ _)
        first | (go_simp; done) | rfl | (simp [go_sem, *]; done)
      refine G.stepsL_cons (fun a u hc hdd hd hk hdep => ?_) ?_
      ·
        have d9 : (a.tmps[9]?).getD undef = (.pointer (some ⟨W, 1, none⟩)) := hdep ⟨2, .data⟩ (by simp) rfl
        refine G.step_val KC KD hc hdd rfl (.slice (some ⟨gs, 0, none⟩) bs.length bs.length) u (G.wanted_plain rfl) ?_ rfl (Below.refl _ _)
        have s0 := hc.1.c0
        have s1 := hc.1.c1
        obtain ⟨i0, i1, i2, i3⟩ := hc.2.1
        first | (go_simp; done) | rfl | (simp [go_sem, *]; done)
      refine G.stepsL_cons (fun a u hc hdd hd hk hdep => ?_) ?_
      ·
        have d3 : (a.tmps[3]?).getD undef = (.pointer (some ⟨w.heap.size, 0, none⟩)) := hk 3 (by kernel_rfl)
        refine G.step_val KC KD hc hdd rfl (.pointer (some ⟨w.heap.size, 2, none⟩)) u (G.wanted_plain rfl) ?_ rfl (Below.refl _ _)
        first | (go_simp; done) | rfl | (simp [go_sem, *]; done)
      refine G.stepsL_cons (fun a u hc hdd hd hk hdep => ?_) ?_
      ·
        have d11 : (a.tmps[11]?).getD undef = (.pointer (some ⟨w.heap.size, 2, none⟩)) := hdep ⟨4, .data⟩ (by simp) rfl
        refine G.step_val KC KD hc hdd rfl (.int .i64 (j : Int)) u (G.wanted_plain rfl) ?_ rfl (Below.refl _ _)
        have s0 := hc.1.c0
        have s1 := hc.1.c1
        obtain ⟨i0, i1, i2, i3⟩ := hc.2.1
        first | (go_simp; done) | rfl | (simp [go_sem, *]; done)
      refine G.stepsL_cons (fun a u hc hdd hd hk hdep => ?_) ?_
      ·
        have d10 : (a.tmps[10]?).getD undef = (.slice (some ⟨gs, 0, none⟩) bs.length bs.length) := hdep ⟨3, .data⟩ (by simp) rfl
        have d12 : (a.tmps[12]?).getD undef = (.int .i64 (j : Int)) := hdep ⟨5, .data⟩ (by simp) rfl
        refine G.step_val KC KD hc hdd rfl (.pointer (some ⟨gs, j, none⟩)) u (G.wanted_plain rfl) ?_ rfl (Below.refl _ _)
        first | (go_simp; done) | rfl | (simp [go_sem, *]; done)
      exact G.stepsL_nil
    intro vs' wN hN _ hh
    have e6 : vs' 6 = (.pointer (some ⟨gs, j, none⟩)) := by
      obtain ⟨-, -, -, -, -, -, eX, -⟩ := hh
      exact eX
    clear hh
    set_option maxRecDepth 100000 in simp only [List.take_succ_cons, List.take_zero, putAll, Act.put, List.setIfInBounds_toArray, List.set_cons_zero, List.set_cons_succ, Nat.reduceAdd, e6]
    obtain ⟨hN, -, hB⟩ := hN
    have hcj := hN.s.cell hj
    have hfj := hN.s.free j
    refine wpAny_ready (rs := [7]) (by kernel_rfl) (by simp) ?_
    refine AllReady.cons rfl (fun K hK => ?_) AllReady.nil
    go_simp
    refine hK _ _ ?_
    clear hK K
    refine wpAny_done (by kernel_rfl) ?_ _

    refine bodyPost_end (results_none rfl _ _ _) rfl ?_
    exact ⟨br, bs.set j true, rfl, hN.putS j true, rfl, by simp, hE.out, (ButRS.of_below hB).trans (.of_right (mset _ _ _))⟩
  · have f53 : (op == 53) = false := by simpa using h53
    have Wr := Lib.hid (writes_any op)
    have hE0 : noteP (bfn br, bfn bs) (op, d, ia, ib) = if writesB op = true then (putB (bfn br) d, bfn bs) else (bfn br, bfn bs) := by unfold noteP; rw [if_neg h53]
    generalize noteP (bfn br, bfn bs) (op, d, ia, ib) = ss at *
    clear h53 hp
    cases hwb : writesB op with
    | false =>
      rw [hwb] at hE0 Wr
      replace hE0 := Lib.hid hE0
      clear hq hwb
      go_enter Try.func38, Try.ntmps38
      go_wp2_with fail
      refine (Wr.out _).mono ?_; rintro e w1 ⟨rfl, hb1⟩
      go_wp2
      refine bodyPost_end (results_none rfl _ _ _) rfl ?_
      exact ⟨br, bs, rfl, h.later hb1, rfl, rfl, by rw [hE0.out]; rfl, ButRS.of_below (below_more hw hb1)⟩
    | true =>
      obtain ⟨p0, p1⟩ := hq hwb
      obtain ⟨j, rfl⟩ : ∃ j : Nat, d = (j : Int) := ⟨d.toNat, by omega⟩
      have hj : j < br.length := by omega
      rw [hwb, if_pos rfl, ← bfn_put hj] at hE0
      rw [hwb] at Wr
      replace hE0 := Lib.hid hE0
      have z4 : (0 : Int) ≤ (j : Int) := by omega
      clear hq hwb
      go_enter Try.func38, Try.ntmps38
      go_wp2_with fail
      refine (Wr.out _).mono ?_; rintro e w1 ⟨rfl, hb1⟩
      replace h := h.later hb1
      replace hi := hi.later hb1
      replace hw := below_more hw hb1
      clear hb1 i0
      go_wp2_with fail
      have KD := G.keepsD_true []
      have KC : G.KeepsC (fun w' => WrIn W gr gs br bs w' ∧ InsAt w' w.heap.size (op, (j : Int), ia, ib) ∧ Below w.heap.size w w') := fun _ _ h hb => ⟨h.1.later hb, h.2.1.later hb, below_more h.2.2 hb⟩
      refine G.region_wordsG 7 (fun w' => WrIn W gr gs br bs w' ∧ InsAt w' w.heap.size (op, (j : Int), ia, ib) ∧ Below w.heap.size w w') (fun _ _ => True) [G.isW (.pointer (some ⟨W, 0, none⟩)), G.isW (.pointer (some ⟨W, 0, none⟩)), G.isW (.pointer (some ⟨W, 0, none⟩)), G.isW (.slice (some ⟨gr, 0, none⟩) br.length br.length), G.isW (.pointer (some ⟨w.heap.size, 1, none⟩)), G.isW (.int .i64 (j : Int)), G.isW (.pointer (some ⟨gr, j, none⟩))] (by kernel_rfl) (by repeat' (first | exact G.monoL_nil | exact G.is_mono _ | exact G.any_mono | refine G.monoL_cons ?_ ?_)) (by kernel_rfl) (by kernel_rfl) ⟨h.later (Below.refl _ _).drew, hi.later (Below.refl _ _).drew, hw.drew⟩ trivial ?_ ?_
      ·
        refine G.stepsL_cons (fun a u hc hdd hd hk hdep => ?_) ?_
        ·
          have d0 : (a.tmps[0]?).getD undef = (.pointer (some ⟨W, 0, none⟩)) := hk 0 (by kernel_rfl)
          refine G.step_val KC KD hc hdd rfl (.pointer (some ⟨W, 0, none⟩)) u (G.wanted_plain rfl) ?_ rfl (Below.refl _ _)
          first | (go_simp; done) | rfl | (simp [go_sem, *]; done)
        refine G.stepsL_cons (fun a u hc hdd hd hk hdep => ?_) ?_
        ·
          have d17 : (a.tmps[17]?).getD undef = (.pointer (some ⟨W, 0, none⟩)) := hdep ⟨0, .data⟩ (by simp) rfl
          refine G.step_val KC KD hc hdd rfl (.pointer (some ⟨W, 0, none⟩)) u (G.wanted_plain rfl) ?_ rfl (Below.refl _ _)
          first | (go_simp; done) | rfl | (simp [go_sem, *]; done)
        refine G.stepsL_cons (fun a u hc hdd hd hk hdep => ?_) ?_
        ·
          have d18 : (a.tmps[18]?).getD undef = (.pointer (some ⟨W, 0, none⟩)) := hdep ⟨1, .data⟩ (by simp) rfl
          refine G.step_val KC KD hc hdd rfl (.pointer (some ⟨W, 0, none⟩)) u (G.wanted_plain rfl) ?_ rfl (Below.refl _ _)
          first | (go_simp; done) | rfl | (simp [go_sem, *]; done)
        refine G.stepsL_cons (fun a u hc hdd hd hk hdep => ?_) ?_
        ·
          have d19 : (a.tmps[19]?).getD undef = (.pointer (some ⟨W, 0, none⟩)) := hdep ⟨2, .data⟩ (by simp) rfl
          refine G.step_val KC KD hc hdd rfl (.slice (some ⟨gr, 0, none⟩) br.length br.length) u (G.wanted_plain rfl) ?_ rfl (Below.refl _ _)
          have s0 := hc.1.c0
          have s1 := hc.1.c1
          obtain ⟨i0, i1, i2, i3⟩ := hc.2.1
          first | (go_simp; done) | rfl | (simp [go_sem, *]; done)
        refine G.stepsL_cons (fun a u hc hdd hd hk hdep => ?_) ?_
        ·
          have d3 : (a.tmps[3]?).getD undef = (.pointer (some ⟨w.heap.size, 0, none⟩)) := hk 3 (by kernel_rfl)
          refine G.step_val KC KD hc hdd rfl (.pointer (some ⟨w.heap.size, 1, none⟩)) u (G.wanted_plain rfl) ?_ rfl (Below.refl _ _)
          first | (go_simp; done) | rfl | (simp [go_sem, *]; done)
        refine G.stepsL_cons (fun a u hc hdd hd hk hdep => ?_) ?_
        ·
          have d21 : (a.tmps[21]?).getD undef = (.pointer (some ⟨w.heap.size, 1, none⟩)) := hdep ⟨4, .data⟩ (by simp) rfl
          refine G.step_val KC KD hc hdd rfl (.int .i64 (j : Int)) u (G.wanted_plain rfl) ?_ rfl (Below.refl _ _)
          have s0 := hc.1.c0
          have s1 := hc.1.c1
          obtain ⟨i0, i1, i2, i3⟩ := hc.2.1
          first | (go_simp; done) | rfl | (simp [go_sem, *]; done)
        refine G.stepsL_cons (fun a u hc hdd hd hk hdep => ?_) ?_
        ·
          have d20 : (a.tmps[20]?).getD undef = (.slice (some ⟨gr, 0, none⟩) br.length br.length) := hdep ⟨3, .data⟩ (by simp) rfl
          have d22 : (a.tmps[22]?).getD undef = (.int .i64 (j : Int)) := hdep ⟨5, .data⟩ (by simp) rfl
          refine G.step_val KC KD hc hdd rfl (.pointer (some ⟨gr, j, none⟩)) u (G.wanted_plain rfl) ?_ rfl (Below.refl _ _)
          first | (go_simp; done) | rfl | (simp [go_sem, *]; done)
        exact G.stepsL_nil
      intro vs' wN hN _ hh
      have e6 : vs' 6 = (.pointer (some ⟨gr, j, none⟩)) := by
        obtain ⟨-, -, -, -, -, -, eX, -⟩ := hh
        exact eX
      clear hh
      set_option maxRecDepth 100000 in simp only [List.take_succ_cons, List.take_zero, putAll, Act.put, List.setIfInBounds_toArray, List.set_cons_zero, List.set_cons_succ, Nat.reduceAdd, e6]
      obtain ⟨hN, -, hB⟩ := hN
      have hcj := hN.r.cell hj
      have hfj := hN.r.free j
      refine wpAny_ready (rs := [7]) (by kernel_rfl) (by simp) ?_
      refine AllReady.cons rfl (fun K hK => ?_) AllReady.nil
      go_simp
      refine hK _ _ ?_
      clear hK K
      refine wpAny_done (by kernel_rfl) ?_ _

      refine bodyPost_end (results_none rfl _ _ _) rfl ?_
      exact ⟨br.set j true, bs, rfl, hN.putR j true, by simp, rfl, hE0.out.symm, (ButRS.of_below hB).trans (.of_left (mset _ _ _))⟩
end Go.Proofs.Yteniipolcdnmfaa
