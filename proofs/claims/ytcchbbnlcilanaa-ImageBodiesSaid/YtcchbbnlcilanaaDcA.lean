/- The document's reader of images: its numbers, as contracts. -/
import Derived.Test.YtcchbbnlcilanaaImR
import Derived.Test.YtcchbbnlcilanaaWrH
namespace Go.Proofs.Ytcchbbnlcilanaa
open Go.ChangeShapes Go.WideShapes Go.ChangeAt Go.RowKit
set_option linter.unusedVariables false
set_option linter.unusedSimpArgs false
/-- the document's reader: its block, what is left, whether all went well -/
def InS (w : World) (lo g : Nat) (l : List Nat) (ok : Bool) : Prop := Byt l ∧ lo ≤ g ∧ l.length ≤ 70000 ∧ ∃ A c, Blk w g 81 #[.slice A l.length c, .bool ok] ∧ l.length ≤ c ∧ Reads w lo 1 A l.length (bcells l)
theorem InS.lt {w : World} {lo g : Nat} {l : List Nat} {ok : Bool} (h : InS w lo g l ok) : lo ≤ g ∧ g < w.heap.size := by
  obtain ⟨_, h2, _, A, c, h3, _⟩ := h
  exact ⟨h2, h3.lt⟩
theorem InS.ty {w : World} {lo g : Nat} {l : List Nat} {ok : Bool} (h : InS w lo g l ok) : TyB w g 81 := by
  obtain ⟨_, h2, _, A, c, h3, _⟩ := h
  exact h3.ty
theorem InS.keep {w w' : World} {lo g x y : Nat} {l : List Nat} {ok : Bool} (h : InS w lo g l ok) (hf : RFr w w' x y) (hx : lo ≤ x) (hy : lo ≤ y) (hgx : g ≠ x) (hgy : g ≠ y) : InS w' lo g l ok := by
  obtain ⟨h1, h2, h3, A, c, h4, h5, h6⟩ := h
  refine ⟨h1, h2, h3, A, c, h4.keepR hf hgx hgy, h5, h6.keep fun p hp => World.cell?_of_block (hf.block p.block ?_ (by omega) (by omega))⟩
  have := h4.lt
  omega
theorem InS.later {w w' : World} {lo g : Nat} {l : List Nat} {ok : Bool} (h : InS w lo g l ok) (hb : Below w.heap.size w w') : InS w' lo g l ok := by
  have := h.lt
  exact h.keep (RFr.of_below hb w.heap.size w.heap.size) (by omega) (by omega) (by omega) (by omega)
/-- the block is put anew -/
theorem InS.put {w w' : World} {lo g : Nat} {l l' : List Nat} {ok ok' : Bool} {A' : Option Addr} {c' : Nat} (h : InS w lo g l ok) (hg : w.grownBy w' (some g)) (hB : Blk w' g 81 #[.slice A' l'.length c', .bool ok']) (hl : Byt l') (hc : l'.length ≤ c') (h7 : l'.length ≤ 70000) (hR : Reads w lo 1 A' l'.length (bcells l')) : InS w' lo g l' ok' := by
  obtain ⟨h1, h2, h3, A, c, h4, h5, h6⟩ := h
  refine ⟨hl, h2, h7, A', c', hB, hc, hR.keep fun p hp => World.cell?_of_block (hg.block p.block ?_ (fun e => by injection e; omega))⟩
  have := h4.lt
  omega
theorem InS.bad {w w' : World} {lo g : Nat} {l : List Nat} {ok ok' : Bool} (h : InS w lo g l ok) (hg : w.grownBy w' (some g)) (hB : Blk w' g 81 #[.slice none 0 0, .bool ok']) : InS w' lo g [] ok' := h.put (l' := []) hg hB Byt.nil (Nat.le_refl _) (by decide) Reads.none_
theorem sg (w : World) (g i : Nat) (v : Value) : w.grownBy (w.setCell ⟨g, i, none⟩ v) (some g) := mset w ⟨g, i, none⟩ v
def UintR (lo g : Nat) (l : List Nat) (ok : Bool) (w : World) (e : Ending) (w' : World) : Prop := w.grownBy w' (some g) ∧ match firstW l with
  | some (n, k) => e = .returned (.int .u64 ((n : Nat) : Int)) ∧ InS w' lo g (l.drop k) ok
  | none => e = .returned (.int .u64 0) ∧ InS w' lo g [] false
set_option maxHeartbeats 4000000 in
set_option maxRecDepth 100000 in
theorem inuint_any (lo g : Nat) (l : List Nat) (ok : Bool) (w : World) (h : InS w lo g l ok) : Calls Try.prog 45 #[.pointer (some ⟨g, 0, none⟩)] w (UintR lo g l ok w) := by
  have hS := Lib.hid h
  obtain ⟨h1, h2, h3, A, c, h4, h5, h6⟩ := h
  have hb : Bys w A l := h6.more (by have := h4.lt; omega)
  have C := rfirst_any A l c h1 w hb (by omega)
  have r0 : w.cell? ⟨g, 0, none⟩ = some (.slice A l.length c) := by rw [h4.cell]; rfl
  have r1 : w.cell? ⟨g, 1, none⟩ = some (.bool ok) := by rw [h4.cell]; rfl
  have f0 := h4.free 0
  have f1 := h4.free 1
  have hset := fun v0 v1 => ((h4.put_ 0 v0).put_ 1 v1)
  have hset0 := fun v0 => h4.put_ 0 v0
  have hset1 := fun v1 v0 => ((h4.put_ 1 v1).put_ 0 v0)
  simp only [List.setIfInBounds_toArray, List.set_cons_zero, List.set_cons_succ] at hset hset0 hset1
  replace hset := Lib.hid hset
  replace hset0 := Lib.hid hset0
  replace hset1 := Lib.hid hset1
  unfold FirstIs at C
  unfold UintR
  cases hf : firstW l with
  | none =>
    rw [hf] at C
    clear h4 h6 hb
    go_enter Try.func45, Try.ntmps45
    go_wp2_with fail
    refine C.mono ?_; rintro e u ⟨rfl, rfl⟩
    go_wp2
    go_ret
    have hg := (sg w g 1 (.bool false)).trans (sg _ g 0 (.slice none 0 0))
    exact ⟨hg, rfl, hS.out.bad hg (hset1.out _ _)⟩
  | some x =>
    obtain ⟨n, k⟩ := x
    rw [hf] at C
    obtain ⟨b1, b2, b3, b4, b5⟩ := first_back h1 hf
    have hcut := h6.cut b3 h5
    simp only [Nat.mul_one] at hcut
    rw [show (bcells l).drop k = bcells (l.drop k) by unfold bcells; rw [List.map_drop]] at hcut
    have hld : l.length - k = (l.drop k).length := by rw [List.length_drop]
    have hfin : ∀ (A' : Option Addr) (c' : Nat), Reads w lo 1 A' (l.length - k) (bcells (l.drop k)) → l.length - k ≤ c' → InS (w.setCell ⟨g, 0, none⟩ (.slice A' (l.length - k) c')) lo g (l.drop k) ok := fun A' c' hR hc' => by
      rw [hld] at hR hc' ⊢
      exact hS.out.put (sg w g 0 _) (hset0.out _) (h1.drop k) hc' (by rw [← hld]; omega) hR
    replace hfin := Lib.hid hfin
    replace hcut := Lib.hid hcut
    clear hld
    have hkc : (k : Int) ≤ (c : Int) := by omega
    have hkl : (k : Int) ≤ (l.length : Int) := by omega
    have hk0 : (0 : Int) ≤ (k : Int) := by omega
    have hkp : ((k : Int) == 0) = false := by rw [beq_eq_false_iff_ne]; omega
    clear h4 h6 hb
    go_enter Try.func45, Try.ntmps45
    go_wp2_with fail
    refine C.mono ?_; rintro e u ⟨rfl, rfl⟩
    go_wp2
    all_goals
      go_ret
      refine ⟨sg w g 0 _, rfl, ?_⟩
      have h7 := hcut.out
      first
        | (rw [if_pos (by omega)] at h7; exact hfin.out A 0 h7 (by omega))
        | (rw [if_neg (by omega)] at h7; exact hfin.out _ _ h7 (by omega))
        | (rw [if_pos (by omega)] at h7; exact hfin.out A _ h7 (by omega))
/-- how a number ends -/
def NumR (lo g : Nat) (res : Option (Int × List Nat)) (ok : Bool) (w : World) (e : Ending) (w' : World) : Prop := w.grownBy w' (some g) ∧ match res with
  | some (z, r) => e = .returned (.int .i64 z) ∧ InS w' lo g r ok
  | none => e = .returned (.int .i64 0) ∧ ∃ l', InS w' lo g l' false
set_option maxHeartbeats 4000000 in
set_option maxRecDepth 100000 in
theorem innum_any (lo g : Nat) (l : List Nat) (ok : Bool) (w : World) (h : InS w lo g l ok) : Calls Try.prog 30 #[.pointer (some ⟨g, 0, none⟩)] w (NumR lo g (rdN l) ok w) := by
  have C := inuint_any lo g l ok w h
  unfold UintR at C
  have hlb := h.1
  unfold NumR rdN rdI
  cases hf : firstW l with
  | none =>
    rw [hf] at C
    have CS := Lib.hid (fun u => rsigned_any 0 (by decide) u)
    rw [show zag 0 = 0 by decide] at CS
    go_enter Try.func30, Try.ntmps30
    go_wp2_with fail
    refine C.mono ?_; rintro e u ⟨hg, rfl, hS⟩
    go_wp2_with fail
    refine (CS.out u).mono ?_; rintro e u ⟨rfl, rfl⟩
    go_wp2
    go_ret
    exact ⟨hg, rfl, _, hS⟩
  | some x =>
    obtain ⟨n, k⟩ := x
    rw [hf] at C
    obtain ⟨b1, b2, b3, b4, b5⟩ := first_back hlb hf
    have hz := zag_in b5
    have CS := Lib.hid (fun u => rsigned_any n b5 u)
    simp only [Option.bind_some]
    by_cases hno : zag n < -1 ∨ 1152921504606846976 < zag n
    · rw [if_pos hno]
      clear b1 b5 hf
      generalize zag n = z at *
      go_enter Try.func30, Try.ntmps30
      go_wp2_with fail
      refine C.mono ?_; rintro e u ⟨hg, rfl, hS⟩
      go_wp2_with fail
      refine (CS.out u).mono ?_; rintro e u2 ⟨rfl, rfl⟩
      have hfin : InS ((u.setCell ⟨g, 1, none⟩ (.bool false)).setCell ⟨g, 0, none⟩ (.slice none 0 0)) lo g [] false := by
        obtain ⟨h1, h2, h3, A, c, h4, h5, h6⟩ := hS
        have hset1 := (h4.put_ 1 (.bool false)).put_ 0 (.slice none 0 0)
        simp only [List.setIfInBounds_toArray, List.set_cons_zero, List.set_cons_succ] at hset1
        exact InS.bad ⟨h1, h2, h3, A, c, h4, h5, h6⟩ ((sg u g 1 (.bool false)).trans (sg _ g 0 (.slice none 0 0))) hset1
      have hgf := hg.trans ((sg u g 1 (.bool false)).trans (sg _ g 0 (.slice none 0 0)))
      obtain ⟨h1, h2, h3, A, c, h4, h5, h6⟩ := hS
      have r0 : u.cell? ⟨g, 0, none⟩ = some (.slice A (l.drop k).length c) := by rw [h4.cell]; rfl
      have r1 : u.cell? ⟨g, 1, none⟩ = some (.bool ok) := by rw [h4.cell]; rfl
      have f0 := h4.free 0
      have f1 := h4.free 1
      clear h4 h6
      replace hfin := Lib.hid hfin
      replace hgf := Lib.hid hgf
      go_wp2
      all_goals (go_ret; exact ⟨hgf.out, rfl, _, hfin.out⟩)
    · rw [if_neg hno]
      clear b1 b5 hf
      have hn1 : ¬ zag n < -1 := fun h => hno (.inl h)
      have hn2 : ¬ 1152921504606846976 < zag n := fun h => hno (.inr h)
      clear hno
      generalize zag n = z at *
      go_enter Try.func30, Try.ntmps30
      go_wp2_with fail
      refine C.mono ?_; rintro e u ⟨hg, rfl, hS⟩
      go_wp2_with fail
      refine (CS.out u).mono ?_; rintro e u2 ⟨rfl, rfl⟩
      replace hS := Lib.hid hS
      go_wp2
      go_ret
      exact ⟨hg, rfl, hS.out⟩
theorem rdN_in {l r : List Nat} {z : Int} (h : rdN l = some (z, r)) : -1 ≤ z ∧ z ≤ 1152921504606846976 := by
  unfold rdN rdI at h
  obtain ⟨x, hf, hx⟩ := Option.bind_eq_some_iff.1 h
  split at hx
  · cases hx
  · rename_i hno
    simp only [Option.some.injEq, Prod.mk.injEq] at hx
    omega
theorem rdC_num (l : List Nat) : rdC l = match rdN l with | some (z, r) => if z < 0 ∨ 1024 < z then none else some (z.toNat, r) | none => none := by
  unfold rdC rdN rdI
  cases hf : firstW l with
  | none => rfl
  | some x =>
    simp only [Option.bind_some]
    by_cases h1 : zag x.1 < -1 ∨ 1152921504606846976 < zag x.1
    · rw [if_pos h1, if_pos (by omega)]; rfl
    · rw [if_neg h1]
      by_cases h2 : zag x.1 < 0 ∨ 1024 < zag x.1
      · rw [if_pos h2]; simp [if_pos h2]
      · rw [if_neg h2]; simp [if_neg h2]
def CountR (lo g : Nat) (res : Option (Nat × List Nat)) (ok : Bool) (w : World) (e : Ending) (w' : World) : Prop := w.grownBy w' (some g) ∧ match res with
  | some (k, r) => e = .returned (.int .i64 (k : Int)) ∧ InS w' lo g r ok
  | none => e = .returned (.int .i64 0) ∧ ∃ l', InS w' lo g l' false
set_option maxHeartbeats 4000000 in
set_option maxRecDepth 100000 in
theorem incount_any (lo g : Nat) (l : List Nat) (ok : Bool) (w : World) (h : InS w lo g l ok) : Calls Try.prog 32 #[.pointer (some ⟨g, 0, none⟩)] w (CountR lo g (rdC l) ok w) := by
  have C := innum_any lo g l ok w h
  unfold NumR at C
  unfold CountR
  rw [rdC_num]
  cases hf : rdN l with
  | none =>
    rw [hf] at C
    go_enter Try.func32, Try.ntmps32
    go_wp2_with fail
    refine C.mono ?_; rintro e u ⟨hg, rfl, l', hS⟩
    go_wp2
    go_ret
    exact ⟨hg, rfl, _, hS⟩
  | some x =>
    obtain ⟨z, r⟩ := x
    rw [hf] at C
    obtain ⟨z1, z2⟩ := rdN_in hf
    simp only
    by_cases hno : z < 0 ∨ 1024 < z
    · rw [if_pos hno]
      go_enter Try.func32, Try.ntmps32
      go_wp2_with fail
      refine C.mono ?_; rintro e u ⟨hg, rfl, hS⟩
      have hfin : InS (u.setCell ⟨g, 1, none⟩ (.bool false)) lo g r false := by
        obtain ⟨h1, h2, h3, A, c, h4, h5, h6⟩ := hS
        have hset1 := (h4.put_ 1 (.bool false))
        simp only [List.setIfInBounds_toArray, List.set_cons_zero, List.set_cons_succ] at hset1
        exact InS.put ⟨h1, h2, h3, A, c, h4, h5, h6⟩ (sg u g 1 (.bool false)) hset1 h1 h5 h3 h6
      have hgf := hg.trans (sg u g 1 (.bool false))
      obtain ⟨h1, h2, h3, A, c, h4, h5, h6⟩ := hS
      have r1 : u.cell? ⟨g, 1, none⟩ = some (.bool ok) := by rw [h4.cell]; rfl
      have f1 := h4.free 1
      clear h4 h6
      replace hfin := Lib.hid hfin
      replace hgf := Lib.hid hgf
      go_wp2
      all_goals (go_ret; exact ⟨hgf.out, rfl, _, hfin.out⟩)
    · rw [if_neg hno]
      have hn1 : ¬ z < 0 := fun h => hno (.inl h)
      have hn2 : ¬ 1024 < z := fun h => hno (.inr h)
      have hz : ((z.toNat : Nat) : Int) = z := by omega
      clear hno
      go_enter Try.func32, Try.ntmps32
      go_wp2_with fail
      refine C.mono ?_; rintro e u ⟨hg, rfl, hS⟩
      replace hS := Lib.hid hS
      go_wp2
      go_ret
      exact ⟨hg, by rw [hz]; rfl, hS.out⟩
end Go.Proofs.Ytcchbbnlcilanaa
