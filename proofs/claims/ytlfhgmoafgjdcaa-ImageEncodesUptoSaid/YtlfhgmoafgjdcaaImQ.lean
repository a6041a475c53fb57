/- The reader of images: how what was read lies, and what is left as it was. -/
import Derived.Test.YtlfhgmoafgjdcaaImV
namespace Go.Proofs.Ytlfhgmoafgjdcaa
open Go.ChangeShapes Go.WideShapes Go.ChangeAt Go.RowKit
set_option linter.unusedVariables false
set_option linter.unusedSimpArgs false

/-- all but two blocks are as they were -/
structure RFr (w w' : World) (x y : Nat) : Prop where
  os : w'.os = w.os
  tape : w'.tape = w.tape
  output : w'.output = w.output
  size : w.heap.size ≤ w'.heap.size
  block : ∀ k, k < w.heap.size → k ≠ x → k ≠ y → w'.heap[k]? = w.heap[k]?
theorem RFr.refl (w : World) (x y : Nat) : RFr w w x y := ⟨rfl, rfl, rfl, Nat.le_refl _, fun _ _ _ _ => rfl⟩
theorem RFr.trans {a b c : World} {x y : Nat} (h : RFr a b x y) (k : RFr b c x y) : RFr a c x y :=
  ⟨k.os.trans h.os, k.tape.trans h.tape, k.output.trans h.output, Nat.le_trans h.size k.size, fun i hi hx hy => (k.block i (Nat.lt_of_lt_of_le hi h.size) hx hy).trans (h.block i hi hx hy)⟩
theorem RFr.of_below {w w' : World} (h : Below w.heap.size w w') (x y : Nat) : RFr w w' x y := ⟨h.os, h.tape, h.output, h.size, fun k hk _ _ => h.block k hk⟩
theorem RFr.of_grown {w w' : World} {x : Nat} (h : w.grownBy w' (some x)) (y : Nat) : RFr w w' x y := ⟨h.os, h.tape, h.output, h.size, fun k hk hx _ => h.block k hk (fun e => hx (by injection e))⟩
theorem RFr.of_grown' {w w' : World} {y : Nat} (h : w.grownBy w' (some y)) (x : Nat) : RFr w w' x y := ⟨h.os, h.tape, h.output, h.size, fun k hk _ hy => h.block k hk (fun e => hy (by injection e))⟩
theorem RFr.drew {w w' : World} {x y : Nat} (h : RFr w w' x y) : RFr w w'.drew x y := ⟨h.os, h.tape, h.output, h.size, h.block⟩
theorem RFr.of_set (w : World) (x y i : Nat) (u : Value) : RFr w (w.setCell ⟨y, i, none⟩ u) x y := RFr.of_grown' (mset w _ _) x
/-- what was newer than the beginning may have changed as well -/
theorem RFr.newer {a b c : World} {x y z : Nat} (h : RFr a b x y) (k : RFr b c x z) (hz : a.heap.size ≤ z) : RFr a c x y :=
  ⟨k.os.trans h.os, k.tape.trans h.tape, k.output.trans h.output, Nat.le_trans h.size k.size, fun i hi hx hy => (k.block i (Nat.lt_of_lt_of_le hi h.size) hx (by omega)).trans (h.block i hi hx hy)⟩
theorem RFr.newer' {a b c : World} {x y z v : Nat} (h : RFr a b x y) (k : RFr b c v z) (hv : a.heap.size ≤ v ∨ v = x ∨ v = y) (hz : a.heap.size ≤ z ∨ z = x ∨ z = y) : RFr a c x y :=
  ⟨k.os.trans h.os, k.tape.trans h.tape, k.output.trans h.output, Nat.le_trans h.size k.size, fun i hi hx hy => (k.block i (Nat.lt_of_lt_of_le hi h.size) (by omega) (by omega)).trans (h.block i hi hx hy)⟩

/-- of what type a block is -/
def TyB (w : World) (b : Nat) (T : TypeId) : Prop := ∃ cs, w.heap[b]? = some (.cells cs T (0, 0))
theorem Blk.ty {w : World} {b : Nat} {T : TypeId} {cs : Array Value} (h : Blk w b T cs) : TyB w b T := ⟨cs, h⟩
theorem TyB.ne {w : World} {b b' : Nat} {T T' : TypeId} (h : TyB w b T) (h' : TyB w b' T') (hne : T ≠ T') : b ≠ b' := by
  rintro rfl
  obtain ⟨_, h⟩ := h
  obtain ⟨_, h'⟩ := h'
  rw [h] at h'
  injection h' with h'
  injection h' with _ e
  exact hne e
theorem TyB.lt {w : World} {b : Nat} {T : TypeId} (h : TyB w b T) : b < w.heap.size := by
  obtain ⟨_, h⟩ := h
  exact Blk.lt h
theorem TyB.keep {w w' : World} {b x y : Nat} {T : TypeId} (h : TyB w b T) (hf : RFr w w' x y) (hx : b ≠ x) (hy : b ≠ y) : TyB w' b T := by
  obtain ⟨cs, h1⟩ := h
  exact ⟨cs, (hf.block b (Blk.lt h1) hx hy).trans h1⟩
theorem Blk.keepR {w w' : World} {b x y : Nat} {T : TypeId} {cs : Array Value} (h : Blk w b T cs) (hf : RFr w w' x y) (hx : b ≠ x) (hy : b ≠ y) : Blk w' b T cs := (hf.block b h.lt hx hy).trans h

/-- cells put into a row of cells -/
def putC (cur : Array Value) (o : Nat) (vs : List Value) : Array Value := (cur.toList.take o ++ vs ++ cur.toList.drop (o + vs.length)).toArray
theorem putC_size {cur : Array Value} {o : Nat} {vs : List Value} (h : o + vs.length ≤ cur.size) : (putC cur o vs).size = cur.size := by
  simp [putC]
  omega
theorem putC_nil {cur : Array Value} {o : Nat} (h : o ≤ cur.size) : putC cur o [] = cur := by
  apply Array.ext'
  simp [putC]
theorem putC_one {cur : Array Value} {o : Nat} (v : Value) (h : o < cur.size) : cur.setIfInBounds o v = putC cur o [v] := by
  apply Array.ext'
  rw [Array.toList_setIfInBounds]
  unfold putC
  rw [List.set_eq_take_append_cons_drop, if_pos (by simpa using h)]
  simp
theorem putC_putC {cur : Array Value} {o : Nat} {a b : List Value} (h : o + a.length + b.length ≤ cur.size) : putC (putC cur o a) (o + a.length) b = putC cur o (a ++ b) := by
  apply Array.ext'
  unfold putC
  simp only [List.length_append]
  have h1 : (cur.toList.take o).length = o := by simp; omega
  rw [List.take_append_of_le_length (by simp; omega)]
  rw [show o + a.length = (cur.toList.take o ++ a).length by simp; omega, List.take_length]
  rw [List.drop_append, List.drop_of_length_le (by simp), List.nil_append, List.drop_drop]
  simp only [List.length_append, h1, List.append_assoc]
  congr 4
  omega
theorem putC_get {cur : Array Value} {o i : Nat} {vs : List Value} (h : o + vs.length ≤ cur.size) (hi : o + vs.length ≤ i) : (putC cur o vs)[i]? = cur[i]? := by
  rw [← Array.getElem?_toList, ← Array.getElem?_toList]
  unfold putC
  have h1 : (cur.toList.take o ++ vs).length = o + vs.length := by simp; omega
  rw [List.getElem?_append_right (by omega), h1, List.getElem?_drop]
  congr 1
  omega
theorem putC_get_lo {cur : Array Value} {o i : Nat} {vs : List Value} (h : o + vs.length ≤ cur.size) (hi : i < o) : (putC cur o vs)[i]? = cur[i]? := by
  rw [← Array.getElem?_toList, ← Array.getElem?_toList]
  unfold putC
  rw [List.append_assoc, List.getElem?_append_left (by simp; omega), List.getElem?_take_of_lt hi]
theorem putC_get_in {cur : Array Value} {o i : Nat} {vs : List Value} (h : o + vs.length ≤ cur.size) (hi : i < vs.length) : (putC cur o vs)[o + i]? = vs[i]? := by
  rw [← Array.getElem?_toList]
  unfold putC
  have h1 : (cur.toList.take o).length = o := by simp; omega
  rw [List.append_assoc, List.getElem?_append_right (by omega), h1, Nat.add_sub_cancel_left, List.getElem?_append_left hi]

/-- a list that was read: its elements' cells lie in one row -/
def LV {X : Type} (E : World → List Value → X → Prop) (T : TypeId) (size : Nat) (w : World) (v : Value) (xs : List X) : Prop :=
  ∃ (A : Option Addr) (c : Nat) (vss : List (List Value)), v = .slice A xs.length c ∧ vss.length = xs.length ∧ (∀ (i : Nat) vs x, vss[i]? = some vs → xs[i]? = some x → E w vs x ∧ vs.length = size) ∧
    (0 < xs.length → ∃ b cur, A = some ⟨b, 0, none⟩ ∧ w.heap[b]? = some (.cells cur T (0, 0)) ∧ vss.flatten <+: cur.toList)
theorem LV.keep {X : Type} {E : World → List Value → X → Prop} {T : TypeId} {size : Nat} {w w' : World} {v : Value} {xs : List X} {x y : Nat} (h : LV E T size w v xs) (hf : RFr w w' x y)
    (hx : ∀ b, TyB w b T → b ≠ x) (hy : ∀ b, TyB w b T → b ≠ y) (hE : ∀ vs z, E w vs z → E w' vs z) : LV E T size w' v xs := by
  obtain ⟨A, c, vss, h1, h2, h3, h4⟩ := h
  refine ⟨A, c, vss, h1, h2, fun i vs z a b => ⟨hE vs z (h3 i vs z a b).1, (h3 i vs z a b).2⟩, fun hl => ?_⟩
  obtain ⟨b, cur, k1, k2, k3⟩ := h4 hl
  have ht : TyB w b T := ⟨cur, k2⟩
  exact ⟨b, cur, k1, (hf.block b ht.lt (hx b ht) (hy b ht)).trans k2, k3⟩
def eInt (w : World) (vs : List Value) (z : Int) : Prop := vs = [.int .i64 z]
def eBool (w : World) (vs : List Value) (y : Bool) : Prop := vs = [.bool y]
def eBits (w : World) (vs : List Value) (x : Nat) : Prop := vs = [.int .u64 (x : Int)]
def eL {X : Type} (E : World → List Value → X → Prop) (T : TypeId) (size : Nat) (w : World) (vs : List Value) (xs : List X) : Prop := ∃ v, vs = [v] ∧ LV E T size w v xs

/-- the reader of images -/
def RdS (w : World) (lo rb g B : Nat) (l : List Nat) : Prop := Blk w rb 77 #[.pointer (some ⟨g, 0, none⟩)] ∧ Rdr w g B l ∧ Byt l ∧ B < lo ∧ g < lo ∧ rb < lo ∧ lo ≤ w.heap.size
theorem RdS.keep {w w' : World} {lo rb g B x y : Nat} {l : List Nat} (h : RdS w lo rb g B l) (hf : RFr w w' x y) (hx : lo ≤ x) (hy : lo ≤ y) : RdS w' lo rb g B l := by
  obtain ⟨h1, h2, h3, h4, h5, h6, h7⟩ := h
  refine ⟨h1.keepR hf (by omega) (by omega), ?_, h3, h4, h5, h6, Nat.le_trans h7 hf.size⟩
  obtain ⟨A, c, k1, k2, k3, k4⟩ := h2
  exact ⟨A, c, k1.keepR hf (by omega) (by omega), k2, k3, k4.keep fun p hp hlt => World.cell?_of_block (hf.block p.block hlt (by omega) (by omega))⟩
theorem RdS.later {w w' : World} {lo rb g B : Nat} {l : List Nat} (h : RdS w lo rb g B l) (hb : Below w.heap.size w w') : RdS w' lo rb g B l :=
  h.keep (RFr.of_below hb lo lo) (Nat.le_refl _) (Nat.le_refl _)
theorem RdS.drew {w : World} {lo rb g B : Nat} {l : List Nat} (h : RdS w lo rb g B l) : RdS w.drew lo rb g B l := h.later (Below.refl _ _).drew
theorem RdS.gty {w : World} {lo rb g B : Nat} {l : List Nat} (h : RdS w lo rb g B l) : TyB w g 109 := by
  obtain ⟨_, ⟨A, c, k1, _⟩, _⟩ := h
  exact k1.ty
/-- how reading ends, into block G of cells cur from o on -/
def REnd {X : Type} (lo rb g B G : Nat) (t : TypeId) (cur : Array Value) (o size : Nat) (E : World → List Value → X → Prop) (res : Option (X × List Nat)) (w : World) (e : Ending) (w' : World) : Prop :=
  RFr w w' g G ∧ match res with
  | some (x, r) => e = .returned (.tuple #[]) ∧ RdS w' lo rb g B r ∧ ∃ vs, vs.length = size ∧ E w' vs x ∧ Blk w' G t (putC cur o vs)
  | none => e = .panicked [unfitP]
end Go.Proofs.Ytlfhgmoafgjdcaa
