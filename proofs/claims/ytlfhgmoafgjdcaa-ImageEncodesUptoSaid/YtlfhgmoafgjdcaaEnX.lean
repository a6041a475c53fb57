/- One text of several (LoA, TwA, TwT, EnA, EnB). -/
import Derived.Test.YtlfhgmoafgjdcaaImS
import Derived.Test.YtlfhgmoafgjdcaaImT
import Derived.Test.YtlfhgmoafgjdcaaImBt
import Derived.StillTailTactics
import Derived.Test.YtlfhgmoafgjdcaaImKu
import Derived.Test.YtlfhgmoafgjdcaaImZc
import Derived.Deep.CutRange
import Derived.Deep.DeepCutAuto
import Derived.Test.YtlfhgmoafgjdcaaImTu
import Derived.Test.YtlfhgmoafgjdcaaScC
import Derived.Test.YtlfhgmoafgjdcaaOuF
import Derived.Test.YtlfhgmoafgjdcaaScD
import Derived.Test.YtlfhgmoafgjdcaaImKb
import Derived.Test.YtlfhgmoafgjdcaaImJ
namespace Go.Proofs.Ytlfhgmoafgjdcaa
open Go.ChangeShapes Go.WideShapes Go.ChangeAt Go.RowKit
set_option linter.unusedVariables false
set_option linter.unusedSimpArgs false
/-- a list of the call's own that grows -/
def LO {X : Type} (E : World → List Value → X → Prop) (T : TypeId) (size base : Nat) (w : World) (v : Value) (xs : List X) : Prop := ∃ vss, vss.length = xs.length ∧ Els E size w vss xs ∧ w.ownsRow base T size v xs.length vss.flatten
theorem LO.nil {X : Type} (E : World → List Value → X → Prop) (T : TypeId) (size base : Nat) (w : World) : LO E T size base w (.slice none 0 0) [] := ⟨[], rfl, fun i vs x h => by simp at h, World.ownsRow_nil _ _ _ _⟩
theorem own_keepR {w w' : World} {base size n x y : Nat} {e : TypeId} {v : Value} {xs : List Value} (h : w.ownsRow base e size v n xs) (hf : RFr w w' x y) (hx : x < base) (hy : y < base) : w'.ownsRow base e size v n xs := by
  refine ⟨h.1, ?_⟩
  rcases h.2 with k | ⟨g, cap, cur, k1, k2, k3, k4⟩
  · exact .inl k
  · exact .inr ⟨g, cap, cur, k1, k2, (hf.block g (Blk.lt (t := e) k3) (by omega) (by omega)).trans k3, k4⟩
theorem LO.keep {X : Type} {E : World → List Value → X → Prop} {tys : List TypeId} {T : TypeId} {size base x y : Nat} {w w' : World} {v : Value} {xs : List X} (h : LO E T size base w v xs) (hE : KeepE tys E) (hf : RFr w w' x y) (hx : x < base) (hy : y < base) (ox : Off tys w x) (oy : Off tys w y) : LO E T size base w' v xs := by
  obtain ⟨vss, h1, h2, h3⟩ := h
  exact ⟨vss, h1, h2.keep hE hf ox oy, own_keepR h3 hf hx hy⟩
theorem off_fresh (tys : List TypeId) (w : World) {b : Nat} (h : w.heap.size ≤ b) : Off tys w b := fun T _ k => absurd k.lt (by omega)
theorem LO.later {X : Type} {E : World → List Value → X → Prop} {tys : List TypeId} {T : TypeId} {size base : Nat} {w w' : World} {v : Value} {xs : List X} (h : LO E T size base w v xs) (hE : KeepE tys E) (hb : Below w.heap.size w w') : LO E T size base w' v xs := by
  obtain ⟨vss, h1, h2, h3⟩ := h
  exact ⟨vss, h1, h2.keep hE (RFr.of_below hb w.heap.size w.heap.size) (off_fresh _ _ (Nat.le_refl _)) (off_fresh _ _ (Nat.le_refl _)), mown_below h3 hb⟩
/-- the frame of an append -/
theorem own_frame {w w' : World} {base size n : Nat} {e : TypeId} {v : Value} {xs : List Value} (tys : List TypeId) (h : w.ownsRow base e size v n xs) (hbs : base ≤ w.heap.size) (hg : w.grownBy w' v.ownBlock) (he : e ∉ tys) : ∃ b, base ≤ b ∧ RFr w w' b b ∧ Off tys w b := by
  rcases h.2 with ⟨rfl, _⟩ | ⟨g, cap, cur, rfl, k2, k3, _⟩
  · exact ⟨w.heap.size, hbs, ⟨hg.os, hg.tape, hg.output, hg.size, fun k hk _ _ => hg.block k hk (fun e => by cases e)⟩, off_fresh _ _ (Nat.le_refl _)⟩
  · exact ⟨g, k2, RFr.of_grown hg g, Off.of_ty (T := e) ⟨cur, k3⟩ he⟩
theorem LO.grow {X : Type} {E : World → List Value → X → Prop} {tys : List TypeId} {T : TypeId} {size base : Nat} {w w' : World} {v' : Value} {xs : List X} {x : X} {zs : List Value} (vss : List (List Value)) (h1 : vss.length = xs.length) (h2 : Els E size w vss xs) (hE : KeepE tys E) {b : Nat} (hf : RFr w w' b b) (ho : Off tys w b)
    (hx : E w zs x) (hz : zs.length = size) (hown : w'.ownsRow base T size v' (xs.length + 1) (vss.flatten ++ zs)) : LO E T size base w' v' (xs ++ [x]) := by
  refine ⟨vss ++ [zs], by simp [h1], ?_, by simpa using hown⟩
  have h3 := h2.keep hE hf ho ho
  have hx' := hE _ _ _ _ _ _ hx hf ho ho
  intro i us z a c
  by_cases hi : i < xs.length
  · rw [List.getElem?_append_left (by omega)] at a
    rw [List.getElem?_append_left hi] at c
    exact h3 i us z a c
  · rw [List.getElem?_append_right (by omega)] at a
    rw [List.getElem?_append_right (by omega)] at c
    have h0 : i - xs.length = 0 := by
      have := (List.getElem?_eq_some_iff.1 c).1
      simp at this
      omega
    rw [h1, h0] at a
    rw [h0] at c
    simp at a c
    subst a c
    exact ⟨hx', hz⟩
theorem LO.lv {X : Type} {E : World → List Value → X → Prop} {T : TypeId} {size base : Nat} {w : World} {v : Value} {xs : List X} (h : LO E T size base w v xs) : eL E T size w [v] xs := by
  obtain ⟨vss, h1, h2, h3⟩ := h
  refine ⟨v, rfl, ?_⟩
  rcases h3.2 with ⟨rfl, h0⟩ | ⟨g, cap, cur, rfl, k1, k2, k3, k4, k5, k6⟩
  · exact ⟨none, 0, vss, by rw [h0], h1, h2, fun hl => by omega⟩
  · exact ⟨_, cap, vss, rfl, h1, h2, fun _ => ⟨g, cur, rfl, k2, by rw [← k6]; exact List.take_prefix _ _⟩⟩
theorem LO.form {X : Type} {E : World → List Value → X → Prop} {T : TypeId} {size base : Nat} {w : World} {v : Value} {xs : List X} (h : LO E T size base w v xs) : ∃ A n c, v = .slice A n c := by
  obtain ⟨vss, _, _, h3⟩ := h
  obtain ⟨A, c, h, _⟩ := bslice_of h3
  exact ⟨A, _, c, h⟩
theorem LO.keep_set {X : Type} {E : World → List Value → X → Prop} {tys : List TypeId} {T TX : TypeId} {size base b i : Nat} {w : World} {v u : Value} {xs : List X} (h : LO E T size base w v xs) (hE : KeepE tys E) (ho : Off tys w b) (ht : TyB w b TX) (hne : TX ≠ T) : LO E T size base (w.setCell ⟨b, i, none⟩ u) v xs := by
  obtain ⟨vss, h1, h2, h3⟩ := h
  refine ⟨vss, h1, h2.keep hE (RFr.of_set w b b i u) ho ho, h3.1, ?_⟩
  rcases h3.2 with k | ⟨g, cap, cur, k1, k2, k3, k4⟩
  · exact .inl k
  · have hgb : g ≠ b := TyB.ne ⟨cur, k3⟩ ht (fun e => hne e.symm)
    exact .inr ⟨g, cap, cur, k1, k2, ((RFr.of_set w b b i u).block g (Blk.lt (t := T) k3) hgb hgb).trans k3, k4⟩
theorem eL_form {X : Type} {E : World → List Value → X → Prop} {T : TypeId} {size : Nat} {w : World} {v : Value} {xs : List X} (h : eL E T size w [v] xs) : ∃ A n c, v = .slice A n c := by
  obtain ⟨_, h1, A, c, vss, rfl, _⟩ := h
  simp at h1
  exact ⟨A, _, c, h1⟩
/-- the literal of one element -/
theorem reads_one (w : World) (T : TypeId) (size : Nat) (zs : List Value) (hz : zs.length = size) (n : Nat) (hn : n = 1) : Reads (w.alloc (.cells zs.toArray T)) (w.heap.size + 1) size (some ⟨w.heap.size, 0, none⟩) n zs := by
  subst hn
  refine ⟨by rw [hz, Nat.one_mul], fun _ => ⟨_, rfl, by simp, fun j u hu => ?_⟩⟩
  have hadd : (⟨w.heap.size, 0, none⟩ : Addr).add j = ⟨w.heap.size, j, none⟩ := by unfold Addr.add; split <;> simp_all
  rw [hadd, (Blk.made w T zs.toArray).cell]
  simpa using hu

/-- one more, put on to a list of the call's own -/
theorem wpList_append_LO {X : Type} {E : World → List Value → X → Prop} {tys : List TypeId} {T : TypeId} {size bytes base : Nat} {ops : Array Oper} {rest : List Oper} {o : Oper} {a : Act} {Q : Exit → Act → World → Prop} {w2 : World} {zs : List Value} {v : Value} {xs : List X} {x : X}
    (hgd : o.guard = none) (s xo : Operand) (t : TypeId) (ho : o.op = .call { callee := .builtin .append, args := #[s, xo], argTypes := #[t, t] })
    (i : TypeInfo) (z : Value) (ht : Try.prog.underlying t = some (.slice T)) (hi : Try.prog.info? T = some i) (hz : i.zero = some z) (hsize : i.size = size) (hby : i.bytes = bytes) (hzs : z.cells.size = size) (hsz : 0 < size)
    (hL : LO E T size base w2 v xs) (hE : KeepE tys E) (hT : T ∉ tys) (hbs : base ≤ w2.heap.size) (hx : E w2 zs x) (hzl : zs.length = size) (hone : ∀ u ∈ zs, u.oneCell' = true)
    (hs : a.eval s = v) {gq : Nat} (hxo : a.eval xo = .slice (some ⟨gq, 0, none⟩) 1 1) (hgq : gq = w2.heap.size) (h63 : xs.length + 1 ≤ 2000000) (hb : bytes ≤ 1000)
    (K : ∀ v' w' b, LO E T size base w' v' (xs ++ [x]) → base ≤ b → RFr w2 w' b b → Off tys w2 b → wpList Try.prog ops Q rest (a.put o.dst v') w') :
    wpList Try.prog ops Q (o :: rest) a (w2.alloc (.cells zs.toArray T)) := by
  subst hgq
  obtain ⟨vss, q1, q2, q3⟩ := hL
  have hm := m1 w2 (.cells zs.toArray T)
  have q2' := q2.keep hE (RFr.of_below hm w2.heap.size w2.heap.size) (off_fresh _ _ (Nat.le_refl _)) (off_fresh _ _ (Nat.le_refl _))
  have hx' := hE _ _ _ _ _ _ hx (RFr.of_below hm w2.heap.size w2.heap.size) (off_fresh _ _ (Nat.le_refl _)) (off_fresh _ _ (Nat.le_refl _))
  have q3' := mown_below q3 hm
  have hbs' : base ≤ (w2.alloc (.cells zs.toArray T)).heap.size := Nat.le_trans hbs hm.size
  refine wpList_append_any _ hgd s xo t ho base T i z size bytes ht hi hz hsize hby hzs hsz v xs.length vss.flatten hs q3' (w2.heap.size + 1) (some ⟨w2.heap.size, 0, none⟩) 1 1 zs hxo (reads_one w2 T size zs hzl 1 rfl) hone (by unfold maxLen; omega) ?_ hbs' fun v' w' h1 h2 _ => ?_
  · have := Nat.mul_le_mul (show xs.length + 1 ≤ 2000000 from h63) hb
    omega
  · obtain ⟨b, hb1, hb2, hb3⟩ := own_frame tys q3' hbs' h2 hT
    refine K v' w' b (LO.grow vss q1 q2' hE hb2 hb3 hx' hzl h1) hb1 ((RFr.of_below hm b b).trans hb2) fun T' hT' hty => hb3 T' hT' ?_
    obtain ⟨cs, hcs⟩ := hty
    exact ⟨cs, (hm.block b (Blk.lt (t := T') hcs)).trans hcs⟩
/-- the same inside a drawn region -/
theorem step_append_LO {X : Type} {E : World → List Value → X → Prop} {tys : List TypeId} {T : TypeId} {size bytes base : Nat} {ops : Array Oper} {o : Oper} {a : Act} {KK : Act → World → Prop} {Q : Exit → Act → World → Prop} {EE : Prop} {w2 : World} {zs : List Value} {v : Value} {xs : List X} {x : X}
    (hgd : o.guard = none) (s xo : Operand) (t : TypeId) (ho : o.op = .call { callee := .builtin .append, args := #[s, xo], argTypes := #[t, t] })
    (i : TypeInfo) (z : Value) (ht : Try.prog.underlying t = some (.slice T)) (hi : Try.prog.info? T = some i) (hz : i.zero = some z) (hsize : i.size = size) (hby : i.bytes = bytes) (hzs : z.cells.size = size) (hsz : 0 < size)
    (hL : LO E T size base w2 v xs) (hE : KeepE tys E) (hT : T ∉ tys) (hbs : base ≤ w2.heap.size) (hx : E w2 zs x) (hzl : zs.length = size) (hone : ∀ u ∈ zs, u.oneCell' = true)
    (hs : a.eval s = v) {gq : Nat} (hxo : a.eval xo = .slice (some ⟨gq, 0, none⟩) 1 1) (hgq : gq = w2.heap.size) (h63 : xs.length + 1 ≤ 2000000) (hb : bytes ≤ 1000)
    (K : ∀ v' w' b, LO E T size base w' v' (xs ++ [x]) → base ≤ b → RFr w2 w' b b → Off tys w2 b → KK (a.put o.dst v') w') :
    if Region.wanted o (yielded ops a.tmps) = true then Oper.wp Try.prog o a (w2.alloc (.cells zs.toArray T)) KK Q else EE := by
  subst hgq
  obtain ⟨vss, q1, q2, q3⟩ := hL
  have hm := m1 w2 (.cells zs.toArray T)
  have q2' := q2.keep hE (RFr.of_below hm w2.heap.size w2.heap.size) (off_fresh _ _ (Nat.le_refl _)) (off_fresh _ _ (Nat.le_refl _))
  have hx' := hE _ _ _ _ _ _ hx (RFr.of_below hm w2.heap.size w2.heap.size) (off_fresh _ _ (Nat.le_refl _)) (off_fresh _ _ (Nat.le_refl _))
  have q3' := mown_below q3 hm
  have hbs' : base ≤ (w2.alloc (.cells zs.toArray T)).heap.size := Nat.le_trans hbs hm.size
  refine step_append_any _ hgd s xo t ho base T i z size bytes ht hi hz hsize hby hzs hsz v xs.length vss.flatten hs q3' (w2.heap.size + 1) (some ⟨w2.heap.size, 0, none⟩) 1 1 zs hxo (reads_one w2 T size zs hzl 1 rfl) hone (by unfold maxLen; omega) ?_ hbs' fun v' w' h1 h2 _ => ?_
  · have := Nat.mul_le_mul (show xs.length + 1 ≤ 2000000 from h63) hb
    omega
  · obtain ⟨b, hb1, hb2, hb3⟩ := own_frame tys q3' hbs' h2 hT
    refine K v' w' b (LO.grow vss q1 q2' hE hb2 hb3 hx' hzl h1) hb1 ((RFr.of_below hm b b).trans hb2) fun T' hT' hty => hb3 T' hT' ?_
    obtain ⟨cs, hcs⟩ := hty
    exact ⟨cs, (hm.block b (Blk.lt (t := T') hcs)).trans hcs⟩
end Go.Proofs.Ytlfhgmoafgjdcaa
namespace Go.Proofs.Ytlfhgmoafgjdcaa
open Go.ChangeShapes Go.WideShapes Go.ChangeAt Go.RowKit
set_option linter.unusedVariables false
set_option linter.unusedSimpArgs false
theorem below_of_RFr {w w' : World} {x y : Nat} (h : RFr w w' x y) (hx : w.heap.size ≤ x) (hy : w.heap.size ≤ y) : Below w.heap.size w w' := ⟨h.os, h.tape, h.output, h.size, fun k hk => h.block k hk (by omega) (by omega)⟩
theorem addT (b off i : Nat) : (⟨b, off, none⟩ : Addr).add i = ⟨b, off + i, none⟩ := by unfold Addr.add; split <;> simp_all
/-- elements of plain cells -/
structure Flat {X : Type} (P : World → Nat → Nat → X → Prop) (E : World → List Value → X → Prop) (size : Nat) (F : X → List Value) : Prop where
  at_ : ∀ w b o x, P w b o x → ∀ j u, (F x)[j]? = some u → w.cell? ⟨b, o + j, none⟩ = some u
  ok : ∀ w x, E w (F x) x
  len : ∀ x, (F x).length = size
  one : ∀ x, ∀ u ∈ F x, u.oneCell' = true
theorem flat_get {X : Type} {F : X → List Value} {size : Nat} (hs : ∀ x, (F x).length = size) : ∀ (xs : List X) (j : Nat) (u : Value), (xs.flatMap F)[j]? = some u → ∃ i x k, xs[i]? = some x ∧ (F x)[k]? = some u ∧ j = i * size + k
  | [], j, u, h => by simp at h
  | x :: r, j, u, h => by
    rw [List.flatMap_cons] at h
    by_cases hj : j < (F x).length
    · rw [List.getElem?_append_left hj] at h
      exact ⟨0, x, j, rfl, h, by omega⟩
    · rw [List.getElem?_append_right (by omega)] at h
      obtain ⟨i, y, k, h1, h2, h3⟩ := flat_get hs r _ u h
      refine ⟨i + 1, y, k, by simpa using h1, h2, ?_⟩
      rw [hs x] at hj h3
      rw [Nat.succ_mul]
      omega
theorem flat_len {X : Type} {F : X → List Value} {size : Nat} (hs : ∀ x, (F x).length = size) : ∀ xs : List X, (xs.flatMap F).length = xs.length * size
  | [] => by simp
  | x :: r => by rw [List.flatMap_cons, List.length_append, hs x, flat_len hs r, List.length_cons, Nat.succ_mul]; omega
theorem Flat.reads {X : Type} {P : World → Nat → Nat → X → Prop} {E : World → List Value → X → Prop} {size base : Nat} {F : X → List Value} {w : World} {A : Option Addr} {xs : List X} (h : Flat P E size F) (hL : ListAt P size base w A xs) (hb : base ≤ w.heap.size) : Reads w w.heap.size size A xs.length (xs.flatMap F) := by
  refine ⟨flat_len h.len xs, fun hn => ?_⟩
  obtain ⟨b, off, rfl, hlt, hall⟩ := hL hn
  refine ⟨_, rfl, by show b < _; omega, fun j u hj => ?_⟩
  obtain ⟨i, x, k, h1, h2, rfl⟩ := flat_get h.len xs j u hj
  have := h.at_ _ _ _ _ (hall i x h1) k u h2
  rw [addT, ← Nat.add_assoc]
  exact this
theorem Flat.lo {X : Type} {P : World → Nat → Nat → X → Prop} {E : World → List Value → X → Prop} {size base : Nat} {F : X → List Value} {w : World} {T : TypeId} {v : Value} {xs : List X} (h : Flat P E size F) (ho : w.ownsRow base T size v xs.length (xs.flatMap F)) : LO E T size base w v xs :=
  ⟨xs.map F, by simp, fun i vs x a b => by
    rw [List.getElem?_map, b] at a
    simp at a
    subst a
    exact ⟨h.ok _ _, h.len _⟩, by rw [← List.flatMap_def]; exact ho⟩
/-- a copy of a list -/
theorem wpList_copy {X : Type} {P : World → Nat → Nat → X → Prop} {E : World → List Value → X → Prop} {F : X → List Value} {T : TypeId} {size bytes base : Nat} {ops : Array Oper} {rest : List Oper} {o : Oper} {a : Act} {Q : Exit → Act → World → Prop} {w2 : World} {A : Option Addr} {xs : List X} {c : Nat}
    (h : Flat P E size F) (hgd : o.guard = none) (xo : Operand) (t : TypeId) (ho : o.op = .call { callee := .builtin .append, args := #[.const (.slice none 0 0), xo], argTypes := #[t, t] })
    (i : TypeInfo) (z : Value) (ht : Try.prog.underlying t = some (.slice T)) (hi : Try.prog.info? T = some i) (hz : i.zero = some z) (hsize : i.size = size) (hby : i.bytes = bytes) (hzs : z.cells.size = size) (hsz : 0 < size)
    (hL : ListAt P size base w2 A xs) (hb : base ≤ w2.heap.size) (hx : a.eval xo = .slice A xs.length c) (h63 : xs.length ≤ 1048576) (hbb : bytes ≤ 1000)
    (K : ∀ v' w', LO E T size w2.heap.size w' v' xs → Below w2.heap.size w2 w' → wpList Try.prog ops Q rest (a.put o.dst v') w') : wpList Try.prog ops Q (o :: rest) a w2 := by
  refine wpList_append_any _ hgd (.const (.slice none 0 0)) xo t ho w2.heap.size T i z size bytes ht hi hz hsize hby hzs hsz (.slice none 0 0) 0 [] rfl (World.ownsRow_nil _ _ _ _) w2.heap.size A xs.length c (xs.flatMap F) hx (h.reads hL hb) (fun u hu => ?_) (by unfold maxLen; omega) ?_ (Nat.le_refl _) fun v' w' h1 h2 _ => K v' w' (h.lo (by simpa using h1)) ⟨h2.os, h2.tape, h2.output, h2.size, fun k hk => h2.block k hk (by simp [Value.ownBlock])⟩
  · obtain ⟨x, _, hx⟩ := List.mem_flatMap.1 hu
    exact h.one x u hx
  · have := Nat.mul_le_mul h63 hbb
    rw [Nat.zero_add]
    omega
theorem flat_Int : Flat pInt eInt 1 (fun z => [.int .i64 z]) := ⟨fun w b o x h j u hj => by
  cases j with
  | zero => simp at hj; subst hj; exact h
  | succ j => simp at hj, fun _ _ => rfl, fun _ => rfl, fun x u hu => by simp at hu; subst hu; rfl⟩
theorem flat_Stop : Flat pStop eStop 2 (fun x => [.int .i64 x.1, .int .i64 x.2]) := ⟨fun w b o x h j u hj => by
  match j, hj with
  | 0, hj => simp at hj; subst hj; exact h.1
  | 1, hj => simp at hj; subst hj; exact h.2, fun _ _ => ⟨[_], [_], rfl, rfl, rfl⟩, fun _ => rfl, fun x u hu => by simp at hu; rcases hu with rfl | rfl <;> rfl⟩
theorem flat_Input : Flat pInput eInput 4 (fun x => [.int .i64 x.1, .int .i64 x.2.1, .int .i64 x.2.2.1, .int .i64 x.2.2.2]) := ⟨fun w b o x h j u hj => by
  match j, hj with
  | 0, hj => simp at hj; subst hj; exact h.1
  | 1, hj => simp at hj; subst hj; exact h.2.1
  | 2, hj => simp at hj; subst hj; exact h.2.2.1
  | 3, hj => simp at hj; subst hj; exact h.2.2.2, fun _ _ => ⟨[_], [_, _, _], rfl, rfl, [_], [_, _], rfl, rfl, [_], [_], rfl, rfl, rfl⟩, fun _ => rfl, fun x u hu => by simp at hu; rcases hu with rfl | rfl | rfl | rfl <;> rfl⟩
theorem flat_Ins : Flat pIns eIns 4 (fun x => [.int .i64 x.1, .int .i64 x.2.1, .int .i64 x.2.2.1, .int .i64 x.2.2.2]) := ⟨fun w b o x h j u hj => by
  match j, hj with
  | 0, hj => simp at hj; subst hj; exact h.1
  | 1, hj => simp at hj; subst hj; exact h.2.1
  | 2, hj => simp at hj; subst hj; exact h.2.2.1
  | 3, hj => simp at hj; subst hj; exact h.2.2.2, fun _ _ => ⟨[_], [_, _, _], rfl, rfl, [_], [_, _], rfl, rfl, [_], [_], rfl, rfl, rfl⟩, fun _ => rfl, fun x u hu => by simp at hu; rcases hu with rfl | rfl | rfl | rfl <;> rfl⟩
theorem flat_Value : Flat pValue eValue 2 (fun x => [.int .i64 x.1, .int .u64 (x.2 : Int)]) := ⟨fun w b o x h j u hj => by
  match j, hj with
  | 0, hj => simp at hj; subst hj; exact h.1
  | 1, hj => simp at hj; subst hj; exact h.2, fun _ _ => ⟨[_], [_], rfl, rfl, rfl⟩, fun _ => rfl, fun x u hu => by simp at hu; rcases hu with rfl | rfl <;> rfl⟩
/-- two blocks of the call's own: the argument's, and the answer's -/
structure Tw2 (w0 w : World) (T : TypeId) (cs zs : Array Value) : Prop where
  fr : Below w0.heap.size w0 w
  b0 : Blk w w0.heap.size T cs
  b1 : Blk w (w0.heap.size + 1) T zs
theorem Tw2.made (w : World) (T : TypeId) (cs zs : Array Value) : Tw2 w ((w.alloc (.cells cs T)).alloc (.cells zs T)) T cs zs :=
  ⟨m2 w _ _, (Blk.made w T cs).kept (m1 _ _), by simpa using Blk.made (w.alloc (.cells cs T)) T zs⟩
theorem Tw2.later {w0 w w' : World} {T : TypeId} {cs zs : Array Value} (h : Tw2 w0 w T cs zs) (hb : Below w.heap.size w w') : Tw2 w0 w' T cs zs := ⟨mmore h.fr hb, h.b0.kept hb, h.b1.kept hb⟩
theorem Tw2.size {w0 w : World} {T : TypeId} {cs zs : Array Value} (h : Tw2 w0 w T cs zs) : w0.heap.size + 2 ≤ w.heap.size := by have := h.b1.lt; omega
theorem Tw2.keepR {w0 w w' : World} {T : TypeId} {cs zs : Array Value} {b : Nat} (h : Tw2 w0 w T cs zs) (hf : RFr w w' b b) (hb : w0.heap.size + 2 ≤ b) : Tw2 w0 w' T cs zs :=
  ⟨⟨hf.os.trans h.fr.os, hf.tape.trans h.fr.tape, hf.output.trans h.fr.output, Nat.le_trans h.fr.size hf.size, fun k hk => (hf.block k (by have := h.fr.size; omega) (by omega) (by omega)).trans (h.fr.block k hk)⟩, h.b0.keepR hf (by omega) (by omega), h.b1.keepR hf (by omega) (by omega)⟩
theorem Tw2.set0 {w0 w : World} {T : TypeId} {cs zs : Array Value} (h : Tw2 w0 w T cs zs) (i : Nat) (v : Value) : Tw2 w0 (w.setCell ⟨w0.heap.size, i, none⟩ v) T (cs.setIfInBounds i v) zs :=
  ⟨h.fr.setCell (p := ⟨w0.heap.size, i, none⟩) (Nat.le_refl _) v, h.b0.put_ i v, h.b1.else_ (p := ⟨w0.heap.size, i, none⟩) (by simp) v⟩
theorem Tw2.set1 {w0 w : World} {T : TypeId} {cs zs : Array Value} (h : Tw2 w0 w T cs zs) (i : Nat) (v : Value) : Tw2 w0 (w.setCell ⟨w0.heap.size + 1, i, none⟩ v) T cs (zs.setIfInBounds i v) :=
  ⟨h.fr.setCell (p := ⟨w0.heap.size + 1, i, none⟩) (Nat.le_succ _) v, h.b0.else_ (p := ⟨w0.heap.size + 1, i, none⟩) (by simp) v, h.b1.put_ i v⟩
theorem eL.later {X : Type} {E : World → List Value → X → Prop} {tys : List TypeId} {T : TypeId} {size : Nat} {w w' : World} {vs : List Value} {xs : List X} (h : eL E T size w vs xs) (hE : KeepE tys E) (hb : Below w.heap.size w w') : eL E T size w' vs xs :=
  keepE_L T size hE _ _ _ _ _ _ h (RFr.of_below hb w.heap.size w.heap.size) (off_fresh _ _ (Nat.le_refl _)) (off_fresh _ _ (Nat.le_refl _))
theorem eL.set_ {X : Type} {E : World → List Value → X → Prop} {tys : List TypeId} {T TX : TypeId} {size b i : Nat} {w : World} {u : Value} {vs : List Value} {xs : List X} (h : eL E T size w vs xs) (hE : KeepE tys E) (ht : TyB w b TX) (hT : TX ∉ T :: tys) : eL E T size (w.setCell ⟨b, i, none⟩ u) vs xs :=
  keepE_L T size hE _ _ _ _ _ _ h (RFr.of_set _ b b i u) (Off.of_ty ht hT) (Off.of_ty ht hT)
theorem LO.lvN {X : Type} {E : World → List Value → X → Prop} {T : TypeId} {size base : Nat} {w : World} {v : Value} {xs : List X} (h : LO E T size base w v xs) : ∃ A c, v = .slice A xs.length c ∧ eL E T size w [v] xs := by
  obtain ⟨_, h1, A, c, vss, rfl, h2⟩ := h.lv
  simp at h1
  exact ⟨A, c, h1, h.lv⟩
theorem cnt_Code {x : TCode} (hc : ∀ n, Itm.c n ∈ iCode x → n ≤ 1048576) : x.2.2.1.length ≤ 1048576 ∧ x.2.2.2.1.length ≤ 1048576 ∧ x.2.2.2.2.length ≤ 1048576 := ⟨hc _ (by simp [iCode, itL]), hc _ (by simp [iCode, itL]), hc _ (by simp [iCode, itL])⟩
set_option maxHeartbeats 8000000 in
set_option maxRecDepth 100000 in
theorem twinC_any (x : TCode) (A2 : Option Addr) (c2 : Nat) (A3 : Option Addr) (c3 : Nat) (A4 : Option Addr) (c4 : Nat) (w : World) (base : Nat) (hbs : base ≤ w.heap.size) (q2 : ListAt pInput 4 base w A2 x.2.2.1) (q3 : ListAt pValue 2 base w A3 x.2.2.2.1) (q4 : ListAt pIns 4 base w A4 x.2.2.2.2) (hc : ∀ n, Itm.c n ∈ iCode x → n ≤ 1048576) :
    Calls Try.prog 21 #[.agg #[.int .i64 x.1, .int .i64 x.2.1, .slice A2 x.2.2.1.length c2, .slice A3 x.2.2.2.1.length c3, .slice A4 x.2.2.2.2.length c4]] w fun e w' => ∃ v0 v1 v2 v3 v4, e = .returned (.agg #[v0, v1, v2, v3, v4]) ∧ (∀ u ∈ [v0, v1, v2, v3, v4], u.oneCell' = true) ∧ eCode w' [v0, v1, v2, v3, v4] x ∧ Below w.heap.size w w' := by
  obtain ⟨k2, k3, k4⟩ := cnt_Code hc
  obtain ⟨j2, hj2, hx2, hy2, hw2⟩ := info_parts z_Input
  obtain ⟨j3, hj3, hx3, hy3, hw3⟩ := info_parts z_Value
  obtain ⟨j4, hj4, hx4, hy4, hw4⟩ := info_parts z_Ins
  have T := Tw2.made w 47 #[.int .i64 x.1, .int .i64 x.2.1, .slice A2 x.2.2.1.length c2, .slice A3 x.2.2.2.1.length c3, .slice A4 x.2.2.2.2.length c4] #[.int .i64 0, .int .i64 0, .slice none 0 0, .slice none 0 0, .slice none 0 0]
  obtain ⟨x0, x1, x2, x3, x4⟩ := x
  show Calls _ _ #[.agg #[.int .i64 x0, .int .i64 x1, .slice A2 x2.length c2, .slice A3 x3.length c3, .slice A4 x4.length c4]] _ _
  replace T : Tw2 w _ 47 #[.int .i64 x0, .int .i64 x1, .slice A2 x2.length c2, .slice A3 x3.length c3, .slice A4 x4.length c4] #[.int .i64 0, .int .i64 0, .slice none 0 0, .slice none 0 0, .slice none 0 0] := T
  replace q2 : ListAt pInput 4 base w A2 x2 := q2
  replace q3 : ListAt pValue 2 base w A3 x3 := q3
  replace q4 : ListAt pIns 4 base w A4 x4 := q4
  replace k2 : x2.length ≤ 1048576 := k2
  replace k3 : x3.length ≤ 1048576 := k3
  replace k4 : x4.length ≤ 1048576 := k4
  have qq2 := Lib.hid (fun (u : World) (hu : Below w.heap.size w u) => q2.belowB (w1 := u) (fun b o y hl h => pInput.belowB (hu.mono hbs) hl h))
  have qq3 := Lib.hid (fun (u : World) (hu : Below w.heap.size w u) => q3.belowB (w1 := u) (fun b o y hl h => pValue.belowB (hu.mono hbs) hl h))
  have qq4 := Lib.hid (fun (u : World) (hu : Below w.heap.size w u) => q4.belowB (w1 := u) (fun b o y hl h => pIns.belowB (hu.mono hbs) hl h))
  clear q2 q3 q4 hc
  go_enter Try.func21, Try.ntmps21
  go_upto_region 1 with (fail)
  generalize (w.alloc (.cells #[.int .i64 x0, .int .i64 x1, .slice A2 x2.length c2, .slice A3 x3.length c3, .slice A4 x4.length c4] 47)).alloc (.cells #[.int .i64 0, .int .i64 0, .slice none 0 0, .slice none 0 0, .slice none 0 0] 47) = u at *
  have a2 := T.b0.cell 2
  go_upto_region 2 with (at_builtin; refine wpList_copy flat_Input rfl (.tmp 4) 43 rfl j2 (.agg #[.int .i64 0, .int .i64 0, .int .i64 0, .int .i64 0]) Try.underlying43 hj2 hx2 hy2 hw2 rfl (by decide) (qq2.out _ T.fr) (by have := T.size; omega) rfl k2 (by decide) ?_; intro v1 u1 L2 hb1; obtain ⟨B2, d2, rfl, L2⟩ := L2.lvN; replace T := T.later hb1; have a2 := T.b0.cell 2; have f2 := T.b0.free 2)
  clear a2 f2
  replace L2 := L2.set_ (i := 2) (u := .slice B2 x2.length d2) keep_Input T.b0.ty (by decide)
  replace T := T.set0 2 (.slice B2 x2.length d2)
  simp only [List.setIfInBounds_toArray, List.set_cons_zero, List.set_cons_succ] at T
  generalize u1.setCell ⟨w.heap.size, 2, none⟩ (.slice B2 x2.length d2) = y1 at *
  have a3 := T.b0.cell 3
  go_upto_region 3 with (at_builtin; refine wpList_copy flat_Value rfl (.tmp 8) 44 rfl j3 (.agg #[.int .i64 0, .int .u64 0]) Try.underlying44 hj3 hx3 hy3 hw3 rfl (by decide) (qq3.out _ T.fr) (by have := T.size; omega) rfl k3 (by decide) ?_; intro v2 u2 L3 hb2; obtain ⟨B3, d3, rfl, L3⟩ := L3.lvN; replace T := T.later hb2; replace L2 := L2.later keep_Input hb2; have a3 := T.b0.cell 3; have f3 := T.b0.free 3)
  clear a3 f3
  replace L2 := L2.set_ (i := 3) (u := .slice B3 x3.length d3) keep_Input T.b0.ty (by decide)
  replace L3 := L3.set_ (i := 3) (u := .slice B3 x3.length d3) keep_Value T.b0.ty (by decide)
  replace T := T.set0 3 (.slice B3 x3.length d3)
  simp only [List.setIfInBounds_toArray, List.set_cons_zero, List.set_cons_succ] at T
  generalize u2.setCell ⟨w.heap.size, 3, none⟩ (.slice B3 x3.length d3) = y2 at *
  have a4 := T.b0.cell 4
  go_upto_region 4 with (at_builtin; refine wpList_copy flat_Ins rfl (.tmp 12) 45 rfl j4 (.agg #[.int .i64 0, .int .i64 0, .int .i64 0, .int .i64 0]) Try.underlying45 hj4 hx4 hy4 hw4 rfl (by decide) (qq4.out _ T.fr) (by have := T.size; omega) rfl k4 (by decide) ?_; intro v3 u3 L4 hb3; obtain ⟨B4, d4, rfl, L4⟩ := L4.lvN; replace T := T.later hb3; replace L2 := L2.later keep_Input hb3; replace L3 := L3.later keep_Value hb3; have a4 := T.b0.cell 4; have f4 := T.b0.free 4)
  clear a4 f4
  replace L2 := L2.set_ (i := 4) (u := .slice B4 x4.length d4) keep_Input T.b0.ty (by decide)
  replace L3 := L3.set_ (i := 4) (u := .slice B4 x4.length d4) keep_Value T.b0.ty (by decide)
  replace L4 := L4.set_ (i := 4) (u := .slice B4 x4.length d4) keep_Ins T.b0.ty (by decide)
  replace T := T.set0 4 (.slice B4 x4.length d4)
  simp only [List.setIfInBounds_toArray, List.set_cons_zero, List.set_cons_succ] at T
  generalize u3.setCell ⟨w.heap.size, 4, none⟩ (.slice B4 x4.length d4) = y3 at *
  have c0 := T.b0.cell 0
  have c1 := T.b0.cell 1
  have c2 := T.b0.cell 2
  have c3 := T.b0.cell 3
  have c4 := T.b0.cell 4
  have z0 := T.b1.cell 0
  have z1 := T.b1.cell 1
  have z2 := T.b1.cell 2
  have z3 := T.b1.cell 3
  have z4 := T.b1.cell 4
  have e0 := T.b1.free 0
  have e1 := T.b1.free 1
  have e2 := T.b1.free 2
  have e3 := T.b1.free 3
  have e4 := T.b1.free 4
  have T2 := ((((T.set1 0 (.int .i64 x0)).set1 1 (.int .i64 x1)).set1 2 (.slice B2 x2.length d2)).set1 3 (.slice B3 x3.length d3)).set1 4 (.slice B4 x4.length d4)
  simp only [List.setIfInBounds_toArray, List.set_cons_zero, List.set_cons_succ] at T2
  have tt := T.b1.ty
  have tt1 := (T.set1 0 (.int .i64 x0)).b1.ty
  have tt2 := ((T.set1 0 (.int .i64 x0)).set1 1 (.int .i64 x1)).b1.ty
  have tt3 := (((T.set1 0 (.int .i64 x0)).set1 1 (.int .i64 x1)).set1 2 (.slice B2 x2.length d2)).b1.ty
  have tt4 := ((((T.set1 0 (.int .i64 x0)).set1 1 (.int .i64 x1)).set1 2 (.slice B2 x2.length d2)).set1 3 (.slice B3 x3.length d3)).b1.ty
  replace L2 := ((((L2.set_ (i := 0) (u := .int .i64 x0) keep_Input tt (by decide)).set_ (i := 1) (u := .int .i64 x1) keep_Input tt1 (by decide)).set_ (i := 2) (u := .slice B2 x2.length d2) keep_Input tt2 (by decide)).set_ (i := 3) (u := .slice B3 x3.length d3) keep_Input tt3 (by decide)).set_ (i := 4) (u := .slice B4 x4.length d4) keep_Input tt4 (by decide)
  replace L3 := ((((L3.set_ (i := 0) (u := .int .i64 x0) keep_Value tt (by decide)).set_ (i := 1) (u := .int .i64 x1) keep_Value tt1 (by decide)).set_ (i := 2) (u := .slice B2 x2.length d2) keep_Value tt2 (by decide)).set_ (i := 3) (u := .slice B3 x3.length d3) keep_Value tt3 (by decide)).set_ (i := 4) (u := .slice B4 x4.length d4) keep_Value tt4 (by decide)
  replace L4 := ((((L4.set_ (i := 0) (u := .int .i64 x0) keep_Ins tt (by decide)).set_ (i := 1) (u := .int .i64 x1) keep_Ins tt1 (by decide)).set_ (i := 2) (u := .slice B2 x2.length d2) keep_Ins tt2 (by decide)).set_ (i := 3) (u := .slice B3 x3.length d3) keep_Ins tt3 (by decide)).set_ (i := 4) (u := .slice B4 x4.length d4) keep_Ins tt4 (by decide)
  clear T tt tt1 tt2 tt3 tt4
  go_wp2
  generalize (((((y3.setCell ⟨w.heap.size + 1, 0, none⟩ (.int .i64 x0)).setCell ⟨w.heap.size + 1, 1, none⟩ (.int .i64 x1)).setCell ⟨w.heap.size + 1, 2, none⟩ (.slice B2 x2.length d2)).setCell ⟨w.heap.size + 1, 3, none⟩ (.slice B3 x3.length d3)).setCell ⟨w.heap.size + 1, 4, none⟩ (.slice B4 x4.length d4)) = y4 at *
  have t0 : y4.cell? ⟨w.heap.size + 1, 0, none⟩ = some (.int .i64 x0) := T2.b1.cell 0
  have t1 : y4.cell? ⟨w.heap.size + 1, 1, none⟩ = some (.int .i64 x1) := T2.b1.cell 1
  have t2 : y4.cell? ⟨w.heap.size + 1, 2, none⟩ = some (.slice B2 x2.length d2) := T2.b1.cell 2
  have t3 : y4.cell? ⟨w.heap.size + 1, 3, none⟩ = some (.slice B3 x3.length d3) := T2.b1.cell 3
  have t4 : y4.cell? ⟨w.heap.size + 1, 4, none⟩ = some (.slice B4 x4.length d4) := T2.b1.cell 4
  refine bodyPost_ret (v := .agg #[.int .i64 x0, .int .i64 x1, .slice B2 x2.length d2, .slice B3 x3.length d3, .slice B4 x4.length d4]) (by simp [results, Try.results21, go_sem, t0, t1, t2, t3, t4]) rfl ?_
  exact ⟨_, _, _, _, _, rfl, by intro u hu; simp at hu; rcases hu with rfl | rfl | rfl | rfl | rfl <;> rfl, ⟨[_], [_, _, _, _], rfl, rfl, [_], [_, _, _], rfl, rfl, [_], [_, _], rfl, L2, [_], [_], rfl, L3, L4⟩, T2.fr⟩
end Go.Proofs.Ytlfhgmoafgjdcaa
namespace Go.Proofs.Ytlfhgmoafgjdcaa
open Go.ChangeShapes Go.WideShapes Go.ChangeAt Go.RowKit
set_option linter.unusedVariables false
set_option linter.unusedSimpArgs false
theorem below_rfr {base : Nat} {w a c : World} {b : Nat} (h : Below base w a) (hf : RFr a c b b) (hb : base ≤ b) (hs : base ≤ a.heap.size) : Below base w c :=
  ⟨hf.os.trans h.os, hf.tape.trans h.tape, hf.output.trans h.output, Nat.le_trans h.size hf.size, fun k hk => (hf.block k (by omega) (by omega) (by omega)).trans (h.block k hk)⟩
theorem cnt_L {X : Type} {f : X → List Itm} {xs : List X} (h : ∀ n, Itm.c n ∈ itL f xs → n ≤ 1048576) : xs.length ≤ 1048576 ∧ ∀ x ∈ xs, ∀ n, Itm.c n ∈ f x → n ≤ 1048576 :=
  ⟨h _ (by simp [itL]), fun x hx n hn => h n (by unfold itL; exact List.mem_cons_of_mem _ (List.mem_flatMap.2 ⟨x, hx, hn⟩))⟩
theorem cnt_Table {x : TTable} (h : ∀ n, Itm.c n ∈ iTable x → n ≤ 1048576) : (∀ n, Itm.c n ∈ itL iInt x.1.2.1 → n ≤ 1048576) ∧ (∀ n, Itm.c n ∈ itL iInts x.1.2.2.1 → n ≤ 1048576) ∧ (∀ n, Itm.c n ∈ itL iRow x.2.1 → n ≤ 1048576) ∧ (∀ n, Itm.c n ∈ itL iCode x.2.2 → n ≤ 1048576) :=
  ⟨fun n hn => h n (by simp [iTable, hn]), fun n hn => h n (by simp [iTable, hn]), fun n hn => h n (by simp [iTable, hn]), fun n hn => h n (by simp [iTable, hn])⟩
theorem cnt_Row {x : TRow} (h : ∀ n, Itm.c n ∈ iRow x → n ≤ 1048576) : (∀ n, Itm.c n ∈ itL iStop x.1.2.2.2.2 → n ≤ 1048576) ∧ (∀ n, Itm.c n ∈ itL iTail x.2.2.2 → n ≤ 1048576) :=
  ⟨fun n hn => h n (by simp [iRow, hn]), fun n hn => h n (by simp [iRow, hn])⟩
theorem cnt_Tail {x : TTail} (h : ∀ n, Itm.c n ∈ iTail x → n ≤ 1048576) : ∀ n, Itm.c n ∈ itL iStop x.2.2 → n ≤ 1048576 := fun n hn => h n (by simp [iTail, hn])
theorem take_next {X : Type} {xs : List X} {k : Nat} (h : k < xs.length) : xs.take (k + 1) = xs.take k ++ [xs[k]] := by
  rw [List.take_add_one, List.getElem?_eq_getElem h]; rfl
/-- what a list that was made gives, as it lies -/
theorem la_L {X : Type} {w : World} {E : World → List Value → X → Prop} {P : World → Nat → Nat → X → Prop} {I : X → List Itm} {T : TypeId} {size : Nat} {A : Option Addr} {n c : Nat} {xs : List X} (h : Br w E P I) (he : eL E T size w [.slice A n c] xs) (hok : ∀ n, Itm.c n ∈ itL I xs → n ≤ 1048576) : ListAt P size w.heap.size w A xs := by
  have hb := m1 w (.cells #[.slice A n c] T)
  obtain ⟨v, hv, A', c', vss, rfl, hl, hels, hrow⟩ := he
  simp at hv
  obtain ⟨rfl, _, _⟩ := hv
  intro hpos
  obtain ⟨b', cur, rfl, hb', hpre⟩ := hrow hpos
  refine ⟨b', 0, rfl, (TyB.lt ⟨cur, hb'⟩), fun i x hi => ?_⟩
  have hiv : i < vss.length := by rw [hl]; exact (List.getElem?_eq_some_iff.1 hi).1
  have hu := List.getElem?_eq_getElem hiv
  obtain ⟨hE, hsz⟩ := hels i _ x hu hi
  refine h b' (0 + i * size) _ x hE (fun j u hj => ?_) (fun it hit => hok it (by unfold itL; exact List.mem_cons_of_mem _ (List.mem_flatMap.2 ⟨x, List.mem_of_getElem? hi, hit⟩)))
  have hf := flatten_at (size := size) (fun i us hus => by
    have hix : i < xs.length := by rw [← hl]; exact (List.getElem?_eq_some_iff.1 hus).1
    exact (hels i us _ hus (List.getElem?_eq_getElem hix)).2) hu hj
  rw [cell_of_row w b' _ cur T (0, 0) hb', Nat.zero_add, ← Array.getElem?_toList]
  obtain ⟨s, hs⟩ := hpre
  rw [← hs, List.getElem?_append_left (List.getElem?_eq_some_iff.1 hf).1]
  exact hf
/-- the same table, in memory of the call's own -/
def TwinIs (z0 : Int) (n1 n2 : Nat) (z3 z4 z5 : Int) (n6 n7 : Nat) (x : TTable) (w : World) (e : Ending) (w' : World) : Prop := ∃ A1 c1 A2 c2 A6 c6 A7 c7, e = .returned (.agg #[.int .i64 z0, .slice A1 n1 c1, .slice A2 n2 c2, .int .i64 z3, .int .i64 z4, .int .i64 z5, .slice A6 n6 c6, .slice A7 n7 c7]) ∧ TabRaw w'.heap.size w' z0 A1 n1 A2 n2 z3 z4 z5 A6 n6 A7 n7 x ∧ Below w.heap.size w w'
set_option maxHeartbeats 16000000 in
set_option maxRecDepth 100000 in
theorem twinT_any (x : TTable) (z0 : Int) (A1 : Option Addr) (n1 c1 : Nat) (A2 : Option Addr) (n2 c2 : Nat) (z3 z4 z5 : Int) (A6 : Option Addr) (n6 c6 : Nat) (A7 : Option Addr) (n7 c7 : Nat) (base : Nat) (w : World) (hbs : base ≤ w.heap.size)
    (hx : TabRaw base w z0 A1 n1 A2 n2 z3 z4 z5 A6 n6 A7 n7 x) (hc : ∀ n, Itm.c n ∈ iTable x → n ≤ 1048576) :
    Calls Try.prog 9 #[.agg #[.int .i64 z0, .slice A1 n1 c1, .slice A2 n2 c2, .int .i64 z3, .int .i64 z4, .int .i64 z5, .slice A6 n6 c6, .slice A7 n7 c7]] w (TwinIs z0 n1 n2 z3 z4 z5 n6 n7 x w) := by
  obtain ⟨⟨x0, l1, l2, x3, x4, x5⟩, l6, l7⟩ := x
  obtain ⟨⟨e0, e3, e4, e5⟩, ⟨g1, g2, g6, g7⟩, q1, q2, q6, q7⟩ := hx
  subst e0 e3 e4 e5 g1 g2 g6 g7
  show Calls _ _ #[.agg #[.int .i64 x0, .slice A1 l1.length c1, .slice A2 l2.length c2, .int .i64 x3, .int .i64 x4, .int .i64 x5, .slice A6 l6.length c6, .slice A7 l7.length c7]] _ _
  replace q1 : ListAt pInt 1 base w A1 l1 := q1
  replace q2 : ListAt (pInts base) 1 base w A2 l2 := q2
  replace q6 : ListAt (pRow base) 8 base w A6 l6 := q6
  replace q7 : ListAt (pCode base) 5 base w A7 l7 := q7
  obtain ⟨h1, h2, h6, h7⟩ := cnt_Table hc
  replace h1 : ∀ n, Itm.c n ∈ itL iInt l1 → n ≤ 1048576 := h1
  replace h2 : ∀ n, Itm.c n ∈ itL iInts l2 → n ≤ 1048576 := h2
  replace h6 : ∀ n, Itm.c n ∈ itL iRow l6 → n ≤ 1048576 := h6
  replace h7 : ∀ n, Itm.c n ∈ itL iCode l7 → n ≤ 1048576 := h7
  have hfin := Lib.hid (fun (wr : World) (B1 : Option Addr) (d1 : Nat) (B2 : Option Addr) (d2 : Nat) (B6 : Option Addr) (d6 : Nat) (B7 : Option Addr) (d7 : Nat) (hb : Below w.heap.size w wr) (L1 : eL eInt 3 1 wr [.slice B1 l1.length d1] l1) (L2 : eL eInts 22 1 wr [.slice B2 l2.length d2] l2) (L6 : eL eRow 53 8 wr [.slice B6 l6.length d6] l6) (L7 : eL eCode 47 5 wr [.slice B7 l7.length d7] l7) =>
    (⟨B1, d1, B2, d2, B6, d6, B7, d7, rfl, ⟨⟨rfl, rfl, rfl, rfl⟩, ⟨rfl, rfl, rfl, rfl⟩, la_L (br_Int wr) L1 h1, la_L (br_Ints wr) L2 h2, la_L (br_Row wr) L6 h6, la_L (br_Code wr) L7 h7⟩, hb⟩ : TwinIs x0 l1.length l2.length x3 x4 x5 l6.length l7.length ((x0, l1, l2, x3, x4, x5), l6, l7) w (.returned (.agg #[.int .i64 x0, .slice B1 l1.length d1, .slice B2 l2.length d2, .int .i64 x3, .int .i64 x4, .int .i64 x5, .slice B6 l6.length d6, .slice B7 l7.length d7])) wr))
  obtain ⟨k1, _⟩ := cnt_L h1
  obtain ⟨k2, m2⟩ := cnt_L h2
  obtain ⟨k6, m6⟩ := cnt_L h6
  obtain ⟨k7, m7⟩ := cnt_L h7
  replace m2 := Lib.hid m2
  replace m6 := Lib.hid m6
  replace m7 := Lib.hid m7
  clear h1 h2 h6 h7 hc
  obtain ⟨iInt_, hjI, hxI, hyI, hwI⟩ := info_parts z_Int
  obtain ⟨iInts_, hjJ, hxJ, hyJ, hwJ⟩ := info_parts z_Ints
  obtain ⟨iStop_, hjS, hxS, hyS, hwS⟩ := info_parts z_Stop
  obtain ⟨iTail_, hjT, hxT, hyT, hwT⟩ := info_parts z_Tail
  obtain ⟨iRow_, hjR, hxR, hyR, hwR⟩ := info_parts z_Row
  obtain ⟨iCode_, hjC, hxC, hyC, hwC⟩ := info_parts z_Code
  have T := Tw2.made w 27 #[.int .i64 x0, .slice A1 l1.length c1, .slice A2 l2.length c2, .int .i64 x3, .int .i64 x4, .int .i64 x5, .slice A6 l6.length c6, .slice A7 l7.length c7] #[.int .i64 0, .slice none 0 0, .slice none 0 0, .int .i64 0, .int .i64 0, .int .i64 0, .slice none 0 0, .slice none 0 0]
  have qq1 := Lib.hid (fun (u : World) (hu : Below w.heap.size w u) => q1.belowB (w1 := u) (fun b o y hl h => pInt.belowB (hu.mono hbs) hl h))
  have qq2 := Lib.hid (fun (u : World) (hu : Below w.heap.size w u) => q2.belowB (w1 := u) (fun b o y hl h => pInts.belowB (hu.mono hbs) hl h))
  have qq6 := Lib.hid (fun (u : World) (hu : Below w.heap.size w u) => q6.belowB (w1 := u) (fun b o y hl h => pRow.belowB (hu.mono hbs) hl h))
  have qq7 := Lib.hid (fun (u : World) (hu : Below w.heap.size w u) => q7.belowB (w1 := u) (fun b o y hl h => pCode.belowB (hu.mono hbs) hl h))
  clear q1 q2 q6 q7
  go_enter Try.func9, Try.ntmps9
  go_upto_region 1 with (fail)
  generalize (w.alloc (.cells #[.int .i64 x0, .slice A1 l1.length c1, .slice A2 l2.length c2, .int .i64 x3, .int .i64 x4, .int .i64 x5, .slice A6 l6.length c6, .slice A7 l7.length c7] 27)).alloc (.cells #[.int .i64 0, .slice none 0 0, .slice none 0 0, .int .i64 0, .int .i64 0, .int .i64 0, .slice none 0 0, .slice none 0 0] 27) = u at *
  have a1 := T.b0.cell 1
  go_upto_region 2 with (at_builtin; refine wpList_copy flat_Int rfl (.tmp 16) 22 rfl iInt_ (.int .i64 0) Try.underlying22 hjI hxI hyI hwI rfl (by decide) (qq1.out _ T.fr) (by have := T.size; omega) rfl k1 (by decide) ?_; intro v1 u1 L1 hb1; obtain ⟨B1, d1, rfl, L1⟩ := L1.lvN; replace T := T.later hb1; have a1 := T.b0.cell 1; have f1 := T.b0.free 1)
  clear a1 f1
  replace L1 := L1.set_ (i := 1) (u := .slice B1 l1.length d1) keepE_int T.b0.ty (by decide)
  replace T := T.set0 1 (.slice B1 l1.length d1)
  simp only [List.setIfInBounds_toArray, List.set_cons_zero, List.set_cons_succ] at T
  generalize u1.setCell ⟨w.heap.size, 1, none⟩ (.slice B1 l1.length d1) = y1 at *
  have a2 := T.b0.cell 2
  go_wp2_with fail
  go_loopw [3, 22] (fun v i wr => ∃ k : Nat, k ≤ l2.length ∧ i = .int .i64 (k : Int) ∧ LO eInts 22 1 (w.heap.size + 2) wr v (l2.take k) ∧ Tw2 w wr 27 #[.int .i64 x0, .slice B1 l1.length d1, .slice A2 l2.length c2, .int .i64 x3, .int .i64 x4, .int .i64 x5, .slice A6 l6.length c6, .slice A7 l7.length c7] #[.int .i64 0, .slice none 0 0, .slice none 0 0, .int .i64 0, .int .i64 0, .int .i64 0, .slice none 0 0, .slice none 0 0] ∧ eL eInt 3 1 wr [.slice B1 l1.length d1] l1) (fun _ i _ => l2.length - (intOf i).toNat)
  case atStart => exact ⟨0, Nat.zero_le _, rfl, LO.nil _ _ _ _ _, T, L1⟩
  case round =>
    clear T L1 a2
    obtain ⟨k, hk, rfl, LK, T, L1⟩ := hrel
    have k0 : (0 : Int) ≤ (k : Int) := by omega
    by_cases hlt : k < l2.length
    · have kl : (k : Int) < (l2.length : Int) := by omega
      obtain ⟨b, off, rfl, hbl, hall⟩ := (qq2.out _ T.fr) (by omega)
      obtain ⟨A, c, e1, q, _⟩ := hall k _ (List.getElem?_eq_getElem hlt)
      have hk1 := take_next hlt
      have hcl := (cnt_L (m2.out _ (List.getElem_mem hlt))).1
      generalize l2[k] = y at *
      rw [Nat.mul_one] at e1
      clear hall
      have hsT := T.size
      go_wp2_with (at_builtin; first | (refine wpList_copy flat_Int rfl (.tmp 27) 22 rfl iInt_ (.int .i64 0) Try.underlying22 hjI hxI hyI hwI rfl (by decide) q (by omega) rfl hcl (by decide) ?_; intro v2 u2 L2 hb2; obtain ⟨B2, d2, rfl, L2⟩ := L2.lvN; replace T := T.later hb2; replace LK := LK.later keep_Ints hb2; replace L1 := L1.later keepE_int hb2; have hs2 := T.size; clear q e1) | (refine wpList_append_LO (tys := [3]) rfl (.tmp 26) (.tmp 29) 23 rfl iInts_ (.slice none 0 0) Try.underlying23 hjJ hxJ hyJ hwJ rfl (by decide) LK keep_Ints (by decide) hs2 (x := y) L2 rfl (by intro z hz; simp at hz; subst hz; rfl) rfl rfl (by simp [World.setCell]) (by rw [List.length_take]; omega) (by decide) ?_; intro v3 u3 b3 LK3 hb3 hf3 ho3; replace T := T.keepR hf3 hb3; replace L1 := (keepE_L 3 1 keepE_int) _ _ _ _ _ _ L1 hf3 ho3 ho3; clear LK L2))
      go_roundw
      case rel => exact ⟨k + 1, by omega, by go_num, by rw [hk1]; exact LK3, T, L1⟩
      case measure => simp [intOf]; omega
    · obtain rfl : k = l2.length := by omega
      rw [List.take_length] at LK
      obtain ⟨B2, d2, rfl, L2⟩ := LK.lvN
      clear LK hk k0 m2 qq2
      have a6 := T.b0.cell 6
      go_wp2_with fail
      go_loopw [6, 35] (fun v i wr => ∃ k : Nat, k ≤ l6.length ∧ i = .int .i64 (k : Int) ∧ LO eRow 53 8 (w.heap.size + 2) wr v (l6.take k) ∧ Tw2 w wr 27 #[.int .i64 x0, .slice B1 l1.length d1, .slice A2 l2.length c2, .int .i64 x3, .int .i64 x4, .int .i64 x5, .slice A6 l6.length c6, .slice A7 l7.length c7] #[.int .i64 0, .slice none 0 0, .slice none 0 0, .int .i64 0, .int .i64 0, .int .i64 0, .slice none 0 0, .slice none 0 0] ∧ eL eInt 3 1 wr [.slice B1 l1.length d1] l1 ∧ eL eInts 22 1 wr [.slice B2 l2.length d2] l2) (fun _ i _ => l6.length - (intOf i).toNat)
      case atStart => exact ⟨0, Nat.zero_le _, rfl, LO.nil _ _ _ _ _, T, L1, L2⟩
      case round =>
        clear T L1 L2 a6
        obtain ⟨k, hk, rfl, LK, T, L1, L2⟩ := hrel
        have k0 : (0 : Int) ≤ (k : Int) := by omega
        by_cases hlt : k < l6.length
        · have kl : (k : Int) < (l6.length : Int) := by omega
          obtain ⟨W0, rfl⟩ : ∃ W0, W0 = wr := ⟨_, rfl⟩
          obtain ⟨b, off, rfl, hbl, hall⟩ := (qq6.out _ T.fr) (by omega)
          have hel := hall k _ (List.getElem?_eq_getElem hlt)
          have hk1 := take_next hlt
          obtain ⟨hcS, hcT⟩ := cnt_Row (m6.out _ (List.getElem_mem hlt))
          generalize l6[k] = y at *
          obtain ⟨⟨y0, y1, y2, y3, y4⟩, y5, y6, y7⟩ := y
          replace hcS := (cnt_L hcS).1
          obtain ⟨hcT, mT⟩ := cnt_L hcT
          replace hcS : y4.length ≤ 1048576 := hcS
          replace hcT : y7.length ≤ 1048576 := hcT
          replace mT := Lib.hid mT
          obtain ⟨r0, r1, r2, r3, ⟨E4, f4, r4, s4, _⟩, r5, r6, ⟨E7, f7, r7, s7, _⟩⟩ := hel
          clear hall
          have hsT := T.size
          have hgw : base ≤ W0.heap.size := by omega
          generalize hG : W0.heap.size = G at *
          have hbk := m1 W0 (.cells #[.int .i64 y0, .int .i64 y1, .bool y2, .int .i64 y3, .slice E4 y4.length f4, .int .i64 y5, .int .i64 y6, .slice E7 y7.length f7] 53)
          have hRb := Blk.made W0 53 #[.int .i64 y0, .int .i64 y1, .bool y2, .int .i64 y3, .slice E4 y4.length f4, .int .i64 y5, .int .i64 y6, .slice E7 y7.length f7]
          rw [hG] at hbk hRb
          have ss4 := Lib.hid (fun (u : World) (hu : Below G W0 u) => s4.belowB (w1 := u) (fun b o y hl h => pStop.belowB (hu.mono hgw) hl h))
          have ss7 := Lib.hid (fun (u : World) (hu : Below G W0 u) => s7.belowB (w1 := u) (fun b o y hl h => pTail.belowB (hu.mono hgw) hl h))
          clear s4 s7
          go_upto_region 12 with (fail)
          generalize hwb : W0.alloc (.cells #[.int .i64 y0, .int .i64 y1, .bool y2, .int .i64 y3, .slice E4 y4.length f4, .int .i64 y5, .int .i64 y6, .slice E7 y7.length f7] 53) = wb at *
          have hsb : wb.heap.size = G + 1 := by rw [← hwb]; simp [hG]
          clear hwb r0 r1 r2 r3 r4 r5 r6 r7
          have a4 := hRb.cell 4
          go_upto_region 13 with (at_builtin; refine wpList_copy flat_Stop rfl (.tmp 40) 50 rfl iStop_ (.agg #[.int .i64 0, .int .i64 0]) Try.underlying50 hjS hxS hyS hwS rfl (by decide) (ss4.out _ hbk) (by omega) rfl hcS (by decide) ?_; intro v4 u4 L4 hb4; obtain ⟨B4, d4, rfl, L4⟩ := L4.lvN; replace hRb := hRb.kept hb4; replace hbk := hbk.trans (hb4.mono (by omega)); have hs4 := hb4.size; have a4 := hRb.cell 4; have f4_ := hRb.free 4)
          clear a4 f4_ ss4
          replace L4 := L4.set_ (i := 4) (u := .slice B4 y4.length d4) keep_Stop hRb.ty (by decide)
          have hbk := hbk.setCell (p := ⟨G, 4, none⟩) (Nat.le_refl _) (.slice B4 y4.length d4)
          replace hRb := hRb.put_ 4 (.slice B4 y4.length d4)
          simp only [List.setIfInBounds_toArray, List.set_cons_zero, List.set_cons_succ] at hRb
          have hsu : G + 1 ≤ (u4.setCell ⟨G, 4, none⟩ (.slice B4 y4.length d4)).heap.size := by simp; omega
          generalize u4.setCell ⟨G, 4, none⟩ (.slice B4 y4.length d4) = u5 at *
          have a7 := hRb.cell 7
          go_wp2_with fail
          go_loopw [9, 46] (fun v i wr => ∃ j : Nat, j ≤ y7.length ∧ i = .int .i64 (j : Int) ∧ LO eTail 55 3 (G + 1) wr v (y7.take j) ∧ Below G W0 wr ∧ G + 1 ≤ wr.heap.size ∧ Blk wr G 53 #[.int .i64 y0, .int .i64 y1, .bool y2, .int .i64 y3, .slice B4 y4.length d4, .int .i64 y5, .int .i64 y6, .slice E7 y7.length f7] ∧ eL eStop 126 2 wr [.slice B4 y4.length d4] y4) (fun _ i _ => y7.length - (intOf i).toNat)
          case atStart => exact ⟨0, Nat.zero_le _, rfl, LO.nil _ _ _ _ _, hbk, hsu, hRb, L4⟩
          case round =>
            clear hbk hsu hRb L4 a7 hb4 hs4 hsb
            obtain ⟨j, hj, rfl, LE, hbk, hsu, hRb, L4⟩ := hrel
            have j0 : (0 : Int) ≤ (j : Int) := by omega
            by_cases hjl : j < y7.length
            · have jl : (j : Int) < (y7.length : Int) := by omega
              obtain ⟨b7, off7, rfl, hbl7, hall7⟩ := (ss7.out _ hbk) (by omega)
              have hel := hall7 j _ (List.getElem?_eq_getElem hjl)
              have hj1 := take_next hjl
              have hcV := (cnt_L (cnt_Tail (mT.out _ (List.getElem_mem hjl)))).1
              generalize y7[j] = v at *
              obtain ⟨v0, v1, v2⟩ := v
              replace hcV : v2.length ≤ 1048576 := hcV
              obtain ⟨r0, r1, ⟨E2, f2, r2, s2, _⟩⟩ := hel
              replace r0 : wr.cell? _ = some (.int .i64 v0) := r0
              clear hall7
              have hbq := m1 wr (.cells #[.int .i64 v0, .int .i64 v1, .slice E2 v2.length f2] 55)
              have hQb := Blk.made wr 55 #[.int .i64 v0, .int .i64 v1, .slice E2 v2.length f2]
              have hgq : base ≤ wr.heap.size := by omega
              replace s2 := s2.belowB (w1 := wr.alloc (.cells #[.int .i64 v0, .int .i64 v1, .slice E2 v2.length f2] 55)) (fun b o y hl h => pStop.belowB (hbq.mono hgq) hl h)
              go_upto_region 17 with (fail)
              generalize hwc : wr.alloc (.cells #[.int .i64 v0, .int .i64 v1, .slice E2 v2.length f2] 55) = wc at *
              have hsc : wc.heap.size = wr.heap.size + 1 := by rw [← hwc]; simp
              clear hwc r0 r1 r2
              have a2 := hQb.cell 2
              go_upto_region 18 with (at_builtin; refine wpList_copy flat_Stop rfl (.tmp 51) 50 rfl iStop_ (.agg #[.int .i64 0, .int .i64 0]) Try.underlying50 hjS hxS hyS hwS rfl (by decide) s2 (by omega) rfl hcV (by decide) ?_; intro v5 u6 L5 hb5; obtain ⟨B5, d5, rfl, L5⟩ := L5.lvN; replace hQb := hQb.kept hb5; replace hbq := mmore hbq hb5; have a2 := hQb.cell 2; have f2_ := hQb.free 2)
              clear a2 f2_ s2
              replace L5 := L5.set_ (i := 2) (u := .slice B5 v2.length d5) keep_Stop hQb.ty (by decide)
              replace hbq := hbq.setCell (p := ⟨wr.heap.size, 2, none⟩) (Nat.le_refl _) (.slice B5 v2.length d5)
              replace hQb := hQb.put_ 2 (.slice B5 v2.length d5)
              simp only [List.setIfInBounds_toArray, List.set_cons_zero, List.set_cons_succ] at hQb
              generalize u6.setCell ⟨wr.heap.size, 2, none⟩ (.slice B5 v2.length d5) = u7 at *
              replace LE := LE.later keep_Tail hbq
              replace L4 := L4.later keep_Stop hbq
              replace hRb := hRb.kept hbq
              replace hbk := hbk.trans (hbq.mono (by omega))
              have hs7 : G + 1 ≤ u7.heap.size := by have := hbq.size; omega
              have q0 := hQb.cell 0
              have q1 := hQb.cell 1
              have q2 := hQb.cell 2
              have hx : eTail u7 [.int .i64 v0, .int .i64 v1, .slice B5 v2.length d5] (v0, v1, v2) := ⟨[_], [_, _], rfl, rfl, [_], [_], rfl, rfl, L5⟩
              clear L5 hQb hbq
              go_wp2_with (at_builtin; (refine wpList_append_LO (tys := [126]) rfl (.tmp 54) (.tmp 56) 51 rfl iTail_ (.agg #[.int .i64 0, .int .i64 0, .slice none 0 0]) Try.underlying51 hjT hxT hyT hwT rfl (by decide) LE keep_Tail (by decide) hs7 (x := (v0, v1, v2)) hx rfl (by intro z hz; simp at hz; rcases hz with rfl | rfl | rfl <;> rfl) rfl rfl (by simp [World.setCell]) (by rw [List.length_take]; omega) (by decide) ?_; intro v8 u8 b8 LE8 hb8 hf8 ho8; replace hbk := below_rfr hbk hf8 (by omega) (by omega); have hs8 := hf8.size; replace hRb := hRb.keepR hf8 (by omega) (by omega); replace L4 := (keepE_L 126 2 keep_Stop) _ _ _ _ _ _ L4 hf8 ho8 ho8; clear LE hx q0 q1 q2))
              go_roundw
              case rel => exact ⟨j + 1, by omega, by go_num, by rw [hj1]; exact LE8, hbk, by omega, hRb, L4⟩
              case measure => simp [intOf]; omega
            · obtain rfl : j = y7.length := by omega
              rw [List.take_length] at LE
              obtain ⟨B7, d7, rfl, L7⟩ := LE.lvN
              clear LE hj j0 mT ss7
              have a7 := hRb.cell 7
              have f7_ := hRb.free 7
              have L4' := L4.set_ (i := 7) (u := .slice B7 y7.length d7) keep_Stop hRb.ty (by decide)
              have L7' := L7.set_ (i := 7) (u := .slice B7 y7.length d7) keep_Tail hRb.ty (by decide)
              have hbk' := hbk.setCell (p := ⟨G, 7, none⟩) (Nat.le_refl _) (.slice B7 y7.length d7)
              have hRb' := hRb.put_ 7 (.slice B7 y7.length d7)
              simp only [List.setIfInBounds_toArray, List.set_cons_zero, List.set_cons_succ] at hRb'
              have hsu' : G + 1 ≤ (wr.setCell ⟨G, 7, none⟩ (.slice B7 y7.length d7)).heap.size := by simp; omega
              clear L4 L7 hbk hRb hsu
              go_upto_region 21 with (fail)
              generalize wr.setCell ⟨G, 7, none⟩ (.slice B7 y7.length d7) = u9 at *
              clear a7 f7_
              have q0 := hRb'.cell 0
              have q1 := hRb'.cell 1
              have q2 := hRb'.cell 2
              have q3 := hRb'.cell 3
              have q4 := hRb'.cell 4
              have q5 := hRb'.cell 5
              have q6 := hRb'.cell 6
              have q7 := hRb'.cell 7
              have hx : eRow u9 [.int .i64 y0, .int .i64 y1, .bool y2, .int .i64 y3, .slice B4 y4.length d4, .int .i64 y5, .int .i64 y6, .slice B7 y7.length d7] ((y0, y1, y2, y3, y4), y5, y6, y7) := ⟨[_, _, _, _, _], [_, _, _], rfl, ⟨[_], [_, _, _, _], rfl, rfl, [_], [_, _, _], rfl, rfl, [_], [_, _], rfl, rfl, [_], [_], rfl, rfl, L4'⟩, [_], [_, _], rfl, rfl, [_], [_], rfl, rfl, L7'⟩
              subst hG
              replace T := T.later hbk'
              replace LK := LK.later keep_Row hbk'
              replace L1 := L1.later keepE_int hbk'
              replace L2 := L2.later keep_Ints hbk'
              have hs9 := T.size
              clear L4' L7' hbk' hRb'
              go_wp2_with (at_builtin; (refine wpList_append_LO (tys := [3, 22, 126, 55]) rfl (.tmp 61) (.tmp 63) 24 rfl iRow_ (.agg #[.int .i64 0, .int .i64 0, .bool false, .int .i64 0, .slice none 0 0, .int .i64 0, .int .i64 0, .slice none 0 0]) Try.underlying24 hjR hxR hyR hwR rfl (by decide) LK (keep_Row.more (by decide)) (by decide) hs9 (x := ((y0, y1, y2, y3, y4), y5, y6, y7)) hx rfl (by intro z hz; simp at hz; rcases hz with rfl | rfl | rfl | rfl | rfl | rfl | rfl | rfl <;> rfl) rfl rfl (by simp [World.setCell]) (by rw [List.length_take]; omega) (by decide) ?_; intro v3 u3 b3 LK3 hb3 hf3 ho3; replace T := T.keepR hf3 hb3; replace L1 := (keepE_L 3 1 keepE_int) _ _ _ _ _ _ L1 hf3 (ho3.sub (by decide)) (ho3.sub (by decide)); replace L2 := (keepE_L 22 1 keep_Ints) _ _ _ _ _ _ L2 hf3 (ho3.sub (by decide)) (ho3.sub (by decide)); clear LK hx q0 q1 q2 q3 q4 q5 q6 q7))
              go_roundw
              case rel => exact ⟨k + 1, by omega, by go_num, by rw [hk1]; exact LK3, T, L1, L2⟩
              case measure => simp [intOf]; omega
        · obtain rfl : k = l6.length := by omega
          rw [List.take_length] at LK
          obtain ⟨B6, d6, rfl, L6⟩ := LK.lvN
          clear LK hk k0 m6 qq6
          have a7 := T.b0.cell 7
          go_wp2_with fail
          go_loopw [12, 69] (fun v i wr => ∃ k : Nat, k ≤ l7.length ∧ i = .int .i64 (k : Int) ∧ LO eCode 47 5 (w.heap.size + 2) wr v (l7.take k) ∧ Tw2 w wr 27 #[.int .i64 x0, .slice B1 l1.length d1, .slice A2 l2.length c2, .int .i64 x3, .int .i64 x4, .int .i64 x5, .slice A6 l6.length c6, .slice A7 l7.length c7] #[.int .i64 0, .slice none 0 0, .slice none 0 0, .int .i64 0, .int .i64 0, .int .i64 0, .slice none 0 0, .slice none 0 0] ∧ eL eInt 3 1 wr [.slice B1 l1.length d1] l1 ∧ eL eInts 22 1 wr [.slice B2 l2.length d2] l2 ∧ eL eRow 53 8 wr [.slice B6 l6.length d6] l6) (fun _ i _ => l7.length - (intOf i).toNat)
          case atStart => exact ⟨0, Nat.zero_le _, rfl, LO.nil _ _ _ _ _, T, L1, L2, L6⟩
          case round =>
            clear T L1 L2 L6 a7
            obtain ⟨k, hk, rfl, LK, T, L1, L2, L6⟩ := hrel
            have k0 : (0 : Int) ≤ (k : Int) := by omega
            by_cases hlt : k < l7.length
            · have kl : (k : Int) < (l7.length : Int) := by omega
              obtain ⟨b, off, rfl, hbl, hall⟩ := (qq7.out _ T.fr) (by omega)
              obtain ⟨r0, r1, ⟨E2, f2, r2, s2, _⟩, ⟨E3, f3, r3, s3, _⟩, ⟨E4, f4, r4, s4, _⟩⟩ := hall k _ (List.getElem?_eq_getElem hlt)
              have hk1 := take_next hlt
              have hcl := m7.out _ (List.getElem_mem hlt)
              generalize l7[k] = y at *
              clear hall
              have hsT := T.size
              have hm := m1 wr (.cells #[.int .i64 y.1, .int .i64 y.2.1, .slice E2 y.2.2.1.length f2, .slice E3 y.2.2.2.1.length f3, .slice E4 y.2.2.2.2.length f4] 47)
              have CT := Lib.hid (fun (u : World) (hu : Below wr.heap.size wr u) => twinC_any y E2 f2 E3 f3 E4 f4 u base (by have := hu.size; omega) (s2.belowB (w1 := u) (fun b o y hl h => pInput.belowB (hu.mono (by omega)) hl h)) (s3.belowB (w1 := u) (fun b o y hl h => pValue.belowB (hu.mono (by omega)) hl h)) (s4.belowB (w1 := u) (fun b o y hl h => pIns.belowB (hu.mono (by omega)) hl h)) hcl)
              clear s2 s3 s4
              go_wp2_with fail
              refine (CT.out _ hm).mono ?_; rintro e u2 ⟨v0, v1, v2, v3, v4, rfl, hone, hE, hb2⟩
              replace hb2 := mmore hm hb2
              replace T := T.later hb2
              replace LK := LK.later keep_Code hb2
              replace L1 := L1.later keepE_int hb2
              replace L2 := L2.later keep_Ints hb2
              replace L6 := L6.later keep_Row hb2
              have hs2 := T.size
              clear CT hm r0 r1 r2 r3 r4
              go_wp2_with (at_builtin; (refine wpList_append_LO (tys := [3, 22, 53, 126, 55, 89, 106, 94]) rfl (.tmp 73) (.tmp 76) 25 rfl iCode_ (.agg #[.int .i64 0, .int .i64 0, .slice none 0 0, .slice none 0 0, .slice none 0 0]) Try.underlying25 hjC hxC hyC hwC rfl (by decide) LK (keep_Code.more (by decide)) (by decide) hs2 (x := y) hE rfl hone rfl rfl (by simp [World.setCell]) (by rw [List.length_take]; omega) (by decide) ?_; intro v3_ u3 b3 LK3 hb3 hf3 ho3; replace T := T.keepR hf3 hb3; replace L1 := (keepE_L 3 1 keepE_int) _ _ _ _ _ _ L1 hf3 (ho3.sub (by decide)) (ho3.sub (by decide)); replace L2 := (keepE_L 22 1 keep_Ints) _ _ _ _ _ _ L2 hf3 (ho3.sub (by decide)) (ho3.sub (by decide)); replace L6 := (keepE_L 53 8 keep_Row) _ _ _ _ _ _ L6 hf3 (ho3.sub (by decide)) (ho3.sub (by decide)); clear LK hE))
              go_roundw
              case rel => exact ⟨k + 1, by omega, by go_num, by rw [hk1]; exact LK3, T, L1, L2, L6⟩
              case measure => simp [intOf]; omega
            · obtain rfl : k = l7.length := by omega
              rw [List.take_length] at LK
              obtain ⟨B7, d7, rfl, L7⟩ := LK.lvN
              clear LK hk k0 m7 qq7
              have c2 := T.b0.cell 2
              have f2 := T.b0.free 2
              have c6 := T.b0.cell 6
              have f6 := T.b0.free 6
              have c7 := T.b0.cell 7
              have f7 := T.b0.free 7
              have T2 := ((T.set0 2 (.slice B2 l2.length d2)).set0 6 (.slice B6 l6.length d6)).set0 7 (.slice B7 l7.length d7)
              simp only [List.setIfInBounds_toArray, List.set_cons_zero, List.set_cons_succ] at T2
              have hr : RFr wr (((wr.setCell ⟨w.heap.size, 2, none⟩ (.slice B2 l2.length d2)).setCell ⟨w.heap.size, 6, none⟩ (.slice B6 l6.length d6)).setCell ⟨w.heap.size, 7, none⟩ (.slice B7 l7.length d7)) w.heap.size w.heap.size := ((RFr.of_set _ _ _ 2 _).trans (RFr.of_set _ _ _ 6 _)).trans (RFr.of_set _ _ _ 7 _)
              have tt := T.b0.ty
              replace L1 := (keepE_L 3 1 keepE_int) _ _ _ _ _ _ L1 hr (Off.of_ty tt (by decide)) (Off.of_ty tt (by decide))
              replace L2 := (keepE_L 22 1 keep_Ints) _ _ _ _ _ _ L2 hr (Off.of_ty tt (by decide)) (Off.of_ty tt (by decide))
              replace L6 := (keepE_L 53 8 keep_Row) _ _ _ _ _ _ L6 hr (Off.of_ty tt (by decide)) (Off.of_ty tt (by decide))
              replace L7 := (keepE_L 47 5 keep_Code) _ _ _ _ _ _ L7 hr (Off.of_ty tt (by decide)) (Off.of_ty tt (by decide))
              clear T tt hr
              go_upto_region 30 with (fail)
              generalize (((wr.setCell ⟨w.heap.size, 2, none⟩ (.slice B2 l2.length d2)).setCell ⟨w.heap.size, 6, none⟩ (.slice B6 l6.length d6)).setCell ⟨w.heap.size, 7, none⟩ (.slice B7 l7.length d7)) = y2 at *
              clear c2 c6 c7 f2 f6 f7
              have c0 := T2.b0.cell 0
              have c1 := T2.b0.cell 1
              have c2 := T2.b0.cell 2
              have c3 := T2.b0.cell 3
              have c4 := T2.b0.cell 4
              have c5 := T2.b0.cell 5
              have c6 := T2.b0.cell 6
              have c7 := T2.b0.cell 7
              have g0 := T2.b1.cell 0
              have f0 := T2.b1.free 0
              have g1 := T2.b1.cell 1
              have f1 := T2.b1.free 1
              have g2 := T2.b1.cell 2
              have f2 := T2.b1.free 2
              have g3 := T2.b1.cell 3
              have f3 := T2.b1.free 3
              have g4 := T2.b1.cell 4
              have f4 := T2.b1.free 4
              have g5 := T2.b1.cell 5
              have f5 := T2.b1.free 5
              have g6 := T2.b1.cell 6
              have f6 := T2.b1.free 6
              have g7 := T2.b1.cell 7
              have f7 := T2.b1.free 7
              have T3 := ((((((((T2.set1 0 (.int .i64 x0)).set1 1 (.slice B1 l1.length d1)).set1 2 (.slice B2 l2.length d2)).set1 3 (.int .i64 x3)).set1 4 (.int .i64 x4)).set1 5 (.int .i64 x5)).set1 6 (.slice B6 l6.length d6)).set1 7 (.slice B7 l7.length d7))
              simp only [List.setIfInBounds_toArray, List.set_cons_zero, List.set_cons_succ] at T3
              have hr : RFr y2 ((((((((y2.setCell ⟨w.heap.size + 1, 0, none⟩ (.int .i64 x0)).setCell ⟨w.heap.size + 1, 1, none⟩ (.slice B1 l1.length d1)).setCell ⟨w.heap.size + 1, 2, none⟩ (.slice B2 l2.length d2)).setCell ⟨w.heap.size + 1, 3, none⟩ (.int .i64 x3)).setCell ⟨w.heap.size + 1, 4, none⟩ (.int .i64 x4)).setCell ⟨w.heap.size + 1, 5, none⟩ (.int .i64 x5)).setCell ⟨w.heap.size + 1, 6, none⟩ (.slice B6 l6.length d6)).setCell ⟨w.heap.size + 1, 7, none⟩ (.slice B7 l7.length d7)) (w.heap.size + 1) (w.heap.size + 1) := ((((((((RFr.of_set _ _ _ 0 _).trans (RFr.of_set _ _ _ 1 _)).trans (RFr.of_set _ _ _ 2 _)).trans (RFr.of_set _ _ _ 3 _)).trans (RFr.of_set _ _ _ 4 _)).trans (RFr.of_set _ _ _ 5 _)).trans (RFr.of_set _ _ _ 6 _)).trans (RFr.of_set _ _ _ 7 _))
              have tt := T2.b1.ty
              replace L1 := (keepE_L 3 1 keepE_int) _ _ _ _ _ _ L1 hr (Off.of_ty tt (by decide)) (Off.of_ty tt (by decide))
              replace L2 := (keepE_L 22 1 keep_Ints) _ _ _ _ _ _ L2 hr (Off.of_ty tt (by decide)) (Off.of_ty tt (by decide))
              replace L6 := (keepE_L 53 8 keep_Row) _ _ _ _ _ _ L6 hr (Off.of_ty tt (by decide)) (Off.of_ty tt (by decide))
              replace L7 := (keepE_L 47 5 keep_Code) _ _ _ _ _ _ L7 hr (Off.of_ty tt (by decide)) (Off.of_ty tt (by decide))
              clear T2 tt hr
              go_wp2
              generalize ((((((((y2.setCell ⟨w.heap.size + 1, 0, none⟩ (.int .i64 x0)).setCell ⟨w.heap.size + 1, 1, none⟩ (.slice B1 l1.length d1)).setCell ⟨w.heap.size + 1, 2, none⟩ (.slice B2 l2.length d2)).setCell ⟨w.heap.size + 1, 3, none⟩ (.int .i64 x3)).setCell ⟨w.heap.size + 1, 4, none⟩ (.int .i64 x4)).setCell ⟨w.heap.size + 1, 5, none⟩ (.int .i64 x5)).setCell ⟨w.heap.size + 1, 6, none⟩ (.slice B6 l6.length d6)).setCell ⟨w.heap.size + 1, 7, none⟩ (.slice B7 l7.length d7)) = y3 at *
              have t0 : y3.cell? ⟨w.heap.size + 1, 0, none⟩ = some (.int .i64 x0) := T3.b1.cell 0
              have t1 : y3.cell? ⟨w.heap.size + 1, 1, none⟩ = some (.slice B1 l1.length d1) := T3.b1.cell 1
              have t2 : y3.cell? ⟨w.heap.size + 1, 2, none⟩ = some (.slice B2 l2.length d2) := T3.b1.cell 2
              have t3 : y3.cell? ⟨w.heap.size + 1, 3, none⟩ = some (.int .i64 x3) := T3.b1.cell 3
              have t4 : y3.cell? ⟨w.heap.size + 1, 4, none⟩ = some (.int .i64 x4) := T3.b1.cell 4
              have t5 : y3.cell? ⟨w.heap.size + 1, 5, none⟩ = some (.int .i64 x5) := T3.b1.cell 5
              have t6 : y3.cell? ⟨w.heap.size + 1, 6, none⟩ = some (.slice B6 l6.length d6) := T3.b1.cell 6
              have t7 : y3.cell? ⟨w.heap.size + 1, 7, none⟩ = some (.slice B7 l7.length d7) := T3.b1.cell 7
              refine bodyPost_ret (v := .agg #[.int .i64 x0, .slice B1 l1.length d1, .slice B2 l2.length d2, .int .i64 x3, .int .i64 x4, .int .i64 x5, .slice B6 l6.length d6, .slice B7 l7.length d7]) (by simp [results, Try.results9, go_sem, t0, t1, t2, t3, t4, t5, t6, t7]) rfl ?_
              exact hfin.out y3 B1 d1 B2 d2 B6 d6 B7 d7 T3.fr L1 L2 L6 L7
end Go.Proofs.Ytlfhgmoafgjdcaa
namespace Go.Proofs.Ytlfhgmoafgjdcaa
open Go.ChangeShapes Go.WideShapes Go.ChangeAt Go.RowKit
set_option linter.unusedVariables false
set_option linter.unusedSimpArgs false
theorem encL_le' : ∀ L : List Itm, (∀ i ∈ L, wfI i) → (encL L).length ≤ 10 * L.length
  | [], _ => by simp [encL]
  | i :: r, h => by
    have h1 := encI_le (h i (by simp))
    have h2 := encL_le' r (fun j hj => h j (by simp [hj]))
    rw [encL_cons, List.length_append, List.length_cons]
    omega
/-- counts that are at most as many as there are items -/
def CntOk (L : List Itm) : Prop := ∀ n, Itm.c n ∈ L → n ≤ L.length
theorem CntOk.app {a b : List Itm} (ha : CntOk a) (hb : CntOk b) : CntOk (a ++ b) := fun n hn => by
  rw [List.length_append]
  rcases List.mem_append.1 hn with h | h
  · have := ha n h; omega
  · have := hb n h; omega
theorem CntOk.nil : CntOk [] := fun n hn => by cases hn
theorem CntOk.one (i : Itm) (h : ∀ n, i ≠ .c n) : CntOk [i] := fun n hn => by simp at hn; exact absurd hn.symm (h n)
theorem flat_ge {X : Type} {f : X → List Itm} (hf : ∀ x, 1 ≤ (f x).length) : ∀ xs : List X, xs.length ≤ (xs.flatMap f).length
  | [] => Nat.le_refl _
  | x :: r => by have := hf x; have := flat_ge hf r; rw [List.flatMap_cons, List.length_append, List.length_cons]; omega
theorem flat_part {X : Type} {f : X → List Itm} : ∀ (xs : List X) (x : X), x ∈ xs → (f x).length ≤ (xs.flatMap f).length
  | [], x, h => by cases h
  | y :: r, x, h => by
    rw [List.flatMap_cons, List.length_append]
    rcases List.mem_cons.1 h with rfl | h
    · omega
    · have := flat_part (f := f) r x h; omega
theorem CntOk.l {X : Type} {f : X → List Itm} (hf : ∀ x, 1 ≤ (f x).length) (hc : ∀ x, CntOk (f x)) (xs : List X) : CntOk (itL f xs) := fun n hn => by
  have h1 := flat_ge hf xs
  have h2 : (itL f xs).length = (xs.flatMap f).length + 1 := rfl
  unfold itL at hn
  rcases List.mem_cons.1 hn with h | h
  · injection h with h
    omega
  · obtain ⟨x, hx, hy⟩ := List.mem_flatMap.1 h
    have := hc x n hy
    have := flat_part (f := f) xs x hx
    omega
theorem cok_Int : ∀ x, CntOk (iInt x) := fun x => CntOk.one _ (fun n h => by cases h)
theorem cok_Ints : ∀ x, CntOk (iInts x) := fun x => CntOk.l (fun _ => Nat.le_refl _) cok_Int x
theorem cok_n (z : Int) : CntOk [Itm.n z] := CntOk.one _ (fun n h => by cases h)
theorem cok_t (y : Bool) : CntOk [Itm.t y] := CntOk.one _ (fun n h => by cases h)
theorem cok_b (y : Nat) : CntOk [Itm.b y] := CntOk.one _ (fun n h => by cases h)
theorem cok_Stop : ∀ x, CntOk (iStop x) := fun x => (cok_n _).app ((cok_n _).app CntOk.nil)
theorem len_app1 {a : Itm} {L : List Itm} : 1 ≤ ([a] ++ L).length := by simp
theorem cok_Tail : ∀ x, CntOk (iTail x) := fun x => (cok_n _).app ((cok_n _).app ((CntOk.l (fun _ => len_app1) cok_Stop _).app CntOk.nil))
theorem cok_Row : ∀ x, CntOk (iRow x) := fun x => (cok_n _).app ((cok_n _).app ((cok_t _).app ((cok_n _).app ((CntOk.l (fun _ => len_app1) cok_Stop _).app ((cok_n _).app ((cok_n _).app ((CntOk.l (fun _ => len_app1) cok_Tail _).app CntOk.nil)))))))
theorem cok_Input : ∀ x, CntOk (iInput x) := fun x => (cok_n _).app ((cok_n _).app ((cok_n _).app ((cok_n _).app CntOk.nil)))
theorem cok_Value : ∀ x, CntOk (iValue x) := fun x => (cok_n _).app ((cok_b _).app CntOk.nil)
theorem cok_Ins : ∀ x, CntOk (iIns x) := fun x => (cok_n _).app ((cok_n _).app ((cok_n _).app ((cok_n _).app CntOk.nil)))
theorem cok_Code : ∀ x, CntOk (iCode x) := fun x => (cok_n _).app ((cok_n _).app ((CntOk.l (fun _ => len_app1) cok_Input _).app ((CntOk.l (fun _ => len_app1) cok_Value _).app ((CntOk.l (fun _ => len_app1) cok_Ins _).app CntOk.nil))))
theorem cok_Table : ∀ x, CntOk (iTable x) := fun x => (cok_n _).app ((CntOk.l (fun _ => Nat.le_refl _) cok_Int _).app ((CntOk.l (fun l => by simp [iInts, itL]) cok_Ints _).app ((cok_n _).app ((cok_n _).app ((cok_n _).app ((CntOk.l (fun _ => len_app1) cok_Row _).app ((CntOk.l (fun _ => len_app1) cok_Code _).app CntOk.nil)))))))
/-- a table of no more items than a bulk may have -/
theorem small_cnt {x : TTable} (h : (iTable x).length ≤ 1048576) : ∀ n, Itm.c n ∈ iTable x → n ≤ 1048576 := fun n hn => Nat.le_trans (cok_Table x n hn) h
theorem small_ok {x : TTable} (h : (iTable x).length ≤ 1048576) (hw : ∀ i ∈ iTable x, wfI i) : TabOk x := ⟨small_cnt h, hw, by have := encL_le' _ hw; omega⟩
theorem small_len {x : TTable} (h : (iTable x).length ≤ 1048576) (hw : ∀ i ∈ iTable x, wfI i) : LenOk ausp (iTable x) := by
  have := encL_le' _ hw
  unfold LenOk
  rw [List.length_append, show ausp.length = 4 from rfl]
  omega
theorem small_lens {x : TTable} (h : (iTable x).length ≤ 1048576) : x.1.2.1.length ≤ 1048576 ∧ x.1.2.2.1.length ≤ 1048576 ∧ x.2.1.length ≤ 1048576 ∧ x.2.2.length ≤ 1048576 := by
  have hc := small_cnt h
  exact ⟨hc _ (by simp [iTable, itL]), hc _ (by simp [iTable, itL]), hc _ (by simp [iTable, itL]), hc _ (by simp [iTable, itL])⟩
/-- what was written is read as it was -/
theorem decP_enc {x : TTable} (hv : ∀ i ∈ iTable x, wfI i) (ho : (iTable x).all okI = true) (hlen : (ausp ++ encL (iTable x)).length + 4 ≤ 65536) : decP (ausp ++ encL (iTable x) ++ le4 (sumL (ausp ++ encL (iTable x)))) = (0, some x) := by
  have h4 : ∀ s, (le4 s).length = 4 := fun _ => rfl
  have ha : ausp.length = 4 := rfl
  have e1 : (ausp ++ encL (iTable x) ++ le4 (sumL (ausp ++ encL (iTable x)))).length = (ausp ++ encL (iTable x)).length + 4 := by rw [List.length_append, h4]
  have e2 : (ausp ++ encL (iTable x)).length = (encL (iTable x)).length + 4 := by rw [List.length_append, ha]; omega
  have hbody : bodyL (ausp ++ encL (iTable x) ++ le4 (sumL (ausp ++ encL (iTable x)))) = encL (iTable x) := by
    unfold bodyL
    rw [e1, Nat.add_sub_cancel, List.take_left' rfl, show (4 : Nat) = ausp.length from rfl, List.drop_left]
  have g2 := gv_Table.gv x [] hv ho
  rw [List.append_nil] at g2
  unfold decP
  rw [if_neg (by omega), if_neg (by omega), if_pos (by rw [List.append_assoc, show (4 : Nat) = ausp.length from rfl, List.take_left]), e1, Nat.add_sub_cancel, List.drop_left' rfl, List.take_left' rfl, if_pos rfl, hbody, g2]
  rfl
/-- the bytes that are answered -/
def encY (x : TTable) : List Nat := (encP x).2.getD []
theorem enc_lies {x : TTable} {w w' : World} {e : Ending} (h : EncIs x w e w') : ∃ A c, e = .returned (.tuple #[.slice A (encY x).length c, .int .i64 (encP x).1]) ∧ Below w.heap.size w w' ∧ Bys w' A (encY x) ∧ (encY x).length ≤ c := by
  obtain ⟨hb, v, rfl, hm⟩ := h
  unfold encY
  cases hk : (encP x).2 with
  | none =>
    rw [hk] at hm
    subst hm
    exact ⟨none, 0, rfl, hb, Bys.nil _ _, Nat.le_refl _⟩
  | some l =>
    rw [hk] at hm
    obtain ⟨A, c, rfl, hO⟩ := hm
    obtain ⟨A', c', he, h1, _⟩ := bslice_of hO
    injection he with _ _ h3
    subst h3
    exact ⟨A, c, rfl, hb, (Bys.of_own hO).2, h1⟩
theorem encY_byt (x : TTable) : Byt (encY x) ∧ (encY x).length ≤ 65536 ∧ (Lit.int .i64 (encP x).1).wf = true := by
  unfold encY
  rcases encP_cases x with ⟨k, hk, _, h⟩ | ⟨hk, _, hl⟩
  · rw [hk]; exact ⟨(fun z hz => by cases hz), Nat.zero_le _, h⟩
  · rw [hk]
    refine ⟨fun z hz => ?_, ?_, (rfl : (Lit.int .i64 0).wf = true)⟩
    · rcases List.mem_append.1 hz with h | h
      · rcases List.mem_append.1 h with h | h
        · simp [ausp] at h; omega
        · exact encL_byt _ z h
      · exact le4_byt _ z h
    · show (ausp ++ encL (iTable x) ++ le4 _).length ≤ _
      rw [List.length_append, show (le4 (sumL (ausp ++ encL (iTable x)))).length = 4 from rfl]
      exact hl
end Go.Proofs.Ytlfhgmoafgjdcaa
namespace Go.Proofs.Ytlfhgmoafgjdcaa
open Go.ChangeShapes Go.WideShapes Go.ChangeAt Go.RowKit
set_option linter.unusedVariables false
set_option linter.unusedSimpArgs false
set_option maxHeartbeats 16000000 in
set_option maxRecDepth 1000000 in
theorem iencodes_any (x : TTable) (z0 : Int) (A1 : Option Addr) (n1 c1 : Nat) (A2 : Option Addr) (n2 c2 : Nat) (z3 z4 z5 : Int) (A6 : Option Addr) (n6 c6 : Nat) (A7 : Option Addr) (n7 c7 : Nat) (w : World)
    (hT : TabIn w z0 A1 n1 c1 A2 n2 c2 z3 z4 z5 A6 n6 c6 A7 n7 c7 x) (hR : TabRaw w.heap.size w z0 A1 n1 A2 n2 z3 z4 z5 A6 n6 A7 n7 x) (hk : (iTable x).length ≤ 1048576) :
    Calls Try.prog 3 #[.agg #[.int .i64 z0, .slice A1 n1 c1, .slice A2 n2 c2, .int .i64 z3, .int .i64 z4, .int .i64 z5, .slice A6 n6 c6, .slice A7 n7 c7]] w fun e w' => e = .returned (.bool true) ∧ Below w.heap.size w w' := by
  have AW := Lib.hid (fun w => awake21 w)
  have MA := Lib.hid (fun u hu => many_any x z0 A1 n1 c1 A2 n2 c2 z3 z4 z5 A6 n6 c6 A7 n7 c7 u (hT.1 u hu))
  have RN := Lib.hid (fun u hu => rencode_any x z0 A1 n1 c1 A2 n2 c2 z3 z4 z5 A6 n6 c6 A7 n7 c7 u (hT.1 u hu) hT.2 (small_len hk hT.2))
  have TN := Lib.hid (fun (u : World) (hu : Below w.heap.size w u) => twinT_any x z0 A1 n1 c1 A2 n2 c2 z3 z4 z5 A6 n6 c6 A7 n7 c7 w.heap.size u hu.size (hR.later hu (Nat.le_refl _)) (small_cnt hk))
  have hTX := Lib.hid (small_ok hk hT.2)
  have hlies := Lib.hid hT.1
  have hwf := hT.2
  obtain ⟨e1, e2, e6, e7⟩ := hR.len
  obtain ⟨s1, s2, s6, s7⟩ := small_lens hk
  rw [e1] at s1
  rw [e2] at s2
  rw [e6] at s6
  rw [e7] at s7
  have hlen : n1 ≤ 9223372036854775807 ∧ n2 ≤ 9223372036854775807 ∧ n6 ≤ 9223372036854775807 ∧ n7 ≤ 9223372036854775807 := by omega
  replace hlen := Lib.hid hlen
  obtain ⟨hby, hl65, hwk⟩ := encY_byt x
  have hdec : (encP x).1 = 0 → decP (encY x) = (0, some x) := fun h0 => by
    unfold encY
    rcases encP_cases x with ⟨k, hk, hne, _⟩ | ⟨hk, ho, hl⟩
    · rw [hk] at h0; exact absurd h0 hne
    · rw [hk]; exact decP_enc hwf ho hl
  replace hdec := Lib.hid hdec
  replace hwf := Lib.hid hwf
  clear hT hR e1 e2 e6 e7 s1 s2 s6 s7 hk
  have hm1 := Lib.hid (m1 w (.cells #[.int .i64 z0, .slice A1 n1 c1, .slice A2 n2 c2, .int .i64 z3, .int .i64 z4, .int .i64 z5, .slice A6 n6 c6, .slice A7 n7 c7] 27))
  have hblk := Lib.hid (Blk.made w 27 #[.int .i64 z0, .slice A1 n1 c1, .slice A2 n2 c2, .int .i64 z3, .int .i64 z4, .int .i64 z5, .slice A6 n6 c6, .slice A7 n7 c7])
  go_enter Try.func3, Try.ntmps3
  go_wp2_with fail
  refine (MA.out _ hm1.out).mono ?_; rintro e w1 ⟨⟨q, rfl⟩, hb1⟩
  have hB1 := Lib.hid (mmore hm1.out hb1)
  have hblk1 := Lib.hid (hblk.out.kept hb1)
  clear hblk hm1 hb1 MA
  have t0 : w1.cell? ⟨w.heap.size, 0, none⟩ = some (.int .i64 z0) := hblk1.out.cell 0
  have t1 : w1.cell? ⟨w.heap.size, 1, none⟩ = some (.slice A1 n1 c1) := hblk1.out.cell 1
  have t2 : w1.cell? ⟨w.heap.size, 2, none⟩ = some (.slice A2 n2 c2) := hblk1.out.cell 2
  have t3 : w1.cell? ⟨w.heap.size, 3, none⟩ = some (.int .i64 z3) := hblk1.out.cell 3
  have t4 : w1.cell? ⟨w.heap.size, 4, none⟩ = some (.int .i64 z4) := hblk1.out.cell 4
  have t5 : w1.cell? ⟨w.heap.size, 5, none⟩ = some (.int .i64 z5) := hblk1.out.cell 5
  have t6 : w1.cell? ⟨w.heap.size, 6, none⟩ = some (.slice A6 n6 c6) := hblk1.out.cell 6
  have t7 : w1.cell? ⟨w.heap.size, 7, none⟩ = some (.slice A7 n7 c7) := hblk1.out.cell 7
  cases q with
  | true =>
    go_wp2_with fail
    refine (AW.out _).mono ?_; rintro e w3 ⟨rfl, hb3⟩
    replace hb3 := Lib.hid (mmore hB1.out hb3)
    go_wp2
    go_ret
    exact ⟨rfl, hb3.out⟩
  | false =>
    go_wp2_with fail
    refine (TN.out _ hB1.out).mono ?_; rintro e w2 ⟨B1, d1, B2, d2, B6, d6, B7, d7, rfl, hraw, hb2⟩
    have hlies2 := Lib.hid (fun u (hu : Below w2.heap.size w2 u) => hraw.tab (Nat.le_refl _) hlen.out d1 d2 d6 d7 u hu)
    clear hraw hlen TN t0 t1 t2 t3 t4 t5 t6 t7
    have hma := Lib.hid (m1 w2 (.cells #[.int .i64 z0, .slice B1 n1 d1, .slice B2 n2 d2, .int .i64 z3, .int .i64 z4, .int .i64 z5, .slice B6 n6 d6, .slice B7 n7 d7] 27))
    have hblk2 := Lib.hid (Blk.made w2 27 #[.int .i64 z0, .slice B1 n1 d1, .slice B2 n2 d2, .int .i64 z3, .int .i64 z4, .int .i64 z5, .slice B6 n6 d6, .slice B7 n7 d7])
    have hB2 := Lib.hid (mmore hB1.out (mmore hb2 hma.out))
    replace hblk1 := Lib.hid (hblk1.out.kept (mmore hb2 hma.out))
    clear hb2 hB1
    have EN := Lib.hid (fun u (hu : Below w2.heap.size w2 u) => encode_any x z0 B1 n1 d1 B2 n2 d2 z3 z4 z5 B6 n6 d6 B7 n7 d7 u (hlies2.out u hu) hwf.out)
    go_wp2_with fail
    refine (EN.out _ hma.out).mono ?_; rintro e w3 hE
    obtain ⟨C1, f1, rfl, hb3, hy3, hcap3⟩ := enc_lies hE
    clear hE EN
    replace hB2 := Lib.hid (mmore hB2.out hb3)
    replace hma := Lib.hid (mmore hma.out hb3)
    replace hblk1 := Lib.hid (hblk1.out.kept hb3)
    replace hblk2 := Lib.hid (hblk2.out.kept hb3)
    replace hy3 := Lib.hid hy3
    clear hb3
    have t0 : w3.cell? ⟨w.heap.size, 0, none⟩ = some (.int .i64 z0) := hblk1.out.cell 0
    have t1 : w3.cell? ⟨w.heap.size, 1, none⟩ = some (.slice A1 n1 c1) := hblk1.out.cell 1
    have t2 : w3.cell? ⟨w.heap.size, 2, none⟩ = some (.slice A2 n2 c2) := hblk1.out.cell 2
    have t3 : w3.cell? ⟨w.heap.size, 3, none⟩ = some (.int .i64 z3) := hblk1.out.cell 3
    have t4 : w3.cell? ⟨w.heap.size, 4, none⟩ = some (.int .i64 z4) := hblk1.out.cell 4
    have t5 : w3.cell? ⟨w.heap.size, 5, none⟩ = some (.int .i64 z5) := hblk1.out.cell 5
    have t6 : w3.cell? ⟨w.heap.size, 6, none⟩ = some (.slice A6 n6 c6) := hblk1.out.cell 6
    have t7 : w3.cell? ⟨w.heap.size, 7, none⟩ = some (.slice A7 n7 c7) := hblk1.out.cell 7
    go_wp2_with fail
    refine (RN.out _ hB2.out).mono ?_; rintro e w4 hE
    obtain ⟨C2, f2, rfl, hb4, hy4, _⟩ := enc_lies hE
    clear hE RN t0 t1 t2 t3 t4 t5 t6 t7
    replace hB2 := Lib.hid (mmore hB2.out hb4)
    replace hma := Lib.hid (mmore hma.out hb4)
    replace hblk1 := Lib.hid (hblk1.out.kept hb4)
    replace hblk2 := Lib.hid (hblk2.out.kept hb4)
    replace hy3 := Lib.hid (hy3.out.later hb4)
    replace hy4 := Lib.hid hy4
    clear hb4
    go_wp2_with fail
    refine (AW.out _).mono ?_; rintro e w5 ⟨rfl, hb5⟩
    replace hB2 := Lib.hid (mmore hB2.out hb5)
    replace hma := Lib.hid (mmore hma.out hb5)
    replace hblk1 := Lib.hid (hblk1.out.kept hb5)
    replace hblk2 := Lib.hid (hblk2.out.kept hb5)
    replace hy3 := Lib.hid (hy3.out.later hb5)
    replace hy4 := Lib.hid (hy4.out.later hb5)
    clear hb5
    have t0 : w5.cell? ⟨w.heap.size, 0, none⟩ = some (.int .i64 z0) := hblk1.out.cell 0
    have t1 : w5.cell? ⟨w.heap.size, 1, none⟩ = some (.slice A1 n1 c1) := hblk1.out.cell 1
    have t2 : w5.cell? ⟨w.heap.size, 2, none⟩ = some (.slice A2 n2 c2) := hblk1.out.cell 2
    have t3 : w5.cell? ⟨w.heap.size, 3, none⟩ = some (.int .i64 z3) := hblk1.out.cell 3
    have t4 : w5.cell? ⟨w.heap.size, 4, none⟩ = some (.int .i64 z4) := hblk1.out.cell 4
    have t5 : w5.cell? ⟨w.heap.size, 5, none⟩ = some (.int .i64 z5) := hblk1.out.cell 5
    have t6 : w5.cell? ⟨w.heap.size, 6, none⟩ = some (.slice A6 n6 c6) := hblk1.out.cell 6
    have t7 : w5.cell? ⟨w.heap.size, 7, none⟩ = some (.slice A7 n7 c7) := hblk1.out.cell 7
    have b0 : w5.cell? ⟨w2.heap.size, 0, none⟩ = some (.int .i64 z0) := hblk2.out.cell 0
    have b1 : w5.cell? ⟨w2.heap.size, 1, none⟩ = some (.slice B1 n1 d1) := hblk2.out.cell 1
    have b2 : w5.cell? ⟨w2.heap.size, 2, none⟩ = some (.slice B2 n2 d2) := hblk2.out.cell 2
    have b3 : w5.cell? ⟨w2.heap.size, 3, none⟩ = some (.int .i64 z3) := hblk2.out.cell 3
    have b4 : w5.cell? ⟨w2.heap.size, 4, none⟩ = some (.int .i64 z4) := hblk2.out.cell 4
    have b5 : w5.cell? ⟨w2.heap.size, 5, none⟩ = some (.int .i64 z5) := hblk2.out.cell 5
    have b6 : w5.cell? ⟨w2.heap.size, 6, none⟩ = some (.slice B6 n6 d6) := hblk2.out.cell 6
    have b7 : w5.cell? ⟨w2.heap.size, 7, none⟩ = some (.slice B7 n7 d7) := hblk2.out.cell 7
    have cvA := conv_str (n := (encY x).length) (c := f1) rfl hy3.out
    have cvB := conv_str (n := (encY x).length) (c := f2) rfl hy4.out
    have CS := Lib.hid (rsame_yes x hTX.out z0 B1 n1 d1 B2 n2 d2 z3 z4 z5 B6 n6 d6 B7 n7 d7 z0 A1 n1 c1 A2 n2 c2 z3 z4 z5 A6 n6 c6 A7 n7 c7 w5 (fun u hu => hlies2.out u (mmore hma.out hu)) (fun u hu => hlies.out u (mmore hB2.out hu)))
    have hss : (strOf (encY x)).size ≤ 65536 := by rw [strOf_size]; exact hl65
    generalize hsE : strOf (encY x) = sE at *
    go_wp2_with fail
    refine CS.out.mono ?_; rintro e w6 ⟨rfl, hb6⟩
    clear CS cvA cvB b0 b1 b2 b3 b4 b5 b6 b7 t0 t1 t2 t3 t4 t5 t6 t7 hblk2 hlies2 hma hy4
    replace hB2 := Lib.hid (mmore hB2.out hb6)
    replace hblk1 := Lib.hid (hblk1.out.kept hb6)
    replace hy3 := Lib.hid (hy3.out.later hb6)
    clear hb6
    by_cases h0 : (encP x).1 = 0
    · rw [h0]
      go_wp2_with fail
      refine (decode_any C1 (encY x) f1 _ hby hy3.out hcap3 (by omega)).mono ?_; rintro e w7 hD
      obtain ⟨hb7, tv, rfl, hm⟩ := hD
      rw [hdec.out h0] at hm ⊢
      obtain ⟨vs, _, hE, rfl⟩ := hm
      obtain ⟨y0, D1, m1_, g1, D2, m2_, g2, y3, y4, y5, D6, m6, g6, D7, m7, g7, rfl⟩ := eTable_form hE
      have hm7 := m1 w7 (.cells #[.int .i64 y0, .slice D1 m1_ g1, .slice D2 m2_ g2, .int .i64 y3, .int .i64 y4, .int .i64 y5, .slice D6 m6 g6, .slice D7 m7 g7] 27)
      have hX2 := Blk.made w7 27 #[.int .i64 y0, .slice D1 m1_ g1, .slice D2 m2_ g2, .int .i64 y3, .int .i64 y4, .int .i64 y5, .slice D6 m6 g6, .slice D7 m7 g7]
      replace hB2 := Lib.hid (mmore hB2.out (mmore hb7 hm7))
      replace hblk1 := Lib.hid (hblk1.out.kept (mmore hb7 hm7))
      have t0 := hblk1.out.cell 0
      have t1 := hblk1.out.cell 1
      have t2 := hblk1.out.cell 2
      have t3 := hblk1.out.cell 3
      have t4 := hblk1.out.cell 4
      have t5 := hblk1.out.cell 5
      have t6 := hblk1.out.cell 6
      have t7 := hblk1.out.cell 7
      have b0 := hX2.cell 0
      have b1 := hX2.cell 1
      have b2 := hX2.cell 2
      have b3 := hX2.cell 3
      have b4 := hX2.cell 4
      have b5 := hX2.cell 5
      have b6 := hX2.cell 6
      have b7 := hX2.cell 7
      have CS := Lib.hid (rsame_yes x hTX.out y0 D1 m1_ g1 D2 m2_ g2 y3 y4 y5 D6 m6 g6 D7 m7 g7 z0 A1 n1 c1 A2 n2 c2 z3 z4 z5 A6 n6 c6 A7 n7 c7 _ (fun u hu => lies_againU hE (mmore hm7 hu) hTX.out.ok) (fun u hu => hlies.out u (mmore hB2.out hu)))
      clear hE hX2 hb7 hm7
      go_wp2_with fail
      refine CS.out.mono ?_; rintro e w8 ⟨rfl, hb8⟩
      replace hB2 := Lib.hid (mmore hB2.out hb8)
      clear CS hb8 t0 t1 t2 t3 t4 t5 t6 t7 b0 b1 b2 b3 b4 b5 b6 b7
      go_wp2
      all_goals first
        | (exfalso; omega)
        | (go_ret; exact ⟨by simp, hB2.out⟩)
    · generalize (encP x).1 = k0 at *
      go_wp2
      all_goals first
        | (exfalso; omega)
        | (go_ret; exact ⟨by simp, hB2.out⟩)
end Go.Proofs.Ytlfhgmoafgjdcaa
