/- The document's reader of images: what is so of any part that is read, and of lists that grow. -/
import Derived.Test.YtcchbbnlcilanaaDcA
import Derived.Test.YtcchbbnlcilanaaImS
import Derived.Test.YtcchbbnlcilanaaImT
namespace Go.Proofs.Ytcchbbnlcilanaa
open Go.ChangeShapes Go.WideShapes Go.ChangeAt Go.RowKit
set_option linter.unusedVariables false
set_option linter.unusedSimpArgs false
/-- x was read, or something was wrong before or now -/
def SR {X : Type} (rd : Rd X) (ok : Bool) (l : List Nat) (x : X) (l' : List Nat) (ok' : Bool) : Prop := (ok = false → ok' = false) ∧ (ok = true → match rd l with | some (x0, r) => x = x0 ∧ l' = r ∧ ok' = true | none => ok' = false)
theorem SR.p {X Y : Type} {p : Rd X} {q : Rd Y} {ok ok1 ok2 : Bool} {l l1 l2 : List Nat} {x : X} {y : Y} (h1 : SR p ok l x l1 ok1) (h2 : SR q ok1 l1 y l2 ok2) : SR (rd2 Prod.mk p q) ok l (x, y) l2 ok2 := by
  refine ⟨fun h => h2.1 (h1.1 h), fun h => ?_⟩
  have k1 := h1.2 h
  unfold rd2
  cases hp : p l with
  | none =>
    rw [hp] at k1
    exact h2.1 k1
  | some a =>
    obtain ⟨x0, r⟩ := a
    rw [hp] at k1
    obtain ⟨rfl, rfl, rfl⟩ := k1
    have k2 := h2.2 rfl
    simp only [Option.bind_some]
    cases hq : q l1 with
    | none => rw [hq] at k2; exact k2
    | some b =>
      obtain ⟨y0, r2⟩ := b
      rw [hq] at k2
      obtain ⟨rfl, rfl, rfl⟩ := k2
      exact ⟨rfl, rfl, rfl⟩
theorem SR.list {X : Type} {rd : Rd X} {ok ok1 ok2 : Bool} {l l1 l2 : List Nat} {N : Nat} {xs : List X} (h1 : SR rdC ok l N l1 ok1) (h2 : SR (rdK rd N) ok1 l1 xs l2 ok2) : SR (rdL rd) ok l xs l2 ok2 := by
  refine ⟨fun h => h2.1 (h1.1 h), fun h => ?_⟩
  have k1 := h1.2 h
  unfold rdL
  cases hp : rdC l with
  | none =>
    rw [hp] at k1
    exact h2.1 k1
  | some a =>
    obtain ⟨x0, r⟩ := a
    rw [hp] at k1
    obtain ⟨rfl, rfl, rfl⟩ := k1
    have k2 := h2.2 rfl
    simp only [Option.bind_some]
    cases hq : rdK rd N l1 with
    | none => rw [hq] at k2; exact k2
    | some b =>
      obtain ⟨y0, r2⟩ := b
      rw [hq] at k2
      obtain ⟨rfl, rfl, rfl⟩ := k2
      exact ⟨rfl, rfl, rfl⟩
theorem SR.t {ok ok1 : Bool} {l l1 : List Nat} {z : Int} (h : SR rdN ok l z l1 ok1) : SR rdT ok l (z == 1) l1 (ok1 && decide (0 ≤ z) && decide (z ≤ 1)) := by
  refine ⟨fun hk => by rw [h.1 hk]; rfl, fun hk => ?_⟩
  have k1 := h.2 hk
  unfold rdN rdI at k1
  unfold rdT rdI
  cases hf : firstW l with
  | none =>
    rw [hf] at k1
    simp only [Option.bind_none] at k1
    simp [k1]
  | some a =>
    rw [hf] at k1
    simp only [Option.bind_some] at k1 ⊢
    by_cases h1 : zag a.1 < -1 ∨ 1152921504606846976 < zag a.1
    · rw [if_pos h1] at k1
      simp only at k1
      rw [if_pos (by omega)]
      simp [k1]
    · rw [if_neg h1] at k1
      obtain ⟨rfl, rfl, rfl⟩ := k1
      by_cases h2 : zag a.1 < 0 ∨ 1 < zag a.1
      · rw [if_pos h2]
        simp
        omega
      · rw [if_neg h2]
        simp
        omega
/-- what is so of a list's loop -/
def StR {X : Type} (ok okk : Bool) (rd : Rd X) (N : Nat) (l0 : List Nat) (j : Nat) (xs : List X) (lk : List Nat) : Prop := (ok = false → okk = false) ∧ (ok = true → if okk then LRel rd N l0 j xs lk else rdK rd N l0 = none)
theorem StR.start {X : Type} (ok : Bool) (rd : Rd X) (N : Nat) (l0 : List Nat) : StR ok ok rd N l0 0 [] l0 := ⟨id, fun h => by rw [if_pos h]; exact LRel.start rd N l0⟩
theorem StR.next {X : Type} {ok okk ok' : Bool} {rd : Rd X} {N : Nat} {l0 lk l' : List Nat} {j : Nat} {xs : List X} {x : X} (h : StR ok okk rd N l0 j xs lk) (hj : j < N) (hs : SR rd okk lk x l' ok') : StR ok ok' rd N l0 (j + 1) (xs ++ [x]) l' := by
  refine ⟨fun hk => hs.1 (h.1 hk), fun hk => ?_⟩
  have k1 := h.2 hk
  cases okk with
  | false =>
    rw [hs.1 rfl]
    simpa using k1
  | true =>
    rw [if_pos rfl] at k1
    have k2 := hs.2 rfl
    cases hr : rd lk with
    | none =>
      rw [hr] at k2
      rw [k2]
      exact k1.stop hj hr
    | some a =>
      obtain ⟨x0, r⟩ := a
      rw [hr] at k2
      obtain ⟨rfl, rfl, rfl⟩ := k2
      exact k1.next hj hr
theorem StR.done {X : Type} {ok okk : Bool} {rd : Rd X} {N : Nat} {l0 lk : List Nat} {j : Nat} {xs : List X} (h : StR ok okk rd N l0 j xs lk) (hj : okk = true → j = N) : SR (rdK rd N) ok l0 xs lk okk := by
  refine ⟨h.1, fun hk => ?_⟩
  have k1 := h.2 hk
  cases okk with
  | false => rw [show rdK rd N l0 = none by simpa using k1]
  | true =>
    rw [if_pos rfl] at k1
    obtain rfl := hj rfl
    rw [k1.done]
    exact ⟨rfl, rfl, rfl⟩

/-- a list of the call's own that grows -/
def LO {X : Type} (E : World → List Value → X → Prop) (T : TypeId) (size base : Nat) (w : World) (v : Value) (xs : List X) : Prop := ∃ vss, vss.length = xs.length ∧ Els E size w vss xs ∧ w.ownsRow base T size v xs.length vss.flatten
theorem LO.nil {X : Type} (E : World → List Value → X → Prop) (T : TypeId) (size base : Nat) (w : World) : LO E T size base w (.slice none 0 0) [] := ⟨[], rfl, fun i vs x h => by simp at h, World.ownsRow_nil _ _ _ _⟩
theorem own_keepR {w w' : World} {base size n x y : Nat} {e : TypeId} {v : Value} {xs : List Value} (h : w.ownsRow base e size v n xs) (hf : RFr w w' x y) (hx : x < base) (hy : y < base) : w'.ownsRow base e size v n xs := by
  refine ⟨h.1, ?_⟩
  rcases h.2 with k | ⟨g, cap, cur, k1, k2, k3, k4⟩
  · exact .inl k
  · exact .inr ⟨g, cap, cur, k1, k2, (hf.block g (Blk.lt (t := e) k3) (by omega) (by omega)).trans k3, k4⟩
theorem LO.keep {X : Type} {E : World → List Value → X → Prop} {tys : List TypeId} {T : TypeId} {size base x y : Nat} {w w' : World} {v : Value} {xs : List X} (h : LO E T size base w v xs) (hE : KeepE tys E) (hf : RFr w w' x y) (hx : x < base) (hy : y < base) (ox : Off tys w x) (oy : Off tys w y) : LO E T size base w' v xs := by
  obtain ⟨vss, h1, h2, h3⟩ := h
  exact ⟨vss, h1, h2.keep hE hf ox oy, own_keepR h3 hf hx hy⟩
theorem off_fresh (tys : List TypeId) (w : World) {b : Nat} (h : w.heap.size ≤ b) : Off tys w b := fun T _ k => absurd k.lt (by omega)
theorem LO.later {X : Type} {E : World → List Value → X → Prop} {tys : List TypeId} {T : TypeId} {size base : Nat} {w w' : World} {v : Value} {xs : List X} (h : LO E T size base w v xs) (hE : KeepE tys E) (hb : Below w.heap.size w w') : LO E T size base w' v xs := by
  obtain ⟨vss, h1, h2, h3⟩ := h
  exact ⟨vss, h1, h2.keep hE (RFr.of_below hb w.heap.size w.heap.size) (off_fresh _ _ (Nat.le_refl _)) (off_fresh _ _ (Nat.le_refl _)), mown_below h3 hb⟩
/-- the frame of an append -/
theorem own_frame {w w' : World} {base size n : Nat} {e : TypeId} {v : Value} {xs : List Value} (tys : List TypeId) (h : w.ownsRow base e size v n xs) (hbs : base ≤ w.heap.size) (hg : w.grownBy w' v.ownBlock) (he : e ∉ tys) : ∃ b, base ≤ b ∧ RFr w w' b b ∧ Off tys w b := by
  rcases h.2 with ⟨rfl, _⟩ | ⟨g, cap, cur, rfl, k2, k3, _⟩
  · exact ⟨w.heap.size, hbs, ⟨hg.os, hg.tape, hg.output, hg.size, fun k hk _ _ => hg.block k hk (fun e => by cases e)⟩, off_fresh _ _ (Nat.le_refl _)⟩
  · exact ⟨g, k2, RFr.of_grown hg g, Off.of_ty (T := e) ⟨cur, k3⟩ he⟩
theorem LO.grow {X : Type} {E : World → List Value → X → Prop} {tys : List TypeId} {T : TypeId} {size base : Nat} {w w' : World} {v' : Value} {xs : List X} {x : X} {zs : List Value} (vss : List (List Value)) (h1 : vss.length = xs.length) (h2 : Els E size w vss xs) (hE : KeepE tys E) {b : Nat} (hf : RFr w w' b b) (ho : Off tys w b)
    (hx : E w zs x) (hz : zs.length = size) (hown : w'.ownsRow base T size v' (xs.length + 1) (vss.flatten ++ zs)) : LO E T size base w' v' (xs ++ [x]) := by
  refine ⟨vss ++ [zs], by simp [h1], ?_, by simpa using hown⟩
  have h3 := h2.keep hE hf ho ho
  have hx' := hE _ _ _ _ _ _ hx hf ho ho
  intro i us z a c
  by_cases hi : i < xs.length
  · rw [List.getElem?_append_left (by omega)] at a
    rw [List.getElem?_append_left hi] at c
    exact h3 i us z a c
  · rw [List.getElem?_append_right (by omega)] at a
    rw [List.getElem?_append_right (by omega)] at c
    have h0 : i - xs.length = 0 := by
      have := (List.getElem?_eq_some_iff.1 c).1
      simp at this
      omega
    rw [h1, h0] at a
    rw [h0] at c
    simp at a c
    subst a c
    exact ⟨hx', hz⟩
theorem LO.lv {X : Type} {E : World → List Value → X → Prop} {T : TypeId} {size base : Nat} {w : World} {v : Value} {xs : List X} (h : LO E T size base w v xs) : eL E T size w [v] xs := by
  obtain ⟨vss, h1, h2, h3⟩ := h
  refine ⟨v, rfl, ?_⟩
  rcases h3.2 with ⟨rfl, h0⟩ | ⟨g, cap, cur, rfl, k1, k2, k3, k4, k5, k6⟩
  · exact ⟨none, 0, vss, by rw [h0], h1, h2, fun hl => by omega⟩
  · exact ⟨_, cap, vss, rfl, h1, h2, fun _ => ⟨g, cur, rfl, k2, by rw [← k6]; exact List.take_prefix _ _⟩⟩
theorem LO.form {X : Type} {E : World → List Value → X → Prop} {T : TypeId} {size base : Nat} {w : World} {v : Value} {xs : List X} (h : LO E T size base w v xs) : ∃ A n c, v = .slice A n c := by
  obtain ⟨vss, _, _, h3⟩ := h
  obtain ⟨A, c, h, _⟩ := bslice_of h3
  exact ⟨A, _, c, h⟩
theorem LO.keep_set {X : Type} {E : World → List Value → X → Prop} {tys : List TypeId} {T TX : TypeId} {size base b i : Nat} {w : World} {v u : Value} {xs : List X} (h : LO E T size base w v xs) (hE : KeepE tys E) (ho : Off tys w b) (ht : TyB w b TX) (hne : TX ≠ T) : LO E T size base (w.setCell ⟨b, i, none⟩ u) v xs := by
  obtain ⟨vss, h1, h2, h3⟩ := h
  refine ⟨vss, h1, h2.keep hE (RFr.of_set w b b i u) ho ho, h3.1, ?_⟩
  rcases h3.2 with k | ⟨g, cap, cur, k1, k2, k3, k4⟩
  · exact .inl k
  · have hgb : g ≠ b := TyB.ne ⟨cur, k3⟩ ht (fun e => hne e.symm)
    exact .inr ⟨g, cap, cur, k1, k2, ((RFr.of_set w b b i u).block g (Blk.lt (t := T) k3) hgb hgb).trans k3, k4⟩
theorem eL_form {X : Type} {E : World → List Value → X → Prop} {T : TypeId} {size : Nat} {w : World} {v : Value} {xs : List X} (h : eL E T size w [v] xs) : ∃ A n c, v = .slice A n c := by
  obtain ⟨_, h1, A, c, vss, rfl, _⟩ := h
  simp at h1
  exact ⟨A, _, c, h1⟩
/-- the literal of one element -/
theorem reads_one (w : World) (T : TypeId) (size : Nat) (zs : List Value) (hz : zs.length = size) (n : Nat) (hn : n = 1) : Reads (w.alloc (.cells zs.toArray T)) (w.heap.size + 1) size (some ⟨w.heap.size, 0, none⟩) n zs := by
  subst hn
  refine ⟨by rw [hz, Nat.one_mul], fun _ => ⟨_, rfl, by simp, fun j u hu => ?_⟩⟩
  have hadd : (⟨w.heap.size, 0, none⟩ : Addr).add j = ⟨w.heap.size, j, none⟩ := by unfold Addr.add; split <;> simp_all
  rw [hadd, (Blk.made w T zs.toArray).cell]
  simpa using hu

/-- one more, put on to a list of the call's own -/
theorem wpList_append_LO {X : Type} {E : World → List Value → X → Prop} {tys : List TypeId} {T : TypeId} {size bytes base : Nat} {ops : Array Oper} {rest : List Oper} {o : Oper} {a : Act} {Q : Exit → Act → World → Prop} {w2 : World} {zs : List Value} {v : Value} {xs : List X} {x : X}
    (hgd : o.guard = none) (s xo : Operand) (t : TypeId) (ho : o.op = .call { callee := .builtin .append, args := #[s, xo], argTypes := #[t, t] })
    (i : TypeInfo) (z : Value) (ht : Try.prog.underlying t = some (.slice T)) (hi : Try.prog.info? T = some i) (hz : i.zero = some z) (hsize : i.size = size) (hby : i.bytes = bytes) (hzs : z.cells.size = size) (hsz : 0 < size)
    (hL : LO E T size base w2 v xs) (hE : KeepE tys E) (hT : T ∉ tys) (hbs : base ≤ w2.heap.size) (hx : E w2 zs x) (hzl : zs.length = size) (hone : ∀ u ∈ zs, u.oneCell' = true)
    (hs : a.eval s = v) {gq : Nat} (hxo : a.eval xo = .slice (some ⟨gq, 0, none⟩) 1 1) (hgq : gq = w2.heap.size) (h63 : xs.length + 1 ≤ 1100) (hb : bytes ≤ 1000)
    (K : ∀ v' w' b, LO E T size base w' v' (xs ++ [x]) → base ≤ b → RFr w2 w' b b → Off tys w2 b → wpList Try.prog ops Q rest (a.put o.dst v') w') :
    wpList Try.prog ops Q (o :: rest) a (w2.alloc (.cells zs.toArray T)) := by
  subst hgq
  obtain ⟨vss, q1, q2, q3⟩ := hL
  have hm := m1 w2 (.cells zs.toArray T)
  have q2' := q2.keep hE (RFr.of_below hm w2.heap.size w2.heap.size) (off_fresh _ _ (Nat.le_refl _)) (off_fresh _ _ (Nat.le_refl _))
  have hx' := hE _ _ _ _ _ _ hx (RFr.of_below hm w2.heap.size w2.heap.size) (off_fresh _ _ (Nat.le_refl _)) (off_fresh _ _ (Nat.le_refl _))
  have q3' := mown_below q3 hm
  have hbs' : base ≤ (w2.alloc (.cells zs.toArray T)).heap.size := Nat.le_trans hbs hm.size
  refine wpList_append_any _ hgd s xo t ho base T i z size bytes ht hi hz hsize hby hzs hsz v xs.length vss.flatten hs q3' (w2.heap.size + 1) (some ⟨w2.heap.size, 0, none⟩) 1 1 zs hxo (reads_one w2 T size zs hzl 1 rfl) hone (by unfold maxLen; omega) ?_ hbs' fun v' w' h1 h2 _ => ?_
  · have := Nat.mul_le_mul (show xs.length + 1 ≤ 1100 from h63) hb
    omega
  · obtain ⟨b, hb1, hb2, hb3⟩ := own_frame tys q3' hbs' h2 hT
    refine K v' w' b (LO.grow vss q1 q2' hE hb2 hb3 hx' hzl h1) hb1 ((RFr.of_below hm b b).trans hb2) fun T' hT' hty => hb3 T' hT' ?_
    obtain ⟨cs, hcs⟩ := hty
    exact ⟨cs, (hm.block b (Blk.lt (t := T') hcs)).trans hcs⟩
/-- the same inside a drawn region -/
theorem step_append_LO {X : Type} {E : World → List Value → X → Prop} {tys : List TypeId} {T : TypeId} {size bytes base : Nat} {ops : Array Oper} {o : Oper} {a : Act} {KK : Act → World → Prop} {Q : Exit → Act → World → Prop} {EE : Prop} {w2 : World} {zs : List Value} {v : Value} {xs : List X} {x : X}
    (hgd : o.guard = none) (s xo : Operand) (t : TypeId) (ho : o.op = .call { callee := .builtin .append, args := #[s, xo], argTypes := #[t, t] })
    (i : TypeInfo) (z : Value) (ht : Try.prog.underlying t = some (.slice T)) (hi : Try.prog.info? T = some i) (hz : i.zero = some z) (hsize : i.size = size) (hby : i.bytes = bytes) (hzs : z.cells.size = size) (hsz : 0 < size)
    (hL : LO E T size base w2 v xs) (hE : KeepE tys E) (hT : T ∉ tys) (hbs : base ≤ w2.heap.size) (hx : E w2 zs x) (hzl : zs.length = size) (hone : ∀ u ∈ zs, u.oneCell' = true)
    (hs : a.eval s = v) {gq : Nat} (hxo : a.eval xo = .slice (some ⟨gq, 0, none⟩) 1 1) (hgq : gq = w2.heap.size) (h63 : xs.length + 1 ≤ 1100) (hb : bytes ≤ 1000)
    (K : ∀ v' w' b, LO E T size base w' v' (xs ++ [x]) → base ≤ b → RFr w2 w' b b → Off tys w2 b → KK (a.put o.dst v') w') :
    if Region.wanted o (yielded ops a.tmps) = true then Oper.wp Try.prog o a (w2.alloc (.cells zs.toArray T)) KK Q else EE := by
  subst hgq
  obtain ⟨vss, q1, q2, q3⟩ := hL
  have hm := m1 w2 (.cells zs.toArray T)
  have q2' := q2.keep hE (RFr.of_below hm w2.heap.size w2.heap.size) (off_fresh _ _ (Nat.le_refl _)) (off_fresh _ _ (Nat.le_refl _))
  have hx' := hE _ _ _ _ _ _ hx (RFr.of_below hm w2.heap.size w2.heap.size) (off_fresh _ _ (Nat.le_refl _)) (off_fresh _ _ (Nat.le_refl _))
  have q3' := mown_below q3 hm
  have hbs' : base ≤ (w2.alloc (.cells zs.toArray T)).heap.size := Nat.le_trans hbs hm.size
  refine step_append_any _ hgd s xo t ho base T i z size bytes ht hi hz hsize hby hzs hsz v xs.length vss.flatten hs q3' (w2.heap.size + 1) (some ⟨w2.heap.size, 0, none⟩) 1 1 zs hxo (reads_one w2 T size zs hzl 1 rfl) hone (by unfold maxLen; omega) ?_ hbs' fun v' w' h1 h2 _ => ?_
  · have := Nat.mul_le_mul (show xs.length + 1 ≤ 1100 from h63) hb
    omega
  · obtain ⟨b, hb1, hb2, hb3⟩ := own_frame tys q3' hbs' h2 hT
    refine K v' w' b (LO.grow vss q1 q2' hE hb2 hb3 hx' hzl h1) hb1 ((RFr.of_below hm b b).trans hb2) fun T' hT' hty => hb3 T' hT' ?_
    obtain ⟨cs, hcs⟩ := hty
    exact ⟨cs, (hm.block b (Blk.lt (t := T') hcs)).trans hcs⟩
/-- how a part that is read ends -/
def InE {X : Type} (lo g : Nat) (E : World → Value → X → Prop) (rd : Rd X) (l : List Nat) (ok : Bool) (w : World) (e : Ending) (w' : World) : Prop := RFr w w' g g ∧ ∃ v x l' ok', e = .returned v ∧ E w' v x ∧ InS w' lo g l' ok' ∧ SR rd ok l x l' ok'
theorem innum_s (lo g : Nat) (l : List Nat) (ok : Bool) (w : World) (h : InS w lo g l ok) : Calls Try.prog 30 #[.pointer (some ⟨g, 0, none⟩)] w fun e w' => RFr w w' g g ∧ ∃ z l' ok', e = .returned (.int .i64 z) ∧ (-1 ≤ z ∧ z ≤ 1152921504606846976) ∧ InS w' lo g l' ok' ∧ SR rdN ok l z l' ok' := by
  refine (innum_any lo g l ok w h).mono ?_
  rintro e w' ⟨hg, hm⟩
  refine ⟨RFr.of_grown hg g, ?_⟩
  cases hf : rdN l with
  | none =>
    rw [hf] at hm
    obtain ⟨rfl, l', hS⟩ := hm
    exact ⟨0, l', false, rfl, by omega, hS, fun _ => rfl, fun _ => by rw [hf]⟩
  | some a =>
    obtain ⟨z, r⟩ := a
    rw [hf] at hm
    obtain ⟨rfl, hS⟩ := hm
    exact ⟨z, r, ok, rfl, rdN_in hf, hS, fun h => h, fun h => by rw [hf]; exact ⟨rfl, rfl, h⟩⟩
theorem incount_s (lo g : Nat) (l : List Nat) (ok : Bool) (w : World) (h : InS w lo g l ok) : Calls Try.prog 32 #[.pointer (some ⟨g, 0, none⟩)] w fun e w' => RFr w w' g g ∧ ∃ (N : Nat) (l' : List Nat) (ok' : Bool), e = .returned (.int .i64 (N : Int)) ∧ N ≤ 1024 ∧ InS w' lo g l' ok' ∧ SR rdC ok l N l' ok' := by
  refine (incount_any lo g l ok w h).mono ?_
  rintro e w' ⟨hg, hm⟩
  refine ⟨RFr.of_grown hg g, ?_⟩
  cases hf : rdC l with
  | none =>
    rw [hf] at hm
    obtain ⟨rfl, l', hS⟩ := hm
    exact ⟨0, l', false, rfl, by omega, hS, fun _ => rfl, fun _ => by rw [hf]⟩
  | some a =>
    obtain ⟨z, r⟩ := a
    rw [hf] at hm
    obtain ⟨rfl, hS⟩ := hm
    exact ⟨z, r, ok, rfl, (rdC_back h.1 hf).2, hS, fun h => h, fun h => by rw [hf]; exact ⟨rfl, rfl, h⟩⟩
theorem inuint_s (lo g : Nat) (l : List Nat) (ok : Bool) (w : World) (h : InS w lo g l ok) : Calls Try.prog 45 #[.pointer (some ⟨g, 0, none⟩)] w fun e w' => RFr w w' g g ∧ ∃ (n : Nat) (l' : List Nat) (ok' : Bool), e = .returned (.int .u64 (n : Int)) ∧ n < 18446744073709551616 ∧ InS w' lo g l' ok' ∧ SR rdB ok l n l' ok' := by
  refine (inuint_any lo g l ok w h).mono ?_
  rintro e w' ⟨hg, hm⟩
  refine ⟨RFr.of_grown hg g, ?_⟩
  cases hf : firstW l with
  | none =>
    rw [hf] at hm
    obtain ⟨rfl, hS⟩ := hm
    exact ⟨0, [], false, rfl, by omega, hS, fun _ => rfl, fun _ => by unfold rdB; rw [hf]; rfl⟩
  | some a =>
    obtain ⟨n, k⟩ := a
    rw [hf] at hm
    obtain ⟨rfl, hS⟩ := hm
    exact ⟨n, l.drop k, ok, rfl, (first_back h.1 hf).2.2.2.2, hS, fun h => h, fun h => by unfold rdB; rw [hf]; exact ⟨rfl, rfl, h⟩⟩
theorem InS.off {w : World} {lo g : Nat} {l : List Nat} {ok : Bool} (h : InS w lo g l ok) (tys : List TypeId) (ht : 81 ∉ tys) : Off tys w g := Off.of_ty h.ty ht
theorem InS.okc {w : World} {lo g : Nat} {l : List Nat} {ok : Bool} (h : InS w lo g l ok) : w.cell? ⟨g, 1, none⟩ = some (.bool ok) ∧ w.frozen? ⟨g, 1, none⟩ = false := by
  obtain ⟨_, _, _, A, c, h4, _⟩ := h
  exact ⟨by rw [h4.cell]; rfl, h4.free 1⟩
/-- a block that is being filled, of memory of the call's own -/
structure St (lo g : Nat) (w0 w : World) (l : List Nat) (ok : Bool) (X : Nat) (T : TypeId) (cs : Array Value) : Prop where
  fr : RFr w0 w g g
  rd : InS w lo g l ok
  blk : Blk w X T cs
  lt0 : g < w0.heap.size
  new : w0.heap.size ≤ X
theorem St.made {lo g : Nat} {w0 u : World} {l : List Nat} {ok : Bool} (hf : RFr w0 u g g) (hS : InS u lo g l ok) (h0 : g < w0.heap.size) (T : TypeId) (cs : Array Value) : St lo g w0 (u.alloc (.cells cs T)) l ok u.heap.size T cs :=
  ⟨hf.trans (RFr.of_below (m1 u _) g g), hS.later (m1 u _), Blk.made u T cs, h0, hf.size⟩
theorem St.call {lo g : Nat} {w0 w u : World} {l l' : List Nat} {ok ok' : Bool} {X : Nat} {T : TypeId} {cs : Array Value} (h : St lo g w0 w l ok X T cs) (hf : RFr w u g g) (hS : InS u lo g l' ok') : St lo g w0 u l' ok' X T cs :=
  ⟨h.fr.trans hf, hS, h.blk.keepR hf (by have := h.lt0; have := h.new; omega) (by have := h.lt0; have := h.new; omega), h.lt0, h.new⟩
theorem St.drew {lo g : Nat} {w0 w : World} {l : List Nat} {ok : Bool} {X : Nat} {T : TypeId} {cs : Array Value} (h : St lo g w0 w l ok X T cs) : St lo g w0 w.drew l ok X T cs :=
  h.call (RFr.of_below (Below.refl w.heap.size w).drew g g) (h.rd.later (Below.refl w.heap.size w).drew)
theorem St.set_ {lo g : Nat} {w0 w : World} {l : List Nat} {ok : Bool} {X : Nat} {T : TypeId} {cs : Array Value} (h : St lo g w0 w l ok X T cs) (i : Nat) (v : Value) : St lo g w0 (w.setCell ⟨X, i, none⟩ v) l ok X T (cs.setIfInBounds i v) := by
  have h1 := h.lt0
  have h2 := h.new
  have h3 := h.rd.lt
  exact ⟨h.fr.newer' (RFr.of_set w X X i v) (.inl h2) (.inl h2), h.rd.keep (RFr.of_set w X X i v) (by omega) (by omega) (by omega) (by omega), h.blk.put_ i v, h1, h2⟩
theorem St.cell {lo g : Nat} {w0 w : World} {l : List Nat} {ok : Bool} {X : Nat} {T : TypeId} {cs : Array Value} (h : St lo g w0 w l ok X T cs) (i : Nat) {v : Value} (hv : cs[i]? = some v) : w.cell? ⟨X, i, none⟩ = some v := by rw [h.blk.cell, hv]
theorem St.free {lo g : Nat} {w0 w : World} {l : List Nat} {ok : Bool} {X : Nat} {T : TypeId} {cs : Array Value} (h : St lo g w0 w l ok X T cs) (i : Nat) : w.frozen? ⟨X, i, none⟩ = false := h.blk.free i
end Go.Proofs.Ytcchbbnlcilanaa
