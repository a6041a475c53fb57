/- LkF, Inv, InvG -/
import Derived.Test.YtfjnphiegoogoaaZ07
import Derived.Orders
import Derived.Deep.Draws
import Derived.Below
import Derived.ChangeShapes
import Derived.Test.YtfjnphiegoogoaaZ00
/- LkF -/
namespace Go.Proofs.Ytfjnphiegoogoaa
open Go.ChangeShapes Go.WideShapes Go.ChangeAt Go.RowKit Go.Fl
set_option linter.unusedVariables false
set_option linter.unusedSimpArgs false

/-- a node lies at an address -/
def NodeC (w : World) (b o : Nat) (op vk : Int) (vb : Nat) (pos attr : Int) : Prop :=
  w.cell? ⟨b, o, none⟩ = some (.int .i64 op) ∧ w.cell? ⟨b, o + 3, none⟩ = some (.int .i64 vk) ∧ w.cell? ⟨b, o + 4, none⟩ = some (.int .u64 (vb : Int)) ∧ w.cell? ⟨b, o + 5, none⟩ = some (.int .i64 pos) ∧ w.cell? ⟨b, o + 6, none⟩ = some (.int .i64 attr)
theorem NodeC.later {w w1 : World} {b o : Nat} {op vk : Int} {vb : Nat} {pos attr : Int} (h : NodeC w b o op vk vb pos attr) (hb : Below w.heap.size w w1) : NodeC w1 b o op vk vb pos attr :=
  ⟨cell_later hb h.1, cell_later hb h.2.1, cell_later hb h.2.2.1, cell_later hb h.2.2.2.1, cell_later hb h.2.2.2.2⟩

def aggP (op : Int) (vs : List (Int × Nat)) : Int × Nat :=
  if op = 27 then lastP vs else if op = 28 then sumP vs else if op = 29 then extP false vs else if op = 30 then extP true vs else if op = 31 then meanP vs else headP vs
def leafP (op vk : Int) (vb : Nat) (pos attr : Int) (es : List Ev) (bs : List (List Int)) (cur : Int) : Int × Nat :=
  if op = 40 then (clK vk vb, clB vk vb) else if op = 41 then attrP es cur attr else if op = 25 then (1, nU ((placesP bs pos).length : Int)) else
  if placesP bs pos = [] then (0, 0) else aggP op (attrsP es bs pos attr)

/-- the memory of a leaf that is asked -/
def LfJ (w : World) (E B : Option Addr) (ne ce nb cb : Nat) (cur : Int) (b o : Nat) (op vk : Int) (vb : Nat) (pos attr : Int) (wr : World) : Prop :=
  Blk wr w.heap.size 34 #[.slice E ne ce, .slice B nb cb, .int .i64 cur] ∧ Blk wr (w.heap.size + 1) 25 #[.int .i64 0, .int .u64 0] ∧ NodeC wr b o op vk vb pos attr ∧ Below w.heap.size w wr
section
variable {w wr w1 : World} {E B : Option Addr} {ne ce nb cb : Nat} {cur : Int} {b o : Nat} {op vk : Int} {vb : Nat} {pos attr : Int}
theorem LfJ.later (h : LfJ w E B ne ce nb cb cur b o op vk vb pos attr wr) (hb : Below wr.heap.size wr w1) : LfJ w E B ne ce nb cb cur b o op vk vb pos attr w1 :=
  ⟨h.1.kept hb, h.2.1.kept hb, h.2.2.1.later hb, mmore h.2.2.2 hb⟩
theorem LfJ.drew (h : LfJ w E B ne ce nb cb cur b o op vk vb pos attr wr) : LfJ w E B ne ce nb cb cur b o op vk vb pos attr wr.drew := ⟨h.1, h.2.1, h.2.2.1, h.2.2.2.drew⟩
theorem LfJ.facts (h : LfJ w E B ne ce nb cb cur b o op vk vb pos attr wr) :
    wr.cell? ⟨w.heap.size, 0, none⟩ = some (.slice E ne ce) ∧ wr.cell? ⟨w.heap.size, 1, none⟩ = some (.slice B nb cb) ∧ wr.cell? ⟨w.heap.size, 2, none⟩ = some (.int .i64 cur) ∧
    wr.cell? ⟨b, o, none⟩ = some (.int .i64 op) ∧ wr.cell? ⟨b, o + 3, none⟩ = some (.int .i64 vk) ∧ wr.cell? ⟨b, o + 4, none⟩ = some (.int .u64 (vb : Int)) ∧ wr.cell? ⟨b, o + 5, none⟩ = some (.int .i64 pos) ∧ wr.cell? ⟨b, o + 6, none⟩ = some (.int .i64 attr) ∧
    wr.cell? ⟨w.heap.size + 1, 0, none⟩ = some (.int .i64 0) ∧ wr.cell? ⟨w.heap.size + 1, 1, none⟩ = some (.int .u64 0) ∧ wr.frozen? ⟨w.heap.size + 1, 0, none⟩ = false ∧ wr.frozen? ⟨w.heap.size + 1, 1, none⟩ = false :=
  ⟨h.1.cell 0, h.1.cell 1, h.1.cell 2, h.2.2.1.1, h.2.2.1.2.1, h.2.2.1.2.2.1, h.2.2.1.2.2.2.1, h.2.2.1.2.2.2.2, h.2.1.cell 0, h.2.1.cell 1, h.2.1.free 0, h.2.1.free 1⟩
theorem LfJ.start (hn : NodeC w b o op vk vb pos attr) : LfJ w E B ne ce nb cb cur b o op vk vb pos attr ((w.alloc (lookO E B ne ce nb cb cur)).alloc (.cells #[.int .i64 0, .int .u64 0] 25)) :=
  ⟨(Blk.made w _ _).kept (m1 _ _), by have := Blk.made (w.alloc (lookO E B ne ce nb cb cur)) 25 #[.int .i64 0, .int .u64 0]; simpa using this, hn.later (m2 _ _ _), m2 _ _ _⟩
theorem LfJ.below (h : LfJ w E B ne ce nb cb cur b o op vk vb pos attr wr) (x y : Value) : Below w.heap.size w ((wr.setCell ⟨w.heap.size + 1, 0, none⟩ x).setCell ⟨w.heap.size + 1, 1, none⟩ y) :=
  (h.2.2.2.setCell (by show w.heap.size ≤ w.heap.size + 1; omega) _).setCell (by show w.heap.size ≤ w.heap.size + 1; omega) _
/-- the memory of a look -/
def LookIn (w : World) (E B : Option Addr) (es : List Ev) (bs : List (List Int)) : Prop :=
  EvsAt w E es ∧ KindsAt w B bs ∧ es.length ≤ 9223372036854775807 ∧ (∀ e ∈ es, e.2.2.length ≤ 9223372036854775807) ∧ bs.length ≤ 9223372036854775807 ∧ ∀ l ∈ bs, l.length * 16 ≤ 281474976710656
theorem LookIn.later {es : List Ev} {bs : List (List Int)} (h : LookIn w E B es bs) (hb : Below w.heap.size w w1) : LookIn w1 E B es bs := ⟨h.1.later hb, h.2.1.later hb, h.2.2⟩
end
theorem places_le {w : World} {E B : Option Addr} {es : List Ev} {bs : List (List Int)} (h : LookIn w E B es bs) (pos : Int) : (placesP bs pos).length * 16 ≤ 281474976710656 := by
  unfold placesP
  split
  · simp
  · cases hx : bs[pos.toNat]? with
    | none => simp
    | some l => exact h.2.2.2.2.2 l (List.mem_of_getElem? hx)

set_option maxHeartbeats 4000000 in
set_option maxRecDepth 100000 in
theorem leaf_const (E B : Option Addr) (ne ce nb cb : Nat) (cur : Int) (b o : Nat) (vk : Int) (vb : Nat) (pos attr : Int) (w : World) (hn : NodeC w b o 40 vk vb pos attr) (hvb : vb < 18446744073709551616) :
    Calls Try.prog 54 #[lookV E B ne ce nb cb cur, .pointer (some ⟨b, o, none⟩)] w (VIs (clK vk vb, clB vk vb) w) := by
  have J := LfJ.start (E := E) (B := B) (ne := ne) (ce := ce) (nb := nb) (cb := cb) (cur := cur) hn
  obtain ⟨j0, j1, j2, j3, j4, j5, j6, j7, j8, j9, j10, j11⟩ := J.facts
  have O := Lib.hid (fun w => clean_any vk vb w hvb)
  generalize clK vk vb = k at *
  generalize clB vk vb = c at *
  replace J := Lib.hid J
  clear hn j0 j1 j2 j8 j9 j10 j11
  go_enter Try.func54, Try.ntmps54
  go_wp2_with fail
  refine (O.out _).mono ?_; rintro e w1 ⟨rfl, hb1⟩
  have J1 := J.out.later hb1
  obtain ⟨l0, l1, l2, l3, l4, l5, l6, l7, l8, l9, l10, l11⟩ := J1.facts
  obtain ⟨_, r1, r2⟩ := put2 (w := w1) (g := w.heap.size + 1) (.int .i64 k) (.int .u64 (c : Int)) l8 l9
  replace r1 := Lib.hid r1
  replace r2 := Lib.hid r2
  replace J1 := Lib.hid J1
  clear j3 j4 j5 j6 j7 l0 l1 l2 l3 l4 l5 l6 l7
  go_wp2
  exact bodyPost_ret (v := .agg #[.int .i64 k, .int .u64 (c : Int)]) (by simp [results, Try.results54, go_sem, r1.out, r2.out]) rfl (.mk rfl (J1.out.below _ _))

set_option maxHeartbeats 4000000 in
set_option maxRecDepth 100000 in
theorem leaf_cur (E B : Option Addr) (ce cb : Nat) (cur : Int) (es : List Ev) (bs : List (List Int)) (b o : Nat) (vk : Int) (vb : Nat) (pos attr : Int) (w : World) (hn : NodeC w b o 41 vk vb pos attr) (hL : LookIn w E B es bs) :
    Calls Try.prog 54 #[lookV E B es.length ce bs.length cb cur, .pointer (some ⟨b, o, none⟩)] w (VIs (attrP es cur attr) w) := by
  have J := LfJ.start (E := E) (B := B) (ne := es.length) (ce := ce) (nb := bs.length) (cb := cb) (cur := cur) hn
  obtain ⟨j0, j1, j2, j3, j4, j5, j6, j7, j8, j9, j10, j11⟩ := J.facts
  have hLu := hL.later J.drew.2.2.2
  have O := Lib.hid (attribute_any E B ce bs.length cb cur es cur attr _ hLu.1 hLu.2.2.1 hLu.2.2.2.1)
  generalize attrP es cur attr = x at *
  obtain ⟨xk, xb⟩ := x
  replace J := Lib.hid J
  clear hn hL hLu j1 j4 j5 j6 j8 j9 j10 j11
  go_enter Try.func54, Try.ntmps54
  go_wp2_with fail
  go_region_law (go_simp; go_at_call 78; refine O.out.mono ?_; rintro e w1 ⟨rfl, hb1⟩; have J1 := J.out.drew.later hb1; obtain ⟨l0, l1, l2, l3, l4, l5, l6, l7, l8, l9, l10, l11⟩ := J1.facts)
  all_goals obtain ⟨_, r1, r2⟩ := put2 (w := w1) (g := w.heap.size + 1) (.int .i64 xk) (.int .u64 (xb : Int)) l8 l9
  all_goals replace r1 := Lib.hid r1
  all_goals replace r2 := Lib.hid r2
  all_goals replace J1 := Lib.hid J1
  all_goals clear l0 l1 l2 l3 l4 l5 l6 l7
  all_goals go_wp2
  all_goals exact bodyPost_ret (v := .agg #[.int .i64 xk, .int .u64 (xb : Int)]) (by simp [results, Try.results54, go_sem, r1.out, r2.out]) rfl (.mk rfl (J1.out.below _ _))
end Go.Proofs.Ytfjnphiegoogoaa

/- Inv -/
namespace Go.Proofs.Ytfjnphiegoogoaa
open Go.ChangeShapes Go.WideShapes Go.RowKit

/-- all values put, in the operations' order -/
def putAll : List Oper → Nat → (Nat → Value) → Act → Act
  | [], _, _, a => a
  | o :: os, i, vs, a => putAll os (i + 1) vs (a.put o.dst (vs i))

/-- what an operation has left in its slot -/
def slotOf (a : Act) : Option Tmp → Value
  | some d => a.tmps.getD d undef
  | none => undef
def valOf (ops : Array Oper) (a : Act) (i : Nat) : Value := slotOf a ((ops[i]?).bind (·.dst))

theorem put_size (a : Act) (d : Option Tmp) (v : Value) : (a.put d v).tmps.size = a.tmps.size := by
  unfold Act.put; cases d <;> simp
theorem put_defers (a : Act) (d : Option Tmp) (v : Value) : (a.put d v).defers = a.defers := by
  unfold Act.put; cases d <;> rfl
theorem put_ne (a : Act) (d : Option Tmp) (v : Value) (k : Nat) (h : d ≠ some k) : (a.put d v).tmps.getD k undef = a.tmps.getD k undef := by
  unfold Act.put
  cases d with
  | none => rfl
  | some d =>
    have hk : ¬ d = k := fun e => h (by rw [e])
    simp [Array.getD_eq_getD_getElem?, hk]
theorem put_same (a : Act) (d : Nat) (v : Value) (h : d < a.tmps.size) : (a.put (some d) v).tmps.getD d undef = v := by
  simp [Act.put, Array.getD_eq_getD_getElem?, h]

theorem act_ext {a b : Act} (hs : a.tmps.size = b.tmps.size) (h : ∀ k, a.tmps.getD k undef = b.tmps.getD k undef) (hd : a.defers = b.defers) : a = b := by
  obtain ⟨ta, da⟩ := a
  obtain ⟨tb, db⟩ := b
  simp only at hs h hd
  subst hd
  congr 1
  apply Array.ext hs
  intro i h1 h2
  have := h i
  simpa [Array.getD_eq_getD_getElem?, h1, h2] using this

theorem putAll_eq (a : Act) : ∀ (l : List Oper) (i : Nat) (vs : Nat → Value) (b : Act), b.tmps.size = a.tmps.size → b.defers = a.defers →
    (∀ j o, l[j]? = some o → ∀ d, o.dst = some d → a.tmps.getD d undef = vs (i + j)) →
    (∀ k, b.tmps.getD k undef = a.tmps.getD k undef ∨ ∃ o ∈ l, o.dst = some k) → putAll l i vs b = a
  | [], i, vs, b, hs, hd, _, hk => act_ext hs (fun k => (hk k).resolve_right (fun ⟨_, h, _⟩ => by cases h)) hd
  | o :: os, i, vs, b, hs, hd, hv, hk => by
    refine putAll_eq a os (i + 1) vs (b.put o.dst (vs i)) ((put_size _ _ _).trans hs) ((put_defers _ _ _).trans hd) ?_ ?_
    · intro j o' ho' d hdst
      have := hv (j + 1) o' (by simpa using ho') d hdst
      rw [this]
      congr 1
      omega
    · intro k
      by_cases c : o.dst = some k
      · by_cases hlt : k < b.tmps.size
        · left
          have h0 := hv 0 o (by simp) k c
          rw [c, put_same _ _ _ hlt, h0]
          rfl
        · left
          have e1 : (b.put o.dst (vs i)).tmps.getD k undef = undef := by
            rw [Array.getD_eq_getD_getElem?, Array.getElem?_eq_none (by rw [put_size]; omega)]; rfl
          have e2 : a.tmps.getD k undef = undef := by
            rw [Array.getD_eq_getD_getElem?, Array.getElem?_eq_none (by omega)]; rfl
          rw [e1, e2]
      · rcases hk k with h | ⟨o', ho', hdst⟩
        · left; rw [put_ne _ _ _ _ c, h]
        · rcases List.mem_cons.1 ho' with rfl | h
          · exact absurd hdst c
          · exact .inr ⟨o', h, hdst⟩

/-- no two operations write one slot; each slot is there -/
def dstsB (ops : Array Oper) (n m : Nat) : Bool :=
  (List.range ops.size).all fun i => match (ops[i]?).bind (·.dst) with
    | none => decide (m ≤ i)
    | some d => decide (d < n) && (List.range ops.size).all fun j => i == j || (ops[j]?).bind (·.dst) != some d
/-- what an operation waits for -/
def depsOf (ops : Array Oper) (i : Nat) : List Nat := match ops[i]? with
  | none => []
  | some o => (o.after.toList.filter fun e => Region.binds .any e).map (·.on)
/-- .. and what that waits for, and so on -/
def coverOf (ops : Array Oper) (i : Nat) : List Nat := (List.range i).reverse.foldl (fun S j => if S.contains j then S ++ depsOf ops j else S) (depsOf ops i)
/-- from m on each operation waits for all ahead of m -/
def lateB (ops : Array Oper) (m : Nat) : Bool :=
  (List.range ops.size).all fun i => decide (i < m) || (List.range m).all fun j => (coverOf ops i).contains j

/-- each operation waits only for such ahead of it -/
def backB (ops : Array Oper) : Bool :=
  (List.range ops.size).all fun i => match ops[i]? with
    | none => true
    | some o => o.after.all fun e => !Region.binds .any e || decide (e.on < i)

section
variable {P : Program} {ops : Array Oper} {Q : Exit → Act → World → Prop} {C : Act → World → Prop} {T : World → World → Prop} {V : Nat → Value → World → Prop} {a0 : Act} {m : Nat}

structure InvAt (ops : Array Oper) (C : Act → World → Prop) (V : Nat → Value → World → Prop) (a0 : Act) (m : Nat) (listed : Array Bool) (a : Act) (w : World) : Prop where
  size : a.tmps.size = a0.tmps.size
  defers : a.defers = a0.defers
  consts : ∀ k, (∀ (i : Nat) o, ops[i]? = some o → o.dst ≠ some k) ∨ (∃ (i : Nat) (o : Oper), ops[i]? = some o ∧ o.dst = some k ∧ listed.getD i true = false) → a.tmps.getD k undef = a0.tmps.getD k undef
  lsize : listed.size = ops.size
  late : ∀ i, m ≤ i → i < ops.size → listed.getD i true = false
  world : C a w
  vals : ∀ i, i < ops.size → listed.getD i true = true → V i (valOf ops a i) w
  down : ∀ i, i < ops.size → listed.getD i true = true → ∀ j ∈ depsOf ops i, listed.getD j false = true

theorem cover_listed {listed : Array Bool} (hdown : ∀ i, i < ops.size → listed.getD i true = true → ∀ j ∈ depsOf ops i, listed.getD j false = true) (hs : listed.size = ops.size) :
    ∀ (l S : List Nat), (∀ x ∈ S, listed.getD x false = true) → ∀ x ∈ l.foldl (fun S j => if S.contains j then S ++ depsOf ops j else S) S, listed.getD x false = true
  | [], S, h => h
  | j :: l, S, h => by
    refine cover_listed hdown hs l _ ?_
    intro x hx
    dsimp only at hx
    split at hx
    · rename_i hc
      rcases List.mem_append.1 hx with h1 | h1
      · exact h x h1
      · have hj := h j (by simpa using hc)
        have hlt : j < listed.size := by
          apply Classical.byContradiction
          intro hge
          simp [Array.getD_eq_getD_getElem?, hge] at hj
        refine hdown j (by omega) ?_ x h1
        simp [Array.getD_eq_getD_getElem?, hlt] at hj ⊢
        exact hj
    · exact h x hx

/-- how many are yet to come ahead of m -/
def toCome (m : Nat) (listed : Array Bool) : Nat := ((List.range m).filter fun i => !listed.getD i true).length

theorem toCome_set {m i : Nat} {listed : Array Bool} (hi : i < m) (hl : i < listed.size) (h : listed.getD i true = false) : toCome m (listed.setIfInBounds i true) + 1 = toCome m listed := by
  unfold toCome
  induction m with
  | zero => omega
  | succ n ih =>
    rw [List.range_succ, List.filter_append, List.filter_append, List.length_append, List.length_append]
    by_cases c : i = n
    · subst c
      have e1 : ((List.range i).filter fun j => !(listed.setIfInBounds i true).getD j true) = (List.range i).filter fun j => !listed.getD j true := by
        apply List.filter_congr
        intro j hj
        have : ¬ i = j := by have := List.mem_range.1 hj; omega
        simp [Array.getD_eq_getD_getElem?, this]
      rw [e1]
      have e2 : (listed.setIfInBounds i true).getD i true = true := by simp [Array.getD_eq_getD_getElem?, hl]
      rw [List.filter_cons_of_neg (by rw [e2]; decide), List.filter_cons_of_pos (by rw [h]; rfl)]
      simp
    · have := ih (by omega)
      have e2 : (listed.setIfInBounds i true).getD n true = listed.getD n true := by
        simp [Array.getD_eq_getD_getElem?, c]
      have e3 : ([n].filter fun j => !(listed.setIfInBounds i true).getD j true) = [n].filter fun j => !listed.getD j true := by
        simp only [List.filter_cons, List.filter_nil, e2]
      rw [e3]
      omega

theorem ready_spec {md : Region.Mode} {listed : Array Bool} {i : Nat} (h : i ∈ Region.ready md ops listed) :
    ∃ o, ops[i]? = some o ∧ i < ops.size ∧ listed.getD i true = false ∧ ∀ e ∈ o.after, Region.binds md e = true → listed.getD e.on false = true := by
  unfold Region.ready at h
  rw [List.mem_filter] at h
  obtain ⟨h1, h2⟩ := h
  have hlt := List.mem_range.1 h1
  simp only [Bool.and_eq_true, Bool.not_eq_true'] at h2
  obtain ⟨h2, h3⟩ := h2
  cases ho : ops[i]? with
  | none => rw [ho] at h3; cases h3
  | some o =>
    rw [ho] at h3
    simp only [Option.map_some, Option.getD_some] at h3
    refine ⟨o, rfl, hlt, h2, fun e he hb => ?_⟩
    have := Array.all_eq_true'.1 h3 e he
    simpa [hb] using this

theorem getD_ff_tt {listed : Array Bool} {i : Nat} (h : listed.getD i false = true) : listed.getD i true = true ∧ i < listed.size := by
  by_cases c : i < listed.size
  · simp [Array.getD_eq_getD_getElem?, c] at h ⊢; exact h
  · simp [Array.getD_eq_getD_getElem?, c] at h

theorem wpAny_inv (hb : backB ops = true) (hd : dstsB ops a0.tmps.size m = true) (hl : lateB ops m = true) (hm : m ≤ ops.size)
    (hV : ∀ i v w w', V i v w → T w w' → V i v w')
    (hstep : ∀ i o, i < m → ops[i]? = some o → ∀ a w, C a w → a.defers = a0.defers → (∀ k, (∀ (i : Nat) o, ops[i]? = some o → o.dst ≠ some k) → a.tmps.getD k undef = a0.tmps.getD k undef) →
      (∀ e ∈ o.after, Region.binds .any e = true → V e.on (valOf ops a e.on) w) →
      if Region.wanted o (yielded ops a.tmps) = true then o.wp P a w (fun a' w' => ∃ v, a' = a.put o.dst v ∧ V i v w' ∧ T w w' ∧ C a' w') Q ∨ (o.asks P a w ∧ LetsOut Q) else V i undef w ∧ C (a.put o.dst undef) w)
    (hTr : ∀ w, T w w)
    (hend : ∀ (vs : Nat → Value) (w : World), C (putAll (ops.toList.take m) 0 vs a0) w → (∀ i, i < m → V i (vs i) w) →
      ∀ listed : Array Bool, listed.size = ops.size → (∀ i, i < ops.size → listed.getD i true = decide (i < m)) → wpAny P .any ops Q (ops.size - m) listed (putAll (ops.toList.take m) 0 vs a0) w) :
    ∀ (n : Nat) (listed : Array Bool) (a : Act) (w : World), toCome m listed = n → InvAt ops C V a0 m listed a w → wpAny P .any ops Q (n + (ops.size - m)) listed a w := by
  intro n
  induction n with
  | zero =>
    intro listed a w hn I
    have hall : ∀ i, i < m → listed.getD i true = true := by
      intro i hi
      by_cases c : listed.getD i true = true
      · exact c
      · have hmem : i ∈ (List.range m).filter fun i => !listed.getD i true := by
          rw [List.mem_filter]; exact ⟨List.mem_range.2 hi, by simpa using c⟩
        unfold toCome at hn
        rw [List.length_eq_zero_iff.1 hn] at hmem
        cases hmem
    have hput : putAll (ops.toList.take m) 0 (fun i => valOf ops a i) a0 = a := by
      refine putAll_eq a _ _ _ a0 I.size.symm I.defers.symm ?_ ?_
      · intro j o ho d hdst
        have hj : j < m := by
          have := (List.getElem?_eq_some_iff.1 ho).1
          simp at this; omega
        have ho' : ops[j]? = some o := by
          rw [List.getElem?_take, if_pos hj] at ho
          simpa using ho
        simp [valOf, slotOf, ho', hdst]
      · intro k
        by_cases c : ∃ (i : Nat) (o : Oper), ops[i]? = some o ∧ o.dst = some k ∧ i < m
        · obtain ⟨i, o, ho, hdst, hi⟩ := c
          right
          refine ⟨o, ?_, hdst⟩
          have : (ops.toList.take m)[i]? = some o := by rw [List.getElem?_take, if_pos hi]; simpa using ho
          exact List.mem_of_getElem? this
        · left
          symm
          apply I.consts
          by_cases c2 : ∃ (i : Nat) (o : Oper), ops[i]? = some o ∧ o.dst = some k
          · obtain ⟨i, o, ho, hdst⟩ := c2
            right
            have hge : m ≤ i := by
              rcases Nat.lt_or_ge i m with h | h
              · exact absurd ⟨i, o, ho, hdst, h⟩ c
              · exact h
            have hlt : i < ops.size := (Array.getElem?_eq_some_iff.1 ho).1
            exact ⟨i, o, ho, hdst, I.late i hge hlt⟩
          · left
            intro i o ho hdst
            exact c2 ⟨i, o, ho, hdst⟩
    have he := hend (fun i => valOf ops a i) w (by rw [hput]; exact I.world) (fun i hi => I.vals i (by omega) (hall i hi)) listed I.lsize (fun i hi => by
      by_cases c : i < m
      · rw [hall i c]; simp [c]
      · rw [I.late i (by omega) hi]; simp [c])
    rw [hput] at he
    simpa using he
  | succ n ih =>
    intro listed a w hn I
    rw [show n + 1 + (ops.size - m) = (n + (ops.size - m)) + 1 by omega]
    have hpos : ∃ i, i < m ∧ listed.getD i true = false := by
      apply Classical.byContradiction
      intro hno
      have : toCome m listed = 0 := by
        unfold toCome
        rw [List.length_eq_zero_iff, List.filter_eq_nil_iff]
        intro i hi
        have hi' := List.mem_range.1 hi
        cases hv : listed.getD i true with
        | true => simp
        | false => exact absurd ⟨i, hi', hv⟩ hno
      omega
    refine ⟨fun h0 => ?_, fun i hi => ?_⟩
    · exfalso
      obtain ⟨i, ⟨him, hif⟩, hmin⟩ : ∃ i, (i < m ∧ listed.getD i true = false) ∧ ∀ j, j < i → ¬ (j < m ∧ listed.getD j true = false) := by
        obtain ⟨k, hk⟩ := hpos
        have : ∀ k, (k < m ∧ listed.getD k true = false) → ∃ i, (i < m ∧ listed.getD i true = false) ∧ ∀ j, j < i → ¬ (j < m ∧ listed.getD j true = false) := by
          intro k
          induction k using Nat.strongRecOn with
          | ind k ihk =>
            intro hk
            by_cases c : ∃ j, j < k ∧ (j < m ∧ listed.getD j true = false)
            · obtain ⟨j, hj, hj'⟩ := c
              exact ihk j hj hj'
            · exact ⟨k, hk, fun j hj hj' => c ⟨j, hj, hj'⟩⟩
        exact this k hk
      have hlt : i < ops.size := by omega
      have hmem : i ∈ Region.ready .any ops listed := by
        unfold Region.ready
        rw [List.mem_filter]
        refine ⟨List.mem_range.2 hlt, ?_⟩
        have ho : ops[i]? = some ops[i] := Array.getElem?_eq_getElem hlt
        rw [hif, ho]
        simp only [Option.map_some, Option.getD_some, Bool.not_false, Bool.true_and]
        rw [Array.all_eq_true']
        intro e he
        have hbk := List.all_eq_true.1 hb i (List.mem_range.2 hlt)
        simp only [ho] at hbk
        have hbe := Array.all_eq_true'.1 hbk e he
        cases hbn : Region.binds .any e with
        | false => rfl
        | true =>
          rw [hbn] at hbe
          have hlt' : e.on < i := by simpa using hbe
          have hn' := hmin e.on hlt'
          have hl1 : listed.getD e.on true = true := by
            cases hv : listed.getD e.on true with
            | true => rfl
            | false => exact absurd ⟨by omega, hv⟩ hn'
          have hsz : e.on < listed.size := by rw [I.lsize]; omega
          have : listed.getD e.on false = true := by
            simp [Array.getD_eq_getD_getElem?, hsz] at hl1 ⊢
            exact hl1
          rw [this]
          rfl
      rw [h0] at hmem
      cases hmem
    · obtain ⟨o, ho, hlt, hun, hdeps⟩ := ready_spec hi
      have him : i < m := by
        rcases Nat.lt_or_ge i m with h | h
        · exact h
        · exfalso
          obtain ⟨j, hj, hjf⟩ := hpos
          have h1 := List.all_eq_true.1 hl i (List.mem_range.2 hlt)
          simp only [Bool.or_eq_true, decide_eq_true_eq] at h1
          have h2 := List.all_eq_true.1 (h1.resolve_left (by omega)) j (List.mem_range.2 hj)
          have hd0 : ∀ x ∈ depsOf ops i, listed.getD x false = true := by
            intro x hx
            unfold depsOf at hx
            rw [ho] at hx
            simp only [List.mem_map, List.mem_filter] at hx
            obtain ⟨e, ⟨he, hbe⟩, rfl⟩ := hx
            exact hdeps e (by simpa using he) hbe
          have h3 := cover_listed I.down I.lsize _ _ hd0 j (List.contains_iff_mem.1 h2)
          have := (getD_ff_tt h3).1
          rw [hjf] at this
          cases this
      have hs := hstep i o him ho a w I.world I.defers (fun k hk => I.consts k (.inl hk)) (fun e he hbe => by
        have h1 := getD_ff_tt (hdeps e he hbe)
        exact I.vals e.on (by rw [← I.lsize]; exact h1.2) h1.1)
      have hli : i < listed.size := by rw [I.lsize]; exact hlt
      have key : ∀ v w', V i v w' → C (a.put o.dst v) w' → T w w' → InvAt ops C V a0 m (listed.setIfInBounds i true) (a.put o.dst v) w' := by
        intro v w' hv hc ht
        have gset : ∀ j, (listed.setIfInBounds i true).getD j true = if j = i then true else listed.getD j true := by
          intro j
          by_cases c : j = i
          · subst c; simp [Array.getD_eq_getD_getElem?, hli]
          · have : ¬ i = j := fun e => c e.symm
            simp [Array.getD_eq_getD_getElem?, this, c]
        have dd : ∀ d, o.dst = some d → d < a0.tmps.size ∧ ∀ j oj, ops[j]? = some oj → j ≠ i → oj.dst ≠ some d := by
          intro d hdst
          have h1 := List.all_eq_true.1 hd i (List.mem_range.2 hlt)
          simp only [ho, Option.bind_some, hdst, Bool.and_eq_true, decide_eq_true_eq] at h1
          refine ⟨h1.1, fun j oj hoj hji he => ?_⟩
          have h2 := List.all_eq_true.1 h1.2 j (List.mem_range.2 (Array.getElem?_eq_some_iff.1 hoj).1)
          simp only [hoj, Option.bind_some, he, Bool.or_eq_true, beq_iff_eq, bne_self_eq_false] at h2
          rcases h2 with h2 | h2
          · exact hji h2.symm
          · cases h2
        refine ⟨(put_size _ _ _).trans I.size, (put_defers _ _ _).trans I.defers, ?_, by simpa using I.lsize, ?_, hc, ?_, ?_⟩
        · intro k hk
          have hk' : o.dst ≠ some k ∧ ((∀ (i : Nat) o, ops[i]? = some o → o.dst ≠ some k) ∨ (∃ (i : Nat) (o : Oper), ops[i]? = some o ∧ o.dst = some k ∧ listed.getD i true = false)) := by
            rcases hk with hk | ⟨j, oj, hoj, hdj, hlj⟩
            · exact ⟨hk i o ho, .inl hk⟩
            · rw [gset] at hlj
              split at hlj
              · cases hlj
              · rename_i hji
                exact ⟨fun e => (dd k e).2 j oj hoj hji hdj, .inr ⟨j, oj, hoj, hdj, hlj⟩⟩
          rw [put_ne _ _ _ _ hk'.1]
          exact I.consts k hk'.2
        · intro j hj hjs
          rw [gset, if_neg (by omega)]
          exact I.late j hj hjs
        · intro j hj hlj
          rw [gset] at hlj
          by_cases c : j = i
          · subst c
            have : valOf ops (a.put o.dst v) j = v := by
              unfold valOf
              rw [ho]
              cases hdst : o.dst with
              | none =>
                have h1 := List.all_eq_true.1 hd j (List.mem_range.2 hlt)
                simp only [ho, Option.bind_some, hdst, decide_eq_true_eq] at h1
                omega
              | some d =>
                simp only [Option.bind_some, hdst, slotOf]
                rw [put_same _ _ _ (by rw [I.size]; exact (dd d hdst).1)]
            rw [this]
            exact hv
          · rw [if_neg c] at hlj
            have hv2 := hV j _ w w' (I.vals j hj hlj) ht
            have : valOf ops (a.put o.dst v) j = valOf ops a j := by
              unfold valOf
              have hoj : ops[j]? = some ops[j] := Array.getElem?_eq_getElem hj
              rw [hoj]
              cases hdst : ops[j].dst with
              | none => simp [slotOf, hdst]
              | some d =>
                simp only [Option.bind_some, hdst, slotOf]
                rw [put_ne]
                intro e
                exact (dd d e).2 j _ hoj c hdst
            rw [this]
            exact hv2
        · intro j hj hlj x hx
          have hl0 : listed.getD x false = true := by
            rw [gset] at hlj
            by_cases c : j = i
            · subst c
              unfold depsOf at hx
              rw [ho] at hx
              simp only [List.mem_map, List.mem_filter] at hx
              obtain ⟨e, ⟨he, hbe⟩, rfl⟩ := hx
              exact hdeps e (by simpa using he) hbe
            · rw [if_neg c] at hlj
              exact I.down j hj hlj x hx
          by_cases c : x = i
          · subst c; simp [Array.getD_eq_getD_getElem?, hli]
          · have c' : ¬ i = x := fun e => c e.symm
            have : (listed.setIfInBounds i true).getD x false = listed.getD x false := by simp [Array.getD_eq_getD_getElem?, c']
            rw [this]; exact hl0
      have hcount : toCome m (listed.setIfInBounds i true) = n := by
        have := toCome_set him hli hun
        omega
      unfold wpOp
      rw [ho]
      simp only
      split at hs
      · rename_i hw
        rw [if_pos hw]
        rcases hs with hs | hs
        · left
          refine Oper.wp_mono ?_ hs
          rintro a' w' ⟨v, rfl, hv, ht, hc⟩
          exact ih _ _ _ hcount (key v w' hv hc ht)
        · exact .inr hs
      · rename_i hw
        rw [if_neg hw]
        exact ih _ _ _ hcount (key undef w hs.1 hs.2 (hTr w))

/-- the region: its operations ahead of m each keep their word (V) and the frame's and world's (C); then comes what is late -/
theorem wp_region_inv {id : Nat} {w : World} (m : Nat) (C : Act → World → Prop) (T : World → World → Prop) (V : Nat → Value → World → Prop)
    (hB : (backB ops && dstsB ops a0.tmps.size m && lateB ops m && decide (m ≤ ops.size)) = true)
    (hmo : P.follows .mixedOrders = true) (hTr : ∀ w, T w w)
    (hV : ∀ i v w w', V i v w → T w w' → V i v w') (hC0 : C a0 w.drew)
    (hstep : ∀ i o, i < m → ops[i]? = some o → ∀ a w, C a w → a.defers = a0.defers → (∀ k, (∀ (i : Nat) o, ops[i]? = some o → o.dst ≠ some k) → a.tmps.getD k undef = a0.tmps.getD k undef) →
      (∀ e ∈ o.after, Region.binds .any e = true → V e.on (valOf ops a e.on) w) →
      if Region.wanted o (yielded ops a.tmps) = true then o.wp P a w (fun a' w' => ∃ v, a' = a.put o.dst v ∧ V i v w' ∧ T w w' ∧ C a' w') Q ∨ (o.asks P a w ∧ LetsOut Q) else V i undef w ∧ C (a.put o.dst undef) w)
    (hend : ∀ (vs : Nat → Value) (w : World), C (putAll (ops.toList.take m) 0 vs a0) w → (∀ i, i < m → V i (vs i) w) →
      ∀ listed : Array Bool, listed.size = ops.size → (∀ i, i < ops.size → listed.getD i true = decide (i < m)) → wpAny P .any ops Q (ops.size - m) listed (putAll (ops.toList.take m) 0 vs a0) w) :
    (Code.region id ops true).wp P Q a0 w := by
  simp only [Bool.and_eq_true, decide_eq_true_eq] at hB
  obtain ⟨⟨⟨h1, h2⟩, h3⟩, h4⟩ := hB
  refine wp_region_any hmo ?_
  have hfalse : ∀ i, i < ops.size → (Array.replicate ops.size false).getD i true = false := by
    intro i hi
    simp [Array.getD_eq_getD_getElem?, hi]
  have hcome : toCome m (Array.replicate ops.size false) = m := by
    unfold toCome
    rw [List.filter_eq_self.2]
    · simp
    · intro i hi
      have := List.mem_range.1 hi
      rw [hfalse i (by omega)]
      rfl
  have := wpAny_inv (Q := Q) (C := C) (T := T) (V := V) h1 h2 h3 h4 hV hstep hTr hend m (Array.replicate ops.size false) a0 w.drew hcome
    ⟨rfl, rfl, fun _ _ => rfl, by simp, fun i _ hi => hfalse i hi, hC0, fun i hi h => (by rw [hfalse i hi] at h; cases h), fun i hi h => by rw [hfalse i hi] at h; cases h⟩
  rw [show m + (ops.size - m) = ops.size by omega] at this
  exact this
end
end Go.Proofs.Ytfjnphiegoogoaa

/- InvG -/
namespace Go.Proofs.Ytfjnphiegoogoaa.G
open Go.ChangeShapes Go.WideShapes Go.ChangeAt Go.RowKit

/-- words: it is this value; it is a list that reads so; nothing is said -/
def isW (x : Value) : Value → World → Prop := fun v _ => v = x
def anyW : Value → World → Prop := fun _ _ => True
def MonoW (W : Value → World → Prop) : Prop := ∀ v w w', W v w → Below w.heap.size w w' → W v w'
theorem is_mono (x : Value) : MonoW (isW x) := fun _ _ _ h _ => h
theorem any_mono : MonoW anyW := fun _ _ _ _ _ => trivial
def monoL : List (Value → World → Prop) → Prop
  | [] => True
  | W :: Ws => MonoW W ∧ monoL Ws
theorem monoL_nil : monoL [] := trivial
theorem monoL_cons {W : Value → World → Prop} {Ws : List (Value → World → Prop)} (h : MonoW W) (hs : monoL Ws) : monoL (W :: Ws) := ⟨h, hs⟩
theorem monoL_at : ∀ (l : List (Value → World → Prop)) (i : Nat), monoL l → MonoW (l.getD i anyW)
  | [], i, _ => by simpa using any_mono
  | W :: Ws, 0, h => h.1
  | W :: Ws, i + 1, h => monoL_at Ws i h.2
def holdsL (vs : Nat → Value) (w : World) : List (Value → World → Prop) → Nat → Prop
  | [], _ => True
  | W :: Ws, i => W (vs i) w ∧ holdsL vs w Ws (i + 1)
theorem holdsL_of (vs : Nat → Value) (w : World) : ∀ (l : List (Value → World → Prop)) (i : Nat), (∀ j, j < l.length → (l.getD j anyW) (vs (i + j)) w) → holdsL vs w l i
  | [], _, _ => trivial
  | W :: Ws, i, h => ⟨h 0 (by simp), holdsL_of vs w Ws (i + 1) fun j hj => by
      have := h (j + 1) (by simp; omega)
      rw [show i + 1 + j = i + (j + 1) by omega]
      exact this⟩

section
variable {P : Program} {ops : Array Oper} {Q : Exit → Act → World → Prop} {C : World → Prop} {D : Act → World → Prop} {words : List (Value → World → Prop)} {a0 : Act}

/-- what is to be shown of an operation that comes up at frame a, world w -/
def StepAt (P : Program) (ops : Array Oper) (Q : Exit → Act → World → Prop) (C : World → Prop) (D : Act → World → Prop) (words : List (Value → World → Prop)) (i : Nat) (o : Oper) (a : Act) (w : World) : Prop :=
  if Region.wanted o (yielded ops a.tmps) = true then o.wp P a w (fun a' w' => ∃ v, a' = a.put o.dst v ∧ (words.getD i anyW) v w' ∧ Below w.heap.size w w' ∧ C w' ∧ D a' w') Q ∨ (o.asks P a w ∧ LetsOut Q) else (words.getD i anyW) undef w ∧ C w ∧ D (a.put o.dst undef) w

def StepI (P : Program) (ops : Array Oper) (Q : Exit → Act → World → Prop) (C : World → Prop) (D : Act → World → Prop) (words : List (Value → World → Prop)) (a0 : Act) (i : Nat) (o : Oper) : Prop :=
  ∀ (a : Act) (w : World), C w → D a w → a.defers = a0.defers → (∀ k, (ops.all fun o => o.dst != some k) = true → (a.tmps[k]?).getD undef = (a0.tmps[k]?).getD undef) →
    (∀ e ∈ o.after, Region.binds .any e = true → (words.getD e.on anyW) ((((ops[e.on]?).bind (·.dst)).bind fun d => a.tmps[d]?).getD undef) w) → StepAt P ops Q C D words i o a w

def stepsL (P : Program) (ops : Array Oper) (Q : Exit → Act → World → Prop) (C : World → Prop) (D : Act → World → Prop) (words : List (Value → World → Prop)) (a0 : Act) : List Oper → Nat → Prop
  | [], _ => True
  | o :: os, i => StepI P ops Q C D words a0 i o ∧ stepsL P ops Q C D words a0 os (i + 1)
theorem stepsL_nil {i : Nat} : stepsL P ops Q C D words a0 [] i := trivial
theorem stepsL_cons {o : Oper} {os : List Oper} {i : Nat} (h : StepI P ops Q C D words a0 i o) (hs : stepsL P ops Q C D words a0 os (i + 1)) : stepsL P ops Q C D words a0 (o :: os) i := ⟨h, hs⟩
theorem stepsL_at : ∀ (l : List Oper) (i : Nat), stepsL P ops Q C D words a0 l i → ∀ j o, l[j]? = some o → StepI P ops Q C D words a0 (i + j) o
  | [], _, _, j, o, h => by simp at h
  | o' :: os, i, hs, 0, o, h => by simp at h; subst h; exact hs.1
  | o' :: os, i, hs, j + 1, o, h => by
    have := stepsL_at os (i + 1) hs.2 j o (by simpa using h)
    rw [show i + (j + 1) = i + 1 + j by omega]
    exact this

theorem wanted_plain {o : Oper} {y : Nat → Option Bool} (h : o.guard = none) : Region.wanted o y = true := by simp [Region.wanted, h]
theorem wanted_guard {o : Oper} {a : Act} {j : Nat} {b c : Bool} (h : o.guard = some (j, b)) (hv : (((ops[j]?).bind (·.dst)).bind fun d => a.tmps[d]?).getD undef = .bool c) : Region.wanted o (yielded ops a.tmps) = (c == b) := by
  have : yielded ops a.tmps j = some c := by
    unfold yielded
    cases hx : ((ops[j]?).bind (·.dst)).bind fun d => a.tmps[d]? with
    | none => rw [hx] at hv; cases hv
    | some x => rw [hx] at hv; simp at hv; subst hv; rfl
  simp [Region.wanted, h, this]

theorem wanted_undef {o : Oper} {a : Act} {j : Nat} {b : Bool} (h : o.guard = some (j, b)) (hv : (((ops[j]?).bind (·.dst)).bind fun d => a.tmps[d]?).getD undef = undef) : Region.wanted o (yielded ops a.tmps) = false := by
  have : yielded ops a.tmps j = none := by
    unfold yielded
    cases hx : ((ops[j]?).bind (·.dst)).bind fun d => a.tmps[d]? with
    | none => rfl
    | some x => rw [hx] at hv; simp at hv; subst hv; rfl
  simp [Region.wanted, h, this]

/-- C is kept by what only makes memory; D by every put but those into its own slots -/
def KeepsC (C : World → Prop) : Prop := ∀ w w', C w → Below w.heap.size w w' → C w'
def KeepsD (D : Act → World → Prop) (L : List Nat) : Prop := ∀ (a : Act) (d : Option Tmp) (v : Value) (w w' : World), D a w → Below w.heap.size w w' → (L.all fun k => d != some k) = true → D (a.put d v) w'
theorem keepsD_true (L : List Nat) : KeepsD (fun _ _ => True) L := fun _ _ _ _ _ _ _ _ => trivial

theorem step_val {i : Nat} {o : Oper} {a : Act} {w : World} {L : List Nat} (hKC : KeepsC C) (hKD : KeepsD D L) (hc : C w) (hdd : D a w) (hL : (L.all fun k => o.dst != some k) = true) (v : Value) (w' : World) (hw : Region.wanted o (yielded ops a.tmps) = true) (hr : (execOp a.eval o).run P w = .ok (.value v) w')
    (hV : (words.getD i anyW) v w') (hT : Below w.heap.size w w') : StepAt P ops Q C D words i o a w := by
  unfold StepAt
  rw [if_pos hw]
  left
  unfold Oper.wp
  rw [hr]
  exact ⟨v, rfl, hV, hT, hKC _ _ hc hT, hKD _ _ _ _ _ hdd hT hL⟩
/-- as step_val, where D is shown by hand -/
theorem step_valD {i : Nat} {o : Oper} {a : Act} {w : World} (hKC : KeepsC C) (hc : C w) (v : Value) (w' : World) (hw : Region.wanted o (yielded ops a.tmps) = true) (hr : (execOp a.eval o).run P w = .ok (.value v) w')
    (hV : (words.getD i anyW) v w') (hT : Below w.heap.size w w') (hD : D (a.put o.dst v) w') : StepAt P ops Q C D words i o a w := by
  unfold StepAt
  rw [if_pos hw]
  left
  unfold Oper.wp
  rw [hr]
  exact ⟨v, rfl, hV, hT, hKC _ _ hc hT, hD⟩
theorem step_call {i : Nat} {o : Oper} {a : Act} {w : World} {L : List Nat} (hKC : KeepsC C) (hKD : KeepsD D L) (hc : C w) (hdd : D a w) (hL : (L.all fun k => o.dst != some k) = true) (f : FuncId) (args : Array Value) (hw : Region.wanted o (yielded ops a.tmps) = true) (hr : (execOp a.eval o).run P w = .ok (.enter f args) w)
    (hcl : Calls P f args w fun e w' => ∃ v, e = .returned v ∧ (words.getD i anyW) v w' ∧ Below w.heap.size w w') : StepAt P ops Q C D words i o a w := by
  unfold StepAt
  rw [if_pos hw]
  left
  unfold Oper.wp
  rw [hr]
  refine hcl.mono ?_
  rintro e w' ⟨v, rfl, hV, hT⟩
  exact ⟨v, rfl, hV, hT, hKC _ _ hc hT, hKD _ _ _ _ _ hdd hT hL⟩
theorem step_skip {i : Nat} {o : Oper} {a : Act} {w : World} {L : List Nat} (hKD : KeepsD D L) (hc : C w) (hdd : D a w) (hL : (L.all fun k => o.dst != some k) = true) (hw : Region.wanted o (yielded ops a.tmps) = false) (hV : (words.getD i anyW) undef w) : StepAt P ops Q C D words i o a w := by
  unfold StepAt
  rw [if_neg (by rw [hw]; decide)]
  exact ⟨hV, hc, hKD _ _ _ _ _ hdd (Below.refl _ _) hL⟩

theorem valOf_eq (a : Act) (i : Nat) : valOf ops a i = (((ops[i]?).bind (·.dst)).bind fun d => a.tmps[d]?).getD undef := by
  unfold valOf slotOf
  cases (ops[i]?).bind (·.dst) with
  | none => rfl
  | some d => simp [Array.getD_eq_getD_getElem?]

theorem nothing_ready {listed : Array Bool} (hl : ∀ i, i < ops.size → listed.getD i true = decide (i < ops.size)) : Region.ready .any ops listed = [] := by
  apply List.eq_nil_iff_forall_not_mem.2
  intro i hi
  obtain ⟨o, ho, hlt, hun, _⟩ := ready_spec hi
  rw [hl i hlt] at hun
  simp [hlt] at hun

theorem listed_eq {listed : Array Bool} {n m : Nat} (hs : listed.size = n) (hl : ∀ i, i < n → listed.getD i true = decide (i < m)) : listed = ((List.range n).map fun i => decide (i < m)).toArray := by
  apply Array.ext (by simp [hs])
  intro i h1 h2
  have := hl i (by omega)
  simpa [Array.getD_eq_getD_getElem?, h1] using this

/-- the general form: D speaks of the frame too; what is late (from m on) comes at the end -/
theorem region_wordsG {id : Nat} {w : World} (m : Nat) (C : World → Prop) (D : Act → World → Prop) (words : List (Value → World → Prop)) (hlen : (words.length == m) = true) (hW : monoL words)
    (hB : (backB ops && dstsB ops a0.tmps.size m && lateB ops m && decide (m ≤ ops.size)) = true)
    (hmo : P.follows .mixedOrders = true) (hC0 : C w.drew) (hD0 : D a0 w.drew)
    (hsteps : stepsL P ops Q C D words a0 (ops.toList.take m) 0)
    (hend : ∀ (vs : Nat → Value) (w : World), C w → D (putAll (ops.toList.take m) 0 vs a0) w → holdsL vs w words 0 →
      wpAny P .any ops Q (ops.size - m) ((List.range ops.size).map fun i => decide (i < m)).toArray (putAll (ops.toList.take m) 0 vs a0) w) :
    (Code.region id ops true).wp P Q a0 w := by
  have hl : words.length = m := by simpa using hlen
  refine wp_region_inv m (fun a w => C w ∧ D a w) (fun w w' => Below w.heap.size w w') (fun i v w => (words.getD i anyW) v w) hB hmo (fun w => Below.refl _ _)
    (fun i v w w' hv hb => monoL_at words i hW v w w' hv hb) ⟨hC0, hD0⟩ ?_ fun vs w hc hv listed hs hlv => by
      rw [listed_eq hs hlv]
      exact hend vs w hc.1 hc.2 (holdsL_of vs w words 0 fun j hj => by
        rw [Nat.zero_add]; exact hv j (by omega))
  intro i o hi ho a w hc hd hk hdep
  have := stepsL_at (ops.toList.take m) 0 hsteps i o (by rw [List.getElem?_take, if_pos hi]; simpa using ho) a w hc.1 hc.2 hd ?_ ?_
  · rw [Nat.zero_add] at this
    exact this
  · intro k hall
    have := hk k fun j oj hoj e => by
      have h1 := Array.all_eq_true'.1 hall oj (Array.mem_of_getElem? hoj)
      rw [e] at h1
      simp at h1
    simpa [Array.getD_eq_getD_getElem?] using this
  · intro e he hb
    rw [← valOf_eq]
    exact hdep e he hb

theorem region_words {id : Nat} {w : World} (C : World → Prop) (words : List (Value → World → Prop)) (hlen : (words.length == ops.size) = true) (hW : monoL words)
    (hB : (backB ops && dstsB ops a0.tmps.size ops.size && lateB ops ops.size && decide (ops.size ≤ ops.size)) = true)
    (hmo : P.follows .mixedOrders = true) (hC : KeepsC C) (hC0 : C w.drew)
    (hsteps : KeepsC C → stepsL P ops Q C (fun _ _ => True) words a0 ops.toList 0)
    (hend : ∀ (vs : Nat → Value) (w : World), C w → holdsL vs w words 0 → Q .normal (putAll ops.toList 0 vs a0) w) :
    (Code.region id ops true).wp P Q a0 w := by
  have ht : ops.toList.take ops.size = ops.toList := List.take_of_length_le (by simp)
  refine region_wordsG ops.size C (fun _ _ => True) words hlen hW hB hmo hC0 trivial (by rw [ht]; exact hsteps hC) fun vs w hc _ hv => ?_
  rw [Nat.sub_self, ht]
  refine ⟨nothing_ready fun i hi => ?_, hend vs w hc hv⟩
  simp [Array.getD_eq_getD_getElem?, hi]
end
end Go.Proofs.Ytfjnphiegoogoaa.G
