/- The reader of images: a list that is being read, in memory. -/
import Derived.Test.YtlfhgmoafgjdcaaImR
import Derived.Test.YtlfhgmoafgjdcaaImN
namespace Go.Proofs.Ytlfhgmoafgjdcaa
open Go.ChangeShapes Go.WideShapes Go.ChangeAt Go.RowKit
set_option linter.unusedVariables false
set_option linter.unusedSimpArgs false

/-- a block's type is none of these -/
def Off (tys : List TypeId) (w : World) (b : Nat) : Prop := ∀ T ∈ tys, ¬ TyB w b T
theorem Off.of_ty {tys : List TypeId} {w : World} {b : Nat} {T : TypeId} (h : TyB w b T) (hT : T ∉ tys) : Off tys w b := fun T' h' k => (h.ne k (fun e => hT (e ▸ h'))) rfl
theorem Off.nil (w : World) (b : Nat) : Off [] w b := fun T h => by cases h
theorem Off.tail {T : TypeId} {tys : List TypeId} {w : World} {b : Nat} (h : Off (T :: tys) w b) : Off tys w b := fun T' h' => h T' (List.mem_cons_of_mem _ h')
theorem Off.sub {tys tys' : List TypeId} {w : World} {b : Nat} (h : Off tys w b) (hs : ∀ T ∈ tys', T ∈ tys) : Off tys' w b := fun T' h' => h T' (hs T' h')
/-- what is said of values in a world stays, where blocks of these types stay -/
def KeepE {X : Type} (tys : List TypeId) (E : World → List Value → X → Prop) : Prop := ∀ (w w' : World) (x y : Nat) (vs : List Value) (z : X), E w vs z → RFr w w' x y → Off tys w x → Off tys w y → E w' vs z
theorem keepE_L {X : Type} {tys : List TypeId} {E : World → List Value → X → Prop} (T : TypeId) (size : Nat) (hE : KeepE tys E) : KeepE (T :: tys) (eL E T size) := by
  rintro w w' x y vs z ⟨v, rfl, hv⟩ hf hx hy
  exact ⟨v, rfl, hv.keep hf (fun b hb e => hx T (by simp) (e ▸ hb)) (fun b hb e => hy T (by simp) (e ▸ hb)) fun vs z h => hE w w' x y vs z h hf hx.tail hy.tail⟩
theorem KeepE.more {X : Type} {tys tys' : List TypeId} {E : World → List Value → X → Prop} (hE : KeepE tys E) (hs : ∀ T ∈ tys, T ∈ tys') : KeepE tys' E := fun w w' x y vs z h hf hx hy => hE w w' x y vs z h hf (hx.sub hs) (hy.sub hs)
theorem keepE_int : KeepE [] eInt := fun w w' x y vs z h _ _ _ => h
theorem keepE_bool : KeepE [] eBool := fun w w' x y vs z h _ _ _ => h
theorem keepE_bits : KeepE [] eBits := fun w w' x y vs z h _ _ _ => h

/-- where a list is read to, and of what -/
structure LP where
  T : TypeId
  t : TypeId
  size : Nat
  lo : Nat
  rb : Nat
  g : Nat
  B : Nat
  G : Nat
  o : Nat
  cur : Array Value
/-- what stands of a list's elements -/
def Els {X : Type} (E : World → List Value → X → Prop) (size : Nat) (w : World) (vss : List (List Value)) (xs : List X) : Prop := ∀ (i : Nat) vs x, vss[i]? = some vs → xs[i]? = some x → E w vs x ∧ vs.length = size
theorem Els.keep {X : Type} {E : World → List Value → X → Prop} {tys : List TypeId} {size : Nat} {w w' : World} {vss : List (List Value)} {xs : List X} {x y : Nat} (h : Els E size w vss xs) (hE : KeepE tys E) (hf : RFr w w' x y) (hx : Off tys w x) (hy : Off tys w y) : Els E size w' vss xs :=
  fun i vs z a b => ⟨hE _ _ _ _ _ _ (h i vs z a b).1 hf hx hy, (h i vs z a b).2⟩
/-- a list that is being read: k of it are there -/
structure LJ {X : Type} (E : World → List Value → X → Prop) (p : LP) (w0 : World) (k : Nat) (xs : List X) (vss : List (List Value)) (l : List Nat) (v : Value) (wr : World) : Prop where
  len : xs.length = k
  vlen : vss.length = k
  fr : RFr w0 wr p.g p.G
  rd : RdS wr p.lo p.rb p.g p.B l
  blk : Blk wr p.G p.t (putC p.cur p.o [v])
  els : Els E p.size wr vss xs
  own : wr.ownsRow w0.heap.size p.T p.size v k vss.flatten
/-- what is so of such a place at any time -/
structure LA (p : LP) (w0 : World) : Prop where
  lt : p.G < w0.heap.size
  lo : p.lo ≤ p.G
  ne : p.G ≠ p.g
  o : p.o < p.cur.size
theorem LJ.start {X : Type} {E : World → List Value → X → Prop} {p : LP} {w0 w1 : World} {l : List Nat} (ha : LA p w0) (hg : w0.grownBy w1 (some p.g)) (hS : RdS w1 p.lo p.rb p.g p.B l) (hG : Blk w0 p.G p.t p.cur) (hc : p.cur[p.o]? = some (.slice none 0 0)) :
    LJ E p w0 0 [] [] l (.slice none 0 0) w1 := by
  refine ⟨rfl, rfl, RFr.of_grown hg _, hS, ?_, fun i vs x h => by simp at h, World.ownsRow_nil _ _ _ _⟩
  have : putC p.cur p.o [.slice none 0 0] = p.cur := by
    rw [← putC_one _ ha.o]
    apply Array.ext_getElem?
    intro i
    rw [Array.getElem?_setIfInBounds]
    split
    · rename_i e; subst e; rw [if_pos ha.o, hc]
    · rfl
  rw [this]
  exact hG.grown hg (fun e => ha.ne (by injection e))
/-- there is one more, still nothing -/
structure LG {X : Type} (E : World → List Value → X → Prop) (p : LP) (w0 : World) (k : Nat) (xs : List X) (vss : List (List Value)) (zs : List Value) (l : List Nat) (g' cap : Nat) (cur' : Array Value) (w4 : World) : Prop where
  len : xs.length = k
  vlen : vss.length = k
  fr : RFr w0 w4 p.g p.G
  rd : RdS w4 p.lo p.rb p.g p.B l
  blk : Blk w4 p.G p.t (putC p.cur p.o [.slice (some ⟨g', 0, none⟩) (k + 1) cap])
  els : Els E p.size w4 vss xs
  base : w0.heap.size ≤ g'
  row : Blk w4 g' p.T cur'
  cap1 : k + 1 ≤ cap
  cap2 : cap ≤ maxLen
  size : cur'.size = cap * p.size
  had : cur'.toList.take (k * p.size) = vss.flatten
  new : ∀ j u, zs[j]? = some u → cur'[k * p.size + j]? = some u
theorem putC_set {cur : Array Value} {o : Nat} {v v' : Value} (ho : o < cur.size) : (putC cur o [v]).setIfInBounds o v' = putC cur o [v'] := by
  rw [← putC_one v ho, ← putC_one v' ho, Array.setIfInBounds_setIfInBounds]
theorem LJ.grow {X : Type} {E : World → List Value → X → Prop} {tys : List TypeId} {p : LP} {w0 : World} {k : Nat} {xs : List X} {vss : List (List Value)} {l : List Nat} {v v' : Value} {wr wz w3 : World} {zs : List Value}
    (h : LJ E p w0 k xs vss l v wr) (ha : LA p w0) (hE : KeepE tys E) (hT : p.T ∉ tys) (ht : p.t ∉ tys) (hR : 109 ∉ tys)
    (hb : Below wr.heap.size wr wz) (hg : wz.grownBy w3 v.ownBlock) (hO : w3.ownsRow w0.heap.size p.T p.size v' (k + 1) (vss.flatten ++ zs)) (hz : zs.length = p.size) :
    w3.cell? ⟨p.G, p.o, none⟩ = some v ∧ w3.frozen? ⟨p.G, p.o, none⟩ = false ∧ ∃ g' cap cur', v' = .slice (some ⟨g', 0, none⟩) (k + 1) cap ∧ LG E p w0 k xs vss zs l g' cap cur' (w3.setCell ⟨p.G, p.o, none⟩ v') := by
  obtain ⟨h1, h2, h3, h4, h5, h6, h7⟩ := h
  have hne : ∀ b, v.ownBlock = some b → b ≠ p.G ∧ w0.heap.size ≤ b ∧ b < wr.heap.size := fun b hb => by
    obtain ⟨k1, k2⟩ := h7.lt b hb
    exact ⟨by have := ha.lt; omega, k1, k2⟩
  have hlt0 : p.G < wr.heap.size := Nat.lt_of_lt_of_le ha.lt h3.size
  have hglo : p.g < p.lo := h4.2.2.2.2.1
  -- the block where the list is
  have b1 : Blk wz p.G p.t (putC p.cur p.o [v]) := h5.kept hb
  have b2 : Blk w3 p.G p.t (putC p.cur p.o [v]) := b1.grown hg (fun e => (hne _ e.symm).1 rfl)
  -- the frame of the growing
  have hgt : ∃ b, RFr wz w3 b p.g ∧ Off tys wz b ∧ p.lo ≤ b ∧ (w0.heap.size ≤ b) := by
    cases hv : v.ownBlock with
    | none =>
      refine ⟨wz.heap.size, ⟨hg.os, hg.tape, hg.output, hg.size, fun k hk _ _ => hg.block k hk (by rw [hv]; simp)⟩, fun T _ k => absurd k.lt (Nat.lt_irrefl _), ?_, ?_⟩
      · have := h4.2.2.2.2.2.2; have := hb.size; omega
      · have := h3.size; have := hb.size; omega
    | some b =>
      obtain ⟨_, k2, k3⟩ := hne b hv
      refine ⟨b, ⟨hg.os, hg.tape, hg.output, hg.size, fun k hk hx _ => hg.block k hk (by rw [hv]; intro e; injection e with e; exact hx e)⟩, ?_, ?_, k2⟩
      · have h7z := mown_below h7 hb
        rcases h7z.2 with ⟨rfl, _⟩ | ⟨q, cap, cur, rfl, _, hh, _⟩
        · cases hv
        · obtain rfl : q = b := by simpa [Value.ownBlock] using hv
          exact Off.of_ty ⟨cur, hh⟩ hT
      · have := ha.lo; have := ha.lt; omega
  obtain ⟨b, hf2, ho2, hlo2, hb2⟩ := hgt
  have gz : TyB wz p.g 109 := (h4.later hb).gty
  have hogz : Off tys wz p.g := Off.of_ty gz hR
  have f1 : RFr wr wz p.g p.g := RFr.of_below hb _ _
  have hogr : Off tys wr p.g := Off.of_ty h4.gty hR
  have s3 : RdS w3 p.lo p.rb p.g p.B l := by
    have hz := h4.later hb
    -- the growing leaves the reader
    obtain ⟨r1, r2, r3, r4, r5, r6, r7⟩ := hz
    have hbk : ∀ q, q < p.lo → q < wz.heap.size → w3.heap[q]? = wz.heap[q]? := fun q hq hq2 => hg.block q hq2 (fun e => by
      obtain ⟨k1, k2, k3⟩ := hne q e.symm
      have := ha.lo; have := ha.lt; omega)
    refine ⟨(hbk _ r6 r1.lt).trans r1, ?_, r3, r4, r5, r6, Nat.le_trans r7 hg.size⟩
    obtain ⟨A, c, q1, q2, q3, q4⟩ := r2
    refine ⟨A, c, (hbk _ r5 q1.lt).trans q1, q2, q3, q4.keep fun p' hp hlt => World.cell?_of_block (hbk p'.block ?_ hlt)⟩
    omega
  have o3 : Off tys w3 p.G := Off.of_ty b2.ty ht
  have o3g : Off tys w3 p.g := Off.of_ty s3.gty hR
  have hsz4 : (w3.setCell ⟨p.G, p.o, none⟩ v').heap.size = w3.heap.size := by have := (RFr.of_set w3 p.g p.G p.o v').size; simp [World.setCell]
  have fs := RFr.of_set w3 p.g p.G p.o v'
  refine ⟨by rw [b2.cell]; have := putC_get_in (cur := p.cur) (o := p.o) (vs := [v]) (i := 0) (by have := ha.o; simp; omega) (by simp); simpa using this, b2.free _, ?_⟩
  rcases hO.2 with ⟨_, h0⟩ | ⟨g', cap, cur', rfl, k1, k2, k3, k4, k5, k6⟩
  · omega
  refine ⟨g', cap, cur', rfl, h1, h2, ?_, s3.keep (x := p.lo) (RFr.of_set w3 p.lo p.G p.o _) (Nat.le_refl _) ha.lo, ?_, ?_, k1, ?_, k3, k4, k5, ?_, ?_⟩
  · -- the frame
    have a1 : RFr w0 wz p.g p.G := h3.trans (RFr.of_below hb _ _)
    have a2 : RFr w0 w3 p.g p.G := a1.newer' hf2 (.inl hb2) (.inr (.inl rfl))
    exact a2.trans fs
  · rw [← putC_set (v := v) ha.o]
    exact b2.put_ _ _
  · exact ((h6.keep hE f1 hogr hogr).keep hE hf2 ho2 hogz).keep hE fs o3g o3
  · have hgG : g' ≠ p.G := by have := ha.lt; omega
    exact Blk.else_ (p := ⟨p.G, p.o, none⟩) k2 (fun e => hgG e.symm) _
  · have := congrArg (List.take (k * p.size)) k6
    rw [List.take_take, Nat.min_eq_left (Nat.mul_le_mul_right _ (by omega))] at this
    rw [this, List.take_left']
    have := h7.1
    omega
  · intro j u hj
    have hj' : j < p.size := by rw [← hz]; exact (List.getElem?_eq_some_iff.1 hj).1
    have hfl : vss.flatten.length = k * p.size := h7.1
    have : (cur'.toList.take ((k + 1) * p.size))[k * p.size + j]? = some u := by
      rw [k6, List.getElem?_append_right (by omega), hfl, Nat.add_sub_cancel_left, hj]
    rw [List.getElem?_take] at this
    split at this
    · rw [← Array.getElem?_toList]; exact this
    · cases this
theorem LG.pre {X : Type} {E : World → List Value → X → Prop} {p : LP} {w0 : World} {k : Nat} {xs : List X} {vss : List (List Value)} {zs : List Value} {l : List Nat} {g' cap : Nat} {cur' : Array Value} {w4 : World}
    (h : LG E p w0 k xs vss zs l g' cap cur' w4) (ha : LA p w0) : g' ≠ p.g ∧ p.lo ≤ g' ∧ k * p.size + p.size ≤ cur'.size := by
  have := h.rd.2.2.2.2.1
  have := ha.lo; have := ha.lt; have := h.base
  refine ⟨by omega, by omega, ?_⟩
  rw [h.size]
  have := Nat.mul_le_mul_right p.size h.cap1
  rw [Nat.succ_mul] at this
  exact this
/-- one more was read -/
theorem LG.next {X : Type} {E : World → List Value → X → Prop} {tys : List TypeId} {p : LP} {w0 : World} {k : Nat} {xs : List X} {vss : List (List Value)} {zs : List Value} {l r : List Nat} {g' cap : Nat} {cur' : Array Value} {w4 w5 : World} {x : X} {e : Ending}
    (h : LG E p w0 k xs vss zs l g' cap cur' w4) (ha : LA p w0) (hE : KeepE tys E) (hT : p.T ∉ tys) (hR : 109 ∉ tys) (hTR : p.T ≠ 109)
    (hr : REnd p.lo p.rb p.g p.B g' p.T cur' (k * p.size) p.size E (some (x, r)) w4 e w5) :
    e = .returned (.tuple #[]) ∧ ∃ vs, LJ E p w0 (k + 1) (xs ++ [x]) (vss ++ [vs]) r (.slice (some ⟨g', 0, none⟩) (k + 1) cap) w5 := by
  obtain ⟨hf, he, hS, vs, hvl, hEv, hB⟩ := hr
  obtain ⟨q1, q2, q3⟩ := h.pre ha
  have og : Off tys w4 p.g := Off.of_ty h.rd.gty hR
  have og' : Off tys w4 g' := Off.of_ty h.row.ty hT
  have hfl : vss.flatten.length = k * p.size := by
    rw [← h.had, List.length_take]
    simp
    omega
  refine ⟨he, vs, by rw [List.length_append, h.len]; rfl, by rw [List.length_append, h.vlen]; rfl, h.fr.newer' hf (.inr (.inl rfl)) (.inl h.base), hS, ?_, ?_, ?_, ?_⟩
  · exact h.blk.keepR hf ha.ne (by have := ha.lt; have := h.base; omega)
  · intro i us z a b
    have hold := h.els.keep hE hf og og'
    by_cases hi : i < k
    · rw [List.getElem?_append_left (by rw [h.vlen]; exact hi)] at a
      rw [List.getElem?_append_left (by rw [h.len]; exact hi)] at b
      exact hold i us z a b
    · rw [List.getElem?_append_right (by rw [h.vlen]; omega), h.vlen] at a
      rw [List.getElem?_append_right (by rw [h.len]; omega), h.len] at b
      obtain h0 : i - k = 0 := by
        have := (List.getElem?_eq_some_iff.1 a).1
        simp at this
        omega
      rw [h0] at a b
      simp at a b
      subst a b
      exact ⟨hEv, hvl⟩
  · rw [List.flatten_append, List.length_append, hfl, Nat.succ_mul]
    simp [hvl]
  · refine .inr ⟨g', cap, _, rfl, h.base, hB, h.cap1, h.cap2, by rw [putC_size (by omega)]; exact h.size, ?_⟩
    unfold putC
    have hc : cur'.toList.take (k * p.size) ++ vs = (vss ++ [vs]).flatten := by rw [h.had, List.flatten_append]; simp
    rw [← hc]
    have hl : (cur'.toList.take (k * p.size) ++ vs).length = (k + 1) * p.size := by rw [List.length_append, h.had, hfl, hvl, Nat.succ_mul]
    rw [List.take_left' hl]
theorem LG.stop {X : Type} {E : World → List Value → X → Prop} {p : LP} {w0 : World} {k : Nat} {xs : List X} {vss : List (List Value)} {zs : List Value} {l : List Nat} {g' cap : Nat} {cur' : Array Value} {w4 w5 : World} {e : Ending}
    (h : LG E p w0 k xs vss zs l g' cap cur' w4) (ha : LA p w0)
    (hr : REnd p.lo p.rb p.g p.B g' p.T cur' (k * p.size) p.size E none w4 e w5) :
    e = .panicked [unfitP] ∧ RFr w0 w5 p.g p.G := ⟨hr.2, h.fr.newer' hr.1 (.inr (.inl rfl)) (.inl h.base)⟩
/-- all were read -/
theorem LJ.done {X : Type} {E : World → List Value → X → Prop} {p : LP} {w0 : World} {k : Nat} {xs : List X} {vss : List (List Value)} {l : List Nat} {v : Value} {wr : World} (h : LJ E p w0 k xs vss l v wr) :
    REnd p.lo p.rb p.g p.B p.G p.t p.cur p.o 1 (eL E p.T p.size) (some (xs, l)) w0 (.returned (.tuple #[])) wr := by
  refine ⟨h.fr, rfl, h.rd, [v], rfl, ⟨v, rfl, ?_⟩, h.blk⟩
  rcases h.own.2 with ⟨rfl, h0⟩ | ⟨g', cap, cur', rfl, k1, k2, k3, k4, k5, k6⟩
  · have hx := h.len
    exact ⟨none, 0, vss, by rw [hx, h0], by rw [h.vlen, h.len], h.els, fun hl => by omega⟩
  · exact ⟨_, cap, vss, by rw [h.len], by rw [h.vlen, h.len], h.els, fun _ => ⟨g', cur', rfl, k2, by rw [← k6]; exact List.take_prefix _ _⟩⟩
/-- the relation between what is read from the beginning and what from here -/
def LRel {X : Type} (rd : Rd X) (n : Nat) (l0 : List Nat) (k : Nat) (xs : List X) (l : List Nat) : Prop := rdK rd n l0 = (rdK rd (n - k) l).map fun y => (xs ++ y.1, y.2)
theorem LRel.start {X : Type} (rd : Rd X) (n : Nat) (l0 : List Nat) : LRel rd n l0 0 [] l0 := by
  unfold LRel
  simp
theorem LRel.stop {X : Type} {rd : Rd X} {n : Nat} {l0 l : List Nat} {k : Nat} {xs : List X} (h : LRel rd n l0 k xs l) (hk : k < n) (hr : rd l = none) : rdK rd n l0 = none := by
  unfold LRel at h
  obtain ⟨m, hm⟩ : ∃ m, n - k = m + 1 := ⟨n - k - 1, by omega⟩
  rw [h, hm]
  simp only [rdK, hr]
  rfl
theorem LRel.next {X : Type} {rd : Rd X} {n : Nat} {l0 l r : List Nat} {k : Nat} {xs : List X} {x : X} (h : LRel rd n l0 k xs l) (hk : k < n) (hr : rd l = some (x, r)) : LRel rd n l0 (k + 1) (xs ++ [x]) r := by
  unfold LRel at *
  obtain ⟨m, hm⟩ : ∃ m, n - k = m + 1 := ⟨n - k - 1, by omega⟩
  rw [h, hm, show n - (k + 1) = m by omega]
  simp only [rdK, hr, Option.bind_some, Option.map_map]
  congr 1
  funext y
  simp
theorem LRel.done {X : Type} {rd : Rd X} {n : Nat} {l0 l : List Nat} {xs : List X} (h : LRel rd n l0 n xs l) : rdK rd n l0 = some (xs, l) := by
  unfold LRel at h
  rw [h, Nat.sub_self, rdK]
  simp
end Go.Proofs.Ytlfhgmoafgjdcaa
