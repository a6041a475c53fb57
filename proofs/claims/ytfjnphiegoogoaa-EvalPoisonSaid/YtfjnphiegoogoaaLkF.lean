/- What a leaf of a condition is, as a contract. -/
import Derived.Test.YtfjnphiegoogoaaLkE
namespace Go.Proofs.Ytfjnphiegoogoaa
open Go.ChangeShapes Go.WideShapes Go.ChangeAt Go.RowKit Go.Fl
set_option linter.unusedVariables false
set_option linter.unusedSimpArgs false

/-- a node lies at an address -/
def NodeC (w : World) (b o : Nat) (op vk : Int) (vb : Nat) (pos attr : Int) : Prop :=
  w.cell? ⟨b, o, none⟩ = some (.int .i64 op) ∧ w.cell? ⟨b, o + 3, none⟩ = some (.int .i64 vk) ∧ w.cell? ⟨b, o + 4, none⟩ = some (.int .u64 (vb : Int)) ∧ w.cell? ⟨b, o + 5, none⟩ = some (.int .i64 pos) ∧ w.cell? ⟨b, o + 6, none⟩ = some (.int .i64 attr)
theorem NodeC.later {w w1 : World} {b o : Nat} {op vk : Int} {vb : Nat} {pos attr : Int} (h : NodeC w b o op vk vb pos attr) (hb : Below w.heap.size w w1) : NodeC w1 b o op vk vb pos attr :=
  ⟨cell_later hb h.1, cell_later hb h.2.1, cell_later hb h.2.2.1, cell_later hb h.2.2.2.1, cell_later hb h.2.2.2.2⟩

def aggP (op : Int) (vs : List (Int × Nat)) : Int × Nat :=
  if op = 27 then lastP vs else if op = 28 then sumP vs else if op = 29 then extP false vs else if op = 30 then extP true vs else if op = 31 then meanP vs else headP vs
def leafP (op vk : Int) (vb : Nat) (pos attr : Int) (es : List Ev) (bs : List (List Int)) (cur : Int) : Int × Nat :=
  if op = 40 then (clK vk vb, clB vk vb) else if op = 41 then attrP es cur attr else if op = 25 then (1, nU ((placesP bs pos).length : Int)) else
  if placesP bs pos = [] then (0, 0) else aggP op (attrsP es bs pos attr)

/-- the memory of a leaf that is asked -/
def LfJ (w : World) (E B : Option Addr) (ne ce nb cb : Nat) (cur : Int) (b o : Nat) (op vk : Int) (vb : Nat) (pos attr : Int) (wr : World) : Prop :=
  Blk wr w.heap.size 34 #[.slice E ne ce, .slice B nb cb, .int .i64 cur] ∧ Blk wr (w.heap.size + 1) 25 #[.int .i64 0, .int .u64 0] ∧ NodeC wr b o op vk vb pos attr ∧ Below w.heap.size w wr
section
variable {w wr w1 : World} {E B : Option Addr} {ne ce nb cb : Nat} {cur : Int} {b o : Nat} {op vk : Int} {vb : Nat} {pos attr : Int}
theorem LfJ.later (h : LfJ w E B ne ce nb cb cur b o op vk vb pos attr wr) (hb : Below wr.heap.size wr w1) : LfJ w E B ne ce nb cb cur b o op vk vb pos attr w1 :=
  ⟨h.1.kept hb, h.2.1.kept hb, h.2.2.1.later hb, mmore h.2.2.2 hb⟩
theorem LfJ.drew (h : LfJ w E B ne ce nb cb cur b o op vk vb pos attr wr) : LfJ w E B ne ce nb cb cur b o op vk vb pos attr wr.drew := ⟨h.1, h.2.1, h.2.2.1, h.2.2.2.drew⟩
theorem LfJ.facts (h : LfJ w E B ne ce nb cb cur b o op vk vb pos attr wr) :
    wr.cell? ⟨w.heap.size, 0, none⟩ = some (.slice E ne ce) ∧ wr.cell? ⟨w.heap.size, 1, none⟩ = some (.slice B nb cb) ∧ wr.cell? ⟨w.heap.size, 2, none⟩ = some (.int .i64 cur) ∧
    wr.cell? ⟨b, o, none⟩ = some (.int .i64 op) ∧ wr.cell? ⟨b, o + 3, none⟩ = some (.int .i64 vk) ∧ wr.cell? ⟨b, o + 4, none⟩ = some (.int .u64 (vb : Int)) ∧ wr.cell? ⟨b, o + 5, none⟩ = some (.int .i64 pos) ∧ wr.cell? ⟨b, o + 6, none⟩ = some (.int .i64 attr) ∧
    wr.cell? ⟨w.heap.size + 1, 0, none⟩ = some (.int .i64 0) ∧ wr.cell? ⟨w.heap.size + 1, 1, none⟩ = some (.int .u64 0) ∧ wr.frozen? ⟨w.heap.size + 1, 0, none⟩ = false ∧ wr.frozen? ⟨w.heap.size + 1, 1, none⟩ = false :=
  ⟨h.1.cell 0, h.1.cell 1, h.1.cell 2, h.2.2.1.1, h.2.2.1.2.1, h.2.2.1.2.2.1, h.2.2.1.2.2.2.1, h.2.2.1.2.2.2.2, h.2.1.cell 0, h.2.1.cell 1, h.2.1.free 0, h.2.1.free 1⟩
theorem LfJ.start (hn : NodeC w b o op vk vb pos attr) : LfJ w E B ne ce nb cb cur b o op vk vb pos attr ((w.alloc (lookO E B ne ce nb cb cur)).alloc (.cells #[.int .i64 0, .int .u64 0] 25)) :=
  ⟨(Blk.made w _ _).kept (m1 _ _), by have := Blk.made (w.alloc (lookO E B ne ce nb cb cur)) 25 #[.int .i64 0, .int .u64 0]; simpa using this, hn.later (m2 _ _ _), m2 _ _ _⟩
theorem LfJ.below (h : LfJ w E B ne ce nb cb cur b o op vk vb pos attr wr) (x y : Value) : Below w.heap.size w ((wr.setCell ⟨w.heap.size + 1, 0, none⟩ x).setCell ⟨w.heap.size + 1, 1, none⟩ y) :=
  (h.2.2.2.setCell (by show w.heap.size ≤ w.heap.size + 1; omega) _).setCell (by show w.heap.size ≤ w.heap.size + 1; omega) _
/-- the memory of a look -/
def LookIn (w : World) (E B : Option Addr) (es : List Ev) (bs : List (List Int)) : Prop :=
  EvsAt w E es ∧ KindsAt w B bs ∧ es.length ≤ 9223372036854775807 ∧ (∀ e ∈ es, e.2.2.length ≤ 9223372036854775807) ∧ bs.length ≤ 9223372036854775807 ∧ ∀ l ∈ bs, l.length * 16 ≤ 281474976710656
theorem LookIn.later {es : List Ev} {bs : List (List Int)} (h : LookIn w E B es bs) (hb : Below w.heap.size w w1) : LookIn w1 E B es bs := ⟨h.1.later hb, h.2.1.later hb, h.2.2⟩
end
theorem places_le {w : World} {E B : Option Addr} {es : List Ev} {bs : List (List Int)} (h : LookIn w E B es bs) (pos : Int) : (placesP bs pos).length * 16 ≤ 281474976710656 := by
  unfold placesP
  split
  · simp
  · cases hx : bs[pos.toNat]? with
    | none => simp
    | some l => exact h.2.2.2.2.2 l (List.mem_of_getElem? hx)

set_option maxHeartbeats 4000000 in
set_option maxRecDepth 100000 in
theorem leaf_const (E B : Option Addr) (ne ce nb cb : Nat) (cur : Int) (b o : Nat) (vk : Int) (vb : Nat) (pos attr : Int) (w : World) (hn : NodeC w b o 40 vk vb pos attr) (hvb : vb < 18446744073709551616) :
    Calls Try.prog 54 #[lookV E B ne ce nb cb cur, .pointer (some ⟨b, o, none⟩)] w (VIs (clK vk vb, clB vk vb) w) := by
  have J := LfJ.start (E := E) (B := B) (ne := ne) (ce := ce) (nb := nb) (cb := cb) (cur := cur) hn
  obtain ⟨j0, j1, j2, j3, j4, j5, j6, j7, j8, j9, j10, j11⟩ := J.facts
  have O := Lib.hid (fun w => clean_any vk vb w hvb)
  generalize clK vk vb = k at *
  generalize clB vk vb = c at *
  replace J := Lib.hid J
  clear hn j0 j1 j2 j8 j9 j10 j11
  go_enter Try.func54, Try.ntmps54
  go_wp2_with fail
  refine (O.out _).mono ?_; rintro e w1 ⟨rfl, hb1⟩
  have J1 := J.out.later hb1
  obtain ⟨l0, l1, l2, l3, l4, l5, l6, l7, l8, l9, l10, l11⟩ := J1.facts
  obtain ⟨_, r1, r2⟩ := put2 (w := w1) (g := w.heap.size + 1) (.int .i64 k) (.int .u64 (c : Int)) l8 l9
  replace r1 := Lib.hid r1
  replace r2 := Lib.hid r2
  replace J1 := Lib.hid J1
  clear j3 j4 j5 j6 j7 l0 l1 l2 l3 l4 l5 l6 l7
  go_wp2
  exact bodyPost_ret (v := .agg #[.int .i64 k, .int .u64 (c : Int)]) (by simp [results, Try.results54, go_sem, r1.out, r2.out]) rfl (.mk rfl (J1.out.below _ _))

set_option maxHeartbeats 4000000 in
set_option maxRecDepth 100000 in
theorem leaf_cur (E B : Option Addr) (ce cb : Nat) (cur : Int) (es : List Ev) (bs : List (List Int)) (b o : Nat) (vk : Int) (vb : Nat) (pos attr : Int) (w : World) (hn : NodeC w b o 41 vk vb pos attr) (hL : LookIn w E B es bs) :
    Calls Try.prog 54 #[lookV E B es.length ce bs.length cb cur, .pointer (some ⟨b, o, none⟩)] w (VIs (attrP es cur attr) w) := by
  have J := LfJ.start (E := E) (B := B) (ne := es.length) (ce := ce) (nb := bs.length) (cb := cb) (cur := cur) hn
  obtain ⟨j0, j1, j2, j3, j4, j5, j6, j7, j8, j9, j10, j11⟩ := J.facts
  have hLu := hL.later J.drew.2.2.2
  have O := Lib.hid (attribute_any E B ce bs.length cb cur es cur attr _ hLu.1 hLu.2.2.1 hLu.2.2.2.1)
  generalize attrP es cur attr = x at *
  obtain ⟨xk, xb⟩ := x
  replace J := Lib.hid J
  clear hn hL hLu j1 j4 j5 j6 j8 j9 j10 j11
  go_enter Try.func54, Try.ntmps54
  go_wp2_with fail
  go_region_law (go_simp; go_at_call 78; refine O.out.mono ?_; rintro e w1 ⟨rfl, hb1⟩; have J1 := J.out.drew.later hb1; obtain ⟨l0, l1, l2, l3, l4, l5, l6, l7, l8, l9, l10, l11⟩ := J1.facts)
  all_goals obtain ⟨_, r1, r2⟩ := put2 (w := w1) (g := w.heap.size + 1) (.int .i64 xk) (.int .u64 (xb : Int)) l8 l9
  all_goals replace r1 := Lib.hid r1
  all_goals replace r2 := Lib.hid r2
  all_goals replace J1 := Lib.hid J1
  all_goals clear l0 l1 l2 l3 l4 l5 l6 l7
  all_goals go_wp2
  all_goals exact bodyPost_ret (v := .agg #[.int .i64 xk, .int .u64 (xb : Int)]) (by simp [results, Try.results54, go_sem, r1.out, r2.out]) rfl (.mk rfl (J1.out.below _ _))
end Go.Proofs.Ytfjnphiegoogoaa
