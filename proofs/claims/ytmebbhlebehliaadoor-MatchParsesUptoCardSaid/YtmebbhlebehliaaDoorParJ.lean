/- What a line that is being read has made so far. -/
import Derived.Test.YtmebbhlebehliaaDoorNum
import Derived.Test.YtmebbhlebehliaaDoorSp
namespace Go.Proofs.YtmebbhlebehliaaDoor
open Go.ChangeShapes Go.WideShapes Go.ChangeAt Go.RowKit Go.Shelf
set_option linter.unusedVariables false
set_option linter.unusedSimpArgs false

theorem infoRows : (Tryd.prog.info? 34).map (fun i => (i.zero, i.size, i.bytes)) = some (some (.slice none 0 0), 1, 24) := by kernel_rfl
/-- rows, each of the call's own -/
def RowsOwnL (w : World) (base : Nat) (kss : List (List Int)) (us : List Value) : Prop := us.length = kss.length ∧ ∀ (i : Nat) (ks : List Int) (x : Value), kss[i]? = some ks → us[i]? = some x → w.ownsRow base 3 1 x ks.length (icells ks)
theorem own_rows {w : World} {base base' n : Nat} {v : Value} {kss : List (List Int)} {us : List Value} (hn : n = kss.length) (h : w.ownsRow base 34 1 v n us) (hu : RowsOwnL w base' kss us) : ∃ A cap, v = .slice A kss.length cap ∧ RowsAt w A kss := by
  subst hn
  rcases h.2 with ⟨rfl, h0⟩ | ⟨g, cap, cur, rfl, _⟩
  · exact ⟨none, 0, by rw [h0], fun hp => by omega⟩
  · refine ⟨_, cap, rfl, fun _ => ⟨g, 0, rfl, fun i ks hi => ?_⟩⟩
    have hc := h.cells (g := g) rfl
    have hlt : i < us.length := by rw [hu.1]; exact (List.getElem?_eq_some_iff.1 hi).1
    have hx : us[i]? = some us[i] := List.getElem?_eq_getElem hlt
    refine ⟨us[i], ?_, own_ints (hu.2 i ks _ hi hx)⟩
    rw [Nat.zero_add, addr_add g i]
    exact hc i _ hx
def ParI (w : World) (Bm B1 : Nat) (st br : Int) (sep : ByteArray) (pss : List (List Int)) (pre : List ByteArray) (W : World) : Prop :=
  ∃ v us r, Blk W Bm 24 #[.int .i64 st, .int .i64 br, v] ∧ W.ownsRow w.heap.size 34 1 v pre.length us ∧ RowsOwnL W w.heap.size (pss.take pre.length) us ∧
    Blk W w.heap.size 24 #[.int .i64 0, .int .i64 0, .slice none 0 0] ∧ Blk W (w.heap.size + 1) 4 #[.bool false] ∧ Blk W B1 9 #[r] ∧ Blk W (B1 + 1) 9 #[.string sep] ∧ Blk W (B1 + 1 + 1) 3 #[.int .i64 0] ∧ Below w.heap.size w W
section
variable {w W W' : World} {Bm B1 : Nat} {st br : Int} {sep : ByteArray} {pss : List (List Int)} {pre : List ByteArray}
theorem ParI.later (h : ParI w Bm B1 st br sep pss pre W) (hb : Below W.heap.size W W') : ParI w Bm B1 st br sep pss pre W' := by
  obtain ⟨v, us, r, h1, h2, h3, h4, h5, h6, h7, h8, h9⟩ := h
  exact ⟨v, us, r, h1.kept hb, mown_below h2 hb, ⟨h3.1, fun i ks x hi hx => mown_below (h3.2 i ks x hi hx) hb⟩, h4.kept hb, h5.kept hb, h6.kept hb, h7.kept hb, h8.kept hb, mmore h9 hb⟩
theorem ParI.own (B : Nat) (hB : w.heap.size ≤ B) : OwnFrom B (ParI w Bm B1 st br sep pss) := fun pre W W' row h hg hr => by
  have hr2 : ∀ r, row = some r → ∃ o : Obj, W.heap[r]? = some o ∧ o.isCells = false := fun r e => (hr r e).2
  obtain ⟨v, us, r, h1, h2, h3, h4, h5, h6, h7, h8, h9⟩ := h
  have hb : ∀ {g t cs}, Blk W g t cs → Blk W' g t cs := fun {g t cs} hx => hx.grown hg (fun e => by
    obtain ⟨o, ho, hc⟩ := hr2 g e.symm
    unfold Blk at hx
    rw [hx] at ho; cases ho; cases hc)
  exact ⟨v, us, r, hb h1, row_own1 h2 hg hr2, ⟨h3.1, fun i ks x hi hx => row_own1 (h3.2 i ks x hi hx) hg hr2⟩, hb h4, hb h5, hb h6, hb h7, hb h8, below_own1 h9 hg hB (fun r e => (hr r e).1)⟩
theorem ParI.stp (hm : w.heap.size + 1 < Bm) (h1m : Bm < B1) (h : ParI w Bm B1 st br sep pss pre W) (hs : StpS B1 W W') : ParI w Bm B1 st br sep pss pre W' := by
  obtain ⟨q, rfl⟩ := hs
  obtain ⟨v, us, r, h1, h2, h3, h4, h5, h6, h7, h8, h9⟩ := h
  refine ⟨v, us, q, h1.else_ (by show B1 ≠ Bm; omega) _, mown_set h2 (h6.own_ne h2 (by decide)).symm _, ⟨h3.1, fun i ks x hi hx => mown_set (h3.2 i ks x hi hx) (h6.own_ne (h3.2 i ks x hi hx) (by decide)).symm _⟩, h4.else_ (by show B1 ≠ _; omega) _, h5.else_ (by show B1 ≠ _; omega) _, h6.put_ 0 q, h7.else_ (by show B1 ≠ _; omega) _, h8.else_ (by show B1 ≠ _; omega) _, h9.setCell (by show w.heap.size ≤ B1; omega) _⟩
theorem stp_keeps (A B : World) (k : Nat) (o : Obj) (h : StpS B1 A B) (hk : A.heap[k]? = some o) (ho : o.isCells = false) : B.heap[k]? = some o := by
  obtain ⟨v, rfl⟩ := h
  exact (KeepsOthers.setCell A ⟨B1, 0, none⟩ v).same k o hk ho
/-- a row more -/
theorem ParI.more {w1 : World} {v v' pv : Value} {us : List Value} {r : Value} {ns : List Int} {x : ByteArray} (hm : w.heap.size + 1 < Bm) (hns : pss[pre.length]? = some ns) (hpv : W.ownsRow w.heap.size 3 1 pv ns.length (icells ns))
    (h1 : Blk W Bm 24 #[.int .i64 st, .int .i64 br, v]) (h2 : W.ownsRow w.heap.size 34 1 v pre.length us) (h3 : RowsOwnL W w.heap.size (pss.take pre.length) us)
    (h4 : Blk W w.heap.size 24 #[.int .i64 0, .int .i64 0, .slice none 0 0]) (h5 : Blk W (w.heap.size + 1) 4 #[.bool false]) (h6 : Blk W B1 9 #[r]) (h7 : Blk W (B1 + 1) 9 #[.string sep]) (h8 : Blk W (B1 + 1 + 1) 3 #[.int .i64 0]) (h9 : Below w.heap.size w W)
    (hown : w1.ownsRow w.heap.size 34 1 v' (pre.length + 1) (us ++ [pv])) (hg : (W.alloc (.cells #[pv] 34)).grownBy w1 v.ownBlock) :
    Blk w1 Bm 24 #[.int .i64 st, .int .i64 br, v] ∧ ParI w Bm B1 st br sep pss (pre ++ [x]) (w1.setCell ⟨Bm, 2, none⟩ v') ∧ KpS B1 (B1 + 1) (B1 + 1 + 1) W (w1.setCell ⟨Bm, 2, none⟩ v') ∧ KeepsOthers W (w1.setCell ⟨Bm, 2, none⟩ v') := by
  have ha : ∀ {g t cs}, Blk W g t cs → t ≠ 34 → Blk w1 g t cs := fun {g t cs} hx ht => (hx.kept (m1 W _)).grown hg (hx.own_ne h2 (Ne.symm ht))
  have k1 := ha h1 (by decide)
  have k4 := ha h4 (by decide)
  have k5 := ha h5 (by decide)
  have k6 := ha h6 (by decide)
  have k7 := ha h7 (by decide)
  have k8 := ha h8 (by decide)
  have hp : w1.ownsRow w.heap.size 3 1 pv ns.length (icells ns) := (mown_below hpv (m1 W _)).kept hg (by
    rcases mown_ne hpv h2 (by decide) with h | h
    · exact .inl h
    · exact .inr h)
  have hus : ∀ (i : Nat) (ks : List Int) (y : Value), (pss.take pre.length)[i]? = some ks → us[i]? = some y → w1.ownsRow w.heap.size 3 1 y ks.length (icells ks) := fun i ks y hi hy => (mown_below (h3.2 i ks y hi hy) (m1 W _)).kept hg (by
    rcases mown_ne (h3.2 i ks y hi hy) h2 (by decide) with h | h
    · exact .inl h
    · exact .inr h)
  have hpl : pre.length < pss.length := (List.getElem?_eq_some_iff.1 hns).1
  have hul : us.length = pre.length := by have := h3.1; simp at this; omega
  have e12 : ∀ {t : TypeId} {cs : Array Value} {g : Nat}, Blk w1 g t cs → t ≠ 24 → Bm ≠ g := fun hx ht e => by
    subst e
    unfold Blk at hx k1
    rw [hx] at k1
    injection k1 with k1
    injection k1 with _ k1
    exact ht k1
  refine ⟨k1, ⟨v', us ++ [pv], r, ?_, ?_, ⟨?_, ?_⟩, k4.else_ (by show Bm ≠ _; omega) _, k5.else_ (e12 k5 (by decide)) _, k6.else_ (e12 k6 (by decide)) _, k7.else_ (e12 k7 (by decide)) _, k8.else_ (e12 k8 (by decide)) _, ?_⟩, ⟨?_, ?_, ?_⟩, ?_⟩
  · exact k1.put_ 2 v'
  · rw [List.length_append]
    exact mown_set hown (k1.own_ne hown (by decide)).symm v'
  · rw [List.length_append, List.length_take, List.length_append, hul]; simp; omega
  · intro i ks y hi hy
    have hcore : w1.ownsRow w.heap.size 3 1 y ks.length (icells ks) := by
      rw [List.length_append] at hi
      simp only [List.length_cons, List.length_nil] at hi
      by_cases c : i < pre.length
      · rw [List.getElem?_append_left (by omega)] at hy
        refine hus i ks y ?_ hy
        rw [List.getElem?_take_of_lt c]
        rwa [List.getElem?_take_of_lt (by omega)] at hi
      · have hi2 := (List.getElem?_eq_some_iff.1 hy).1
        rw [List.length_append] at hi2
        simp at hi2
        obtain rfl : i = pre.length := by omega
        rw [List.getElem?_append_right (by omega), hul, Nat.sub_self] at hy
        simp at hy
        subst hy
        rw [List.getElem?_take_of_lt (by omega), hns] at hi
        injection hi with hi
        subst hi
        exact hp
    exact mown_set hcore (k1.own_ne hcore (by decide)).symm v'
  · refine ((h9.alloc h9.size _).grown hg (by have := h9.size; simp; omega) (fun j ej => ?_)).setCell (by show w.heap.size ≤ Bm; omega) _
    rcases h2.2 with ⟨rfl, _⟩ | ⟨g, cap, cur, rfl, hb, _⟩
    · simp [Value.ownBlock] at ej
    · obtain rfl : g = j := by simpa [Value.ownBlock] using ej
      exact hb
  · exact (k6.else_ (e12 k6 (by decide)) v').trans h6.symm
  · exact (k7.else_ (e12 k7 (by decide)) v').trans h7.symm
  · exact (k8.else_ (e12 k8 (by decide)) v').trans h8.symm
  · refine ((KeepsOthers.alloc W _).trans (KeepsOthers.of_grownBy hg fun j o ej hj => ?_)).trans (KeepsOthers.setCell _ _ _)
    rcases (mown_below h2 (m1 W (.cells #[pv] 34))).2 with ⟨rfl, _⟩ | ⟨g, cap, cur, rfl, _, hgb, _⟩
    · simp [Value.ownBlock] at ej
    · obtain rfl : g = j := by simpa [Value.ownBlock] using ej
      rw [hgb] at hj; cases hj; rfl
end
end Go.Proofs.YtmebbhlebehliaaDoor
