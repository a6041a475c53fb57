/- event.Parse, as a contract. -/
import Derived.Test.YtkmlbifhpkfinaaGreatDoorLnE
namespace Go.Proofs.YtkmlbifhpkfinaaGreatDoor
open Go.ChangeShapes Go.WideShapes Go.ChangeAt Go.RowKit Go.Fl
set_option linter.unusedVariables false
set_option linter.unusedSimpArgs false

/-- this line is this event's -/
def IsLine (ts : List ST) (ss : List ByteArray) (s : ByteArray) (ty tm : Int) (vs : List (Int × Nat)) : Prop := EvOk ts ss ty tm vs ∧ (∀ v ∈ vs, v.2 < 18446744073709551616) ∧ s.data.toList = lineB ts ss ty tm vs
def OneLine (ts : List ST) (ss : List ByteArray) (s : ByteArray) (ty tm : Int) (vs : List (Int × Nat)) : Prop := IsLine ts ss s ty tm vs ∧ ∀ ty' tm' vs', IsLine ts ss s ty' tm' vs' → ty = ty' ∧ tm = tm' ∧ vs = vs'
/-- a line is read: the event whose line it is, or none -/
def ParseR (ts : List ST) (ss : List ByteArray) (s : ByteArray) (w : World) (e : Ending) (w' : World) : Prop :=
  (∃ (ty tm : Int) (B : Option Addr) (cap : Nat) (vs : List (Int × Nat)), e = .returned (.tuple #[.agg #[.int .i64 ty, .int .i64 tm, .slice B vs.length cap], .bool true]) ∧ OneLine ts ss s ty tm vs ∧ RowV w' B vs.length vs ∧ vs.length * 16 ≤ 140737488351232 ∧ Below w.heap.size w w') ∨
  (e = .returned (.tuple #[.agg #[.int .i64 0, .int .i64 0, .slice none 0 0], .bool false]) ∧ (∀ ty tm vs, ¬ IsLine ts ss s ty tm vs) ∧ Below w.heap.size w w')
theorem line_ne {ts : List ST} {ss : List ByteArray} {ty tm : Int} {vs : List (Int × Nat)} (h : EvOk ts ss ty tm vs) : lineB ts ss ty tm vs ≠ [] := by
  obtain ⟨t, x, rfl, hx, h0, h1, hlen, hnm, h8, hv⟩ := ok_parts h
  unfold lineB lineW
  simp only [Int.toNat_natCast, hx, Option.map_some, Option.getD_some]
  rw [joinW_cons]
  simp
theorem RowV.put {w : World} {B : Option Addr} {vs : List (Int × Nat)} {g : Nat} {t : TypeId} {a b : Int} {A : Option Addr} {m c : Nat} (h : RowV w B vs.length vs) (hb : Blk w g t #[.int .i64 a, .int .i64 b, .slice A m c]) (off : Nat) (u : Value) :
    RowV (w.setCell ⟨g, off, none⟩ u) B vs.length vs := by
  refine ⟨h.1, h.2.1, fun hn => ?_⟩
  obtain ⟨bk, o, rfl, hc⟩ := h.2.2 hn
  have hne : bk ≠ g := by
    rintro rfl
    have h1 := (hc 0 _ _ (List.getElem?_eq_getElem hn)).2
    rw [hb.cell] at h1
    match o, h1 with
    | 0, h1 => simp at h1
    | 1, h1 => simp at h1
    | o + 2, h1 => simp at h1
  refine ⟨bk, o, rfl, fun i k c' hi => ?_⟩
  obtain ⟨h0, h1⟩ := hc i k c' hi
  have q : ∀ j, (⟨g, off, none⟩ : Addr) ≠ ⟨bk, j, none⟩ := fun j e => hne (by injection e with e; exact e.symm)
  exact ⟨(World.cell?_setCell_other (h := q _) ..).trans h0, (World.cell?_setCell_other (h := q _) ..).trans h1⟩
theorem toList_false {a b : ByteArray} (h : a ≠ b) : (a.toList == b.toList) = false := toList_ne h
theorem size_empty {s : ByteArray} (h : s.data.toList = []) : s = ⟨#[]⟩ := bl_ext h

set_option maxHeartbeats 8000000 in
set_option maxRecDepth 100000 in
theorem evparse_any (A C : Option Addr) (cap capC : Nat) (ts : List ST) (ss : List ByteArray) (s : ByteArray) (w : World) (hA : TypesAt w A ts) (hS : SymsAt w C ss) (b1 : ts.length * 40 ≤ 140737488351232) (b2 : ∀ t ∈ ts, t.2.length * 24 ≤ 140737488351232) (hn : ss.length ≤ 140737488355328) (hc1 : ss.length ≤ capC) (hc2 : capC ≤ maxLen) (hs : s.size ≤ 281474976710656)
    (hT : TzCell w) (hE : ErrCells w) (htab : Lib.TabIs Tryz.prog w "internal/strconv.uint64pow10" .u64 Lib.pow10Tab) :
    Calls Tryz.prog 11 #[.agg #[.slice A ts.length cap, .slice C ss.length capC], .string s] w (ParseR ts ss s w) := by
  have hu := m2 w (.cells #[.slice A ts.length cap, .slice C ss.length capC] 31) (.cells #[.int .i64 0, .int .i64 0, .slice none 0 0] 36)
  have k0 : Blk ((w.alloc (.cells #[.slice A ts.length cap, .slice C ss.length capC] 31)).alloc (.cells #[.int .i64 0, .int .i64 0, .slice none 0 0] 36)) w.heap.size 31 #[.slice A ts.length cap, .slice C ss.length capC] := (Blk.made _ _ _).kept (m1 _ _)
  have k1 : Blk ((w.alloc (.cells #[.slice A ts.length cap, .slice C ss.length capC] 31)).alloc (.cells #[.int .i64 0, .int .i64 0, .slice none 0 0] 36)) (w.heap.size + 1) 36 #[.int .i64 0, .int .i64 0, .slice none 0 0] := by
    have := Blk.made (w.alloc (.cells #[.slice A ts.length cap, .slice C ss.length capC] 31)) 36 #[.int .i64 0, .int .i64 0, .slice none 0 0]
    simpa using this
  have tab := Lib.hid (Lib.tabBelow_of_tabIs (Lib.tabBelow_of_tabIs htab _ hu))
  have hTu := Lib.hid (hT.later hu)
  have hEu := Lib.hid (hE.later hu)
  have hAu := Lib.hid (hA.later hu)
  have hSu := Lib.hid (hS.later hu)
  replace b2 := Lib.hid b2
  clear hA hS htab hT hE
  go_enter Tryz.func11, Tryz.ntmps11
  go_wp2_with fail
  generalize (w.alloc (.cells #[.slice A ts.length cap, .slice C ss.length capC] 31)).alloc (.cells #[.int .i64 0, .int .i64 0, .slice none 0 0] 36) = u at *
  refine (guess_any A C cap capC ts ss s u hAu.out hSu.out b1 b2.out hn hs hTu.out hEu.out).mono ?_; rintro e w1 ⟨ty, tm, B, capB, vs, rfl, hR, hl, hG, hb1⟩
  have K0 := k0.kept hb1
  have K1 := k1.kept hb1
  have hu1 := hb1.size
  have hr := K1.lt
  clear k0 k1
  go_upto_region 2 with (fail)
  have hw2 := m1 w1 (.cells #[.int .i64 ty, .int .i64 tm, .slice B vs.length capB] 36)
  have E2 := Blk.made w1 36 #[.int .i64 ty, .int .i64 tm, .slice B vs.length capB]
  have hB2 := mmore hb1 hw2
  have S2 := K0.kept hw2
  have R2 := K1.kept hw2
  have V2 := hR.later hw2
  have ne1 : ¬ w1.heap.size = w.heap.size + 1 := by omega
  have ne2 : ¬ w.heap.size + 1 = w1.heap.size := by omega
  clear K0 K1 hw2 hR
  generalize w1.heap.size = g6 at *
  generalize w1.alloc (.cells #[.int .i64 ty, .int .i64 tm, .slice B vs.length capB] 36) = w2 at *
  have d0 : w2.cell? ⟨w.heap.size, 0, none⟩ = some (.slice A ts.length cap) := S2.cell 0
  have d1 : w2.cell? ⟨w.heap.size, 1, none⟩ = some (.slice C ss.length capC) := S2.cell 1
  have e0 : w2.cell? ⟨g6, 0, none⟩ = some (.int .i64 ty) := E2.cell 0
  have e1 : w2.cell? ⟨g6, 1, none⟩ = some (.int .i64 tm) := E2.cell 1
  have e2 : w2.cell? ⟨g6, 2, none⟩ = some (.slice B vs.length capB) := E2.cell 2
  have z0 : w2.cell? ⟨w.heap.size + 1, 0, none⟩ = some (.int .i64 0) := R2.cell 0
  have z1 : w2.cell? ⟨w.heap.size + 1, 1, none⟩ = some (.int .i64 0) := R2.cell 1
  have z2 : w2.cell? ⟨w.heap.size + 1, 2, none⟩ = some (.slice none 0 0) := R2.cell 2
  have f0 : w2.frozen? ⟨w.heap.size + 1, 0, none⟩ = false := R2.free 0
  have f1 : w2.frozen? ⟨w.heap.size + 1, 1, none⟩ = false := R2.free 1
  have f2 : w2.frozen? ⟨w.heap.size + 1, 2, none⟩ = false := R2.free 2
  have put : ∀ (W : World) (p q r : Value), Below w.heap.size w W → Below w.heap.size w (((W.setCell ⟨w.heap.size + 1, 0, none⟩ p).setCell ⟨w.heap.size + 1, 1, none⟩ q).setCell ⟨w.heap.size + 1, 2, none⟩ r) := fun W p q r hB =>
    ((hB.setCell (p := ⟨w.heap.size + 1, 0, none⟩) (by show w.heap.size ≤ w.heap.size + 1; omega) p).setCell (p := ⟨w.heap.size + 1, 1, none⟩) (by show w.heap.size ≤ w.heap.size + 1; omega) q).setCell (p := ⟨w.heap.size + 1, 2, none⟩) (by show w.heap.size ≤ w.heap.size + 1; omega) r
  replace put := Lib.hid put
  by_cases hs0 : s = ⟨#[]⟩
  · have hno : ∀ ty tm vs, ¬ IsLine ts ss s ty tm vs := fun ty tm vs h => line_ne h.1 (by rw [← h.2.2, hs0])
    have hem : s.toList.isEmpty = true := by rw [hs0, ByteArray.toList_eq]; rfl
    have hB3 := mmore hu hB2
    replace hno := Lib.hid hno
    clear hs0 hG hs
    go_wp2
    exact bodyPost_ret (v := .tuple #[.agg #[.int .i64 0, .int .i64 0, .slice none 0 0], .bool false]) (by simp [results, Tryz.results11, go_sem, *]) rfl (.inr ⟨rfl, hno.out, put.out _ _ _ _ hB3⟩)
  · have hem : s.toList.isEmpty = false := by
      cases h : s.toList with
      | nil => exact absurd (size_empty (by rw [← ByteArray.toList_eq]; exact h)) hs0
      | cons a r => rfl
    replace hG := Lib.hid hG
    replace hs0 := Lib.hid hs0
    have LN := fun w h1 h2 h3 h4 h5 => line_any A C B cap capC capB ts ss ty tm vs w h1 h2 h3 b1 b2.out hc1 hc2 hl h4 h5
    replace LN := Lib.hid LN
    replace V2 := Lib.hid V2
    clear z0 z1 z2 f0 f1 f2
    go_wp2_with fail
    refine (LN.out _ (hAu.out.later hB2) (hSu.out.later hB2) V2.out (hTu.out.later hB2) (tab.out _ hB2)).mono ?_; rintro e w3 ⟨x, rfl, hx, hb3⟩
    have hB3 := mmore hB2 hb3
    have R3 := R2.kept hb3
    have z0 : w3.cell? ⟨w.heap.size + 1, 0, none⟩ = some (.int .i64 0) := R3.cell 0
    have z1 : w3.cell? ⟨w.heap.size + 1, 1, none⟩ = some (.int .i64 0) := R3.cell 1
    have z2 : w3.cell? ⟨w.heap.size + 1, 2, none⟩ = some (.slice none 0 0) := R3.cell 2
    have f0 : w3.frozen? ⟨w.heap.size + 1, 0, none⟩ = false := R3.free 0
    have f1 : w3.frozen? ⟨w.heap.size + 1, 1, none⟩ = false := R3.free 1
    have f2 : w3.frozen? ⟨w.heap.size + 1, 2, none⟩ = false := R3.free 2
    have e0 := cell_later hb3 e0
    have e1 := cell_later hb3 e1
    have e2 := cell_later hb3 e2
    have hB4 := mmore hu hB3
    have V3 := V2.out.later hb3
    by_cases hxs : x = s
    · have hq : (x.toList == s.toList) = true := by rw [hxs]; simp
      have hok : EvOk ts ss ty tm vs := Classical.byContradiction fun h => hs0.out (hxs ▸ hx.2 h)
      have hIs : OneLine ts ss s ty tm vs := ⟨⟨hok, V3.2.1, by rw [← hxs, hx.1 hok, bl_list]⟩, fun ty' tm' vs' h => hG.out ty' tm' vs' h.1 h.2.1 h.2.2⟩
      have V4 : RowV (((w3.setCell ⟨w.heap.size + 1, 0, none⟩ (.int .i64 ty)).setCell ⟨w.heap.size + 1, 1, none⟩ (.int .i64 tm)).setCell ⟨w.heap.size + 1, 2, none⟩ (.slice B vs.length capB)) B vs.length vs := by
        have p1 := V3.put R3 0 (.int .i64 ty)
        have p2 := p1.put (R3.put_ 0 (.int .i64 ty)) 1 (.int .i64 tm)
        exact p2.put ((R3.put_ 0 (.int .i64 ty)).put_ 1 (.int .i64 tm)) 2 (.slice B vs.length capB)
      replace hIs := Lib.hid hIs
      replace V4 := Lib.hid V4
      clear hx hG hok hxs V3
      go_wp2
      exact bodyPost_ret (v := .tuple #[.agg #[.int .i64 ty, .int .i64 tm, .slice B vs.length capB], .bool true]) (by simp [results, Tryz.results11, go_sem, *]) rfl (.inl ⟨_, _, _, _, vs, rfl, hIs.out, V4.out, hl, put.out _ _ _ _ hB4⟩)
    · have hq : (x.toList == s.toList) = false := toList_ne hxs
      have hno : ∀ ty tm vs, ¬ IsLine ts ss s ty tm vs := fun ty' tm' vs' h => by
        obtain ⟨rfl, rfl, rfl⟩ := hG.out ty' tm' vs' h.1 h.2.1 h.2.2
        exact hxs (by rw [hx.1 h.1]; exact (bl_ext h.2.2).symm)
      replace hno := Lib.hid hno
      clear hx hG hxs V3
      go_wp2
      exact bodyPost_ret (v := .tuple #[.agg #[.int .i64 0, .int .i64 0, .slice none 0 0], .bool false]) (by simp [results, Tryz.results11, go_sem, *]) rfl (.inr ⟨rfl, hno.out, put.out _ _ _ _ hB4⟩)
end Go.Proofs.YtkmlbifhpkfinaaGreatDoor
