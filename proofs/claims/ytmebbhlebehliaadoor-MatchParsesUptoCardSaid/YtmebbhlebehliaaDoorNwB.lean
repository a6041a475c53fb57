/- numbersOf at every text: some numbers, or none. -/
import Derived.Test.YtmebbhlebehliaaDoorNwA
import Derived.Test.YtmebbhlebehliaaDoorNum
import Derived.Lib.AtoiAllCases
import Derived.Shelf.Strconv.AtoiAll
namespace Go.Proofs.YtmebbhlebehliaaDoor
open Go.RowKit Go.Shelf
set_option linter.unusedVariables false
set_option linter.unusedSimpArgs false
attribute [local go_sem] Oper.semAt_some

/-- what is said of the world at the call: the tables, and the two errors -/
def ErrC (W : World) : Prop := (∃ ev, W.cell? ⟨5, 0, none⟩ = some ev ∧ (ev = .nilIface ∨ ∃ te pe, ev = .iface te pe)) ∧ (∃ ev, W.cell? ⟨6, 0, none⟩ = some ev ∧ (ev = .nilIface ∨ ∃ te pe, ev = .iface te pe))
theorem ErrC.later {w w1 : World} (h : ErrC w) (hb : Below w.heap.size w w1) : ErrC w1 := by
  obtain ⟨⟨e1, h1, k1⟩, ⟨e2, h2, k2⟩⟩ := h
  exact ⟨⟨e1, cell_later hb h1, k1⟩, ⟨e2, cell_later hb h2, k2⟩⟩
abbrev SomeWord (s : ByteArray) := { x : ByteArray // x.size ≤ s.size }
theorem kpw_b {Bs : Nat} {w0 w : World} (h0 : w0.heap.size ≤ w.heap.size) (hB : Bs < w.heap.size) (W : World) (l : Nat) (o o' : Obj) (hl : w.heap.size ≤ l) (h : W.heap[l]? = some o) (_ : o.isCells = false) (_ : o.isWalk = false) : KpW w0 Bs W (W.putObj l o') := by
  have hb : Below w.heap.size W (W.putObj l o') := (Below.refl w.heap.size W).grown (grownBy_putObj' W l o') (by have := (Array.getElem?_eq_some_iff.1 h).1; omega) (fun k e => by cases e; omega)
  exact ⟨hb.cell (p := ⟨Bs, 0, none⟩) hB, fun hw => below_own1 (B := w.heap.size) hw (grownBy_putObj' W l o') h0 (fun r e => by cases e; exact hl)⟩
theorem grown_below0 {W W' : World} (h : Below W.heap.size W W') : W.grownBy W' none := ⟨h.os, h.tape, h.output, h.size, fun k hk _ => h.block k hk⟩
theorem words_stops (n : Nat) (hn : 1 ≤ n) (Bs : Nat) (s : ByteArray) (hs : s.size ≤ 281474976710656) (w0 w : World) (hb0 : Below w0.heap.size w0 w) (hT : ScanTabs w0) (hB : Bs < w.heap.size) (hc : w.cell? ⟨Bs, 0, none⟩ = some (.string s)) :
    SeqStopsK Fence.wide n Tryd.prog 29 #[.pointer (some ⟨Bs, 0, none⟩)] (fun x : SomeWord s => #[Value.string x.1]) (KpW w0 Bs) (fun ys => ys.length ≤ s.size + 1) (fun _ => True) (s.size + 1) w := fun l J Jx W hW hA hAx hY hJ0 => by
  have hD := fun (t : ByteArray) (W : World) (hb : Below w0.heap.size w0 W) => Tryd.utf8_DecodeRuneInString t W (hT.later hb).2.1
  have hI := fun (r : Int) (W : World) (h1 : -2147483648 ≤ r) (h2 : r ≤ 2147483647) (hb : Below w0.heap.size w0 W) => Tryd.unicode_IsSpace_any r W h1 h2 (hT.later hb).2.2
  refine (fseqW_in n hn w0 hT.1 l Bs s hs (fun pre W => ∃ q : List (SomeWord s), q.map (·.1) = pre ∧ J q W) (fun pre W => ∃ q : List (SomeWord s), q.map (·.1) = pre ∧ Jx q W) ?_ ?_ hD hI W ((hW.cell (p := ⟨Bs, 0, none⟩) hB).trans hc) (mmore hb0 hW) ⟨[], rfl, hJ0⟩).mono ?_
  · rintro pre W1 W2 ⟨q, hq, hJ⟩ hb
    exact ⟨q, hq, hA _ _ _ none hJ (grown_below0 hb) (fun r e => by cases e)⟩
  · rintro pre x W1 ⟨q, rfl, hJ⟩ _ hx hl
    simp only [List.length_map] at hl
    refine (hY q ⟨x, hx⟩ W1 hJ (by omega)).mono ?_
    rintro e W' (⟨he, hJ', hk⟩ | ⟨he, hJx⟩)
    · exact .inl ⟨he, ⟨q ++ [⟨x, hx⟩], by simp, hJ'⟩, hk⟩
    · exact .inr ⟨he, ⟨q ++ [⟨x, hx⟩], by simp, hJx⟩⟩
  · rintro e W' ⟨he, ⟨ys, hl, q, rfl, hJ⟩ | ⟨pre, q, rfl, hJ⟩⟩
    · exact ⟨he, .inl ⟨q, by simpa using hl, hJ⟩⟩
    · exact ⟨he, .inr ⟨q, trivial, hJ⟩⟩
/-- a word that is no number -/
theorem atoi_err (x : ByteArray) (hx : x.size ≤ 281474976710656) (hno : ∀ m, Lib.atoiAll x.data.toList ≠ .ok m) (w : World) (hE : ErrC w) :
    Calls Tryd.prog 21 #[.string x] w fun e w' => ∃ v p, e = .returned (.tuple #[.int .i64 v, .iface 72 p]) ∧ Below w.heap.size w w' := by
  obtain ⟨⟨e1, h1, k1⟩, ⟨e2, h2, k2⟩⟩ := hE
  cases h : Lib.atoiAll x.data.toList with
  | ok m => exact absurd h (hno m)
  | range => exact (Tryd.strconv_Atoi_range x hx h e2 w h2 k2).mono (by rintro e w' ⟨N, rfl, _, _, hb⟩; exact ⟨_, _, rfl, hb⟩)
  | _ => exact (Any.strconv_Atoi_syntax Tryd.laysC172 x hx h e1 w h1 k1).mono (by rintro e w' ⟨N, rfl, _, _, hb⟩; exact ⟨_, _, rfl, hb⟩)
/-- between two words: what the variables hold -/
def NumJ (w : World) (s : ByteArray) (pre : List (SomeWord s)) (W : World) : Prop :=
  (∃ ns v, ns.length = pre.length ∧ (∀ m ∈ ns, -9223372036854775808 ≤ m ∧ m ≤ 9223372036854775807) ∧ Boxed W (w.heap.size + 1 + 1 + 1) 34 v ∧ W.ownsRow w.heap.size 3 1 v pre.length (icells ns)) ∧ Boxed W w.heap.size 34 (.slice none 0 0) ∧ Boxed W (w.heap.size + 1) 4 (.bool false) ∧ Boxed W (w.heap.size + 1 + 1 + 1 + 1) 9 (.string s) ∧ Below w.heap.size w W
theorem numJ_own (w : World) (s : ByteArray) (B : Nat) (hB : w.heap.size ≤ B) : OwnFrom B (NumJ w s) := fun pre W W' row h hg hr => by
  have hr2 : ∀ r, row = some r → ∃ o : Obj, W.heap[r]? = some o ∧ o.isCells = false := fun r e => (hr r e).2
  obtain ⟨⟨ns, v, hn, hq, h1, h2⟩, h3, h4, h5, h6⟩ := h
  exact ⟨⟨ns, v, hn, hq, boxed_own1 h1 hg hr2, row_own1 h2 hg hr2⟩, boxed_own1 h3 hg hr2, boxed_own1 h4 hg hr2, boxed_own1 h5 hg hr2, below_own1 h6 hg hB (fun r e => (hr r e).1)⟩
theorem NumJ.later {w W W' : World} {s : ByteArray} {pre : List (SomeWord s)} (h : NumJ w s pre W) (hb : Below W.heap.size W W') : NumJ w s pre W' := by
  obtain ⟨⟨ns, v, hn, hq, h1, h2⟩, h3, h4, h5, h6⟩ := h
  exact ⟨⟨ns, v, hn, hq, boxed_later h1 hb, mown_below h2 hb⟩, boxed_later h3 hb, boxed_later h4 hb, boxed_later h5 hb, mmore h6 hb⟩
/-- left early -/
def NumX (w : World) (s : ByteArray) (c : Code) (pre : List (SomeWord s)) (W : World) : Prop := c = .ret ∧ Boxed W w.heap.size 34 (.slice none 0 0) ∧ Boxed W (w.heap.size + 1) 4 (.bool false) ∧ Below w.heap.size w W
theorem numX_own (w : World) (s : ByteArray) (B : Nat) (hB : w.heap.size ≤ B) (c : Code) : OwnFrom B (NumX w s c) := fun pre W W' row h hg hr => by
  have hr2 : ∀ r, row = some r → ∃ o : Obj, W.heap[r]? = some o ∧ o.isCells = false := fun r e => (hr r e).2
  obtain ⟨rfl, h3, h4, h6⟩ := h
  exact ⟨rfl, boxed_own1 h3 hg hr2, boxed_own1 h4 hg hr2, below_own1 h6 hg hB (fun r e => (hr r e).1)⟩

set_option maxHeartbeats 4000000 in
set_option maxRecDepth 100000 in
theorem numbers_all (s : ByteArray) (w : World) (hs : s.size ≤ 1048576) (hT : ScanTabs w) (hE : ErrC w) :
    Calls Tryd.prog 11 #[.string s] w fun e w' => ∃ v b, e = .returned (.tuple #[v, .bool b]) ∧ Below w.heap.size w w' ∧ (b = true → ∃ ns : List Int, ns.length ≤ s.size + 1 ∧ (∀ m ∈ ns, -9223372036854775808 ≤ m ∧ m ≤ 9223372036854775807) ∧ w'.ownsRow w.heap.size 3 1 v ns.length (icells ns)) ∧ ∃ a n c, v = .slice a n c := by
  obtain ⟨i0, hi, hz0, hz1, hz2⟩ := info_parts infoN
  refine (callsIn_wide (n := 9)).1 ?_
  refine callsIn_of_wp_marks Tryd.func11 rfl trivial ?_ rfl
  simp only [Tryd.ntmps11, List.size_toArray, List.length_cons, List.length_nil, Nat.reduceAdd, Nat.reduceSub, Array.replicate_succ, Array.replicate_zero, List.push_toArray, List.append_toArray, List.nil_append, List.cons_append]
  gi_wp2_with (refine ⟨trivial, ?_⟩; gi_at_call 20; refine (fseq_in _ _ trivial rfl s _).mono ?_; rintro e w' ⟨rfl, rfl⟩)
  have b0 : Boxed (w.alloc (.cells #[.slice none 0 0] 34)) w.heap.size 34 (.slice none 0 0) := Boxed.new _ _ _
  have b1 := Boxed.new (w.alloc (.cells #[.slice none 0 0] 34)) 4 (.bool false)
  have r2 := World.ownsRow_lit (base := w.heap.size) (e := 3) (size := 1) ((w.alloc (.cells #[.slice none 0 0] 34)).alloc (.cells #[.bool false] 4)) #[] 0 (by simp; omega) (by unfold maxLen; omega) rfl
  have b3 := Boxed.new (((w.alloc (.cells #[.slice none 0 0] 34)).alloc (.cells #[.bool false] 4)).alloc (.cells #[] 3)) 34 (.slice (some ⟨w.heap.size + 1 + 1, 0, none⟩) 0 0)
  have b4 := Boxed.new ((((w.alloc (.cells #[.slice none 0 0] 34)).alloc (.cells #[.bool false] 4)).alloc (.cells #[] 3)).alloc (.cells #[.slice (some ⟨w.heap.size + 1 + 1, 0, none⟩) 0 0] 34)) 9 (.string s)
  simp only [World.size_alloc] at b1 r2 b3 b4
  have hB0 : Below w.heap.size w (((((w.alloc (.cells #[.slice none 0 0] 34)).alloc (.cells #[.bool false] 4)).alloc (.cells #[] 3)).alloc (.cells #[.slice (some ⟨w.heap.size + 1 + 1, 0, none⟩) 0 0] 34)).alloc (.cells #[.string s] 9)) := ((((m2 w _ _).alloc (by simp; omega) _).alloc (by simp; omega) _).alloc (by simp; omega) _)
  have hS := words_stops 8 (by omega) (w.heap.size + 1 + 1 + 1 + 1) s (by omega) w _ hB0 hT (by simp) b4.cell
  have hK9 := fun (h1) (h2) => @kpw_b (w.heap.size + 1 + 1 + 1 + 1) w (((((w.alloc (.cells #[.slice none 0 0] 34)).alloc (.cells #[.bool false] 4)).alloc (.cells #[] 3)).alloc (.cells #[.slice (some ⟨w.heap.size + 1 + 1, 0, none⟩) 0 0] 34)).alloc (.cells #[.string s] 9)) h1 h2
  have hI0 : NumJ w s [] (((((w.alloc (.cells #[.slice none 0 0] 34)).alloc (.cells #[.bool false] 4)).alloc (.cells #[] 3)).alloc (.cells #[.slice (some ⟨w.heap.size + 1 + 1, 0, none⟩) 0 0] 34)).alloc (.cells #[.string s] 9)) :=
    ⟨⟨[], _, rfl, by simp, b3.alloc _, (r2.alloc _).alloc _⟩, (((b0.alloc _).alloc _).alloc _).alloc _, ((b1.alloc _).alloc _).alloc _, b4, hB0⟩
  refine wpIn_rangeFunc_ownG rfl (by omega) (gf := 29) (lb := #[.pointer (some ⟨w.heap.size + 1 + 1 + 1 + 1, 0, none⟩)]) rfl trivial (enters_of Tryd.func29 (by kernel_rfl) rfl)
    hS KpW.trans (hK9 (by simp; omega) (by simp)) (Below.refl _ _) (fun _ => rfl)
    (NumJ w s) (NumX w s) (numJ_own w s _ (by simp; omega)) (fun c => numX_own w s _ (by simp; omega) c) hI0
    (fun x => { tmps := #[.string s, undef, .pointer (some ⟨w.heap.size, 0, none⟩), .pointer (some ⟨w.heap.size + 1, 0, none⟩), .pointer (some ⟨w.heap.size + 1 + 1 + 1, 0, none⟩), .string x.1, undef, undef, .slice (some ⟨w.heap.size + 1 + 1, 0, none⟩) 0 0, .string s, .func (.func 29) #[] #[.pointer (some ⟨w.heap.size + 1 + 1 + 1 + 1, 0, none⟩)], .string x.1, undef, undef, undef, undef, undef, undef, undef, undef, undef, undef, undef, undef], defers := [] }) ?assign ?body ?done ?stop
  case assign =>
    intro l x W K hK
    gi_wp2
    exact hK
  case body =>
    rintro l pre x W hI hlt
    have hx := x.2
    have hlt2 : pre.length + 1 ≤ maxLen := by unfold maxLen; omega
    have hlt3 : (pre.length + 1) * 8 ≤ 140737488355328 := by omega
    have hbI : Below w.heap.size w W := hI.2.2.2.2
    have hEW := hE.later hbI
    by_cases hm0 : ∃ m, Lib.atoiAll x.1.data.toList = .ok m
    · obtain ⟨m, hm⟩ := hm0
      have A1 := fun u => Tryd.strconv_Atoi_ok x.1 (by omega) m hm u
      have hmr := Lib.hid (Lib.atoiAll_bounds hm)
      replace hmr := hmr.out
      clear b0 b1 r2 b3 b4 hB0 hS hK9 hI0 hm hEW hbI hE hT hs
      gi_wp2_with (first
        | (refine ⟨trivial, ?_⟩; gi_at_call 21; refine (CallsIn.inRound l (callsIn_wide.2 (A1 _))).mono ?_; rintro e W1 ⟨rfl, hW1⟩; have hbW : Below W.heap.size W W1 := atoi_below hW1; clear hW1 A1; have hI1 := hI.later hbW; obtain ⟨⟨ns, v, hnl, hrg, hv, hrow⟩, hbx0, hbx1, hbxs, hB⟩ := hI1; have hc := hv.cell)
        | (gi_at_builtin; refine wpListIn_append_own _ rfl _ _ 34 rfl w.heap.size 3 i0 (.int .i64 0) 1 8 Tryd.underlying34 hi hz0 hz1 hz2 rfl (by decide) _ _ _ rfl (hrow.alloc _) ⟨W1.heap.size, 0, none⟩ 1 1 [.int .i64 m] rfl rfl (cell_one_new _ _ _) (by simp [Value.oneCell']) hlt2 hlt3 (by have := hB.size; simp; omega) ?_; intro v' w1 hown' hgrow _; obtain ⟨g', cap', rfl⟩ := ownsRow_succ hown'; obtain ⟨hv1, hv2, hr2, hk2, hb2⟩ := hv.appended (by decide) hrow hB.size (by omega) hown' hgrow; have hc1 := hv1.cell; have hf1 := hv1.frozen))
      have q0 := ((hbx0.alloc (.cells #[.int .i64 m] 3)).kept hgrow (hbx0.not_row (by decide) hrow)).other (B' := w.heap.size + 1 + 1 + 1) (by omega) (.slice (some ⟨g', 0, none⟩) (pre.length + 1) cap')
      have q1 := ((hbx1.alloc (.cells #[.int .i64 m] 3)).kept hgrow (hbx1.not_row (by decide) hrow)).other (B' := w.heap.size + 1 + 1 + 1) (by omega) (.slice (some ⟨g', 0, none⟩) (pre.length + 1) cap')
      have q4 := ((hbxs.alloc (.cells #[.int .i64 m] 3)).kept hgrow (hbxs.not_row (by decide) hrow)).other (B' := w.heap.size + 1 + 1 + 1) (by omega) (.slice (some ⟨g', 0, none⟩) (pre.length + 1) cap')
      refine ⟨((others_of_below hbW).trans hk2).from _, ⟨q4.cell.trans hI.2.2.2.1.cell.symm, fun _ => hB.trans hb2⟩, ⟨⟨ns ++ [m], _, by simp [hnl], ?_, hv2, ?_⟩, q0, q1, q4, hB.trans hb2⟩⟩
      · intro y hy
        rcases List.mem_append.1 hy with h | h
        · exact hrg y h
        · rw [List.mem_singleton.1 h]; exact hmr
      · rw [List.length_append, show icells (ns ++ [m]) = icells ns ++ [.int .i64 m] by simp [icells]]
        exact hr2
    · have A2 := fun u h => atoi_err x.1 (by omega) (fun m h => hm0 ⟨m, h⟩) u h
      clear b0 b1 r2 b3 b4 hB0 hS hK9 hI0 hm0 hbI hE hT hs
      gi_wp2_with (refine ⟨trivial, ?_⟩; gi_at_call 21; refine (CallsIn.inRound l (callsIn_wide.2 (A2 _ hEW))).mono ?_; rintro e W1 ⟨v, p, rfl, hbW⟩; clear A2 hEW; have hI1 := hI.later hbW; obtain ⟨⟨ns, v, hnl, hrg, hv, hrow⟩, hbx0, hbx1, hbxs, hB⟩ := hI1; have f0 := hbx0.frozen; have f1 := hbx1.frozen; have c0 := hbx0.cell; have c1 := hbx1.cell)
      have Q0 := (hbx0.set (.slice none 0 0)).other (B' := w.heap.size + 1) (by omega) (.bool false)
      have Q1 := (hbx1.other (B' := w.heap.size) (by omega) (.slice none 0 0)).set (.bool false)
      have hK2 := (KeepsOthers.setCell W1 ⟨w.heap.size, 0, none⟩ (.slice none 0 0)).trans (KeepsOthers.setCell _ ⟨w.heap.size + 1, 0, none⟩ (.bool false))
      have hB2 := (hB.setCell (p := ⟨w.heap.size, 0, none⟩) (Nat.le_refl _) (.slice none 0 0)).setCell (p := ⟨w.heap.size + 1, 0, none⟩) (by show w.heap.size ≤ w.heap.size + 1; omega) (.bool false)
      exact ⟨((others_of_below hbW).trans hK2).from _, rfl, Q0, Q1, hB2⟩
  case done =>
    rintro D ys W hD hys hI hK
    obtain ⟨⟨ns, v, hnl, hrg, hv, hrow⟩, hbx0, hbx1, hbxs, hB⟩ := hI
    rw [← hnl] at hrow hys
    obtain ⟨ra, rn, rc, rfl⟩ : ∃ a n c, v = .slice a n c := by
      rcases hrow.2 with ⟨rfl, _⟩ | ⟨g, cap, cur, rfl, _⟩
      · exact ⟨_, _, _, rfl⟩
      · exact ⟨_, _, _, rfl⟩
    have hc := hv.cell
    have hc0 := hbx0.cell
    have hf0 := hbx0.frozen
    have hc1 := hbx1.cell
    have hf1 := hbx1.frozen
    clear b0 b1 r2 b3 b4 hB0 hS hK9 hI0 hE hT
    gi_wp2
    have Q0 := (hbx0.set (.slice ra rn rc)).other (B' := w.heap.size + 1) (by omega) (.bool true)
    have Q1 := (hbx1.other (B' := w.heap.size) (by omega) (.slice ra rn rc)).set (.bool true)
    have hr1 := hrow.kept (grownBy_setCell' W w.heap.size (.slice ra rn rc)) (.inr (hbx0.not_row (by decide) hrow).symm)
    have hr2 := hr1.kept (grownBy_setCell' _ (w.heap.size + 1) (.bool true)) (.inr ((hbx1.other (B' := w.heap.size) (by omega) (.slice ra rn rc)).not_row (by decide) hr1).symm)
    have hK2 := ((KeepsOthers.setCell W ⟨w.heap.size, 0, none⟩ (.slice ra rn rc)).trans (KeepsOthers.setCell _ ⟨w.heap.size + 1, 0, none⟩ (.bool true))).same D _ hK rfl
    have hB2 := (hB.setCell (p := ⟨w.heap.size, 0, none⟩) (Nat.le_refl _) (.slice ra rn rc)).setCell (p := ⟨w.heap.size + 1, 0, none⟩) (by show w.heap.size ≤ w.heap.size + 1; omega) (.bool true)
    have hDw : w.heap.size ≤ D := by simp at hD; omega
    clear hc hc0 hf0 hc1 hf1 hbx0 hbx1 hrow hr1 hB hv
    generalize ((W.setCell ⟨w.heap.size, 0, none⟩ (.slice ra rn rc)).setCell ⟨w.heap.size + 1, 0, none⟩ (.bool true)) = W2 at *
    have P0 := (boxed_own1 Q0 (grownBy_putObj' W2 D (.deferred none)) (fun r e => by cases e; exact ⟨_, hK2, rfl⟩)).cell
    have P1 := (boxed_own1 Q1 (grownBy_putObj' W2 D (.deferred none)) (fun r e => by cases e; exact ⟨_, hK2, rfl⟩)).cell
    have P2 := ownsRow_putObj hr2 (.deferred none) hK2 rfl
    have P3 := below_own1 hB2 (grownBy_putObj' W2 D (.deferred none)) hDw (fun r e => by cases e; exact Nat.le_refl _)
    refine ⟨by simp, .inl ⟨_, _, rfl, run_takeDeferred hK2, ?_⟩⟩
    generalize W2.putObj D (.deferred none) = W3 at *
    exact ⟨.tuple #[.slice ra rn rc, .bool true], by simp [results, Tryd.results11, go_sem, P0, P1], _, _, rfl, P3, (fun _ => ⟨ns, hys, hrg, P2⟩), _, _, _, rfl⟩
  case stop =>
    rintro D c pre W hD _ ⟨rfl, hbx0, hbx1, hB⟩ hK
    have hDw : w.heap.size ≤ D := by simp at hD; omega
    clear b0 b1 r2 b3 b4 hB0 hS hK9 hI0 hE hT
    have P0 := (boxed_own1 hbx0 (grownBy_putObj' W D (.deferred none)) (fun r e => by cases e; exact ⟨_, hK, rfl⟩)).cell
    have P1 := (boxed_own1 hbx1 (grownBy_putObj' W D (.deferred none)) (fun r e => by cases e; exact ⟨_, hK, rfl⟩)).cell
    have P3 := below_own1 hB (grownBy_putObj' W D (.deferred none)) hDw (fun r e => by cases e; exact Nat.le_refl _)
    gi_wp2
    refine ⟨by simp, .inl ⟨_, _, rfl, run_takeDeferred hK, ?_⟩⟩
    generalize W.putObj D (.deferred none) = W3 at *
    exact ⟨.tuple #[.slice none 0 0, .bool false], by simp [results, Tryd.results11, go_sem, P0, P1], _, _, rfl, P3, (fun h => by cases h), _, _, _, rfl⟩
end Go.Proofs.YtmebbhlebehliaaDoor
