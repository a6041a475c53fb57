/- The whole numbers that are a text's words (numbersOf), as a contract. -/
import Derived.Test.YtmebbhlebehliaaDoorFs
import Derived.Test.YtmebbhlebehliaaDoorMr
import Derived.Maps.AppendAt
import Derived.Lib.SmallJoins
namespace Go.Proofs.YtmebbhlebehliaaDoor
open Go.RowKit Go.Shelf
set_option linter.unusedVariables false
set_option linter.unusedSimpArgs false
attribute [local go_sem] Oper.semAt_some

theorem infoN : (Tryd.prog.info? 3).map (fun i => (i.zero, i.size, i.bytes)) = some (some (.int .i64 0), 1, 8) := by kernel_rfl
theorem SpTab.later {w w1 : World} (h : SpTab w) (hb : Below w.heap.size w w1) : SpTab w1 := fun c hc => cell_later hb (h c hc)

def numE : Lib.NumEnd Int → Int
  | .ok v => v
  | _ => 0
theorem numE_ok (v : Int) : numE (.ok v) = v := rfl
theorem atoi_below {w w1 : World} (h : w1 = w ∨ ∃ t, w1 = Lib.bytesWorld w 5 t) : Below w.heap.size w w1 := by
  rcases h with rfl | ⟨t, rfl⟩
  · exact Below.refl _ _
  · exact Go.Joins.below_bytesWorld _ _ _ _ (Nat.le_refl _)
def numOf (x : ByteArray) : Int := numE (Lib.atoiAll x.data.toList)
def numC {s : ByteArray} (pre : List (WordOf s)) : List Value := icells (pre.map fun x => numOf x.1)
theorem numC_snoc {s : ByteArray} (pre : List (WordOf s)) (x : WordOf s) : numC (pre ++ [x]) = numC pre ++ [.int .i64 (numOf x.1)] := by simp [numC, icells]
/-- between two words: what the variables hold -/
def NumI (w : World) (s : ByteArray) (pre : List (WordOf s)) (W : World) : Prop :=
  (∃ v, Boxed W (w.heap.size + 1 + 1 + 1) 34 v ∧ W.ownsRow w.heap.size 3 1 v pre.length (numC pre)) ∧ Boxed W w.heap.size 34 (.slice none 0 0) ∧ Boxed W (w.heap.size + 1) 4 (.bool false) ∧ Boxed W (w.heap.size + 1 + 1 + 1 + 1) 9 (.string s) ∧ Below w.heap.size w W
theorem boxed_own1 {W W' : World} {row : Option Nat} {B : Nat} {t : TypeId} {v : Value} (h : Boxed W B t v) (hg : W.grownBy W' row) (hr : ∀ r, row = some r → ∃ o : Obj, W.heap[r]? = some o ∧ o.isCells = false) : Boxed W' B t v :=
  h.kept hg fun e => by
    obtain ⟨o, ho, hc⟩ := hr B e.symm
    rw [show W.heap[B]? = _ from h] at ho; cases ho; cases hc
theorem row_own1 {W W' : World} {row : Option Nat} {base : Nat} {e : TypeId} {size n : Nat} {v : Value} {xs : List Value} (h : W.ownsRow base e size v n xs) (hg : W.grownBy W' row) (hr : ∀ r, row = some r → ∃ o : Obj, W.heap[r]? = some o ∧ o.isCells = false) : W'.ownsRow base e size v n xs :=
  h.kept hg (by
    rcases h.2 with ⟨rfl, _⟩ | ⟨g, cap, cur, rfl, _, hgb, _⟩
    · exact .inl rfl
    · refine .inr fun e' => ?_
      obtain ⟨o, ho, hc⟩ := hr g (by simpa [Value.ownBlock] using e'.symm)
      rw [hgb] at ho; cases ho; cases hc)
theorem below_own1 {w0 W W' : World} {row : Option Nat} {B : Nat} (h : Below w0.heap.size w0 W) (hg : W.grownBy W' row) (hB : w0.heap.size ≤ B) (hr : ∀ r, row = some r → B ≤ r) : Below w0.heap.size w0 W' :=
  h.grown hg h.size (fun k e => Nat.le_trans hB (hr k e))
theorem numI_own (w : World) (s : ByteArray) (B : Nat) (hB : w.heap.size ≤ B) : OwnFrom B (NumI w s) := fun pre W W' row h hg hr => by
  have hr2 : ∀ r, row = some r → ∃ o : Obj, W.heap[r]? = some o ∧ o.isCells = false := fun r e => (hr r e).2
  obtain ⟨⟨v, h1, h2⟩, h3, h4, h5, h6⟩ := h
  exact ⟨⟨v, boxed_own1 h1 hg hr2, row_own1 h2 hg hr2⟩, boxed_own1 h3 hg hr2, boxed_own1 h4 hg hr2, boxed_own1 h5 hg hr2, below_own1 h6 hg hB (fun r e => (hr r e).1)⟩
theorem others_of_below {W W' : World} (h : Below W.heap.size W W') : KeepsOthers W W' := ⟨h.size, fun k o hk _ => (h.block k (Array.getElem?_eq_some_iff.1 hk).1).trans hk⟩
theorem boxed_later {W W' : World} {B : Nat} {t : TypeId} {v : Value} (h : Boxed W B t v) (hb : Below W.heap.size W W') : Boxed W' B t v := (hb.block B h.lt).trans h
theorem NumI.later {w W W' : World} {s : ByteArray} {pre : List (WordOf s)} (h : NumI w s pre W) (hb : Below W.heap.size W W') : NumI w s pre W' := by
  obtain ⟨⟨v, h1, h2⟩, h3, h4, h5, h6⟩ := h
  exact ⟨⟨v, boxed_later h1 hb, mown_below h2 hb⟩, boxed_later h3 hb, boxed_later h4 hb, boxed_later h5 hb, mmore h6 hb⟩

set_option maxHeartbeats 4000000 in
set_option maxRecDepth 100000 in
theorem numbers_any (s : ByteArray) (ns : List Int) (w : World) (hs : s.size ≤ 281474976710656) (hasc : ∀ (i : Nat) (h : i < s.size), (s[i]'h).toNat < 128)
    (hw : (fieldsOf s).map (fun x => Lib.atoiAll x.data.toList) = ns.map Lib.NumEnd.ok) (h18 : ∀ x ∈ fieldsOf s, x.size ≤ 9223372036854775806) (hlen : ns.length * 8 ≤ 140737488355328) (hT : SpTab w) (h0 : 0 < w.heap.size) :
    Calls Tryd.prog 11 #[.string s] w fun e w' => ∃ v, e = .returned (.tuple #[v, .bool true]) ∧ w'.ownsRow w.heap.size 3 1 v ns.length (icells ns) ∧ Below w.heap.size w w' := by
  obtain ⟨i0, hi, hz0, hz1, hz2⟩ := info_parts infoN
  refine (callsIn_wide (n := 9)).1 ?_
  refine callsIn_of_wp_marks Tryd.func11 rfl trivial ?_ rfl
  simp only [Tryd.ntmps11, List.size_toArray, List.length_cons, List.length_nil, Nat.reduceAdd, Nat.reduceSub, Array.replicate_succ, Array.replicate_zero, List.push_toArray, List.append_toArray, List.nil_append, List.cons_append]
  gi_wp2_with (refine ⟨trivial, ?_⟩; gi_at_call 20; refine (fseq_in _ _ trivial rfl s _).mono ?_; rintro e w' ⟨rfl, rfl⟩)
  have b0 : Boxed (w.alloc (.cells #[.slice none 0 0] 34)) w.heap.size 34 (.slice none 0 0) := Boxed.new _ _ _
  have b1 := Boxed.new (w.alloc (.cells #[.slice none 0 0] 34)) 4 (.bool false)
  have r2 := World.ownsRow_lit (base := w.heap.size) (e := 3) (size := 1) ((w.alloc (.cells #[.slice none 0 0] 34)).alloc (.cells #[.bool false] 4)) #[] 0 (by simp; omega) (by unfold maxLen; omega) rfl
  have b3 := Boxed.new (((w.alloc (.cells #[.slice none 0 0] 34)).alloc (.cells #[.bool false] 4)).alloc (.cells #[] 3)) 34 (.slice (some ⟨w.heap.size + 1 + 1, 0, none⟩) 0 0)
  have b4 := Boxed.new ((((w.alloc (.cells #[.slice none 0 0] 34)).alloc (.cells #[.bool false] 4)).alloc (.cells #[] 3)).alloc (.cells #[.slice (some ⟨w.heap.size + 1 + 1, 0, none⟩) 0 0] 34)) 9 (.string s)
  simp only [World.size_alloc] at b1 r2 b3 b4
  have hB0 : Below w.heap.size w (((((w.alloc (.cells #[.slice none 0 0] 34)).alloc (.cells #[.bool false] 4)).alloc (.cells #[] 3)).alloc (.cells #[.slice (some ⟨w.heap.size + 1 + 1, 0, none⟩) 0 0] 34)).alloc (.cells #[.string s] 9)) := ((((m2 w _ _).alloc (by simp; omega) _).alloc (by simp; omega) _).alloc (by simp; omega) _)
  have hS := fseq_stops Fence.wide 8 trivial rfl (by omega) (w.heap.size + 1 + 1 + 1 + 1) s hs hasc _ (by simp) b4.cell (by simp) (hT.later hB0)
  have hK9 := fun (h1) (h2) => @kpf_b (w.heap.size + 1 + 1 + 1 + 1) (((((w.alloc (.cells #[.slice none 0 0] 34)).alloc (.cells #[.bool false] 4)).alloc (.cells #[] 3)).alloc (.cells #[.slice (some ⟨w.heap.size + 1 + 1, 0, none⟩) 0 0] 34)).alloc (.cells #[.string s] 9)) h1 h2
  have hI0 : NumI w s [] (((((w.alloc (.cells #[.slice none 0 0] 34)).alloc (.cells #[.bool false] 4)).alloc (.cells #[] 3)).alloc (.cells #[.slice (some ⟨w.heap.size + 1 + 1, 0, none⟩) 0 0] 34)).alloc (.cells #[.string s] 9)) :=
    ⟨⟨_, b3.alloc _, (r2.alloc _).alloc _⟩, (((b0.alloc _).alloc _).alloc _).alloc _, ((b1.alloc _).alloc _).alloc _, b4, hB0⟩
  refine wpIn_rangeFunc_ownG rfl (by omega) (gf := 29) (lb := #[.pointer (some ⟨w.heap.size + 1 + 1 + 1 + 1, 0, none⟩)]) rfl trivial (enters_of Tryd.func29 (by kernel_rfl) rfl)
    hS KpF.trans (hK9 (by simp) (by simp)) (Below.refl _ _) (fun _ => rfl)
    (NumI w s) (fun _ _ _ => False) (numI_own w s _ (by simp; omega)) (fun _ _ _ _ _ hs _ _ => hs) hI0
    (fun x => { tmps := #[.string s, undef, .pointer (some ⟨w.heap.size, 0, none⟩), .pointer (some ⟨w.heap.size + 1, 0, none⟩), .pointer (some ⟨w.heap.size + 1 + 1 + 1, 0, none⟩), .string x.1, undef, undef, .slice (some ⟨w.heap.size + 1 + 1, 0, none⟩) 0 0, .string s, .func (.func 29) #[] #[.pointer (some ⟨w.heap.size + 1 + 1 + 1 + 1, 0, none⟩)], .string x.1, undef, undef, undef, undef, undef, undef, undef, undef, undef, undef, undef, undef], defers := [] }) ?assign ?body ?done ?stop
  case assign =>
    intro l x W K hK
    gi_wp2
    exact hK
  case body =>
    rintro l pre x W hI hlt
    obtain ⟨m, hm⟩ : ∃ m, Lib.atoiAll x.1.data.toList = .ok m := by
      have h1 : Lib.atoiAll x.1.data.toList ∈ ns.map Lib.NumEnd.ok := by rw [← hw]; exact List.mem_map.2 ⟨x.1, x.2, rfl⟩
      obtain ⟨m, _, h2⟩ := List.mem_map.1 h1
      exact ⟨m, h2.symm⟩
    have hx18 := h18 _ x.2
    have hnum : numOf x.1 = m := by unfold numOf; rw [hm]; rfl
    have hlen2 : (fieldsOf s).length = ns.length := by have := congrArg List.length hw; simpa using this
    have A1 := fun u => Tryd.strconv_Atoi_ok x.1 hx18 m hm u
    rw [hlen2] at hlt
    have hlt2 : pre.length + 1 ≤ maxLen := by unfold maxLen; omega
    have hlt3 : (pre.length + 1) * 8 ≤ 140737488355328 := by omega
    clear b0 b1 r2 b3 b4 hB0 hS hK9 hI0 hw h18 hm hx18 hlen hasc
    gi_wp2_with (first
      | (refine ⟨trivial, ?_⟩; gi_at_call 21; refine (CallsIn.inRound l (callsIn_wide.2 (A1 _))).mono ?_; rintro e W1 ⟨rfl, hW1⟩; have hbW : Below W.heap.size W W1 := atoi_below hW1; clear hW1 A1; have hI1 := hI.later hbW; obtain ⟨⟨v, hv, hrow⟩, hbx0, hbx1, hbxs, hB⟩ := hI1; have hc := hv.cell)
      | (gi_at_builtin; refine wpListIn_append_own _ rfl _ _ 34 rfl w.heap.size 3 i0 (.int .i64 0) 1 8 Tryd.underlying34 hi hz0 hz1 hz2 rfl (by decide) _ _ _ rfl (hrow.alloc _) ⟨W1.heap.size, 0, none⟩ 1 1 [.int .i64 m] rfl rfl (cell_one_new _ _ _) (by simp [Value.oneCell']) hlt2 hlt3 (by have := hB.size; simp; omega) ?_; intro v' w1 hown' hgrow _; obtain ⟨g', cap', rfl⟩ := ownsRow_succ hown'; obtain ⟨hv1, hv2, hr2, hk2, hb2⟩ := hv.appended (by decide) hrow hB.size (by omega) hown' hgrow; have hc1 := hv1.cell; have hf1 := hv1.frozen))
    have q0 := ((hbx0.alloc (.cells #[.int .i64 m] 3)).kept hgrow (hbx0.not_row (by decide) hrow)).other (B' := w.heap.size + 1 + 1 + 1) (by omega) (.slice (some ⟨g', 0, none⟩) (pre.length + 1) cap')
    have q1 := ((hbx1.alloc (.cells #[.int .i64 m] 3)).kept hgrow (hbx1.not_row (by decide) hrow)).other (B' := w.heap.size + 1 + 1 + 1) (by omega) (.slice (some ⟨g', 0, none⟩) (pre.length + 1) cap')
    have q4 := ((hbxs.alloc (.cells #[.int .i64 m] 3)).kept hgrow (hbxs.not_row (by decide) hrow)).other (B' := w.heap.size + 1 + 1 + 1) (by omega) (.slice (some ⟨g', 0, none⟩) (pre.length + 1) cap')
    refine ⟨((others_of_below hbW).trans hk2).from _, ⟨q4.cell.trans hI.2.2.2.1.cell.symm, fun c => ?_⟩, ⟨⟨_, hv2, ?_⟩, q0, q1, q4, hB.trans hb2⟩⟩
    · exact ((hbW.mono hI.2.2.2.2.size).trans hb2).cell (p := ⟨0, c, none⟩) h0
    · rw [numC_snoc, hnum, List.length_append]
      exact hr2
  case done =>
    rintro D ys W hD hys hI hK
    obtain ⟨⟨v, hv, hrow⟩, hbx0, hbx1, hbxs, hB⟩ := hI
    have hns : ys.map (fun x => numOf x.1) = ns := by
      have h1 : (ys.map (·.1)).map (fun x => Lib.atoiAll x.data.toList) = ns.map Lib.NumEnd.ok := by rw [hys]; exact hw
      have h2 := congrArg (List.map numE) h1
      simpa [numOf, Function.comp_def, numE_ok] using h2
    have hyl : ys.length = ns.length := by rw [← hns]; simp
    unfold numC at hrow
    rw [hns, hyl] at hrow
    obtain ⟨ra, rn, rc, rfl⟩ : ∃ a n c, v = .slice a n c := by
      rcases hrow.2 with ⟨rfl, _⟩ | ⟨g, cap, cur, rfl, _⟩
      · exact ⟨_, _, _, rfl⟩
      · exact ⟨_, _, _, rfl⟩
    have hc := hv.cell
    have hc0 := hbx0.cell
    have hf0 := hbx0.frozen
    have hc1 := hbx1.cell
    have hf1 := hbx1.frozen
    clear b0 b1 r2 b3 b4 hB0 hS hK9 hI0 hw h18 hlen hasc hns
    gi_wp2
    have Q0 := (hbx0.set (.slice ra rn rc)).other (B' := w.heap.size + 1) (by omega) (.bool true)
    have Q1 := (hbx1.other (B' := w.heap.size) (by omega) (.slice ra rn rc)).set (.bool true)
    have hr1 := hrow.kept (grownBy_setCell' W w.heap.size (.slice ra rn rc)) (.inr (hbx0.not_row (by decide) hrow).symm)
    have hr2 := hr1.kept (grownBy_setCell' _ (w.heap.size + 1) (.bool true)) (.inr ((hbx1.other (B' := w.heap.size) (by omega) (.slice ra rn rc)).not_row (by decide) hr1).symm)
    have hK2 := ((KeepsOthers.setCell W ⟨w.heap.size, 0, none⟩ (.slice ra rn rc)).trans (KeepsOthers.setCell _ ⟨w.heap.size + 1, 0, none⟩ (.bool true))).same D _ hK rfl
    have hB2 := (hB.setCell (p := ⟨w.heap.size, 0, none⟩) (Nat.le_refl _) (.slice ra rn rc)).setCell (p := ⟨w.heap.size + 1, 0, none⟩) (by show w.heap.size ≤ w.heap.size + 1; omega) (.bool true)
    have hDw : w.heap.size ≤ D := by simp at hD; omega
    clear hc hc0 hf0 hc1 hf1 hbx0 hbx1 hrow hr1 hB hv
    generalize ((W.setCell ⟨w.heap.size, 0, none⟩ (.slice ra rn rc)).setCell ⟨w.heap.size + 1, 0, none⟩ (.bool true)) = W2 at *
    have P0 := (boxed_own1 Q0 (grownBy_putObj' W2 D (.deferred none)) (fun r e => by cases e; exact ⟨_, hK2, rfl⟩)).cell
    have P1 := (boxed_own1 Q1 (grownBy_putObj' W2 D (.deferred none)) (fun r e => by cases e; exact ⟨_, hK2, rfl⟩)).cell
    have P2 := ownsRow_putObj hr2 (.deferred none) hK2 rfl
    have P3 := below_own1 hB2 (grownBy_putObj' W2 D (.deferred none)) hDw (fun r e => by cases e; exact Nat.le_refl _)
    refine ⟨by simp, .inl ⟨_, _, rfl, run_takeDeferred hK2, ?_⟩⟩
    generalize W2.putObj D (.deferred none) = W3 at *
    exact ⟨.tuple #[.slice ra rn rc, .bool true], by simp [results, Tryd.results11, go_sem, P0, P1], _, rfl, P2, P3⟩
  case stop =>
    rintro D c pre W _ _ h _
    exact h.elim
end Go.Proofs.YtmebbhlebehliaaDoor
