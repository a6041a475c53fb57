/- The document's Decode at any bytes; of any bytes both Decodes answer alike: the law's function, as a contract. -/
import Derived.Test.YtcchbbnlcilanaaDcG
import Derived.Test.YtcchbbnlcilanaaScD
import Derived.Test.YtcchbbnlcilanaaWrO
namespace Go.Proofs.Ytcchbbnlcilanaa
open Go.ChangeShapes Go.WideShapes Go.ChangeAt Go.RowKit
set_option linter.unusedVariables false
set_option linter.unusedSimpArgs false
theorem rdecode_any (A : Option Addr) (l : List Nat) (c : Nat) (w : World) (hl : Byt l) (h : Bys w A l) (hc : l.length ≤ c) (h63 : l.length ≤ 140737488355000) :
    Calls Try.prog 15 #[.slice A l.length c] w (DecIs l w) := by
  by_cases h1 : 65536 < l.length
  · exact rdecode_long A l c w h1 h63
  by_cases h2 : l.length < 8
  · exact rdecode_short A l c w h2
  by_cases h3 : l.take 4 = ausp
  · obtain ⟨ad, rfl, _, hcell⟩ := h.at_ (List.getElem?_eq_getElem (show 0 < l.length by omega))
    obtain ⟨b0, o0, rfl⟩ := spot_of hcell
    exact rdecode_tail b0 o0 l c w hl h h1 h2 hc h3
  · exact rdecode_head A l c w hl h h1 h2 hc h3
def x00 : TTable := ((0, [], [], 0, 0, 0), [], [])
theorem encL_le : ∀ L : List Itm, (∀ i ∈ L, wfI i) → (encL L).length ≤ 10 * L.length
  | [], _ => by simp [encL]
  | i :: r, h => by
    have h1 := encI_le (h i (by simp))
    have h2 := encL_le r (fun j hj => h j (by simp [hj]))
    rw [encL_cons, List.length_append, List.length_cons]
    omega
theorem i00 : iTable x00 = [.n 0, .c 0, .c 0, .n 0, .n 0, .n 0, .c 0, .c 0] := by simp [iTable, x00, iInt, itL]
theorem wf00 : ∀ i ∈ iTable x00, wfI i := fun i hi => by
  rw [i00] at hi
  simp at hi
  rcases hi with rfl | rfl | rfl | rfl <;> first | (show _ ∧ _; omega) | (show (0 : Nat) ≤ _; omega)
theorem tab00 : TabOk x00 := ⟨fun i hi => by
  rw [i00] at hi
  simp at hi
  rcases hi with rfl | rfl | rfl | rfl <;> rfl, wf00, by
  have := encL_le _ wf00
  rw [i00] at this ⊢
  simp at this ⊢
  omega⟩
theorem lies00 (u : World) : pTable (u.heap.size + 1) (u.alloc (.cells zCells 27)) u.heap.size 0 x00 := by
  have hB := Blk.made u 27 zCells
  have ha : ∀ {X : Type} (P : World → Nat → Nat → X → Prop) (sz base : Nat) (o : Nat), (u.alloc (.cells zCells 27)).cell? ⟨u.heap.size, o, none⟩ = some (.slice none 0 0) → LField P sz base (u.alloc (.cells zCells 27)) u.heap.size o [] := fun P sz base o h => ⟨none, 0, h, fun hh => by simp at hh, by simp⟩
  exact ⟨hB.cell 0, ha _ _ _ 1 (hB.cell 1), ha _ _ _ 2 (hB.cell 2), hB.cell 3, hB.cell 4, hB.cell 5, ha _ _ _ 6 (hB.cell 6), ha _ _ _ 7 (hB.cell 7)⟩
def decX (l : List Nat) : TTable := (decP l).2.getD x00
theorem decX_ok {l : List Nat} (hl : Byt l) : TabOk (decX l) := by
  unfold decX
  rcases decP_cases l with ⟨k, hk, _, _⟩ | ⟨x, hx, h1, h2, h3, h4, h5⟩
  · rw [hk]; exact tab00
  · obtain ⟨_, ho, hw⟩ := decP_back hl hx
    rw [hx]
    refine ⟨ho, hw, ?_⟩
    have hby : Byt (bodyL l) := fun z hz => hl z (List.mem_of_mem_take (List.mem_of_mem_drop hz))
    obtain ⟨e1, _⟩ := fw_Table.fit.back _ _ _ hby h5
    rw [List.append_nil] at e1
    show (encL (iTable x)).length ≤ _
    rw [e1]
    simp [bodyL]
    omega
theorem dec_lies {l : List Nat} {w w' : World} {e : Ending} (hl : Byt l) (h : DecIs l w e w') : ∃ z0 A1 n1 c1 A2 n2 c2 z3 z4 z5 A6 n6 c6 A7 n7 c7, e = .returned (.tuple #[.agg #[.int .i64 z0, .slice A1 n1 c1, .slice A2 n2 c2, .int .i64 z3, .int .i64 z4, .int .i64 z5, .slice A6 n6 c6, .slice A7 n7 c7], .int .i64 (decP l).1]) ∧ Below w.heap.size w w' ∧
    ∀ u, Below w'.heap.size w' u → pTable (u.heap.size + 1) (u.alloc (.cells #[.int .i64 z0, .slice A1 n1 c1, .slice A2 n2 c2, .int .i64 z3, .int .i64 z4, .int .i64 z5, .slice A6 n6 c6, .slice A7 n7 c7] 27)) u.heap.size 0 (decX l) := by
  obtain ⟨hb, tv, rfl, hm⟩ := h
  unfold decX
  rcases decP_cases l with ⟨k, hk, _, _⟩ | ⟨x, hx, _⟩
  · rw [hk] at hm ⊢
    subst hm
    exact ⟨0, none, 0, 0, none, 0, 0, 0, 0, 0, none, 0, 0, none, 0, 0, rfl, hb, fun u _ => lies00 u⟩
  · rw [hx] at hm
    obtain ⟨_, ho, _⟩ := decP_back hl hx
    obtain ⟨vs, _, hE, rfl⟩ := hm
    obtain ⟨z0, A1, n1, c1, A2, n2, c2, z3, z4, z5, A6, n6, c6, A7, n7, c7, rfl⟩ := eTable_form hE
    refine ⟨z0, A1, n1, c1, A2, n2, c2, z3, z4, z5, A6, n6, c6, A7, n7, c7, rfl, hb, fun u hu => ?_⟩
    rw [hx]
    exact lies_again hE hu ho
set_option maxHeartbeats 16000000 in
set_option maxRecDepth 1000000 in
theorem idecodes_any (A : Option Addr) (l : List Nat) (c : Nat) (w : World) (hl : Byt l) (h : Bys w A l) (hc : l.length ≤ c) (h63 : l.length ≤ 140737488354000) :
    Calls Try.prog 4 #[.slice A l.length c] w fun e w' => e = .returned (.bool true) ∧ Below w.heap.size w w' := by
  obtain ⟨i0, hi, hz0, hz1, hz2⟩ := info_parts infoB
  have AW := Lib.hid (fun w => awake21 w)
  have hO0 := World.ownsRow_lit (base := w.heap.size) (e := 5) (size := 1) w #[] 0 (Nat.le_refl _) (by unfold maxLen; omega) rfl
  have hR0 := Lib.hid (Reads.alloc h (Nat.le_refl _) (.cells #[] 5))
  have hB0 := m1 w (.cells #[] 5)
  have hl0 := Lib.hid (fun u (hb : Below w.heap.size w u) => h.later hb)
  have l1 : 0 + l.length ≤ maxLen := by unfold maxLen; omega
  have l2 : (0 + l.length) * 1 ≤ 140737488355328 := by omega
  have l3 : l.length + 1 ≤ maxLen := by unfold maxLen; omega
  have l4 : (l.length + 1) * 1 ≤ 140737488355328 := by omega
  have hTX := Lib.hid (decX_ok hl)
  clear h
  go_enter Try.func4, Try.ntmps4
  go_wp2_with (at_builtin; first
    | (refine wpList_append_any _ rfl (.tmp 8) (.tmp 9) 31 rfl w.heap.size 5 i0 (.int .u8 0) 1 1 Try.underlying31 hi hz0 hz1 hz2 rfl (by decide) _ 0 [] rfl hO0 w.heap.size A l.length c (bcells l) rfl hR0.out (bcells_one _) l1 l2 (by simp) ?_; intro v' w8 hO8 hgrow _; have hB8 := bbelow_grown hB0 (Nat.le_refl _) hO0 hgrow; clear hgrow; rw [Nat.zero_add, List.nil_append] at hO8; have hR8 := Lib.hid (reads_lit w8 [113] 1 rfl #[Value.int IntKind.u8 113] rfl); have hO9 := Lib.hid (mown_below hO8 (m1 w8 (.cells #[Value.int IntKind.u8 113] 5))); have hB9 := Lib.hid (mmore hB8 (m1 w8 (.cells #[Value.int IntKind.u8 113] 5))); have hz8 := hB8.size; obtain ⟨A8, c8, rfl, _, _⟩ := bslice_of hO8; clear hO8 hB8)
    | (refine wpList_append_any _ rfl (.tmp 10) (.tmp 11) 31 rfl w.heap.size 5 i0 (.int .u8 0) 1 1 Try.underlying31 hi hz0 hz1 hz2 rfl (by decide) _ l.length (bcells l) rfl hO9.out (w8.heap.size + 1) (some ⟨w8.heap.size, 0, none⟩) 1 1 (bcells [113]) rfl hR8.out (bcells_one _) l3 l4 (by simp; omega) ?_; intro v' w10 hO10 hgrow _; have hB10 := Lib.hid (bbelow_grown hB9.out (Nat.le_refl _) hO9.out hgrow); clear hgrow; obtain ⟨A10, c10, rfl, hc10, _⟩ := bslice_of hO10; rw [← bcells_append] at hO10; have hy10 := Lib.hid (Bys.of_own hO10).2; have hc11 : (l.length : Int) ≤ (c10 : Int) := by omega))
  have hbl10 : Bys w10 A10 l := by
    have := hy10.out.pre (k := l.length) (by simp)
    rwa [List.take_left] at this
  refine (decode_any A10 l c10 w10 hl hbl10 (by omega) (by omega)).mono ?_
  rintro e w11 hD
  obtain ⟨z0, A1, n1, c1, A2, n2, c2, z3, z4, z5, A6, n6, c6, A7, n7, c7, rfl, hb11, hlies⟩ := dec_lies hl hD
  have hm11 := m1 w11 (.cells #[.int .i64 z0, .slice A1 n1 c1, .slice A2 n2 c2, .int .i64 z3, .int .i64 z4, .int .i64 z5, .slice A6 n6 c6, .slice A7 n7 c7] 27)
  have hblk1 := Blk.made w11 27 #[.int .i64 z0, .slice A1 n1 c1, .slice A2 n2 c2, .int .i64 z3, .int .i64 z4, .int .i64 z5, .slice A6 n6 c6, .slice A7 n7 c7]
  have hB12 := mmore hB10.out (mmore hb11 hm11)
  have hBA := Lib.hid (mmore hb11 hm11)
  have hRD := rdecode_any A l c _ hl (hl0.out _ hB12) hc (by omega)
  replace hRD := Lib.hid hRD
  replace hB12 := Lib.hid hB12
  replace hm11 := Lib.hid hm11
  replace hblk1 := Lib.hid hblk1
  replace hlies := Lib.hid hlies
  clear hD hb11 hbl10 hO0 hR0 hB0 hO9 hB9 hR8 hO10 hB10
  generalize hcd : (decP l).1 = cd at *
  go_wp2_with fail
  refine hRD.out.mono ?_
  rintro e w13 hD
  obtain ⟨y0, B1, m1_, d1, B2, m2_, d2, y3, y4, y5, B6, m6, d6, B7, m7, d7, rfl, hb13, hlies2⟩ := dec_lies hl hD
  rw [hcd]
  have hm13 := m1 w13 (.cells #[.int .i64 y0, .slice B1 m1_ d1, .slice B2 m2_ d2, .int .i64 y3, .int .i64 y4, .int .i64 y5, .slice B6 m6 d6, .slice B7 m7 d7] 27)
  have hblk2 := Blk.made w13 27 #[.int .i64 y0, .slice B1 m1_ d1, .slice B2 m2_ d2, .int .i64 y3, .int .i64 y4, .int .i64 y5, .slice B6 m6 d6, .slice B7 m7 d7]
  have hb14 := mmore hb13 hm13
  have hB14 := Lib.hid (mmore hB12.out hb14)
  have hBA14 := Lib.hid (mmore hBA.out hb14)
  have hB11 := Lib.hid (mmore hm11.out hb14)
  have hblk1' := Lib.hid (hblk1.out.kept hb14)
  replace hblk2 := Lib.hid hblk2
  replace hlies2 := Lib.hid hlies2
  replace hm13 := Lib.hid hm13
  clear hD hb13 hb14 hRD hB12 hBA hm11 hblk1
  go_wp2_with fail
  refine (AW.out _).mono ?_; rintro e w15 ⟨rfl, hb15⟩
  have hX1 := hblk1'.out.kept hb15
  have hX2 := hblk2.out.kept hb15
  have hB15 := Lib.hid (mmore hB14.out hb15)
  have hBA15 := Lib.hid (mmore hBA14.out hb15)
  have hB11' := Lib.hid (mmore hB11.out hb15)
  have hB13' := Lib.hid (mmore hm13.out hb15)
  have a0 : w15.cell? ⟨w11.heap.size, 0, none⟩ = some (.int .i64 z0) := hX1.cell 0
  have a1 : w15.cell? ⟨w11.heap.size, 1, none⟩ = some (.slice A1 n1 c1) := hX1.cell 1
  have a2 : w15.cell? ⟨w11.heap.size, 2, none⟩ = some (.slice A2 n2 c2) := hX1.cell 2
  have a3 : w15.cell? ⟨w11.heap.size, 3, none⟩ = some (.int .i64 z3) := hX1.cell 3
  have a4 : w15.cell? ⟨w11.heap.size, 4, none⟩ = some (.int .i64 z4) := hX1.cell 4
  have a5 : w15.cell? ⟨w11.heap.size, 5, none⟩ = some (.int .i64 z5) := hX1.cell 5
  have a6 : w15.cell? ⟨w11.heap.size, 6, none⟩ = some (.slice A6 n6 c6) := hX1.cell 6
  have a7 : w15.cell? ⟨w11.heap.size, 7, none⟩ = some (.slice A7 n7 c7) := hX1.cell 7
  have b0 : w15.cell? ⟨w13.heap.size, 0, none⟩ = some (.int .i64 y0) := hX2.cell 0
  have b1 : w15.cell? ⟨w13.heap.size, 1, none⟩ = some (.slice B1 m1_ d1) := hX2.cell 1
  have b2 : w15.cell? ⟨w13.heap.size, 2, none⟩ = some (.slice B2 m2_ d2) := hX2.cell 2
  have b3 : w15.cell? ⟨w13.heap.size, 3, none⟩ = some (.int .i64 y3) := hX2.cell 3
  have b4 : w15.cell? ⟨w13.heap.size, 4, none⟩ = some (.int .i64 y4) := hX2.cell 4
  have b5 : w15.cell? ⟨w13.heap.size, 5, none⟩ = some (.int .i64 y5) := hX2.cell 5
  have b6 : w15.cell? ⟨w13.heap.size, 6, none⟩ = some (.slice B6 m6 d6) := hX2.cell 6
  have b7 : w15.cell? ⟨w13.heap.size, 7, none⟩ = some (.slice B7 m7 d7) := hX2.cell 7
  have CS := Lib.hid (rsame_yes (decX l) hTX.out z0 A1 n1 c1 A2 n2 c2 z3 z4 z5 A6 n6 c6 A7 n7 c7 y0 B1 m1_ d1 B2 m2_ d2 y3 y4 y5 B6 m6 d6 B7 m7 d7 w15 (fun u hu => hlies.out u (mmore hB11'.out hu)) (fun u hu => hlies2.out u (mmore hB13'.out hu)))
  clear hX1 hX2 hb15 hblk1' hblk2 hB11 hB11' hB13' hlies hlies2 hm13 hBA14 hB14
  go_wp2_with fail
  refine CS.out.mono ?_; rintro e w16 ⟨rfl, hb16⟩
  have cvA := conv_str (n := l.length + 1) (c := c10) (by simp) ((hy10.out.later hBA15.out).later hb16)
  rw [strOf_append, show strOf [113] = ⟨#[113]⟩ from rfl] at cvA
  have hBf := mmore hB15.out hb16
  have cvB := conv_str (n := l.length) (c := c) rfl (hl0.out _ hBf)
  replace hBf := Lib.hid hBf
  clear hb16 CS hy10 hB15 hBA15 a0 a1 a2 a3 a4 a5 a6 a7 b0 b1 b2 b3 b4 b5 b6 b7
  have hss : (strOf l).size ≤ 140737488354000 := by rw [strOf_size]; omega
  have hss2 : ((strOf l).size : Int) + 1 ≤ 9223372036854775807 := by omega
  generalize strOf l = s at *
  go_wp2
  all_goals first
    | (exfalso; omega)
    | (go_ret; exact ⟨by simp, hBf.out⟩)
end Go.Proofs.Ytcchbbnlcilanaa
