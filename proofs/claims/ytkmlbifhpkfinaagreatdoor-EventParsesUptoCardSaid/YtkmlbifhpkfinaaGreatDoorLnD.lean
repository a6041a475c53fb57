/- event.guess: the one event whose line this may be, as a contract. -/
import Derived.Test.YtkmlbifhpkfinaaGreatDoorLnC
import Derived.Test.YtkmlbifhpkfinaaGreatDoorSchO
import Derived.Deep.RegionLaw
namespace Go.Proofs.YtkmlbifhpkfinaaGreatDoor
open Go.ChangeShapes Go.WideShapes Go.ChangeAt Go.RowKit Go.Fl Go.Shelf
set_option linter.unusedVariables false
set_option linter.unusedSimpArgs false

/-- what has been read of a line, if it is a valid event's -/
def GsH (ts : List ST) (ss : List ByteArray) (l : List UInt8) (t n : Int) (k : Nat) (vs : List (Int × Nat)) (rest : List UInt8) : Prop :=
  ∀ ty' tm' vs', EvOk ts ss ty' tm' vs' → (∀ v ∈ vs', v.2 < 18446744073709551616) → l = lineB ts ss ty' tm' vs' → t = ty' ∧ n = tm' ∧ vs = vs'.take k ∧ rest = joinW ((vs'.drop k).map (wordW ss))
section
variable {ts : List ST} {ss : List ByteArray} {l rest : List UInt8} {t n : Int} {k : Nat} {vs : List (Int × Nat)}
theorem line_cut {ty' tm' : Int} {vs' : List (Int × Nat)} (h : EvOk ts ss ty' tm' vs') (hl : l = lineB ts ss ty' tm' vs') :
    typeOf ts (bl (cutL l)) = ty' ∧ 0 ≤ ty' ∧ cutL (cutR l) = Lib.itoa tm' ∧ cutR (cutR l) = joinW (vs'.map (wordW ss)) := by
  obtain ⟨i, x, rfl, hx, h0, h1, hlen, hnm, h8, hv⟩ := ok_parts h
  subst hl
  unfold lineB lineW
  simp only [Int.toNat_natCast, hx, Option.map_some, Option.getD_some]
  obtain ⟨e1, e2⟩ := cut_words x.1.data.toList (Lib.itoa tm' :: vs'.map (wordW ss)) (name_nosp hnm)
  obtain ⟨e3, e4⟩ := cut_words (Lib.itoa tm') (vs'.map (wordW ss)) (itoa_nosp _)
  rw [e1, e2, e3, e4, bl_of, ok_type h.1 hx]
  exact ⟨rfl, by omega, rfl, rfl⟩
theorem GsH.no (hn : typeOf ts (bl (cutL l)) < 0) {ty' tm' : Int} {vs' : List (Int × Nat)} (h : EvOk ts ss ty' tm' vs') (hl : l = lineB ts ss ty' tm' vs') : False := by
  have := line_cut h hl
  omega
theorem GsH.start (hn : ∀ x : Int, -9223372036854775808 ≤ x → x ≤ 9223372036854775807 → (bl (cutL (cutR l))).data.toList = Lib.itoa x → n = x) : GsH ts ss l (typeOf ts (bl (cutL l))) n 0 [] (cutR (cutR l)) := by
  intro ty' tm' vs' h hb hl
  obtain ⟨e1, _, e2, e3⟩ := line_cut h hl
  obtain ⟨_, _, _, _, h0, h1, _⟩ := ok_parts h
  exact ⟨e1, hn _ (by omega) (by omega) (by rw [bl_list, e2]), by simp, by simpa using e3⟩
theorem GsH.step (H : GsH ts ss l t n k vs rest) {i : Nat} {x : ST} (ht : t = (i : Int)) (hx : ts[i]? = some x) {f : SF} (hf : x.2[k]? = some f) {b : Nat}
    (hb : ∀ ts, CheckIs ts ss 0 → ∀ v : Int × Nat, ValP (ss.length : Int) f.2 v → v.2 < 18446744073709551616 → (bl (cutL rest)).data.toList = wordW ss v → b = v.2) :
    GsH ts ss l t n (k + 1) (vs ++ [(f.2, b)]) (cutR rest) := by
  intro ty' tm' vs' h hb' hl
  obtain ⟨e1, e2, e3, e4⟩ := H ty' tm' vs' h hb' hl
  obtain ⟨i', x', rfl, hx', h0, h1, hlen, hnm, h8, hv⟩ := ok_parts h
  obtain rfl : i = i' := by omega
  rw [hx] at hx'
  injection hx' with hx'
  subst hx'
  have hk : k < x.2.length := (List.getElem?_eq_some_iff.1 hf).1
  have hk' : k < vs'.length := by omega
  have hvk : vs'[k]? = some vs'[k] := List.getElem?_eq_getElem hk'
  have hV := (hv k _ _ hvk hf).1
  rw [List.drop_eq_getElem_cons hk', List.map_cons] at e4
  obtain ⟨c1, c2⟩ := cut_words (wordW ss vs'[k]) ((vs'.drop (k + 1)).map (wordW ss)) (word_nosp h.1 hV)
  have hbb := hb ts h.1 vs'[k] hV (hb' _ (List.getElem_mem hk')) (by rw [bl_list, e4, c1])
  refine ⟨e1, e2, ?_, by rw [e4, c2]⟩
  rw [List.take_add_one, hvk, e3, ← hV.1, hbb]
  rfl
theorem GsH.done (H : GsH ts ss l t n k vs rest) {i : Nat} {x : ST} (ht : t = (i : Int)) (hx : ts[i]? = some x) (hk : k = x.2.length) {ty' tm' : Int} {vs' : List (Int × Nat)} (h : EvOk ts ss ty' tm' vs') (hb : ∀ v ∈ vs', v.2 < 18446744073709551616) (hl : l = lineB ts ss ty' tm' vs') :
    t = ty' ∧ n = tm' ∧ vs = vs' := by
  obtain ⟨e1, e2, e3, _⟩ := H ty' tm' vs' h hb hl
  obtain ⟨i', x', rfl, hx', _, _, hlen, _⟩ := ok_parts h
  obtain rfl : i = i' := by omega
  rw [hx] at hx'
  injection hx' with hx'
  subst hx'
  exact ⟨e1, e2, by rw [e3, List.take_of_length_le (by omega)]⟩
end

theorem placeFrom_lt {α : Type} (p : α → Bool) : ∀ (l : List α) (i : Nat), placeFrom p l i = -1 ∨ ∃ k : Nat, k < l.length ∧ placeFrom p l i = ((i + k : Nat) : Int)
  | [], i => .inl rfl
  | a :: r, i => by
    simp only [placeFrom]
    split
    · exact .inr ⟨0, by simp, by simp⟩
    · rcases placeFrom_lt p r (i + 1) with h | ⟨k, hk, h⟩
      · exact .inl h
      · exact .inr ⟨k + 1, by simp; omega, by rw [h]; congr 1; omega⟩
theorem typeOf_lt (ts : List ST) (nm : ByteArray) : typeOf ts nm = -1 ∨ ∃ k : Nat, k < ts.length ∧ typeOf ts nm = (k : Int) := by
  rcases placeFrom_lt (fun t : ST => t.1.toList == nm.toList) ts 0 with h | ⟨k, hk, h⟩
  · exact .inl h
  · exact .inr ⟨k, hk, by rw [typeOf, place, h]; simp⟩
/-- what of the call's own memory an event's block and its values are -/
def GsI (u : World) (g : Nat) (t n : Int) (vs : List (Int × Nat)) (W : World) : Prop :=
  ∃ v : Value, Blk W g 36 #[.int .i64 t, .int .i64 n, v] ∧ W.ownsRow u.heap.size 61 2 v vs.length (cellsV vs) ∧ Below u.heap.size u W
/-- an event is guessed -/
def GuessR (ts : List ST) (ss : List ByteArray) (s : ByteArray) (w : World) (e : Ending) (w' : World) : Prop :=
  ∃ (ty tm : Int) (B : Option Addr) (cap : Nat) (vs : List (Int × Nat)), e = .returned (.agg #[.int .i64 ty, .int .i64 tm, .slice B vs.length cap]) ∧ RowV w' B vs.length vs ∧ vs.length * 16 ≤ 140737488351232 ∧
    (∀ ty' tm' vs', EvOk ts ss ty' tm' vs' → (∀ v ∈ vs', v.2 < 18446744073709551616) → s.data.toList = lineB ts ss ty' tm' vs' → ty = ty' ∧ tm = tm' ∧ vs = vs') ∧ Below w.heap.size w w'
theorem snoc_bits {vs : List (Int × Nat)} (h : ∀ v ∈ vs, v.2 < 18446744073709551616) {k : Int} {b : Nat} (hb : b < 18446744073709551616) : ∀ v ∈ vs ++ [(k, b)], v.2 < 18446744073709551616 := by
  intro v hv
  rcases List.mem_append.1 hv with hv | hv
  · exact h v hv
  · have := List.mem_singleton.1 hv
    subst this
    exact hb
theorem cellsV_more (vs : List (Int × Nat)) (k : Int) (b : Nat) : cellsV (vs ++ [(k, b)]) = cellsV vs ++ [.int .i64 k, .int .u64 (b : Int)] := by
  simp [cellsV]

theorem cut_at (l : List UInt8) (w : World) (hl : l.length ≤ 281474976710656) :
    Calls Tryz.prog 41 #[.string (bl l), .string ⟨#[32]⟩] w fun e w' => (∃ b : Bool, e = .returned (.tuple #[.string (bl (cutL l)), .string (bl (cutR l)), .bool b])) ∧ Below w.heap.size w w' := by
  have h := cut_any (bl l) w (by rw [bl_size]; exact hl)
  unfold CutsE at h
  rw [bl_list] at h
  exact h
set_option maxHeartbeats 8000000 in
set_option maxRecDepth 100000 in
theorem guess_any (A C : Option Addr) (cap capC : Nat) (ts : List ST) (ss : List ByteArray) (s : ByteArray) (w : World) (hA : TypesAt w A ts) (hS : SymsAt w C ss) (b1 : ts.length * 40 ≤ 140737488351232) (b2 : ∀ t ∈ ts, t.2.length * 24 ≤ 140737488351232) (hn : ss.length ≤ 140737488355328) (hs : s.size ≤ 281474976710656) (hT : TzCell w) (hE : ErrCells w) :
    Calls Tryz.prog 23 #[.agg #[.slice A ts.length cap, .slice C ss.length capC], .string s] w (GuessR ts ss s w) := by
  obtain ⟨i0, hi, hz0, hz1, hz2⟩ := info_parts infoV
  have hu := m2 w (.cells #[.slice A ts.length cap, .slice C ss.length capC] 31) (.cells #[.int .i64 0, .int .i64 0, .slice none 0 0] 36)
  have k0 : Blk ((w.alloc (.cells #[.slice A ts.length cap, .slice C ss.length capC] 31)).alloc (.cells #[.int .i64 0, .int .i64 0, .slice none 0 0] 36)) w.heap.size 31 #[.slice A ts.length cap, .slice C ss.length capC] := (Blk.made _ _ _).kept (m1 _ _)
  have k1 : Blk ((w.alloc (.cells #[.slice A ts.length cap, .slice C ss.length capC] 31)).alloc (.cells #[.int .i64 0, .int .i64 0, .slice none 0 0] 36)) (w.heap.size + 1) 36 #[.int .i64 0, .int .i64 0, .slice none 0 0] := by
    have := Blk.made (w.alloc (.cells #[.slice A ts.length cap, .slice C ss.length capC] 31)) 36 #[.int .i64 0, .int .i64 0, .slice none 0 0]
    simpa using this
  have hAu := Lib.hid (hA.later hu)
  have hSu := Lib.hid (hS.later hu)
  have hTu := Lib.hid (hT.later hu)
  have hEu := Lib.hid (hE.later hu)
  have c1 := fun w => cut_any s w hs
  have hl1 : (cutR s.data.toList).length ≤ s.size := by have := cutR_len s.data.toList; rw [list_len] at this; exact this
  have hl2 : (cutL s.data.toList).length ≤ s.size := by have := cutL_len s.data.toList; rw [list_len] at this; exact this
  have K0u := Lib.hid k0
  have K1u := Lib.hid k1
  replace c1 := Lib.hid c1
  replace b2 := Lib.hid b2
  clear hA hS hT hE
  go_enter Tryz.func23, Tryz.ntmps23
  go_wp2_with fail
  generalize (w.alloc (.cells #[.slice A ts.length cap, .slice C ss.length capC] 31)).alloc (.cells #[.int .i64 0, .int .i64 0, .slice none 0 0] 36) = u at *
  refine (c1.out _).mono ?_; rintro e w1 ⟨⟨q1, rfl⟩, hb1⟩
  have K0 := k0.kept hb1
  have d0 : w1.cell? ⟨w.heap.size, 0, none⟩ = some (.slice A ts.length cap) := K0.cell 0
  have d1 : w1.cell? ⟨w.heap.size, 1, none⟩ = some (.slice C ss.length capC) := K0.cell 1
  have A1 := Lib.hid (hAu.out.later hb1)
  go_wp2_with fail
  refine (type_any A cap _ ts (bl (cutL s.data.toList)) w1 A1.out (by omega)).mono ?_; rintro e w2 ⟨rfl, hb2⟩
  have hB2 := mmore hb1 hb2
  have TL := typeOf_lt ts (bl (cutL s.data.toList))
  have NO : typeOf ts (bl (cutL s.data.toList)) < 0 → ∀ ty' tm' vs', EvOk ts ss ty' tm' vs' → (∀ v ∈ vs', v.2 < 18446744073709551616) → s.data.toList = lineB ts ss ty' tm' vs' → False := fun h ty' tm' vs' h1 _ h2 => GsH.no h h1 h2
  have ST : ∀ n : Int, (∀ x : Int, -9223372036854775808 ≤ x → x ≤ 9223372036854775807 → (bl (cutL (cutR s.data.toList))).data.toList = Lib.itoa x → n = x) → GsH ts ss s.data.toList (typeOf ts (bl (cutL s.data.toList))) n 0 [] (cutR (cutR s.data.toList)) := fun n h => GsH.start h
  generalize typeOf ts (bl (cutL s.data.toList)) = t at *
  replace TL := Lib.hid TL
  replace NO := Lib.hid NO
  replace ST := Lib.hid ST
  have R2 := (k1.kept hb1).kept hb2
  have S2 := K0.kept hb2
  have A2 := Lib.hid (A1.out.later hb2)
  have hs2 := hB2.size
  have hs1 := hu.size
  have hu1 := R2.lt
  clear d0 d1 A1 K0 k0 k1 hb1 hb2
  go_upto_region 3 with (fail)
  have hw3 := m1 w2 (.cells #[.int .i64 t, .int .i64 0, .slice none 0 0] 36)
  have E3 := Blk.made w2 36 #[.int .i64 t, .int .i64 0, .slice none 0 0]
  have R3 := R2.kept hw3
  have S3 := S2.kept hw3
  have A3 := Lib.hid (A2.out.later hw3)
  have hB3 := mmore hB2 hw3
  have hbase : u.heap.size ≤ w2.heap.size := hB2.size
  have hg1 : ¬ w2.heap.size = w.heap.size + 1 := by omega
  have hg2 : ¬ w.heap.size + 1 = w2.heap.size := by omega
  clear R2 S2 A2 hw3 hs2
  generalize w2.heap.size = g8 at *
  generalize w2.alloc (.cells #[.int .i64 t, .int .i64 0, .slice none 0 0] 36) = w3 at *
  have d0 : w3.cell? ⟨w.heap.size, 0, none⟩ = some (.slice A ts.length cap) := S3.cell 0
  have d1 : w3.cell? ⟨w.heap.size, 1, none⟩ = some (.slice C ss.length capC) := S3.cell 1
  have e0 : w3.cell? ⟨g8, 0, none⟩ = some (.int .i64 t) := E3.cell 0
  have e1 : w3.cell? ⟨g8, 1, none⟩ = some (.int .i64 0) := E3.cell 1
  have e2 : w3.cell? ⟨g8, 2, none⟩ = some (.slice none 0 0) := E3.cell 2
  have e3 : w3.frozen? ⟨g8, 1, none⟩ = false := E3.free 1
  by_cases ht : t < 0
  · have z0 : w3.cell? ⟨w.heap.size + 1, 0, none⟩ = some (.int .i64 0) := R3.cell 0
    have z1 : w3.cell? ⟨w.heap.size + 1, 1, none⟩ = some (.int .i64 0) := R3.cell 1
    have z2 : w3.cell? ⟨w.heap.size + 1, 2, none⟩ = some (.slice none 0 0) := R3.cell 2
    have f0 : w3.frozen? ⟨w.heap.size + 1, 0, none⟩ = false := R3.free 0
    have f1 : w3.frozen? ⟨w.heap.size + 1, 1, none⟩ = false := R3.free 1
    have f2 : w3.frozen? ⟨w.heap.size + 1, 2, none⟩ = false := R3.free 2
    have hB5 := (((mmore hu hB3).setCell (p := ⟨w.heap.size + 1, 0, none⟩) (by show w.heap.size ≤ w.heap.size + 1; omega) (.int .i64 t)).setCell (p := ⟨w.heap.size + 1, 1, none⟩) (by show w.heap.size ≤ w.heap.size + 1; omega) (.int .i64 0)).setCell (p := ⟨w.heap.size + 1, 2, none⟩) (by show w.heap.size ≤ w.heap.size + 1; omega) (.slice none 0 0)
    have no := NO.out ht
    replace no := Lib.hid no
    replace hB5 := Lib.hid hB5
    go_wp2
    exact bodyPost_ret (v := .agg #[.int .i64 t, .int .i64 0, .slice none 0 0]) (by simp [results, Tryz.results23, go_sem, *]) rfl ⟨t, 0, none, 0, [], rfl, ⟨rfl, by simp, fun h => absurd h (by decide)⟩, by decide, fun ty' tm' vs' h h2 h3 => (no.out ty' tm' vs' h h2 h3).elim, hB5.out⟩
  · have c2 := fun w => cut_at (cutR s.data.toList) w (by omega)
    have hl3 : (cutL (cutR s.data.toList)).length ≤ s.size := by have := cutL_len (cutR s.data.toList); omega
    have hl4 : (cutR (cutR s.data.toList)).length ≤ s.size := by have := cutR_len (cutR s.data.toList); omega
    have pi := fun w h => pint_any (bl (cutL (cutR s.data.toList))) w (by rw [bl_size]; omega) h
    replace c2 := Lib.hid c2
    replace pi := Lib.hid pi
    clear c1 NO
    go_wp2_with fail
    refine (c2.out _).mono ?_; rintro e w4 ⟨⟨q2, rfl⟩, hb4⟩
    have hB4 := mmore hB3 hb4
    have E4 := E3.kept hb4
    replace e0 := cell_later hb4 e0
    replace e1 := cell_later hb4 e1
    replace e2 := cell_later hb4 e2
    replace e3 : w4.frozen? ⟨g8, 1, none⟩ = false := E4.free 1
    replace d0 := cell_later hb4 d0
    replace d1 := cell_later hb4 d1
    go_wp2_with fail
    refine (pi.out _ (hEu.out.later hB4)).mono ?_; rintro e w5 ⟨⟨n, ev, rfl, n0, n1, hx⟩, hb5⟩
    have H0 := Lib.hid (ST.out n hx)
    have hB5 := mmore hB4 hb5
    have E5 := E4.kept hb5
    replace e1 := cell_later hb5 e1
    replace e3 : w5.frozen? ⟨g8, 1, none⟩ = false := E5.free 1
    have E6 : Blk (w5.setCell ⟨g8, 1, none⟩ (.int .i64 n)) g8 36 #[.int .i64 t, .int .i64 n, .slice none 0 0] := by simpa using E5.put_ 1 (.int .i64 n)
    have hB6 := hB5.setCell (p := ⟨g8, 1, none⟩) hbase (.int .i64 n)
    obtain ⟨i, hil, rfl⟩ : ∃ i : Nat, i < ts.length ∧ t = (i : Int) := by
      rcases TL.out with h | ⟨k, hk, h⟩
      · omega
      · exact ⟨k, hk, h⟩
    have hxi : ts[i]? = some ts[i] := List.getElem?_eq_getElem hil
    have hb2 := b2.out _ (List.getElem_mem hil)
    obtain ⟨bT, oT, rfl, hTc⟩ := hAu.out (by omega)
    obtain ⟨uf, r0, r1, FA, fcap, rfl, hF⟩ := hTc i _ hxi
    have i0' : (0 : Int) ≤ (i : Int) := by omega
    have i1' : (i : Int) < (ts.length : Int) := by omega
    generalize ts[i] = x at *
    have q1 := cell_later hB6 r1
    have S6 := K0u.out.kept hB6
    have R6 := K1u.out.kept hB6
    replace hF := Lib.hid hF
    replace hxi := Lib.hid hxi
    clear hTc r0 r1 TL ST hx hb5 hb4 c2 pi E3 E4 E5 hB3 hB4 hB5 A3 R3 S3 hg1 hg2
    go_upto_region 7 with (fail)
    clear e0 e1 e2 e3 d0 d1
    generalize w5.setCell ⟨g8, 1, none⟩ (.int .i64 n) = w6 at *
    have d0 : w6.cell? ⟨w.heap.size, 0, none⟩ = some (.slice (some ⟨bT, oT, none⟩) ts.length cap) := S6.cell 0
    have e0 : w6.cell? ⟨g8, 0, none⟩ = some (.int .i64 (i : Int)) := E6.cell 0
    go_wp2_with fail
    go_loopw [6, 48] (fun r j wr => ∃ (k : Nat) (vs : List (Int × Nat)) (rest : List UInt8), k ≤ x.2.length ∧ vs.length = k ∧ j = .int .i64 (k : Int) ∧ r = .string (bl rest) ∧ rest.length ≤ s.size ∧ Hid (∀ v ∈ vs, v.2 < 18446744073709551616) ∧ Hid (GsH ts ss s.data.toList (i : Int) n k vs rest) ∧ GsI u g8 (i : Int) n vs wr) (fun _ j _ => x.2.length - (intOf j).toNat)
    case atStart => exact ⟨0, [], _, Nat.zero_le _, rfl, rfl, rfl, hl4, Lib.hid (by simp), H0, .slice none 0 0, E6, World.ownsRow_nil _ _ _ _, hB6⟩
    case round =>
      obtain ⟨k, vs, rest, hk, hvl, rfl, rfl, hrl, hbits, hH, v, hG, hO, hB⟩ := hrel
      clear q1 S6 R6 E6 hB6 d0 e0 H0
      have k00 : (0 : Int) ≤ (k : Int) := by omega
      by_cases hlt : k < x.2.length
      · have k11 : (k : Int) < (x.2.length : Int) := by omega
        obtain ⟨bF, oF, rfl, hFc⟩ := hF.out (by omega)
        have hfk : x.2[k]? = some x.2[k] := List.getElem?_eq_getElem hlt
        obtain ⟨p0, p1⟩ := hFc k _ hfk
        have p0 := cell_later hB p0
        have p1 := cell_later hB p1
        have STP := Lib.hid (fun (b : Nat) hb => hH.out.step rfl hxi.out hfk (b := b) hb)
        generalize x.2[k] = f at *
        clear hFc hfk hH
        have hc1 := fun w => cut_at rest w (by omega)
        have hr2 : (cutL rest).length ≤ s.size := by have := cutL_len rest; omega
        have hr3 : (cutR rest).length ≤ s.size := by have := cutR_len rest; omega
        replace hc1 := Lib.hid hc1
        replace hvl := Lib.hid hvl
        have hszr := hB.size
        go_upto_region 10 with (fail)
        have hwz := m1 wr (.cells #[.string f.1, .int .i64 f.2] 57)
        have F12 := Blk.made wr 57 #[.string f.1, .int .i64 f.2]
        have hGz := hG.kept hwz
        have hOz := mown_below hO hwz
        have hBz := mmore hB hwz
        generalize wr.heap.size = g12 at *
        clear hG hO hB hwz p0 p1
        generalize wr.alloc (.cells #[.string f.1, .int .i64 f.2] 57) = wz at *
        go_wp2_with fail
        refine (hc1.out _).mono ?_; rintro e w7 ⟨⟨q3, rfl⟩, hb7⟩
        have F7 := F12.kept hb7
        have G7 := hGz.kept hb7
        have O7 := mown_below hOz hb7
        have B7 := mmore hBz hb7
        have S7 := K0u.out.kept B7
        have S7s := Lib.hid (hSu.out.later B7)
        have T7 := Lib.hid (hTu.out.later B7)
        have R7 := Lib.hid (hEu.out.later B7)
        have RD := fun w h1 h2 h3 => read_any (.slice (some ⟨bT, oT, none⟩) ts.length cap) C capC ss f.2 (bl (cutL rest)) w h1 hn (by rw [bl_size]; omega) h2 h3
        have hk1 : k + 1 ≤ x.2.length := hlt
        have SNV := Lib.hid (cellsV_more vs)
        have BTS := Lib.hid (fun (k : Int) (b : Nat) (h : b < 18446744073709551616) => snoc_bits hbits.out (k := k) h)
        replace RD := Lib.hid RD
        clear F12 hGz hOz hBz hb7 hc1 hbits hszr
        go_upto_region 12 with (fail)
        have x2 : w7.cell? ⟨g8, 2, none⟩ = some v := G7.cell 2
        have s0 : w7.cell? ⟨w.heap.size, 0, none⟩ = some (.slice (some ⟨bT, oT, none⟩) ts.length cap) := S7.cell 0
        have s1 : w7.cell? ⟨w.heap.size, 1, none⟩ = some (.slice C ss.length capC) := S7.cell 1
        have y1 : w7.cell? ⟨g12, 1, none⟩ = some (.int .i64 f.2) := F7.cell 1
        have hOz : w7.drew.ownsRow u.heap.size 61 2 v vs.length (cellsV vs) := O7
        have hGz : Blk w7.drew g8 36 #[.int .i64 (i : Int), .int .i64 n, v] := G7
        have hBz : Below u.heap.size u w7.drew := B7.drew
        have n3 : vs.length + 1 ≤ maxLen := by have := hvl.out; unfold maxLen; omega
        have n4 : (vs.length + 1) * 16 ≤ 140737488355328 := by have := hvl.out; omega
        replace hk1 := Lib.hid hk1
        replace n4 := Lib.hid n4
        clear G7 O7 B7 S7
        go_region_law (first | (go_simp; go_at_call 44; refine (RD.out _ (show SymsAt w7.drew C ss from S7s.out) (show TzCell w7.drew from T7.out) (show ErrCells w7.drew from R7.out)).mono ?_; rintro e w8 ⟨⟨b, rfl, hb0, hbx⟩, hb8⟩; have hO2 := mown_below hOz hb8; have hG2 := hGz.kept hb8; have hB2' := mmore hBz hb8; have x2' : w8.cell? ⟨g8, 2, none⟩ = some v := hG2.cell 2; have x3 : ∀ o : Obj, (w8.alloc o).cell? ⟨g8, 2, none⟩ = some v := fun o => cell_later (m1 w8 o) x2') | (refine step_append_own rfl (.tmp 59) (.tmp 65) 34 rfl u.heap.size 61 i0 (.agg #[.int .i64 0, .int .u64 0]) 2 16 Tryz.underlying34 hi hz0 hz1 hz2 rfl (by decide) v vs.length (cellsV vs) rfl (hO2.alloc _) ⟨w8.heap.size, 0, none⟩ 1 1 [.int .i64 f.2, .int .u64 (b : Int)] rfl rfl (news_two _ _ _ _) (one_two _ _) n3 n4.out (Nat.le_trans hB2'.size (by simp)) ?_; intro v' w9 hO3 hgrow; obtain ⟨gx, capx, rfl, _, _⟩ := hO3.form (by omega); have hG3 := (hG2.kept (m1 _ _)).grown hgrow (hG2.own_ne hO2 (by decide)); have hB3 := (hB2'.alloc hB2'.size _).grown hgrow (Nat.le_trans hB2'.size (by simp)) (fun g hg => (hO2.lt g hg).1); have y2 := hG3.cell 2; have y3 := hG3.free 2))
        all_goals have hG4 : Blk (w9.setCell ⟨g8, 2, none⟩ (.slice (some ⟨gx, 0, none⟩) (vs.length + 1) capx)) g8 36 #[.int .i64 (i : Int), .int .i64 n, .slice (some ⟨gx, 0, none⟩) (vs.length + 1) capx] := by simpa using hG3.put_ 2 (.slice (some ⟨gx, 0, none⟩) (vs.length + 1) capx)
        all_goals have hO4 := mown_set hO3 (p := ⟨g8, 2, none⟩) (fun e => hG3.own_ne hO3 (by decide) e.symm) (.slice (some ⟨gx, 0, none⟩) (vs.length + 1) capx)
        all_goals have hB4 := hB3.setCell (p := ⟨g8, 2, none⟩) hbase (.slice (some ⟨gx, 0, none⟩) (vs.length + 1) capx)
        all_goals clear hO3 hG3 hB3 hgrow hO2 hG2 hB2' x3 x2' y2 y3 hOz hGz hBz x2 hb8 F7
        all_goals generalize w9.setCell ⟨g8, 2, none⟩ (.slice (some ⟨gx, 0, none⟩) (vs.length + 1) capx) = w10 at *
        all_goals have hST := Lib.hid (STP.out b hbx)
        all_goals have hBT := Lib.hid (BTS.out f.2 b hb0)
        all_goals have hLN : (vs ++ [(f.2, b)]).length = vs.length + 1 := by simp
        all_goals rw [← SNV.out f.2 b, ← hLN] at hO4
        all_goals rw [← hLN] at hG4
        all_goals replace hG4 := Lib.hid hG4
        all_goals replace hLN := Lib.hid hLN
        all_goals clear hbx
        all_goals go_wp2
        all_goals go_roundw
        all_goals first | exact ⟨k + 1, vs ++ [(f.2, b)], cutR rest, hk1.out, by rw [hLN.out, hvl.out], by go_num, rfl, by omega, hBT, hST, _, hG4.out, hO4, hB4⟩ | (simp [intOf]; omega)
      · obtain rfl : k = x.2.length := by omega
        have k11 : ¬ (x.2.length : Int) < (x.2.length : Int) := by omega
        obtain ⟨B2, cap2, rfl, hR⟩ := own_row hO hbits.out
        have k2' := K1u.out.kept hB
        have hBw := mmore hu hB
        have DN := Lib.hid (fun ty' tm' vs' h1 h2 h3 => hH.out.done rfl hxi.out rfl (ty' := ty') (tm' := tm') (vs' := vs') h1 h2 h3)
        have x0 : wr.cell? ⟨g8, 0, none⟩ = some (.int .i64 (i : Int)) := hG.cell 0
        have x1 : wr.cell? ⟨g8, 1, none⟩ = some (.int .i64 n) := hG.cell 1
        have x2 : wr.cell? ⟨g8, 2, none⟩ = some (.slice B2 vs.length cap2) := hG.cell 2
        have z0 : wr.cell? ⟨w.heap.size + 1, 0, none⟩ = some (.int .i64 0) := k2'.cell 0
        have z1 : wr.cell? ⟨w.heap.size + 1, 1, none⟩ = some (.int .i64 0) := k2'.cell 1
        have z2 : wr.cell? ⟨w.heap.size + 1, 2, none⟩ = some (.slice none 0 0) := k2'.cell 2
        have f0 : wr.frozen? ⟨w.heap.size + 1, 0, none⟩ = false := k2'.free 0
        have f1 : wr.frozen? ⟨w.heap.size + 1, 1, none⟩ = false := k2'.free 1
        have f2 : wr.frozen? ⟨w.heap.size + 1, 2, none⟩ = false := k2'.free 2
        have k5 := ((k2'.put_ 0 (.int .i64 (i : Int))).put_ 1 (.int .i64 n)).put_ 2 (.slice B2 vs.length cap2)
        have hO5 := mown_set (mown_set (mown_set hO (p := ⟨w.heap.size + 1, 0, none⟩) (fun e => k2'.own_ne hO (by decide) e.symm) (.int .i64 (i : Int))) (p := ⟨w.heap.size + 1, 1, none⟩) (fun e => k2'.own_ne hO (by decide) e.symm) (.int .i64 n)) (p := ⟨w.heap.size + 1, 2, none⟩) (fun e => k2'.own_ne hO (by decide) e.symm) (.slice B2 vs.length cap2)
        have hB5 := ((hBw.setCell (p := ⟨w.heap.size + 1, 0, none⟩) (by show w.heap.size ≤ w.heap.size + 1; omega) (.int .i64 (i : Int))).setCell (p := ⟨w.heap.size + 1, 1, none⟩) (by show w.heap.size ≤ w.heap.size + 1; omega) (.int .i64 n)).setCell (p := ⟨w.heap.size + 1, 2, none⟩) (by show w.heap.size ≤ w.heap.size + 1; omega) (.slice B2 vs.length cap2)
        have r0 := Lib.hid (k5.cell 0)
        have r1 := Lib.hid (k5.cell 1)
        have r2 := Lib.hid (k5.cell 2)
        obtain ⟨B3, cap3, e5, hR5⟩ := own_row hO5 hbits.out
        injection e5 with e6 _ e7
        subst e6 e7
        have hv16 : vs.length * 16 ≤ 140737488351232 := by omega
        replace hR5 := Lib.hid hR5
        replace hB5 := Lib.hid hB5
        replace hvl := Lib.hid hvl
        clear hG hO hB hR k2' k5 hO5 hBw
        go_wp2
        have r0 := r0.out
        have r1 := r1.out
        have r2 := r2.out
        simp only [Array.setIfInBounds] at r0 r1 r2
        exact bodyPost_ret (v := .agg #[.int .i64 (i : Int), .int .i64 n, .slice B2 vs.length cap2]) (by simp [results, Tryz.results23, go_sem, r0, r1, r2, x0, x1, x2, z0, z1, z2]) rfl ⟨_, _, _, _, vs, rfl, hR5.out, hv16, DN.out, hB5.out⟩
end Go.Proofs.YtkmlbifhpkfinaaGreatDoor
