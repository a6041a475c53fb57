/- A line of a match, read (Parse), as a contract: at lines that are read. -/
import Derived.Test.YtmebbhlebehliaaDoorNum
import Derived.Test.YtmebbhlebehliaaDoorParJ
import Derived.Test.YtmebbhlebehliaaDoorLine
namespace Go.Proofs.YtmebbhlebehliaaDoor
open Go.ChangeShapes Go.WideShapes Go.ChangeAt Go.RowKit Go.Shelf
set_option linter.unusedVariables false
set_option linter.unusedSimpArgs false
attribute [local go_sem] Oper.semAt_some

/-- the text's words are these numbers -/
def NumsOk (s : ByteArray) (ns : List Int) : Prop :=
  s.size ≤ 281474976710656 ∧ (∀ (i : Nat) (h : i < s.size), (s[i]'h).toNat < 128) ∧ (fieldsOf s).map (fun x => Lib.atoiAll x.data.toList) = ns.map Lib.NumEnd.ok ∧ (∀ x ∈ fieldsOf s, x.size ≤ 9223372036854775806) ∧ ns.length * 8 ≤ 140737488355328
theorem nums_any (s : ByteArray) (ns : List Int) (w : World) (h : NumsOk s ns) (hT : SpTab w) (h0 : 0 < w.heap.size) :
    Calls Tryd.prog 11 #[.string s] w fun e w' => ∃ a c, e = .returned (.tuple #[.slice a ns.length c, .bool true]) ∧ w'.ownsRow w.heap.size 3 1 (.slice a ns.length c) ns.length (icells ns) ∧ Below w.heap.size w w' :=
  (numbers_any s ns w h.1 h.2.1 h.2.2.1 h.2.2.2.1 h.2.2.2.2 hT h0).mono fun e w' ⟨v, he, hO, hB⟩ => by
    rcases hO.2 with ⟨rfl, h0⟩ | ⟨g, cap, cur, rfl, _⟩
    · exact ⟨none, 0, by rw [h0]; exact he, by rw [h0] at hO ⊢; exact hO, hB⟩
    · exact ⟨_, cap, he, hO, hB⟩

set_option maxHeartbeats 1000000 in
theorem sseq_any (s sep : ByteArray) (w : World) :
    Calls Tryd.prog 12 #[.string s, .string sep] w fun e w' => e = .returned (.func (.func 34) #[] #[.pointer (some ⟨w.heap.size + 1, 0, none⟩), .pointer (some ⟨w.heap.size, 0, none⟩), .pointer (some ⟨w.heap.size + 1 + 1, 0, none⟩)]) ∧ w' = ((w.alloc (.cells #[.string s] 9)).alloc (.cells #[.string sep] 9)).alloc (.cells #[.int .i64 0] 3) := by
  have C : Calls Tryd.prog 22 #[.string s, .string sep, .int .i64 0] w fun e w' => e = .returned (.func (.func 34) #[] #[.pointer (some ⟨w.heap.size + 1, 0, none⟩), .pointer (some ⟨w.heap.size, 0, none⟩), .pointer (some ⟨w.heap.size + 1 + 1, 0, none⟩)]) ∧ w' = ((w.alloc (.cells #[.string s] 9)).alloc (.cells #[.string sep] 9)).alloc (.cells #[.int .i64 0] 3) := by
    go_enter Tryd.func22, Tryd.ntmps22
    go_wp2
    go_ret
    exact ⟨rfl, rfl⟩
  replace C := Lib.hid C
  go_enter Tryd.func12, Tryd.ntmps12
  go_wp2_with (go_at_call 22; refine C.out.mono ?_; rintro e w1 ⟨rfl, rfl⟩)
  go_ret
  exact ⟨rfl, rfl⟩
theorem bdrewN {B : Nat} {a w : World} (h : Below B a w) (n : Nat) : Below B a (w.drewN n) := ⟨h.os, h.tape, h.output, h.size, h.block⟩
set_option maxHeartbeats 1000000 in
theorem cut_any (s : ByteArray) (c : UInt8) (k : Nat) (w : World) (hk : Lib.indexByte s.data.toList c = (k : Int)) (hs : s.size ≤ 281474976710656) :
    Calls Tryd.prog 10 #[.string s, .string ⟨#[c]⟩] w fun e w' => e = .returned (.tuple #[.string (s.extract 0 k), .string (s.extract (k + 1) s.size), .bool true]) ∧ Below w.heap.size w w' := by
  have hkr := idx_lt hk
  have hI := Tryd.stringslite_Index_one s c w
  rw [hk] at hI
  have hsz : (⟨#[c]⟩ : ByteArray).size = 1 := rfl
  have k0 : (0 : Int) ≤ (k : Int) := by omega
  have k1 : (k : Int) ≤ (s.size : Int) := by omega
  have k3 : IntKind.i64.wrap ((k : Int) + 1) = (k : Int) + 1 := by rw [IntKind.wrap_i64]; omega
  have k4 : (k : Int) + 1 ≤ (s.size : Int) := by omega
  have k5 : (0 : Int) ≤ (k : Int) + 1 := by omega
  replace hI := Lib.hid hI
  clear hk
  have C : Calls Tryd.prog 19 #[.string s, .string ⟨#[c]⟩] w fun e w' => e = .returned (.tuple #[.string (s.extract 0 k), .string (s.extract (k + 1) s.size), .bool true]) ∧ Below w.heap.size w w' := by
    go_enter Tryd.func19, Tryd.ntmps19
    go_wp2_with (go_at_call 28; refine hI.out.mono ?_; rintro e w1 ⟨rfl, rfl⟩)
    go_quiet (fail)
    go_wp2
    exact bodyPost_ret (v := .tuple #[.string (s.extract 0 k), .string (s.extract (k + 1) s.size), .bool true]) (by simp [results, Tryd.results19, go_sem]) rfl ⟨rfl, bdrewN (Below.refl _ _) _⟩
  replace C := Lib.hid C
  go_enter Tryd.func10, Tryd.ntmps10
  go_wp2_with (go_at_call 19; refine C.out.mono ?_; rintro e w1 ⟨rfl, hb1⟩)
  exact bodyPost_ret (v := .tuple #[.string (s.extract 0 k), .string (s.extract (k + 1) s.size), .bool true]) (by simp [results, Tryd.results10, go_sem]) rfl ⟨rfl, hb1⟩

theorem own_at {w : World} {base : Nat} {e : TypeId} {v : Value} {zs : List Int} {n : Nat} (h : w.ownsRow base e 1 v n (icells zs)) {a : Option Addr} {m c : Nat} (hv : v = .slice a m c) : IntsAt w a zs := by
  have hn : n = zs.length := by have := h.1; simp [icells] at this; omega
  subst hn hv
  obtain ⟨A, cap, e, hI⟩ := own_ints h
  simp at e
  rw [e.1]
  exact hI

theorem rows_set {W : World} {base base' n : Nat} {v : Value} {kss : List (List Int)} {us : List Value} {p : Addr} {t : TypeId} {cs : Array Value} (hb : Blk W p.block t cs) (ht : 34 ≠ t) (ht2 : 3 ≠ t) (u : Value)
    (h : W.ownsRow base 34 1 v n us ∧ RowsOwnL W base' kss us) : (W.setCell p u).ownsRow base 34 1 v n us ∧ RowsOwnL (W.setCell p u) base' kss us :=
  ⟨mown_set h.1 (hb.own_ne h.1 ht).symm u, h.2.1, fun i ks x hi hx => mown_set (h.2.2 i ks x hi hx) (hb.own_ne (h.2.2 i ks x hi hx) ht2).symm u⟩
theorem parse_keep {w0 w1 w2 : World} {a0 a1 : Addr} {v0 v1 : Value} (hb : Below w1.heap.size w1 w2) (h : w1.cell? a0 = some v0 ∧ w1.cell? a1 = some v1 ∧ Below w0.heap.size w0 w1) : w2.cell? a0 = some v0 ∧ w2.cell? a1 = some v1 ∧ Below w0.heap.size w0 w2 :=
  ⟨cell_later hb h.1, cell_later hb h.2.1, mmore h.2.2 hb⟩

set_option maxHeartbeats 8000000 in
set_option maxRecDepth 100000 in
theorem parse_any (s : ByteArray) (k : Nat) (st br : Int) (pss : List (List Int)) (w : World) (hs : s.size ≤ 281474976710656) (hk : Lib.indexByte s.data.toList 58 = (k : Int)) (hh : NumsOk (s.extract 0 k) [st, br])
    (hl : (splitOf 59 (s.extract (k + 1) s.size)).length = pss.length) (hp : ∀ (i : Nat) (x : ByteArray) (ns : List Int), (splitOf 59 (s.extract (k + 1) s.size))[i]? = some x → pss[i]? = some ns → NumsOk x ns)
    (hline : lineOf st br pss = s) (hlim : (lineB st br pss).length + 64 ≤ 140737488355328) (hst : -9223372036854775808 ≤ st ∧ st ≤ 9223372036854775807) (hbr : -9223372036854775808 ≤ br ∧ br ≤ 9223372036854775807) (hp24 : pss.length * 24 ≤ 140737488355328)
    (hT : SpTab w) (h0 : 0 < w.heap.size) (htab : Lib.TabIs Tryd.prog w "internal/strconv.uint64pow10" .u64 Lib.pow10Tab) :
    Calls Tryd.prog 4 #[.string s] w fun e w' => ∃ A c, e = .returned (.tuple #[matV st br A pss.length c, .bool true]) ∧ RowsAt w' A pss ∧ Below w.heap.size w w' := by
  have bu := m2 w (.cells #[.int .i64 0, .int .i64 0, .slice none 0 0] 24) (.cells #[.bool false] 4)
  have hTu := hT.later bu
  refine (callsIn_wide (n := 9)).1 ?_
  refine callsIn_of_wp_marks Tryd.func4 rfl trivial ?_ rfl
  refine wpIn_wide.2 ?_
  simp only [Tryd.ntmps4, List.size_toArray, List.length_cons, List.length_nil, Nat.reduceAdd, Nat.reduceSub, Array.replicate_succ, Array.replicate_zero, List.push_toArray, List.append_toArray, List.nil_append, List.cons_append]
  have x0 : Blk ((w.alloc (.cells #[.int .i64 0, .int .i64 0, .slice none 0 0] 24)).alloc (.cells #[.bool false] 4)) w.heap.size 24 #[.int .i64 0, .int .i64 0, .slice none 0 0] := (Blk.made _ _ _).kept (m1 _ _)
  have x1 : Blk ((w.alloc (.cells #[.int .i64 0, .int .i64 0, .slice none 0 0] 24)).alloc (.cells #[.bool false] 4)) (w.heap.size + 1) 4 #[.bool false] := by
    have := Blk.made (w.alloc (.cells #[.int .i64 0, .int .i64 0, .slice none 0 0] 24)) 4 #[.bool false]
    simpa using this
  have hx2 := Lib.hid (show ∀ l ∈ pss, l.length ≤ 9223372036854775806 from fun l hm => by
    obtain ⟨i, hi, rfl⟩ := List.mem_iff_getElem.1 hm
    have := (hp i _ _ (List.getElem?_eq_getElem (by omega)) (List.getElem?_eq_getElem hi)).2.2.2.2
    omega)
  replace hp := Lib.hid hp
  replace hline := Lib.hid hline
  replace hst := Lib.hid hst
  replace hbr := Lib.hid hbr
  replace hh := Lib.hid hh
  have hC := Lib.hid (fun w => cut_any s 58 k w hk hs)
  clear hk
  go_wp2_with fail
  generalize (w.alloc (.cells #[.int .i64 0, .int .i64 0, .slice none 0 0] 24)).alloc (.cells #[.bool false] 4) = u at *
  refine (hC.out u).mono ?_; rintro e w1 ⟨rfl, hb1⟩
  go_wp2_with fail
  refine (nums_any _ _ w1 hh.out (hTu.later hb1) (by have := bu.size; have := hb1.size; omega)).mono ?_; rintro e w2 ⟨na, nc, rfl, hO2, hb2⟩
  have hI2 := own_at hO2 rfl
  obtain ⟨nb, noff, rfl, hnc⟩ := hI2 (by simp)
  have n0 := hnc 0 _ rfl
  have n1 := hnc 1 _ rfl
  simp only [Nat.add_zero] at n0
  have hB2 := mmore (mmore bu hb1) hb2
  have X0 := (x0.kept hb1).kept hb2
  have X1 := (x1.kept hb1).kept hb2
  clear hO2 hnc x0 x1 hC
  simp only [List.length_cons, List.length_nil]
  go_wp2_with fail
  have ne0 : ¬ nb = w2.heap.size := Nat.ne_of_lt (mblock n0)
  have ne1 : ¬ w2.heap.size = nb := fun e => ne0 e.symm
  have ma : ∀ o, Below w2.heap.size w2 ((w2.alloc o).drew) := fun o => (m1 w2 o).drew
  have md : Below w2.heap.size w2 w2.drew := (Below.refl _ _).drew
  go_region_held3 (fun w' => w'.cell? ⟨nb, noff, none⟩ = some (.int .i64 st) ∧ w'.cell? ⟨nb, noff + 1, none⟩ = some (.int .i64 br) ∧ Below w2.heap.size w2 w')
    (first | exact ⟨n0, n1, md⟩ | exact parse_keep (ma _) ⟨n0, n1, Below.refl _ _⟩ | go_keep | assumption) (fail)
  rename_i hS
  clear hS
  have hM : Blk ((w2.alloc (.cells #[.int .i64 st, .int .i64 br, .slice none 0 0] 24)).drew) w2.heap.size 24 #[.int .i64 st, .int .i64 br, .slice none 0 0] := Blk.made _ _ _
  have hB3 : Below w.heap.size w ((w2.alloc (.cells #[.int .i64 st, .int .i64 br, .slice none 0 0] 24)).drew) := mmore hB2 (ma _)
  have Y0 := X0.kept (ma (.cells #[.int .i64 st, .int .i64 br, .slice none 0 0] 24))
  have Y1 := X1.kept (ma (.cells #[.int .i64 st, .int .i64 br, .slice none 0 0] 24))
  have hz3 := Lib.hid (show ((w2.alloc (.cells #[.int .i64 st, .int .i64 br, .slice none 0 0] 24)).drew).heap.size = w2.heap.size + 1 by simp)
  have hz1 : w.heap.size + 1 < w2.heap.size := X1.lt
  clear n0 n1 ne0 ne1 X0 X1 ma md hI2 hb1 hb2 bu hB2 hTu
  generalize (w2.alloc (.cells #[.int .i64 st, .int .i64 br, .slice none 0 0] 24)).drew = w3 at *
  generalize w2.heap.size = Bm at *
  generalize htl : s.extract (k + 1) s.size = tail at *
  have htz : tail.size ≤ 281474976710656 := by rw [← htl]; simp; omega
  clear htl
  go_wp2_with (go_at_call 12; refine (sseq_any _ _ _).mono ?_; rintro e w4 ⟨rfl, rfl⟩)
  have z1 : Blk (((w3.alloc (.cells #[.string tail] 9)).alloc (.cells #[.string ⟨#[59]⟩] 9)).alloc (.cells #[.int .i64 0] 3)) w3.heap.size 9 #[.string tail] := ((Blk.made w3 _ _).kept (m1 _ _)).kept (m1 _ _)
  have z2 : Blk (((w3.alloc (.cells #[.string tail] 9)).alloc (.cells #[.string ⟨#[59]⟩] 9)).alloc (.cells #[.int .i64 0] 3)) (w3.heap.size + 1) 9 #[.string ⟨#[59]⟩] := by
    have := (Blk.made (w3.alloc (.cells #[.string tail] 9)) 9 #[.string ⟨#[59]⟩]).kept (m1 _ (.cells #[.int .i64 0] 3))
    simpa using this
  have z3 : Blk (((w3.alloc (.cells #[.string tail] 9)).alloc (.cells #[.string ⟨#[59]⟩] 9)).alloc (.cells #[.int .i64 0] 3)) (w3.heap.size + 1 + 1) 3 #[.int .i64 0] := by
    have := Blk.made ((w3.alloc (.cells #[.string tail] 9)).alloc (.cells #[.string ⟨#[59]⟩] 9)) 3 #[.int .i64 0]
    simpa using this
  have hb4 : Below w3.heap.size w3 (((w3.alloc (.cells #[.string tail] 9)).alloc (.cells #[.string ⟨#[59]⟩] 9)).alloc (.cells #[.int .i64 0] 3)) := (m2 w3 _ _).alloc (by simp; omega) _
  have hz4 := Lib.hid (show (((w3.alloc (.cells #[.string tail] 9)).alloc (.cells #[.string ⟨#[59]⟩] 9)).alloc (.cells #[.int .i64 0] 3)).heap.size = w3.heap.size + 3 by simp)
  have hM4 := hM.kept hb4
  have Y04 := Y0.kept hb4
  have Y14 := Y1.kept hb4
  have hB4 := mmore hB3 hb4
  clear hM hb4 Y0 Y1 hB3
  generalize ((w3.alloc (.cells #[.string tail] 9)).alloc (.cells #[.string ⟨#[59]⟩] 9)).alloc (.cells #[.int .i64 0] 3) = w4 at *
  generalize w3.heap.size = B1 at *
  have hI0 : ParI w Bm B1 st br ⟨#[59]⟩ pss [] w4 := ⟨.slice none 0 0, [], .string tail, hM4, World.ownsRow_nil _ _ _ _, ⟨by simp, fun i ks x hi hx => by simp at hx⟩, Y04, Y14, z1, z2, z3, hB4⟩
  refine (wpIn_wide (n := 9)).1 ?_
  have hz1' : w.heap.size + 1 < Bm := hz1
  have hB1 : Bm < B1 := by have := hz3.out; omega
  have hD : B1 + 3 = w4.heap.size := hz4.out.symm
  refine box_range (by omega) (gf := 34) (lb := #[.pointer (some ⟨B1 + 1, 0, none⟩), .pointer (some ⟨B1, 0, none⟩), .pointer (some ⟨B1 + 1 + 1, 0, none⟩)]) rfl (enters_of Tryd.func34 (by kernel_rfl) rfl)
    (fun x : ByteArray => #[.string x]) (fun _ => rfl) (splitOf 59 tail) (KpS B1 (B1 + 1) (B1 + 1 + 1)) KpS.trans
    (fun W o o' _ _ => ⟨World.putObj_heap_other (by omega), World.putObj_heap_other (by omega), World.putObj_heap_other (by omega)⟩)
    (StpS B1) stp_keeps (ParI w Bm B1 st br ⟨#[59]⟩ pss) (ParI.own _ hB4.size) (fun q A B h hst => h.stp hz1' hB1 hst) hI0
    (fun l J W hJS hbW hY hJ0 => split1_in (by omega) l B1 (B1 + 1) (B1 + 1 + 1) (by omega) (by omega) 59 tail htz J hJS hY W ((hbW.block _ z1.lt).trans z1) ((hbW.block _ z2.lt).trans z2) ((hbW.block _ z3.lt).trans z3) hJ0)
    (fun x => { tmps := #[.string s, undef, .pointer (some ⟨w.heap.size, 0, none⟩), .pointer (some ⟨w.heap.size + 1, 0, none⟩), .string (s.extract 0 k), .string tail, .bool true, .slice (some ⟨nb, noff, none⟩) 2 nc, .bool true, .pointer (some ⟨Bm, 0, none⟩), .string x, undef, undef, .tuple #[.string (s.extract 0 k), .string tail, .bool true], .string s, .tuple #[.string (s.extract 0 k), .string tail, .bool true], .string (s.extract 0 k), .string tail, .bool true, .tuple #[.slice (some ⟨nb, noff, none⟩) 2 nc, .bool true], .string (s.extract 0 k), .tuple #[.slice (some ⟨nb, noff, none⟩) 2 nc, .bool true], .slice (some ⟨nb, noff, none⟩) 2 nc, .bool true, .bool true, .bool false, .bool false, .slice (some ⟨nb, noff, none⟩) 2 nc, .int .i64 2, .bool false, .bool false, undef, .slice (some ⟨nb, noff, none⟩) 2 nc, .pointer (some ⟨nb, noff, none⟩), .int .i64 st, .slice (some ⟨nb, noff, none⟩) 2 nc, .pointer (some ⟨nb, noff + 1, none⟩), .int .i64 br, .agg #[.int .i64 st, .int .i64 br, .slice none 0 0], .string tail, .func (.func 34) #[] #[.pointer (some ⟨B1 + 1, 0, none⟩), .pointer (some ⟨B1, 0, none⟩), .pointer (some ⟨B1 + 1 + 1, 0, none⟩)], .string x, undef, undef, undef, undef, undef, undef, undef, undef, undef, undef, undef, undef, undef, undef, undef, undef, undef, undef, undef, undef], defers := [] }) ?assign ?body ?done
  case assign =>
    intro x K W hK
    gi_wp2
    exact hK
  case body =>
    intro pre x W hpre hI
    obtain ⟨i0, hi, hq0, hq1, hq2⟩ := info_parts infoRows
    have hpl : pre.length < pss.length := by have := hpre.length_le; simp at this; omega
    have hpx : (splitOf 59 tail)[pre.length]? = some x := by
      obtain ⟨q, hq⟩ := hpre
      rw [← hq, List.append_assoc, List.getElem?_append_right (Nat.le_refl _), Nat.sub_self]
      rfl
    have hns : pss[pre.length]? = some pss[pre.length] := List.getElem?_eq_getElem hpl
    generalize pss[pre.length] = ns at *
    have hok := hp.out _ _ _ hpx hns
    have hbI : Below w.heap.size w W := by obtain ⟨_, _, _, _, _, _, _, _, _, _, _, h⟩ := hI; exact h
    have hTI := hT.later hbI
    have h0I : 0 < W.heap.size := by have := hbI.size; omega
    have CN := Lib.hid (fun w => nums_any x ns w hok)
    have l1 : pre.length + 1 ≤ maxLen := by unfold maxLen; omega
    have l2 : (pre.length + 1) * 24 ≤ 140737488355328 := by omega
    clear hline hst hbr hh hp hpre hpx hok hI0 hM4 Y04 Y14 z1 z2 z3 hB4 hl hlim
    gi_wp2_with (first
      | (refine ⟨trivial, ?_⟩; gi_at_call 11; refine (CallsIn.inRound (w4.heap.size + 1) (callsIn_wide.2 (CN.out _ hTI h0I))).mono ?_; rintro e W1 ⟨pa, pc, rfl, hpO, hbW⟩; obtain ⟨v, us, r, j1, j2, j3, j4, j5, j6, j7, j8, j9⟩ := hI.later hbW; have hpO2 := mown_mono hpO hbI.size; have jc : W1.cell? ⟨Bm, 2, none⟩ = some v := j1.cell 2)
      | (gi_at_builtin; refine wpListIn_append_own _ rfl _ _ 22 rfl w.heap.size 34 i0 (.slice none 0 0) 1 24 Tryd.underlying22 hi hq0 hq1 hq2 rfl (by decide) _ _ _ rfl (j2.alloc _) ⟨W1.heap.size, 0, none⟩ 1 1 [.slice pa ns.length pc] rfl rfl (cell_one_new _ _ _) (by simp [Value.oneCell']) l1 l2 (by have := j9.size; simp; omega) ?_; intro v' w1' hown' hgrow _; obtain ⟨g', cap', rfl⟩ := ownsRow_succ hown'; obtain ⟨q1, q2, q3, q4⟩ := ParI.more (x := x) hz1' hns hpO2 j1 j2 j3 j4 j5 j6 j7 j8 j9 hown' hgrow; have qc : w1'.cell? ⟨Bm, 2, none⟩ = some v := q1.cell 2; have qf := q1.free 2))
    obtain ⟨_, _, _, _, _, _, _, _, p6, p7, p8, _⟩ := hI
    have tk := KpS.trans (B1 := B1) (B2 := B1 + 1) (B3 := B1 + 1 + 1) (A := W) (B := W1) ⟨hbW.block _ p6.lt, hbW.block _ p7.lt, hbW.block _ p8.lt⟩ q3
    exact ⟨((others_of_below hbW).trans q4).from _, tk⟩
  case done =>
    intro W hI hK
    obtain ⟨v, us, r, j1, j2, j3, j4, j5, j6, j7, j8, j9⟩ := hI
    rw [hl, List.take_of_length_le (Nat.le_refl _)] at j3
    rw [hl] at j2
    obtain ⟨A, cap, rfl, hR⟩ := own_rows rfl j2 j3
    have d0 : W.cell? ⟨Bm, 0, none⟩ = some (.int .i64 st) := j1.cell 0
    have d1 : W.cell? ⟨Bm, 1, none⟩ = some (.int .i64 br) := j1.cell 1
    have d2 : W.cell? ⟨Bm, 2, none⟩ = some (.slice A pss.length cap) := j1.cell 2
    have hLA := Lib.hid (fun w hR htab => line_any A cap st br pss w hR (by omega) hx2.out hst.out.1 hst.out.2 hbr.out.1 hbr.out.2 hlim htab)
    have htW := (Lib.tabBelow_of_tabIs htab) W j9
    have hLs := hline
    have c0 := j4.cell 0
    have hU := Lib.hid (And.intro j2 j3)
    clear hline hp hT hh hI0 hM4 Y04 Y14 z1 z2 z3 hB4 j2 j3 j6 j7 j8
    go_wp2_with (go_at_call 7; refine (hLA.out W hR htW).mono ?_; rintro e W5 ⟨rfl, hb5⟩; rw [hLs.out]; have e0 := cell_later hb5 d0; have e1 := cell_later hb5 d1; have e2 := cell_later hb5 d2; have k4 := j4.kept hb5; have k5 := j5.kept hb5; have g0 : W5.cell? ⟨w.heap.size, 0, none⟩ = some (.int .i64 0) := k4.cell 0; have g1 : W5.cell? ⟨w.heap.size, 1, none⟩ = some (.int .i64 0) := k4.cell 1; have g2 : W5.cell? ⟨w.heap.size, 2, none⟩ = some (.slice none 0 0) := k4.cell 2; have g3 : W5.cell? ⟨w.heap.size + 1, 0, none⟩ = some (.bool false) := k5.cell 0; have f0 := k4.free 0; have f1 := k4.free 1; have f2 := k4.free 2; have f3 := k5.free 0)
    have u5 : W5.ownsRow w.heap.size 34 1 (.slice A pss.length cap) pss.length us ∧ RowsOwnL W5 w.heap.size pss us := ⟨mown_below hU.out.1 hb5, hU.out.2.1, fun i ks x hi hx => mown_below (hU.out.2.2 i ks x hi hx) hb5⟩
    have B0 := k4.put_ 0 (.int .i64 st)
    have B1' := B0.put_ 1 (.int .i64 br)
    have B2 := B1'.put_ 2 (.slice A pss.length cap)
    have C2 := ((k5.else_ (p := ⟨w.heap.size, 0, none⟩) (by show w.heap.size ≠ w.heap.size + 1; omega) (.int .i64 st)).else_ (p := ⟨w.heap.size, 1, none⟩) (by show w.heap.size ≠ w.heap.size + 1; omega) (.int .i64 br)).else_ (p := ⟨w.heap.size, 2, none⟩) (by show w.heap.size ≠ w.heap.size + 1; omega) (.slice A pss.length cap)
    have B3 := B2.else_ (p := ⟨w.heap.size + 1, 0, none⟩) (by show w.heap.size + 1 ≠ w.heap.size; omega) (.bool true)
    have C3 := C2.put_ 0 (.bool true)
    have u6 := rows_set (p := ⟨w.heap.size + 1, 0, none⟩) C2 (by decide) (by decide) (.bool true) (rows_set (p := ⟨w.heap.size, 2, none⟩) B1' (by decide) (by decide) (.slice A pss.length cap) (rows_set (p := ⟨w.heap.size, 1, none⟩) B0 (by decide) (by decide) (.int .i64 br) (rows_set (p := ⟨w.heap.size, 0, none⟩) k4 (by decide) (by decide) (.int .i64 st) u5)))
    have hK6 := ((others_of_below hb5).trans ((((KeepsOthers.setCell W5 ⟨w.heap.size, 0, none⟩ (.int .i64 st)).trans (KeepsOthers.setCell _ ⟨w.heap.size, 1, none⟩ (.int .i64 br))).trans (KeepsOthers.setCell _ ⟨w.heap.size, 2, none⟩ (.slice A pss.length cap))).trans (KeepsOthers.setCell _ ⟨w.heap.size + 1, 0, none⟩ (.bool true)))).same w4.heap.size _ hK rfl
    have hB6 := ((((mmore j9 hb5).setCell (p := ⟨w.heap.size, 0, none⟩) (Nat.le_refl _) (.int .i64 st)).setCell (p := ⟨w.heap.size, 1, none⟩) (Nat.le_refl _) (.int .i64 br)).setCell (p := ⟨w.heap.size, 2, none⟩) (Nat.le_refl _) (.slice A pss.length cap)).setCell (p := ⟨w.heap.size + 1, 0, none⟩) (by show w.heap.size ≤ w.heap.size + 1; omega) (.bool true)
    have hD2 : w.heap.size ≤ w4.heap.size := by have := hz4.out; omega
    generalize (((W5.setCell ⟨w.heap.size, 0, none⟩ (.int .i64 st)).setCell ⟨w.heap.size, 1, none⟩ (.int .i64 br)).setCell ⟨w.heap.size, 2, none⟩ (.slice A pss.length cap)).setCell ⟨w.heap.size + 1, 0, none⟩ (.bool true) = W6 at *
    have hP : ∀ {g t cs}, Blk W6 g t cs → Blk (W6.putObj w4.heap.size (.deferred none)) g t cs := fun {g t cs} hx => hx.grown (grownBy_putObj' W6 w4.heap.size (.deferred none)) (fun e => by
      obtain rfl : g = w4.heap.size := by simpa using e
      unfold Blk at hx
      rw [hx] at hK6; cases hK6)
    have P0 := hP B3
    have P1 := hP C3
    have P2 := ownsRow_putObj u6.1 (.deferred none) hK6 rfl
    have P3 : RowsOwnL (W6.putObj w4.heap.size (.deferred none)) w.heap.size pss us := ⟨u6.2.1, fun i ks x hi hx => ownsRow_putObj (u6.2.2 i ks x hi hx) (.deferred none) hK6 rfl⟩
    have P4 := below_own1 hB6 (grownBy_putObj' W6 w4.heap.size (.deferred none)) hD2 (fun r e => by cases e; exact Nat.le_refl _)
    refine ⟨by simp, .inl ⟨_, _, rfl, run_takeDeferred hK6, ?_⟩⟩
    generalize W6.putObj w4.heap.size (.deferred none) = W7 at *
    obtain ⟨A', cap', ea, hR7⟩ := own_rows rfl P2 P3
    obtain ⟨rfl, _, rfl⟩ : A = A' ∧ pss.length = pss.length ∧ cap = cap' := by simpa using ea
    have s0 : W7.cell? ⟨w.heap.size, 0, none⟩ = some (.int .i64 st) := P0.cell 0
    have s1 : W7.cell? ⟨w.heap.size, 1, none⟩ = some (.int .i64 br) := P0.cell 1
    have s2 : W7.cell? ⟨w.heap.size, 2, none⟩ = some (.slice A pss.length cap) := P0.cell 2
    have s3 : W7.cell? ⟨w.heap.size + 1, 0, none⟩ = some (.bool true) := P1.cell 0
    exact ⟨.tuple #[matV st br A pss.length cap, .bool true], by simp [results, Tryd.results4, go_sem, s0, s1, s2, s3], _, _, rfl, hR7, P4⟩
end Go.Proofs.YtmebbhlebehliaaDoor
