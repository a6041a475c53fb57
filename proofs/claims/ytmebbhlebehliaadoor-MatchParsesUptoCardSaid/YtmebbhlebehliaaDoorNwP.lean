/- A line of a match, read (Parse), at every text: what was read has that line, or nothing was read. -/
import Derived.Test.YtmebbhlebehliaaDoorNwB
import Derived.Test.YtmebbhlebehliaaDoorNwS
import Derived.Test.YtmebbhlebehliaaDoorMlB
namespace Go.Proofs.YtmebbhlebehliaaDoor
open Go.ChangeShapes Go.WideShapes Go.ChangeAt Go.RowKit Go.Shelf
set_option linter.unusedVariables false
set_option linter.unusedSimpArgs false
attribute [local go_sem] Oper.semAt_some

set_option maxHeartbeats 1000000 in
theorem cut_none (s : ByteArray) (c : UInt8) (w : World) (hk : Lib.indexByte s.data.toList c < 0) :
    Calls Tryd.prog 10 #[.string s, .string ⟨#[c]⟩] w fun e w' => e = .returned (.tuple #[.string s, .string ⟨#[]⟩, .bool false]) ∧ Below w.heap.size w w' := by
  have hI := Tryd.stringslite_Index_one s c w
  generalize Lib.indexByte s.data.toList c = z at *
  have k0 : ¬ z ≥ 0 := by omega
  replace hI := Lib.hid hI
  have C : Calls Tryd.prog 19 #[.string s, .string ⟨#[c]⟩] w fun e w' => e = .returned (.tuple #[.string s, .string ⟨#[]⟩, .bool false]) ∧ Below w.heap.size w w' := by
    go_enter Tryd.func19, Tryd.ntmps19
    go_wp2_with (go_at_call 28; refine hI.out.mono ?_; rintro e w1 ⟨rfl, rfl⟩)
    exact bodyPost_ret (v := .tuple #[.string s, .string ⟨#[]⟩, .bool false]) (by simp [results, Tryd.results19, go_sem]) rfl ⟨rfl, Below.refl _ _⟩
  replace C := Lib.hid C
  go_enter Tryd.func10, Tryd.ntmps10
  go_wp2_with (go_at_call 19; refine C.out.mono ?_; rintro e w1 ⟨rfl, hb1⟩)
  exact bodyPost_ret (v := .tuple #[.string s, .string ⟨#[]⟩, .bool false]) (by simp [results, Tryd.results10, go_sem]) rfl ⟨rfl, hb1⟩
theorem cut_all (s : ByteArray) (c : UInt8) (hs : s.size ≤ 281474976710656) : ∃ (hd tl : ByteArray) (fd : Bool), hd.size ≤ s.size ∧ tl.size ≤ s.size ∧ ∀ w, Calls Tryd.prog 10 #[.string s, .string ⟨#[c]⟩] w fun e w' => e = .returned (.tuple #[.string hd, .string tl, .bool fd]) ∧ Below w.heap.size w w' := by
  by_cases h : Lib.indexByte s.data.toList c < 0
  · exact ⟨s, ⟨#[]⟩, false, Nat.le_refl _, Nat.zero_le _, fun w => cut_none s c w h⟩
  · obtain ⟨k, hk⟩ : ∃ k : Nat, Lib.indexByte s.data.toList c = (k : Int) := ⟨(Lib.indexByte s.data.toList c).toNat, by omega⟩
    exact ⟨_, _, _, (by simp; omega), (by simp), fun w => cut_any s c k w hk hs⟩
theorem flat_len {M : Nat} : ∀ {bs : List (List Int)}, (∀ l ∈ bs, l.length ≤ M) → bs.flatten.length ≤ bs.length * M
  | [], _ => by simp
  | l :: r, h => by
    have h1 := h l (by simp)
    have h2 := flat_len (bs := r) fun x hx => h x (by simp [hx])
    simp only [List.flatten_cons, List.length_append, List.length_cons, Nat.add_mul, Nat.one_mul]
    omega
theorem line_room {st br : Int} {bs : List (List Int)} (hx : bs.length ≤ 1048577) (hx2 : ∀ l ∈ bs, l.length ≤ 1048577) (hst : -9223372036854775808 ≤ st ∧ st ≤ 9223372036854775807) (hbr : -9223372036854775808 ≤ br ∧ br ≤ 9223372036854775807) (hg : goodP st br bs 9223372036854775807 = true) :
    (lineB st br bs).length + 64 ≤ 140737488355328 ∧ bs.flatten.length * 8 ≤ 140737488355328 := by
  have h1 := flat_len hx2
  have h2 : bs.length * 1048577 ≤ 1048577 * 1048577 := Nat.mul_le_mul_right _ hx
  have h3 := parts_lenU bs 0 (fun l hl x hx => by have := good_range hg l hl x hx; omega)
  have h4 := Lib.itoa_length_le st hst.1 hst.2
  have h5 := Lib.itoa_length_le br hbr.1 hbr.2
  simp only [lineB, List.length_append, List.length_cons]
  omega
theorem line_all (A : Option Addr) (cap : Nat) (st br : Int) (bs : List (List Int)) (w : World) (hA : RowsAt w A bs) (hx : bs.length ≤ 1048577) (hx2 : ∀ l ∈ bs, l.length ≤ 1048577) (hst : -9223372036854775808 ≤ st ∧ st ≤ 9223372036854775807) (hbr : -9223372036854775808 ≤ br ∧ br ≤ 9223372036854775807)
    (htab : Lib.TabIs Tryd.prog w "internal/strconv.uint64pow10" .u64 Lib.pow10Tab) :
    Calls Tryd.prog 7 #[matV st br A bs.length cap] w fun e w' => e = .returned (.string (lineOf st br bs)) ∧ Below w.heap.size w w' := by
  have y1 : bs.length ≤ 9223372036854775806 := by omega
  have y2 : ∀ l ∈ bs, l.length ≤ 9223372036854775806 := fun l hl => by have := hx2 l hl; omega
  cases hg : goodP st br bs 9223372036854775807 with
  | true => exact line_any A cap st br bs w hA y1 y2 hst.1 hst.2 hbr.1 hbr.2 (line_room hx hx2 hst hbr hg).1 htab
  | false =>
    have hl : lineOf st br bs = ⟨#[]⟩ := by unfold lineOf; rw [if_neg (by rw [hg]; decide)]
    rw [hl]
    exact line_no A cap st br bs w hA y1 y2 hg
theorem toList_neM {a b : ByteArray} (h : a ≠ b) : (a.toList == b.toList) = false := by
  simp
  intro e
  exact h (by
    apply ByteArray.ext
    apply Array.ext'
    rw [ByteArray.toList_eq, ByteArray.toList_eq] at e
    exact e)
/-- the parts read so far -/
def ParQ (w : World) (Bm B1 : Nat) (st br : Int) (sep : ByteArray) (M : Nat) (pre : List ByteArray) (W : World) : Prop :=
  ∃ pss : List (List Int), pss.length = pre.length ∧ (∀ l ∈ pss, l.length ≤ M) ∧ ParI w Bm B1 st br sep pss pre W
def ParX (w : World) (W : World) : Prop := Blk W w.heap.size 24 #[.int .i64 0, .int .i64 0, .slice none 0 0] ∧ Blk W (w.heap.size + 1) 4 #[.bool false] ∧ Below w.heap.size w W
theorem ParX.own {w : World} (B : Nat) (hB : w.heap.size ≤ B) : OwnFrom B (fun (_ : List ByteArray) W => ParX w W) := fun pre W W' row h hg hr => by
  have hr2 : ∀ r, row = some r → ∃ o : Obj, W.heap[r]? = some o ∧ o.isCells = false := fun r e => (hr r e).2
  obtain ⟨h1, h2, h3⟩ := h
  have hb : ∀ {g t cs}, Blk W g t cs → Blk W' g t cs := fun {g t cs} hx => hx.grown hg (fun e => by
    obtain ⟨o, ho, hc⟩ := hr2 g e.symm
    unfold Blk at hx
    rw [hx] at ho; cases ho; cases hc)
  exact ⟨hb h1, hb h2, below_own1 h3 hg hB (fun r e => (hr r e).1)⟩
theorem ParX.later {w W W' : World} (h : ParX w W) (hb : Below W.heap.size W W') : ParX w W' := ⟨h.1.kept hb, h.2.1.kept hb, mmore h.2.2 hb⟩
/-- the zero match and false, stored -/
theorem ParX.zero {w W : World} (h : ParX w W) : ParX w ((((W.setCell ⟨w.heap.size, 0, none⟩ (.int .i64 0)).setCell ⟨w.heap.size, 1, none⟩ (.int .i64 0)).setCell ⟨w.heap.size, 2, none⟩ (.slice none 0 0)).setCell ⟨w.heap.size + 1, 0, none⟩ (.bool false)) := by
  obtain ⟨X0, X1, hB2⟩ := h
  have B0 := ((X0.put_ 0 (.int .i64 0)).put_ 1 (.int .i64 0)).put_ 2 (.slice none 0 0)
  have C0 := ((X1.else_ (p := ⟨w.heap.size, 0, none⟩) (by show w.heap.size ≠ w.heap.size + 1; omega) (.int .i64 0)).else_ (p := ⟨w.heap.size, 1, none⟩) (by show w.heap.size ≠ w.heap.size + 1; omega) (.int .i64 0)).else_ (p := ⟨w.heap.size, 2, none⟩) (by show w.heap.size ≠ w.heap.size + 1; omega) (.slice none 0 0)
  have B1 := B0.else_ (p := ⟨w.heap.size + 1, 0, none⟩) (by show w.heap.size + 1 ≠ w.heap.size; omega) (.bool false)
  have C1 := C0.put_ 0 (.bool false)
  exact ⟨B1, C1, (((hB2.setCell (p := ⟨w.heap.size, 0, none⟩) (Nat.le_refl _) (.int .i64 0)).setCell (p := ⟨w.heap.size, 1, none⟩) (Nat.le_refl _) (.int .i64 0)).setCell (p := ⟨w.heap.size, 2, none⟩) (Nat.le_refl _) (.slice none 0 0)).setCell (p := ⟨w.heap.size + 1, 0, none⟩) (by show w.heap.size ≤ w.heap.size + 1; omega) (.bool false)⟩
theorem zero_keeps (W : World) (a b c d : Addr) (x y z u : Value) : KeepsOthers W ((((W.setCell a x).setCell b y).setCell c z).setCell d u) :=
  (((KeepsOthers.setCell W a x).trans (KeepsOthers.setCell _ b y)).trans (KeepsOthers.setCell _ c z)).trans (KeepsOthers.setCell _ d u)
/-- what reading answers -/
def ParseSays (s : ByteArray) (w : World) (e : Ending) (w' : World) : Prop :=
  ∃ st br A pss c b, e = .returned (.tuple #[matV st br A pss.length c, .bool b]) ∧ Below w.heap.size w w' ∧ RowsAt w' A pss ∧ pss.length ≤ 1048577 ∧ (∀ l ∈ pss, l.length ≤ 1048577) ∧
    (b = true → s.size ≠ 0 ∧ lineOf st br pss = s ∧ (-9223372036854775808 ≤ st ∧ st ≤ 9223372036854775807) ∧ (-9223372036854775808 ≤ br ∧ br ≤ 9223372036854775807)) ∧ (b = false → st = 0 ∧ br = 0 ∧ pss = [])
theorem says_zero {s : ByteArray} {w w' : World} (h : Below w.heap.size w w') : ParseSays s w (.returned (.tuple #[matV 0 0 none 0 0, .bool false])) w' :=
  ⟨0, 0, none, [], 0, false, rfl, h, (fun h => by simp at h), (by simp), (by simp), (fun h => by cases h), fun _ => ⟨rfl, rfl, rfl⟩⟩

set_option maxHeartbeats 8000000 in
set_option maxRecDepth 100000 in
theorem parse_all (s : ByteArray) (w : World) (hs : s.size ≤ 1048576) (hT : ScanTabs w) (hE : ErrC w) (htab : Lib.TabIs Tryd.prog w "internal/strconv.uint64pow10" .u64 Lib.pow10Tab) :
    Calls Tryd.prog 4 #[.string s] w fun e w' => ParseSays s w e w' := by
  have bu := m2 w (.cells #[.int .i64 0, .int .i64 0, .slice none 0 0] 24) (.cells #[.bool false] 4)
  refine (callsIn_wide (n := 9)).1 ?_
  refine callsIn_of_wp_marks Tryd.func4 rfl trivial ?_ rfl
  refine wpIn_wide.2 ?_
  simp only [Tryd.ntmps4, List.size_toArray, List.length_cons, List.length_nil, Nat.reduceAdd, Nat.reduceSub, Array.replicate_succ, Array.replicate_zero, List.push_toArray, List.append_toArray, List.nil_append, List.cons_append]
  have x0 : Blk ((w.alloc (.cells #[.int .i64 0, .int .i64 0, .slice none 0 0] 24)).alloc (.cells #[.bool false] 4)) w.heap.size 24 #[.int .i64 0, .int .i64 0, .slice none 0 0] := (Blk.made _ _ _).kept (m1 _ _)
  have x1 : Blk ((w.alloc (.cells #[.int .i64 0, .int .i64 0, .slice none 0 0] 24)).alloc (.cells #[.bool false] 4)) (w.heap.size + 1) 4 #[.bool false] := by
    have := Blk.made (w.alloc (.cells #[.int .i64 0, .int .i64 0, .slice none 0 0] 24)) 4 #[.bool false]
    simpa using this
  obtain ⟨hd, tl, fd, hhd, htl, hC⟩ := cut_all s 58 (by omega)
  replace hC := Lib.hid hC
  go_wp2_with fail
  generalize (w.alloc (.cells #[.int .i64 0, .int .i64 0, .slice none 0 0] 24)).alloc (.cells #[.bool false] 4) = u at *
  refine (hC.out u).mono ?_; rintro e w1 ⟨rfl, hb1⟩
  go_wp2_with fail
  have hBu1 := mmore bu hb1
  refine (numbers_all hd w1 (by omega) (hT.later hBu1) (hE.later hBu1)).mono ?_; rintro e w2 ⟨nv, nb0, rfl, hb2, hnv, nva, nvn, nc, rfl⟩
  have hB2 := mmore hBu1 hb2
  have X0 := (x0.kept hb1).kept hb2
  have X1 := (x1.kept hb1).kept hb2
  clear x0 x1 hC
  cases nb0 with
  | false =>
    clear hnv
    have PX : ParX w w2 := ⟨X0, X1, hB2⟩
    have q0 := X0.cell 0
    have q1 := X0.cell 1
    have q2 := X0.cell 2
    have q3 := X1.cell 0
    have f0 := X0.free 0
    have f1 := X0.free 1
    have f2 := X0.free 2
    have f3 := X1.free 0
    go_wp2_with fail
    have PZ := PX.zero
    generalize (((w2.setCell ⟨w.heap.size, 0, none⟩ (.int .i64 0)).setCell ⟨w.heap.size, 1, none⟩ (.int .i64 0)).setCell ⟨w.heap.size, 2, none⟩ (.slice none 0 0)).setCell ⟨w.heap.size + 1, 0, none⟩ (.bool false) = W7 at *
    have r0 : W7.cell? ⟨w.heap.size, 0, none⟩ = some (.int .i64 0) := PZ.1.cell 0
    have r1 : W7.cell? ⟨w.heap.size, 1, none⟩ = some (.int .i64 0) := PZ.1.cell 1
    have r2 : W7.cell? ⟨w.heap.size, 2, none⟩ = some (.slice none 0 0) := PZ.1.cell 2
    have r3 : W7.cell? ⟨w.heap.size + 1, 0, none⟩ = some (.bool false) := PZ.2.1.cell 0
    exact ⟨.tuple #[matV 0 0 none 0 0, .bool false], by simp [results, Tryd.results4, go_sem, r0, r1, r2, r3], says_zero PZ.2.2⟩
  | true =>
  obtain ⟨ns, hnl, hrg, hO2⟩ := hnv rfl
  obtain rfl : nvn = ns.length := by
    rcases hO2.2 with ⟨h, h0⟩ | ⟨g, cap, cur, h, _⟩
    · simp at h; omega
    · simp at h; omega
  by_cases h2 : ns.length = 2
  rotate_left
  · have h2' : ¬ (ns.length : Int) = 2 := by omega
    clear hO2 hrg hnl hnv
    have PX : ParX w w2 := ⟨X0, X1, hB2⟩
    have q0 := X0.cell 0
    have q1 := X0.cell 1
    have q2 := X0.cell 2
    have q3 := X1.cell 0
    have f0 := X0.free 0
    have f1 := X0.free 1
    have f2 := X0.free 2
    have f3 := X1.free 0
    go_wp2_with fail
    have PZ := PX.zero
    generalize (((w2.setCell ⟨w.heap.size, 0, none⟩ (.int .i64 0)).setCell ⟨w.heap.size, 1, none⟩ (.int .i64 0)).setCell ⟨w.heap.size, 2, none⟩ (.slice none 0 0)).setCell ⟨w.heap.size + 1, 0, none⟩ (.bool false) = W7 at *
    have r0 : W7.cell? ⟨w.heap.size, 0, none⟩ = some (.int .i64 0) := PZ.1.cell 0
    have r1 : W7.cell? ⟨w.heap.size, 1, none⟩ = some (.int .i64 0) := PZ.1.cell 1
    have r2 : W7.cell? ⟨w.heap.size, 2, none⟩ = some (.slice none 0 0) := PZ.1.cell 2
    have r3 : W7.cell? ⟨w.heap.size + 1, 0, none⟩ = some (.bool false) := PZ.2.1.cell 0
    exact ⟨.tuple #[matV 0 0 none 0 0, .bool false], by simp [results, Tryd.results4, go_sem, r0, r1, r2, r3], says_zero PZ.2.2⟩
  obtain ⟨st, br, rfl⟩ : ∃ st br, ns = [st, br] := by
    match ns, h2 with
    | [x, y], _ => exact ⟨x, y, rfl⟩
  have hs0 : s.size ≠ 0 := by simp at hnl; omega
  have hst := hrg st (by simp)
  have hbr := hrg br (by simp)
  have hI2 := own_at hO2 rfl
  obtain ⟨nb, noff, rfl, hnc⟩ := hI2 (by simp)
  have n0 := hnc 0 _ rfl
  have n1 := hnc 1 _ rfl
  simp only [Nat.add_zero] at n0
  replace hst := Lib.hid hst
  replace hbr := Lib.hid hbr
  replace hs0 := Lib.hid hs0
  clear hO2 hnc hnv hrg hnl h2
  simp only [List.length_cons, List.length_nil]
  go_wp2_with fail
  have ne0 : ¬ nb = w2.heap.size := Nat.ne_of_lt (mblock n0)
  have ne1 : ¬ w2.heap.size = nb := fun e => ne0 e.symm
  have ma : ∀ o, Below w2.heap.size w2 ((w2.alloc o).drew) := fun o => (m1 w2 o).drew
  have md : Below w2.heap.size w2 w2.drew := (Below.refl _ _).drew
  go_region_held3 (fun w' => w'.cell? ⟨nb, noff, none⟩ = some (.int .i64 st) ∧ w'.cell? ⟨nb, noff + 1, none⟩ = some (.int .i64 br) ∧ Below w2.heap.size w2 w')
    (first | exact ⟨n0, n1, md⟩ | exact parse_keep (ma _) ⟨n0, n1, Below.refl _ _⟩ | go_keep | assumption) (fail)
  rename_i hS
  clear hS
  have hM : Blk ((w2.alloc (.cells #[.int .i64 st, .int .i64 br, .slice none 0 0] 24)).drew) w2.heap.size 24 #[.int .i64 st, .int .i64 br, .slice none 0 0] := Blk.made _ _ _
  have hB3 : Below w.heap.size w ((w2.alloc (.cells #[.int .i64 st, .int .i64 br, .slice none 0 0] 24)).drew) := mmore hB2 (ma _)
  have Y0 := X0.kept (ma (.cells #[.int .i64 st, .int .i64 br, .slice none 0 0] 24))
  have Y1 := X1.kept (ma (.cells #[.int .i64 st, .int .i64 br, .slice none 0 0] 24))
  have hz3 := Lib.hid (show ((w2.alloc (.cells #[.int .i64 st, .int .i64 br, .slice none 0 0] 24)).drew).heap.size = w2.heap.size + 1 by simp)
  have hz1 : w.heap.size + 1 < w2.heap.size := X1.lt
  clear n0 n1 ne0 ne1 X0 X1 ma md hI2 hb1 hb2 bu hB2 hBu1
  generalize (w2.alloc (.cells #[.int .i64 st, .int .i64 br, .slice none 0 0] 24)).drew = w3 at *
  generalize w2.heap.size = Bm at *
  generalize tl = tail at *
  have htz : tail.size ≤ 281474976710656 := by omega
  go_wp2_with (go_at_call 12; refine (sseq_any _ _ _).mono ?_; rintro e w4 ⟨rfl, rfl⟩)
  have z1 : Blk (((w3.alloc (.cells #[.string tail] 9)).alloc (.cells #[.string ⟨#[59]⟩] 9)).alloc (.cells #[.int .i64 0] 3)) w3.heap.size 9 #[.string tail] := ((Blk.made w3 _ _).kept (m1 _ _)).kept (m1 _ _)
  have z2 : Blk (((w3.alloc (.cells #[.string tail] 9)).alloc (.cells #[.string ⟨#[59]⟩] 9)).alloc (.cells #[.int .i64 0] 3)) (w3.heap.size + 1) 9 #[.string ⟨#[59]⟩] := by
    have := (Blk.made (w3.alloc (.cells #[.string tail] 9)) 9 #[.string ⟨#[59]⟩]).kept (m1 _ (.cells #[.int .i64 0] 3))
    simpa using this
  have z3 : Blk (((w3.alloc (.cells #[.string tail] 9)).alloc (.cells #[.string ⟨#[59]⟩] 9)).alloc (.cells #[.int .i64 0] 3)) (w3.heap.size + 1 + 1) 3 #[.int .i64 0] := by
    have := Blk.made ((w3.alloc (.cells #[.string tail] 9)).alloc (.cells #[.string ⟨#[59]⟩] 9)) 3 #[.int .i64 0]
    simpa using this
  have hb4 : Below w3.heap.size w3 (((w3.alloc (.cells #[.string tail] 9)).alloc (.cells #[.string ⟨#[59]⟩] 9)).alloc (.cells #[.int .i64 0] 3)) := (m2 w3 _ _).alloc (by simp; omega) _
  have hz4 := Lib.hid (show (((w3.alloc (.cells #[.string tail] 9)).alloc (.cells #[.string ⟨#[59]⟩] 9)).alloc (.cells #[.int .i64 0] 3)).heap.size = w3.heap.size + 3 by simp)
  have hM4 := hM.kept hb4
  have Y04 := Y0.kept hb4
  have Y14 := Y1.kept hb4
  have hB4 := mmore hB3 hb4
  clear hM hb4 Y0 Y1 hB3
  generalize ((w3.alloc (.cells #[.string tail] 9)).alloc (.cells #[.string ⟨#[59]⟩] 9)).alloc (.cells #[.int .i64 0] 3) = w4 at *
  generalize w3.heap.size = B1 at *
  have hI0 : ParQ w Bm B1 st br ⟨#[59]⟩ (s.size + 1) [] w4 := ⟨[], rfl, by simp, .slice none 0 0, [], .string tail, hM4, World.ownsRow_nil _ _ _ _, ⟨by simp, fun i ks x hi hx => by simp at hx⟩, Y04, Y14, z1, z2, z3, hB4⟩
  refine (wpIn_wide (n := 9)).1 ?_
  have hz1' : w.heap.size + 1 < Bm := hz1
  have hB1 : Bm < B1 := by have := hz3.out; omega
  have hD : B1 + 3 = w4.heap.size := hz4.out.symm
  refine box_range2 (by omega) (gf := 34) (lb := #[.pointer (some ⟨B1 + 1, 0, none⟩), .pointer (some ⟨B1, 0, none⟩), .pointer (some ⟨B1 + 1 + 1, 0, none⟩)]) rfl (enters_of Tryd.func34 (by kernel_rfl) rfl)
    (fun x : ByteArray => #[.string x]) (fun _ => rfl) (fun ys => ys.length ≤ tail.size + 1) (fun pre x => x.size ≤ tail.size ∧ pre.length ≤ tail.size) (KpS B1 (B1 + 1) (B1 + 1 + 1)) KpS.trans
    (fun W o o' _ _ => ⟨World.putObj_heap_other (by omega), World.putObj_heap_other (by omega), World.putObj_heap_other (by omega)⟩)
    (StpS B1) stp_keeps (ParQ w Bm B1 st br ⟨#[59]⟩ (s.size + 1)) (fun _ W => ParX w W) (fun pre W W' row h hg hr => by obtain ⟨pss, h1, h2, h3⟩ := h; exact ⟨pss, h1, h2, ParI.own _ hB4.size pre W W' row h3 hg hr⟩) (ParX.own _ hB4.size) (fun q A B h hst => by obtain ⟨pss, h1, h2, h3⟩ := h; exact ⟨pss, h1, h2, h3.stp hz1' hB1 hst⟩) hI0
    (fun l J Jx W hJS hbW hY hJ0 => split2_in (by omega) l B1 (B1 + 1) (B1 + 1 + 1) (by omega) (by omega) 59 tail htz J Jx hJS hY W ((hbW.block _ z1.lt).trans z1) ((hbW.block _ z2.lt).trans z2) ((hbW.block _ z3.lt).trans z3) hJ0)
    (fun x => { tmps := #[.string s, undef, .pointer (some ⟨w.heap.size, 0, none⟩), .pointer (some ⟨w.heap.size + 1, 0, none⟩), .string hd, .string tail, .bool fd, .slice (some ⟨nb, noff, none⟩) 2 nc, .bool true, .pointer (some ⟨Bm, 0, none⟩), .string x, undef, undef, .tuple #[.string hd, .string tail, .bool fd], .string s, .tuple #[.string hd, .string tail, .bool fd], .string hd, .string tail, .bool fd, .tuple #[.slice (some ⟨nb, noff, none⟩) 2 nc, .bool true], .string hd, .tuple #[.slice (some ⟨nb, noff, none⟩) 2 nc, .bool true], .slice (some ⟨nb, noff, none⟩) 2 nc, .bool true, .bool true, .bool false, .bool false, .slice (some ⟨nb, noff, none⟩) 2 nc, .int .i64 2, .bool false, .bool false, undef, .slice (some ⟨nb, noff, none⟩) 2 nc, .pointer (some ⟨nb, noff, none⟩), .int .i64 st, .slice (some ⟨nb, noff, none⟩) 2 nc, .pointer (some ⟨nb, noff + 1, none⟩), .int .i64 br, .agg #[.int .i64 st, .int .i64 br, .slice none 0 0], .string tail, .func (.func 34) #[] #[.pointer (some ⟨B1 + 1, 0, none⟩), .pointer (some ⟨B1, 0, none⟩), .pointer (some ⟨B1 + 1 + 1, 0, none⟩)], .string x, undef, undef, undef, undef, undef, undef, undef, undef, undef, undef, undef, undef, undef, undef, undef, undef, undef, undef, undef, undef], defers := [] }) ?assign ?body ?done ?stop
  case assign =>
    intro x K W hK
    gi_wp2
    exact hK
  case body =>
    rintro pre x W ⟨hxs, hpl⟩ ⟨pss, hpsl, hpsm, hI⟩
    obtain ⟨i0, hi, hq0, hq1, hq2⟩ := info_parts infoRows
    have hbI : Below w.heap.size w W := by obtain ⟨_, _, _, _, _, _, _, _, _, _, _, h⟩ := hI; exact h
    have CN := Lib.hid (numbers_all x W (by omega) (hT.later hbI) (hE.later hbI))
    have l1 : pre.length + 1 ≤ maxLen := by unfold maxLen; omega
    have l2 : (pre.length + 1) * 24 ≤ 140737488355328 := by omega
    have hxs2 : x.size + 1 ≤ s.size + 1 := by omega
    clear hst hbr hI0 hM4 Y04 Y14 z1 z2 z3 hB4 hs0 hT hE htab
    replace hpsm := Lib.hid hpsm
    gi_wp2_with (first
      | (refine ⟨trivial, ?_⟩; gi_at_call 11; refine (CallsIn.inRound (w4.heap.size + 1) (callsIn_wide.2 CN.out)).mono ?_; rintro e W1 ⟨pv, pb, rfl, hbW, hpv, pva, pvn, pvc, rfl⟩; clear CN; obtain ⟨v, us, r, j1, j2, j3, j4, j5, j6, j7, j8, j9⟩ := hI.later hbW; have q0 := j4.cell 0; have q1 := j4.cell 1; have q2 := j4.cell 2; have q3 := j5.cell 0; have f0 := j4.free 0; have f1 := j4.free 1; have f2 := j4.free 2; have f3 := j5.free 0; have jc : W1.cell? ⟨Bm, 2, none⟩ = some v := j1.cell 2; replace hpv := Lib.hid hpv; cases pb)
      | (gi_at_builtin; obtain ⟨ns, hnl, hrg, hpO⟩ := hpv.out (by simp); have htk : pss.take pre.length = (pss ++ [ns]).take pre.length := (by rw [← hpsl]; simp); have hns : (pss ++ [ns])[pre.length]? = some ns := (by rw [← hpsl]; simp); rw [htk] at j3; have hpO2 := mown_mono hpO hbI.size; clear q0 q1 q2 q3 f0 f1 f2 f3 hpv hrg; refine wpListIn_append_own _ rfl _ _ 22 rfl w.heap.size 34 i0 (.slice none 0 0) 1 24 Tryd.underlying22 hi hq0 hq1 hq2 rfl (by decide) _ _ _ rfl (j2.alloc _) ⟨W1.heap.size, 0, none⟩ 1 1 [.slice pva pvn pvc] rfl rfl (cell_one_new _ _ _) (by simp [Value.oneCell']) l1 l2 (by have := j9.size; simp; omega) ?_; intro v' w1' hown' hgrow _; obtain ⟨g', cap', rfl⟩ := ownsRow_succ hown'; obtain ⟨q1, q2, q3, q4⟩ := ParI.more (x := x) hz1' hns hpO2 j1 j2 j3 j4 j5 j6 j7 j8 j9 hown' hgrow; have qc : w1'.cell? ⟨Bm, 2, none⟩ = some v := q1.cell 2; have qf := q1.free 2))
    · have PX : ParX w W1 := ⟨j4, j5, j9⟩
      first | exact ⟨((others_of_below hbW).trans (zero_keeps _ _ _ _ _ _ _ _ _)).from _, PX.zero⟩ | exact ⟨((others_of_below hbW).trans (zero_keeps _ _ _ _ _ _ _ _ _)).from _, .inr ⟨rfl, PX.zero⟩⟩
    · obtain ⟨_, _, _, _, _, _, _, _, p6, p7, p8, _⟩ := hI
      have tk := KpS.trans (B1 := B1) (B2 := B1 + 1) (B3 := B1 + 1 + 1) (A := W) (B := W1) ⟨hbW.block _ p6.lt, hbW.block _ p7.lt, hbW.block _ p8.lt⟩ q3
      have qm : ∀ l ∈ pss ++ [ns], l.length ≤ s.size + 1 := by
       intro l hl
       rcases List.mem_append.1 hl with h | h
       · exact hpsm.out l h
       · rw [List.mem_singleton.1 h]; omega
      first | exact ⟨((others_of_below hbW).trans q4).from _, tk, pss ++ [ns], by simp [hpsl], qm, q2⟩ | exact ⟨((others_of_below hbW).trans q4).from _, .inl ⟨rfl, tk, pss ++ [ns], by simp [hpsl], qm, q2⟩⟩
  case done =>
    rintro ys W hys ⟨pss, hpsl, hpsm, hI⟩ hK
    obtain ⟨v, us, r, j1, j2, j3, j4, j5, j6, j7, j8, j9⟩ := hI
    rw [← hpsl, List.take_of_length_le (Nat.le_refl _)] at j3
    rw [← hpsl] at j2
    have hp1 : pss.length ≤ 1048577 := by omega
    have hp2 : ∀ l ∈ pss, l.length ≤ 1048577 := fun l hl => by have := hpsm l hl; omega
    obtain ⟨A, cap, rfl, hR⟩ := own_rows rfl j2 j3
    have d0 : W.cell? ⟨Bm, 0, none⟩ = some (.int .i64 st) := j1.cell 0
    have d1 : W.cell? ⟨Bm, 1, none⟩ = some (.int .i64 br) := j1.cell 1
    have d2 : W.cell? ⟨Bm, 2, none⟩ = some (.slice A pss.length cap) := j1.cell 2
    have hLA := Lib.hid (fun w hR htab => line_all A cap st br pss w hR hp1 hp2 hst.out hbr.out htab)
    have htW := (Lib.tabBelow_of_tabIs htab) W j9
    have c0 := j4.cell 0
    have hU := Lib.hid (And.intro j2 j3)
    have PX : ParX w W := ⟨j4, j5, j9⟩
    clear hys hpsl hpsm hhd htl htz hs
    replace hp1 := Lib.hid hp1
    replace hp2 := Lib.hid hp2
    by_cases hLs : lineOf st br pss = s
    rotate_left
    · clear hT hE hI0 hM4 Y04 Y14 z1 z2 z3 hB4 j1 j2 j3 j6 j7 j8 hU hst hbr hs0
      generalize lineOf st br pss = L at *
      have hLs2 : (L.toList == s.toList) = false := toList_neM hLs
      clear hLs
      go_wp2_with (go_at_call 7; refine (hLA.out W hR htW).mono ?_; rintro e W5 ⟨rfl, hb5⟩; have e0 := cell_later hb5 d0; have e1 := cell_later hb5 d1; have e2 := cell_later hb5 d2; have PX5 := PX.later hb5; have g0 : W5.cell? ⟨w.heap.size, 0, none⟩ = some (.int .i64 0) := PX5.1.cell 0; have g1 : W5.cell? ⟨w.heap.size, 1, none⟩ = some (.int .i64 0) := PX5.1.cell 1; have g2 : W5.cell? ⟨w.heap.size, 2, none⟩ = some (.slice none 0 0) := PX5.1.cell 2; have g3 : W5.cell? ⟨w.heap.size + 1, 0, none⟩ = some (.bool false) := PX5.2.1.cell 0; have f0 := PX5.1.free 0; have f1 := PX5.1.free 1; have f2 := PX5.1.free 2; have f3 := PX5.2.1.free 0)
      have PZ := PX5.zero
      have hK6 := ((others_of_below hb5).trans (zero_keeps W5 ⟨w.heap.size, 0, none⟩ ⟨w.heap.size, 1, none⟩ ⟨w.heap.size, 2, none⟩ ⟨w.heap.size + 1, 0, none⟩ (.int .i64 0) (.int .i64 0) (.slice none 0 0) (.bool false))).same w4.heap.size _ hK rfl
      have hD2 : w.heap.size ≤ w4.heap.size := by have := hz4.out; omega
      generalize (((W5.setCell ⟨w.heap.size, 0, none⟩ (.int .i64 0)).setCell ⟨w.heap.size, 1, none⟩ (.int .i64 0)).setCell ⟨w.heap.size, 2, none⟩ (.slice none 0 0)).setCell ⟨w.heap.size + 1, 0, none⟩ (.bool false) = W6 at *
      have PY := (ParX.own (w := w) _ hD2).putObj (s := []) (.deferred none) PZ (Nat.le_refl _) hK6 rfl
      refine ⟨by simp, .inl ⟨_, _, rfl, run_takeDeferred hK6, ?_⟩⟩
      generalize W6.putObj w4.heap.size (.deferred none) = W7 at *
      have s0 : W7.cell? ⟨w.heap.size, 0, none⟩ = some (.int .i64 0) := PY.1.cell 0
      have s1 : W7.cell? ⟨w.heap.size, 1, none⟩ = some (.int .i64 0) := PY.1.cell 1
      have s2 : W7.cell? ⟨w.heap.size, 2, none⟩ = some (.slice none 0 0) := PY.1.cell 2
      have s3 : W7.cell? ⟨w.heap.size + 1, 0, none⟩ = some (.bool false) := PY.2.1.cell 0
      exact ⟨.tuple #[matV 0 0 none 0 0, .bool false], by simp [results, Tryd.results4, go_sem, s0, s1, s2, s3], says_zero PY.2.2⟩
    replace hLs := Lib.hid hLs
    clear hT hE hI0 hM4 Y04 Y14 z1 z2 z3 hB4 j2 j3 j6 j7 j8 PX
    go_wp2_with (go_at_call 7; refine (hLA.out W hR htW).mono ?_; rintro e W5 ⟨rfl, hb5⟩; rw [hLs.out]; have e0 := cell_later hb5 d0; have e1 := cell_later hb5 d1; have e2 := cell_later hb5 d2; have k4 := j4.kept hb5; have k5 := j5.kept hb5; have g0 : W5.cell? ⟨w.heap.size, 0, none⟩ = some (.int .i64 0) := k4.cell 0; have g1 : W5.cell? ⟨w.heap.size, 1, none⟩ = some (.int .i64 0) := k4.cell 1; have g2 : W5.cell? ⟨w.heap.size, 2, none⟩ = some (.slice none 0 0) := k4.cell 2; have g3 : W5.cell? ⟨w.heap.size + 1, 0, none⟩ = some (.bool false) := k5.cell 0; have f0 := k4.free 0; have f1 := k4.free 1; have f2 := k4.free 2; have f3 := k5.free 0)
    have u5 : W5.ownsRow w.heap.size 34 1 (.slice A pss.length cap) pss.length us ∧ RowsOwnL W5 w.heap.size pss us := ⟨mown_below hU.out.1 hb5, hU.out.2.1, fun i ks x hi hx => mown_below (hU.out.2.2 i ks x hi hx) hb5⟩
    have B0 := k4.put_ 0 (.int .i64 st)
    have B1' := B0.put_ 1 (.int .i64 br)
    have B2 := B1'.put_ 2 (.slice A pss.length cap)
    have C2 := ((k5.else_ (p := ⟨w.heap.size, 0, none⟩) (by show w.heap.size ≠ w.heap.size + 1; omega) (.int .i64 st)).else_ (p := ⟨w.heap.size, 1, none⟩) (by show w.heap.size ≠ w.heap.size + 1; omega) (.int .i64 br)).else_ (p := ⟨w.heap.size, 2, none⟩) (by show w.heap.size ≠ w.heap.size + 1; omega) (.slice A pss.length cap)
    have B3 := B2.else_ (p := ⟨w.heap.size + 1, 0, none⟩) (by show w.heap.size + 1 ≠ w.heap.size; omega) (.bool true)
    have C3 := C2.put_ 0 (.bool true)
    have u6 := rows_set (p := ⟨w.heap.size + 1, 0, none⟩) C2 (by decide) (by decide) (.bool true) (rows_set (p := ⟨w.heap.size, 2, none⟩) B1' (by decide) (by decide) (.slice A pss.length cap) (rows_set (p := ⟨w.heap.size, 1, none⟩) B0 (by decide) (by decide) (.int .i64 br) (rows_set (p := ⟨w.heap.size, 0, none⟩) k4 (by decide) (by decide) (.int .i64 st) u5)))
    have hK6 := ((others_of_below hb5).trans ((((KeepsOthers.setCell W5 ⟨w.heap.size, 0, none⟩ (.int .i64 st)).trans (KeepsOthers.setCell _ ⟨w.heap.size, 1, none⟩ (.int .i64 br))).trans (KeepsOthers.setCell _ ⟨w.heap.size, 2, none⟩ (.slice A pss.length cap))).trans (KeepsOthers.setCell _ ⟨w.heap.size + 1, 0, none⟩ (.bool true)))).same w4.heap.size _ hK rfl
    have hB6 := ((((mmore j9 hb5).setCell (p := ⟨w.heap.size, 0, none⟩) (Nat.le_refl _) (.int .i64 st)).setCell (p := ⟨w.heap.size, 1, none⟩) (Nat.le_refl _) (.int .i64 br)).setCell (p := ⟨w.heap.size, 2, none⟩) (Nat.le_refl _) (.slice A pss.length cap)).setCell (p := ⟨w.heap.size + 1, 0, none⟩) (by show w.heap.size ≤ w.heap.size + 1; omega) (.bool true)
    have hD2 : w.heap.size ≤ w4.heap.size := by have := hz4.out; omega
    generalize (((W5.setCell ⟨w.heap.size, 0, none⟩ (.int .i64 st)).setCell ⟨w.heap.size, 1, none⟩ (.int .i64 br)).setCell ⟨w.heap.size, 2, none⟩ (.slice A pss.length cap)).setCell ⟨w.heap.size + 1, 0, none⟩ (.bool true) = W6 at *
    have hP : ∀ {g t cs}, Blk W6 g t cs → Blk (W6.putObj w4.heap.size (.deferred none)) g t cs := fun {g t cs} hx => hx.grown (grownBy_putObj' W6 w4.heap.size (.deferred none)) (fun e => by
      obtain rfl : g = w4.heap.size := by simpa using e
      unfold Blk at hx
      rw [hx] at hK6; cases hK6)
    have P0 := hP B3
    have P1 := hP C3
    have P2 := ownsRow_putObj u6.1 (.deferred none) hK6 rfl
    have P3 : RowsOwnL (W6.putObj w4.heap.size (.deferred none)) w.heap.size pss us := ⟨u6.2.1, fun i ks x hi hx => ownsRow_putObj (u6.2.2 i ks x hi hx) (.deferred none) hK6 rfl⟩
    have P4 := below_own1 hB6 (grownBy_putObj' W6 w4.heap.size (.deferred none)) hD2 (fun r e => by cases e; exact Nat.le_refl _)
    refine ⟨by simp, .inl ⟨_, _, rfl, run_takeDeferred hK6, ?_⟩⟩
    generalize W6.putObj w4.heap.size (.deferred none) = W7 at *
    obtain ⟨A', cap', ea, hR7⟩ := own_rows rfl P2 P3
    obtain ⟨rfl, _, rfl⟩ : A = A' ∧ pss.length = pss.length ∧ cap = cap' := by simpa using ea
    have s0 : W7.cell? ⟨w.heap.size, 0, none⟩ = some (.int .i64 st) := P0.cell 0
    have s1 : W7.cell? ⟨w.heap.size, 1, none⟩ = some (.int .i64 br) := P0.cell 1
    have s2 : W7.cell? ⟨w.heap.size, 2, none⟩ = some (.slice A pss.length cap) := P0.cell 2
    have s3 : W7.cell? ⟨w.heap.size + 1, 0, none⟩ = some (.bool true) := P1.cell 0
    exact ⟨.tuple #[matV st br A pss.length cap, .bool true], by simp [results, Tryd.results4, go_sem, s0, s1, s2, s3], st, br, A, pss, cap, true, rfl, P4, hR7, hp1.out, hp2.out, (fun _ => ⟨hs0.out, hLs.out, hst.out, hbr.out⟩), (fun h => by cases h)⟩
  case stop =>
    intro pre W PX hK
    have hD2 : w.heap.size ≤ w4.heap.size := by have := hz4.out; omega
    have PY := (ParX.own (w := w) _ hD2).putObj (s := []) (.deferred none) PX (Nat.le_refl _) hK rfl
    clear hT hE hI0 hM4 Y04 Y14 z1 z2 z3 hB4 hst hbr hs0 PX
    gi_wp2
    refine ⟨by simp, .inl ⟨_, _, rfl, run_takeDeferred hK, ?_⟩⟩
    generalize W.putObj w4.heap.size (.deferred none) = W7 at *
    have s0 : W7.cell? ⟨w.heap.size, 0, none⟩ = some (.int .i64 0) := PY.1.cell 0
    have s1 : W7.cell? ⟨w.heap.size, 1, none⟩ = some (.int .i64 0) := PY.1.cell 1
    have s2 : W7.cell? ⟨w.heap.size, 2, none⟩ = some (.slice none 0 0) := PY.1.cell 2
    have s3 : W7.cell? ⟨w.heap.size + 1, 0, none⟩ = some (.bool false) := PY.2.1.cell 0
    exact ⟨.tuple #[matV 0 0 none 0 0, .bool false], by simp [results, Tryd.results4, go_sem, s0, s1, s2, s3], says_zero PY.2.2⟩
end Go.Proofs.YtmebbhlebehliaaDoor
