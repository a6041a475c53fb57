/- The chapter's match, its line, and the line read again: as contracts. -/
import Derived.Test.YtmebbhlebehliaaDoorPar
import Derived.Lib.AtoiTie
import Derived.Lib.ItoaLen
namespace Go.Proofs.YtmebbhlebehliaaDoor
open Go.ChangeShapes Go.WideShapes Go.ChangeAt Go.RowKit
set_option linter.unusedVariables false
set_option linter.unusedSimpArgs false

def exS : ByteArray := ⟨#[50, 32, 48, 58, 32, 48, 59, 32, 49, 32, 50]⟩
def exR : List (List Int) := [[0], [1, 2]]
theorem ex_idx : Lib.indexByte exS.data.toList 58 = ((3 : Nat) : Int) := by decide
theorem ex_head : exS.extract 0 3 = ⟨#[50, 32, 48]⟩ := by decide
theorem ex_tail : exS.extract (3 + 1) exS.size = ⟨#[32, 48, 59, 32, 49, 32, 50]⟩ := by decide
theorem ex_split : splitOf 59 ⟨#[32, 48, 59, 32, 49, 32, 50]⟩ = [⟨#[32, 48]⟩, ⟨#[32, 49, 32, 50]⟩] := by decide
theorem ex_f0 : fieldsOf ⟨#[50, 32, 48]⟩ = [⟨#[50]⟩, ⟨#[48]⟩] := by decide
theorem ex_f1 : fieldsOf ⟨#[32, 48]⟩ = [⟨#[48]⟩] := by decide
theorem ex_f2 : fieldsOf ⟨#[32, 49, 32, 50]⟩ = [⟨#[49]⟩, ⟨#[50]⟩] := by decide
theorem at0 : Lib.atoi [48] = some 0 := by decide
theorem at1 : Lib.atoi [49] = some 1 := by decide
theorem at2 : Lib.atoi [50] = some 2 := by decide
theorem asc_of {s : ByteArray} (h : s.data.toList.all (fun b => decide (b.toNat < 128)) = true) : ∀ (i : Nat) (hi : i < s.size), (s[i]'hi).toNat < 128 := fun i hi => by
  have := List.all_eq_true.1 h (s[i]'hi) (by
    have : s[i]'hi = s.data.toList[i]'(by simpa using hi) := by simp; rfl
    rw [this]
    exact List.getElem_mem _)
  simpa using this
theorem ex_n0 : NumsOk ⟨#[50, 32, 48]⟩ [2, 0] := ⟨by decide, asc_of (by decide), by rw [ex_f0]; rfl, by rw [ex_f0]; decide, by decide⟩
theorem ex_n1 : NumsOk ⟨#[32, 48]⟩ [0] := ⟨by decide, asc_of (by decide), by rw [ex_f1]; rfl, by rw [ex_f1]; decide, by decide⟩
theorem ex_n2 : NumsOk ⟨#[32, 49, 32, 50]⟩ [1, 2] := ⟨by decide, asc_of (by decide), by rw [ex_f2]; rfl, by rw [ex_f2]; decide, by decide⟩
theorem it0 : Lib.itoa 0 = [48] := by unfold Lib.itoa; rw [if_neg (by decide)]; unfold Lib.decDigits; simp
theorem it1 : Lib.itoa 1 = [49] := by unfold Lib.itoa; rw [if_neg (by decide)]; unfold Lib.decDigits; simp
theorem it2 : Lib.itoa 2 = [50] := by unfold Lib.itoa; rw [if_neg (by decide)]; unfold Lib.decDigits; simp
theorem ex_lineB : lineB 2 0 exR = exS.data.toList := by simp [lineB, exR, partsB, placesB, it0, it1, it2, exS]
theorem ex_good : goodP 2 0 exR 9223372036854775807 = true := by decide
theorem ex_line : lineOf 2 0 exR = exS := by unfold lineOf; rw [ex_good, ex_lineB]; decide

theorem parse_ex (w : World) (hT : SpTab w) (h0 : 0 < w.heap.size) (htab : Lib.TabIs Tryd.prog w "internal/strconv.uint64pow10" .u64 Lib.pow10Tab) :
    Calls Tryd.prog 4 #[.string exS] w fun e w' => ∃ A c, e = .returned (.tuple #[matV 2 0 A 2 c, .bool true]) ∧ RowsAt w' A exR ∧ Below w.heap.size w w' := by
  refine parse_any exS 3 2 0 exR w (by decide) ex_idx (by rw [ex_head]; exact ex_n0) (by rw [ex_tail, ex_split]; rfl) ?_ ex_line (by rw [ex_lineB]; decide) (by decide) (by decide) (by decide) hT h0 htab
  rw [ex_tail, ex_split]
  intro i x ns hx hn
  match i, hx, hn with
  | 0, hx, hn => simp [exR] at hx hn; subst hx hn; exact ex_n1
  | 1, hx, hn => simp [exR] at hx hn; subst hx hn; exact ex_n2
theorem line_ex (A : Option Addr) (cap : Nat) (w : World) (hA : RowsAt w A exR) (htab : Lib.TabIs Tryd.prog w "internal/strconv.uint64pow10" .u64 Lib.pow10Tab) :
    Calls Tryd.prog 7 #[matV 2 0 A 2 cap] w fun e w' => e = .returned (.string exS) ∧ Below w.heap.size w w' := by
  have := line_any A cap 2 0 exR w hA (by decide) (by decide) (by decide) (by decide) (by decide) (by decide) (by rw [ex_lineB]; decide) htab
  rw [ex_line] at this
  exact this
theorem ints_one {w : World} {g : Nat} {x : Int} (h0 : Blk w g 3 #[.int .i64 x]) : IntsIn1 w (.slice (some ⟨g, 0, none⟩) 1 1) [x] := ⟨_, 1, rfl, fun _ => ⟨g, 0, rfl, fun i t hi => by
  match i, hi with
  | 0, hi => simp at hi; subst hi; exact h0.cell 0⟩⟩
theorem ints_two {w : World} {g : Nat} {x y : Int} (h0 : Blk w g 3 #[.int .i64 x, .int .i64 y]) : IntsIn1 w (.slice (some ⟨g, 0, none⟩) 2 2) [x, y] := ⟨_, 2, rfl, fun _ => ⟨g, 0, rfl, fun i t hi => by
  match i, hi with
  | 0, hi => simp at hi; subst hi; exact h0.cell 0
  | 1, hi => simp at hi; subst hi; exact h0.cell 1⟩⟩
theorem rows_two {w : World} {g : Nat} {u v : Value} {xs ys : List Int} (h0 : Blk w g 34 #[u, v]) (hu : IntsIn1 w u xs) (hv : IntsIn1 w v ys) : RowsAt w (some ⟨g, 0, none⟩) [xs, ys] := fun _ => ⟨g, 0, rfl, fun i t hi => by
  match i, hi with
  | 0, hi => simp at hi; subst hi; exact ⟨u, h0.cell 0, hu⟩
  | 1, hi => simp at hi; subst hi; exact ⟨v, h0.cell 1, hv⟩⟩
set_option maxHeartbeats 1000000 in
set_option maxRecDepth 100000 in
theorem two_any (w : World) : Calls Tryd.prog 13 #[] w fun e w' => ∃ A, e = .returned (matV 2 0 A 2 2) ∧ RowsAt w' A exR ∧ Below w.heap.size w w' := by
  have a0 := Blk.made w 24 #[.int .i64 2, .int .i64 0, .slice (some ⟨w.heap.size + 1 + 1 + 1, 0, none⟩) 2 2]
  have b0 := Blk.made (w.alloc (matO 2 0 (some ⟨w.heap.size + 1 + 1 + 1, 0, none⟩) 2 2)) 3 #[.int .i64 0]
  have b1 := Blk.made ((w.alloc (matO 2 0 (some ⟨w.heap.size + 1 + 1 + 1, 0, none⟩) 2 2)).alloc (.cells #[.int .i64 0] 3)) 3 #[.int .i64 1, .int .i64 2]
  have b2 := Blk.made (((w.alloc (matO 2 0 (some ⟨w.heap.size + 1 + 1 + 1, 0, none⟩) 2 2)).alloc (.cells #[.int .i64 0] 3)).alloc (.cells #[.int .i64 1, .int .i64 2] 3)) 34 #[.slice (some ⟨w.heap.size + 1, 0, none⟩) 1 1, .slice (some ⟨w.heap.size + 1 + 1, 0, none⟩) 2 2]
  simp only [World.size_alloc] at b0 b1 b2
  have hR := rows_two b2 (ints_one ((b0.kept (m1 _ _)).kept (m1 _ _))) (ints_two (b1.kept (m1 _ _)))
  have hA := ((a0.kept (m1 _ (.cells #[.int .i64 0] 3))).kept (m1 _ (.cells #[.int .i64 1, .int .i64 2] 3))).kept (m1 _ (.cells #[.slice (some ⟨w.heap.size + 1, 0, none⟩) 1 1, .slice (some ⟨w.heap.size + 1 + 1, 0, none⟩) 2 2] 34))
  have hB := ((m2 w (matO 2 0 (some ⟨w.heap.size + 1 + 1 + 1, 0, none⟩) 2 2) (.cells #[.int .i64 0] 3)).alloc (by simp; omega) (.cells #[.int .i64 1, .int .i64 2] 3)).alloc (by simp; omega) (.cells #[.slice (some ⟨w.heap.size + 1, 0, none⟩) 1 1, .slice (some ⟨w.heap.size + 1 + 1, 0, none⟩) 2 2] 34)
  replace hR := Lib.hid hR
  replace hB := Lib.hid hB
  replace hA := Lib.hid hA
  clear b0 b1 b2 a0
  go_enter Tryd.func13, Tryd.ntmps13
  go_wp2
  have q0 := hA.out.cell 0
  have q1 := hA.out.cell 1
  have q2 := hA.out.cell 2
  refine bodyPost_ret (v := matV 2 0 (some ⟨w.heap.size + 1 + 1 + 1, 0, none⟩) 2 2) ?_ rfl ⟨_, rfl, hR.out, hB.out⟩
  generalize (((w.alloc (matO 2 0 (some ⟨w.heap.size + 1 + 1 + 1, 0, none⟩) 2 2)).alloc (.cells #[.int .i64 0] 3)).alloc (.cells #[.int .i64 1, .int .i64 2] 3)).alloc (.cells #[.slice (some ⟨w.heap.size + 1, 0, none⟩) 1 1, .slice (some ⟨w.heap.size + 1 + 1, 0, none⟩) 2 2] 34) = W at *
  have q0' : W.cell? ⟨w.heap.size, 0, none⟩ = some (.int .i64 2) := q0
  have q1' : W.cell? ⟨w.heap.size, 1, none⟩ = some (.int .i64 0) := q1
  have q2' : W.cell? ⟨w.heap.size, 2, none⟩ = some (.slice (some ⟨w.heap.size + 1 + 1 + 1, 0, none⟩) 2 2) := q2
  simp [results, Tryd.results13, go_sem, q0', q1', q2']

theorem ex_g3 : goodP 2 0 exR 3 = true := by decide
theorem ex_g2 : goodP 2 0 exR 2 = false := by decide
theorem ex_ord : ordM 2 0 exR 2 0 [[0], [2]] = -1 := by decide
set_option maxHeartbeats 4000000 in
set_option maxRecDepth 100000 in
theorem awake_any (w : World) (hT : SpTab w) (h0 : 0 < w.heap.size) (htab : Lib.TabIs Tryd.prog w "internal/strconv.uint64pow10" .u64 Lib.pow10Tab) :
    Calls Tryd.prog 5 #[] w fun e w' => e = .returned (.bool true) ∧ Below w.heap.size w w' := by
  have hP := Lib.hid (parse_ex w hT h0 htab)
  have tab := Lib.hid (Lib.tabBelow_of_tabIs htab)
  unfold exS at hP
  go_enter Tryd.func5, Tryd.ntmps5
  go_wp2_with (go_at_call 4; refine hP.out.mono ?_; rintro e w1 ⟨A, c, rfl, hR1, hb1⟩)
  have hM := Blk.made w1 24 #[.int .i64 2, .int .i64 0, .slice A 2 c]
  have hB2 := mmore hb1 (m1 w1 (matO 2 0 A 2 c))
  have hR2 := hR1.later (m1 w1 (matO 2 0 A 2 c))
  clear hR1 hb1 hP
  generalize w1.alloc (matO 2 0 A 2 c) = w2 at *
  generalize w1.heap.size = g at *
  refine (two_any w2).mono ?_; rintro e w3 ⟨A3, rfl, hR3, hb3⟩
  have hB3 := mmore hB2 hb3
  have hM3 := hM.kept hb3
  have hA3 := hR2.later hb3
  have hL := Lib.hid (line_ex A3 2 w3 hR3 (tab.out w3 hB3))
  unfold exS at hL
  clear hM hR2 hb3 hB2
  go_wp2_with fail
  refine hL.out.mono ?_; rintro e w4 ⟨rfl, hb4⟩
  have hB4 := mmore hB3 hb4
  have hM4 := hM3.kept hb4
  have hA4 := hA3.later hb4
  have c0 : w4.cell? ⟨g, 0, none⟩ = some (.int .i64 2) := hM4.cell 0
  have c1 : w4.cell? ⟨g, 1, none⟩ = some (.int .i64 0) := hM4.cell 1
  have c2 : w4.cell? ⟨g, 2, none⟩ = some (.slice A 2 c) := hM4.cell 2
  have G3 := Lib.hid (fun w hA => good_any A c 2 0 exR 3 w hA (by decide) (by decide))
  have G2 := Lib.hid (fun w hA => good_any A c 2 0 exR 2 w hA (by decide) (by decide))
  rw [ex_g3] at G3
  rw [ex_g2] at G2
  clear hL hR3 hM3 hA3 hb4 hB3
  go_wp2_with fail
  refine (G3.out w4 hA4).mono ?_; rintro e w5 ⟨rfl, hb5⟩
  have hB5 := mmore hB4 hb5
  have hM5 := hM4.kept hb5
  have hA5 := hA4.later hb5
  have d0 : w5.cell? ⟨g, 0, none⟩ = some (.int .i64 2) := hM5.cell 0
  have d1 : w5.cell? ⟨g, 1, none⟩ = some (.int .i64 0) := hM5.cell 1
  have d2 : w5.cell? ⟨g, 2, none⟩ = some (.slice A 2 c) := hM5.cell 2
  clear c0 c1 c2 hM4 hA4 hb5 hB4
  go_wp2_with fail
  refine (G2.out w5 hA5).mono ?_; rintro e w6 ⟨rfl, hb6⟩
  have hB6 := mmore hB5 hb6
  have hM6 := hM5.kept hb6
  have hA6 := hA5.later hb6
  have c0 : w6.cell? ⟨g, 0, none⟩ = some (.int .i64 2) := hM6.cell 0
  have c1 : w6.cell? ⟨g, 1, none⟩ = some (.int .i64 0) := hM6.cell 1
  have c2 : w6.cell? ⟨g, 2, none⟩ = some (.slice A 2 c) := hM6.cell 2
  clear d0 d1 d2 hM5 hA5 hb6 hB5 G2 G3
  go_wp2_with fail
  have b0 := Blk.made w6 3 #[.int .i64 0]
  have b1 := Blk.made (w6.alloc (.cells #[.int .i64 0] 3)) 3 #[.int .i64 2]
  have b2 := Blk.made ((w6.alloc (.cells #[.int .i64 0] 3)).alloc (.cells #[.int .i64 2] 3)) 34 #[.slice (some ⟨w6.heap.size, 0, none⟩) 1 1, .slice (some ⟨w6.heap.size + 1, 0, none⟩) 1 1]
  simp only [World.size_alloc] at b0 b1 b2
  have hRo := rows_two b2 (ints_one ((b0.kept (m1 _ _)).kept (m1 _ _))) (ints_one (b1.kept (m1 _ _)))
  have hBo := (m2 w6 (.cells #[.int .i64 0] 3) (.cells #[.int .i64 2] 3)).alloc (by simp; omega) (.cells #[.slice (some ⟨w6.heap.size, 0, none⟩) 1 1, .slice (some ⟨w6.heap.size + 1, 0, none⟩) 1 1] 34)
  have O := order_any A (some ⟨w6.heap.size + 1 + 1, 0, none⟩) c 2 2 0 2 0 exR [[0], [2]] _ (hA6.later hBo) hRo (by decide) (by decide) (by decide) (by decide)
  rw [ex_ord] at O
  refine O.mono ?_; rintro e w7 ⟨rfl, hb7⟩
  have hB7 := mmore (mmore hB6 hBo) hb7
  clear O hRo hBo hb7 b0 b1 b2 c0 c1 c2 hA6 hM6
  go_wp2
  go_ret
  exact ⟨rfl, hB7⟩

/-- the table of blanks -/
def spL : List Int := (List.range 256).map fun c => if c == 9 || c == 10 || c == 11 || c == 12 || c == 13 || c == 32 then 1 else 0
set_option maxRecDepth 100000 in
theorem spL_at : ∀ c : Nat, c < 128 → spL.getD c 0 = if spC c then 1 else 0 := by decide +kernel
theorem spTab_of {W : World} (h : Lib.TabIs Tryd.prog W "strings.asciiSpace" .u8 spL) (hg : Tryd.prog.globalNamed "strings.asciiSpace" = some 0) : SpTab W := fun c hc => by
  have := h.cell hg c (by simp [spL]; omega)
  rw [spL_at c hc] at this
  exact this
end Go.Proofs.YtmebbhlebehliaaDoor
