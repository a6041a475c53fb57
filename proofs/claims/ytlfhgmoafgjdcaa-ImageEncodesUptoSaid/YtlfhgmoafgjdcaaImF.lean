/- Decode, as a contract. -/
import Derived.Test.YtlfhgmoafgjdcaaImBt
import Derived.Test.YtlfhgmoafgjdcaaImC
import Derived.Test.YtlfhgmoafgjdcaaImD
import Derived.Test.YtlfhgmoafgjdcaaImE
import Derived.Lib.SlBytesConst
namespace Go.Proofs.Ytlfhgmoafgjdcaa
open Go.ChangeShapes Go.WideShapes Go.ChangeAt Go.RowKit
set_option linter.unusedVariables false
set_option linter.unusedSimpArgs false
theorem open_B {l : List Nat} {w w' : World} {e : Ending} (h : OpenIs l w e w') : ∃ g B, e = .returned (.pointer (some ⟨g, 0, none⟩)) ∧ w.heap.size ≤ B ∧ B < w'.heap.size ∧ w.heap.size ≤ g ∧ g < w'.heap.size ∧ Rdr w' g B l ∧ Below w.heap.size w w' := by
  obtain ⟨g, B, h1, h2, h3, h4, h5⟩ := h
  have hg := h4.lt
  by_cases hl : 0 < l.length
  · refine ⟨g, B, h1, h2, ?_, h3, hg, h4, h5⟩
    obtain ⟨A, c, k1, k2, k3, k4⟩ := h4
    obtain ⟨_, ad, rfl, rfl, hc⟩ := k4 hl
    have := hc 0 l[0] (List.getElem?_eq_getElem hl)
    have e0 : (ad.add 0).block = ad.block := by unfold Addr.add; split <;> rfl
    rw [← e0]
    apply Classical.byContradiction
    intro hn
    have hh : w'.heap[(ad.add 0).block]? = none := Array.getElem?_eq_none (by omega)
    simp [World.cell?, hh] at this
  · obtain rfl : l = [] := List.length_eq_zero_iff.1 (by omega)
    refine ⟨g, g, h1, h3, hg, h3, hg, ?_, h5⟩
    obtain ⟨A, c, k1, k2, k3, k4⟩ := h4
    exact ⟨A, c, k1, k2, k3, fun hl => by simp at hl⟩
def ausp : List Nat := [65, 85, 83, 80]
def zT : Value := .agg #[.int .i64 0, .slice none 0 0, .slice none 0 0, .int .i64 0, .int .i64 0, .int .i64 0, .slice none 0 0, .slice none 0 0]
def bodyL (l : List Nat) : List Nat := (l.take (l.length - 4)).drop 4
def decB : Option (TTable × List Nat) → Int × Option TTable
  | some (x, []) => (0, some x)
  | _ => (32, none)
/-- what bytes are -/
def decP (l : List Nat) : Int × Option TTable :=
  if 65536 < l.length then (2, none) else if l.length < 8 then (30, none) else if l.take 4 = ausp then
    (if l.drop (l.length - 4) = le4 (sumL (l.take (l.length - 4))) then
      decB (rdTable (bodyL l)) else (31, none)) else (32, none)
def DecIs (l : List Nat) (w : World) (e : Ending) (w' : World) : Prop := Below w.heap.size w w' ∧ ∃ tv, e = .returned (.tuple #[tv, .int .i64 (decP l).1]) ∧
  match (decP l).2 with | none => tv = zT | some x => ∃ vs, vs.length = 8 ∧ eTable w' vs x ∧ tv = .agg vs.toArray
theorem DecIs.no {l : List Nat} {w w' : World} {k : Int} (hd : decP l = (k, none)) (hb : Below w.heap.size w w') : DecIs l w (.returned (.tuple #[zT, .int .i64 k])) w' := ⟨hb, zT, by rw [hd], by rw [hd]⟩
set_option maxHeartbeats 4000000 in
set_option maxRecDepth 100000 in
theorem decode_long (A : Option Addr) (l : List Nat) (c : Nat) (w : World) (h1 : 65536 < l.length) (h63 : l.length ≤ 140737488355000) :
    Calls Try.prog 13 #[.slice A l.length c] w (DecIs l w) := by
  have hd : decP l = (2, none) := by unfold decP; rw [if_pos h1]
  have hfin := fun w' (hb : Below w.heap.size w w') => DecIs.no hd hb
  replace hfin := Lib.hid hfin
  clear hd
  have i1 : (65536 : Int) < (l.length : Int) := by omega
  generalize l.length = n at *
  go_enter Try.func13, Try.ntmps13
  go_wp2
  refine bodyPost_ret (v := .tuple #[zT, .int .i64 2]) (by simp [results, Try.results13, go_sem, zT]) rfl (hfin.out _ (m1 w _))
set_option maxHeartbeats 4000000 in
set_option maxRecDepth 100000 in
theorem decode_short (A : Option Addr) (l : List Nat) (c : Nat) (w : World) (h1 : l.length < 8) :
    Calls Try.prog 13 #[.slice A l.length c] w (DecIs l w) := by
  have hd : decP l = (30, none) := by unfold decP; rw [if_neg (by omega), if_pos h1]
  have hfin := fun w' (hb : Below w.heap.size w w') => DecIs.no hd hb
  replace hfin := Lib.hid hfin
  clear hd
  have i0 : ¬ (65536 : Int) < (l.length : Int) := by omega
  have i1 : (l.length : Int) < 8 := by omega
  generalize l.length = n at *
  go_enter Try.func13, Try.ntmps13
  go_wp2
  refine bodyPost_ret (v := .tuple #[zT, .int .i64 30]) (by simp [results, Try.results13, go_sem, zT]) rfl (hfin.out _ (m1 w _))
abbrev zCells : Array Value := #[.int .i64 0, .slice none 0 0, .slice none 0 0, .int .i64 0, .int .i64 0, .int .i64 0, .slice none 0 0, .slice none 0 0]
theorem lit_bys (w : World) : Bys (w.alloc (.cells #[.int .u8 65, .int .u8 85, .int .u8 83, .int .u8 80] 5 (4, 5))) (some ⟨w.heap.size, 0, none⟩) ausp := by
  refine ⟨by rw [bcells_length, Nat.mul_one], fun hl => ⟨_, rfl, by simp, fun j u hu => ?_⟩⟩
  have hadd : (⟨w.heap.size, 0, none⟩ : Addr).add j = ⟨w.heap.size, j, none⟩ := by unfold Addr.add; split <;> simp_all
  rw [hadd, cell_of_row (w.alloc (.cells #[.int .u8 65, .int .u8 85, .int .u8 83, .int .u8 80] 5 (4, 5))) w.heap.size j _ _ (4, 5) (heap_alloc_new w _), ← Array.getElem?_toList]
  exact hu
theorem conv_lit (w : World) : (convert 31 31 (.slice (some ⟨w.heap.size + 1, 0, none⟩) 4 4)).run Try.prog ((w.alloc (.cells zCells 27)).alloc (.cells #[.int .u8 65, .int .u8 85, .int .u8 83, .int .u8 80] 5)) = .ok (.slice (some ⟨w.heap.size + 1, 0, none⟩) 4 4) ((w.alloc (.cells zCells 27)).alloc (.cells #[.int .u8 65, .int .u8 85, .int .u8 83, .int .u8 80] 5 (4, 5))) := by
  have := Lib.run_convert_bytes_const (P := Try.prog) (w.alloc (.cells zCells 27)) 31 5 #[.int .u8 65, .int .u8 85, .int .u8 83, .int .u8 80] 4 4 Try.underlying31 Try.underlying5
  have e9 : (w.alloc (.cells zCells 27)).heap.size = w.heap.size + 1 := by simp
  rw [e9] at this
  exact this
set_option maxHeartbeats 8000000 in
set_option maxRecDepth 100000 in
theorem decode_head (A : Option Addr) (l : List Nat) (c : Nat) (w : World) (hl : Byt l) (h : Bys w A l) (h1 : ¬ 65536 < l.length) (h2 : ¬ l.length < 8) (hc : l.length ≤ c) (h3 : ¬ l.take 4 = ausp) :
    Calls Try.prog 13 #[.slice A l.length c] w (DecIs l w) := by
  have hd : decP l = (32, none) := by unfold decP; rw [if_neg h1, if_neg h2, if_neg h3]
  have hfin := fun w' (hb : Below w.heap.size w w') => DecIs.no hd hb
  replace hfin := Lib.hid hfin
  clear hd
  have i0 : ¬ (65536 : Int) < (l.length : Int) := by omega
  have i1 : ¬ (l.length : Int) < 8 := by omega
  have C := fun (w1 : World) (h1 : Bys w1 A l) => prefix_any A (some ⟨w1.heap.size, 0, none⟩) l ausp c 4 hl (by intro z hz; simp [ausp] at hz; rcases hz with rfl | rfl | rfl | rfl <;> omega) (w1.alloc (.cells #[.int .u8 65, .int .u8 85, .int .u8 83, .int .u8 80] 5 (4, 5))) (h1.later (m1 _ _)) (lit_bys w1) hc (by omega)
  have hd2 : decide (l.take ausp.length = ausp) = false := by simpa [ausp] using h3
  rw [hd2, show ausp.length = 4 from rfl] at C
  replace C := C _ (h.later (m1 w (.cells #[.int .i64 0, .slice none 0 0, .slice none 0 0, .int .i64 0, .int .i64 0, .int .i64 0, .slice none 0 0, .slice none 0 0] 27)))
  rw [show (w.alloc (.cells #[.int .i64 0, .slice none 0 0, .slice none 0 0, .int .i64 0, .int .i64 0, .int .i64 0, .slice none 0 0, .slice none 0 0] 27)).heap.size = w.heap.size + 1 by simp] at C
  replace C := Lib.hid C
  have hcv := conv_lit w
  clear h hl hd2 h3 hc
  generalize l.length = n at *
  go_enter Try.func13, Try.ntmps13
  go_wp2_with fail
  refine C.out.mono ?_; rintro e u ⟨rfl, rfl⟩
  go_wp2
  refine bodyPost_ret (v := .tuple #[zT, .int .i64 32]) (by simp [results, Try.results13, go_sem, zT]) rfl (hfin.out _ ?_)
  exact ((Below.refl _ w).alloc (Nat.le_refl _) _).alloc (by simp) _
def put8 (u : World) (g : Nat) (v0 v1 v2 v3 v4 v5 v6 v7 : Value) : World := (((((((u.setCell ⟨g, 0, none⟩ v0).setCell ⟨g, 1, none⟩ v1).setCell ⟨g, 2, none⟩ v2).setCell ⟨g, 3, none⟩ v3).setCell ⟨g, 4, none⟩ v4).setCell ⟨g, 5, none⟩ v5).setCell ⟨g, 6, none⟩ v6).setCell ⟨g, 7, none⟩ v7
theorem put8_blk {u : World} {g : Nat} {T : TypeId} (h : Blk u g T zCells) (v0 v1 v2 v3 v4 v5 v6 v7 : Value) : Blk (put8 u g v0 v1 v2 v3 v4 v5 v6 v7) g T #[v0, v1, v2, v3, v4, v5, v6, v7] := by
  have k := (((((((h.put_ 0 v0).put_ 1 v1).put_ 2 v2).put_ 3 v3).put_ 4 v4).put_ 5 v5).put_ 6 v6).put_ 7 v7
  simp only [List.setIfInBounds_toArray, List.set_cons_zero, List.set_cons_succ] at k
  exact k
theorem set_grown (w : World) (g i : Nat) (v : Value) : w.grownBy (w.setCell ⟨g, i, none⟩ v) (some g) := mset w ⟨g, i, none⟩ v
theorem put8_grown (u : World) (g : Nat) (v0 v1 v2 v3 v4 v5 v6 v7 : Value) : u.grownBy (put8 u g v0 v1 v2 v3 v4 v5 v6 v7) (some g) :=
  (((((((set_grown u g 0 v0).trans (set_grown _ g 1 v1)).trans (set_grown _ g 2 v2)).trans (set_grown _ g 3 v3)).trans (set_grown _ g 4 v4)).trans (set_grown _ g 5 v5)).trans (set_grown _ g 6 v6)).trans (set_grown _ g 7 v7)
theorem put8_below {base g : Nat} {a u : World} (h : Below base a u) (hb : base ≤ a.heap.size) (hg : base ≤ g) (v0 v1 v2 v3 v4 v5 v6 v7 : Value) : Below base a (put8 u g v0 v1 v2 v3 v4 v5 v6 v7) := by
  have k := put8_grown u g v0 v1 v2 v3 v4 v5 v6 v7
  exact ⟨k.os.trans h.os, k.tape.trans h.tape, k.output.trans h.output, Nat.le_trans h.size k.size, fun i hi => (k.block i (by have := h.size; omega) (fun e => by injection e with e; omega)).trans (h.block i hi)⟩
set_option maxHeartbeats 8000000 in
set_option maxRecDepth 100000 in
theorem decode_sum (ad : Addr) (l : List Nat) (c : Nat) (w : World) (hl : Byt l) (h : Bys w (some ad) l) (h1 : ¬ 65536 < l.length) (h2 : ¬ l.length < 8) (hc : l.length ≤ c) (h3 : l.take 4 = ausp) (h4 : ¬ l.drop (l.length - 4) = le4 (sumL (l.take (l.length - 4)))) :
    Calls Try.prog 13 #[.slice (some ad) l.length c] w (DecIs l w) := by
  have hd : decP l = (31, none) := by unfold decP; rw [if_neg h1, if_neg h2, if_pos h3, if_neg h4]
  have hfin := fun w' (hb : Below w.heap.size w w') => DecIs.no hd hb
  replace hfin := Lib.hid hfin
  clear hd
  have i0 : ¬ (65536 : Int) < (l.length : Int) := by omega
  have i1 : ¬ (l.length : Int) < 8 := by omega
  have e9 : (w.alloc (.cells zCells 27)).heap.size = w.heap.size + 1 := by simp
  have C := fun (w1 : World) (h1 : Bys w1 (some ad) l) => prefix_any (some ad) (some ⟨w1.heap.size, 0, none⟩) l ausp c 4 hl (by intro z hz; simp [ausp] at hz; rcases hz with rfl | rfl | rfl | rfl <;> omega) (w1.alloc (.cells #[.int .u8 65, .int .u8 85, .int .u8 83, .int .u8 80] 5 (4, 5))) (h1.later (m1 _ _)) (lit_bys w1) hc (by omega)
  have hd2 : decide (l.take ausp.length = ausp) = true := by simpa [ausp] using h3
  rw [hd2, show ausp.length = 4 from rfl] at C
  replace C := C _ (h.later (m1 w (.cells zCells 27)))
  rw [e9] at C
  have hB2 : Below w.heap.size w ((w.alloc (.cells zCells 27)).alloc (.cells #[.int .u8 65, .int .u8 85, .int .u8 83, .int .u8 80] 5 (4, 5))) := ((Below.refl _ w).alloc (Nat.le_refl _) _).alloc (by simp) _
  have hb2 := h.later hB2
  have CS := isum_any (some ad) (l.take (l.length - 4)) c (hl.take _) _ (hb2.pre (by omega)) (by rw [List.length_take]; omega)
  rw [List.length_take, Nat.min_eq_left (by omega)] at CS
  have CX := fun (A3 : Option Addr) (c3 : Nat) (w3 : World) (h3 : Bys w3 (some ad) l) (h3' : Bys w3 A3 (le4 (sumL (l.take (l.length - 4))))) => suffix_any ad A3 l (le4 (sumL (l.take (l.length - 4)))) c c3 hl (le4_byt _) w3 h3 h3' hc (by omega) (by simp [le4]; omega) (by simp [le4])
  have hd5 : decide (l.drop (l.length - (le4 (sumL (l.take (l.length - 4)))).length) = le4 (sumL (l.take (l.length - 4)))) = false := by simpa [le4] using h4
  rw [hd5, show (le4 (sumL (l.take (l.length - 4)))).length = 4 from rfl] at CX
  have j1 : IntKind.i64.wrap ((l.length : Int) - 4) = ((l.length - 4 : Nat) : Int) := by rw [IntKind.wrap_i64]; omega
  have j2 : (l.length : Int) - 4 = ((l.length - 4 : Nat) : Int) := by omega
  have j3 : ((l.length - 4 : Nat) : Int) ≤ (c : Int) := by omega
  have j4 : l.length - 4 ≤ c := by omega
  have j5 : (0 : Int) ≤ ((l.length - 4 : Nat) : Int) := by omega
  replace C := Lib.hid C
  replace CS := Lib.hid CS
  replace CX := Lib.hid CX
  replace hB2 := Lib.hid hB2
  replace hb2 := Lib.hid hb2
  have hcv := conv_lit w
  clear h hl hd2 hd5 h3 h4 hc e9
  generalize l.take (l.length - 4) = lt at *
  generalize l.length = n at *
  go_enter Try.func13, Try.ntmps13
  go_wp2_with fail
  refine C.out.mono ?_; rintro e u ⟨rfl, rfl⟩
  go_wp2_with fail
  refine CS.out.mono ?_; rintro e w3 ⟨A3, c3, rfl, hO, hB3⟩
  have CX3 := CX.out A3 c3 w3 (hb2.out.later hB3) (Bys.of_own hO).2
  have hblk : Blk w3 w.heap.size 27 zCells := ((Blk.made w 27 zCells).kept (m1 _ _)).kept hB3
  have hBf := mmore hB2.out hB3
  rw [show (le4 (sumL lt)).length = 4 from rfl]
  clear hO hB3 CX CS C hb2 hB2 hcv
  have t0 : w3.cell? ⟨w.heap.size, 0, none⟩ = some (.int .i64 0) := hblk.cell 0
  have t1 : w3.cell? ⟨w.heap.size, 1, none⟩ = some (.slice none 0 0) := hblk.cell 1
  have t2 : w3.cell? ⟨w.heap.size, 2, none⟩ = some (.slice none 0 0) := hblk.cell 2
  have t3 : w3.cell? ⟨w.heap.size, 3, none⟩ = some (.int .i64 0) := hblk.cell 3
  have t4 : w3.cell? ⟨w.heap.size, 4, none⟩ = some (.int .i64 0) := hblk.cell 4
  have t5 : w3.cell? ⟨w.heap.size, 5, none⟩ = some (.int .i64 0) := hblk.cell 5
  have t6 : w3.cell? ⟨w.heap.size, 6, none⟩ = some (.slice none 0 0) := hblk.cell 6
  have t7 : w3.cell? ⟨w.heap.size, 7, none⟩ = some (.slice none 0 0) := hblk.cell 7
  have f0 := hblk.free 0
  have f1 := hblk.free 1
  have f2 := hblk.free 2
  have f3 := hblk.free 3
  have f4 := hblk.free 4
  have f5 := hblk.free 5
  have f6 := hblk.free 6
  have f7 := hblk.free 7
  have hlt := hblk.lt
  replace hblk := Lib.hid hblk
  replace hBf := Lib.hid hBf
  replace CX3 := Lib.hid CX3
  go_wp2_with fail
  refine CX3.out.mono ?_; rintro e u ⟨rfl, rfl⟩
  go_wp2
  have hP := put8_blk hblk.out (.int .i64 0) (.slice none 0 0) (.slice none 0 0) (.int .i64 0) (.int .i64 0) (.int .i64 0) (.slice none 0 0) (.slice none 0 0)
  have hQ := put8_below hBf.out (Nat.le_refl _) (Nat.le_refl _) (.int .i64 0) (.slice none 0 0) (.slice none 0 0) (.int .i64 0) (.int .i64 0) (.int .i64 0) (.slice none 0 0) (.slice none 0 0)
  unfold put8 at hP hQ
  generalize (((((((u.setCell ⟨w.heap.size, 0, none⟩ (.int .i64 0)).setCell ⟨w.heap.size, 1, none⟩ (.slice none 0 0)).setCell ⟨w.heap.size, 2, none⟩ (.slice none 0 0)).setCell ⟨w.heap.size, 3, none⟩ (.int .i64 0)).setCell ⟨w.heap.size, 4, none⟩ (.int .i64 0)).setCell ⟨w.heap.size, 5, none⟩ (.int .i64 0)).setCell ⟨w.heap.size, 6, none⟩ (.slice none 0 0)).setCell ⟨w.heap.size, 7, none⟩ (.slice none 0 0) = u9 at *
  have r0 := hP.cell 0
  have r1 := hP.cell 1
  have r2 := hP.cell 2
  have r3 := hP.cell 3
  have r4 := hP.cell 4
  have r5 := hP.cell 5
  have r6 := hP.cell 6
  have r7 := hP.cell 7
  simp only [List.getElem?_toArray, List.getElem?_cons_zero, List.getElem?_cons_succ] at r0 r1 r2 r3 r4 r5 r6 r7
  refine bodyPost_ret (v := .tuple #[zT, .int .i64 31]) (by simp [results, Try.results13, go_sem, zT, r0, r1, r2, r3, r4, r5, r6, r7]) rfl (hfin.out _ hQ)
end Go.Proofs.Ytlfhgmoafgjdcaa
