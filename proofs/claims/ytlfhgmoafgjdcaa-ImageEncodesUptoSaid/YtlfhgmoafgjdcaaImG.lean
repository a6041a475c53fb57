/- Decode where the sum is right, as a contract. -/
import Derived.Test.YtlfhgmoafgjdcaaImF
namespace Go.Proofs.Ytlfhgmoafgjdcaa
open Go.ChangeShapes Go.WideShapes Go.ChangeAt Go.RowKit
set_option linter.unusedVariables false
set_option linter.unusedSimpArgs false
theorem eTable_form {w : World} {vs : List Value} {x : TTable} (h : eTable w vs x) : ∃ z0 A1 n1 c1 A2 n2 c2 z3 z4 z5 A6 n6 c6 A7 n7 c7, vs = [.int .i64 z0, .slice A1 n1 c1, .slice A2 n2 c2, .int .i64 z3, .int .i64 z4, .int .i64 z5, .slice A6 n6 c6, .slice A7 n7 c7] := by
  obtain ⟨_, _, rfl, ⟨_, _, rfl, rfl, _, _, rfl, ⟨v1, rfl, A1, c1, _, rfl, _⟩, _, _, rfl, ⟨v2, rfl, A2, c2, _, rfl, _⟩, _, _, rfl, rfl, _, _, rfl, rfl, rfl⟩, _, _, rfl, ⟨v6, rfl, A6, c6, _, rfl, _⟩, ⟨v7, rfl, A7, c7, _, rfl, _⟩⟩ := h
  exact ⟨_, _, _, _, _, _, _, _, _, _, _, _, _, _, _, _, rfl⟩
set_option maxHeartbeats 8000000 in
set_option maxRecDepth 100000 in
theorem decode_rest (ad : Addr) (l : List Nat) (c : Nat) (w : World) (hl : Byt l) (h : Bys w (some ad) l) (h1 : ¬ 65536 < l.length) (h2 : ¬ l.length < 8) (hc : l.length ≤ c) (h3 : l.take 4 = ausp) (h4 : l.drop (l.length - 4) = le4 (sumL (l.take (l.length - 4)))) :
    Calls Try.prog 13 #[.slice (some ad) l.length c] w (DecIs l w) := by
  have hd : decP l = decB (rdTable (bodyL l)) := by unfold decP; rw [if_neg h1, if_neg h2, if_pos h3, if_pos h4]
  replace hd := Lib.hid hd
  have hbl : (bodyL l).length = l.length - 8 := by simp [bodyL]; omega
  have hby : Byt (bodyL l) := fun z hz => hl z (List.mem_of_mem_take (List.mem_of_mem_drop hz))
  have CO := fun (w3 : World) (h3 : Bys w3 (some ad) l) => open_n (some (ad.add 4)) (bodyL l) (l.length - 8) (c - 4) w3 hbl.symm ((h3.pre (k := l.length - 4) (by omega)).suf 4 (by rw [List.length_take]; omega)) (by rw [hbl]; omega)
  have i0 : ¬ (65536 : Int) < (l.length : Int) := by omega
  have i1 : ¬ (l.length : Int) < 8 := by omega
  have e9 : (w.alloc (.cells zCells 27)).heap.size = w.heap.size + 1 := by simp
  have C := fun (w1 : World) (h1 : Bys w1 (some ad) l) => prefix_any (some ad) (some ⟨w1.heap.size, 0, none⟩) l ausp c 4 hl (by intro z hz; simp [ausp] at hz; rcases hz with rfl | rfl | rfl | rfl <;> omega) (w1.alloc (.cells #[.int .u8 65, .int .u8 85, .int .u8 83, .int .u8 80] 5 (4, 5))) (h1.later (m1 _ _)) (lit_bys w1) hc (by omega)
  have hd2 : decide (l.take ausp.length = ausp) = true := by simpa [ausp] using h3
  rw [hd2, show ausp.length = 4 from rfl] at C
  replace C := C _ (h.later (m1 w (.cells zCells 27)))
  rw [e9] at C
  have hB2 : Below w.heap.size w ((w.alloc (.cells zCells 27)).alloc (.cells #[.int .u8 65, .int .u8 85, .int .u8 83, .int .u8 80] 5 (4, 5))) := ((Below.refl _ w).alloc (Nat.le_refl _) _).alloc (by simp) _
  have hb2 := h.later hB2
  have CS := isum_any (some ad) (l.take (l.length - 4)) c (hl.take _) _ (hb2.pre (by omega)) (by rw [List.length_take]; omega)
  rw [List.length_take, Nat.min_eq_left (by omega)] at CS
  have CX := fun (A3 : Option Addr) (c3 : Nat) (w3 : World) (h3 : Bys w3 (some ad) l) (h3' : Bys w3 A3 (le4 (sumL (l.take (l.length - 4))))) => suffix_any ad A3 l (le4 (sumL (l.take (l.length - 4)))) c c3 hl (le4_byt _) w3 h3 h3' hc (by omega) (by simp [le4]; omega) (by simp [le4])
  have hd5 : decide (l.drop (l.length - (le4 (sumL (l.take (l.length - 4)))).length) = le4 (sumL (l.take (l.length - 4)))) = true := by simpa [le4] using h4
  rw [hd5, show (le4 (sumL (l.take (l.length - 4)))).length = 4 from rfl] at CX
  have j1 : IntKind.i64.wrap ((l.length : Int) - 4) = ((l.length - 4 : Nat) : Int) := by rw [IntKind.wrap_i64]; omega
  have j2 : (l.length : Int) - 4 = ((l.length - 4 : Nat) : Int) := by omega
  have j3 : ((l.length - 4 : Nat) : Int) ≤ (c : Int) := by omega
  have j4 : l.length - 4 ≤ c := by omega
  have j5 : (0 : Int) ≤ ((l.length - 4 : Nat) : Int) := by omega
  replace C := Lib.hid C
  replace CS := Lib.hid CS
  replace CX := Lib.hid CX
  replace CO := Lib.hid CO
  have k1 : l.length - 4 - 4 = l.length - 8 := by omega
  have k2 : ¬ c = 4 := by omega
  have k3 : ((l.length - 4 : Nat) : Int) - 4 = ((l.length - 8 : Nat) : Int) := by omega
  have k4 : (4 : Int) ≤ ((l.length - 4 : Nat) : Int) := by omega
  replace hB2 := Lib.hid hB2
  replace hb2 := Lib.hid hb2
  have hcv := conv_lit w
  clear h hl hd2 hd5 h3 h4 hc e9
  generalize l.take (l.length - 4) = lt at *
  generalize bodyL l = bl at *
  generalize l.length = n at *
  go_enter Try.func13, Try.ntmps13
  go_wp2_with fail
  refine C.out.mono ?_; rintro e u ⟨rfl, rfl⟩
  go_wp2_with fail
  refine CS.out.mono ?_; rintro e w3 ⟨A3, c3, rfl, hO, hB3⟩
  have CX3 := CX.out A3 c3 w3 (hb2.out.later hB3) (Bys.of_own hO).2
  have CO3 := CO.out w3 (hb2.out.later hB3)
  have hblk : Blk w3 w.heap.size 27 zCells := ((Blk.made w 27 zCells).kept (m1 _ _)).kept hB3
  have hBf := mmore hB2.out hB3
  rw [show (le4 (sumL lt)).length = 4 from rfl]
  clear hO hB3 CX CS C hb2 hB2 hcv
  have t0 : w3.cell? ⟨w.heap.size, 0, none⟩ = some (.int .i64 0) := hblk.cell 0
  have t1 : w3.cell? ⟨w.heap.size, 1, none⟩ = some (.slice none 0 0) := hblk.cell 1
  have t2 : w3.cell? ⟨w.heap.size, 2, none⟩ = some (.slice none 0 0) := hblk.cell 2
  have t3 : w3.cell? ⟨w.heap.size, 3, none⟩ = some (.int .i64 0) := hblk.cell 3
  have t4 : w3.cell? ⟨w.heap.size, 4, none⟩ = some (.int .i64 0) := hblk.cell 4
  have t5 : w3.cell? ⟨w.heap.size, 5, none⟩ = some (.int .i64 0) := hblk.cell 5
  have t6 : w3.cell? ⟨w.heap.size, 6, none⟩ = some (.slice none 0 0) := hblk.cell 6
  have t7 : w3.cell? ⟨w.heap.size, 7, none⟩ = some (.slice none 0 0) := hblk.cell 7
  have f0 := hblk.free 0
  have f1 := hblk.free 1
  have f2 := hblk.free 2
  have f3 := hblk.free 3
  have f4 := hblk.free 4
  have f5 := hblk.free 5
  have f6 := hblk.free 6
  have f7 := hblk.free 7
  have hlt := hblk.lt
  replace hblk := Lib.hid hblk
  replace hBf := Lib.hid hBf
  replace CX3 := Lib.hid CX3
  replace CO3 := Lib.hid CO3
  clear CO
  go_wp2_with fail
  refine CX3.out.mono ?_; rintro e u ⟨rfl, rfl⟩
  go_wp2_with fail
  refine CO3.out.mono ?_; rintro e w4 hop
  obtain ⟨g, B, rfl, g1, g2, g3, g4, hR, hB4⟩ := open_B hop
  have hb4 := hblk.out.kept hB4
  have hW4 := mmore hBf.out hB4
  have hn4 : w.heap.size < u.heap.size := hblk.out.lt
  clear CO3 CX3 hop t0 t1 t2 t3 t4 t5 t6 t7 f0 f1 f2 f3 f4 f5 f6 f7 hblk hBf hB4
  replace hR := Lib.hid hR
  replace hb4 := Lib.hid hb4
  replace hW4 := Lib.hid hW4
  go_wp2_with fail
  have e10 : (w4.alloc (.cells #[.pointer (some ⟨g, 0, none⟩)] 77)).heap.size = w4.heap.size + 1 := by simp
  have hG6 := Blk.made (w4.alloc (.cells #[.pointer (some ⟨g, 0, none⟩)] 77)) 27 zCells
  rw [e10] at hG6
  have hB6 : Below w4.heap.size w4 ((w4.alloc (.cells #[.pointer (some ⟨g, 0, none⟩)] 77)).alloc (.cells zCells 27)) := ((Below.refl _ w4).alloc (Nat.le_refl _) _).alloc (by simp) _
  have hrb : Blk ((w4.alloc (.cells #[.pointer (some ⟨g, 0, none⟩)] 77)).alloc (.cells zCells 27)) w4.heap.size 77 #[.pointer (some ⟨g, 0, none⟩)] := (Blk.made w4 _ _).kept (m1 _ _)
  have hS : RdS _ (w4.heap.size + 1) w4.heap.size g B bl := ⟨hrb, hR.out.later hB6, hby, by omega, by omega, by omega, by simp⟩
  have hb6 := hb4.out.kept hB6
  have hW6 := mmore hW4.out hB6
  clear hB6 hrb e10
  generalize (w4.alloc (.cells #[.pointer (some ⟨g, 0, none⟩)] 77)).alloc (.cells zCells 27) = w6 at *
  have hq1 : w.heap.size < w4.heap.size := by omega
  have hq2 : w.heap.size ≠ g := by omega
  generalize hrbe : w4.heap.size = rb at *
  have CT := Table_r (rb + 1) rb g B (rb + 1) 0 27 zCells bl w6 hS ⟨hG6, by omega, Nat.le_refl _, by decide⟩ (by decide) (fun j u hu => by simpa using hu) (by decide)
  cases hx : rdTable bl with
  | none =>
    rw [hx] at CT
    have hd2 : decP l = (32, none) := by rw [hd.out, hx]; rfl
    have hfin := fun w' (hb : Below w.heap.size w w') => DecIs.no hd2 hb
    replace hfin := Lib.hid hfin
    have CC := carried_any _ _ w6 (fun _ => False) (fun w' => RFr w6 w' g (rb + 1)) (CT.mono (fun e w' hh => Or.inr ⟨hh.2, hh.1⟩))
    refine CC.mono ?_; rintro e w7 (⟨rfl, hF⟩ | ⟨rfl, hF⟩)
    · exact hF.elim
    have hblk := hb6.keepR hF hq2 (by omega)
    have hBf : Below w.heap.size w w7 := ⟨hF.os.trans hW6.os, hF.tape.trans hW6.tape, hF.output.trans hW6.output, Nat.le_trans hW6.size hF.size, fun k hk => (hF.block k (by have := hW6.size; omega) (by omega) (by omega)).trans (hW6.block k hk)⟩
    clear CC CT hF hx hd hd2
    have t0 : w7.cell? ⟨w.heap.size, 0, none⟩ = some (.int .i64 0) := hblk.cell 0
    have t1 : w7.cell? ⟨w.heap.size, 1, none⟩ = some (.slice none 0 0) := hblk.cell 1
    have t2 : w7.cell? ⟨w.heap.size, 2, none⟩ = some (.slice none 0 0) := hblk.cell 2
    have t3 : w7.cell? ⟨w.heap.size, 3, none⟩ = some (.int .i64 0) := hblk.cell 3
    have t4 : w7.cell? ⟨w.heap.size, 4, none⟩ = some (.int .i64 0) := hblk.cell 4
    have t5 : w7.cell? ⟨w.heap.size, 5, none⟩ = some (.int .i64 0) := hblk.cell 5
    have t6 : w7.cell? ⟨w.heap.size, 6, none⟩ = some (.slice none 0 0) := hblk.cell 6
    have t7 : w7.cell? ⟨w.heap.size, 7, none⟩ = some (.slice none 0 0) := hblk.cell 7
    have f0 := hblk.free 0
    have f1 := hblk.free 1
    have f2 := hblk.free 2
    have f3 := hblk.free 3
    have f4 := hblk.free 4
    have f5 := hblk.free 5
    have f6 := hblk.free 6
    have f7 := hblk.free 7
    have hlt := hblk.lt
    replace hblk := Lib.hid hblk
    replace hBf := Lib.hid hBf
    go_wp2
    have hP := put8_blk hblk.out (.int .i64 0) (.slice none 0 0) (.slice none 0 0) (.int .i64 0) (.int .i64 0) (.int .i64 0) (.slice none 0 0) (.slice none 0 0)
    have hQ := put8_below hBf.out (Nat.le_refl _) (Nat.le_refl _) (.int .i64 0) (.slice none 0 0) (.slice none 0 0) (.int .i64 0) (.int .i64 0) (.int .i64 0) (.slice none 0 0) (.slice none 0 0)
    unfold put8 at hP hQ
    generalize (((((((w7.setCell ⟨w.heap.size, 0, none⟩ (.int .i64 0)).setCell ⟨w.heap.size, 1, none⟩ (.slice none 0 0)).setCell ⟨w.heap.size, 2, none⟩ (.slice none 0 0)).setCell ⟨w.heap.size, 3, none⟩ (.int .i64 0)).setCell ⟨w.heap.size, 4, none⟩ (.int .i64 0)).setCell ⟨w.heap.size, 5, none⟩ (.int .i64 0)).setCell ⟨w.heap.size, 6, none⟩ (.slice none 0 0)).setCell ⟨w.heap.size, 7, none⟩ (.slice none 0 0) = u9 at *
    have r0 := hP.cell 0
    have r1 := hP.cell 1
    have r2 := hP.cell 2
    have r3 := hP.cell 3
    have r4 := hP.cell 4
    have r5 := hP.cell 5
    have r6 := hP.cell 6
    have r7 := hP.cell 7
    simp only [List.getElem?_toArray, List.getElem?_cons_zero, List.getElem?_cons_succ] at r0 r1 r2 r3 r4 r5 r6 r7
    refine bodyPost_ret (v := .tuple #[zT, .int .i64 32]) (by simp [results, Try.results13, go_sem, zT, r0, r1, r2, r3, r4, r5, r6, r7]) rfl (hfin.out _ hQ)
  | some y =>
    obtain ⟨x, r⟩ := y
    rw [hx] at CT
    have CC := carried_any _ _ w6 (fun w' => RFr w6 w' g (rb + 1) ∧ RdS w' (rb + 1) rb g B r ∧ ∃ vs, vs.length = 8 ∧ eTable w' vs x ∧ Blk w' (rb + 1) 27 (putC zCells 0 vs)) (fun _ => False) (CT.mono (fun e w' hh => Or.inl ⟨hh.2.1, hh.1, hh.2.2.1, hh.2.2.2⟩))
    refine CC.mono ?_; rintro e w7 (⟨rfl, hF, hS7, vs, hvl, hE, hB7⟩ | ⟨rfl, hF⟩)
    rotate_left
    · exact hF.elim
    have hblk := hb6.keepR hF hq2 (by omega)
    have hBf : Below w.heap.size w w7 := ⟨hF.os.trans hW6.os, hF.tape.trans hW6.tape, hF.output.trans hW6.output, Nat.le_trans hW6.size hF.size, fun k hk => (hF.block k (by have := hW6.size; omega) (by omega) (by omega)).trans (hW6.block k hk)⟩
    have CL := left_any g B r w7 hS7.2.1
    have rc : w7.cell? ⟨rb, 0, none⟩ = some (.pointer (some ⟨g, 0, none⟩)) := hS7.1.cell 0
    obtain ⟨z0, A1, n1, c1, A2, n2, c2, z3, z4, z5, A6, n6, c6, A7, n7, c7, rfl⟩ := eTable_form hE
    have hB8 : Blk w7 (rb + 1) 27 #[.int .i64 z0, .slice A1 n1 c1, .slice A2 n2 c2, .int .i64 z3, .int .i64 z4, .int .i64 z5, .slice A6 n6 c6, .slice A7 n7 c7] := by simpa [putC] using hB7
    replace CL := Lib.hid CL
    replace hE := Lib.hid hE
    clear CC CT hF hS7 hB7 hS hG6 hb6 hW6 hb4 hW4 hR
    cases r with
    | nil =>
      have hd2 := Lib.hid (hd.out.trans (congrArg decB hx))
      clear hd hx
      have s0 : w7.cell? ⟨rb + 1, 0, none⟩ = some (.int .i64 z0) := hB8.cell 0
      have s1 : w7.cell? ⟨rb + 1, 1, none⟩ = some (.slice A1 n1 c1) := hB8.cell 1
      have s2 : w7.cell? ⟨rb + 1, 2, none⟩ = some (.slice A2 n2 c2) := hB8.cell 2
      have s3 : w7.cell? ⟨rb + 1, 3, none⟩ = some (.int .i64 z3) := hB8.cell 3
      have s4 : w7.cell? ⟨rb + 1, 4, none⟩ = some (.int .i64 z4) := hB8.cell 4
      have s5 : w7.cell? ⟨rb + 1, 5, none⟩ = some (.int .i64 z5) := hB8.cell 5
      have s6 : w7.cell? ⟨rb + 1, 6, none⟩ = some (.slice A6 n6 c6) := hB8.cell 6
      have s7 : w7.cell? ⟨rb + 1, 7, none⟩ = some (.slice A7 n7 c7) := hB8.cell 7
      clear hB8
      have t0 : w7.cell? ⟨w.heap.size, 0, none⟩ = some (.int .i64 0) := hblk.cell 0
      have t1 : w7.cell? ⟨w.heap.size, 1, none⟩ = some (.slice none 0 0) := hblk.cell 1
      have t2 : w7.cell? ⟨w.heap.size, 2, none⟩ = some (.slice none 0 0) := hblk.cell 2
      have t3 : w7.cell? ⟨w.heap.size, 3, none⟩ = some (.int .i64 0) := hblk.cell 3
      have t4 : w7.cell? ⟨w.heap.size, 4, none⟩ = some (.int .i64 0) := hblk.cell 4
      have t5 : w7.cell? ⟨w.heap.size, 5, none⟩ = some (.int .i64 0) := hblk.cell 5
      have t6 : w7.cell? ⟨w.heap.size, 6, none⟩ = some (.slice none 0 0) := hblk.cell 6
      have t7 : w7.cell? ⟨w.heap.size, 7, none⟩ = some (.slice none 0 0) := hblk.cell 7
      have f0 := hblk.free 0
      have f1 := hblk.free 1
      have f2 := hblk.free 2
      have f3 := hblk.free 3
      have f4 := hblk.free 4
      have f5 := hblk.free 5
      have f6 := hblk.free 6
      have f7 := hblk.free 7
      have hlt := hblk.lt
      replace hblk := Lib.hid hblk
      replace hBf := Lib.hid hBf
      go_wp2_with fail
      refine CL.out.mono ?_; rintro e u ⟨rfl, rfl⟩
      go_wp2
      have hP := put8_blk hblk.out (.int .i64 z0) (.slice A1 n1 c1) (.slice A2 n2 c2) (.int .i64 z3) (.int .i64 z4) (.int .i64 z5) (.slice A6 n6 c6) (.slice A7 n7 c7)
      have hQ := put8_below hBf.out (Nat.le_refl _) (Nat.le_refl _) (.int .i64 z0) (.slice A1 n1 c1) (.slice A2 n2 c2) (.int .i64 z3) (.int .i64 z4) (.int .i64 z5) (.slice A6 n6 c6) (.slice A7 n7 c7)
      unfold put8 at hP hQ
      generalize hgen : (((((((w7.setCell ⟨w.heap.size, 0, none⟩ (.int .i64 z0)).setCell ⟨w.heap.size, 1, none⟩ (.slice A1 n1 c1)).setCell ⟨w.heap.size, 2, none⟩ (.slice A2 n2 c2)).setCell ⟨w.heap.size, 3, none⟩ (.int .i64 z3)).setCell ⟨w.heap.size, 4, none⟩ (.int .i64 z4)).setCell ⟨w.heap.size, 5, none⟩ (.int .i64 z5)).setCell ⟨w.heap.size, 6, none⟩ (.slice A6 n6 c6)).setCell ⟨w.heap.size, 7, none⟩ (.slice A7 n7 c7) = u9 at *
      have r0 := hP.cell 0
      have r1 := hP.cell 1
      have r2 := hP.cell 2
      have r3 := hP.cell 3
      have r4 := hP.cell 4
      have r5 := hP.cell 5
      have r6 := hP.cell 6
      have r7 := hP.cell 7
      simp only [List.getElem?_toArray, List.getElem?_cons_zero, List.getElem?_cons_succ] at r0 r1 r2 r3 r4 r5 r6 r7
      have hK := put8_grown w7 w.heap.size (.int .i64 z0) (.slice A1 n1 c1) (.slice A2 n2 c2) (.int .i64 z3) (.int .i64 z4) (.int .i64 z5) (.slice A6 n6 c6) (.slice A7 n7 c7)
      unfold put8 at hK
      rw [hgen] at hK
      have hE9 : eTable u9 _ x := keep_Table w7 u9 w.heap.size w.heap.size _ x hE.out (RFr.of_grown hK _) (Off.of_ty hblk.out.ty (by decide)) (Off.of_ty hblk.out.ty (by decide))
      refine bodyPost_ret (v := .tuple #[.agg #[.int .i64 z0, .slice A1 n1 c1, .slice A2 n2 c2, .int .i64 z3, .int .i64 z4, .int .i64 z5, .slice A6 n6 c6, .slice A7 n7 c7], .int .i64 0]) (by simp [results, Try.results13, go_sem, r0, r1, r2, r3, r4, r5, r6, r7]) rfl ⟨hQ, _, by rw [hd2.out]; rfl, by rw [hd2.out]; exact ⟨_, rfl, hE9, rfl⟩⟩
    | cons a r' =>
      have hd2 : decP l = (32, none) := by rw [hd.out, hx]; rfl
      have hfin := fun w' (hb : Below w.heap.size w w') => DecIs.no hd2 hb
      replace hfin := Lib.hid hfin
      have hpos : (0 : Int) < ((a :: r').length : Int) := by simp
      clear hd hd2 hx hB8
      generalize (a :: r').length = m at *
      have t0 : w7.cell? ⟨w.heap.size, 0, none⟩ = some (.int .i64 0) := hblk.cell 0
      have t1 : w7.cell? ⟨w.heap.size, 1, none⟩ = some (.slice none 0 0) := hblk.cell 1
      have t2 : w7.cell? ⟨w.heap.size, 2, none⟩ = some (.slice none 0 0) := hblk.cell 2
      have t3 : w7.cell? ⟨w.heap.size, 3, none⟩ = some (.int .i64 0) := hblk.cell 3
      have t4 : w7.cell? ⟨w.heap.size, 4, none⟩ = some (.int .i64 0) := hblk.cell 4
      have t5 : w7.cell? ⟨w.heap.size, 5, none⟩ = some (.int .i64 0) := hblk.cell 5
      have t6 : w7.cell? ⟨w.heap.size, 6, none⟩ = some (.slice none 0 0) := hblk.cell 6
      have t7 : w7.cell? ⟨w.heap.size, 7, none⟩ = some (.slice none 0 0) := hblk.cell 7
      have f0 := hblk.free 0
      have f1 := hblk.free 1
      have f2 := hblk.free 2
      have f3 := hblk.free 3
      have f4 := hblk.free 4
      have f5 := hblk.free 5
      have f6 := hblk.free 6
      have f7 := hblk.free 7
      have hlt := hblk.lt
      replace hblk := Lib.hid hblk
      replace hBf := Lib.hid hBf
      go_wp2_with fail
      refine CL.out.mono ?_; rintro e u ⟨rfl, rfl⟩
      go_wp2
      have hP := put8_blk hblk.out (.int .i64 0) (.slice none 0 0) (.slice none 0 0) (.int .i64 0) (.int .i64 0) (.int .i64 0) (.slice none 0 0) (.slice none 0 0)
      have hQ := put8_below hBf.out (Nat.le_refl _) (Nat.le_refl _) (.int .i64 0) (.slice none 0 0) (.slice none 0 0) (.int .i64 0) (.int .i64 0) (.int .i64 0) (.slice none 0 0) (.slice none 0 0)
      unfold put8 at hP hQ
      generalize (((((((w7.setCell ⟨w.heap.size, 0, none⟩ (.int .i64 0)).setCell ⟨w.heap.size, 1, none⟩ (.slice none 0 0)).setCell ⟨w.heap.size, 2, none⟩ (.slice none 0 0)).setCell ⟨w.heap.size, 3, none⟩ (.int .i64 0)).setCell ⟨w.heap.size, 4, none⟩ (.int .i64 0)).setCell ⟨w.heap.size, 5, none⟩ (.int .i64 0)).setCell ⟨w.heap.size, 6, none⟩ (.slice none 0 0)).setCell ⟨w.heap.size, 7, none⟩ (.slice none 0 0) = u9 at *
      have r0 := hP.cell 0
      have r1 := hP.cell 1
      have r2 := hP.cell 2
      have r3 := hP.cell 3
      have r4 := hP.cell 4
      have r5 := hP.cell 5
      have r6 := hP.cell 6
      have r7 := hP.cell 7
      simp only [List.getElem?_toArray, List.getElem?_cons_zero, List.getElem?_cons_succ] at r0 r1 r2 r3 r4 r5 r6 r7
      refine bodyPost_ret (v := .tuple #[zT, .int .i64 32]) (by simp [results, Try.results13, go_sem, zT, r0, r1, r2, r3, r4, r5, r6, r7]) rfl (hfin.out _ hQ)
/-- Decode, at any bytes -/
theorem decode_any (A : Option Addr) (l : List Nat) (c : Nat) (w : World) (hl : Byt l) (h : Bys w A l) (hc : l.length ≤ c) (h63 : l.length ≤ 140737488355000) :
    Calls Try.prog 13 #[.slice A l.length c] w (DecIs l w) := by
  by_cases h1 : 65536 < l.length
  · exact decode_long A l c w h1 h63
  by_cases h2 : l.length < 8
  · exact decode_short A l c w h2
  by_cases h3 : l.take 4 = ausp
  · obtain ⟨ad, rfl, _⟩ := h.2 (by omega)
    by_cases h4 : l.drop (l.length - 4) = le4 (sumL (l.take (l.length - 4)))
    · exact decode_rest ad l c w hl h h1 h2 hc h3 h4
    · exact decode_sum ad l c w hl h h1 h2 hc h3 h4
  · exact decode_head A l c w hl h h1 h2 hc h3
end Go.Proofs.Ytlfhgmoafgjdcaa
