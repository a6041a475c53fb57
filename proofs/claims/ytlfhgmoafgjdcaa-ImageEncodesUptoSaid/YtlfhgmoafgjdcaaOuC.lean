/- The document's writer of images: rows of states, as a contract. -/
import Derived.Test.YtlfhgmoafgjdcaaOuB
namespace Go.Proofs.Ytlfhgmoafgjdcaa
open Go.ChangeShapes Go.WideShapes Go.ChangeAt Go.RowKit
set_option linter.unusedVariables false
set_option linter.unusedSimpArgs false
theorem LenOk.pre {bs : List Nat} {L1 L2 : List Itm} (h : LenOk bs (L1 ++ L2)) : LenOk bs L1 := by
  have := LenOk.part (L1 := []) (L2 := L1) (L3 := L2) h
  simpa [encL] using this
theorem LenOk.suf {bs : List Nat} {L1 L2 : List Itm} (h : LenOk bs (L1 ++ L2)) : LenOk (bs ++ encL L1) L2 := by
  have := LenOk.part (L1 := L1) (L2 := L2) (L3 := []) (by rw [List.append_nil]; exact h)
  exact this
theorem many_enc (p t : Int) (y : Bool) (wd : Int) : encL (nI [p, t, if y then 1 else 0, wd]) = encL [.n p, .n t, .t y, .n wd] ∧ (nI [p, t, if y then 1 else 0, wd]).all okI = ([.n p, .n t, .t y, .n wd] : List Itm).all okI := by
  cases y <;> exact ⟨rfl, rfl⟩
/-- one element's place in a list's items -/
theorem item_split {X : Type} (f : X → List Itm) {xs : List X} {k : Nat} (hlt : k < xs.length) : itL f xs = (Itm.c xs.length :: (xs.take k).flatMap f) ++ (f xs[k] ++ (xs.drop (k + 1)).flatMap f) ∧ (Itm.c xs.length :: (xs.take (k + 1)).flatMap f) = (Itm.c xs.length :: (xs.take k).flatMap f) ++ f xs[k] := by
  have hxk : xs[k]? = some xs[k] := List.getElem?_eq_getElem hlt
  constructor
  · have e1 : xs = xs.take k ++ (xs[k] :: xs.drop (k + 1)) := by rw [← List.drop_eq_getElem_cons hlt, List.take_append_drop]
    unfold itL
    conv => lhs; rw [e1]
    rw [List.flatMap_append, List.flatMap_cons]
    simp [← e1]
  · rw [List.take_add_one, hxk, List.flatMap_append]; simp
set_option maxHeartbeats 16000000 in
set_option maxRecDepth 100000 in
theorem orows_any (g base : Nat) (bs : List Nat) (ok : Bool) (A : Option Addr) (xs : List TRow) (n c : Nat) (hn : n = xs.length) (w : World) (h : ROut w g base bs ok) (hx : ListAt (pRow base) 8 base w A xs) (hw : ∀ i ∈ itL iRow xs, wfI i) (hlen : LenOk bs (itL iRow xs)) :
    Calls Try.prog 26 #[.pointer (some ⟨g, 0, none⟩), .slice A n c] w (OutR base g bs ok (itL iRow xs) w) := by
  subst hn
  have hbg := h.base
  have hk9 : xs.length ≤ 9223372036854775807 := hw (.c xs.length) (by simp [itL])
  go_enter Try.func26, Try.ntmps26
  go_wp2_with fail
  refine (ocount_any g base bs ok xs.length w h hk9 (LenOk.pre (L1 := [.c xs.length]) (L2 := xs.flatMap iRow) hlen)).mono ?_
  rintro e w1 ⟨rfl, hf1, hR1⟩
  clear h
  go_wp2_with fail
  go_loopw [15] (fun i wr => ∃ k : Nat, k ≤ xs.length ∧ i = .int .i64 (k : Int) ∧ OFr base g w wr ∧ ROut wr g base (bs ++ encL (.c xs.length :: (xs.take k).flatMap iRow)) (ok && (Itm.c xs.length :: (xs.take k).flatMap iRow).all okI)) (fun i _ => xs.length - (intOf i).toNat)
  case atStart => exact ⟨0, Nat.zero_le _, rfl, hf1, hR1⟩
  case round =>
    clear hf1 hR1
    obtain ⟨k, hk, rfl, hfr, hR⟩ := hrel
    have k0 : (0 : Int) ≤ (k : Int) := by omega
    by_cases hlt : k < xs.length
    · have k1 : (k : Int) < (xs.length : Int) := by omega
      obtain ⟨b, off, rfl, hbl, hall⟩ := hx (by omega)
      obtain ⟨hsp, htk⟩ := item_split iRow hlt
      have hwk : ∀ i ∈ iRow xs[k], wfI i := fun i hi => hw i (by rw [hsp]; simp only [List.mem_append]; exact .inr (.inl hi))
      have hlk : LenOk (bs ++ encL (Itm.c xs.length :: (xs.take k).flatMap iRow)) (iRow xs[k]) := by rw [hsp] at hlen; exact hlen.part
      have hp := pRow.belowB hfr.below hbl (hall k _ (List.getElem?_eq_getElem hlt))
      clear hsp hall
      generalize xs[k] = x at *
      obtain ⟨⟨zp, zt, zm, zw, lb⟩, zl, zg, le⟩ := x
      obtain ⟨p0, p1, p2, p3, ⟨A4, c4, p4, q4, g4⟩, p5, p6, ⟨A7, c7, p7, q7, g7⟩⟩ := hp
      simp only at p0 p1 p2 p3 p4 p5 p6 p7 q4 q7 g4 g7
      have hmore : ∀ u, ROut u g base ((bs ++ encL (Itm.c xs.length :: (xs.take k).flatMap iRow)) ++ encL (iRow ((zp, zt, zm, zw, lb), zl, zg, le))) ((ok && (Itm.c xs.length :: (xs.take k).flatMap iRow).all okI) && (iRow ((zp, zt, zm, zw, lb), zl, zg, le)).all okI) → ROut u g base (bs ++ encL (Itm.c xs.length :: (xs.take (k + 1)).flatMap iRow)) (ok && (Itm.c xs.length :: (xs.take (k + 1)).flatMap iRow).all okI) := fun u hu => by rw [htk]; exact ROut.more hu
      replace hmore := Lib.hid hmore
      clear htk
      generalize bs ++ encL (Itm.c xs.length :: (xs.take k).flatMap iRow) = b1 at *
      generalize (ok && (Itm.c xs.length :: (xs.take k).flatMap iRow).all okI) = o1 at *
      have hgr := hR.base
      have hmX := m1 wr (.cells #[.int .i64 zp, .int .i64 zt, .bool zm, .int .i64 zw, .slice A4 lb.length c4, .int .i64 zl, .int .i64 zg, .slice A7 le.length c7] 53)
      have hX := Blk.made wr 53 #[.int .i64 zp, .int .i64 zt, .bool zm, .int .i64 zw, .slice A4 lb.length c4, .int .i64 zl, .int .i64 zg, .slice A7 le.length c7]
      have hf2 : OFr base g wr _ := OFr.of_below hmX (by omega)
      have hR2 := hR.later hmX
      have hXs : (wr.alloc (.cells #[.int .i64 zp, .int .i64 zt, .bool zm, .int .i64 zw, .slice A4 lb.length c4, .int .i64 zl, .int .i64 zg, .slice A7 le.length c7] 53)).heap.size = wr.heap.size + 1 := by simp
      go_upto_region 4 with (fail)
      clear p0 p1 p2 p3 p4 p5 p6 p7 hR
      replace hfr := Lib.hid hfr
      generalize wr.alloc (.cells #[.int .i64 zp, .int .i64 zt, .bool zm, .int .i64 zw, .slice A4 lb.length c4, .int .i64 zl, .int .i64 zg, .slice A7 le.length c7] 53) = v1 at *
      have x2 : v1.cell? ⟨wr.heap.size, 2, none⟩ = some (.bool zm) := hX.cell 2
      go_upto_if 20 with (fail)
      go_cut [6] from 6 to 6 (fun p w' => p = .int .i64 (if zm then 1 else 0) ∧ v1 = w')
      case first =>
        clear hmX hX hf2 hR2
        cases zm with
        | false => go_wp2; go_meet; exact ⟨rfl, rfl⟩
        | true => go_wp2; go_meet; exact ⟨rfl, rfl⟩
      case rest =>
      obtain ⟨rfl, rfl⟩ := hcut
      generalize hG : wr.heap.size = G at *
      have hGg : G ≠ g := by omega
      have x0 : v1.cell? ⟨G, 0, none⟩ = some (.int .i64 zp) := hX.cell 0
      have x1 : v1.cell? ⟨G, 1, none⟩ = some (.int .i64 zt) := hX.cell 1
      have x3 : v1.cell? ⟨G, 3, none⟩ = some (.int .i64 zw) := hX.cell 3
      have hm3 := m1 v1 (.cells #[.int .i64 zp, .int .i64 zt, .int .i64 (if zm then 1 else 0), .int .i64 zw] 3)
      have hz3 : NumsAt base g (v1.alloc (.cells #[.int .i64 zp, .int .i64 zt, .int .i64 (if zm then 1 else 0), .int .i64 zw] 3)) (some ⟨G + 1, 0, none⟩) [zp, zt, if zm then 1 else 0, zw] := by
        rw [← hXs]
        exact NumsAt.lit v1 [zp, zt, if zm then 1 else 0, zw] (by omega)
      obtain ⟨me1, me2⟩ := many_enc zp zt zm zw
      have hsp1 : iRow ((zp, zt, zm, zw, lb), zl, zg, le) = [.n zp, .n zt, .t zm, .n zw] ++ (itL iStop lb ++ (nI [zl, zg] ++ itL iTail le)) := by simp [iRow, nI, iInt]
      have hl30 : LenOk b1 [.n zp, .n zt, .t zm, .n zw] := by rw [hsp1] at hlk; exact hlk.pre
      have hl4 : LenOk (b1 ++ encL [.n zp, .n zt, .t zm, .n zw]) (itL iStop lb) := by rw [hsp1] at hlk; exact hlk.part
      have hl5 : LenOk (b1 ++ encL ([.n zp, .n zt, .t zm, .n zw] ++ itL iStop lb)) (nI [zl, zg]) := by
        rw [hsp1, ← List.append_assoc] at hlk
        exact hlk.part
      have hl3 : LenOk b1 (nI [zp, zt, if zm then 1 else 0, zw]) := by
        unfold LenOk at hl30 ⊢
        rw [me1]
        exact hl30
      have hwzp : wfI (.n zp) := hwk (.n zp) (by rw [hsp1]; simp)
      have hwzt : wfI (.n zt) := hwk (.n zt) (by rw [hsp1]; simp)
      have hwzw : wfI (.n zw) := hwk (.n zw) (by rw [hsp1]; simp)
      have hwzl : wfI (.n zl) := hwk (.n zl) (by rw [hsp1]; simp [nI])
      have hwzg : wfI (.n zg) := hwk (.n zg) (by rw [hsp1]; simp [nI])
      have hw4 : ∀ i ∈ itL iStop lb, wfI i := fun i hi => hwk i (by rw [hsp1]; simp only [List.mem_append]; exact .inr (.inl hi))
      have hw3 : ∀ i ∈ nI [zp, zt, if zm then 1 else 0, zw], wfI i := by
        intro i hi
        simp [nI] at hi
        rcases hi with rfl | rfl | rfl | rfl
        · exact hwzp
        · exact hwzt
        · show _ ∧ _; cases zm <;> decide
        · exact hwzw
      generalize hmi : (if zm then (1 : Int) else 0) = zmi at *
      have hR3 := Lib.hid (hR2.later hm3)
      have hf3 := Lib.hid (hf2.trans (OFr.of_below hm3 (by omega)))
      have hX3 := Lib.hid (hX.kept hm3)
      replace hz3 := Lib.hid hz3
      clear hR2 hf2 hX hm3 hmX
      go_wp2_with fail
      refine (onums_n g base b1 o1 _ [zp, zt, zmi, zw] 4 4 rfl _ hR3.out hz3.out hw3 hl3).mono ?_
      rintro e v4 ⟨rfl, hf4, hR4⟩
      rw [me1, me2] at hR4
      have hX4 := hf4.blk _ _ _ hGg (by decide) hX3.out
      replace hf4 := hf3.out.trans hf4
      clear x0 x1 x2 x3 hR3 hf3 hX3 hz3
      have x4 : v4.cell? ⟨G, 4, none⟩ = some (.slice A4 lb.length c4) := hX4.cell 4
      have hq4 : ListAt pStop 2 base v4 A4 lb := q4.belowB fun b o x hb hp => pStop.belowB hf4.below hb hp
      replace hX4 := Lib.hid hX4
      replace hf4 := Lib.hid hf4
      go_wp2_with fail
      refine (ostops_any g base _ _ A4 lb lb.length c4 rfl v4 hR4 hq4 hw4 hl4).mono ?_
      rintro e v5 ⟨rfl, hf5, hR5⟩
      have hX5 := hf5.blk _ _ _ hGg (by decide) hX4.out
      replace hf5 := hf4.out.trans hf5
      replace hR5 := ROut.more hR5
      clear x4 hR4 hf4 hX4 hq4
      have x5 : v5.cell? ⟨G, 5, none⟩ = some (.int .i64 zl) := hX5.cell 5
      have x6 : v5.cell? ⟨G, 6, none⟩ = some (.int .i64 zg) := hX5.cell 6
      have hlt5 := hX5.lt
      have hm5 := m1 v5 (.cells #[.int .i64 zl, .int .i64 zg] 3)
      have hg5 := hR5.base
      have hz5 : NumsAt base g (v5.alloc (.cells #[.int .i64 zl, .int .i64 zg] 3)) (some ⟨v5.heap.size, 0, none⟩) [zl, zg] := NumsAt.lit v5 [zl, zg] hg5.2
      have hw5 : ∀ i ∈ nI [zl, zg], wfI i := by
        intro i hi
        simp [nI] at hi
        rcases hi with rfl | rfl
        · exact hwzl
        · exact hwzg
      have hR6 := Lib.hid (hR5.later hm5)
      have hf6 := Lib.hid (hf5.trans (OFr.of_below hm5 (by omega)))
      have hX6 := Lib.hid (hX5.kept hm5)
      replace hz5 := Lib.hid hz5
      clear hR5 hf5 hX5 hm5
      go_wp2_with fail
      refine (onums_n g base _ _ _ [zl, zg] 2 2 rfl _ hR6.out hz5.out hw5 hl5).mono ?_
      rintro e v7 ⟨rfl, hf7, hR7⟩
      have hX7 := hf7.blk _ _ _ hGg (by decide) hX6.out
      replace hf7 := hf6.out.trans hf7
      replace hR7 := ROut.more hR7
      clear x5 x6 hR6 hf6 hX6 hz5
      have hPe : iRow ((zp, zt, zm, zw, lb), zl, zg, le) = (([Itm.n zp, Itm.n zt, Itm.t zm, Itm.n zw] ++ itL iStop lb) ++ nI [zl, zg]) ++ itL iTail le := by rw [hsp1]; simp
      rw [hPe] at hlk hwk
      replace hmore : Hid (∀ u, ROut u g base (b1 ++ encL ((([Itm.n zp, Itm.n zt, Itm.t zm, Itm.n zw] ++ itL iStop lb) ++ nI [zl, zg]) ++ itL iTail le)) (o1 && ((([Itm.n zp, Itm.n zt, Itm.t zm, Itm.n zw] ++ itL iStop lb) ++ nI [zl, zg]) ++ itL iTail le).all okI) → ROut u g base (bs ++ encL (Itm.c xs.length :: (xs.take (k + 1)).flatMap iRow)) (ok && (Itm.c xs.length :: (xs.take (k + 1)).flatMap iRow).all okI)) := by rw [← hPe]; exact hmore
      clear hPe
      generalize ([Itm.n zp, Itm.n zt, Itm.t zm, Itm.n zw] ++ itL iStop lb) ++ nI [zl, zg] = PL at *
      have hle9 : le.length ≤ 9223372036854775807 := g7
      have x7 : v7.cell? ⟨G, 7, none⟩ = some (.slice A7 le.length c7) := hX7.cell 7
      have hl8 : LenOk (b1 ++ encL PL) [.c le.length] := LenOk.part (L1 := PL) (L2 := [.c le.length]) (L3 := le.flatMap iTail) hlk
      replace hX7 := Lib.hid hX7
      replace hf7 := Lib.hid hf7
      go_wp2_with fail
      refine (ocount_any g base _ _ le.length v7 hR7 hle9 hl8).mono ?_
      rintro e v8 ⟨rfl, hf8, hR8⟩
      have hX8 := hf8.blk _ _ _ hGg (by decide) hX7.out
      replace hf8 := hf7.out.trans hf8
      replace hR8 := ROut.more hR8
      clear x7 hR7 hf7 hX7
      have x7 : v8.cell? ⟨G, 7, none⟩ = some (.slice A7 le.length c7) := hX8.cell 7
      clear hX8
      have hf8' := hf8
      go_wp2_with fail
      clear hf8'
      go_loopw [50] (fun i wr' => ∃ j : Nat, j ≤ le.length ∧ i = .int .i64 (j : Int) ∧ OFr base g wr wr' ∧ ROut wr' g base (b1 ++ encL (PL ++ (.c le.length :: (le.take j).flatMap iTail))) (o1 && (PL ++ (Itm.c le.length :: (le.take j).flatMap iTail)).all okI)) (fun i _ => le.length - (intOf i).toNat)
      case atStart => exact ⟨0, Nat.zero_le _, rfl, hf8, hR8⟩
      case round =>
        clear hf8 hR8 x7
        obtain ⟨j, hj, rfl, hfj, hRj⟩ := hrel
        have j0 : (0 : Int) ≤ (j : Int) := by omega
        by_cases hlj : j < le.length
        · have j1 : (j : Int) < (le.length : Int) := by omega
          obtain ⟨b7, off7, rfl, hbl7, hall7⟩ := q7 (by omega)
          obtain ⟨hsp7, htk7⟩ := item_split iTail hlj
          have hwj : ∀ i ∈ iTail le[j], wfI i := fun i hi => hwk i (by rw [hsp7]; simp only [List.mem_append]; exact .inr (.inr (.inl hi)))
          have hlj' : LenOk (b1 ++ encL (PL ++ (Itm.c le.length :: (le.take j).flatMap iTail))) (iTail le[j]) := by
            rw [hsp7, ← List.append_assoc] at hlk
            exact hlk.part
          obtain ⟨t0, t1, ⟨A2, c2, t2, tq, tg⟩⟩ := pTail.belowB hfj.below hbl7 (hall7 j _ (List.getElem?_eq_getElem hlj))
          have hmorej : ∀ u, ROut u g base ((b1 ++ encL (PL ++ (Itm.c le.length :: (le.take j).flatMap iTail))) ++ encL (iTail le[j])) ((o1 && (PL ++ (Itm.c le.length :: (le.take j).flatMap iTail)).all okI) && (iTail le[j]).all okI) → ROut u g base (b1 ++ encL (PL ++ (Itm.c le.length :: (le.take (j + 1)).flatMap iTail))) (o1 && (PL ++ (Itm.c le.length :: (le.take (j + 1)).flatMap iTail)).all okI) := fun u hu => by
            rw [htk7, ← List.append_assoc]
            exact ROut.more hu
          replace hmorej := Lib.hid hmorej
          clear hsp7 htk7 hall7
          generalize le[j] = y at *
          obtain ⟨yb, yc, yl⟩ := y
          simp only at t0 t1 t2 tq tg
          generalize b1 ++ encL (PL ++ (Itm.c le.length :: (le.take j).flatMap iTail)) = b9 at *
          generalize (o1 && (PL ++ (Itm.c le.length :: (le.take j).flatMap iTail)).all okI) = o9 at *
          have hgj := hRj.base
          have hspT : iTail (yb, yc, yl) = nI [yb, yc] ++ itL iStop yl := by simp [iTail, nI, iInt]
          rw [hspT] at hwj hlj' hmorej
          have hwb : ∀ i ∈ nI [yb, yc], wfI i := fun i hi => hwj i (List.mem_append.2 (.inl hi))
          have hwl : ∀ i ∈ itL iStop yl, wfI i := fun i hi => hwj i (List.mem_append.2 (.inr hi))
          have hlb := hlj'.pre
          have hll := hlj'.suf
          have hwrj : ∃ wj, wj = wr := ⟨_, rfl⟩
          obtain ⟨wj, hwj0⟩ := hwrj
          have hmY := m1 wr (.cells #[.int .i64 yb, .int .i64 yc, .slice A2 yl.length c2] 55)
          have hY := Blk.made wr 55 #[.int .i64 yb, .int .i64 yc, .slice A2 yl.length c2]
          have hYs : (wr.alloc (.cells #[.int .i64 yb, .int .i64 yc, .slice A2 yl.length c2] 55)).heap.size = wr.heap.size + 1 := by simp
          have hYg : wr.heap.size ≠ g := by omega
          have hmZ := m1 (wr.alloc (.cells #[.int .i64 yb, .int .i64 yc, .slice A2 yl.length c2] 55)) (.cells #[.int .i64 yb, .int .i64 yc] 3)
          have hzY : NumsAt base g ((wr.alloc (.cells #[.int .i64 yb, .int .i64 yc, .slice A2 yl.length c2] 55)).alloc (.cells #[.int .i64 yb, .int .i64 yc] 3)) (some ⟨wr.heap.size + 1, 0, none⟩) [yb, yc] := by
            rw [← hYs]
            exact NumsAt.lit _ [yb, yc] (by omega)
          have hm2 := mmore hmY hmZ
          have hRz := Lib.hid (hRj.later hm2)
          have hfz := Lib.hid (hfj.trans (OFr.of_below hm2 (by omega)))
          have hYz := Lib.hid (hY.kept hmZ)
          have htq := Lib.hid tq
          have hfjz := Lib.hid (OFr.of_below (base := base) (g := g) hm2 (by omega))
          replace hzY := Lib.hid hzY
          clear hRj hfj hmY hmZ hm2 hY tq hwj0
          go_wp2_with fail
          refine (onums_n g base b9 o9 _ [yb, yc] 2 2 rfl _ hRz.out hzY.out hwb hlb).mono ?_
          rintro e y4 ⟨rfl, hf4, hR4⟩
          have hY4 := hf4.blk _ _ _ hYg (by decide) hYz.out
          have hfr4 := hfjz.out.trans hf4
          replace hf4 := hfz.out.trans hf4
          have hq4 : ListAt pStop 2 base y4 A2 yl := htq.out.belowB fun b o x hb hp => pStop.belowB hfr4.below hb hp
          clear hRz hfz hYz hzY hfjz htq t0 t1 t2
          have s2 : y4.cell? ⟨wr.heap.size, 2, none⟩ = some (.slice A2 yl.length c2) := hY4.cell 2
          clear hY4 hfr4
          go_wp2_with fail
          refine (ostops_any g base _ _ A2 yl yl.length c2 rfl y4 hR4 hq4 hwl hll).mono ?_
          rintro e y5 ⟨rfl, hf5, hR5⟩
          have hRn := Lib.hid (hmorej.out _ (ROut.more hR5))
          have hfn := Lib.hid (hf4.trans hf5)
          clear hR4 hR5 hf4 hf5 hq4 s2
          go_wp2
          go_roundw
          case rel => exact ⟨j + 1, by omega, by go_num, hfn.out, hRn.out⟩
          case measure => simp [intOf]; omega
        · obtain rfl : j = le.length := by omega
          rw [List.take_length] at hRj
          have hRn := Lib.hid (hmore.out _ hRj)
          have hfn := Lib.hid (hfr.out.trans hfj)
          clear hRj hfj
          go_wp2
          go_roundw
          case rel => exact ⟨k + 1, by omega, by go_num, hfn.out, hRn.out⟩
          case measure => simp [intOf]; omega
    · obtain rfl : k = xs.length := by omega
      rw [List.take_length] at hR
      have hfin : OutR base g bs ok (itL iRow xs) w (.returned (.tuple #[])) wr := ⟨rfl, hfr, hR⟩
      replace hfin := Lib.hid hfin
      clear hfr hR
      go_wp2
      go_end0
      exact hfin.out
end Go.Proofs.Ytlfhgmoafgjdcaa
