/- The document's writer of images: codes, as a contract (made by genOuE.py). -/
import Derived.Test.YtlfhgmoafgjdcaaOuC
namespace Go.Proofs.Ytlfhgmoafgjdcaa
open Go.ChangeShapes Go.WideShapes Go.ChangeAt Go.RowKit
set_option linter.unusedVariables false
set_option linter.unusedSimpArgs false
set_option maxHeartbeats 16000000 in
set_option maxRecDepth 100000 in
theorem ocode_any (g base : Nat) (bs : List Nat) (ok : Bool) (zr zs : Int) (A2 : Option Addr) (c2 : Nat) (li : List TInput) (A3 : Option Addr) (c3 : Nat) (lc : List TValue) (A4 : Option Addr) (c4 : Nat) (ll : List TIns) (w : World) (h : ROut w g base bs ok)
    (q2 : ListAt pInput 4 base w A2 li) (q3 : ListAt pValue 2 base w A3 lc) (q4 : ListAt pIns 4 base w A4 ll) (hw : ∀ i ∈ iCode (zr, zs, li, lc, ll), wfI i) (hlen : LenOk bs (iCode (zr, zs, li, lc, ll))) :
    Calls Try.prog 27 #[.pointer (some ⟨g, 0, none⟩), .agg #[.int .i64 zr, .int .i64 zs, .slice A2 li.length c2, .slice A3 lc.length c3, .slice A4 ll.length c4]] w (OutR base g bs ok (iCode (zr, zs, li, lc, ll)) w) := by
  obtain ⟨i0, hi, hz0, hz1, hz2⟩ := info_parts infoB
  replace hi := Lib.hid hi
  replace hz1 := Lib.hid hz1
  replace hz2 := Lib.hid hz2
  have hbg := h.base
  have hsp : iCode (zr, zs, li, lc, ll) = ((nI [zr, zs] ++ itL iInput li) ++ itL iValue lc) ++ itL iIns ll := by simp [iCode, nI, iInt]
  rw [hsp] at hw hlen
  have hpost : ∀ u, OFr base g w u → ROut u g base (bs ++ encL (((nI [zr, zs] ++ itL iInput li) ++ itL iValue lc) ++ itL iIns ll)) (ok && (((nI [zr, zs] ++ itL iInput li) ++ itL iValue lc) ++ itL iIns ll).all okI) → OutR base g bs ok (iCode (zr, zs, li, lc, ll)) w (.returned (.tuple #[])) u := fun u h1 h2 => by rw [hsp]; exact ⟨rfl, h1, h2⟩
  replace hpost := Lib.hid hpost
  clear hsp
  have hl0 := hlen.pre.pre.pre
  have hl1 := hlen.pre.pre.suf
  have hl2 := hlen.pre.suf
  have hl3 := hlen.suf
  have hw0 : ∀ i ∈ nI [zr, zs], wfI i := fun i hi => hw i (by simp only [List.mem_append]; exact .inl (.inl (.inl hi)))
  have hw1 : ∀ i ∈ itL iInput li, wfI i := fun i hi => hw i (by simp only [List.mem_append]; exact .inl (.inl (.inr hi)))
  have hw2 : ∀ i ∈ itL iValue lc, wfI i := fun i hi => hw i (by simp only [List.mem_append]; exact .inl (.inr hi))
  have hw3 : ∀ i ∈ itL iIns ll, wfI i := fun i hi => hw i (by simp only [List.mem_append]; exact .inr hi)
  clear hw hlen
  have hk2 : li.length ≤ 9223372036854775807 := hw1 (.c li.length) (by simp [itL])
  have hk3 : lc.length ≤ 9223372036854775807 := hw2 (.c lc.length) (by simp [itL])
  have hk4 : ll.length ≤ 9223372036854775807 := hw3 (.c ll.length) (by simp [itL])
  go_enter Try.func27, Try.ntmps27
  go_upto_region 1 with (fail)
  have hmX := m1 w (.cells #[.int .i64 zr, .int .i64 zs, .slice A2 li.length c2, .slice A3 lc.length c3, .slice A4 ll.length c4] 47)
  have hX := Blk.made w 47 #[.int .i64 zr, .int .i64 zs, .slice A2 li.length c2, .slice A3 lc.length c3, .slice A4 ll.length c4]
  have hXs : (w.alloc (.cells #[.int .i64 zr, .int .i64 zs, .slice A2 li.length c2, .slice A3 lc.length c3, .slice A4 ll.length c4] 47)).heap.size = w.heap.size + 1 := by simp
  have hR1 := h.later hmX
  have hf1 : OFr base g w _ := OFr.of_below hmX (by omega)
  generalize w.alloc (.cells #[.int .i64 zr, .int .i64 zs, .slice A2 li.length c2, .slice A3 lc.length c3, .slice A4 ll.length c4] 47) = v1 at *
  have hGg : w.heap.size ≠ g := by omega
  generalize hG : w.heap.size = G at *
  have x0 : v1.cell? ⟨G, 0, none⟩ = some (.int .i64 zr) := hX.cell 0
  have x1 : v1.cell? ⟨G, 1, none⟩ = some (.int .i64 zs) := hX.cell 1
  have hm1 := m1 v1 (.cells #[.int .i64 zr, .int .i64 zs] 3)
  have hz1' : NumsAt base g (v1.alloc (.cells #[.int .i64 zr, .int .i64 zs] 3)) (some ⟨G + 1, 0, none⟩) [zr, zs] := by
    rw [← hXs]
    exact NumsAt.lit v1 [zr, zs] (by omega)
  have hR1' := Lib.hid (hR1.later hm1)
  have hf1' := Lib.hid (hf1.trans (OFr.of_below hm1 (by omega)))
  have hX1 := Lib.hid (hX.kept hm1)
  replace hz1' := Lib.hid hz1'
  clear h hR1 hf1 hX hm1 hmX
  go_wp2_with fail
  refine (onums_n g base bs ok _ [zr, zs] 2 2 rfl _ hR1'.out hz1'.out hw0 hl0).mono ?_
  rintro e v ⟨rfl, hf, hR⟩
  have hXv := hf.blk _ _ _ hGg (by decide) hX1.out
  replace hf := hf1'.out.trans hf
  clear x0 x1 hR1' hf1' hX1 hz1'
  have xf : v.cell? ⟨G, 2, none⟩ = some (.slice A2 li.length c2) := hXv.cell 2
  replace hXv := Lib.hid hXv
  replace hf := Lib.hid hf
  go_wp2_with fail
  refine (ocount_any g base _ _ li.length v hR hk2 (LenOk.pre (L1 := [.c li.length]) (L2 := li.flatMap iInput) hl1)).mono ?_
  rintro e v' ⟨rfl, hf', hR'⟩
  have hXv' := hf'.blk _ _ _ hGg (by decide) hXv.out
  replace hf' := hf.out.trans hf'
  replace hR' := ROut.more hR'
  clear xf hR hf hXv
  have xf : v'.cell? ⟨G, 2, none⟩ = some (.slice A2 li.length c2) := hXv'.cell 2
  have hf2 := hf'
  go_wp2_with fail
  clear hf2
  go_loopw [25] (fun i wr => ∃ k : Nat, k ≤ li.length ∧ i = .int .i64 (k : Int) ∧ OFr base g w wr ∧ Blk wr G 47 #[.int .i64 zr, .int .i64 zs, .slice A2 li.length c2, .slice A3 lc.length c3, .slice A4 ll.length c4] ∧ ROut wr g base (bs ++ encL ((nI [zr, zs]) ++ (.c li.length :: (li.take k).flatMap iInput))) (ok && ((nI [zr, zs]) ++ (Itm.c li.length :: (li.take k).flatMap iInput)).all okI)) (fun i _ => li.length - (intOf i).toNat)
  case atStart => exact ⟨0, Nat.zero_le _, rfl, hf', hXv', hR'⟩
  case round =>
    clear hf' hR' xf hXv'
    obtain ⟨k, hk, rfl, hfr, hXr, hRr⟩ := hrel
    have k0 : (0 : Int) ≤ (k : Int) := by omega
    by_cases hlt : k < li.length
    · have k1 : (k : Int) < (li.length : Int) := by omega
      obtain ⟨b, off, rfl, hbl, hall⟩ := q2 (by omega)
      obtain ⟨hsp, htk⟩ := item_split iInput hlt
      have hwk : ∀ i ∈ iInput li[k], wfI i := fun i hi => hw1 i (by rw [hsp]; simp only [List.mem_append]; exact .inr (.inl hi))
      have hlk : LenOk (bs ++ encL ((nI [zr, zs]) ++ (Itm.c li.length :: (li.take k).flatMap iInput))) (iInput li[k]) := by
        have h9 := hl1
        rw [hsp] at h9
        have h10 := h9.part
        rwa [List.append_assoc, ← encL_append] at h10
      have hmore : ∀ u, ROut u g base ((bs ++ encL ((nI [zr, zs]) ++ (Itm.c li.length :: (li.take k).flatMap iInput))) ++ encL (iInput li[k])) ((ok && ((nI [zr, zs]) ++ (Itm.c li.length :: (li.take k).flatMap iInput)).all okI) && (iInput li[k]).all okI) → ROut u g base (bs ++ encL ((nI [zr, zs]) ++ (Itm.c li.length :: (li.take (k + 1)).flatMap iInput))) (ok && ((nI [zr, zs]) ++ (Itm.c li.length :: (li.take (k + 1)).flatMap iInput)).all okI) := fun u hu => by
        rw [htk, ← List.append_assoc]
        exact ROut.more hu
      replace hmore := Lib.hid hmore
      have hp := pInput.belowB hfr.below hbl (hall k _ (List.getElem?_eq_getElem hlt))
      clear hsp htk hall
      generalize li[k] = y at *
      generalize bs ++ encL ((nI [zr, zs]) ++ (Itm.c li.length :: (li.take k).flatMap iInput)) = b1 at *
      generalize (ok && ((nI [zr, zs]) ++ (Itm.c li.length :: (li.take k).flatMap iInput)).all okI) = o1 at *
      have hgr := hRr.base
      obtain ⟨ya, yb, yc, yd⟩ := y
      obtain ⟨p0, p1, p2, p3⟩ := hp
      simp only at p0 p1 p2 p3
      have hm := m2 wr (.cells #[.int .i64 ya, .int .i64 yb, .int .i64 yc, .int .i64 yd] 89) (.cells #[.int .i64 ya, .int .i64 yb, .int .i64 yc, .int .i64 yd] 3)
      have hz : NumsAt base g ((wr.alloc (.cells #[.int .i64 ya, .int .i64 yb, .int .i64 yc, .int .i64 yd] 89)).alloc (.cells #[.int .i64 ya, .int .i64 yb, .int .i64 yc, .int .i64 yd] 3)) (some ⟨wr.heap.size + 1, 0, none⟩) [ya, yb, yc, yd] := by
        have := NumsAt.lit (base := base) (g := g) (wr.alloc (.cells #[.int .i64 ya, .int .i64 yb, .int .i64 yc, .int .i64 yd] 89)) [ya, yb, yc, yd] (by simp; omega)
        rwa [show (wr.alloc (.cells #[.int .i64 ya, .int .i64 yb, .int .i64 yc, .int .i64 yd] 89)).heap.size = wr.heap.size + 1 by simp] at this
      have hR5 := Lib.hid (hRr.later hm)
      have hf5 := Lib.hid (hfr.trans (OFr.of_below hm (by omega)))
      have hX5 := Lib.hid (hXr.kept hm)
      replace hz := Lib.hid hz
      clear hRr hfr hXr hm
      go_wp2_with fail
      refine (onums_n g base _ _ _ [ya, yb, yc, yd] 4 4 rfl _ hR5.out hz.out hwk hlk).mono ?_
      rintro e w6 ⟨rfl, hf6, hR6⟩
      have hXn := Lib.hid (hf6.blk _ _ _ hGg (by decide) hX5.out)
      have hRn := Lib.hid (hmore.out _ hR6)
      have hfn := Lib.hid (hf5.out.trans hf6)
      clear hR6 hf6 hR5 hf5 hz hX5
      go_wp2
      go_roundw
      case rel => exact ⟨k + 1, by omega, by go_num, hfn.out, hXn.out, hRn.out⟩
      case measure => simp [intOf]; omega
    · obtain rfl : k = li.length := by omega
      rw [List.take_length] at hRr
      clear q2
      have hR : ROut wr g base (bs ++ encL (nI [zr, zs] ++ itL iInput li)) (ok && (nI [zr, zs] ++ itL iInput li).all okI) := hRr
      have hXv := hXr
      have hf := hfr
      clear hRr hXr hfr
      have xf : wr.cell? ⟨G, 3, none⟩ = some (.slice A3 lc.length c3) := hXv.cell 3
      replace hXv := Lib.hid hXv
      replace hf := Lib.hid hf
      go_wp2_with fail
      refine (ocount_any g base _ _ lc.length wr hR hk3 (LenOk.pre (L1 := [.c lc.length]) (L2 := lc.flatMap iValue) hl2)).mono ?_
      rintro e v' ⟨rfl, hf', hR'⟩
      have hXv' := hf'.blk _ _ _ hGg (by decide) hXv.out
      replace hf' := hf.out.trans hf'
      replace hR' := ROut.more hR'
      clear xf hR hf hXv
      have xf : v'.cell? ⟨G, 3, none⟩ = some (.slice A3 lc.length c3) := hXv'.cell 3
      have hf2 := hf'
      go_wp2_with fail
      clear hf2
      go_loopw [49] (fun i wr => ∃ k : Nat, k ≤ lc.length ∧ i = .int .i64 (k : Int) ∧ OFr base g w wr ∧ Blk wr G 47 #[.int .i64 zr, .int .i64 zs, .slice A2 li.length c2, .slice A3 lc.length c3, .slice A4 ll.length c4] ∧ ROut wr g base (bs ++ encL ((nI [zr, zs] ++ itL iInput li) ++ (.c lc.length :: (lc.take k).flatMap iValue))) (ok && ((nI [zr, zs] ++ itL iInput li) ++ (Itm.c lc.length :: (lc.take k).flatMap iValue)).all okI)) (fun i _ => lc.length - (intOf i).toNat)
      case atStart => exact ⟨0, Nat.zero_le _, rfl, hf', hXv', hR'⟩
      case round =>
        clear hf' hR' xf hXv'
        obtain ⟨k, hk, rfl, hfr, hXr, hRr⟩ := hrel
        have k0 : (0 : Int) ≤ (k : Int) := by omega
        by_cases hlt : k < lc.length
        · have k1 : (k : Int) < (lc.length : Int) := by omega
          obtain ⟨b, off, rfl, hbl, hall⟩ := q3 (by omega)
          obtain ⟨hsp, htk⟩ := item_split iValue hlt
          have hwk : ∀ i ∈ iValue lc[k], wfI i := fun i hi => hw2 i (by rw [hsp]; simp only [List.mem_append]; exact .inr (.inl hi))
          have hlk : LenOk (bs ++ encL ((nI [zr, zs] ++ itL iInput li) ++ (Itm.c lc.length :: (lc.take k).flatMap iValue))) (iValue lc[k]) := by
            have h9 := hl2
            rw [hsp] at h9
            have h10 := h9.part
            rwa [List.append_assoc, ← encL_append] at h10
          have hmore : ∀ u, ROut u g base ((bs ++ encL ((nI [zr, zs] ++ itL iInput li) ++ (Itm.c lc.length :: (lc.take k).flatMap iValue))) ++ encL (iValue lc[k])) ((ok && ((nI [zr, zs] ++ itL iInput li) ++ (Itm.c lc.length :: (lc.take k).flatMap iValue)).all okI) && (iValue lc[k]).all okI) → ROut u g base (bs ++ encL ((nI [zr, zs] ++ itL iInput li) ++ (Itm.c lc.length :: (lc.take (k + 1)).flatMap iValue))) (ok && ((nI [zr, zs] ++ itL iInput li) ++ (Itm.c lc.length :: (lc.take (k + 1)).flatMap iValue)).all okI) := fun u hu => by
            rw [htk, ← List.append_assoc]
            exact ROut.more hu
          replace hmore := Lib.hid hmore
          have hp := pValue.belowB hfr.below hbl (hall k _ (List.getElem?_eq_getElem hlt))
          clear hsp htk hall
          generalize lc[k] = y at *
          generalize bs ++ encL ((nI [zr, zs] ++ itL iInput li) ++ (Itm.c lc.length :: (lc.take k).flatMap iValue)) = b1 at *
          generalize (ok && ((nI [zr, zs] ++ itL iInput li) ++ (Itm.c lc.length :: (lc.take k).flatMap iValue)).all okI) = o1 at *
          have hgr := hRr.base
          obtain ⟨ya, yb⟩ := y
          obtain ⟨p0, p1⟩ := hp
          simp only at p0 p1
          have hsv : iValue (ya, yb) = nI [ya] ++ [Itm.b yb] := by simp [iValue, nI, iInt]
          rw [hsv] at hwk hlk hmore
          have hwb : yb < 18446744073709551616 := hwk (.b yb) (by simp)
          have hwa : ∀ i ∈ nI [ya], wfI i := fun i hi => hwk i (List.mem_append.2 (.inl hi))
          have hla := hlk.pre
          have hlb := hlk.suf
          have hmY := m1 wr (.cells #[.int .i64 ya, .int .u64 (yb : Int)] 106)
          have hY := Blk.made wr 106 #[.int .i64 ya, .int .u64 (yb : Int)]
          have hYs : (wr.alloc (.cells #[.int .i64 ya, .int .u64 (yb : Int)] 106)).heap.size = wr.heap.size + 1 := by simp
          have hYg : wr.heap.size ≠ g := by omega
          have hmZ := m1 (wr.alloc (.cells #[.int .i64 ya, .int .u64 (yb : Int)] 106)) (.cells #[.int .i64 ya] 3)
          have hz : NumsAt base g ((wr.alloc (.cells #[.int .i64 ya, .int .u64 (yb : Int)] 106)).alloc (.cells #[.int .i64 ya] 3)) (some ⟨wr.heap.size + 1, 0, none⟩) [ya] := by
            rw [← hYs]
            exact NumsAt.lit _ [ya] (by omega)
          have hm := mmore hmY hmZ
          have hR5 := Lib.hid (hRr.later hm)
          have hf5 := Lib.hid (hfr.trans (OFr.of_below hm (by omega)))
          have hX5 := Lib.hid (hXr.kept hm)
          have hY5 := Lib.hid (hY.kept hmZ)
          replace hz := Lib.hid hz
          clear hRr hfr hXr hm hmY hmZ hY
          go_wp2_with fail
          refine (onums_n g base _ _ _ [ya] 1 1 rfl _ hR5.out hz.out hwa hla).mono ?_
          rintro e w4 ⟨rfl, hf6, hR6⟩
          have hX6 := hf6.blk _ _ _ hGg (by decide) hX5.out
          have hY6 := hf6.blk _ _ _ hYg (by decide) hY5.out
          have hf7 := hf5.out.trans hf6
          clear hR5 hf5 hz hX5 hY5 hf6
          have y1 : w4.cell? ⟨wr.heap.size, 1, none⟩ = some (.int .u64 (yb : Int)) := hY6.cell 1
          have IN := Lib.hid (fun u => ruint_any yb hwb u)
          have hnp := Lib.hid (uintL_len hwb).1
          have hmb : ∀ u, ROut u g base ((b1 ++ encL (nI [ya])) ++ uintL yb) (o1 && (nI [ya]).all okI) → ROut u g base (b1 ++ encL (nI [ya] ++ [Itm.b yb])) (o1 && (nI [ya] ++ [Itm.b yb]).all okI) := fun u hu => by
            refine ROut.more ?_
            rw [show encL [Itm.b yb] = uintL yb by simp [encL, encI], show ([Itm.b yb]).all okI = true from rfl, Bool.and_true]
            exact hu
          have hmore2 := Lib.hid (fun u hu => hmore.out u (hmb u hu))
          have hle' : (b1 ++ encL (nI [ya])).length + (uintL yb).length ≤ 140737488355328 := by
            unfold LenOk at hlb
            rw [show encL [Itm.b yb] = uintL yb by simp [encL, encI], List.length_append] at hlb
            omega
          clear hmore hmb hlb hla hlk
          generalize uintL yb = news at *
          generalize b1 ++ encL (nI [ya]) = bk at *
          generalize (o1 && (nI [ya]).all okI) = ok4 at *
          obtain ⟨A9, c9, kb, kr, kg⟩ := hR6
          have kgl := kb.lt
          have s0 : w4.cell? ⟨g, 0, none⟩ = some (.slice A9 bk.length c9) := by rw [kb.cell]; rfl
          replace kb := Lib.hid kb
          replace kr := Lib.hid kr
          have hbase : base ≤ w4.heap.size := by omega
          go_upto_region 13 with (fail)
          go_region_law (first
            | ((try go_simp); go_at_call 54; refine (IN.out _).mono ?_; rintro e w2 ⟨Ar, cr, rfl, hO, hb2⟩; have hd2 := (Below.refl w4.heap.size w4).drew.trans hb2; have hf2 := hf7.trans (OFr.of_below hd2 hbase); have kb2 := kb.out.kept hd2; have kr2 := kr.out.later hd2; have hX7 := Lib.hid (hX6.kept hd2); have s2 : w2.cell? ⟨g, 0, none⟩ = some (.slice A9 bk.length c9) := (by rw [kb2.cell]; rfl); have hz3 := hd2.size; have hBr := (Bys.of_own hO).2; replace hf2 := Lib.hid hf2; replace kb2 := Lib.hid kb2; replace kr2 := Lib.hid kr2; replace hBr := Lib.hid hBr; clear hO hb2 hd2)
            | (refine step_append_W (v := .slice A9 bk.length c9) (base := base) (bs := bk) (news := news) rfl (.tmp 62) (.tmp 65) rfl rfl hi.out hz0 hz1.out hz2.out rfl Ar cr news.length rfl rfl kr2.out hBr.out hnp.out hle' (by omega) ?_; intro v' w3 ho hb4 hk4; obtain ⟨A3', c3', rfl, -, -⟩ := bslice_of ho; have kb3 := hk4 g _ _ kb2.out (by decide); have hX8 := hk4 G _ _ hX7.out (by decide); have hx3 : w3.cell? ⟨g, 0, none⟩ = some (.slice A9 bk.length c9) := (by rw [kb3.cell]; rfl); have hf3 := kb3.free 0; have hP := kb3.put_ 0 (.slice A3' (bk ++ news).length c3'); simp only [List.setIfInBounds_toArray, List.set_cons_zero, List.set_cons_succ] at hP; have hfin : OFr base g w (w3.setCell ⟨g, 0, none⟩ (.slice A3' (bk ++ news).length c3')) ∧ Blk (w3.setCell ⟨g, 0, none⟩ (.slice A3' (bk ++ news).length c3')) G 47 #[.int .i64 zr, .int .i64 zs, .slice A2 li.length c2, .slice (some ⟨b, off, none⟩) lc.length c3, .slice A4 ll.length c4] ∧ ROut (w3.setCell ⟨g, 0, none⟩ (.slice A3' (bk ++ news).length c3')) g base (bk ++ news) ok4 := ⟨hf2.out.trans ((⟨hb4, fun b t cs h1 h2 h3 => hk4 b cs t h3 h2⟩ : OFr base g w2 w3).trans (OFr.set_ w3 kg 0 _)), Blk.else_ (p := ⟨g, 0, none⟩) hX8 (fun e => hGg e.symm) _, A3', c3', hP, WRow.set_ (.inl ho) kb3, kg⟩; replace hfin := Lib.hid hfin; clear ho hb4 hk4 kb3 hP hX8))
          all_goals
            have hq := hfin.out
            rw [List.length_append] at hq
            go_wp2
            go_roundw
            case rel => exact ⟨k + 1, by omega, by go_num, hq.1, hq.2.1, hmore2.out _ hq.2.2⟩
            case measure => simp [intOf]; omega
        · obtain rfl : k = lc.length := by omega
          rw [List.take_length] at hRr
          clear q3
          have hR : ROut wr g base (bs ++ encL ((nI [zr, zs] ++ itL iInput li) ++ itL iValue lc)) (ok && ((nI [zr, zs] ++ itL iInput li) ++ itL iValue lc).all okI) := hRr
          have hXv := hXr
          have hf := hfr
          clear hRr hXr hfr
          have xf : wr.cell? ⟨G, 4, none⟩ = some (.slice A4 ll.length c4) := hXv.cell 4
          replace hXv := Lib.hid hXv
          replace hf := Lib.hid hf
          go_wp2_with fail
          refine (ocount_any g base _ _ ll.length wr hR hk4 (LenOk.pre (L1 := [.c ll.length]) (L2 := ll.flatMap iIns) hl3)).mono ?_
          rintro e v' ⟨rfl, hf', hR'⟩
          have hXv' := hf'.blk _ _ _ hGg (by decide) hXv.out
          replace hf' := hf.out.trans hf'
          replace hR' := ROut.more hR'
          clear xf hR hf hXv
          have xf : v'.cell? ⟨G, 4, none⟩ = some (.slice A4 ll.length c4) := hXv'.cell 4
          have hf2 := hf'
          go_wp2_with fail
          clear hf2
          go_loopw [78] (fun i wr => ∃ k : Nat, k ≤ ll.length ∧ i = .int .i64 (k : Int) ∧ OFr base g w wr ∧ Blk wr G 47 #[.int .i64 zr, .int .i64 zs, .slice A2 li.length c2, .slice A3 lc.length c3, .slice A4 ll.length c4] ∧ ROut wr g base (bs ++ encL (((nI [zr, zs] ++ itL iInput li) ++ itL iValue lc) ++ (.c ll.length :: (ll.take k).flatMap iIns))) (ok && (((nI [zr, zs] ++ itL iInput li) ++ itL iValue lc) ++ (Itm.c ll.length :: (ll.take k).flatMap iIns)).all okI)) (fun i _ => ll.length - (intOf i).toNat)
          case atStart => exact ⟨0, Nat.zero_le _, rfl, hf', hXv', hR'⟩
          case round =>
            clear hf' hR' xf hXv'
            obtain ⟨k, hk, rfl, hfr, hXr, hRr⟩ := hrel
            have k0 : (0 : Int) ≤ (k : Int) := by omega
            by_cases hlt : k < ll.length
            · have k1 : (k : Int) < (ll.length : Int) := by omega
              obtain ⟨b, off, rfl, hbl, hall⟩ := q4 (by omega)
              obtain ⟨hsp, htk⟩ := item_split iIns hlt
              have hwk : ∀ i ∈ iIns ll[k], wfI i := fun i hi => hw3 i (by rw [hsp]; simp only [List.mem_append]; exact .inr (.inl hi))
              have hlk : LenOk (bs ++ encL (((nI [zr, zs] ++ itL iInput li) ++ itL iValue lc) ++ (Itm.c ll.length :: (ll.take k).flatMap iIns))) (iIns ll[k]) := by
                have h9 := hl3
                rw [hsp] at h9
                have h10 := h9.part
                rwa [List.append_assoc, ← encL_append] at h10
              have hmore : ∀ u, ROut u g base ((bs ++ encL (((nI [zr, zs] ++ itL iInput li) ++ itL iValue lc) ++ (Itm.c ll.length :: (ll.take k).flatMap iIns))) ++ encL (iIns ll[k])) ((ok && (((nI [zr, zs] ++ itL iInput li) ++ itL iValue lc) ++ (Itm.c ll.length :: (ll.take k).flatMap iIns)).all okI) && (iIns ll[k]).all okI) → ROut u g base (bs ++ encL (((nI [zr, zs] ++ itL iInput li) ++ itL iValue lc) ++ (Itm.c ll.length :: (ll.take (k + 1)).flatMap iIns))) (ok && (((nI [zr, zs] ++ itL iInput li) ++ itL iValue lc) ++ (Itm.c ll.length :: (ll.take (k + 1)).flatMap iIns)).all okI) := fun u hu => by
                rw [htk, ← List.append_assoc]
                exact ROut.more hu
              replace hmore := Lib.hid hmore
              have hp := pIns.belowB hfr.below hbl (hall k _ (List.getElem?_eq_getElem hlt))
              clear hsp htk hall
              generalize ll[k] = y at *
              generalize bs ++ encL (((nI [zr, zs] ++ itL iInput li) ++ itL iValue lc) ++ (Itm.c ll.length :: (ll.take k).flatMap iIns)) = b1 at *
              generalize (ok && (((nI [zr, zs] ++ itL iInput li) ++ itL iValue lc) ++ (Itm.c ll.length :: (ll.take k).flatMap iIns)).all okI) = o1 at *
              have hgr := hRr.base
              obtain ⟨ya, yb, yc, yd⟩ := y
              obtain ⟨p0, p1, p2, p3⟩ := hp
              simp only at p0 p1 p2 p3
              have hm := m2 wr (.cells #[.int .i64 ya, .int .i64 yb, .int .i64 yc, .int .i64 yd] 94) (.cells #[.int .i64 ya, .int .i64 yb, .int .i64 yc, .int .i64 yd] 3)
              have hz : NumsAt base g ((wr.alloc (.cells #[.int .i64 ya, .int .i64 yb, .int .i64 yc, .int .i64 yd] 94)).alloc (.cells #[.int .i64 ya, .int .i64 yb, .int .i64 yc, .int .i64 yd] 3)) (some ⟨wr.heap.size + 1, 0, none⟩) [ya, yb, yc, yd] := by
                have := NumsAt.lit (base := base) (g := g) (wr.alloc (.cells #[.int .i64 ya, .int .i64 yb, .int .i64 yc, .int .i64 yd] 94)) [ya, yb, yc, yd] (by simp; omega)
                rwa [show (wr.alloc (.cells #[.int .i64 ya, .int .i64 yb, .int .i64 yc, .int .i64 yd] 94)).heap.size = wr.heap.size + 1 by simp] at this
              have hR5 := Lib.hid (hRr.later hm)
              have hf5 := Lib.hid (hfr.trans (OFr.of_below hm (by omega)))
              have hX5 := Lib.hid (hXr.kept hm)
              replace hz := Lib.hid hz
              clear hRr hfr hXr hm
              go_wp2_with fail
              refine (onums_n g base _ _ _ [ya, yb, yc, yd] 4 4 rfl _ hR5.out hz.out hwk hlk).mono ?_
              rintro e w6 ⟨rfl, hf6, hR6⟩
              have hXn := Lib.hid (hf6.blk _ _ _ hGg (by decide) hX5.out)
              have hRn := Lib.hid (hmore.out _ hR6)
              have hfn := Lib.hid (hf5.out.trans hf6)
              clear hR6 hf6 hR5 hf5 hz hX5
              go_wp2
              go_roundw
              case rel => exact ⟨k + 1, by omega, by go_num, hfn.out, hXn.out, hRn.out⟩
              case measure => simp [intOf]; omega
            · obtain rfl : k = ll.length := by omega
              rw [List.take_length] at hRr
              clear q4
              have hfin := Lib.hid (hpost.out wr hfr hRr)
              clear hfr hRr hXr
              go_wp2
              go_end0
              exact hfin.out
end Go.Proofs.Ytlfhgmoafgjdcaa
