/- The document's plain: a table's bytes, its codes aside. -/
import Derived.Test.YtlfhgmoafgjdcaaOuC
namespace Go.Proofs.Ytlfhgmoafgjdcaa
open Go.ChangeShapes Go.WideShapes Go.ChangeAt Go.RowKit
set_option linter.unusedVariables false
set_option linter.unusedSimpArgs false
def kI (l : List Int) : List Itm := nI [(l.length : Int)] ++ nI l
/-- what plain writes -/
def plainI (x : TTable) : List Itm := nI [x.1.1, x.1.2.2.2.1, x.1.2.2.2.2.1, x.1.2.2.2.2.2, (x.1.2.1.length : Int)] ++ (nI x.1.2.1 ++ (nI [(x.1.2.2.1.length : Int)] ++ (x.1.2.2.1.flatMap kI ++ itL iRow x.2.1)))
def plainL (x : TTable) : List Nat := encL (plainI x)
set_option maxHeartbeats 16000000 in
set_option maxRecDepth 100000 in
theorem plain_any (x : TTable) (z0 : Int) (A1 : Option Addr) (n1 c1 : Nat) (A2 : Option Addr) (n2 c2 : Nat) (z3 z4 z5 : Int) (A6 : Option Addr) (n6 c6 : Nat) (A7 : Option Addr) (n7 c7 : Nat) (w : World)
    (hx : pTable (w.heap.size + 1) (w.alloc (.cells #[.int .i64 z0, .slice A1 n1 c1, .slice A2 n2 c2, .int .i64 z3, .int .i64 z4, .int .i64 z5, .slice A6 n6 c6, .slice A7 n7 c7] 27)) w.heap.size 0 x) (hw : ∀ i ∈ plainI x, wfI i) (hlen : LenOk [] (plainI x)) :
    Calls Try.prog 30 #[.agg #[.int .i64 z0, .slice A1 n1 c1, .slice A2 n2 c2, .int .i64 z3, .int .i64 z4, .int .i64 z5, .slice A6 n6 c6, .slice A7 n7 c7]] w fun e w' => ∃ A c, e = .returned (.slice A (plainL x).length c) ∧ Bys w' A (plainL x) ∧ Below w.heap.size w w' := by
  replace hx := Lib.hid hx
  go_enter Try.func30, Try.ntmps30
  go_upto_region 1 with (fail)
  have hX0 := Blk.made w 27 #[.int .i64 z0, .slice A1 n1 c1, .slice A2 n2 c2, .int .i64 z3, .int .i64 z4, .int .i64 z5, .slice A6 n6 c6, .slice A7 n7 c7]
  have hbase := m1 w (.cells #[.int .i64 z0, .slice A1 n1 c1, .slice A2 n2 c2, .int .i64 z3, .int .i64 z4, .int .i64 z5, .slice A6 n6 c6, .slice A7 n7 c7] 27)
  have hs1 : (w.alloc (.cells #[.int .i64 z0, .slice A1 n1 c1, .slice A2 n2 c2, .int .i64 z3, .int .i64 z4, .int .i64 z5, .slice A6 n6 c6, .slice A7 n7 c7] 27)).heap.size = w.heap.size + 1 := by simp
  generalize w.alloc (.cells #[.int .i64 z0, .slice A1 n1 c1, .slice A2 n2 c2, .int .i64 z3, .int .i64 z4, .int .i64 z5, .slice A6 n6 c6, .slice A7 n7 c7] 27) = w1 at *
  obtain ⟨⟨y0, l1, l2, y3, y4, y5⟩, l6, l7⟩ := x
  obtain ⟨t0, ⟨B1, d1, t1, q1, g1⟩, ⟨B2, d2, t2, q2, g2⟩, t3, t4, t5, ⟨B6, d6, t6, q6, g6⟩, _⟩ := hx.out
  clear hx
  rw [Nat.zero_add] at t1 t2 t3 t4 t5 t6
  simp only at t0 t1 t2 t3 t4 t5 t6 q1 q2 q6 g1 g2 g6
  have hPI : plainI ((y0, l1, l2, y3, y4, y5), l6, l7) = nI [y0, y3, y4, y5, (l1.length : Int)] ++ (nI l1 ++ (nI [(l2.length : Int)] ++ (l2.flatMap kI ++ itL iRow l6))) := rfl
  rw [hPI] at hw hlen
  have hPL : plainL ((y0, l1, l2, y3, y4, y5), l6, l7) = encL (nI [y0, y3, y4, y5, (l1.length : Int)] ++ (nI l1 ++ (nI [(l2.length : Int)] ++ (l2.flatMap kI ++ itL iRow l6)))) := rfl
  clear hPI
  have hwa : ∀ i ∈ nI [y0, y3, y4, y5, (l1.length : Int)], wfI i := fun i hi => hw i (List.mem_append.2 (.inl hi))
  have hwb : ∀ i ∈ nI l1, wfI i := fun i hi => hw i (by simp only [List.mem_append]; exact .inr (.inl hi))
  have hwc : ∀ i ∈ nI [(l2.length : Int)], wfI i := fun i hi => hw i (by simp only [List.mem_append]; exact .inr (.inr (.inl hi)))
  have hwd : ∀ i ∈ l2.flatMap kI, wfI i := fun i hi => hw i (by simp only [List.mem_append]; exact .inr (.inr (.inr (.inl hi))))
  have hwe : ∀ i ∈ itL iRow l6, wfI i := fun i hi => hw i (by simp only [List.mem_append]; exact .inr (.inr (.inr (.inr hi))))
  have hla : LenOk [] (nI [y0, y3, y4, y5, (l1.length : Int)]) := hlen.pre
  have hlb : LenOk ([] ++ encL (nI [y0, y3, y4, y5, (l1.length : Int)])) (nI l1) := hlen.part
  generalize hG : w.heap.size = G at *
  generalize hLa : nI [y0, y3, y4, y5, (l1.length : Int)] = La at *
  have hlc : LenOk ([] ++ encL (La ++ nI l1)) (nI [(l2.length : Int)]) := by
    rw [← List.append_assoc] at hlen
    exact hlen.part
  have hld : LenOk ([] ++ encL ((La ++ nI l1) ++ nI [(l2.length : Int)])) (l2.flatMap kI) := by
    rw [← List.append_assoc, ← List.append_assoc] at hlen
    exact hlen.part
  have hle : LenOk ([] ++ encL (((La ++ nI l1) ++ nI [(l2.length : Int)]) ++ l2.flatMap kI)) (itL iRow l6) := by
    rw [← List.append_assoc, ← List.append_assoc, ← List.append_assoc] at hlen
    exact hlen.suf
  have hassoc : La ++ (nI l1 ++ (nI [(l2.length : Int)] ++ (l2.flatMap kI ++ itL iRow l6))) = (((La ++ nI l1) ++ nI [(l2.length : Int)]) ++ l2.flatMap kI) ++ itL iRow l6 := by simp
  rw [hassoc] at hPL
  clear hassoc hlen hw
  -- the writer's block
  have hmO := m1 w1 (.cells #[.slice none 0 0, .bool false] 65)
  have hO := Blk.made w1 65 #[.slice none 0 0, .bool false]
  rw [hs1] at hO
  have hR0 : ROut (w1.alloc (.cells #[.slice none 0 0, .bool false] 65)) (G + 1) (G + 1) [] false := ⟨none, 0, hO, .inl (World.ownsRow_nil _ _ _ _), Nat.le_refl _⟩
  have hs2 : (w1.alloc (.cells #[.slice none 0 0, .bool false] 65)).heap.size = G + 1 + 1 := by simp [hs1]
  have hf0 : OFr (G + 1) (G + 1) w1 (w1.alloc (.cells #[.slice none 0 0, .bool false] 65)) := OFr.of_below hmO (by omega)
  have hmA := m1 (w1.alloc (.cells #[.slice none 0 0, .bool false] 65)) (.cells #[.int .i64 y0, .int .i64 y3, .int .i64 y4, .int .i64 y5, .int .i64 (l1.length : Int)] 3)
  have hzA : NumsAt (G + 1) (G + 1) ((w1.alloc (.cells #[.slice none 0 0, .bool false] 65)).alloc (.cells #[.int .i64 y0, .int .i64 y3, .int .i64 y4, .int .i64 y5, .int .i64 (l1.length : Int)] 3)) (some ⟨G + 1 + 1, 0, none⟩) [y0, y3, y4, y5, (l1.length : Int)] := by
    rw [← hs2]
    exact NumsAt.lit _ [y0, y3, y4, y5, (l1.length : Int)] (by omega)
  have hRA := Lib.hid (hR0.later hmA)
  have hfA := Lib.hid (hf0.trans (OFr.of_below hmA (by omega)))
  replace hzA := Lib.hid hzA
  rw [← hLa] at hwa hla
  clear hR0 hf0 hmA hmO hO
  go_wp2_with fail
  refine (onums_n (G + 1) (G + 1) [] false _ [y0, y3, y4, y5, (l1.length : Int)] 5 5 rfl _ hRA.out hzA.out hwa hla).mono ?_
  rintro e v2 ⟨rfl, hf2, hR2⟩
  rw [hLa] at hR2
  replace hf2 := hfA.out.trans hf2
  clear hRA hfA hzA hwa hla hLa
  have hlt := Nat.lt_succ_self G
  have s1 := cellB hf2.below hlt t1
  have hzB : NumsAt (G + 1) (G + 1) v2 B1 l1 := NumsAt.list (q1.belowB fun b o x hb hp => pInt.belowB hf2.below hb hp)
  clear t0 t3 t4 t5
  go_wp2_with fail
  refine (onums_n (G + 1) (G + 1) _ _ B1 l1 l1.length d1 rfl v2 hR2 hzB hwb hlb).mono ?_
  rintro e v3 ⟨rfl, hf3, hR3⟩
  replace hR3 := ROut.more hR3
  replace hf3 := hf2.trans hf3
  clear hR2 hf2 hzB s1
  have s2 := cellB hf3.below hlt t2
  have hb3 := hR3.base
  have hm3 := m1 v3 (.cells #[.int .i64 (l2.length : Int)] 3)
  have hz3 : NumsAt (G + 1) (G + 1) (v3.alloc (.cells #[.int .i64 (l2.length : Int)] 3)) (some ⟨v3.heap.size, 0, none⟩) [(l2.length : Int)] := NumsAt.lit v3 [(l2.length : Int)] hb3.2
  have hR4 := Lib.hid (hR3.later hm3)
  have hf4 := Lib.hid (hf3.trans (OFr.of_below hm3 (by omega)))
  replace hz3 := Lib.hid hz3
  clear hR3 hf3 hm3
  go_wp2_with fail
  refine (onums_n (G + 1) (G + 1) _ _ _ [(l2.length : Int)] 1 1 rfl _ hR4.out hz3.out hwc hlc).mono ?_
  rintro e v5 ⟨rfl, hf5, hR5⟩
  replace hR5 := ROut.more hR5
  replace hf5 := hf4.out.trans hf5
  clear hR4 hf4 hz3 s2
  have s2 := cellB hf5.below hlt t2
  have hf5' := hf5
  go_wp2_with fail
  clear hf5'
  go_loopw [35] (fun i wr => ∃ k : Nat, k ≤ l2.length ∧ i = .int .i64 (k : Int) ∧ OFr (G + 1) (G + 1) w1 wr ∧ ROut wr (G + 1) (G + 1) ([] ++ encL (((La ++ nI l1) ++ nI [(l2.length : Int)]) ++ (l2.take k).flatMap kI)) ((false && ((La ++ nI l1) ++ nI [(l2.length : Int)]).all okI) && ((l2.take k).flatMap kI).all okI)) (fun i _ => l2.length - (intOf i).toNat)
  case atStart => exact ⟨0, Nat.zero_le _, rfl, hf5, by simpa using hR5⟩
  case round =>
    clear hf5 hR5 s2
    obtain ⟨k, hk, rfl, hfr, hR⟩ := hrel
    have k0 : (0 : Int) ≤ (k : Int) := by omega
    by_cases hlt2 : k < l2.length
    · have k1 : (k : Int) < (l2.length : Int) := by omega
      obtain ⟨b, off, rfl, hbl, hall⟩ := q2 (by omega)
      have hxk : l2[k]? = some l2[k] := List.getElem?_eq_getElem hlt2
      have htk : (l2.take (k + 1)).flatMap kI = (l2.take k).flatMap kI ++ kI l2[k] := by rw [List.take_add_one, hxk, List.flatMap_append]; simp
      have hsp : l2.flatMap kI = (l2.take k).flatMap kI ++ (kI l2[k] ++ (l2.drop (k + 1)).flatMap kI) := by
        have e1 : l2 = l2.take k ++ (l2[k] :: l2.drop (k + 1)) := by rw [← List.drop_eq_getElem_cons hlt2, List.take_append_drop]
        conv => lhs; rw [e1]
        rw [List.flatMap_append, List.flatMap_cons]
      have hwk : ∀ i ∈ kI l2[k], wfI i := fun i hi => hwd i (by rw [hsp]; simp only [List.mem_append]; exact .inr (.inl hi))
      have hlk : LenOk ([] ++ encL (((La ++ nI l1) ++ nI [(l2.length : Int)]) ++ (l2.take k).flatMap kI)) (kI l2[k]) := by
        have h9 := hld
        rw [hsp] at h9
        have h10 := h9.part
        rwa [List.append_assoc, ← encL_append] at h10
      obtain ⟨E, ec, e1, e2, e3⟩ := pInts.belowB hfr.below hbl (hall k _ hxk)
      rw [Nat.mul_one] at e1
      have hmore : ∀ u, ROut u (G + 1) (G + 1) (([] ++ encL (((La ++ nI l1) ++ nI [(l2.length : Int)]) ++ (l2.take k).flatMap kI)) ++ encL (kI l2[k])) (((false && ((La ++ nI l1) ++ nI [(l2.length : Int)]).all okI) && ((l2.take k).flatMap kI).all okI) && (kI l2[k]).all okI) → ROut u (G + 1) (G + 1) ([] ++ encL (((La ++ nI l1) ++ nI [(l2.length : Int)]) ++ (l2.take (k + 1)).flatMap kI)) ((false && ((La ++ nI l1) ++ nI [(l2.length : Int)]).all okI) && ((l2.take (k + 1)).flatMap kI).all okI) := fun u hu => by
        rw [htk, List.all_append, ← Bool.and_assoc, ← List.append_assoc, encL_append (((La ++ nI l1) ++ nI [(l2.length : Int)]) ++ (l2.take k).flatMap kI), ← List.append_assoc]
        exact hu
      replace hmore := Lib.hid hmore
      clear hsp htk hall hxk
      generalize l2[k] = y at *
      generalize [] ++ encL (((La ++ nI l1) ++ nI [(l2.length : Int)]) ++ (l2.take k).flatMap kI) = b1 at *
      generalize ((false && ((La ++ nI l1) ++ nI [(l2.length : Int)]).all okI) && ((l2.take k).flatMap kI).all okI) = o1 at *
      have hgr := hR.base
      unfold kI at hlk hwk hmore
      have hl1 := hlk.pre
      have hl2 := hlk.suf
      have hw1 : ∀ i ∈ nI [(y.length : Int)], wfI i := fun i hi => hwk i (List.mem_append.2 (.inl hi))
      have hw2 : ∀ i ∈ nI y, wfI i := fun i hi => hwk i (List.mem_append.2 (.inr hi))
      have hm := m1 wr (.cells #[.int .i64 (y.length : Int)] 3)
      have hz : NumsAt (G + 1) (G + 1) (wr.alloc (.cells #[.int .i64 (y.length : Int)] 3)) (some ⟨wr.heap.size, 0, none⟩) [(y.length : Int)] := NumsAt.lit wr [(y.length : Int)] hgr.2
      have hRz := Lib.hid (hR.later hm)
      have hfz := Lib.hid (OFr.of_below (base := G + 1) (g := G + 1) hm (by omega))
      have hfr' := Lib.hid hfr
      replace hz := Lib.hid hz
      replace e2 := Lib.hid e2
      clear hR hfr hm
      go_wp2_with fail
      refine (onums_n (G + 1) (G + 1) _ _ _ [(y.length : Int)] 1 1 rfl _ hRz.out hz.out hw1 hl1).mono ?_
      rintro e y4 ⟨rfl, hf4, hR4⟩
      replace hf4 := hfz.out.trans hf4
      have hzy : NumsAt (G + 1) (G + 1) y4 E y := NumsAt.list (e2.out.belowB fun b o x hb hp => pInt.belowB hf4.below hb hp)
      clear hRz hfz hz e1 e2
      go_wp2_with fail
      refine (onums_n (G + 1) (G + 1) _ _ E y y.length ec rfl y4 hR4 hzy hw2 hl2).mono ?_
      rintro e y5 ⟨rfl, hf5, hR5⟩
      have hRn := Lib.hid (hmore.out _ (ROut.more hR5))
      have hfn := Lib.hid (hfr'.out.trans (hf4.trans hf5))
      clear hR4 hR5 hf4 hf5 hzy hfr'
      go_wp2
      go_roundw
      case rel => exact ⟨k + 1, by omega, by go_num, hfn.out, hRn.out⟩
      case measure => simp [intOf]; omega
    · obtain rfl : k = l2.length := by omega
      rw [List.take_length] at hR
      have s6 := cellB hfr.below hlt t6
      have hq6 : ListAt (pRow (G + 1)) 8 (G + 1) wr B6 l6 := q6.belowB fun b o x hb hp => pRow.belowB hfr.below hb hp
      clear q2 hwd hld
      go_wp2_with fail
      refine (orows_any (G + 1) (G + 1) _ _ B6 l6 l6.length d6 rfl wr hR hq6 hwe hle).mono ?_
      rintro e y7 ⟨rfl, hf7, hR7⟩
      replace hf7 := hfr.trans hf7
      obtain ⟨A9, c9, hB9, hW9, _⟩ := hR7
      rw [List.append_assoc, ← encL_append, List.nil_append] at hB9 hW9
      have c0 : y7.cell? ⟨G + 1, 0, none⟩ = some (.slice A9 (encL ((((La ++ nI l1) ++ nI [(l2.length : Int)]) ++ l2.flatMap kI) ++ itL iRow l6)).length c9) := by rw [hB9.cell]; rfl
      have hy := Lib.hid hW9.bys
      have hbf := Lib.hid (hbase.trans (hf7.below.mono (Nat.le_succ G)))
      clear hB9 hW9 hf7 hfr hR hq6 s6 hX0 hbase
      generalize encL ((((La ++ nI l1) ++ nI [(l2.length : Int)]) ++ l2.flatMap kI) ++ itL iRow l6) = out at *
      go_wp2
      go_ret
      exact ⟨A9, c9, by rw [hPL]; rfl, by rw [hPL]; exact hy.out, by rw [hG]; exact hbf.out⟩
end Go.Proofs.Ytlfhgmoafgjdcaa
