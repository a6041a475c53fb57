/- The document's Encode, as a contract. -/
import Derived.Test.YtlfhgmoafgjdcaaOuE
import Derived.Test.YtlfhgmoafgjdcaaScC
import Derived.Test.YtlfhgmoafgjdcaaImTu
import Derived.Test.YtlfhgmoafgjdcaaImJ
namespace Go.Proofs.Ytlfhgmoafgjdcaa
open Go.ChangeShapes Go.WideShapes Go.ChangeAt Go.RowKit
set_option linter.unusedVariables false
set_option linter.unusedSimpArgs false
/-- the whole of what is written, from the first four bytes on -/
theorem iTable_split (y0 : Int) (l1 : List Int) (l2 : List (List Int)) (y3 y4 y5 : Int) (l6 : List TRow) (l7 : List TCode) : iTable ((y0, l1, l2, y3, y4, y5), l6, l7) = (((((((nI [y0] ++ [Itm.c l1.length]) ++ nI l1) ++ [Itm.c l2.length]) ++ l2.flatMap iInts) ++ nI [y3, y4, y5]) ++ itL iRow l6) ++ [Itm.c l7.length]) ++ l7.flatMap iCode := by
  have e : itL iInt l1 = [Itm.c l1.length] ++ nI l1 := by unfold itL; rw [nI_eq]; rfl
  have e2 : nI [y3, y4, y5] = [Itm.n y3, Itm.n y4, Itm.n y5] := rfl
  have e3 : nI [y0] = [Itm.n y0] := rfl
  have e4 : itL iInts l2 = [Itm.c l2.length] ++ l2.flatMap iInts := rfl
  have e5 : itL iCode l7 = [Itm.c l7.length] ++ l7.flatMap iCode := rfl
  unfold iTable
  simp only [e, e2, e3, e4, e5, List.append_assoc, List.cons_append, List.nil_append, List.append_nil]
/-- one element's place in a list's items, the count aside -/
theorem flat_split {X : Type} (f : X → List Itm) {xs : List X} {k : Nat} (hlt : k < xs.length) : xs.flatMap f = (xs.take k).flatMap f ++ (f xs[k] ++ (xs.drop (k + 1)).flatMap f) ∧ (xs.take (k + 1)).flatMap f = (xs.take k).flatMap f ++ f xs[k] := by
  have hxk : xs[k]? = some xs[k] := List.getElem?_eq_getElem hlt
  constructor
  · have e1 : xs = xs.take k ++ (xs[k] :: xs.drop (k + 1)) := by rw [← List.drop_eq_getElem_cons hlt, List.take_append_drop]
    conv => lhs; rw [e1]
    rw [List.flatMap_append, List.flatMap_cons]
  · rw [List.take_add_one, hxk, List.flatMap_append]; simp
theorem encP_eq (x : TTable) : encP x = if (iTable x).all okI then (if 65536 < (ausp ++ encL (iTable x)).length + 4 then (2, none) else (0, some (ausp ++ encL (iTable x) ++ le4 (sumL (ausp ++ encL (iTable x)))))) else (3, none) := by
  unfold encP
  cases ho : (iTable x).all okI with
  | false => rw [runW_bad _ _ ho]; rfl
  | true =>
    obtain ⟨b, h1, h2, h3, h4⟩ := runW_ok (iTable x) ausp ho
    rw [h1, if_pos rfl]
    show (if 65536 < b.length + 4 then _ else _) = _
    by_cases hl : (ausp ++ encL (iTable x)).length ≤ 65536
    · rw [h2 hl]
    · have := h3 (by omega)
      rw [if_pos (by omega), if_pos (by omega)]
theorem own_lower {w : World} {base base' size n : Nat} {e : TypeId} {v : Value} {xs : List Value} (h : w.ownsRow base e size v n xs) (hb : base' ≤ base) : w.ownsRow base' e size v n xs := by
  refine ⟨h.1, ?_⟩
  rcases h.2 with k | ⟨g, cap, cur, k1, k2, k3⟩
  · exact .inl k
  · exact .inr ⟨g, cap, cur, k1, by omega, k3⟩
/-- up to the end of the kinds -/
structure OutAt (w1 w : World) (g base G : Nat) (cs : Array Value) (bs : List Nat) (L : List Itm) : Prop where
  fr : OFr base g w1 w
  blk : Blk w G 27 cs
  out : ROut w g base (bs ++ encL L) (true && L.all okI)
theorem OutAt.call {w1 w w' : World} {g base G : Nat} {cs : Array Value} {bs : List Nat} {L L2 : List Itm} {e : Ending} (h : OutAt w1 w g base G cs bs L) (hG : G ≠ g) (hr : OutR base g (bs ++ encL L) (true && L.all okI) L2 w e w') : e = .returned (.tuple #[]) ∧ OutAt w1 w' g base G cs bs (L ++ L2) := by
  obtain ⟨he, hf, hR⟩ := hr
  exact ⟨he, h.fr.trans hf, hf.blk _ _ _ hG (by decide) h.blk, ROut.more hR⟩
theorem OutAt.later {w1 w w' : World} {g base G : Nat} {cs : Array Value} {bs : List Nat} {L : List Itm} (h : OutAt w1 w g base G cs bs L) (hb : Below w.heap.size w w') : OutAt w1 w' g base G cs bs L := ⟨h.fr.trans (OFr.of_below hb (by have := h.out.base; omega)), h.blk.kept hb, h.out.later hb⟩
theorem OutAt.lit {w1 w : World} {g base G : Nat} {cs : Array Value} {bs : List Nat} {L : List Itm} (h : OutAt w1 w g base G cs bs L) (zs : List Int) : NumsAt base g (w.alloc (.cells (zs.map (Value.int .i64)).toArray 3)) (some ⟨w.heap.size, 0, none⟩) zs := NumsAt.lit w zs h.out.base.2
set_option maxHeartbeats 16000000 in
set_option maxRecDepth 100000 in
theorem rencode_any (x : TTable) (z0 : Int) (A1 : Option Addr) (n1 c1 : Nat) (A2 : Option Addr) (n2 c2 : Nat) (z3 z4 z5 : Int) (A6 : Option Addr) (n6 c6 : Nat) (A7 : Option Addr) (n7 c7 : Nat) (w : World)
    (hx : pTable (w.heap.size + 1) (w.alloc (.cells #[.int .i64 z0, .slice A1 n1 c1, .slice A2 n2 c2, .int .i64 z3, .int .i64 z4, .int .i64 z5, .slice A6 n6 c6, .slice A7 n7 c7] 27)) w.heap.size 0 x) (hw : ∀ i ∈ iTable x, wfI i) (hlen : LenOk ausp (iTable x)) :
    Calls Try.prog 11 #[.agg #[.int .i64 z0, .slice A1 n1 c1, .slice A2 n2 c2, .int .i64 z3, .int .i64 z4, .int .i64 z5, .slice A6 n6 c6, .slice A7 n7 c7]] w (EncIs x w) := by
  replace hx := Lib.hid hx
  go_enter Try.func11, Try.ntmps11
  go_upto_region 1 with (fail)
  have hX0 := Blk.made w 27 #[.int .i64 z0, .slice A1 n1 c1, .slice A2 n2 c2, .int .i64 z3, .int .i64 z4, .int .i64 z5, .slice A6 n6 c6, .slice A7 n7 c7]
  have hbase := m1 w (.cells #[.int .i64 z0, .slice A1 n1 c1, .slice A2 n2 c2, .int .i64 z3, .int .i64 z4, .int .i64 z5, .slice A6 n6 c6, .slice A7 n7 c7] 27)
  have hs1 : (w.alloc (.cells #[.int .i64 z0, .slice A1 n1 c1, .slice A2 n2 c2, .int .i64 z3, .int .i64 z4, .int .i64 z5, .slice A6 n6 c6, .slice A7 n7 c7] 27)).heap.size = w.heap.size + 1 := by simp
  generalize w.alloc (.cells #[.int .i64 z0, .slice A1 n1 c1, .slice A2 n2 c2, .int .i64 z3, .int .i64 z4, .int .i64 z5, .slice A6 n6 c6, .slice A7 n7 c7] 27) = w1 at *
  have hcv : (convert 31 31 (.slice (some ⟨w1.heap.size, 0, none⟩) 4 4)).run Try.prog (w1.alloc (.cells #[.int .u8 65, .int .u8 85, .int .u8 83, .int .u8 80] 5)) = .ok (.slice (some ⟨w1.heap.size, 0, none⟩) 4 4) (w1.alloc (.cells #[.int .u8 65, .int .u8 85, .int .u8 83, .int .u8 80] 5 (4, 5))) := Lib.run_convert_bytes_const (P := Try.prog) w1 31 5 #[.int .u8 65, .int .u8 85, .int .u8 83, .int .u8 80] 4 4 Try.underlying31 Try.underlying5
  rw [hs1] at hcv
  obtain ⟨⟨y0, l1, l2, y3, y4, y5⟩, l6, l7⟩ := x
  obtain ⟨t0, ⟨B1, d1, t1, q1, g1⟩, ⟨B2, d2, t2, q2, g2⟩, t3, t4, t5, ⟨B6, d6, t6, q6, g6⟩, ⟨B7, d7, t7, q7, g7⟩⟩ := hx.out
  clear hx
  rw [Nat.zero_add] at t1 t2 t3 t4 t5 t6 t7
  simp only at t0 t1 t2 t3 t4 t5 t6 t7 q1 q2 q6 q7 g1 g2 g6 g7
  obtain ⟨rfl⟩ : z0 = y0 := by rw [hX0.cell] at t0; simpa using t0
  obtain ⟨rfl⟩ : z3 = y3 := by rw [hX0.cell] at t3; simpa using t3
  obtain ⟨rfl⟩ : z4 = y4 := by rw [hX0.cell] at t4; simpa using t4
  obtain ⟨rfl⟩ : z5 = y5 := by rw [hX0.cell] at t5; simpa using t5
  rw [hX0.cell] at t1 t2 t6 t7
  simp only [List.getElem?_toArray, List.getElem?_cons_zero, List.getElem?_cons_succ, Option.some.injEq, Value.slice.injEq] at t1 t2 t6 t7
  obtain ⟨rfl, rfl, rfl⟩ := t1
  obtain ⟨rfl, rfl, rfl⟩ := t2
  obtain ⟨rfl, rfl, rfl⟩ := t6
  obtain ⟨rfl, rfl, rfl⟩ := t7
  have hsp := iTable_split z0 l1 l2 z3 z4 z5 l6 l7
  have hpostE : encP ((z0, l1, l2, z3, z4, z5), l6, l7) = encP ((z0, l1, l2, z3, z4, z5), l6, l7) := rfl
  clear hpostE
  rw [hsp] at hw hlen
  have hw8 : ∀ i ∈ l7.flatMap iCode, wfI i := fun i hi => hw i (List.mem_append.2 (.inr hi))
  have hv7 := fun i hi => hw i (List.mem_append.2 (.inl hi))
  have hw7 : ∀ i ∈ [Itm.c l7.length], wfI i := fun i hi => hv7 i (List.mem_append.2 (.inr hi))
  have hv6 := fun i hi => hv7 i (List.mem_append.2 (.inl hi))
  have hw6 : ∀ i ∈ itL iRow l6, wfI i := fun i hi => hv6 i (List.mem_append.2 (.inr hi))
  have hv5 := fun i hi => hv6 i (List.mem_append.2 (.inl hi))
  have hw5 : ∀ i ∈ nI [z3, z4, z5], wfI i := fun i hi => hv5 i (List.mem_append.2 (.inr hi))
  have hv4 := fun i hi => hv5 i (List.mem_append.2 (.inl hi))
  have hw4 : ∀ i ∈ l2.flatMap iInts, wfI i := fun i hi => hv4 i (List.mem_append.2 (.inr hi))
  have hv3 := fun i hi => hv4 i (List.mem_append.2 (.inl hi))
  have hv2 := fun i hi => hv3 i (List.mem_append.2 (.inl hi))
  have hw2 : ∀ i ∈ nI l1, wfI i := fun i hi => hv2 i (List.mem_append.2 (.inr hi))
  have hv1 := fun i hi => hv2 i (List.mem_append.2 (.inl hi))
  have hw0 : ∀ i ∈ nI [z0], wfI i := fun i hi => hv1 i (List.mem_append.2 (.inl hi))
  have n8 := hlen.suf
  have e7 := hlen.pre
  have n7 := e7.suf
  have e6 := e7.pre
  have n6 := e6.suf
  have e5 := e6.pre
  have n5 := e5.suf
  have e4 := e5.pre
  have n4 := e4.suf
  have e3 := e4.pre
  have n3 := e3.suf
  have e2 := e3.pre
  have n2 := e2.suf
  have e1 := e2.pre
  have n1 := e1.suf
  have n0 := e1.pre
  clear e1 e2 e3 e4 e5 e6 e7 hv1 hv2 hv3 hv4 hv5 hv6 hv7 hw7
  have hGg : w.heap.size ≠ (w.heap.size + 1 + 1) := by omega
  have hmL := m1 w1 (.cells #[.int .u8 65, .int .u8 85, .int .u8 83, .int .u8 80] 5 (4, 5))
  have hLit := lit_bys w1
  rw [hs1] at hLit
  have hsL : (w1.alloc (.cells #[.int .u8 65, .int .u8 85, .int .u8 83, .int .u8 80] 5 (4, 5))).heap.size = w.heap.size + 1 + 1 := by simp [hs1]
  go_upto_region 2 with (fail)
  clear hcv
  generalize w1.alloc (.cells #[.int .u8 65, .int .u8 85, .int .u8 83, .int .u8 80] 5 (4, 5)) = wL at *
  have hXL := hX0.kept hmL
  have hmO := m1 wL (.cells #[.slice (some ⟨w.heap.size + 1, 0, none⟩) 4 4, .bool true] 65)
  have hOb := Blk.made wL 65 #[.slice (some ⟨w.heap.size + 1, 0, none⟩) 4 4, .bool true]
  rw [hsL] at hOb
  have hsO : (wL.alloc (.cells #[.slice (some ⟨w.heap.size + 1, 0, none⟩) 4 4, .bool true] 65)).heap.size = w.heap.size + 1 + 1 + 1 := by simp [hsL]
  obtain ⟨ad, hade, hadb, hadc⟩ := hLit.2 (by decide)
  injection hade with hade
  subst hade
  have hO0 : OutAt w1 (wL.alloc (.cells #[.slice (some ⟨w.heap.size + 1, 0, none⟩) 4 4, .bool true] 65)) (w.heap.size + 1 + 1) (w.heap.size + 1) w.heap.size #[.int .i64 z0, .slice A1 l1.length c1, .slice A2 l2.length c2, .int .i64 z3, .int .i64 z4, .int .i64 z5, .slice A6 l6.length c6, .slice A7 l7.length c7] ausp ([]) := ⟨OFr.of_below (mmore hmL hmO) (by omega), hXL.kept hmO, ⟨some ⟨w.heap.size + 1, 0, none⟩, 4, hOb, .inr ⟨_, rfl, by decide, fun j u hu => mlater hmO (hadc j u (by simpa [encL] using hu)), by decide⟩, by omega⟩⟩
  generalize wL.alloc (.cells #[.slice (some ⟨w.heap.size + 1, 0, none⟩) 4 4, .bool true] 65) = wO at *
  clear hmL hLit hXL hmO hOb hadb hadc hX0
  have x0 : wO.cell? ⟨w.heap.size, 0, none⟩ = some (.int .i64 z0) := hO0.blk.cell 0
  have hz : NumsAt (w.heap.size + 1) (w.heap.size + 1 + 1) (wO.alloc (.cells #[.int .i64 z0] 3)) (some ⟨w.heap.size + 1 + 1 + 1, 0, none⟩) [z0] := by
    rw [← hsO]
    exact hO0.lit [z0]
  have hO := hO0.later (m1 wO (.cells #[.int .i64 z0] 3))
  clear hO0
  go_wp2_with fail
  refine (onums_n (w.heap.size + 1 + 1) (w.heap.size + 1) _ _ _ [z0] 1 1 rfl _ hO.out hz hw0 (by simpa [encL] using n0)).mono ?_
  rintro e v hr
  obtain ⟨rfl, hO1⟩ := hO.call hGg hr
  replace hO1 : OutAt w1 v (w.heap.size + 1 + 1) (w.heap.size + 1) w.heap.size #[.int .i64 z0, .slice A1 l1.length c1, .slice A2 l2.length c2, .int .i64 z3, .int .i64 z4, .int .i64 z5, .slice A6 l6.length c6, .slice A7 l7.length c7] ausp (nI [z0]) := hO1
  clear hO hr hz x0
  have x1 : v.cell? ⟨w.heap.size, 1, none⟩ = some (.slice A1 l1.length c1) := hO1.blk.cell 1
  go_wp2_with fail
  refine (ocount_any (w.heap.size + 1 + 1) (w.heap.size + 1) _ _ l1.length v hO1.out g1 n1).mono ?_
  rintro e v2 hr
  obtain ⟨rfl, hO2⟩ := hO1.call hGg hr
  clear hO1 hr x1
  have x1 : v2.cell? ⟨w.heap.size, 1, none⟩ = some (.slice A1 l1.length c1) := hO2.blk.cell 1
  have hzk : NumsAt (w.heap.size + 1) (w.heap.size + 1 + 1) v2 A1 l1 := NumsAt.list (q1.belowB fun b o x hb hp => pInt.belowB hO2.fr.below hb hp)
  go_wp2_with fail
  refine (onums_n (w.heap.size + 1 + 1) (w.heap.size + 1) _ _ A1 l1 l1.length c1 rfl v2 hO2.out hzk hw2 n2).mono ?_
  rintro e v3 hr
  obtain ⟨rfl, hO3⟩ := hO2.call hGg hr
  clear hO2 hr x1 hzk
  have x2 : v3.cell? ⟨w.heap.size, 2, none⟩ = some (.slice A2 l2.length c2) := hO3.blk.cell 2
  go_wp2_with fail
  refine (ocount_any (w.heap.size + 1 + 1) (w.heap.size + 1) _ _ l2.length v3 hO3.out g2 n3).mono ?_
  rintro e v4 hr
  obtain ⟨rfl, hO4⟩ := hO3.call hGg hr
  clear hO3 hr x2
  have x2 : v4.cell? ⟨w.heap.size, 2, none⟩ = some (.slice A2 l2.length c2) := hO4.blk.cell 2
  have hO4' := hO4
  go_wp2_with fail
  clear hO4'
  go_loopw [35] (fun i wr => ∃ k : Nat, k ≤ l2.length ∧ i = .int .i64 (k : Int) ∧ OutAt w1 wr (w.heap.size + 1 + 1) (w.heap.size + 1) w.heap.size #[.int .i64 z0, .slice A1 l1.length c1, .slice A2 l2.length c2, .int .i64 z3, .int .i64 z4, .int .i64 z5, .slice A6 l6.length c6, .slice A7 l7.length c7] ausp (((((nI [z0]) ++ [Itm.c l1.length]) ++ nI l1) ++ [Itm.c l2.length]) ++ (l2.take k).flatMap iInts)) (fun i _ => l2.length - (intOf i).toNat)
  case atStart => exact ⟨0, Nat.zero_le _, rfl, by simpa using hO4⟩
  case round =>
    clear hO4 x2
    obtain ⟨k, hk, rfl, hOk⟩ := hrel
    have k0 : (0 : Int) ≤ (k : Int) := by omega
    by_cases hlt : k < l2.length
    · have k1 : (k : Int) < (l2.length : Int) := by omega
      obtain ⟨b, off, rfl, hbl, hall⟩ := q2 (by omega)
      obtain ⟨hsp2, htk⟩ := flat_split iInts hlt
      have hwk : ∀ i ∈ iInts l2[k], wfI i := fun i hi => hw4 i (by rw [hsp2]; simp only [List.mem_append]; exact .inr (.inl hi))
      have hlk : LenOk (ausp ++ encL (((((nI [z0]) ++ [Itm.c l1.length]) ++ nI l1) ++ [Itm.c l2.length]) ++ (l2.take k).flatMap iInts)) (iInts l2[k]) := by
        have h9 := n4
        rw [hsp2] at h9
        have h10 := h9.part
        rwa [List.append_assoc, ← encL_append] at h10
      obtain ⟨E, ec, e1, e2, e3⟩ := pInts.belowB hOk.fr.below hbl (hall k _ (List.getElem?_eq_getElem hlt))
      rw [Nat.mul_one] at e1
      have hnext : ∀ u cs, OutAt w1 u (w.heap.size + 1 + 1) (w.heap.size + 1) w.heap.size cs ausp ((((((nI [z0]) ++ [Itm.c l1.length]) ++ nI l1) ++ [Itm.c l2.length]) ++ (l2.take k).flatMap iInts) ++ iInts l2[k]) → OutAt w1 u (w.heap.size + 1 + 1) (w.heap.size + 1) w.heap.size cs ausp (((((nI [z0]) ++ [Itm.c l1.length]) ++ nI l1) ++ [Itm.c l2.length]) ++ (l2.take (k + 1)).flatMap iInts) := fun u cs hu => by rw [htk, ← List.append_assoc]; exact hu
      replace hnext := Lib.hid hnext
      clear hsp2 htk hall
      generalize l2[k] = y at *
      generalize ((((nI [z0]) ++ [Itm.c l1.length]) ++ nI l1) ++ [Itm.c l2.length]) ++ (l2.take k).flatMap iInts = PK at *
      have hyI : iInts y = [Itm.c y.length] ++ nI y := by unfold iInts itL; rw [nI_eq]; rfl
      rw [hyI] at hwk hlk hnext
      go_wp2_with fail
      refine (ocount_any (w.heap.size + 1 + 1) (w.heap.size + 1) _ _ y.length wr hOk.out e3 hlk.pre).mono ?_
      rintro e v5 hr
      obtain ⟨rfl, hO5⟩ := hOk.call hGg hr
      have hzy : NumsAt (w.heap.size + 1) (w.heap.size + 1 + 1) v5 E y := NumsAt.list (e2.belowB fun b o x hb hp => pInt.belowB hr.2.1.below hb hp)
      clear hr hOk e1 e2
      go_wp2_with fail
      refine (onums_n (w.heap.size + 1 + 1) (w.heap.size + 1) _ _ E y y.length ec rfl v5 hO5.out hzy (fun i hi => hwk i (List.mem_append.2 (.inr hi))) (by
        have := hlk.suf
        rwa [List.append_assoc, ← encL_append] at this)).mono ?_
      rintro e v6 hr
      obtain ⟨rfl, hO6⟩ := hO5.call hGg hr
      have hO7 := Lib.hid (hnext.out _ _ (by rw [← List.append_assoc]; exact hO6))
      clear hr hO5 hO6 hzy
      go_wp2
      go_roundw
      case rel => exact ⟨k + 1, by omega, by go_num, hO7.out⟩
      case measure => simp [intOf]; omega
    · obtain rfl : k = l2.length := by omega
      rw [List.take_length] at hOk
      clear q2 hw4 n4
      have x3 : wr.cell? ⟨w.heap.size, 3, none⟩ = some (.int .i64 z3) := hOk.blk.cell 3
      have x4 : wr.cell? ⟨w.heap.size, 4, none⟩ = some (.int .i64 z4) := hOk.blk.cell 4
      have x5 : wr.cell? ⟨w.heap.size, 5, none⟩ = some (.int .i64 z5) := hOk.blk.cell 5
      have hz : NumsAt (w.heap.size + 1) (w.heap.size + 1 + 1) (wr.alloc (.cells #[.int .i64 z3, .int .i64 z4, .int .i64 z5] 3)) (some ⟨wr.heap.size, 0, none⟩) [z3, z4, z5] := hOk.lit [z3, z4, z5]
      have hO8 := hOk.later (m1 wr (.cells #[.int .i64 z3, .int .i64 z4, .int .i64 z5] 3))
      clear hOk
      go_wp2_with fail
      refine (onums_n (w.heap.size + 1 + 1) (w.heap.size + 1) _ _ _ [z3, z4, z5] 3 3 rfl _ hO8.out hz hw5 n5).mono ?_
      rintro e v9 hr
      obtain ⟨rfl, hO9⟩ := hO8.call hGg hr
      clear hO8 hr hz x3 x4 x5
      have x6 : v9.cell? ⟨w.heap.size, 6, none⟩ = some (.slice A6 l6.length c6) := hO9.blk.cell 6
      have hq6 : ListAt (pRow (w.heap.size + 1)) 8 (w.heap.size + 1) v9 A6 l6 := q6.belowB fun b o x hb hp => pRow.belowB hO9.fr.below hb hp
      go_wp2_with fail
      refine (orows_any (w.heap.size + 1 + 1) (w.heap.size + 1) _ _ A6 l6 l6.length c6 rfl v9 hO9.out hq6 hw6 n6).mono ?_
      rintro e v10 hr
      obtain ⟨rfl, hO10⟩ := hO9.call hGg hr
      clear hO9 hr x6 hq6
      have x7 : v10.cell? ⟨w.heap.size, 7, none⟩ = some (.slice A7 l7.length c7) := hO10.blk.cell 7
      go_wp2_with fail
      refine (ocount_any (w.heap.size + 1 + 1) (w.heap.size + 1) _ _ l7.length v10 hO10.out g7 n7).mono ?_
      rintro e v11 hr
      obtain ⟨rfl, hO11⟩ := hO10.call hGg hr
      clear hO10 hr x7
      have x7 : v11.cell? ⟨w.heap.size, 7, none⟩ = some (.slice A7 l7.length c7) := hO11.blk.cell 7
      have hO11' := hO11
      go_wp2_with fail
      clear hO11'
      go_loopw [68] (fun i wr => ∃ k : Nat, k ≤ l7.length ∧ i = .int .i64 (k : Int) ∧ OutAt w1 wr (w.heap.size + 1 + 1) (w.heap.size + 1) w.heap.size #[.int .i64 z0, .slice A1 l1.length c1, .slice A2 l2.length c2, .int .i64 z3, .int .i64 z4, .int .i64 z5, .slice A6 l6.length c6, .slice A7 l7.length c7] ausp (((((((((nI [z0]) ++ [Itm.c l1.length]) ++ nI l1) ++ [Itm.c l2.length]) ++ l2.flatMap iInts) ++ nI [z3, z4, z5]) ++ itL iRow l6) ++ [Itm.c l7.length]) ++ (l7.take k).flatMap iCode)) (fun i _ => l7.length - (intOf i).toNat)
      case atStart => exact ⟨0, Nat.zero_le _, rfl, by simpa using hO11⟩
      case round =>
        clear hO11 x7
        obtain ⟨k, hk7, rfl, hOk⟩ := hrel
        have k0 : (0 : Int) ≤ (k : Int) := by omega
        by_cases hlt : k < l7.length
        · have k1 : (k : Int) < (l7.length : Int) := by omega
          obtain ⟨b, off, rfl, hbl, hall⟩ := q7 (by omega)
          obtain ⟨hsp2, htk⟩ := flat_split iCode hlt
          have hwk : ∀ i ∈ iCode l7[k], wfI i := fun i hi => hw8 i (by rw [hsp2]; simp only [List.mem_append]; exact .inr (.inl hi))
          have hlk : LenOk (ausp ++ encL (((((((((nI [z0]) ++ [Itm.c l1.length]) ++ nI l1) ++ [Itm.c l2.length]) ++ l2.flatMap iInts) ++ nI [z3, z4, z5]) ++ itL iRow l6) ++ [Itm.c l7.length]) ++ (l7.take k).flatMap iCode)) (iCode l7[k]) := by
            have h9 := n8
            rw [hsp2] at h9
            have h10 := h9.part
            rwa [List.append_assoc, ← encL_append] at h10
          have hpc := pCode.belowB hOk.fr.below hbl (hall k _ (List.getElem?_eq_getElem hlt))
          have hnext : ∀ u cs, OutAt w1 u (w.heap.size + 1 + 1) (w.heap.size + 1) w.heap.size cs ausp ((((((((((nI [z0]) ++ [Itm.c l1.length]) ++ nI l1) ++ [Itm.c l2.length]) ++ l2.flatMap iInts) ++ nI [z3, z4, z5]) ++ itL iRow l6) ++ [Itm.c l7.length]) ++ (l7.take k).flatMap iCode) ++ iCode l7[k]) → OutAt w1 u (w.heap.size + 1 + 1) (w.heap.size + 1) w.heap.size cs ausp (((((((((nI [z0]) ++ [Itm.c l1.length]) ++ nI l1) ++ [Itm.c l2.length]) ++ l2.flatMap iInts) ++ nI [z3, z4, z5]) ++ itL iRow l6) ++ [Itm.c l7.length]) ++ (l7.take (k + 1)).flatMap iCode) := fun u cs hu => by rw [htk, ← List.append_assoc]; exact hu
          replace hnext := Lib.hid hnext
          clear hsp2 htk hall
          generalize l7[k] = y at *
          generalize ((((((((nI [z0]) ++ [Itm.c l1.length]) ++ nI l1) ++ [Itm.c l2.length]) ++ l2.flatMap iInts) ++ nI [z3, z4, z5]) ++ itL iRow l6) ++ [Itm.c l7.length]) ++ (l7.take k).flatMap iCode = PK at *
          obtain ⟨ya, yb, yi, yc, yl⟩ := y
          obtain ⟨p0, p1, ⟨E2, h2, p2, r2, _⟩, ⟨E3, h3, p3, r3, _⟩, ⟨E4, h4, p4, r4, _⟩⟩ := hpc
          simp only at p0 p1 p2 p3 p4 r2 r3 r4
          have hmC := m1 wr (.cells #[.int .i64 ya, .int .i64 yb, .slice E2 yi.length h2, .slice E3 yc.length h3, .slice E4 yl.length h4] 47)
          have hOc := hOk.later hmC
          have hfc : OFr (w.heap.size + 1) (w.heap.size + 1 + 1) wr _ := OFr.of_below hmC (by have := hOk.out.base; omega)
          have CC := Lib.hid (ocode_any (w.heap.size + 1 + 1) (w.heap.size + 1) _ _ ya yb E2 h2 yi E3 h3 yc E4 h4 yl _ hOc.out (r2.belowB fun b o x hb hp => pInput.belowB hfc.below hb hp) (r3.belowB fun b o x hb hp => pValue.belowB hfc.below hb hp) (r4.belowB fun b o x hb hp => pIns.belowB hfc.below hb hp) hwk hlk)
          clear hmC hfc hOk r2 r3 r4
          go_wp2_with fail
          refine CC.out.mono ?_
          rintro e v12 hr
          obtain ⟨rfl, hO12⟩ := hOc.call hGg hr
          have hO13 := Lib.hid (hnext.out _ _ hO12)
          clear hr hO12 hOc CC p0 p1 p2 p3 p4
          go_wp2
          go_roundw
          case rel => exact ⟨k + 1, by omega, by go_num, hO13.out⟩
          case measure => simp [intOf]; omega
        · obtain rfl : k = l7.length := by omega
          rw [List.take_length, ← hsp] at hOk
          obtain ⟨hfo, _, A9, c9, hB9, hW9, _⟩ := hOk
          have hbf := hbase.trans (hfo.below.mono (Nat.le_succ _))
          have hEQ := encP_eq ((z0, l1, l2, z3, z4, z5), l6, l7)
          have hbyt : Byt (ausp ++ encL (iTable ((z0, l1, l2, z3, z4, z5), l6, l7))) := fun z hz => by
            rcases List.mem_append.1 hz with h | h
            · simp [ausp] at h; omega
            · exact encL_byt _ z h
          have s0 : wr.cell? ⟨w.heap.size + 1 + 1, 0, none⟩ = some (.slice A9 (ausp ++ encL (iTable ((z0, l1, l2, z3, z4, z5), l6, l7))).length c9) := by rw [hB9.cell]; rfl
          have s1 : wr.cell? ⟨w.heap.size + 1 + 1, 1, none⟩ = some (.bool ((iTable ((z0, l1, l2, z3, z4, z5), l6, l7)).all okI)) := by rw [hB9.cell]; rfl
          have hys := hW9.bys
          have hlenB : (ausp ++ encL (iTable ((z0, l1, l2, z3, z4, z5), l6, l7))).length ≤ 1000000000000 := by rw [← hsp] at hlen; exact hlen
          have hno : ∀ k, encP ((z0, l1, l2, z3, z4, z5), l6, l7) = (k, none) → EncIs ((z0, l1, l2, z3, z4, z5), l6, l7) w (.returned (.tuple #[.slice none 0 0, .int .i64 k])) wr := fun k hk => EncIs.no hk hbf
          clear hB9 hW9 q1 q6 q7 n0 n1 n2 n3 n5 n6 n7 n8 hw hw0 hw2 hw5 hw6 hw8 hsp hlen
          generalize (ausp ++ encL (iTable ((z0, l1, l2, z3, z4, z5), l6, l7))) = bl at *
          generalize (iTable ((z0, l1, l2, z3, z4, z5), l6, l7)).all okI = okf at *
          replace hno := Lib.hid hno
          cases okf with
          | false =>
            rw [if_neg (by simp)] at hEQ
            have hfin := Lib.hid (hno.out 3 hEQ)
            clear hbf hfo
            go_wp2
            exact bodyPost_ret (v := .tuple #[.slice none 0 0, .int .i64 3]) (by simp [results, Try.results11, go_sem]) rfl hfin.out
          | true =>
            rw [if_pos rfl] at hEQ
            have jw : IntKind.i64.wrap ((bl.length : Int) + 4) = (bl.length : Int) + 4 := by rw [IntKind.wrap_i64]; omega
            by_cases hb4 : 65536 < bl.length + 4
            · rw [if_pos hb4] at hEQ
              have hb5 : (65536 : Int) < (bl.length : Int) + 4 := by omega
              have hfin := Lib.hid (hno.out 2 hEQ)
              clear hbf hfo hys hbyt
              generalize bl.length = nl at *
              go_wp2
              exact bodyPost_ret (v := .tuple #[.slice none 0 0, .int .i64 2]) (by simp [results, Try.results11, go_sem]) rfl hfin.out
            · rw [if_neg hb4] at hEQ
              have hb5 : ¬ (65536 : Int) < (bl.length : Int) + 4 := by omega
              have CS := Lib.hid (summed_any A9 bl c9 hbyt wr hys (by omega))
              have hyes : ∀ u A3 c3, Below wr.heap.size wr u → u.ownsRow wr.heap.size 5 1 (.slice A3 (bl ++ le4 (sumL bl)).length c3) (bl ++ le4 (sumL bl)).length (bcells (bl ++ le4 (sumL bl))) → EncIs ((z0, l1, l2, z3, z4, z5), l6, l7) w (.returned (.tuple #[.slice A3 (bl ++ le4 (sumL bl)).length c3, .int .i64 0])) u := fun u A3 c3 hbu ho => EncIs.yes hEQ hbase hfo.below (hbu.mono (by have := hfo.below.size; omega)) (own_lower ho (by have := hfo.below.size; omega))
              replace hyes := Lib.hid hyes
              clear hbf hfo hys hbyt
              generalize hzz : bl ++ le4 (sumL bl) = zz at *
              generalize bl.length = nl at *
              go_wp2_with fail
              refine CS.out.mono ?_
              rintro e u ⟨A3, c3, rfl, hO3, hb3⟩
              have hfin := Lib.hid (hyes.out u A3 c3 hb3 hO3)
              clear hO3 hb3 CS hyes
              go_wp2
              exact bodyPost_ret (v := .tuple #[.slice A3 zz.length c3, .int .i64 0]) (by simp [results, Try.results11, go_sem]) rfl hfin.out
end Go.Proofs.Ytlfhgmoafgjdcaa
