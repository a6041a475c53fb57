/- Of two tables that are alike, wherever they lie, the document's Same says yes: the walk. -/
import Derived.Test.YtlfhgmoafgjdcaaScC
namespace Go.Proofs.Ytlfhgmoafgjdcaa
open Go.ChangeShapes Go.WideShapes Go.ChangeAt Go.RowKit
set_option linter.unusedVariables false
set_option linter.unusedSimpArgs false
set_option maxHeartbeats 16000000 in
set_option maxRecDepth 100000 in
theorem rsame_yes (x : TTable) (hT : TabOk x) (z0 : Int) (A1 : Option Addr) (n1 c1 : Nat) (A2 : Option Addr) (n2 c2 : Nat) (z3 z4 z5 : Int) (A6 : Option Addr) (n6 c6 : Nat) (A7 : Option Addr) (n7 c7 : Nat)
    (y0 : Int) (B1 : Option Addr) (m1_ d1 : Nat) (B2 : Option Addr) (m2_ d2 : Nat) (y3 y4 y5 : Int) (B6 : Option Addr) (m6 d6 : Nat) (B7 : Option Addr) (m7 d7 : Nat) (w : World)
    (ha : ∀ u, Below w.heap.size w u → pTable (u.heap.size + 1) (u.alloc (.cells #[.int .i64 z0, .slice A1 n1 c1, .slice A2 n2 c2, .int .i64 z3, .int .i64 z4, .int .i64 z5, .slice A6 n6 c6, .slice A7 n7 c7] 27)) u.heap.size 0 x)
    (hb : ∀ u, Below w.heap.size w u → pTable (u.heap.size + 1) (u.alloc (.cells #[.int .i64 y0, .slice B1 m1_ d1, .slice B2 m2_ d2, .int .i64 y3, .int .i64 y4, .int .i64 y5, .slice B6 m6 d6, .slice B7 m7 d7] 27)) u.heap.size 0 x) :
    Calls Try.prog 12 #[.agg #[.int .i64 z0, .slice A1 n1 c1, .slice A2 n2 c2, .int .i64 z3, .int .i64 z4, .int .i64 z5, .slice A6 n6 c6, .slice A7 n7 c7], .agg #[.int .i64 y0, .slice B1 m1_ d1, .slice B2 m2_ d2, .int .i64 y3, .int .i64 y4, .int .i64 y5, .slice B6 m6 d6, .slice B7 m7 d7]] w fun e w' => e = .returned (.bool true) ∧ Below w.heap.size w w' := by
  have PA := Lib.hid (fun u hu => plain_any x z0 A1 n1 c1 A2 n2 c2 z3 z4 z5 A6 n6 c6 A7 n7 c7 u (ha u hu) hT.plain.1 hT.plain.2)
  have PB := Lib.hid (fun u hu => plain_any x y0 B1 m1_ d1 B2 m2_ d2 y3 y4 y5 B6 m6 d6 B7 m7 d7 u (hb u hu) hT.plain.1 hT.plain.2)
  have hA := Blk.made w 27 #[.int .i64 z0, .slice A1 n1 c1, .slice A2 n2 c2, .int .i64 z3, .int .i64 z4, .int .i64 z5, .slice A6 n6 c6, .slice A7 n7 c7]
  have hmA := m1 w (.cells #[.int .i64 z0, .slice A1 n1 c1, .slice A2 n2 c2, .int .i64 z3, .int .i64 z4, .int .i64 z5, .slice A6 n6 c6, .slice A7 n7 c7] 27)
  have pA := ha w (Below.refl _ _)
  have pB := hb _ hmA
  have hs1 : (w.alloc (.cells #[.int .i64 z0, .slice A1 n1 c1, .slice A2 n2 c2, .int .i64 z3, .int .i64 z4, .int .i64 z5, .slice A6 n6 c6, .slice A7 n7 c7] 27)).heap.size = w.heap.size + 1 := by simp
  clear ha hb
  go_enter Try.func12, Try.ntmps12
  go_upto_region 1 with (fail)
  generalize w.alloc (.cells #[.int .i64 z0, .slice A1 n1 c1, .slice A2 n2 c2, .int .i64 z3, .int .i64 z4, .int .i64 z5, .slice A6 n6 c6, .slice A7 n7 c7] 27) = w1 at *
  have hB := Blk.made w1 27 #[.int .i64 y0, .slice B1 m1_ d1, .slice B2 m2_ d2, .int .i64 y3, .int .i64 y4, .int .i64 y5, .slice B6 m6 d6, .slice B7 m7 d7]
  have hmB := m1 w1 (.cells #[.int .i64 y0, .slice B1 m1_ d1, .slice B2 m2_ d2, .int .i64 y3, .int .i64 y4, .int .i64 y5, .slice B6 m6 d6, .slice B7 m7 d7] 27)
  have hs2 : (w1.alloc (.cells #[.int .i64 y0, .slice B1 m1_ d1, .slice B2 m2_ d2, .int .i64 y3, .int .i64 y4, .int .i64 y5, .slice B6 m6 d6, .slice B7 m7 d7] 27)).heap.size = w.heap.size + 1 + 1 := by simp [hs1]
  generalize w1.alloc (.cells #[.int .i64 y0, .slice B1 m1_ d1, .slice B2 m2_ d2, .int .i64 y3, .int .i64 y4, .int .i64 y5, .slice B6 m6 d6, .slice B7 m7 d7] 27) = w2 at *
  rw [hs1] at pB hB hmB
  replace hA : Blk w2 w.heap.size 27 _ := (hmB.block w.heap.size (by omega)).trans hA
  have pA2 := pTable.belowB hmB (by omega) pA
  have hW : Below w.heap.size w w2 := hmA.trans (hmB.mono (Nat.le_succ _))
  obtain ⟨_, _, _, _, _, _, _, ⟨C7, e7, ta7, qa7, _⟩⟩ := pA2
  obtain ⟨_, _, _, _, _, _, _, ⟨D7, f7, tb7, qb7, _⟩⟩ := pB
  rw [Nat.zero_add] at ta7 tb7
  have hokc : ∀ y ∈ x.2.2, (∀ n, Itm.c n ∈ iCode y → n ≤ 1048576) ∧ (∀ i ∈ iCode y, wfI i) := fun y hy => by
    have hm : ∀ i ∈ iCode y, i ∈ iTable x := fun i hi => by
      simp only [iTable, List.mem_append]
      refine .inr (.inr (.inr (.inr (.inr (.inr (.inr (.inl ?_)))))))
      unfold itL
      exact List.mem_cons_of_mem _ (List.mem_flatMap.2 ⟨y, hy, hi⟩)
    exact ⟨fun n hn => hT.ok n (hm _ hn), fun i hi => hT.wf i (hm i hi)⟩
  clear hT pA
  generalize x.2.2 = L at *
  have hb2 : Below w2.heap.size w2 w2 := Below.refl _ _
  have hLm : L.length ≤ 9223372036854775807 := by assumption
  have a0 : w2.cell? ⟨w.heap.size, 0, none⟩ = some (.int .i64 z0) := hA.cell 0
  have a1 : w2.cell? ⟨w.heap.size, 1, none⟩ = some (.slice A1 n1 c1) := hA.cell 1
  have a2 : w2.cell? ⟨w.heap.size, 2, none⟩ = some (.slice A2 n2 c2) := hA.cell 2
  have a3 : w2.cell? ⟨w.heap.size, 3, none⟩ = some (.int .i64 z3) := hA.cell 3
  have a4 : w2.cell? ⟨w.heap.size, 4, none⟩ = some (.int .i64 z4) := hA.cell 4
  have a5 : w2.cell? ⟨w.heap.size, 5, none⟩ = some (.int .i64 z5) := hA.cell 5
  have a6 : w2.cell? ⟨w.heap.size, 6, none⟩ = some (.slice A6 n6 c6) := hA.cell 6
  have a7 : w2.cell? ⟨w.heap.size, 7, none⟩ = some (.slice A7 n7 c7) := hA.cell 7
  have b0 : w2.cell? ⟨w.heap.size + 1, 0, none⟩ = some (.int .i64 y0) := hB.cell 0
  have b1 : w2.cell? ⟨w.heap.size + 1, 1, none⟩ = some (.slice B1 m1_ d1) := hB.cell 1
  have b2 : w2.cell? ⟨w.heap.size + 1, 2, none⟩ = some (.slice B2 m2_ d2) := hB.cell 2
  have b3 : w2.cell? ⟨w.heap.size + 1, 3, none⟩ = some (.int .i64 y3) := hB.cell 3
  have b4 : w2.cell? ⟨w.heap.size + 1, 4, none⟩ = some (.int .i64 y4) := hB.cell 4
  have b5 : w2.cell? ⟨w.heap.size + 1, 5, none⟩ = some (.int .i64 y5) := hB.cell 5
  have b6 : w2.cell? ⟨w.heap.size + 1, 6, none⟩ = some (.slice B6 m6 d6) := hB.cell 6
  have b7 : w2.cell? ⟨w.heap.size + 1, 7, none⟩ = some (.slice B7 m7 d7) := hB.cell 7
  obtain ⟨rfl, rfl, rfl⟩ : A7 = C7 ∧ n7 = L.length ∧ c7 = e7 := by rw [a7] at ta7; injection ta7 with h; injection h with h1 h2 h3; exact ⟨h1, h2, h3⟩
  obtain ⟨rfl, rfl, rfl⟩ : B7 = D7 ∧ m7 = L.length ∧ d7 = f7 := by rw [b7] at tb7; injection tb7 with h; injection h with h1 h2 h3; exact ⟨h1, h2, h3⟩
  clear ta7 tb7 hA hB
  have hall := Lib.hid (⟨a0, a1, a2, a3, a4, a5, a6, b0, b1, b2, b3, b4, b5, b6⟩ : w2.cell? ⟨w.heap.size, 0, none⟩ = some (.int .i64 z0) ∧ w2.cell? ⟨w.heap.size, 1, none⟩ = some (.slice A1 n1 c1) ∧ w2.cell? ⟨w.heap.size, 2, none⟩ = some (.slice A2 n2 c2) ∧ w2.cell? ⟨w.heap.size, 3, none⟩ = some (.int .i64 z3) ∧ w2.cell? ⟨w.heap.size, 4, none⟩ = some (.int .i64 z4) ∧ w2.cell? ⟨w.heap.size, 5, none⟩ = some (.int .i64 z5) ∧ w2.cell? ⟨w.heap.size, 6, none⟩ = some (.slice A6 n6 c6) ∧ w2.cell? ⟨w.heap.size + 1, 0, none⟩ = some (.int .i64 y0) ∧ w2.cell? ⟨w.heap.size + 1, 1, none⟩ = some (.slice B1 m1_ d1) ∧ w2.cell? ⟨w.heap.size + 1, 2, none⟩ = some (.slice B2 m2_ d2) ∧ w2.cell? ⟨w.heap.size + 1, 3, none⟩ = some (.int .i64 y3) ∧ w2.cell? ⟨w.heap.size + 1, 4, none⟩ = some (.int .i64 y4) ∧ w2.cell? ⟨w.heap.size + 1, 5, none⟩ = some (.int .i64 y5) ∧ w2.cell? ⟨w.heap.size + 1, 6, none⟩ = some (.slice B6 m6 d6))
  clear a0 a1 a2 a3 a4 a5 a6 b0 b1 b2 b3 b4 b5 b6
  go_wp2_with fail
  go_loopw [16] (fun i wr => ∃ k : Nat, k ≤ L.length ∧ i = .int .i64 (k : Int) ∧ Below w2.heap.size w2 wr) (fun i _ => L.length - (intOf i).toNat)
  case atStart => exact ⟨0, Nat.zero_le _, rfl, hb2⟩
  case round =>
    clear hb2
    obtain ⟨k, hk, rfl, hbk⟩ := hrel
    have k0 : (0 : Int) ≤ (k : Int) := by omega
    by_cases hlt : k < L.length
    · have k1 : (k : Int) < (L.length : Int) := by omega
      have hLk := List.getElem?_eq_getElem hlt
      obtain ⟨kok, kwf⟩ := hokc _ (List.getElem_mem hlt)
      obtain ⟨b, off, rfl, hbl, hxa⟩ := qa7 (by omega)
      obtain ⟨b', off', rfl, hbl', hxb⟩ := qb7 (by omega)
      obtain ⟨va, hva, p0, p1, p2, p3, p4⟩ := code_in (hxa k _ hLk) kok kwf
      obtain ⟨vb, hvb, r0, r1, r2, r3, r4⟩ := code_in (hxb k _ hLk) kok kwf
      generalize L[k] = y at *
      go_upto_region 6 with (fail)
      go_cut [30] from 19 to 30 (fun p w' => p = .bool false ∧ Below w2.heap.size w2 w')
      case first =>
        have hd := hbk.drew
        replace a7 := cell_later hd a7
        replace b7 := cell_later hd b7
        replace p0 := cell_later hd p0
        replace p1 := cell_later hd p1
        replace p2 := cell_later hd p2
        replace p3 := cell_later hd p3
        replace p4 := cell_later hd p4
        replace r0 := cell_later hd r0
        replace r1 := cell_later hd r1
        replace r2 := cell_later hd r2
        replace r3 := cell_later hd r3
        replace r4 := cell_later hd r4
        have CS := Lib.hid (csame_any (codeP y) va vb wr.drew (hva.later hd) (hvb.later hd))
        unfold codeV at CS
        replace hd := Lib.hid hd
        generalize codeP y = cp at *
        clear hxa hxb hva hvb kok kwf hokc hLk
        go_region_law ((try go_simp); go_at_call 29; refine CS.out.mono ?_; rintro e u ⟨rfl, hbu⟩; have hfin := Lib.hid (mmore hd.out hbu); clear hbu)
        all_goals
          (try go_wp2)
          go_meet
          exact ⟨rfl, hfin.out⟩
      case rest =>
      obtain ⟨rfl, hbn⟩ := hcut
      clear hxa hxb hva hvb kok kwf hbk p0 p1 p2 p3 p4 r0 r1 r2 r3 r4
      replace hbn := Lib.hid hbn
      go_wp2
      go_roundw
      case rel => exact ⟨k + 1, by omega, by go_num, hbn.out⟩
      case measure => simp [intOf]; omega
    · obtain rfl : k = L.length := by omega
      clear qa7 qb7 hokc
      obtain ⟨a0, a1, a2, a3, a4, a5, a6, b0, b1, b2, b3, b4, b5, b6⟩ := hall.out
      go_upto_region 9 with (fail)
      go_cut [4] from 32 to 38 (fun p w' => p = .bool true ∧ Below w.heap.size w w')
      case first =>
        have hd := hbk.drew
        have hwd : Below w.heap.size w wr.drew := mmore hW hd
        replace a0 := cell_later hd a0
        replace a1 := cell_later hd a1
        replace a2 := cell_later hd a2
        replace a3 := cell_later hd a3
        replace a4 := cell_later hd a4
        replace a5 := cell_later hd a5
        replace a6 := cell_later hd a6
        replace a7 := cell_later hd a7
        replace b0 := cell_later hd b0
        replace b1 := cell_later hd b1
        replace b2 := cell_later hd b2
        replace b3 := cell_later hd b3
        replace b4 := cell_later hd b4
        replace b5 := cell_later hd b5
        replace b6 := cell_later hd b6
        replace b7 := cell_later hd b7
        replace hwd := Lib.hid hwd
        go_region_law (first
          | ((try go_simp); go_at_call_of 30 (Value.int IntKind.i64 z0); refine (PA.out _ hwd.out).mono ?_; rintro e u ⟨Ap, cp, rfl, hyp, hbp⟩; have hwp := Lib.hid (mmore hwd.out hbp); have b0' := cell_later hbp b0; have b1' := cell_later hbp b1; have b2' := cell_later hbp b2; have b3' := cell_later hbp b3; have b4' := cell_later hbp b4; have b5' := cell_later hbp b5; have b6' := cell_later hbp b6; have b7' := cell_later hbp b7; have cv1 := conv_str (n := (plainL x).length) (c := cp) rfl hyp; replace hyp := Lib.hid hyp; clear hbp)
          | ((try go_simp); go_at_call_of 30 (Value.int IntKind.i64 y0); refine (PB.out _ hwp.out).mono ?_; rintro e u2 ⟨Aq, cq, rfl, hyq, hbq⟩; have cv2 := conv_str (n := (plainL x).length) (c := cp) rfl (hyp.out.later hbq); have cv3 := conv_str (n := (plainL x).length) (c := cq) rfl hyq; have hfin := Lib.hid (mmore hwp.out hbq); clear hbq hyq))
        all_goals
          (try go_wp2)
          go_meet
          exact ⟨by simp, hfin.out⟩
      case rest =>
      obtain ⟨rfl, hbf⟩ := hcut
      replace hbf := Lib.hid hbf
      clear hW hbk hall
      go_wp2
      go_ret
      exact ⟨rfl, hbf.out⟩
end Go.Proofs.Ytlfhgmoafgjdcaa
