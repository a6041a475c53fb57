/- The reader of images over a table's things, as contracts (made by genImT.py). -/
import Derived.Test.YtlfhgmoafgjdcaaImU
namespace Go.Proofs.Ytlfhgmoafgjdcaa
open Go.ChangeShapes Go.WideShapes Go.ChangeAt Go.RowKit
set_option linter.unusedVariables false
set_option linter.unusedSimpArgs false

abbrev eRow : World → List Value → TRow → Prop := (eP (eP eInt (eP eInt (eP eBool (eP eInt (eL eStop 126 2))))) (eP eInt (eP eInt (eL eTail 55 3))))
def rdRow : Rd TRow := (rd2 Prod.mk (rd2 Prod.mk rdN (rd2 Prod.mk rdN (rd2 Prod.mk rdT (rd2 Prod.mk rdN (rdL rdStop))))) (rd2 Prod.mk rdN (rd2 Prod.mk rdN (rdL rdTail))))
theorem keep_Row : KeepE ([126, 55] : List TypeId) eRow := (keepE_P (keepE_P (KeepE.more keepE_int (by decide)) (keepE_P (KeepE.more keepE_int (by decide)) (keepE_P (KeepE.more keepE_bool (by decide)) (keepE_P (KeepE.more keepE_int (by decide)) (KeepE.more (keepE_L 126 2 keep_Stop) (by decide)))))) (keepE_P (KeepE.more keepE_int (by decide)) (keepE_P (KeepE.more keepE_int (by decide)) (KeepE.more (keepE_L 55 3 keep_Tail) (by decide)))))
set_option maxHeartbeats 16000000 in
set_option maxRecDepth 100000 in
theorem Row_r (lo rb g B G o : Nat) (t : TypeId) (cur : Array Value) (l0 : List Nat) (w : World) (h : RdS w lo rb g B l0) (hP : RdP w lo g G o t cur) (hs : o + 8 ≤ cur.size) (hz : ∀ (j : Nat) (u : Value), ([.int .i64 0, .int .i64 0, .bool false, .int .i64 0, .slice none 0 0, .int .i64 0, .int .i64 0, .slice none 0 0] : List Value)[j]? = some u → cur[o + j]? = some u) (ht : t ∉ ([126, 55] : List TypeId)) :
    Calls Try.prog 78 #[(.iface 73 (.pointer (some ⟨rb, 0, none⟩))), .pointer (some ⟨G, o, none⟩)] w (REnd lo rb g B G t cur o 8 eRow (rdRow l0) w) := by
  have hmf : ∀ (fn : Fn) (first cap : Array Value) (w : World), (Instr.makeFunc fn first cap).run Try.prog w = .ok (.func fn first cap) w := fun _ _ _ _ => rfl
  have nanumber := rna_number ⟨rb, 0, none⟩
  have menumber := rme_number ⟨rb, 0, none⟩
  have natruth := rna_truth ⟨rb, 0, none⟩
  have metruth := rme_truth ⟨rb, 0, none⟩
  have natime := rna_time ⟨rb, 0, none⟩
  have metime := rme_time ⟨rb, 0, none⟩
  obtain ⟨hG, hne, hlo, ho⟩ := hP
  have tR : 109 ∉ ([126, 55] : List TypeId) := by decide
  have hA := Lib.hid (SA.start (o := o) h hG)
  obtain ⟨R, hR⟩ : ∃ R, R = rdRow l0 := ⟨_, rfl⟩
  rw [← hR]
  replace hR := Lib.hid hR
  replace hz := Lib.hid hz
  clear h hG
  go_enter Try.func78, Try.ntmps78
  go_upto_region 0 with (fail)
  have C := number_r lo rb g B G (o) t (putC cur o []) l0 w.drew hA.out.rd.drew ⟨hA.out.blk, hne, hlo, (hA.out.room (k := 0) hs (by rfl) (by decide))⟩
  cases e0 : rdN l0 with
  | none =>
    rw [e0] at C
    obtain rfl : R = none := by rw [hR.out]; simp only [rdRow, rd2, e0, Option.bind_some, Option.bind_none, Option.map_some, Option.map_none]
    go_region_with (go_at_call 160; refine C.mono ?_; rintro e u he; obtain ⟨rfl, hf⟩ := hA.out.drew.stop he; refine paysI ⟨#[], []⟩ u ⟨rfl, hf, rfl⟩ ?_)
    trivial
  | some y =>
    obtain ⟨x0, l1⟩ := y
    rw [e0] at C
    have he0 := Lib.hid e0
    go_region_with (go_at_call 160; refine C.mono ?_; rintro e w0 he; obtain ⟨rfl, vs0, hv0, hE0, hA', hf⟩ := hA.out.drew.step (k := 0) (m := 1) hs (by rfl) (by decide) he)

    replace hE0 := Lib.hid hE0
    replace hv0 := Lib.hid hv0
    replace hA' := Lib.hid hA'
    clear hA C e0 hf
    have hA := hA'
    clear hA'
    go_upto_region 1 with (fail)
    have C := number_r lo rb g B G (o + 1) t (putC cur o ([] ++ vs0)) l1 w0.drew hA.out.rd.drew ⟨hA.out.blk, hne, hlo, (hA.out.room (k := 1) hs (by simp [hv0.out]) (by decide))⟩
    cases e1 : rdN l1 with
    | none =>
      rw [e1] at C
      obtain rfl : R = none := by rw [hR.out]; simp only [rdRow, rd2, he0.out, e1, Option.bind_some, Option.bind_none, Option.map_some, Option.map_none]
      go_region_with (go_at_call 160; refine C.mono ?_; rintro e u he; obtain ⟨rfl, hf⟩ := hA.out.drew.stop he; refine paysI ⟨#[], []⟩ u ⟨rfl, hf, rfl⟩ ?_)
      trivial
    | some y =>
      obtain ⟨x1, l2⟩ := y
      rw [e1] at C
      have he1 := Lib.hid e1
      go_region_with (go_at_call 160; refine C.mono ?_; rintro e w1 he; obtain ⟨rfl, vs1, hv1, hE1, hA', hf⟩ := hA.out.drew.step (k := 1) (m := 1) hs (by simp [hv0.out]) (by decide) he)
      have hE0 := Lib.hid (hA.out.keepE (KeepE.more keepE_int (by decide) : KeepE ([126, 55] : List TypeId) eInt) (RFr.undrew hf) tR ht hE0.out)
      replace hE1 := Lib.hid hE1
      replace hv1 := Lib.hid hv1
      replace hA' := Lib.hid hA'
      clear hA C e1 hf
      have hA := hA'
      clear hA'
      go_upto_region 2 with (fail)
      have C := truth_r lo rb g B G (o + 2) t (putC cur o (([] ++ vs0) ++ vs1)) l2 w1.drew hA.out.rd.drew ⟨hA.out.blk, hne, hlo, (hA.out.room (k := 2) hs (by simp [hv0.out, hv1.out]) (by decide))⟩
      cases e2 : rdT l2 with
      | none =>
        rw [e2] at C
        obtain rfl : R = none := by rw [hR.out]; simp only [rdRow, rd2, he0.out, he1.out, e2, Option.bind_some, Option.bind_none, Option.map_some, Option.map_none]
        go_region_with (go_at_call 162; refine C.mono ?_; rintro e u he; obtain ⟨rfl, hf⟩ := hA.out.drew.stop he; refine paysI ⟨#[], []⟩ u ⟨rfl, hf, rfl⟩ ?_)
        trivial
      | some y =>
        obtain ⟨x2, l3⟩ := y
        rw [e2] at C
        have he2 := Lib.hid e2
        go_region_with (go_at_call 162; refine C.mono ?_; rintro e w2 he; obtain ⟨rfl, vs2, hv2, hE2, hA', hf⟩ := hA.out.drew.step (k := 2) (m := 1) hs (by simp [hv0.out, hv1.out]) (by decide) he)
        have hE0 := Lib.hid (hA.out.keepE (KeepE.more keepE_int (by decide) : KeepE ([126, 55] : List TypeId) eInt) (RFr.undrew hf) tR ht hE0.out)
        have hE1 := Lib.hid (hA.out.keepE (KeepE.more keepE_int (by decide) : KeepE ([126, 55] : List TypeId) eInt) (RFr.undrew hf) tR ht hE1.out)
        replace hE2 := Lib.hid hE2
        replace hv2 := Lib.hid hv2
        replace hA' := Lib.hid hA'
        clear hA C e2 hf
        have hA := hA'
        clear hA'
        go_upto_region 3 with (fail)
        have C := time_r lo rb g B G (o + 3) t (putC cur o ((([] ++ vs0) ++ vs1) ++ vs2)) l3 w2.drew hA.out.rd.drew ⟨hA.out.blk, hne, hlo, (hA.out.room (k := 3) hs (by simp [hv0.out, hv1.out, hv2.out]) (by decide))⟩
        cases e3 : rdN l3 with
        | none =>
          rw [e3] at C
          obtain rfl : R = none := by rw [hR.out]; simp only [rdRow, rd2, he0.out, he1.out, he2.out, e3, Option.bind_some, Option.bind_none, Option.map_some, Option.map_none]
          go_region_with (go_at_call 161; refine C.mono ?_; rintro e u he; obtain ⟨rfl, hf⟩ := hA.out.drew.stop he; refine paysI ⟨#[], []⟩ u ⟨rfl, hf, rfl⟩ ?_)
          trivial
        | some y =>
          obtain ⟨x3, l4⟩ := y
          rw [e3] at C
          have he3 := Lib.hid e3
          go_region_with (go_at_call 161; refine C.mono ?_; rintro e w3 he; obtain ⟨rfl, vs3, hv3, hE3, hA', hf⟩ := hA.out.drew.step (k := 3) (m := 1) hs (by simp [hv0.out, hv1.out, hv2.out]) (by decide) he)
          have hE0 := Lib.hid (hA.out.keepE (KeepE.more keepE_int (by decide) : KeepE ([126, 55] : List TypeId) eInt) (RFr.undrew hf) tR ht hE0.out)
          have hE1 := Lib.hid (hA.out.keepE (KeepE.more keepE_int (by decide) : KeepE ([126, 55] : List TypeId) eInt) (RFr.undrew hf) tR ht hE1.out)
          have hE2 := Lib.hid (hA.out.keepE (KeepE.more keepE_bool (by decide) : KeepE ([126, 55] : List TypeId) eBool) (RFr.undrew hf) tR ht hE2.out)
          replace hE3 := Lib.hid hE3
          replace hv3 := Lib.hid hv3
          replace hA' := Lib.hid hA'
          clear hA C e3 hf
          have hA := hA'
          clear hA'
          have C := list_Stop_r lo rb g B G (o + 4) t (putC cur o (((([] ++ vs0) ++ vs1) ++ vs2) ++ vs3)) l4 w3 hA.out.rd ⟨hA.out.blk, hne, hlo, (hA.out.room (k := 4) hs (by simp [hv0.out, hv1.out, hv2.out, hv3.out]) (by decide))⟩ (hA.out.nil (k := 4) hs (by simp [hv0.out, hv1.out, hv2.out, hv3.out]) (by decide) (hz.out 4 _ rfl)) (fun hh => ht ((by decide : ∀ T ∈ ([] : List TypeId), T ∈ ([126, 55] : List TypeId)) _ hh))
          cases e4 : (rdL rdStop) l4 with
          | none =>
            rw [e4] at C
            obtain rfl : R = none := by rw [hR.out]; simp only [rdRow, rd2, he0.out, he1.out, he2.out, he3.out, e4, Option.bind_some, Option.bind_none, Option.map_some, Option.map_none]
            replace C := Lib.hid C
            clear e4
            go_wp2_with fail
            refine C.out.mono ?_; rintro e u he
            obtain ⟨rfl, hf⟩ := hA.out.stop he
            go_wp2_with fail
            exact ⟨rfl, hf, rfl⟩
          | some y =>
            obtain ⟨x4, l5⟩ := y
            rw [e4] at C
            have he4 := Lib.hid e4
            replace C := Lib.hid C
            clear e4
            go_wp2_with fail
            refine C.out.mono ?_; rintro e w4 he
            obtain ⟨rfl, vs4, hv4, hE4, hA', hf⟩ := hA.out.step (k := 4) (m := 1) hs (by simp [hv0.out, hv1.out, hv2.out, hv3.out]) (by decide) he
            have hE0 := Lib.hid (hA.out.keepE (KeepE.more keepE_int (by decide) : KeepE ([126, 55] : List TypeId) eInt) hf tR ht hE0.out)
            have hE1 := Lib.hid (hA.out.keepE (KeepE.more keepE_int (by decide) : KeepE ([126, 55] : List TypeId) eInt) hf tR ht hE1.out)
            have hE2 := Lib.hid (hA.out.keepE (KeepE.more keepE_bool (by decide) : KeepE ([126, 55] : List TypeId) eBool) hf tR ht hE2.out)
            have hE3 := Lib.hid (hA.out.keepE (KeepE.more keepE_int (by decide) : KeepE ([126, 55] : List TypeId) eInt) hf tR ht hE3.out)
            replace hE4 := Lib.hid hE4
            replace hv4 := Lib.hid hv4
            replace hA' := Lib.hid hA'
            clear hA C he hf
            have hA := hA'
            clear hA'
            go_upto_region 5 with (fail)
            have C := number_r lo rb g B G (o + 5) t (putC cur o ((((([] ++ vs0) ++ vs1) ++ vs2) ++ vs3) ++ vs4)) l5 w4.drew hA.out.rd.drew ⟨hA.out.blk, hne, hlo, (hA.out.room (k := 5) hs (by simp [hv0.out, hv1.out, hv2.out, hv3.out, hv4.out]) (by decide))⟩
            cases e5 : rdN l5 with
            | none =>
              rw [e5] at C
              obtain rfl : R = none := by rw [hR.out]; simp only [rdRow, rd2, he0.out, he1.out, he2.out, he3.out, he4.out, e5, Option.bind_some, Option.bind_none, Option.map_some, Option.map_none]
              go_region_with (go_at_call 160; refine C.mono ?_; rintro e u he; obtain ⟨rfl, hf⟩ := hA.out.drew.stop he; refine paysI ⟨#[], []⟩ u ⟨rfl, hf, rfl⟩ ?_)
              trivial
            | some y =>
              obtain ⟨x5, l6⟩ := y
              rw [e5] at C
              have he5 := Lib.hid e5
              go_region_with (go_at_call 160; refine C.mono ?_; rintro e w5 he; obtain ⟨rfl, vs5, hv5, hE5, hA', hf⟩ := hA.out.drew.step (k := 5) (m := 1) hs (by simp [hv0.out, hv1.out, hv2.out, hv3.out, hv4.out]) (by decide) he)
              have hE0 := Lib.hid (hA.out.keepE (KeepE.more keepE_int (by decide) : KeepE ([126, 55] : List TypeId) eInt) (RFr.undrew hf) tR ht hE0.out)
              have hE1 := Lib.hid (hA.out.keepE (KeepE.more keepE_int (by decide) : KeepE ([126, 55] : List TypeId) eInt) (RFr.undrew hf) tR ht hE1.out)
              have hE2 := Lib.hid (hA.out.keepE (KeepE.more keepE_bool (by decide) : KeepE ([126, 55] : List TypeId) eBool) (RFr.undrew hf) tR ht hE2.out)
              have hE3 := Lib.hid (hA.out.keepE (KeepE.more keepE_int (by decide) : KeepE ([126, 55] : List TypeId) eInt) (RFr.undrew hf) tR ht hE3.out)
              have hE4 := Lib.hid (hA.out.keepE (KeepE.more (keepE_L 126 2 keep_Stop) (by decide) : KeepE ([126, 55] : List TypeId) (eL eStop 126 2)) (RFr.undrew hf) tR ht hE4.out)
              replace hE5 := Lib.hid hE5
              replace hv5 := Lib.hid hv5
              replace hA' := Lib.hid hA'
              clear hA C e5 hf
              have hA := hA'
              clear hA'
              go_upto_region 6 with (fail)
              have C := number_r lo rb g B G (o + 6) t (putC cur o (((((([] ++ vs0) ++ vs1) ++ vs2) ++ vs3) ++ vs4) ++ vs5)) l6 w5.drew hA.out.rd.drew ⟨hA.out.blk, hne, hlo, (hA.out.room (k := 6) hs (by simp [hv0.out, hv1.out, hv2.out, hv3.out, hv4.out, hv5.out]) (by decide))⟩
              cases e6 : rdN l6 with
              | none =>
                rw [e6] at C
                obtain rfl : R = none := by rw [hR.out]; simp only [rdRow, rd2, he0.out, he1.out, he2.out, he3.out, he4.out, he5.out, e6, Option.bind_some, Option.bind_none, Option.map_some, Option.map_none]
                go_region_with (go_at_call 160; refine C.mono ?_; rintro e u he; obtain ⟨rfl, hf⟩ := hA.out.drew.stop he; refine paysI ⟨#[], []⟩ u ⟨rfl, hf, rfl⟩ ?_)
                trivial
              | some y =>
                obtain ⟨x6, l7⟩ := y
                rw [e6] at C
                have he6 := Lib.hid e6
                go_region_with (go_at_call 160; refine C.mono ?_; rintro e w6 he; obtain ⟨rfl, vs6, hv6, hE6, hA', hf⟩ := hA.out.drew.step (k := 6) (m := 1) hs (by simp [hv0.out, hv1.out, hv2.out, hv3.out, hv4.out, hv5.out]) (by decide) he)
                have hE0 := Lib.hid (hA.out.keepE (KeepE.more keepE_int (by decide) : KeepE ([126, 55] : List TypeId) eInt) (RFr.undrew hf) tR ht hE0.out)
                have hE1 := Lib.hid (hA.out.keepE (KeepE.more keepE_int (by decide) : KeepE ([126, 55] : List TypeId) eInt) (RFr.undrew hf) tR ht hE1.out)
                have hE2 := Lib.hid (hA.out.keepE (KeepE.more keepE_bool (by decide) : KeepE ([126, 55] : List TypeId) eBool) (RFr.undrew hf) tR ht hE2.out)
                have hE3 := Lib.hid (hA.out.keepE (KeepE.more keepE_int (by decide) : KeepE ([126, 55] : List TypeId) eInt) (RFr.undrew hf) tR ht hE3.out)
                have hE4 := Lib.hid (hA.out.keepE (KeepE.more (keepE_L 126 2 keep_Stop) (by decide) : KeepE ([126, 55] : List TypeId) (eL eStop 126 2)) (RFr.undrew hf) tR ht hE4.out)
                have hE5 := Lib.hid (hA.out.keepE (KeepE.more keepE_int (by decide) : KeepE ([126, 55] : List TypeId) eInt) (RFr.undrew hf) tR ht hE5.out)
                replace hE6 := Lib.hid hE6
                replace hv6 := Lib.hid hv6
                replace hA' := Lib.hid hA'
                clear hA C e6 hf
                have hA := hA'
                clear hA'
                have C := list_Tail_r lo rb g B G (o + 7) t (putC cur o ((((((([] ++ vs0) ++ vs1) ++ vs2) ++ vs3) ++ vs4) ++ vs5) ++ vs6)) l7 w6 hA.out.rd ⟨hA.out.blk, hne, hlo, (hA.out.room (k := 7) hs (by simp [hv0.out, hv1.out, hv2.out, hv3.out, hv4.out, hv5.out, hv6.out]) (by decide))⟩ (hA.out.nil (k := 7) hs (by simp [hv0.out, hv1.out, hv2.out, hv3.out, hv4.out, hv5.out, hv6.out]) (by decide) (hz.out 7 _ rfl)) (fun hh => ht ((by decide : ∀ T ∈ ([126] : List TypeId), T ∈ ([126, 55] : List TypeId)) _ hh))
                cases e7 : (rdL rdTail) l7 with
                | none =>
                  rw [e7] at C
                  obtain rfl : R = none := by rw [hR.out]; simp only [rdRow, rd2, he0.out, he1.out, he2.out, he3.out, he4.out, he5.out, he6.out, e7, Option.bind_some, Option.bind_none, Option.map_some, Option.map_none]
                  replace C := Lib.hid C
                  clear e7
                  go_wp2_with fail
                  refine C.out.mono ?_; rintro e u he
                  obtain ⟨rfl, hf⟩ := hA.out.stop he
                  go_wp2_with fail
                  exact ⟨rfl, hf, rfl⟩
                | some y =>
                  obtain ⟨x7, l8⟩ := y
                  rw [e7] at C
                  have he7 := Lib.hid e7
                  replace C := Lib.hid C
                  clear e7
                  go_wp2_with fail
                  refine C.out.mono ?_; rintro e w7 he
                  obtain ⟨rfl, vs7, hv7, hE7, hA', hf⟩ := hA.out.step (k := 7) (m := 1) hs (by simp [hv0.out, hv1.out, hv2.out, hv3.out, hv4.out, hv5.out, hv6.out]) (by decide) he
                  have hE0 := Lib.hid (hA.out.keepE (KeepE.more keepE_int (by decide) : KeepE ([126, 55] : List TypeId) eInt) hf tR ht hE0.out)
                  have hE1 := Lib.hid (hA.out.keepE (KeepE.more keepE_int (by decide) : KeepE ([126, 55] : List TypeId) eInt) hf tR ht hE1.out)
                  have hE2 := Lib.hid (hA.out.keepE (KeepE.more keepE_bool (by decide) : KeepE ([126, 55] : List TypeId) eBool) hf tR ht hE2.out)
                  have hE3 := Lib.hid (hA.out.keepE (KeepE.more keepE_int (by decide) : KeepE ([126, 55] : List TypeId) eInt) hf tR ht hE3.out)
                  have hE4 := Lib.hid (hA.out.keepE (KeepE.more (keepE_L 126 2 keep_Stop) (by decide) : KeepE ([126, 55] : List TypeId) (eL eStop 126 2)) hf tR ht hE4.out)
                  have hE5 := Lib.hid (hA.out.keepE (KeepE.more keepE_int (by decide) : KeepE ([126, 55] : List TypeId) eInt) hf tR ht hE5.out)
                  have hE6 := Lib.hid (hA.out.keepE (KeepE.more keepE_int (by decide) : KeepE ([126, 55] : List TypeId) eInt) hf tR ht hE6.out)
                  replace hE7 := Lib.hid hE7
                  replace hv7 := Lib.hid hv7
                  replace hA' := Lib.hid hA'
                  clear hA C he hf
                  have hA := hA'
                  clear hA'
                  obtain rfl : R = some (((x0, (x1, (x2, (x3, x4)))), (x5, (x6, x7))), l8) := by rw [hR.out]; simp only [rdRow, rd2, he0.out, he1.out, he2.out, he3.out, he4.out, he5.out, he6.out, he7.out, Option.bind_some, Option.map_some]
                  have hacc : (((((((([] ++ vs0) ++ vs1) ++ vs2) ++ vs3) ++ vs4) ++ vs5) ++ vs6) ++ vs7) = ((vs0 ++ (vs1 ++ (vs2 ++ (vs3 ++ vs4)))) ++ (vs5 ++ (vs6 ++ vs7))) := by simp [List.append_assoc]
                  have hlen : (((((((([] ++ vs0) ++ vs1) ++ vs2) ++ vs3) ++ vs4) ++ vs5) ++ vs6) ++ vs7).length = 8 := by simp [hv0.out, hv1.out, hv2.out, hv3.out, hv4.out, hv5.out, hv6.out, hv7.out]
                  have hfin := Lib.hid (hA.out.done (size := 8) (E := eRow) (x := ((x0, (x1, (x2, (x3, x4)))), (x5, (x6, x7)))) hlen (by rw [hacc]; exact ⟨(vs0 ++ (vs1 ++ (vs2 ++ (vs3 ++ vs4)))), (vs5 ++ (vs6 ++ vs7)), rfl, ⟨vs0, (vs1 ++ (vs2 ++ (vs3 ++ vs4))), rfl, hE0.out, ⟨vs1, (vs2 ++ (vs3 ++ vs4)), rfl, hE1.out, ⟨vs2, (vs3 ++ vs4), rfl, hE2.out, ⟨vs3, vs4, rfl, hE3.out, hE4.out⟩⟩⟩⟩, ⟨vs5, (vs6 ++ vs7), rfl, hE5.out, ⟨vs6, vs7, rfl, hE6.out, hE7.out⟩⟩⟩))
                  clear hacc hlen hA
                  go_wp2
                  go_end0
                  exact hfin.out


theorem z_Row : (Try.prog.info? 53).map (fun i => (i.zero, i.size, i.bytes)) = some (some (.agg #[.int .i64 0, .int .i64 0, .bool false, .int .i64 0, .slice none 0 0, .int .i64 0, .int .i64 0, .slice none 0 0]), 8, 96) := by kernel_rfl
set_option maxHeartbeats 16000000 in
set_option maxRecDepth 100000 in
theorem list_Row_r (lo rb g B G o : Nat) (t : TypeId) (cur : Array Value) (l : List Nat) (w : World) (h : RdS w lo rb g B l) (hP : RdP w lo g G o t cur) (hz : cur[o]? = some (.slice none 0 0)) (ht : t ∉ ([126, 55] : List TypeId)) :
    Calls Try.prog 77 #[(.iface 73 (.pointer (some ⟨rb, 0, none⟩))), .pointer (some ⟨G, o, none⟩), .func (.func 78) #[] #[]] w (REnd lo rb g B G t cur o 1 (eL eRow 53 8) (rdL rdRow l) w) := by
  have hmf : ∀ (fn : Fn) (first cap : Array Value) (w : World), (Instr.makeFunc fn first cap).run Try.prog w = .ok (.func fn first cap) w := fun _ _ _ _ => rfl
  have nacount := rna_count ⟨rb, 0, none⟩
  have mecount := rme_count ⟨rb, 0, none⟩
  obtain ⟨i0, hi, hz0, hz1, hz2⟩ := info_parts z_Row
  have tT : 53 ∉ ([126, 55] : List TypeId) := by decide
  have tR : 109 ∉ ([126, 55] : List TypeId) := by decide
  have tTR : 53 ≠ 109 := by decide
  obtain ⟨hG, hne, hlo, ho⟩ := hP
  have hp : w.cell? ⟨G, o, none⟩ = some (.slice none 0 0) := by rw [hG.cell]; exact hz
  have ha : LA ⟨53, t, 8, lo, rb, g, B, G, o, cur⟩ w := ⟨hG.lt, hlo, hne, ho⟩
  have CC := fun n => count_r lo rb g B l n w.drew h.drew
  unfold rdL
  replace ha := Lib.hid ha
  replace hG := Lib.hid hG
  replace hz := Lib.hid hz
  replace hz1 := Lib.hid hz1
  replace hz2 := Lib.hid hz2
  replace hi := Lib.hid hi
  clear h
  cases h0 : rdC l with
  | none =>
    rw [h0] at CC
    rw [Option.bind_none]
    go_enter Try.func77, Try.ntmps77
    go_upto_region 0 with (fail)
    go_region_with (go_at_call 159; refine (CC _).mono ?_; rintro e u ⟨hb, rfl⟩; refine paysI ⟨#[], []⟩ u ⟨rfl, RFr.of_grown (grown_drew hb) G, rfl⟩ ?_)
    all_goals trivial
  | some y =>
    obtain ⟨n, l1⟩ := y
    rw [h0] at CC
    rw [Option.bind_some]
    clear h0
    go_enter Try.func77, Try.ntmps77
    go_upto_region 0 with (fail)
    go_cut [15, 16] from 7 to 16 (fun vn vi w' => vn = .int .i64 (n : Int) ∧ vi = .int .i64 0 ∧ n ≤ 1024 ∧ w.grownBy w' (some g) ∧ RdS w' lo rb g B l1)
    case first =>
      go_region_with (go_at_call 159; refine (CC _).mono ?_; rintro e u ⟨hb, rfl, hn, hS⟩; have hb := Lib.hid (grown_drew hb); have hn := Lib.hid hn)
      all_goals (go_wp2_with fail; go_meet; exact ⟨rfl, rfl, hn.out, hb.out, hS⟩)
    case rest =>
    obtain ⟨rfl, rfl, hn, hg, hS⟩ := hcut
    have hJ := LJ.start (E := eRow) (p := ⟨53, t, 8, lo, rb, g, B, G, o, cur⟩) ha.out hg hS hG.out hz.out
    clear CC
    go_wp2_with fail
    go_loopw [16] (fun vi wr => ∃ (k : Nat) (xs : List (TRow)) (vss : List (List Value)) (lk : List Nat) (v : Value), k ≤ n ∧ vi = .int .i64 (k : Int) ∧ LJ eRow ⟨53, t, 8, lo, rb, g, B, G, o, cur⟩ w k xs vss lk v wr ∧ LRel rdRow n l1 k xs lk) (fun vi _ => n - (intOf vi).toNat)
    case atStart => exact ⟨0, [], [], l1, _, by omega, rfl, hJ, LRel.start _ _ _⟩
    case round =>
      clear hS hg hJ
      obtain ⟨k, xs, vss, lk, v, hk, rfl, hJ, hrk⟩ := hrel
      have k0 : (0 : Int) ≤ (k : Int) := by omega
      obtain ⟨A, c, rfl⟩ := hJ.form
      have hc := hJ.here ho
      dsimp only at hc
      by_cases hlt : k < n
      · have k1 : (k : Int) < (n : Int) := by omega
        have hcA : ∀ o1 o2 : Obj, ((wr.alloc o1).alloc o2).cell? ⟨G, o, none⟩ = some (.slice A (k : Nat) c) := fun o1 o2 => cell_later (m1 _ o2) (cell_later (m1 wr o1) hc)
        have hcB : ∀ o1 : Obj, (wr.alloc o1).cell? ⟨G, o, none⟩ = some (.slice A (k : Nat) c) := fun o1 => cell_later (m1 wr o1) hc
        have hO := hJ.own
        dsimp only at hO
        have n3 : k + 1 ≤ maxLen := by unfold maxLen; omega
        have n4 : (k + 1) * 96 ≤ 140737488355328 := by omega
        have n5 : w.heap.size ≤ wr.heap.size := hJ.fr.size
        replace hJ := Lib.hid hJ
        replace hrk := Lib.hid hrk
        replace hn := Lib.hid hn
        go_upto_region 4 with (fail)
        go_region_law (refine step_append_own rfl (.tmp 28) (.tmp 32) 24 rfl w.heap.size 53 i0 (.agg #[.int .i64 0, .int .i64 0, .bool false, .int .i64 0, .slice none 0 0, .int .i64 0, .int .i64 0, .slice none 0 0]) 8 96 Try.underlying24 hi.out hz0 hz1.out hz2.out rfl (by decide) (.slice A k c) k vss.flatten rfl ((hO.alloc _).alloc _).drew ⟨wr.heap.size + 1, 0, none⟩ 1 1 [.int .i64 0, .int .i64 0, .bool false, .int .i64 0, .slice none 0 0, .int .i64 0, .int .i64 0, .slice none 0 0] rfl rfl (news_two wr _ _ _ _) (fun u hu => by simp only [List.mem_cons, List.not_mem_nil, or_false] at hu; rcases hu with rfl | rfl | rfl | rfl | rfl | rfl | rfl | rfl <;> rfl) n3 n4 (Nat.le_trans n5 (by simp; omega)) ?_; intro v' w3 hO3 hgrow; obtain ⟨y1, y2, g', cap, cur', rfl, hL⟩ := hJ.out.grow ha.out keep_Row tT ht tR (below_two wr _ _) hgrow hO3 rfl; dsimp only at y1 y2; replace hL := Lib.hid hL; clear hgrow hO3)
        all_goals have e1 := hL.out.here ho
        all_goals dsimp only at e1 hL
        all_goals obtain ⟨q1, q2, q3⟩ := hL.out.pre ha.out
        all_goals dsimp only at q1 q2 q3
        all_goals generalize w3.setCell ⟨G, o, none⟩ (.slice (some ⟨g', 0, none⟩) (k + 1) cap) = w4 at *
        all_goals have CE := Row_r lo rb g B g' (k * 8) 53 cur' lk w4 hL.out.rd ⟨hL.out.row, q1, q2, by omega⟩ q3 hL.out.new tT
        all_goals have kb1 : (k : Int) < ((k + 1 : Nat) : Int) := by omega
        all_goals clear hO hcA hcB y1 y2 n3 n4 n5 hc
        all_goals have h9 := hn.out
        all_goals (
          cases hx : rdRow lk with
          | none =>
            rw [hx] at CE
            replace CE := Lib.hid CE
            have hrn := Lib.hid (hrk.out.stop hlt hx)
            clear hx
            go_wp2_with fail
            refine CE.out.mono ?_; rintro e u he
            obtain ⟨rfl, hf⟩ := hL.out.stop' ha.out he
            replace hf := Lib.hid hf
            clear he
            go_wp2_with fail
            refine ⟨rfl, ?_⟩
            rw [hrn.out]
            exact ⟨hf.out, rfl⟩
          | some y =>
            obtain ⟨x, r⟩ := y
            rw [hx] at CE
            replace CE := Lib.hid CE
            have hrn := Lib.hid (hrk.out.next hlt hx)
            clear hx
            go_wp2_with fail
            refine CE.out.mono ?_; rintro e u he
            obtain ⟨rfl, vs, hJ2⟩ := hL.out.next' ha.out keep_Row tT tR tTR rfl he
            replace hJ2 := Lib.hid hJ2
            clear he
            go_wp2
            go_roundw
            case rel => exact ⟨k + 1, xs ++ [x], vss ++ [vs], r, _, by omega, by go_num, hJ2.out, hrn.out⟩
            case measure => simp [intOf]; omega)
      · obtain rfl : k = n := by omega
        have hfin := hJ.done
        rw [← hrk.done] at hfin
        dsimp only at hfin
        replace hfin := Lib.hid hfin
        clear hrk hJ
        go_wp2
        go_end0
        exact hfin.out

end Go.Proofs.Ytlfhgmoafgjdcaa
