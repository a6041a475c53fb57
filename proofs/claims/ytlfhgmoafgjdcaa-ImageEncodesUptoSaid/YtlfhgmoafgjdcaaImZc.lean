/- The reader of images over a table's things, as contracts (made by genImT.py). -/
import Derived.Test.YtlfhgmoafgjdcaaImY
import Derived.Test.YtlfhgmoafgjdcaaImZb
namespace Go.Proofs.Ytlfhgmoafgjdcaa
open Go.ChangeShapes Go.WideShapes Go.ChangeAt Go.RowKit
set_option linter.unusedVariables false
set_option linter.unusedSimpArgs false

abbrev eTable : World → List Value → TTable → Prop := (eP (eP eInt (eP (eL eInt 3 1) (eP (eL eInts 22 1) (eP eInt (eP eInt eInt))))) (eP (eL eRow 53 8) (eL eCode 47 5)))
def rdTable : Rd TTable := (rd2 Prod.mk (rd2 Prod.mk rdN (rd2 Prod.mk (rdL rdN) (rd2 Prod.mk (rdL rdInts) (rd2 Prod.mk rdN (rd2 Prod.mk rdN rdN))))) (rd2 Prod.mk (rdL rdRow) (rdL rdCode)))
theorem keep_Table : KeepE ([3, 22, 53, 126, 55, 47, 89, 106, 94] : List TypeId) eTable := (keepE_P (keepE_P (KeepE.more keepE_int (by decide)) (keepE_P (KeepE.more (keepE_L 3 1 keepE_int) (by decide)) (keepE_P (KeepE.more (keepE_L 22 1 keep_Ints) (by decide)) (keepE_P (KeepE.more keepE_int (by decide)) (keepE_P (KeepE.more keepE_int (by decide)) (KeepE.more keepE_int (by decide))))))) (keepE_P (KeepE.more (keepE_L 53 8 keep_Row) (by decide)) (KeepE.more (keepE_L 47 5 keep_Code) (by decide))))
set_option maxHeartbeats 16000000 in
set_option maxRecDepth 100000 in
theorem Table_r (lo rb g B G o : Nat) (t : TypeId) (cur : Array Value) (l0 : List Nat) (w : World) (h : RdS w lo rb g B l0) (hP : RdP w lo g G o t cur) (hs : o + 8 ≤ cur.size) (hz : ∀ (j : Nat) (u : Value), ([.int .i64 0, .slice none 0 0, .slice none 0 0, .int .i64 0, .int .i64 0, .int .i64 0, .slice none 0 0, .slice none 0 0] : List Value)[j]? = some u → cur[o + j]? = some u) (ht : t ∉ ([3, 22, 53, 126, 55, 47, 89, 106, 94] : List TypeId)) :
    Calls Try.prog 50 #[(.iface 73 (.pointer (some ⟨rb, 0, none⟩))), .pointer (some ⟨G, o, none⟩)] w (REnd lo rb g B G t cur o 8 eTable (rdTable l0) w) := by
  have hmf : ∀ (fn : Fn) (first cap : Array Value) (w : World), (Instr.makeFunc fn first cap).run Try.prog w = .ok (.func fn first cap) w := fun _ _ _ _ => rfl
  have nanumber := rna_number ⟨rb, 0, none⟩
  have menumber := rme_number ⟨rb, 0, none⟩
  obtain ⟨hG, hne, hlo, ho⟩ := hP
  have tR : 109 ∉ ([3, 22, 53, 126, 55, 47, 89, 106, 94] : List TypeId) := by decide
  have hA := Lib.hid (SA.start (o := o) h hG)
  obtain ⟨R, hR⟩ : ∃ R, R = rdTable l0 := ⟨_, rfl⟩
  rw [← hR]
  replace hR := Lib.hid hR
  replace hz := Lib.hid hz
  clear h hG
  go_enter Try.func50, Try.ntmps50
  go_upto_region 0 with (fail)
  have C := number_r lo rb g B G (o) t (putC cur o []) l0 w.drew hA.out.rd.drew ⟨hA.out.blk, hne, hlo, (hA.out.room (k := 0) hs (by rfl) (by decide))⟩
  cases e0 : rdN l0 with
  | none =>
    rw [e0] at C
    obtain rfl : R = none := by rw [hR.out]; simp only [rdTable, rd2, e0, Option.bind_some, Option.bind_none, Option.map_some, Option.map_none]
    go_region_with (go_at_call 160; refine C.mono ?_; rintro e u he; obtain ⟨rfl, hf⟩ := hA.out.drew.stop he; refine paysI ⟨#[], []⟩ u ⟨rfl, hf, rfl⟩ ?_)
    trivial
  | some y =>
    obtain ⟨x0, l1⟩ := y
    rw [e0] at C
    have he0 := Lib.hid e0
    go_region_with (go_at_call 160; refine C.mono ?_; rintro e w0 he; obtain ⟨rfl, vs0, hv0, hE0, hA', hf⟩ := hA.out.drew.step (k := 0) (m := 1) hs (by rfl) (by decide) he)

    replace hE0 := Lib.hid hE0
    replace hv0 := Lib.hid hv0
    replace hA' := Lib.hid hA'
    clear hA C e0 hf
    have hA := hA'
    clear hA'
    have C := numbers_r lo rb g B G (o + 1) t (putC cur o ([] ++ vs0)) l1 w0 hA.out.rd ⟨hA.out.blk, hne, hlo, (hA.out.room (k := 1) hs (by simp [hv0.out]) (by decide))⟩ (hA.out.nil (k := 1) hs (by simp [hv0.out]) (by decide) (hz.out 1 _ rfl)) (fun hh => ht ((by decide : ∀ T ∈ ([3] : List TypeId), T ∈ ([3, 22, 53, 126, 55, 47, 89, 106, 94] : List TypeId)) _ hh))
    cases e1 : (rdL rdN) l1 with
    | none =>
      rw [show rdInts l1 = rdL rdN l1 from rfl, e1] at C
      obtain rfl : R = none := by rw [hR.out]; simp only [rdTable, rd2, he0.out, e1, Option.bind_some, Option.bind_none, Option.map_some, Option.map_none]
      replace C := Lib.hid C
      clear e1
      go_wp2_with fail
      refine C.out.mono ?_; rintro e u he
      obtain ⟨rfl, hf⟩ := hA.out.stop he
      go_wp2_with fail
      exact ⟨rfl, hf, rfl⟩
    | some y =>
      obtain ⟨x1, l2⟩ := y
      rw [show rdInts l1 = rdL rdN l1 from rfl, e1] at C
      have he1 := Lib.hid e1
      replace C := Lib.hid C
      clear e1
      go_wp2_with fail
      refine C.out.mono ?_; rintro e w1 he
      obtain ⟨rfl, vs1, hv1, hE1, hA', hf⟩ := hA.out.step (k := 1) (m := 1) hs (by simp [hv0.out]) (by decide) he
      have hE0 := Lib.hid (hA.out.keepE (KeepE.more keepE_int (by decide) : KeepE ([3, 22, 53, 126, 55, 47, 89, 106, 94] : List TypeId) eInt) hf tR ht hE0.out)
      replace hE1 := Lib.hid hE1
      replace hv1 := Lib.hid hv1
      replace hA' := Lib.hid hA'
      clear hA C he hf
      have hA := hA'
      clear hA'
      have C := list_Ints_r lo rb g B G (o + 2) t (putC cur o (([] ++ vs0) ++ vs1)) l2 w1 hA.out.rd ⟨hA.out.blk, hne, hlo, (hA.out.room (k := 2) hs (by simp [hv0.out, hv1.out]) (by decide))⟩ (hA.out.nil (k := 2) hs (by simp [hv0.out, hv1.out]) (by decide) (hz.out 2 _ rfl)) (fun hh => ht ((by decide : ∀ T ∈ ([3] : List TypeId), T ∈ ([3, 22, 53, 126, 55, 47, 89, 106, 94] : List TypeId)) _ hh))
      cases e2 : (rdL rdInts) l2 with
      | none =>
        rw [e2] at C
        obtain rfl : R = none := by rw [hR.out]; simp only [rdTable, rd2, he0.out, he1.out, e2, Option.bind_some, Option.bind_none, Option.map_some, Option.map_none]
        replace C := Lib.hid C
        clear e2
        go_wp2_with fail
        refine C.out.mono ?_; rintro e u he
        obtain ⟨rfl, hf⟩ := hA.out.stop he
        go_wp2_with fail
        exact ⟨rfl, hf, rfl⟩
      | some y =>
        obtain ⟨x2, l3⟩ := y
        rw [e2] at C
        have he2 := Lib.hid e2
        replace C := Lib.hid C
        clear e2
        go_wp2_with fail
        refine C.out.mono ?_; rintro e w2 he
        obtain ⟨rfl, vs2, hv2, hE2, hA', hf⟩ := hA.out.step (k := 2) (m := 1) hs (by simp [hv0.out, hv1.out]) (by decide) he
        have hE0 := Lib.hid (hA.out.keepE (KeepE.more keepE_int (by decide) : KeepE ([3, 22, 53, 126, 55, 47, 89, 106, 94] : List TypeId) eInt) hf tR ht hE0.out)
        have hE1 := Lib.hid (hA.out.keepE (KeepE.more (keepE_L 3 1 keepE_int) (by decide) : KeepE ([3, 22, 53, 126, 55, 47, 89, 106, 94] : List TypeId) (eL eInt 3 1)) hf tR ht hE1.out)
        replace hE2 := Lib.hid hE2
        replace hv2 := Lib.hid hv2
        replace hA' := Lib.hid hA'
        clear hA C he hf
        have hA := hA'
        clear hA'
        go_upto_region 3 with (fail)
        have C := number_r lo rb g B G (o + 3) t (putC cur o ((([] ++ vs0) ++ vs1) ++ vs2)) l3 w2.drew hA.out.rd.drew ⟨hA.out.blk, hne, hlo, (hA.out.room (k := 3) hs (by simp [hv0.out, hv1.out, hv2.out]) (by decide))⟩
        cases e3 : rdN l3 with
        | none =>
          rw [e3] at C
          obtain rfl : R = none := by rw [hR.out]; simp only [rdTable, rd2, he0.out, he1.out, he2.out, e3, Option.bind_some, Option.bind_none, Option.map_some, Option.map_none]
          go_region_with (go_at_call 160; refine C.mono ?_; rintro e u he; obtain ⟨rfl, hf⟩ := hA.out.drew.stop he; refine paysI ⟨#[], []⟩ u ⟨rfl, hf, rfl⟩ ?_)
          trivial
        | some y =>
          obtain ⟨x3, l4⟩ := y
          rw [e3] at C
          have he3 := Lib.hid e3
          go_region_with (go_at_call 160; refine C.mono ?_; rintro e w3 he; obtain ⟨rfl, vs3, hv3, hE3, hA', hf⟩ := hA.out.drew.step (k := 3) (m := 1) hs (by simp [hv0.out, hv1.out, hv2.out]) (by decide) he)
          have hE0 := Lib.hid (hA.out.keepE (KeepE.more keepE_int (by decide) : KeepE ([3, 22, 53, 126, 55, 47, 89, 106, 94] : List TypeId) eInt) (RFr.undrew hf) tR ht hE0.out)
          have hE1 := Lib.hid (hA.out.keepE (KeepE.more (keepE_L 3 1 keepE_int) (by decide) : KeepE ([3, 22, 53, 126, 55, 47, 89, 106, 94] : List TypeId) (eL eInt 3 1)) (RFr.undrew hf) tR ht hE1.out)
          have hE2 := Lib.hid (hA.out.keepE (KeepE.more (keepE_L 22 1 keep_Ints) (by decide) : KeepE ([3, 22, 53, 126, 55, 47, 89, 106, 94] : List TypeId) (eL eInts 22 1)) (RFr.undrew hf) tR ht hE2.out)
          replace hE3 := Lib.hid hE3
          replace hv3 := Lib.hid hv3
          replace hA' := Lib.hid hA'
          clear hA C e3 hf
          have hA := hA'
          clear hA'
          go_upto_region 4 with (fail)
          have C := number_r lo rb g B G (o + 4) t (putC cur o (((([] ++ vs0) ++ vs1) ++ vs2) ++ vs3)) l4 w3.drew hA.out.rd.drew ⟨hA.out.blk, hne, hlo, (hA.out.room (k := 4) hs (by simp [hv0.out, hv1.out, hv2.out, hv3.out]) (by decide))⟩
          cases e4 : rdN l4 with
          | none =>
            rw [e4] at C
            obtain rfl : R = none := by rw [hR.out]; simp only [rdTable, rd2, he0.out, he1.out, he2.out, he3.out, e4, Option.bind_some, Option.bind_none, Option.map_some, Option.map_none]
            go_region_with (go_at_call 160; refine C.mono ?_; rintro e u he; obtain ⟨rfl, hf⟩ := hA.out.drew.stop he; refine paysI ⟨#[], []⟩ u ⟨rfl, hf, rfl⟩ ?_)
            trivial
          | some y =>
            obtain ⟨x4, l5⟩ := y
            rw [e4] at C
            have he4 := Lib.hid e4
            go_region_with (go_at_call 160; refine C.mono ?_; rintro e w4 he; obtain ⟨rfl, vs4, hv4, hE4, hA', hf⟩ := hA.out.drew.step (k := 4) (m := 1) hs (by simp [hv0.out, hv1.out, hv2.out, hv3.out]) (by decide) he)
            have hE0 := Lib.hid (hA.out.keepE (KeepE.more keepE_int (by decide) : KeepE ([3, 22, 53, 126, 55, 47, 89, 106, 94] : List TypeId) eInt) (RFr.undrew hf) tR ht hE0.out)
            have hE1 := Lib.hid (hA.out.keepE (KeepE.more (keepE_L 3 1 keepE_int) (by decide) : KeepE ([3, 22, 53, 126, 55, 47, 89, 106, 94] : List TypeId) (eL eInt 3 1)) (RFr.undrew hf) tR ht hE1.out)
            have hE2 := Lib.hid (hA.out.keepE (KeepE.more (keepE_L 22 1 keep_Ints) (by decide) : KeepE ([3, 22, 53, 126, 55, 47, 89, 106, 94] : List TypeId) (eL eInts 22 1)) (RFr.undrew hf) tR ht hE2.out)
            have hE3 := Lib.hid (hA.out.keepE (KeepE.more keepE_int (by decide) : KeepE ([3, 22, 53, 126, 55, 47, 89, 106, 94] : List TypeId) eInt) (RFr.undrew hf) tR ht hE3.out)
            replace hE4 := Lib.hid hE4
            replace hv4 := Lib.hid hv4
            replace hA' := Lib.hid hA'
            clear hA C e4 hf
            have hA := hA'
            clear hA'
            go_upto_region 5 with (fail)
            have C := number_r lo rb g B G (o + 5) t (putC cur o ((((([] ++ vs0) ++ vs1) ++ vs2) ++ vs3) ++ vs4)) l5 w4.drew hA.out.rd.drew ⟨hA.out.blk, hne, hlo, (hA.out.room (k := 5) hs (by simp [hv0.out, hv1.out, hv2.out, hv3.out, hv4.out]) (by decide))⟩
            cases e5 : rdN l5 with
            | none =>
              rw [e5] at C
              obtain rfl : R = none := by rw [hR.out]; simp only [rdTable, rd2, he0.out, he1.out, he2.out, he3.out, he4.out, e5, Option.bind_some, Option.bind_none, Option.map_some, Option.map_none]
              go_region_with (go_at_call 160; refine C.mono ?_; rintro e u he; obtain ⟨rfl, hf⟩ := hA.out.drew.stop he; refine paysI ⟨#[], []⟩ u ⟨rfl, hf, rfl⟩ ?_)
              trivial
            | some y =>
              obtain ⟨x5, l6⟩ := y
              rw [e5] at C
              have he5 := Lib.hid e5
              go_region_with (go_at_call 160; refine C.mono ?_; rintro e w5 he; obtain ⟨rfl, vs5, hv5, hE5, hA', hf⟩ := hA.out.drew.step (k := 5) (m := 1) hs (by simp [hv0.out, hv1.out, hv2.out, hv3.out, hv4.out]) (by decide) he)
              have hE0 := Lib.hid (hA.out.keepE (KeepE.more keepE_int (by decide) : KeepE ([3, 22, 53, 126, 55, 47, 89, 106, 94] : List TypeId) eInt) (RFr.undrew hf) tR ht hE0.out)
              have hE1 := Lib.hid (hA.out.keepE (KeepE.more (keepE_L 3 1 keepE_int) (by decide) : KeepE ([3, 22, 53, 126, 55, 47, 89, 106, 94] : List TypeId) (eL eInt 3 1)) (RFr.undrew hf) tR ht hE1.out)
              have hE2 := Lib.hid (hA.out.keepE (KeepE.more (keepE_L 22 1 keep_Ints) (by decide) : KeepE ([3, 22, 53, 126, 55, 47, 89, 106, 94] : List TypeId) (eL eInts 22 1)) (RFr.undrew hf) tR ht hE2.out)
              have hE3 := Lib.hid (hA.out.keepE (KeepE.more keepE_int (by decide) : KeepE ([3, 22, 53, 126, 55, 47, 89, 106, 94] : List TypeId) eInt) (RFr.undrew hf) tR ht hE3.out)
              have hE4 := Lib.hid (hA.out.keepE (KeepE.more keepE_int (by decide) : KeepE ([3, 22, 53, 126, 55, 47, 89, 106, 94] : List TypeId) eInt) (RFr.undrew hf) tR ht hE4.out)
              replace hE5 := Lib.hid hE5
              replace hv5 := Lib.hid hv5
              replace hA' := Lib.hid hA'
              clear hA C e5 hf
              have hA := hA'
              clear hA'
              have C := list_Row_r lo rb g B G (o + 6) t (putC cur o (((((([] ++ vs0) ++ vs1) ++ vs2) ++ vs3) ++ vs4) ++ vs5)) l6 w5 hA.out.rd ⟨hA.out.blk, hne, hlo, (hA.out.room (k := 6) hs (by simp [hv0.out, hv1.out, hv2.out, hv3.out, hv4.out, hv5.out]) (by decide))⟩ (hA.out.nil (k := 6) hs (by simp [hv0.out, hv1.out, hv2.out, hv3.out, hv4.out, hv5.out]) (by decide) (hz.out 6 _ rfl)) (fun hh => ht ((by decide : ∀ T ∈ ([126, 55] : List TypeId), T ∈ ([3, 22, 53, 126, 55, 47, 89, 106, 94] : List TypeId)) _ hh))
              cases e6 : (rdL rdRow) l6 with
              | none =>
                rw [e6] at C
                obtain rfl : R = none := by rw [hR.out]; simp only [rdTable, rd2, he0.out, he1.out, he2.out, he3.out, he4.out, he5.out, e6, Option.bind_some, Option.bind_none, Option.map_some, Option.map_none]
                replace C := Lib.hid C
                clear e6
                go_wp2_with fail
                refine C.out.mono ?_; rintro e u he
                obtain ⟨rfl, hf⟩ := hA.out.stop he
                go_wp2_with fail
                exact ⟨rfl, hf, rfl⟩
              | some y =>
                obtain ⟨x6, l7⟩ := y
                rw [e6] at C
                have he6 := Lib.hid e6
                replace C := Lib.hid C
                clear e6
                go_wp2_with fail
                refine C.out.mono ?_; rintro e w6 he
                obtain ⟨rfl, vs6, hv6, hE6, hA', hf⟩ := hA.out.step (k := 6) (m := 1) hs (by simp [hv0.out, hv1.out, hv2.out, hv3.out, hv4.out, hv5.out]) (by decide) he
                have hE0 := Lib.hid (hA.out.keepE (KeepE.more keepE_int (by decide) : KeepE ([3, 22, 53, 126, 55, 47, 89, 106, 94] : List TypeId) eInt) hf tR ht hE0.out)
                have hE1 := Lib.hid (hA.out.keepE (KeepE.more (keepE_L 3 1 keepE_int) (by decide) : KeepE ([3, 22, 53, 126, 55, 47, 89, 106, 94] : List TypeId) (eL eInt 3 1)) hf tR ht hE1.out)
                have hE2 := Lib.hid (hA.out.keepE (KeepE.more (keepE_L 22 1 keep_Ints) (by decide) : KeepE ([3, 22, 53, 126, 55, 47, 89, 106, 94] : List TypeId) (eL eInts 22 1)) hf tR ht hE2.out)
                have hE3 := Lib.hid (hA.out.keepE (KeepE.more keepE_int (by decide) : KeepE ([3, 22, 53, 126, 55, 47, 89, 106, 94] : List TypeId) eInt) hf tR ht hE3.out)
                have hE4 := Lib.hid (hA.out.keepE (KeepE.more keepE_int (by decide) : KeepE ([3, 22, 53, 126, 55, 47, 89, 106, 94] : List TypeId) eInt) hf tR ht hE4.out)
                have hE5 := Lib.hid (hA.out.keepE (KeepE.more keepE_int (by decide) : KeepE ([3, 22, 53, 126, 55, 47, 89, 106, 94] : List TypeId) eInt) hf tR ht hE5.out)
                replace hE6 := Lib.hid hE6
                replace hv6 := Lib.hid hv6
                replace hA' := Lib.hid hA'
                clear hA C he hf
                have hA := hA'
                clear hA'
                have C := list_Code_r lo rb g B G (o + 7) t (putC cur o ((((((([] ++ vs0) ++ vs1) ++ vs2) ++ vs3) ++ vs4) ++ vs5) ++ vs6)) l7 w6 hA.out.rd ⟨hA.out.blk, hne, hlo, (hA.out.room (k := 7) hs (by simp [hv0.out, hv1.out, hv2.out, hv3.out, hv4.out, hv5.out, hv6.out]) (by decide))⟩ (hA.out.nil (k := 7) hs (by simp [hv0.out, hv1.out, hv2.out, hv3.out, hv4.out, hv5.out, hv6.out]) (by decide) (hz.out 7 _ rfl)) (fun hh => ht ((by decide : ∀ T ∈ ([89, 106, 94] : List TypeId), T ∈ ([3, 22, 53, 126, 55, 47, 89, 106, 94] : List TypeId)) _ hh))
                cases e7 : (rdL rdCode) l7 with
                | none =>
                  rw [e7] at C
                  obtain rfl : R = none := by rw [hR.out]; simp only [rdTable, rd2, he0.out, he1.out, he2.out, he3.out, he4.out, he5.out, he6.out, e7, Option.bind_some, Option.bind_none, Option.map_some, Option.map_none]
                  replace C := Lib.hid C
                  clear e7
                  go_wp2_with fail
                  refine C.out.mono ?_; rintro e u he
                  obtain ⟨rfl, hf⟩ := hA.out.stop he
                  go_wp2_with fail
                  exact ⟨rfl, hf, rfl⟩
                | some y =>
                  obtain ⟨x7, l8⟩ := y
                  rw [e7] at C
                  have he7 := Lib.hid e7
                  replace C := Lib.hid C
                  clear e7
                  go_wp2_with fail
                  refine C.out.mono ?_; rintro e w7 he
                  obtain ⟨rfl, vs7, hv7, hE7, hA', hf⟩ := hA.out.step (k := 7) (m := 1) hs (by simp [hv0.out, hv1.out, hv2.out, hv3.out, hv4.out, hv5.out, hv6.out]) (by decide) he
                  have hE0 := Lib.hid (hA.out.keepE (KeepE.more keepE_int (by decide) : KeepE ([3, 22, 53, 126, 55, 47, 89, 106, 94] : List TypeId) eInt) hf tR ht hE0.out)
                  have hE1 := Lib.hid (hA.out.keepE (KeepE.more (keepE_L 3 1 keepE_int) (by decide) : KeepE ([3, 22, 53, 126, 55, 47, 89, 106, 94] : List TypeId) (eL eInt 3 1)) hf tR ht hE1.out)
                  have hE2 := Lib.hid (hA.out.keepE (KeepE.more (keepE_L 22 1 keep_Ints) (by decide) : KeepE ([3, 22, 53, 126, 55, 47, 89, 106, 94] : List TypeId) (eL eInts 22 1)) hf tR ht hE2.out)
                  have hE3 := Lib.hid (hA.out.keepE (KeepE.more keepE_int (by decide) : KeepE ([3, 22, 53, 126, 55, 47, 89, 106, 94] : List TypeId) eInt) hf tR ht hE3.out)
                  have hE4 := Lib.hid (hA.out.keepE (KeepE.more keepE_int (by decide) : KeepE ([3, 22, 53, 126, 55, 47, 89, 106, 94] : List TypeId) eInt) hf tR ht hE4.out)
                  have hE5 := Lib.hid (hA.out.keepE (KeepE.more keepE_int (by decide) : KeepE ([3, 22, 53, 126, 55, 47, 89, 106, 94] : List TypeId) eInt) hf tR ht hE5.out)
                  have hE6 := Lib.hid (hA.out.keepE (KeepE.more (keepE_L 53 8 keep_Row) (by decide) : KeepE ([3, 22, 53, 126, 55, 47, 89, 106, 94] : List TypeId) (eL eRow 53 8)) hf tR ht hE6.out)
                  replace hE7 := Lib.hid hE7
                  replace hv7 := Lib.hid hv7
                  replace hA' := Lib.hid hA'
                  clear hA C he hf
                  have hA := hA'
                  clear hA'
                  obtain rfl : R = some (((x0, (x1, (x2, (x3, (x4, x5))))), (x6, x7)), l8) := by rw [hR.out]; simp only [rdTable, rd2, he0.out, he1.out, he2.out, he3.out, he4.out, he5.out, he6.out, he7.out, Option.bind_some, Option.map_some]
                  have hacc : (((((((([] ++ vs0) ++ vs1) ++ vs2) ++ vs3) ++ vs4) ++ vs5) ++ vs6) ++ vs7) = ((vs0 ++ (vs1 ++ (vs2 ++ (vs3 ++ (vs4 ++ vs5))))) ++ (vs6 ++ vs7)) := by simp [List.append_assoc]
                  have hlen : (((((((([] ++ vs0) ++ vs1) ++ vs2) ++ vs3) ++ vs4) ++ vs5) ++ vs6) ++ vs7).length = 8 := by simp [hv0.out, hv1.out, hv2.out, hv3.out, hv4.out, hv5.out, hv6.out, hv7.out]
                  have hfin := Lib.hid (hA.out.done (size := 8) (E := eTable) (x := ((x0, (x1, (x2, (x3, (x4, x5))))), (x6, x7))) hlen (by rw [hacc]; exact ⟨(vs0 ++ (vs1 ++ (vs2 ++ (vs3 ++ (vs4 ++ vs5))))), (vs6 ++ vs7), rfl, ⟨vs0, (vs1 ++ (vs2 ++ (vs3 ++ (vs4 ++ vs5)))), rfl, hE0.out, ⟨vs1, (vs2 ++ (vs3 ++ (vs4 ++ vs5))), rfl, hE1.out, ⟨vs2, (vs3 ++ (vs4 ++ vs5)), rfl, hE2.out, ⟨vs3, (vs4 ++ vs5), rfl, hE3.out, ⟨vs4, vs5, rfl, hE4.out, hE5.out⟩⟩⟩⟩⟩, ⟨vs6, vs7, rfl, hE6.out, hE7.out⟩⟩))
                  clear hacc hlen hA
                  go_wp2
                  go_end0
                  exact hfin.out

end Go.Proofs.Ytlfhgmoafgjdcaa
