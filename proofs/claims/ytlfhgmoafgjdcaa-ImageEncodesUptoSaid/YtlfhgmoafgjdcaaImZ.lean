/- The reader of images over a table's things, as contracts (made by genImT.py). -/
import Derived.Test.YtlfhgmoafgjdcaaImT
namespace Go.Proofs.Ytlfhgmoafgjdcaa
open Go.ChangeShapes Go.WideShapes Go.ChangeAt Go.RowKit
set_option linter.unusedVariables false
set_option linter.unusedSimpArgs false

abbrev eInput : World → List Value → TInput → Prop := (eP eInt (eP eInt (eP eInt eInt)))
def rdInput : Rd TInput := (rd2 Prod.mk rdN (rd2 Prod.mk rdN (rd2 Prod.mk rdN rdN)))
theorem keep_Input : KeepE ([] : List TypeId) eInput := (keepE_P (KeepE.more keepE_int (by decide)) (keepE_P (KeepE.more keepE_int (by decide)) (keepE_P (KeepE.more keepE_int (by decide)) (KeepE.more keepE_int (by decide)))))
set_option maxHeartbeats 16000000 in
set_option maxRecDepth 100000 in
theorem Input_r (lo rb g B G o : Nat) (t : TypeId) (cur : Array Value) (l0 : List Nat) (w : World) (h : RdS w lo rb g B l0) (hP : RdP w lo g G o t cur) (hs : o + 4 ≤ cur.size) (hz : ∀ (j : Nat) (u : Value), ([.int .i64 0, .int .i64 0, .int .i64 0, .int .i64 0] : List Value)[j]? = some u → cur[o + j]? = some u) (ht : t ∉ ([] : List TypeId)) :
    Calls Try.prog 108 #[(.iface 73 (.pointer (some ⟨rb, 0, none⟩))), .pointer (some ⟨G, o, none⟩)] w (REnd lo rb g B G t cur o 4 eInput (rdInput l0) w) := by
  have hmf : ∀ (fn : Fn) (first cap : Array Value) (w : World), (Instr.makeFunc fn first cap).run Try.prog w = .ok (.func fn first cap) w := fun _ _ _ _ => rfl
  have nanumber := rna_number ⟨rb, 0, none⟩
  have menumber := rme_number ⟨rb, 0, none⟩
  obtain ⟨hG, hne, hlo, ho⟩ := hP
  have tR : 109 ∉ ([] : List TypeId) := by decide
  have hA := Lib.hid (SA.start (o := o) h hG)
  obtain ⟨R, hR⟩ : ∃ R, R = rdInput l0 := ⟨_, rfl⟩
  rw [← hR]
  replace hR := Lib.hid hR
  replace hz := Lib.hid hz
  clear h hG
  go_enter Try.func108, Try.ntmps108
  go_upto_region 0 with (fail)
  have C := number_r lo rb g B G (o) t (putC cur o []) l0 w.drew hA.out.rd.drew ⟨hA.out.blk, hne, hlo, (hA.out.room (k := 0) hs (by rfl) (by decide))⟩
  cases e0 : rdN l0 with
  | none =>
    rw [e0] at C
    obtain rfl : R = none := by rw [hR.out]; simp only [rdInput, rd2, e0, Option.bind_some, Option.bind_none, Option.map_some, Option.map_none]
    go_region_with (go_at_call 160; refine C.mono ?_; rintro e u he; obtain ⟨rfl, hf⟩ := hA.out.drew.stop he; refine paysI ⟨#[], []⟩ u ⟨rfl, hf, rfl⟩ ?_)
    trivial
  | some y =>
    obtain ⟨x0, l1⟩ := y
    rw [e0] at C
    have he0 := Lib.hid e0
    go_region_with (go_at_call 160; refine C.mono ?_; rintro e w0 he; obtain ⟨rfl, vs0, hv0, hE0, hA', hf⟩ := hA.out.drew.step (k := 0) (m := 1) hs (by rfl) (by decide) he)

    replace hE0 := Lib.hid hE0
    replace hv0 := Lib.hid hv0
    replace hA' := Lib.hid hA'
    clear hA C e0 hf
    have hA := hA'
    clear hA'
    go_upto_region 1 with (fail)
    have C := number_r lo rb g B G (o + 1) t (putC cur o ([] ++ vs0)) l1 w0.drew hA.out.rd.drew ⟨hA.out.blk, hne, hlo, (hA.out.room (k := 1) hs (by simp [hv0.out]) (by decide))⟩
    cases e1 : rdN l1 with
    | none =>
      rw [e1] at C
      obtain rfl : R = none := by rw [hR.out]; simp only [rdInput, rd2, he0.out, e1, Option.bind_some, Option.bind_none, Option.map_some, Option.map_none]
      go_region_with (go_at_call 160; refine C.mono ?_; rintro e u he; obtain ⟨rfl, hf⟩ := hA.out.drew.stop he; refine paysI ⟨#[], []⟩ u ⟨rfl, hf, rfl⟩ ?_)
      trivial
    | some y =>
      obtain ⟨x1, l2⟩ := y
      rw [e1] at C
      have he1 := Lib.hid e1
      go_region_with (go_at_call 160; refine C.mono ?_; rintro e w1 he; obtain ⟨rfl, vs1, hv1, hE1, hA', hf⟩ := hA.out.drew.step (k := 1) (m := 1) hs (by simp [hv0.out]) (by decide) he)
      have hE0 := Lib.hid (hA.out.keepE (KeepE.more keepE_int (by decide) : KeepE ([] : List TypeId) eInt) (RFr.undrew hf) tR ht hE0.out)
      replace hE1 := Lib.hid hE1
      replace hv1 := Lib.hid hv1
      replace hA' := Lib.hid hA'
      clear hA C e1 hf
      have hA := hA'
      clear hA'
      go_upto_region 2 with (fail)
      have C := number_r lo rb g B G (o + 2) t (putC cur o (([] ++ vs0) ++ vs1)) l2 w1.drew hA.out.rd.drew ⟨hA.out.blk, hne, hlo, (hA.out.room (k := 2) hs (by simp [hv0.out, hv1.out]) (by decide))⟩
      cases e2 : rdN l2 with
      | none =>
        rw [e2] at C
        obtain rfl : R = none := by rw [hR.out]; simp only [rdInput, rd2, he0.out, he1.out, e2, Option.bind_some, Option.bind_none, Option.map_some, Option.map_none]
        go_region_with (go_at_call 160; refine C.mono ?_; rintro e u he; obtain ⟨rfl, hf⟩ := hA.out.drew.stop he; refine paysI ⟨#[], []⟩ u ⟨rfl, hf, rfl⟩ ?_)
        trivial
      | some y =>
        obtain ⟨x2, l3⟩ := y
        rw [e2] at C
        have he2 := Lib.hid e2
        go_region_with (go_at_call 160; refine C.mono ?_; rintro e w2 he; obtain ⟨rfl, vs2, hv2, hE2, hA', hf⟩ := hA.out.drew.step (k := 2) (m := 1) hs (by simp [hv0.out, hv1.out]) (by decide) he)
        have hE0 := Lib.hid (hA.out.keepE (KeepE.more keepE_int (by decide) : KeepE ([] : List TypeId) eInt) (RFr.undrew hf) tR ht hE0.out)
        have hE1 := Lib.hid (hA.out.keepE (KeepE.more keepE_int (by decide) : KeepE ([] : List TypeId) eInt) (RFr.undrew hf) tR ht hE1.out)
        replace hE2 := Lib.hid hE2
        replace hv2 := Lib.hid hv2
        replace hA' := Lib.hid hA'
        clear hA C e2 hf
        have hA := hA'
        clear hA'
        go_upto_region 3 with (fail)
        have C := number_r lo rb g B G (o + 3) t (putC cur o ((([] ++ vs0) ++ vs1) ++ vs2)) l3 w2.drew hA.out.rd.drew ⟨hA.out.blk, hne, hlo, (hA.out.room (k := 3) hs (by simp [hv0.out, hv1.out, hv2.out]) (by decide))⟩
        cases e3 : rdN l3 with
        | none =>
          rw [e3] at C
          obtain rfl : R = none := by rw [hR.out]; simp only [rdInput, rd2, he0.out, he1.out, he2.out, e3, Option.bind_some, Option.bind_none, Option.map_some, Option.map_none]
          go_region_with (go_at_call 160; refine C.mono ?_; rintro e u he; obtain ⟨rfl, hf⟩ := hA.out.drew.stop he; refine paysI ⟨#[], []⟩ u ⟨rfl, hf, rfl⟩ ?_)
          trivial
        | some y =>
          obtain ⟨x3, l4⟩ := y
          rw [e3] at C
          have he3 := Lib.hid e3
          go_region_with (go_at_call 160; refine C.mono ?_; rintro e w3 he; obtain ⟨rfl, vs3, hv3, hE3, hA', hf⟩ := hA.out.drew.step (k := 3) (m := 1) hs (by simp [hv0.out, hv1.out, hv2.out]) (by decide) he)
          have hE0 := Lib.hid (hA.out.keepE (KeepE.more keepE_int (by decide) : KeepE ([] : List TypeId) eInt) (RFr.undrew hf) tR ht hE0.out)
          have hE1 := Lib.hid (hA.out.keepE (KeepE.more keepE_int (by decide) : KeepE ([] : List TypeId) eInt) (RFr.undrew hf) tR ht hE1.out)
          have hE2 := Lib.hid (hA.out.keepE (KeepE.more keepE_int (by decide) : KeepE ([] : List TypeId) eInt) (RFr.undrew hf) tR ht hE2.out)
          replace hE3 := Lib.hid hE3
          replace hv3 := Lib.hid hv3
          replace hA' := Lib.hid hA'
          clear hA C e3 hf
          have hA := hA'
          clear hA'
          obtain rfl : R = some ((x0, (x1, (x2, x3))), l4) := by rw [hR.out]; simp only [rdInput, rd2, he0.out, he1.out, he2.out, he3.out, Option.bind_some, Option.map_some]
          have hacc : (((([] ++ vs0) ++ vs1) ++ vs2) ++ vs3) = (vs0 ++ (vs1 ++ (vs2 ++ vs3))) := by simp [List.append_assoc]
          have hlen : (((([] ++ vs0) ++ vs1) ++ vs2) ++ vs3).length = 4 := by simp [hv0.out, hv1.out, hv2.out, hv3.out]
          have hfin := Lib.hid (hA.out.done (size := 4) (E := eInput) (x := (x0, (x1, (x2, x3)))) hlen (by rw [hacc]; exact ⟨vs0, (vs1 ++ (vs2 ++ vs3)), rfl, hE0.out, ⟨vs1, (vs2 ++ vs3), rfl, hE1.out, ⟨vs2, vs3, rfl, hE2.out, hE3.out⟩⟩⟩))
          clear hacc hlen hA
          go_wp2
          go_end0
          exact hfin.out


theorem z_Input : (Try.prog.info? 89).map (fun i => (i.zero, i.size, i.bytes)) = some (some (.agg #[.int .i64 0, .int .i64 0, .int .i64 0, .int .i64 0]), 4, 32) := by kernel_rfl
set_option maxHeartbeats 16000000 in
set_option maxRecDepth 100000 in
theorem list_Input_r (lo rb g B G o : Nat) (t : TypeId) (cur : Array Value) (l : List Nat) (w : World) (h : RdS w lo rb g B l) (hP : RdP w lo g G o t cur) (hz : cur[o]? = some (.slice none 0 0)) (ht : t ∉ ([] : List TypeId)) :
    Calls Try.prog 107 #[(.iface 73 (.pointer (some ⟨rb, 0, none⟩))), .pointer (some ⟨G, o, none⟩), .func (.func 108) #[] #[]] w (REnd lo rb g B G t cur o 1 (eL eInput 89 4) (rdL rdInput l) w) := by
  have hmf : ∀ (fn : Fn) (first cap : Array Value) (w : World), (Instr.makeFunc fn first cap).run Try.prog w = .ok (.func fn first cap) w := fun _ _ _ _ => rfl
  have nacount := rna_count ⟨rb, 0, none⟩
  have mecount := rme_count ⟨rb, 0, none⟩
  obtain ⟨i0, hi, hz0, hz1, hz2⟩ := info_parts z_Input
  have tT : 89 ∉ ([] : List TypeId) := by decide
  have tR : 109 ∉ ([] : List TypeId) := by decide
  have tTR : 89 ≠ 109 := by decide
  obtain ⟨hG, hne, hlo, ho⟩ := hP
  have hp : w.cell? ⟨G, o, none⟩ = some (.slice none 0 0) := by rw [hG.cell]; exact hz
  have ha : LA ⟨89, t, 4, lo, rb, g, B, G, o, cur⟩ w := ⟨hG.lt, hlo, hne, ho⟩
  have CC := fun n => count_r lo rb g B l n w.drew h.drew
  unfold rdL
  replace ha := Lib.hid ha
  replace hG := Lib.hid hG
  replace hz := Lib.hid hz
  replace hz1 := Lib.hid hz1
  replace hz2 := Lib.hid hz2
  replace hi := Lib.hid hi
  clear h
  cases h0 : rdC l with
  | none =>
    rw [h0] at CC
    rw [Option.bind_none]
    go_enter Try.func107, Try.ntmps107
    go_upto_region 0 with (fail)
    go_region_with (go_at_call 159; refine (CC _).mono ?_; rintro e u ⟨hb, rfl⟩; refine paysI ⟨#[], []⟩ u ⟨rfl, RFr.of_grown (grown_drew hb) G, rfl⟩ ?_)
    all_goals trivial
  | some y =>
    obtain ⟨n, l1⟩ := y
    rw [h0] at CC
    rw [Option.bind_some]
    clear h0
    go_enter Try.func107, Try.ntmps107
    go_upto_region 0 with (fail)
    go_cut [15, 16] from 7 to 16 (fun vn vi w' => vn = .int .i64 (n : Int) ∧ vi = .int .i64 0 ∧ n ≤ 1024 ∧ w.grownBy w' (some g) ∧ RdS w' lo rb g B l1)
    case first =>
      go_region_with (go_at_call 159; refine (CC _).mono ?_; rintro e u ⟨hb, rfl, hn, hS⟩; have hb := Lib.hid (grown_drew hb); have hn := Lib.hid hn)
      all_goals (go_wp2_with fail; go_meet; exact ⟨rfl, rfl, hn.out, hb.out, hS⟩)
    case rest =>
    obtain ⟨rfl, rfl, hn, hg, hS⟩ := hcut
    have hJ := LJ.start (E := eInput) (p := ⟨89, t, 4, lo, rb, g, B, G, o, cur⟩) ha.out hg hS hG.out hz.out
    clear CC
    go_wp2_with fail
    go_loopw [16] (fun vi wr => ∃ (k : Nat) (xs : List (TInput)) (vss : List (List Value)) (lk : List Nat) (v : Value), k ≤ n ∧ vi = .int .i64 (k : Int) ∧ LJ eInput ⟨89, t, 4, lo, rb, g, B, G, o, cur⟩ w k xs vss lk v wr ∧ LRel rdInput n l1 k xs lk) (fun vi _ => n - (intOf vi).toNat)
    case atStart => exact ⟨0, [], [], l1, _, by omega, rfl, hJ, LRel.start _ _ _⟩
    case round =>
      clear hS hg hJ
      obtain ⟨k, xs, vss, lk, v, hk, rfl, hJ, hrk⟩ := hrel
      have k0 : (0 : Int) ≤ (k : Int) := by omega
      obtain ⟨A, c, rfl⟩ := hJ.form
      have hc := hJ.here ho
      dsimp only at hc
      by_cases hlt : k < n
      · have k1 : (k : Int) < (n : Int) := by omega
        have hcA : ∀ o1 o2 : Obj, ((wr.alloc o1).alloc o2).cell? ⟨G, o, none⟩ = some (.slice A (k : Nat) c) := fun o1 o2 => cell_later (m1 _ o2) (cell_later (m1 wr o1) hc)
        have hcB : ∀ o1 : Obj, (wr.alloc o1).cell? ⟨G, o, none⟩ = some (.slice A (k : Nat) c) := fun o1 => cell_later (m1 wr o1) hc
        have hO := hJ.own
        dsimp only at hO
        have n3 : k + 1 ≤ maxLen := by unfold maxLen; omega
        have n4 : (k + 1) * 32 ≤ 140737488355328 := by omega
        have n5 : w.heap.size ≤ wr.heap.size := hJ.fr.size
        replace hJ := Lib.hid hJ
        replace hrk := Lib.hid hrk
        replace hn := Lib.hid hn
        go_upto_region 4 with (fail)
        go_region_law (refine step_append_own rfl (.tmp 28) (.tmp 32) 43 rfl w.heap.size 89 i0 (.agg #[.int .i64 0, .int .i64 0, .int .i64 0, .int .i64 0]) 4 32 Try.underlying43 hi.out hz0 hz1.out hz2.out rfl (by decide) (.slice A k c) k vss.flatten rfl ((hO.alloc _).alloc _).drew ⟨wr.heap.size + 1, 0, none⟩ 1 1 [.int .i64 0, .int .i64 0, .int .i64 0, .int .i64 0] rfl rfl (news_two wr _ _ _ _) (fun u hu => by simp at hu; rcases hu with rfl <;> rfl) n3 n4 (Nat.le_trans n5 (by simp; omega)) ?_; intro v' w3 hO3 hgrow; obtain ⟨y1, y2, g', cap, cur', rfl, hL⟩ := hJ.out.grow ha.out keep_Input tT ht tR (below_two wr _ _) hgrow hO3 rfl; dsimp only at y1 y2; replace hL := Lib.hid hL; clear hgrow hO3)
        all_goals have e1 := hL.out.here ho
        all_goals dsimp only at e1 hL
        all_goals obtain ⟨q1, q2, q3⟩ := hL.out.pre ha.out
        all_goals dsimp only at q1 q2 q3
        all_goals generalize w3.setCell ⟨G, o, none⟩ (.slice (some ⟨g', 0, none⟩) (k + 1) cap) = w4 at *
        all_goals have CE := Input_r lo rb g B g' (k * 4) 89 cur' lk w4 hL.out.rd ⟨hL.out.row, q1, q2, by omega⟩ q3 hL.out.new tT
        all_goals have kb1 : (k : Int) < ((k + 1 : Nat) : Int) := by omega
        all_goals clear hO hcA hcB y1 y2 n3 n4 n5 hc
        all_goals have h9 := hn.out
        all_goals (
          cases hx : rdInput lk with
          | none =>
            rw [hx] at CE
            replace CE := Lib.hid CE
            have hrn := Lib.hid (hrk.out.stop hlt hx)
            clear hx
            go_wp2_with fail
            refine CE.out.mono ?_; rintro e u he
            obtain ⟨rfl, hf⟩ := hL.out.stop' ha.out he
            replace hf := Lib.hid hf
            clear he
            go_wp2_with fail
            refine ⟨rfl, ?_⟩
            rw [hrn.out]
            exact ⟨hf.out, rfl⟩
          | some y =>
            obtain ⟨x, r⟩ := y
            rw [hx] at CE
            replace CE := Lib.hid CE
            have hrn := Lib.hid (hrk.out.next hlt hx)
            clear hx
            go_wp2_with fail
            refine CE.out.mono ?_; rintro e u he
            obtain ⟨rfl, vs, hJ2⟩ := hL.out.next' ha.out keep_Input tT tR tTR rfl he
            replace hJ2 := Lib.hid hJ2
            clear he
            go_wp2
            go_roundw
            case rel => exact ⟨k + 1, xs ++ [x], vss ++ [vs], r, _, by omega, by go_num, hJ2.out, hrn.out⟩
            case measure => simp [intOf]; omega)
      · obtain rfl : k = n := by omega
        have hfin := hJ.done
        rw [← hrk.done] at hfin
        dsimp only at hfin
        replace hfin := Lib.hid hfin
        clear hrk hJ
        go_wp2
        go_end0
        exact hfin.out


abbrev eValue : World → List Value → TValue → Prop := (eP eInt eBits)
def rdValue : Rd TValue := (rd2 Prod.mk rdN rdB)
theorem keep_Value : KeepE ([] : List TypeId) eValue := (keepE_P (KeepE.more keepE_int (by decide)) (KeepE.more keepE_bits (by decide)))
set_option maxHeartbeats 16000000 in
set_option maxRecDepth 100000 in
theorem Value_r (lo rb g B G o : Nat) (t : TypeId) (cur : Array Value) (l0 : List Nat) (w : World) (h : RdS w lo rb g B l0) (hP : RdP w lo g G o t cur) (hs : o + 2 ≤ cur.size) (hz : ∀ (j : Nat) (u : Value), ([.int .i64 0, .int .u64 0] : List Value)[j]? = some u → cur[o + j]? = some u) (ht : t ∉ ([] : List TypeId)) :
    Calls Try.prog 110 #[(.iface 73 (.pointer (some ⟨rb, 0, none⟩))), .pointer (some ⟨G, o, none⟩)] w (REnd lo rb g B G t cur o 2 eValue (rdValue l0) w) := by
  have hmf : ∀ (fn : Fn) (first cap : Array Value) (w : World), (Instr.makeFunc fn first cap).run Try.prog w = .ok (.func fn first cap) w := fun _ _ _ _ => rfl
  have nanumber := rna_number ⟨rb, 0, none⟩
  have menumber := rme_number ⟨rb, 0, none⟩
  have nabits := rna_bits ⟨rb, 0, none⟩
  have mebits := rme_bits ⟨rb, 0, none⟩
  obtain ⟨hG, hne, hlo, ho⟩ := hP
  have tR : 109 ∉ ([] : List TypeId) := by decide
  have hA := Lib.hid (SA.start (o := o) h hG)
  obtain ⟨R, hR⟩ : ∃ R, R = rdValue l0 := ⟨_, rfl⟩
  rw [← hR]
  replace hR := Lib.hid hR
  replace hz := Lib.hid hz
  clear h hG
  go_enter Try.func110, Try.ntmps110
  go_upto_region 0 with (fail)
  have C := number_r lo rb g B G (o) t (putC cur o []) l0 w.drew hA.out.rd.drew ⟨hA.out.blk, hne, hlo, (hA.out.room (k := 0) hs (by rfl) (by decide))⟩
  cases e0 : rdN l0 with
  | none =>
    rw [e0] at C
    obtain rfl : R = none := by rw [hR.out]; simp only [rdValue, rd2, e0, Option.bind_some, Option.bind_none, Option.map_some, Option.map_none]
    go_region_with (go_at_call 160; refine C.mono ?_; rintro e u he; obtain ⟨rfl, hf⟩ := hA.out.drew.stop he; refine paysI ⟨#[], []⟩ u ⟨rfl, hf, rfl⟩ ?_)
    trivial
  | some y =>
    obtain ⟨x0, l1⟩ := y
    rw [e0] at C
    have he0 := Lib.hid e0
    go_region_with (go_at_call 160; refine C.mono ?_; rintro e w0 he; obtain ⟨rfl, vs0, hv0, hE0, hA', hf⟩ := hA.out.drew.step (k := 0) (m := 1) hs (by rfl) (by decide) he)

    replace hE0 := Lib.hid hE0
    replace hv0 := Lib.hid hv0
    replace hA' := Lib.hid hA'
    clear hA C e0 hf
    have hA := hA'
    clear hA'
    go_upto_region 1 with (fail)
    have C := bits_r lo rb g B G (o + 1) t (putC cur o ([] ++ vs0)) l1 w0.drew hA.out.rd.drew ⟨hA.out.blk, hne, hlo, (hA.out.room (k := 1) hs (by simp [hv0.out]) (by decide))⟩
    cases e1 : rdB l1 with
    | none =>
      rw [e1] at C
      obtain rfl : R = none := by rw [hR.out]; simp only [rdValue, rd2, he0.out, e1, Option.bind_some, Option.bind_none, Option.map_some, Option.map_none]
      go_region_with (go_at_call 158; refine C.mono ?_; rintro e u he; obtain ⟨rfl, hf⟩ := hA.out.drew.stop he; refine paysI ⟨#[], []⟩ u ⟨rfl, hf, rfl⟩ ?_)
      trivial
    | some y =>
      obtain ⟨x1, l2⟩ := y
      rw [e1] at C
      have he1 := Lib.hid e1
      go_region_with (go_at_call 158; refine C.mono ?_; rintro e w1 he; obtain ⟨rfl, vs1, hv1, hE1, hA', hf⟩ := hA.out.drew.step (k := 1) (m := 1) hs (by simp [hv0.out]) (by decide) he)
      have hE0 := Lib.hid (hA.out.keepE (KeepE.more keepE_int (by decide) : KeepE ([] : List TypeId) eInt) (RFr.undrew hf) tR ht hE0.out)
      replace hE1 := Lib.hid hE1
      replace hv1 := Lib.hid hv1
      replace hA' := Lib.hid hA'
      clear hA C e1 hf
      have hA := hA'
      clear hA'
      obtain rfl : R = some ((x0, x1), l2) := by rw [hR.out]; simp only [rdValue, rd2, he0.out, he1.out, Option.bind_some, Option.map_some]
      have hacc : (([] ++ vs0) ++ vs1) = (vs0 ++ vs1) := by simp [List.append_assoc]
      have hlen : (([] ++ vs0) ++ vs1).length = 2 := by simp [hv0.out, hv1.out]
      have hfin := Lib.hid (hA.out.done (size := 2) (E := eValue) (x := (x0, x1)) hlen (by rw [hacc]; exact ⟨vs0, vs1, rfl, hE0.out, hE1.out⟩))
      clear hacc hlen hA
      go_wp2
      go_end0
      exact hfin.out


theorem z_Value : (Try.prog.info? 106).map (fun i => (i.zero, i.size, i.bytes)) = some (some (.agg #[.int .i64 0, .int .u64 0]), 2, 16) := by kernel_rfl
set_option maxHeartbeats 16000000 in
set_option maxRecDepth 100000 in
theorem list_Value_r (lo rb g B G o : Nat) (t : TypeId) (cur : Array Value) (l : List Nat) (w : World) (h : RdS w lo rb g B l) (hP : RdP w lo g G o t cur) (hz : cur[o]? = some (.slice none 0 0)) (ht : t ∉ ([] : List TypeId)) :
    Calls Try.prog 109 #[(.iface 73 (.pointer (some ⟨rb, 0, none⟩))), .pointer (some ⟨G, o, none⟩), .func (.func 110) #[] #[]] w (REnd lo rb g B G t cur o 1 (eL eValue 106 2) (rdL rdValue l) w) := by
  have hmf : ∀ (fn : Fn) (first cap : Array Value) (w : World), (Instr.makeFunc fn first cap).run Try.prog w = .ok (.func fn first cap) w := fun _ _ _ _ => rfl
  have nacount := rna_count ⟨rb, 0, none⟩
  have mecount := rme_count ⟨rb, 0, none⟩
  obtain ⟨i0, hi, hz0, hz1, hz2⟩ := info_parts z_Value
  have tT : 106 ∉ ([] : List TypeId) := by decide
  have tR : 109 ∉ ([] : List TypeId) := by decide
  have tTR : 106 ≠ 109 := by decide
  obtain ⟨hG, hne, hlo, ho⟩ := hP
  have hp : w.cell? ⟨G, o, none⟩ = some (.slice none 0 0) := by rw [hG.cell]; exact hz
  have ha : LA ⟨106, t, 2, lo, rb, g, B, G, o, cur⟩ w := ⟨hG.lt, hlo, hne, ho⟩
  have CC := fun n => count_r lo rb g B l n w.drew h.drew
  unfold rdL
  replace ha := Lib.hid ha
  replace hG := Lib.hid hG
  replace hz := Lib.hid hz
  replace hz1 := Lib.hid hz1
  replace hz2 := Lib.hid hz2
  replace hi := Lib.hid hi
  clear h
  cases h0 : rdC l with
  | none =>
    rw [h0] at CC
    rw [Option.bind_none]
    go_enter Try.func109, Try.ntmps109
    go_upto_region 0 with (fail)
    go_region_with (go_at_call 159; refine (CC _).mono ?_; rintro e u ⟨hb, rfl⟩; refine paysI ⟨#[], []⟩ u ⟨rfl, RFr.of_grown (grown_drew hb) G, rfl⟩ ?_)
    all_goals trivial
  | some y =>
    obtain ⟨n, l1⟩ := y
    rw [h0] at CC
    rw [Option.bind_some]
    clear h0
    go_enter Try.func109, Try.ntmps109
    go_upto_region 0 with (fail)
    go_cut [15, 16] from 7 to 16 (fun vn vi w' => vn = .int .i64 (n : Int) ∧ vi = .int .i64 0 ∧ n ≤ 1024 ∧ w.grownBy w' (some g) ∧ RdS w' lo rb g B l1)
    case first =>
      go_region_with (go_at_call 159; refine (CC _).mono ?_; rintro e u ⟨hb, rfl, hn, hS⟩; have hb := Lib.hid (grown_drew hb); have hn := Lib.hid hn)
      all_goals (go_wp2_with fail; go_meet; exact ⟨rfl, rfl, hn.out, hb.out, hS⟩)
    case rest =>
    obtain ⟨rfl, rfl, hn, hg, hS⟩ := hcut
    have hJ := LJ.start (E := eValue) (p := ⟨106, t, 2, lo, rb, g, B, G, o, cur⟩) ha.out hg hS hG.out hz.out
    clear CC
    go_wp2_with fail
    go_loopw [16] (fun vi wr => ∃ (k : Nat) (xs : List (TValue)) (vss : List (List Value)) (lk : List Nat) (v : Value), k ≤ n ∧ vi = .int .i64 (k : Int) ∧ LJ eValue ⟨106, t, 2, lo, rb, g, B, G, o, cur⟩ w k xs vss lk v wr ∧ LRel rdValue n l1 k xs lk) (fun vi _ => n - (intOf vi).toNat)
    case atStart => exact ⟨0, [], [], l1, _, by omega, rfl, hJ, LRel.start _ _ _⟩
    case round =>
      clear hS hg hJ
      obtain ⟨k, xs, vss, lk, v, hk, rfl, hJ, hrk⟩ := hrel
      have k0 : (0 : Int) ≤ (k : Int) := by omega
      obtain ⟨A, c, rfl⟩ := hJ.form
      have hc := hJ.here ho
      dsimp only at hc
      by_cases hlt : k < n
      · have k1 : (k : Int) < (n : Int) := by omega
        have hcA : ∀ o1 o2 : Obj, ((wr.alloc o1).alloc o2).cell? ⟨G, o, none⟩ = some (.slice A (k : Nat) c) := fun o1 o2 => cell_later (m1 _ o2) (cell_later (m1 wr o1) hc)
        have hcB : ∀ o1 : Obj, (wr.alloc o1).cell? ⟨G, o, none⟩ = some (.slice A (k : Nat) c) := fun o1 => cell_later (m1 wr o1) hc
        have hO := hJ.own
        dsimp only at hO
        have n3 : k + 1 ≤ maxLen := by unfold maxLen; omega
        have n4 : (k + 1) * 16 ≤ 140737488355328 := by omega
        have n5 : w.heap.size ≤ wr.heap.size := hJ.fr.size
        replace hJ := Lib.hid hJ
        replace hrk := Lib.hid hrk
        replace hn := Lib.hid hn
        go_upto_region 4 with (fail)
        go_region_law (refine step_append_own rfl (.tmp 28) (.tmp 32) 44 rfl w.heap.size 106 i0 (.agg #[.int .i64 0, .int .u64 0]) 2 16 Try.underlying44 hi.out hz0 hz1.out hz2.out rfl (by decide) (.slice A k c) k vss.flatten rfl ((hO.alloc _).alloc _).drew ⟨wr.heap.size + 1, 0, none⟩ 1 1 [.int .i64 0, .int .u64 0] rfl rfl (news_two wr _ _ _ _) (fun u hu => by simp at hu; rcases hu with rfl | rfl <;> rfl) n3 n4 (Nat.le_trans n5 (by simp; omega)) ?_; intro v' w3 hO3 hgrow; obtain ⟨y1, y2, g', cap, cur', rfl, hL⟩ := hJ.out.grow ha.out keep_Value tT ht tR (below_two wr _ _) hgrow hO3 rfl; dsimp only at y1 y2; replace hL := Lib.hid hL; clear hgrow hO3)
        all_goals have e1 := hL.out.here ho
        all_goals dsimp only at e1 hL
        all_goals obtain ⟨q1, q2, q3⟩ := hL.out.pre ha.out
        all_goals dsimp only at q1 q2 q3
        all_goals generalize w3.setCell ⟨G, o, none⟩ (.slice (some ⟨g', 0, none⟩) (k + 1) cap) = w4 at *
        all_goals have CE := Value_r lo rb g B g' (k * 2) 106 cur' lk w4 hL.out.rd ⟨hL.out.row, q1, q2, by omega⟩ q3 hL.out.new tT
        all_goals have kb1 : (k : Int) < ((k + 1 : Nat) : Int) := by omega
        all_goals clear hO hcA hcB y1 y2 n3 n4 n5 hc
        all_goals have h9 := hn.out
        all_goals (
          cases hx : rdValue lk with
          | none =>
            rw [hx] at CE
            replace CE := Lib.hid CE
            have hrn := Lib.hid (hrk.out.stop hlt hx)
            clear hx
            go_wp2_with fail
            refine CE.out.mono ?_; rintro e u he
            obtain ⟨rfl, hf⟩ := hL.out.stop' ha.out he
            replace hf := Lib.hid hf
            clear he
            go_wp2_with fail
            refine ⟨rfl, ?_⟩
            rw [hrn.out]
            exact ⟨hf.out, rfl⟩
          | some y =>
            obtain ⟨x, r⟩ := y
            rw [hx] at CE
            replace CE := Lib.hid CE
            have hrn := Lib.hid (hrk.out.next hlt hx)
            clear hx
            go_wp2_with fail
            refine CE.out.mono ?_; rintro e u he
            obtain ⟨rfl, vs, hJ2⟩ := hL.out.next' ha.out keep_Value tT tR tTR rfl he
            replace hJ2 := Lib.hid hJ2
            clear he
            go_wp2
            go_roundw
            case rel => exact ⟨k + 1, xs ++ [x], vss ++ [vs], r, _, by omega, by go_num, hJ2.out, hrn.out⟩
            case measure => simp [intOf]; omega)
      · obtain rfl : k = n := by omega
        have hfin := hJ.done
        rw [← hrk.done] at hfin
        dsimp only at hfin
        replace hfin := Lib.hid hfin
        clear hrk hJ
        go_wp2
        go_end0
        exact hfin.out


abbrev eIns : World → List Value → TIns → Prop := (eP eInt (eP eInt (eP eInt eInt)))
def rdIns : Rd TIns := (rd2 Prod.mk rdN (rd2 Prod.mk rdN (rd2 Prod.mk rdN rdN)))
theorem keep_Ins : KeepE ([] : List TypeId) eIns := (keepE_P (KeepE.more keepE_int (by decide)) (keepE_P (KeepE.more keepE_int (by decide)) (keepE_P (KeepE.more keepE_int (by decide)) (KeepE.more keepE_int (by decide)))))
set_option maxHeartbeats 16000000 in
set_option maxRecDepth 100000 in
theorem Ins_r (lo rb g B G o : Nat) (t : TypeId) (cur : Array Value) (l0 : List Nat) (w : World) (h : RdS w lo rb g B l0) (hP : RdP w lo g G o t cur) (hs : o + 4 ≤ cur.size) (hz : ∀ (j : Nat) (u : Value), ([.int .i64 0, .int .i64 0, .int .i64 0, .int .i64 0] : List Value)[j]? = some u → cur[o + j]? = some u) (ht : t ∉ ([] : List TypeId)) :
    Calls Try.prog 112 #[(.iface 73 (.pointer (some ⟨rb, 0, none⟩))), .pointer (some ⟨G, o, none⟩)] w (REnd lo rb g B G t cur o 4 eIns (rdIns l0) w) := by
  have hmf : ∀ (fn : Fn) (first cap : Array Value) (w : World), (Instr.makeFunc fn first cap).run Try.prog w = .ok (.func fn first cap) w := fun _ _ _ _ => rfl
  have nanumber := rna_number ⟨rb, 0, none⟩
  have menumber := rme_number ⟨rb, 0, none⟩
  obtain ⟨hG, hne, hlo, ho⟩ := hP
  have tR : 109 ∉ ([] : List TypeId) := by decide
  have hA := Lib.hid (SA.start (o := o) h hG)
  obtain ⟨R, hR⟩ : ∃ R, R = rdIns l0 := ⟨_, rfl⟩
  rw [← hR]
  replace hR := Lib.hid hR
  replace hz := Lib.hid hz
  clear h hG
  go_enter Try.func112, Try.ntmps112
  go_upto_region 0 with (fail)
  have C := number_r lo rb g B G (o) t (putC cur o []) l0 w.drew hA.out.rd.drew ⟨hA.out.blk, hne, hlo, (hA.out.room (k := 0) hs (by rfl) (by decide))⟩
  cases e0 : rdN l0 with
  | none =>
    rw [e0] at C
    obtain rfl : R = none := by rw [hR.out]; simp only [rdIns, rd2, e0, Option.bind_some, Option.bind_none, Option.map_some, Option.map_none]
    go_region_with (go_at_call 160; refine C.mono ?_; rintro e u he; obtain ⟨rfl, hf⟩ := hA.out.drew.stop he; refine paysI ⟨#[], []⟩ u ⟨rfl, hf, rfl⟩ ?_)
    trivial
  | some y =>
    obtain ⟨x0, l1⟩ := y
    rw [e0] at C
    have he0 := Lib.hid e0
    go_region_with (go_at_call 160; refine C.mono ?_; rintro e w0 he; obtain ⟨rfl, vs0, hv0, hE0, hA', hf⟩ := hA.out.drew.step (k := 0) (m := 1) hs (by rfl) (by decide) he)

    replace hE0 := Lib.hid hE0
    replace hv0 := Lib.hid hv0
    replace hA' := Lib.hid hA'
    clear hA C e0 hf
    have hA := hA'
    clear hA'
    go_upto_region 1 with (fail)
    have C := number_r lo rb g B G (o + 1) t (putC cur o ([] ++ vs0)) l1 w0.drew hA.out.rd.drew ⟨hA.out.blk, hne, hlo, (hA.out.room (k := 1) hs (by simp [hv0.out]) (by decide))⟩
    cases e1 : rdN l1 with
    | none =>
      rw [e1] at C
      obtain rfl : R = none := by rw [hR.out]; simp only [rdIns, rd2, he0.out, e1, Option.bind_some, Option.bind_none, Option.map_some, Option.map_none]
      go_region_with (go_at_call 160; refine C.mono ?_; rintro e u he; obtain ⟨rfl, hf⟩ := hA.out.drew.stop he; refine paysI ⟨#[], []⟩ u ⟨rfl, hf, rfl⟩ ?_)
      trivial
    | some y =>
      obtain ⟨x1, l2⟩ := y
      rw [e1] at C
      have he1 := Lib.hid e1
      go_region_with (go_at_call 160; refine C.mono ?_; rintro e w1 he; obtain ⟨rfl, vs1, hv1, hE1, hA', hf⟩ := hA.out.drew.step (k := 1) (m := 1) hs (by simp [hv0.out]) (by decide) he)
      have hE0 := Lib.hid (hA.out.keepE (KeepE.more keepE_int (by decide) : KeepE ([] : List TypeId) eInt) (RFr.undrew hf) tR ht hE0.out)
      replace hE1 := Lib.hid hE1
      replace hv1 := Lib.hid hv1
      replace hA' := Lib.hid hA'
      clear hA C e1 hf
      have hA := hA'
      clear hA'
      go_upto_region 2 with (fail)
      have C := number_r lo rb g B G (o + 2) t (putC cur o (([] ++ vs0) ++ vs1)) l2 w1.drew hA.out.rd.drew ⟨hA.out.blk, hne, hlo, (hA.out.room (k := 2) hs (by simp [hv0.out, hv1.out]) (by decide))⟩
      cases e2 : rdN l2 with
      | none =>
        rw [e2] at C
        obtain rfl : R = none := by rw [hR.out]; simp only [rdIns, rd2, he0.out, he1.out, e2, Option.bind_some, Option.bind_none, Option.map_some, Option.map_none]
        go_region_with (go_at_call 160; refine C.mono ?_; rintro e u he; obtain ⟨rfl, hf⟩ := hA.out.drew.stop he; refine paysI ⟨#[], []⟩ u ⟨rfl, hf, rfl⟩ ?_)
        trivial
      | some y =>
        obtain ⟨x2, l3⟩ := y
        rw [e2] at C
        have he2 := Lib.hid e2
        go_region_with (go_at_call 160; refine C.mono ?_; rintro e w2 he; obtain ⟨rfl, vs2, hv2, hE2, hA', hf⟩ := hA.out.drew.step (k := 2) (m := 1) hs (by simp [hv0.out, hv1.out]) (by decide) he)
        have hE0 := Lib.hid (hA.out.keepE (KeepE.more keepE_int (by decide) : KeepE ([] : List TypeId) eInt) (RFr.undrew hf) tR ht hE0.out)
        have hE1 := Lib.hid (hA.out.keepE (KeepE.more keepE_int (by decide) : KeepE ([] : List TypeId) eInt) (RFr.undrew hf) tR ht hE1.out)
        replace hE2 := Lib.hid hE2
        replace hv2 := Lib.hid hv2
        replace hA' := Lib.hid hA'
        clear hA C e2 hf
        have hA := hA'
        clear hA'
        go_upto_region 3 with (fail)
        have C := number_r lo rb g B G (o + 3) t (putC cur o ((([] ++ vs0) ++ vs1) ++ vs2)) l3 w2.drew hA.out.rd.drew ⟨hA.out.blk, hne, hlo, (hA.out.room (k := 3) hs (by simp [hv0.out, hv1.out, hv2.out]) (by decide))⟩
        cases e3 : rdN l3 with
        | none =>
          rw [e3] at C
          obtain rfl : R = none := by rw [hR.out]; simp only [rdIns, rd2, he0.out, he1.out, he2.out, e3, Option.bind_some, Option.bind_none, Option.map_some, Option.map_none]
          go_region_with (go_at_call 160; refine C.mono ?_; rintro e u he; obtain ⟨rfl, hf⟩ := hA.out.drew.stop he; refine paysI ⟨#[], []⟩ u ⟨rfl, hf, rfl⟩ ?_)
          trivial
        | some y =>
          obtain ⟨x3, l4⟩ := y
          rw [e3] at C
          have he3 := Lib.hid e3
          go_region_with (go_at_call 160; refine C.mono ?_; rintro e w3 he; obtain ⟨rfl, vs3, hv3, hE3, hA', hf⟩ := hA.out.drew.step (k := 3) (m := 1) hs (by simp [hv0.out, hv1.out, hv2.out]) (by decide) he)
          have hE0 := Lib.hid (hA.out.keepE (KeepE.more keepE_int (by decide) : KeepE ([] : List TypeId) eInt) (RFr.undrew hf) tR ht hE0.out)
          have hE1 := Lib.hid (hA.out.keepE (KeepE.more keepE_int (by decide) : KeepE ([] : List TypeId) eInt) (RFr.undrew hf) tR ht hE1.out)
          have hE2 := Lib.hid (hA.out.keepE (KeepE.more keepE_int (by decide) : KeepE ([] : List TypeId) eInt) (RFr.undrew hf) tR ht hE2.out)
          replace hE3 := Lib.hid hE3
          replace hv3 := Lib.hid hv3
          replace hA' := Lib.hid hA'
          clear hA C e3 hf
          have hA := hA'
          clear hA'
          obtain rfl : R = some ((x0, (x1, (x2, x3))), l4) := by rw [hR.out]; simp only [rdIns, rd2, he0.out, he1.out, he2.out, he3.out, Option.bind_some, Option.map_some]
          have hacc : (((([] ++ vs0) ++ vs1) ++ vs2) ++ vs3) = (vs0 ++ (vs1 ++ (vs2 ++ vs3))) := by simp [List.append_assoc]
          have hlen : (((([] ++ vs0) ++ vs1) ++ vs2) ++ vs3).length = 4 := by simp [hv0.out, hv1.out, hv2.out, hv3.out]
          have hfin := Lib.hid (hA.out.done (size := 4) (E := eIns) (x := (x0, (x1, (x2, x3)))) hlen (by rw [hacc]; exact ⟨vs0, (vs1 ++ (vs2 ++ vs3)), rfl, hE0.out, ⟨vs1, (vs2 ++ vs3), rfl, hE1.out, ⟨vs2, vs3, rfl, hE2.out, hE3.out⟩⟩⟩))
          clear hacc hlen hA
          go_wp2
          go_end0
          exact hfin.out


theorem z_Ins : (Try.prog.info? 94).map (fun i => (i.zero, i.size, i.bytes)) = some (some (.agg #[.int .i64 0, .int .i64 0, .int .i64 0, .int .i64 0]), 4, 32) := by kernel_rfl
set_option maxHeartbeats 16000000 in
set_option maxRecDepth 100000 in
theorem list_Ins_r (lo rb g B G o : Nat) (t : TypeId) (cur : Array Value) (l : List Nat) (w : World) (h : RdS w lo rb g B l) (hP : RdP w lo g G o t cur) (hz : cur[o]? = some (.slice none 0 0)) (ht : t ∉ ([] : List TypeId)) :
    Calls Try.prog 111 #[(.iface 73 (.pointer (some ⟨rb, 0, none⟩))), .pointer (some ⟨G, o, none⟩), .func (.func 112) #[] #[]] w (REnd lo rb g B G t cur o 1 (eL eIns 94 4) (rdL rdIns l) w) := by
  have hmf : ∀ (fn : Fn) (first cap : Array Value) (w : World), (Instr.makeFunc fn first cap).run Try.prog w = .ok (.func fn first cap) w := fun _ _ _ _ => rfl
  have nacount := rna_count ⟨rb, 0, none⟩
  have mecount := rme_count ⟨rb, 0, none⟩
  obtain ⟨i0, hi, hz0, hz1, hz2⟩ := info_parts z_Ins
  have tT : 94 ∉ ([] : List TypeId) := by decide
  have tR : 109 ∉ ([] : List TypeId) := by decide
  have tTR : 94 ≠ 109 := by decide
  obtain ⟨hG, hne, hlo, ho⟩ := hP
  have hp : w.cell? ⟨G, o, none⟩ = some (.slice none 0 0) := by rw [hG.cell]; exact hz
  have ha : LA ⟨94, t, 4, lo, rb, g, B, G, o, cur⟩ w := ⟨hG.lt, hlo, hne, ho⟩
  have CC := fun n => count_r lo rb g B l n w.drew h.drew
  unfold rdL
  replace ha := Lib.hid ha
  replace hG := Lib.hid hG
  replace hz := Lib.hid hz
  replace hz1 := Lib.hid hz1
  replace hz2 := Lib.hid hz2
  replace hi := Lib.hid hi
  clear h
  cases h0 : rdC l with
  | none =>
    rw [h0] at CC
    rw [Option.bind_none]
    go_enter Try.func111, Try.ntmps111
    go_upto_region 0 with (fail)
    go_region_with (go_at_call 159; refine (CC _).mono ?_; rintro e u ⟨hb, rfl⟩; refine paysI ⟨#[], []⟩ u ⟨rfl, RFr.of_grown (grown_drew hb) G, rfl⟩ ?_)
    all_goals trivial
  | some y =>
    obtain ⟨n, l1⟩ := y
    rw [h0] at CC
    rw [Option.bind_some]
    clear h0
    go_enter Try.func111, Try.ntmps111
    go_upto_region 0 with (fail)
    go_cut [15, 16] from 7 to 16 (fun vn vi w' => vn = .int .i64 (n : Int) ∧ vi = .int .i64 0 ∧ n ≤ 1024 ∧ w.grownBy w' (some g) ∧ RdS w' lo rb g B l1)
    case first =>
      go_region_with (go_at_call 159; refine (CC _).mono ?_; rintro e u ⟨hb, rfl, hn, hS⟩; have hb := Lib.hid (grown_drew hb); have hn := Lib.hid hn)
      all_goals (go_wp2_with fail; go_meet; exact ⟨rfl, rfl, hn.out, hb.out, hS⟩)
    case rest =>
    obtain ⟨rfl, rfl, hn, hg, hS⟩ := hcut
    have hJ := LJ.start (E := eIns) (p := ⟨94, t, 4, lo, rb, g, B, G, o, cur⟩) ha.out hg hS hG.out hz.out
    clear CC
    go_wp2_with fail
    go_loopw [16] (fun vi wr => ∃ (k : Nat) (xs : List (TIns)) (vss : List (List Value)) (lk : List Nat) (v : Value), k ≤ n ∧ vi = .int .i64 (k : Int) ∧ LJ eIns ⟨94, t, 4, lo, rb, g, B, G, o, cur⟩ w k xs vss lk v wr ∧ LRel rdIns n l1 k xs lk) (fun vi _ => n - (intOf vi).toNat)
    case atStart => exact ⟨0, [], [], l1, _, by omega, rfl, hJ, LRel.start _ _ _⟩
    case round =>
      clear hS hg hJ
      obtain ⟨k, xs, vss, lk, v, hk, rfl, hJ, hrk⟩ := hrel
      have k0 : (0 : Int) ≤ (k : Int) := by omega
      obtain ⟨A, c, rfl⟩ := hJ.form
      have hc := hJ.here ho
      dsimp only at hc
      by_cases hlt : k < n
      · have k1 : (k : Int) < (n : Int) := by omega
        have hcA : ∀ o1 o2 : Obj, ((wr.alloc o1).alloc o2).cell? ⟨G, o, none⟩ = some (.slice A (k : Nat) c) := fun o1 o2 => cell_later (m1 _ o2) (cell_later (m1 wr o1) hc)
        have hcB : ∀ o1 : Obj, (wr.alloc o1).cell? ⟨G, o, none⟩ = some (.slice A (k : Nat) c) := fun o1 => cell_later (m1 wr o1) hc
        have hO := hJ.own
        dsimp only at hO
        have n3 : k + 1 ≤ maxLen := by unfold maxLen; omega
        have n4 : (k + 1) * 32 ≤ 140737488355328 := by omega
        have n5 : w.heap.size ≤ wr.heap.size := hJ.fr.size
        replace hJ := Lib.hid hJ
        replace hrk := Lib.hid hrk
        replace hn := Lib.hid hn
        go_upto_region 4 with (fail)
        go_region_law (refine step_append_own rfl (.tmp 28) (.tmp 32) 45 rfl w.heap.size 94 i0 (.agg #[.int .i64 0, .int .i64 0, .int .i64 0, .int .i64 0]) 4 32 Try.underlying45 hi.out hz0 hz1.out hz2.out rfl (by decide) (.slice A k c) k vss.flatten rfl ((hO.alloc _).alloc _).drew ⟨wr.heap.size + 1, 0, none⟩ 1 1 [.int .i64 0, .int .i64 0, .int .i64 0, .int .i64 0] rfl rfl (news_two wr _ _ _ _) (fun u hu => by simp at hu; rcases hu with rfl <;> rfl) n3 n4 (Nat.le_trans n5 (by simp; omega)) ?_; intro v' w3 hO3 hgrow; obtain ⟨y1, y2, g', cap, cur', rfl, hL⟩ := hJ.out.grow ha.out keep_Ins tT ht tR (below_two wr _ _) hgrow hO3 rfl; dsimp only at y1 y2; replace hL := Lib.hid hL; clear hgrow hO3)
        all_goals have e1 := hL.out.here ho
        all_goals dsimp only at e1 hL
        all_goals obtain ⟨q1, q2, q3⟩ := hL.out.pre ha.out
        all_goals dsimp only at q1 q2 q3
        all_goals generalize w3.setCell ⟨G, o, none⟩ (.slice (some ⟨g', 0, none⟩) (k + 1) cap) = w4 at *
        all_goals have CE := Ins_r lo rb g B g' (k * 4) 94 cur' lk w4 hL.out.rd ⟨hL.out.row, q1, q2, by omega⟩ q3 hL.out.new tT
        all_goals have kb1 : (k : Int) < ((k + 1 : Nat) : Int) := by omega
        all_goals clear hO hcA hcB y1 y2 n3 n4 n5 hc
        all_goals have h9 := hn.out
        all_goals (
          cases hx : rdIns lk with
          | none =>
            rw [hx] at CE
            replace CE := Lib.hid CE
            have hrn := Lib.hid (hrk.out.stop hlt hx)
            clear hx
            go_wp2_with fail
            refine CE.out.mono ?_; rintro e u he
            obtain ⟨rfl, hf⟩ := hL.out.stop' ha.out he
            replace hf := Lib.hid hf
            clear he
            go_wp2_with fail
            refine ⟨rfl, ?_⟩
            rw [hrn.out]
            exact ⟨hf.out, rfl⟩
          | some y =>
            obtain ⟨x, r⟩ := y
            rw [hx] at CE
            replace CE := Lib.hid CE
            have hrn := Lib.hid (hrk.out.next hlt hx)
            clear hx
            go_wp2_with fail
            refine CE.out.mono ?_; rintro e u he
            obtain ⟨rfl, vs, hJ2⟩ := hL.out.next' ha.out keep_Ins tT tR tTR rfl he
            replace hJ2 := Lib.hid hJ2
            clear he
            go_wp2
            go_roundw
            case rel => exact ⟨k + 1, xs ++ [x], vss ++ [vs], r, _, by omega, by go_num, hJ2.out, hrn.out⟩
            case measure => simp [intOf]; omega)
      · obtain rfl : k = n := by omega
        have hfin := hJ.done
        rw [← hrk.done] at hfin
        dsimp only at hfin
        replace hfin := Lib.hid hfin
        clear hrk hJ
        go_wp2
        go_end0
        exact hfin.out

end Go.Proofs.Ytlfhgmoafgjdcaa
