/- The writer of images over the structs of a table, as contracts. -/
import Derived.Test.YtlfhgmoafgjdcaaImM
namespace Go.Proofs.Ytlfhgmoafgjdcaa
open Go.ChangeShapes Go.WideShapes Go.ChangeAt Go.RowKit
set_option linter.unusedVariables false
set_option linter.unusedSimpArgs false


set_option maxHeartbeats 8000000 in
set_option maxRecDepth 100000 in
theorem Input_w (g base : Nat) (bs : List Nat) (x : TInput) (pb po : Nat) (w : World) (h : Wtr w g base bs) (hs : Sm bs) (hpb : pb < base) (hx : pInput w pb po x) (hv : ∀ i ∈ iInput x, wfI i) :
    Calls Try.prog 108 #[(.iface 57 (.pointer (some ⟨g, 0, none⟩))), .pointer (some ⟨pb, po, none⟩)] w (WEnd g base (runW bs (iInput x)) (.tuple #[]) w) := by
  have hmf : ∀ (fn : Fn) (first cap : Array Value) (w : World), (Instr.makeFunc fn first cap).run Try.prog w = .ok (.func fn first cap) w := fun _ _ _ _ => rfl
  have nanumber := na_number ⟨g, 0, none⟩
  have menumber := me_number ⟨g, 0, none⟩
  obtain ⟨c0, c1, c2, c3⟩ := hx
  have hBd := Lib.hid (Below.refl base w)
  unfold iInput at hv ⊢
  have v0 : wfI (.n (x.1)) := hv _ (List.mem_append.2 (Or.inl (List.mem_cons_self)))
  have v1 : wfI (.n (x.2.1)) := hv _ (List.mem_append.2 (Or.inr (List.mem_append.2 (Or.inl (List.mem_cons_self)))))
  have v2 : wfI (.n (x.2.2.1)) := hv _ (List.mem_append.2 (Or.inr (List.mem_append.2 (Or.inr (List.mem_append.2 (Or.inl (List.mem_cons_self)))))))
  have v3 : wfI (.n (x.2.2.2)) := hv _ (List.mem_append.2 (Or.inr (List.mem_append.2 (Or.inr (List.mem_append.2 (Or.inr (List.mem_append.2 (Or.inl (List.mem_cons_self)))))))))
  clear hv
  generalize hy0 : x.1 = y0 at *
  clear hy0
  generalize hy1 : x.2.1 = y1 at *
  clear hy1
  generalize hy2 : x.2.2.1 = y2 at *
  clear hy2
  generalize hy3 : x.2.2.2 = y3 at *
  clear hy3
  obtain ⟨R, hR⟩ : ∃ R, R = runW bs ([.n y0] ++ ([.n y1] ++ ([.n y2] ++ ([.n y3] ++ [])))) := ⟨_, rfl⟩
  rw [← hR]
  replace hR := Lib.hid hR
  go_enter Try.func108, Try.ntmps108
  go_upto_region 0 with (fail)
  have C := number_w g base bs y0 pb (po) v0.1 v0.2 w.drew (h.later (Below.refl _ _).drew) (by unfold Sm at hs; omega) (cellB hBd.out.drew hpb c0)
  cases e0 : runW bs [.n y0] with
  | none =>
    rw [e0] at C
    obtain rfl : R = none := hR.out.trans (runW_stop e0)
    go_region_with (go_at_call 152; refine C.mono ?_; rintro e u ⟨hb, rfl⟩; refine paysI ⟨#[], []⟩ u ⟨rfl, hBd.out.drew.trans hb, rfl⟩ ?_)
    trivial
  | some b0 =>
    rw [e0] at C
    replace hR := Lib.hid (hR.out.trans (runW_go e0))
    go_region_with (go_at_call 152; refine C.mono ?_; rintro e w0 ⟨hb, rfl, hw0⟩)
    replace hBd := Lib.hid (hBd.out.drew.trans hb)
    have hs0 := runW_sm _ _ _ hs (by intro j hj; simp at hj; subst hj; exact v0) e0
    clear C hb e0
    go_upto_region 1 with (fail)
    have C := number_w g base b0 y1 pb (po + 1) v1.1 v1.2 w0.drew (hw0.later (Below.refl _ _).drew) (by unfold Sm at hs0; omega) (cellB hBd.out.drew hpb c1)
    cases e1 : runW b0 [.n y1] with
    | none =>
      rw [e1] at C
      obtain rfl : R = none := hR.out.trans (runW_stop e1)
      go_region_with (go_at_call 152; refine C.mono ?_; rintro e u ⟨hb, rfl⟩; refine paysI ⟨#[], []⟩ u ⟨rfl, hBd.out.drew.trans hb, rfl⟩ ?_)
      trivial
    | some b1 =>
      rw [e1] at C
      replace hR := Lib.hid (hR.out.trans (runW_go e1))
      go_region_with (go_at_call 152; refine C.mono ?_; rintro e w1 ⟨hb, rfl, hw1⟩)
      replace hBd := Lib.hid (hBd.out.drew.trans hb)
      have hs1 := runW_sm _ _ _ hs0 (by intro j hj; simp at hj; subst hj; exact v1) e1
      clear C hb e1
      go_upto_region 2 with (fail)
      have C := number_w g base b1 y2 pb (po + 2) v2.1 v2.2 w1.drew (hw1.later (Below.refl _ _).drew) (by unfold Sm at hs1; omega) (cellB hBd.out.drew hpb c2)
      cases e2 : runW b1 [.n y2] with
      | none =>
        rw [e2] at C
        obtain rfl : R = none := hR.out.trans (runW_stop e2)
        go_region_with (go_at_call 152; refine C.mono ?_; rintro e u ⟨hb, rfl⟩; refine paysI ⟨#[], []⟩ u ⟨rfl, hBd.out.drew.trans hb, rfl⟩ ?_)
        trivial
      | some b2 =>
        rw [e2] at C
        replace hR := Lib.hid (hR.out.trans (runW_go e2))
        go_region_with (go_at_call 152; refine C.mono ?_; rintro e w2 ⟨hb, rfl, hw2⟩)
        replace hBd := Lib.hid (hBd.out.drew.trans hb)
        have hs2 := runW_sm _ _ _ hs1 (by intro j hj; simp at hj; subst hj; exact v2) e2
        clear C hb e2
        go_upto_region 3 with (fail)
        have C := number_w g base b2 y3 pb (po + 3) v3.1 v3.2 w2.drew (hw2.later (Below.refl _ _).drew) (by unfold Sm at hs2; omega) (cellB hBd.out.drew hpb c3)
        cases e3 : runW b2 [.n y3] with
        | none =>
          rw [e3] at C
          obtain rfl : R = none := hR.out.trans (runW_stop e3)
          go_region_with (go_at_call 152; refine C.mono ?_; rintro e u ⟨hb, rfl⟩; refine paysI ⟨#[], []⟩ u ⟨rfl, hBd.out.drew.trans hb, rfl⟩ ?_)
          trivial
        | some b3 =>
          rw [e3] at C
          replace hR := Lib.hid (hR.out.trans (runW_go e3))
          go_region_with (go_at_call 152; refine C.mono ?_; rintro e w3 ⟨hb, rfl, hw3⟩)
          replace hBd := Lib.hid (hBd.out.drew.trans hb)
          have hs3 := runW_sm _ _ _ hs2 (by intro j hj; simp at hj; subst hj; exact v3) e3
          clear C hb e3
          obtain rfl : R = some b3 := hR.out
          go_wp2
          go_end0
          exact ⟨hBd.out, rfl, hw3⟩


set_option maxHeartbeats 8000000 in
set_option maxRecDepth 100000 in
theorem list_Input_w (g base : Nat) (bs : List Nat) (xs : List (TInput)) (pb po : Nat) (w : World) (h : Wtr w g base bs) (hs : Sm bs) (hpb : pb < base) (hx : LField pInput 4 base w pb po xs) (hv : ∀ x ∈ xs, ∀ i ∈ iInput x, wfI i) :
    Calls Try.prog 107 #[(.iface 57 (.pointer (some ⟨g, 0, none⟩))), .pointer (some ⟨pb, po, none⟩), .func (.func 108) #[] #[]] w (WEnd g base (runW bs (itL iInput xs)) (.tuple #[]) w) := by
  have hmf : ∀ (fn : Fn) (first cap : Array Value) (w : World), (Instr.makeFunc fn first cap).run Try.prog w = .ok (.func fn first cap) w := fun _ _ _ _ => rfl
  have nacount := na_count ⟨g, 0, none⟩
  have mecount := me_count ⟨g, 0, none⟩
  obtain ⟨A, c, hp, hA, hlen⟩ := hx
  have CC := count_w g base bs xs.length hlen w.drew (h.later (Below.refl _ _).drew) (by unfold Sm at hs; omega)
  have hsplit : runW bs (itL iInput xs) = (runW bs [.c xs.length]).bind fun b => runW b (xs.flatMap iInput) := by
    unfold itL
    rw [show Itm.c xs.length :: xs.flatMap iInput = [.c xs.length] ++ xs.flatMap iInput from rfl, runW_append]
  rw [hsplit]
  have hbd := Lib.hid ((Below.refl base w).drew)
  clear hsplit
  cases h0 : runW bs [.c xs.length] with
  | none =>
    rw [h0] at CC
    go_enter Try.func107, Try.ntmps107
    go_upto_region 0 with (fail)
    go_region_with (go_at_call 150; refine CC.mono ?_; rintro e u ⟨hb, rfl⟩; refine paysI ⟨#[], []⟩ u ⟨rfl, hbd.out.trans hb, rfl⟩ ?_)
    all_goals trivial
  | some b1 =>
    rw [h0] at CC
    have hs1 := runW_sm _ _ _ hs (by intro i hi; simp at hi; subst hi; exact hlen) h0
    clear h0 h
    show Calls _ _ _ _ (WEnd g base (runW b1 (xs.flatMap iInput)) (.tuple #[]) w)
    go_enter Try.func107, Try.ntmps107
    go_upto_region 0 with (fail)
    go_cut [15, 16] from 7 to 16 (fun n i w' => n = .int .i64 (xs.length : Int) ∧ i = .int .i64 0 ∧ Wtr w' g base b1 ∧ Below base w w')
    case first =>
      go_region_with (go_at_call 150; refine CC.mono ?_; rintro e u ⟨hb, rfl, hw⟩)
      all_goals (go_wp2_with fail; go_meet; exact ⟨rfl, rfl, hw, hbd.out.trans hb⟩)
    case rest =>
    obtain ⟨rfl, rfl, hw, hB0⟩ := hcut
    clear CC hbd
    go_wp2_with fail
    go_loopw [16] (fun vi wr => ∃ (k : Nat) (bk : List Nat), k ≤ xs.length ∧ vi = .int .i64 (k : Int) ∧ Sm bk ∧ Wtr wr g base bk ∧ Below base w wr ∧ runW b1 (xs.flatMap iInput) = runW bk ((xs.drop k).flatMap iInput)) (fun vi _ => xs.length - (intOf vi).toNat)
    case atStart => exact ⟨0, b1, by omega, rfl, hs1, hw, hB0, rfl⟩
    case round =>
      clear hw hs1 hB0
      obtain ⟨k, bk, hk, rfl, hsk, hWk, hBk, hrk⟩ := hrel
      have k0 : (0 : Int) ≤ (k : Int) := by omega
      by_cases hlt : k < xs.length
      · have k1 : (k : Int) < (xs.length : Int) := by omega
        have kne : ((k : Int) == (xs.length : Int)) = false := by rw [beq_eq_false_iff_ne]; omega
        have hc := List.getElem?_eq_getElem hlt
        have hwf := hv _ (List.getElem_mem hlt)
        have hd : xs.drop k = xs[k] :: xs.drop (k + 1) := List.drop_eq_getElem_cons hlt
        rw [hd, List.flatMap_cons] at hrk
        obtain ⟨b, off, rfl, hbl, hall⟩ := hA (by omega)
        have hPk := hall k _ hc
        generalize xs[k] = x at *
        have hp1 := cellB hBk hpb hp
        have CE := Input_w g base bk x b (off + k * 4) wr hWk hsk hbl (pInput.belowB hBk hbl (by first | exact hPk | (rw [Nat.mul_one] at hPk; exact hPk))) hwf
        replace hrk := Lib.hid hrk
        replace hd := Lib.hid hd
        replace hBk := Lib.hid hBk
        replace hWk := Lib.hid hWk
        replace hwf := Lib.hid hwf
        clear hall hc hPk
        cases hx0 : runW bk (iInput x) with
        | none =>
          rw [hx0] at CE
          replace hrk := Lib.hid (hrk.out.trans (runW_stop hx0))
          rw [hrk.out]
          replace CE := Lib.hid CE
          clear hx0
          go_wp2_with fail
          refine CE.out.mono ?_; rintro e u ⟨hb, rfl⟩
          go_wp2_with fail
          exact ⟨rfl, hBk.out.trans hb, rfl⟩
        | some b2 =>
          rw [hx0] at CE
          replace hrk := Lib.hid (hrk.out.trans (runW_go hx0))
          have hs2 := runW_sm _ _ _ hsk hwf.out hx0
          replace CE := Lib.hid CE
          clear hx0
          go_wp2_with fail
          refine CE.out.mono ?_; rintro e u ⟨hb, rfl, hw2⟩
          replace hb := Lib.hid (hBk.out.trans hb)
          replace hw2 := Lib.hid hw2
          go_wp2
          go_roundw
          case rel => exact ⟨k + 1, b2, by omega, by go_num, hs2, hw2.out, hb.out, hrk.out⟩
          case measure => simp [intOf]; omega
      · obtain rfl : k = xs.length := by omega
        rw [List.drop_length] at hrk
        have hfin : WEnd g base (runW b1 (xs.flatMap iInput)) (.tuple #[]) w (.returned (.tuple #[])) wr := ⟨hBk, by rw [hrk]; exact ⟨rfl, hWk⟩⟩
        replace hfin := Lib.hid hfin
        clear hrk hWk hBk
        go_wp2
        go_end0
        exact hfin.out


set_option maxHeartbeats 8000000 in
set_option maxRecDepth 100000 in
theorem Value_w (g base : Nat) (bs : List Nat) (x : TValue) (pb po : Nat) (w : World) (h : Wtr w g base bs) (hs : Sm bs) (hpb : pb < base) (hx : pValue w pb po x) (hv : ∀ i ∈ iValue x, wfI i) :
    Calls Try.prog 110 #[(.iface 57 (.pointer (some ⟨g, 0, none⟩))), .pointer (some ⟨pb, po, none⟩)] w (WEnd g base (runW bs (iValue x)) (.tuple #[]) w) := by
  have hmf : ∀ (fn : Fn) (first cap : Array Value) (w : World), (Instr.makeFunc fn first cap).run Try.prog w = .ok (.func fn first cap) w := fun _ _ _ _ => rfl
  have nanumber := na_number ⟨g, 0, none⟩
  have menumber := me_number ⟨g, 0, none⟩
  have nabits := na_bits ⟨g, 0, none⟩
  have mebits := me_bits ⟨g, 0, none⟩
  obtain ⟨c0, c1⟩ := hx
  have hBd := Lib.hid (Below.refl base w)
  unfold iValue at hv ⊢
  have v0 : wfI (.n (x.1)) := hv _ (List.mem_append.2 (Or.inl (List.mem_cons_self)))
  have v1 : wfI (.b (x.2)) := hv _ (List.mem_append.2 (Or.inr (List.mem_append.2 (Or.inl (List.mem_cons_self)))))
  clear hv
  generalize hy0 : x.1 = y0 at *
  clear hy0
  generalize hy1 : x.2 = y1 at *
  clear hy1
  obtain ⟨R, hR⟩ : ∃ R, R = runW bs ([.n y0] ++ ([.b y1] ++ [])) := ⟨_, rfl⟩
  rw [← hR]
  replace hR := Lib.hid hR
  go_enter Try.func110, Try.ntmps110
  go_upto_region 0 with (fail)
  have C := number_w g base bs y0 pb (po) v0.1 v0.2 w.drew (h.later (Below.refl _ _).drew) (by unfold Sm at hs; omega) (cellB hBd.out.drew hpb c0)
  cases e0 : runW bs [.n y0] with
  | none =>
    rw [e0] at C
    obtain rfl : R = none := hR.out.trans (runW_stop e0)
    go_region_with (go_at_call 152; refine C.mono ?_; rintro e u ⟨hb, rfl⟩; refine paysI ⟨#[], []⟩ u ⟨rfl, hBd.out.drew.trans hb, rfl⟩ ?_)
    trivial
  | some b0 =>
    rw [e0] at C
    replace hR := Lib.hid (hR.out.trans (runW_go e0))
    go_region_with (go_at_call 152; refine C.mono ?_; rintro e w0 ⟨hb, rfl, hw0⟩)
    replace hBd := Lib.hid (hBd.out.drew.trans hb)
    have hs0 := runW_sm _ _ _ hs (by intro j hj; simp at hj; subst hj; exact v0) e0
    clear C hb e0
    go_upto_region 1 with (fail)
    have C := bits_w g base b0 y1 pb (po + 1) v1 w0.drew (hw0.later (Below.refl _ _).drew) (by unfold Sm at hs0; omega) (cellB hBd.out.drew hpb c1) hpb
    cases e1 : runW b0 [.b y1] with
    | none =>
      rw [e1] at C
      obtain rfl : R = none := hR.out.trans (runW_stop e1)
      go_region_with (go_at_call 149; refine C.mono ?_; rintro e u ⟨hb, rfl⟩; refine paysI ⟨#[], []⟩ u ⟨rfl, hBd.out.drew.trans hb, rfl⟩ ?_)
      trivial
    | some b1 =>
      rw [e1] at C
      replace hR := Lib.hid (hR.out.trans (runW_go e1))
      go_region_with (go_at_call 149; refine C.mono ?_; rintro e w1 ⟨hb, rfl, hw1⟩)
      replace hBd := Lib.hid (hBd.out.drew.trans hb)
      have hs1 := runW_sm _ _ _ hs0 (by intro j hj; simp at hj; subst hj; exact v1) e1
      clear C hb e1
      obtain rfl : R = some b1 := hR.out
      go_wp2
      go_end0
      exact ⟨hBd.out, rfl, hw1⟩


set_option maxHeartbeats 8000000 in
set_option maxRecDepth 100000 in
theorem list_Value_w (g base : Nat) (bs : List Nat) (xs : List (TValue)) (pb po : Nat) (w : World) (h : Wtr w g base bs) (hs : Sm bs) (hpb : pb < base) (hx : LField pValue 2 base w pb po xs) (hv : ∀ x ∈ xs, ∀ i ∈ iValue x, wfI i) :
    Calls Try.prog 109 #[(.iface 57 (.pointer (some ⟨g, 0, none⟩))), .pointer (some ⟨pb, po, none⟩), .func (.func 110) #[] #[]] w (WEnd g base (runW bs (itL iValue xs)) (.tuple #[]) w) := by
  have hmf : ∀ (fn : Fn) (first cap : Array Value) (w : World), (Instr.makeFunc fn first cap).run Try.prog w = .ok (.func fn first cap) w := fun _ _ _ _ => rfl
  have nacount := na_count ⟨g, 0, none⟩
  have mecount := me_count ⟨g, 0, none⟩
  obtain ⟨A, c, hp, hA, hlen⟩ := hx
  have CC := count_w g base bs xs.length hlen w.drew (h.later (Below.refl _ _).drew) (by unfold Sm at hs; omega)
  have hsplit : runW bs (itL iValue xs) = (runW bs [.c xs.length]).bind fun b => runW b (xs.flatMap iValue) := by
    unfold itL
    rw [show Itm.c xs.length :: xs.flatMap iValue = [.c xs.length] ++ xs.flatMap iValue from rfl, runW_append]
  rw [hsplit]
  have hbd := Lib.hid ((Below.refl base w).drew)
  clear hsplit
  cases h0 : runW bs [.c xs.length] with
  | none =>
    rw [h0] at CC
    go_enter Try.func109, Try.ntmps109
    go_upto_region 0 with (fail)
    go_region_with (go_at_call 150; refine CC.mono ?_; rintro e u ⟨hb, rfl⟩; refine paysI ⟨#[], []⟩ u ⟨rfl, hbd.out.trans hb, rfl⟩ ?_)
    all_goals trivial
  | some b1 =>
    rw [h0] at CC
    have hs1 := runW_sm _ _ _ hs (by intro i hi; simp at hi; subst hi; exact hlen) h0
    clear h0 h
    show Calls _ _ _ _ (WEnd g base (runW b1 (xs.flatMap iValue)) (.tuple #[]) w)
    go_enter Try.func109, Try.ntmps109
    go_upto_region 0 with (fail)
    go_cut [15, 16] from 7 to 16 (fun n i w' => n = .int .i64 (xs.length : Int) ∧ i = .int .i64 0 ∧ Wtr w' g base b1 ∧ Below base w w')
    case first =>
      go_region_with (go_at_call 150; refine CC.mono ?_; rintro e u ⟨hb, rfl, hw⟩)
      all_goals (go_wp2_with fail; go_meet; exact ⟨rfl, rfl, hw, hbd.out.trans hb⟩)
    case rest =>
    obtain ⟨rfl, rfl, hw, hB0⟩ := hcut
    clear CC hbd
    go_wp2_with fail
    go_loopw [16] (fun vi wr => ∃ (k : Nat) (bk : List Nat), k ≤ xs.length ∧ vi = .int .i64 (k : Int) ∧ Sm bk ∧ Wtr wr g base bk ∧ Below base w wr ∧ runW b1 (xs.flatMap iValue) = runW bk ((xs.drop k).flatMap iValue)) (fun vi _ => xs.length - (intOf vi).toNat)
    case atStart => exact ⟨0, b1, by omega, rfl, hs1, hw, hB0, rfl⟩
    case round =>
      clear hw hs1 hB0
      obtain ⟨k, bk, hk, rfl, hsk, hWk, hBk, hrk⟩ := hrel
      have k0 : (0 : Int) ≤ (k : Int) := by omega
      by_cases hlt : k < xs.length
      · have k1 : (k : Int) < (xs.length : Int) := by omega
        have kne : ((k : Int) == (xs.length : Int)) = false := by rw [beq_eq_false_iff_ne]; omega
        have hc := List.getElem?_eq_getElem hlt
        have hwf := hv _ (List.getElem_mem hlt)
        have hd : xs.drop k = xs[k] :: xs.drop (k + 1) := List.drop_eq_getElem_cons hlt
        rw [hd, List.flatMap_cons] at hrk
        obtain ⟨b, off, rfl, hbl, hall⟩ := hA (by omega)
        have hPk := hall k _ hc
        generalize xs[k] = x at *
        have hp1 := cellB hBk hpb hp
        have CE := Value_w g base bk x b (off + k * 2) wr hWk hsk hbl (pValue.belowB hBk hbl (by first | exact hPk | (rw [Nat.mul_one] at hPk; exact hPk))) hwf
        replace hrk := Lib.hid hrk
        replace hd := Lib.hid hd
        replace hBk := Lib.hid hBk
        replace hWk := Lib.hid hWk
        replace hwf := Lib.hid hwf
        clear hall hc hPk
        cases hx0 : runW bk (iValue x) with
        | none =>
          rw [hx0] at CE
          replace hrk := Lib.hid (hrk.out.trans (runW_stop hx0))
          rw [hrk.out]
          replace CE := Lib.hid CE
          clear hx0
          go_wp2_with fail
          refine CE.out.mono ?_; rintro e u ⟨hb, rfl⟩
          go_wp2_with fail
          exact ⟨rfl, hBk.out.trans hb, rfl⟩
        | some b2 =>
          rw [hx0] at CE
          replace hrk := Lib.hid (hrk.out.trans (runW_go hx0))
          have hs2 := runW_sm _ _ _ hsk hwf.out hx0
          replace CE := Lib.hid CE
          clear hx0
          go_wp2_with fail
          refine CE.out.mono ?_; rintro e u ⟨hb, rfl, hw2⟩
          replace hb := Lib.hid (hBk.out.trans hb)
          replace hw2 := Lib.hid hw2
          go_wp2
          go_roundw
          case rel => exact ⟨k + 1, b2, by omega, by go_num, hs2, hw2.out, hb.out, hrk.out⟩
          case measure => simp [intOf]; omega
      · obtain rfl : k = xs.length := by omega
        rw [List.drop_length] at hrk
        have hfin : WEnd g base (runW b1 (xs.flatMap iValue)) (.tuple #[]) w (.returned (.tuple #[])) wr := ⟨hBk, by rw [hrk]; exact ⟨rfl, hWk⟩⟩
        replace hfin := Lib.hid hfin
        clear hrk hWk hBk
        go_wp2
        go_end0
        exact hfin.out


set_option maxHeartbeats 8000000 in
set_option maxRecDepth 100000 in
theorem Ins_w (g base : Nat) (bs : List Nat) (x : TIns) (pb po : Nat) (w : World) (h : Wtr w g base bs) (hs : Sm bs) (hpb : pb < base) (hx : pIns w pb po x) (hv : ∀ i ∈ iIns x, wfI i) :
    Calls Try.prog 112 #[(.iface 57 (.pointer (some ⟨g, 0, none⟩))), .pointer (some ⟨pb, po, none⟩)] w (WEnd g base (runW bs (iIns x)) (.tuple #[]) w) := by
  have hmf : ∀ (fn : Fn) (first cap : Array Value) (w : World), (Instr.makeFunc fn first cap).run Try.prog w = .ok (.func fn first cap) w := fun _ _ _ _ => rfl
  have nanumber := na_number ⟨g, 0, none⟩
  have menumber := me_number ⟨g, 0, none⟩
  obtain ⟨c0, c1, c2, c3⟩ := hx
  have hBd := Lib.hid (Below.refl base w)
  unfold iIns at hv ⊢
  have v0 : wfI (.n (x.1)) := hv _ (List.mem_append.2 (Or.inl (List.mem_cons_self)))
  have v1 : wfI (.n (x.2.1)) := hv _ (List.mem_append.2 (Or.inr (List.mem_append.2 (Or.inl (List.mem_cons_self)))))
  have v2 : wfI (.n (x.2.2.1)) := hv _ (List.mem_append.2 (Or.inr (List.mem_append.2 (Or.inr (List.mem_append.2 (Or.inl (List.mem_cons_self)))))))
  have v3 : wfI (.n (x.2.2.2)) := hv _ (List.mem_append.2 (Or.inr (List.mem_append.2 (Or.inr (List.mem_append.2 (Or.inr (List.mem_append.2 (Or.inl (List.mem_cons_self)))))))))
  clear hv
  generalize hy0 : x.1 = y0 at *
  clear hy0
  generalize hy1 : x.2.1 = y1 at *
  clear hy1
  generalize hy2 : x.2.2.1 = y2 at *
  clear hy2
  generalize hy3 : x.2.2.2 = y3 at *
  clear hy3
  obtain ⟨R, hR⟩ : ∃ R, R = runW bs ([.n y0] ++ ([.n y1] ++ ([.n y2] ++ ([.n y3] ++ [])))) := ⟨_, rfl⟩
  rw [← hR]
  replace hR := Lib.hid hR
  go_enter Try.func112, Try.ntmps112
  go_upto_region 0 with (fail)
  have C := number_w g base bs y0 pb (po) v0.1 v0.2 w.drew (h.later (Below.refl _ _).drew) (by unfold Sm at hs; omega) (cellB hBd.out.drew hpb c0)
  cases e0 : runW bs [.n y0] with
  | none =>
    rw [e0] at C
    obtain rfl : R = none := hR.out.trans (runW_stop e0)
    go_region_with (go_at_call 152; refine C.mono ?_; rintro e u ⟨hb, rfl⟩; refine paysI ⟨#[], []⟩ u ⟨rfl, hBd.out.drew.trans hb, rfl⟩ ?_)
    trivial
  | some b0 =>
    rw [e0] at C
    replace hR := Lib.hid (hR.out.trans (runW_go e0))
    go_region_with (go_at_call 152; refine C.mono ?_; rintro e w0 ⟨hb, rfl, hw0⟩)
    replace hBd := Lib.hid (hBd.out.drew.trans hb)
    have hs0 := runW_sm _ _ _ hs (by intro j hj; simp at hj; subst hj; exact v0) e0
    clear C hb e0
    go_upto_region 1 with (fail)
    have C := number_w g base b0 y1 pb (po + 1) v1.1 v1.2 w0.drew (hw0.later (Below.refl _ _).drew) (by unfold Sm at hs0; omega) (cellB hBd.out.drew hpb c1)
    cases e1 : runW b0 [.n y1] with
    | none =>
      rw [e1] at C
      obtain rfl : R = none := hR.out.trans (runW_stop e1)
      go_region_with (go_at_call 152; refine C.mono ?_; rintro e u ⟨hb, rfl⟩; refine paysI ⟨#[], []⟩ u ⟨rfl, hBd.out.drew.trans hb, rfl⟩ ?_)
      trivial
    | some b1 =>
      rw [e1] at C
      replace hR := Lib.hid (hR.out.trans (runW_go e1))
      go_region_with (go_at_call 152; refine C.mono ?_; rintro e w1 ⟨hb, rfl, hw1⟩)
      replace hBd := Lib.hid (hBd.out.drew.trans hb)
      have hs1 := runW_sm _ _ _ hs0 (by intro j hj; simp at hj; subst hj; exact v1) e1
      clear C hb e1
      go_upto_region 2 with (fail)
      have C := number_w g base b1 y2 pb (po + 2) v2.1 v2.2 w1.drew (hw1.later (Below.refl _ _).drew) (by unfold Sm at hs1; omega) (cellB hBd.out.drew hpb c2)
      cases e2 : runW b1 [.n y2] with
      | none =>
        rw [e2] at C
        obtain rfl : R = none := hR.out.trans (runW_stop e2)
        go_region_with (go_at_call 152; refine C.mono ?_; rintro e u ⟨hb, rfl⟩; refine paysI ⟨#[], []⟩ u ⟨rfl, hBd.out.drew.trans hb, rfl⟩ ?_)
        trivial
      | some b2 =>
        rw [e2] at C
        replace hR := Lib.hid (hR.out.trans (runW_go e2))
        go_region_with (go_at_call 152; refine C.mono ?_; rintro e w2 ⟨hb, rfl, hw2⟩)
        replace hBd := Lib.hid (hBd.out.drew.trans hb)
        have hs2 := runW_sm _ _ _ hs1 (by intro j hj; simp at hj; subst hj; exact v2) e2
        clear C hb e2
        go_upto_region 3 with (fail)
        have C := number_w g base b2 y3 pb (po + 3) v3.1 v3.2 w2.drew (hw2.later (Below.refl _ _).drew) (by unfold Sm at hs2; omega) (cellB hBd.out.drew hpb c3)
        cases e3 : runW b2 [.n y3] with
        | none =>
          rw [e3] at C
          obtain rfl : R = none := hR.out.trans (runW_stop e3)
          go_region_with (go_at_call 152; refine C.mono ?_; rintro e u ⟨hb, rfl⟩; refine paysI ⟨#[], []⟩ u ⟨rfl, hBd.out.drew.trans hb, rfl⟩ ?_)
          trivial
        | some b3 =>
          rw [e3] at C
          replace hR := Lib.hid (hR.out.trans (runW_go e3))
          go_region_with (go_at_call 152; refine C.mono ?_; rintro e w3 ⟨hb, rfl, hw3⟩)
          replace hBd := Lib.hid (hBd.out.drew.trans hb)
          have hs3 := runW_sm _ _ _ hs2 (by intro j hj; simp at hj; subst hj; exact v3) e3
          clear C hb e3
          obtain rfl : R = some b3 := hR.out
          go_wp2
          go_end0
          exact ⟨hBd.out, rfl, hw3⟩


set_option maxHeartbeats 8000000 in
set_option maxRecDepth 100000 in
theorem list_Ins_w (g base : Nat) (bs : List Nat) (xs : List (TIns)) (pb po : Nat) (w : World) (h : Wtr w g base bs) (hs : Sm bs) (hpb : pb < base) (hx : LField pIns 4 base w pb po xs) (hv : ∀ x ∈ xs, ∀ i ∈ iIns x, wfI i) :
    Calls Try.prog 111 #[(.iface 57 (.pointer (some ⟨g, 0, none⟩))), .pointer (some ⟨pb, po, none⟩), .func (.func 112) #[] #[]] w (WEnd g base (runW bs (itL iIns xs)) (.tuple #[]) w) := by
  have hmf : ∀ (fn : Fn) (first cap : Array Value) (w : World), (Instr.makeFunc fn first cap).run Try.prog w = .ok (.func fn first cap) w := fun _ _ _ _ => rfl
  have nacount := na_count ⟨g, 0, none⟩
  have mecount := me_count ⟨g, 0, none⟩
  obtain ⟨A, c, hp, hA, hlen⟩ := hx
  have CC := count_w g base bs xs.length hlen w.drew (h.later (Below.refl _ _).drew) (by unfold Sm at hs; omega)
  have hsplit : runW bs (itL iIns xs) = (runW bs [.c xs.length]).bind fun b => runW b (xs.flatMap iIns) := by
    unfold itL
    rw [show Itm.c xs.length :: xs.flatMap iIns = [.c xs.length] ++ xs.flatMap iIns from rfl, runW_append]
  rw [hsplit]
  have hbd := Lib.hid ((Below.refl base w).drew)
  clear hsplit
  cases h0 : runW bs [.c xs.length] with
  | none =>
    rw [h0] at CC
    go_enter Try.func111, Try.ntmps111
    go_upto_region 0 with (fail)
    go_region_with (go_at_call 150; refine CC.mono ?_; rintro e u ⟨hb, rfl⟩; refine paysI ⟨#[], []⟩ u ⟨rfl, hbd.out.trans hb, rfl⟩ ?_)
    all_goals trivial
  | some b1 =>
    rw [h0] at CC
    have hs1 := runW_sm _ _ _ hs (by intro i hi; simp at hi; subst hi; exact hlen) h0
    clear h0 h
    show Calls _ _ _ _ (WEnd g base (runW b1 (xs.flatMap iIns)) (.tuple #[]) w)
    go_enter Try.func111, Try.ntmps111
    go_upto_region 0 with (fail)
    go_cut [15, 16] from 7 to 16 (fun n i w' => n = .int .i64 (xs.length : Int) ∧ i = .int .i64 0 ∧ Wtr w' g base b1 ∧ Below base w w')
    case first =>
      go_region_with (go_at_call 150; refine CC.mono ?_; rintro e u ⟨hb, rfl, hw⟩)
      all_goals (go_wp2_with fail; go_meet; exact ⟨rfl, rfl, hw, hbd.out.trans hb⟩)
    case rest =>
    obtain ⟨rfl, rfl, hw, hB0⟩ := hcut
    clear CC hbd
    go_wp2_with fail
    go_loopw [16] (fun vi wr => ∃ (k : Nat) (bk : List Nat), k ≤ xs.length ∧ vi = .int .i64 (k : Int) ∧ Sm bk ∧ Wtr wr g base bk ∧ Below base w wr ∧ runW b1 (xs.flatMap iIns) = runW bk ((xs.drop k).flatMap iIns)) (fun vi _ => xs.length - (intOf vi).toNat)
    case atStart => exact ⟨0, b1, by omega, rfl, hs1, hw, hB0, rfl⟩
    case round =>
      clear hw hs1 hB0
      obtain ⟨k, bk, hk, rfl, hsk, hWk, hBk, hrk⟩ := hrel
      have k0 : (0 : Int) ≤ (k : Int) := by omega
      by_cases hlt : k < xs.length
      · have k1 : (k : Int) < (xs.length : Int) := by omega
        have kne : ((k : Int) == (xs.length : Int)) = false := by rw [beq_eq_false_iff_ne]; omega
        have hc := List.getElem?_eq_getElem hlt
        have hwf := hv _ (List.getElem_mem hlt)
        have hd : xs.drop k = xs[k] :: xs.drop (k + 1) := List.drop_eq_getElem_cons hlt
        rw [hd, List.flatMap_cons] at hrk
        obtain ⟨b, off, rfl, hbl, hall⟩ := hA (by omega)
        have hPk := hall k _ hc
        generalize xs[k] = x at *
        have hp1 := cellB hBk hpb hp
        have CE := Ins_w g base bk x b (off + k * 4) wr hWk hsk hbl (pIns.belowB hBk hbl (by first | exact hPk | (rw [Nat.mul_one] at hPk; exact hPk))) hwf
        replace hrk := Lib.hid hrk
        replace hd := Lib.hid hd
        replace hBk := Lib.hid hBk
        replace hWk := Lib.hid hWk
        replace hwf := Lib.hid hwf
        clear hall hc hPk
        cases hx0 : runW bk (iIns x) with
        | none =>
          rw [hx0] at CE
          replace hrk := Lib.hid (hrk.out.trans (runW_stop hx0))
          rw [hrk.out]
          replace CE := Lib.hid CE
          clear hx0
          go_wp2_with fail
          refine CE.out.mono ?_; rintro e u ⟨hb, rfl⟩
          go_wp2_with fail
          exact ⟨rfl, hBk.out.trans hb, rfl⟩
        | some b2 =>
          rw [hx0] at CE
          replace hrk := Lib.hid (hrk.out.trans (runW_go hx0))
          have hs2 := runW_sm _ _ _ hsk hwf.out hx0
          replace CE := Lib.hid CE
          clear hx0
          go_wp2_with fail
          refine CE.out.mono ?_; rintro e u ⟨hb, rfl, hw2⟩
          replace hb := Lib.hid (hBk.out.trans hb)
          replace hw2 := Lib.hid hw2
          go_wp2
          go_roundw
          case rel => exact ⟨k + 1, b2, by omega, by go_num, hs2, hw2.out, hb.out, hrk.out⟩
          case measure => simp [intOf]; omega
      · obtain rfl : k = xs.length := by omega
        rw [List.drop_length] at hrk
        have hfin : WEnd g base (runW b1 (xs.flatMap iIns)) (.tuple #[]) w (.returned (.tuple #[])) wr := ⟨hBk, by rw [hrk]; exact ⟨rfl, hWk⟩⟩
        replace hfin := Lib.hid hfin
        clear hrk hWk hBk
        go_wp2
        go_end0
        exact hfin.out


set_option maxHeartbeats 8000000 in
set_option maxRecDepth 100000 in
theorem Code_w (g base : Nat) (bs : List Nat) (x : TCode) (pb po : Nat) (w : World) (h : Wtr w g base bs) (hs : Sm bs) (hpb : pb < base) (hx : pCode base w pb po x) (hv : ∀ i ∈ iCode x, wfI i) :
    Calls Try.prog 80 #[(.iface 57 (.pointer (some ⟨g, 0, none⟩))), .pointer (some ⟨pb, po, none⟩)] w (WEnd g base (runW bs (iCode x)) (.tuple #[]) w) := by
  have hmf : ∀ (fn : Fn) (first cap : Array Value) (w : World), (Instr.makeFunc fn first cap).run Try.prog w = .ok (.func fn first cap) w := fun _ _ _ _ => rfl
  have nanumber := na_number ⟨g, 0, none⟩
  have menumber := me_number ⟨g, 0, none⟩
  obtain ⟨c0, c1, c2, c3, c4⟩ := hx
  have hBd := Lib.hid (Below.refl base w)
  unfold iCode at hv ⊢
  have v0 : wfI (.n (x.1)) := hv _ (List.mem_append.2 (Or.inl (List.mem_cons_self)))
  have v1 : wfI (.n (x.2.1)) := hv _ (List.mem_append.2 (Or.inr (List.mem_append.2 (Or.inl (List.mem_cons_self)))))
  have v2 : ∀ y ∈ x.2.2.1, ∀ i ∈ iInput y, wfI i := fun y hy i hi => hv i (List.mem_append.2 (Or.inr (List.mem_append.2 (Or.inr (List.mem_append.2 (Or.inl (List.mem_cons_of_mem _ (List.mem_flatMap.2 ⟨y, hy, hi⟩))))))))
  have vl2 : x.2.2.1.length ≤ 9223372036854775807 := by obtain ⟨_, _, _, _, hh⟩ := c2; exact hh
  have v3 : ∀ y ∈ x.2.2.2.1, ∀ i ∈ iValue y, wfI i := fun y hy i hi => hv i (List.mem_append.2 (Or.inr (List.mem_append.2 (Or.inr (List.mem_append.2 (Or.inr (List.mem_append.2 (Or.inl (List.mem_cons_of_mem _ (List.mem_flatMap.2 ⟨y, hy, hi⟩))))))))))
  have vl3 : x.2.2.2.1.length ≤ 9223372036854775807 := by obtain ⟨_, _, _, _, hh⟩ := c3; exact hh
  have v4 : ∀ y ∈ x.2.2.2.2, ∀ i ∈ iIns y, wfI i := fun y hy i hi => hv i (List.mem_append.2 (Or.inr (List.mem_append.2 (Or.inr (List.mem_append.2 (Or.inr (List.mem_append.2 (Or.inr (List.mem_append.2 (Or.inl (List.mem_cons_of_mem _ (List.mem_flatMap.2 ⟨y, hy, hi⟩))))))))))))
  have vl4 : x.2.2.2.2.length ≤ 9223372036854775807 := by obtain ⟨_, _, _, _, hh⟩ := c4; exact hh
  clear hv
  generalize hy0 : x.1 = y0 at *
  clear hy0
  generalize hy1 : x.2.1 = y1 at *
  clear hy1
  generalize hy2 : x.2.2.1 = y2 at *
  clear hy2
  generalize hy3 : x.2.2.2.1 = y3 at *
  clear hy3
  generalize hy4 : x.2.2.2.2 = y4 at *
  clear hy4
  obtain ⟨R, hR⟩ : ∃ R, R = runW bs ([.n y0] ++ ([.n y1] ++ (itL iInput y2 ++ (itL iValue y3 ++ (itL iIns y4 ++ []))))) := ⟨_, rfl⟩
  rw [← hR]
  replace hR := Lib.hid hR
  go_enter Try.func80, Try.ntmps80
  go_upto_region 0 with (fail)
  have C := number_w g base bs y0 pb (po) v0.1 v0.2 w.drew (h.later (Below.refl _ _).drew) (by unfold Sm at hs; omega) (cellB hBd.out.drew hpb c0)
  cases e0 : runW bs [.n y0] with
  | none =>
    rw [e0] at C
    obtain rfl : R = none := hR.out.trans (runW_stop e0)
    go_region_with (go_at_call 152; refine C.mono ?_; rintro e u ⟨hb, rfl⟩; refine paysI ⟨#[], []⟩ u ⟨rfl, hBd.out.drew.trans hb, rfl⟩ ?_)
    trivial
  | some b0 =>
    rw [e0] at C
    replace hR := Lib.hid (hR.out.trans (runW_go e0))
    go_region_with (go_at_call 152; refine C.mono ?_; rintro e w0 ⟨hb, rfl, hw0⟩)
    replace hBd := Lib.hid (hBd.out.drew.trans hb)
    have hs0 := runW_sm _ _ _ hs (by intro j hj; simp at hj; subst hj; exact v0) e0
    clear C hb e0
    go_upto_region 1 with (fail)
    have C := number_w g base b0 y1 pb (po + 1) v1.1 v1.2 w0.drew (hw0.later (Below.refl _ _).drew) (by unfold Sm at hs0; omega) (cellB hBd.out.drew hpb c1)
    cases e1 : runW b0 [.n y1] with
    | none =>
      rw [e1] at C
      obtain rfl : R = none := hR.out.trans (runW_stop e1)
      go_region_with (go_at_call 152; refine C.mono ?_; rintro e u ⟨hb, rfl⟩; refine paysI ⟨#[], []⟩ u ⟨rfl, hBd.out.drew.trans hb, rfl⟩ ?_)
      trivial
    | some b1 =>
      rw [e1] at C
      replace hR := Lib.hid (hR.out.trans (runW_go e1))
      go_region_with (go_at_call 152; refine C.mono ?_; rintro e w1 ⟨hb, rfl, hw1⟩)
      replace hBd := Lib.hid (hBd.out.drew.trans hb)
      have hs1 := runW_sm _ _ _ hs0 (by intro j hj; simp at hj; subst hj; exact v1) e1
      clear C hb e1
      have C := list_Input_w g base b1 y2 pb (po + 2) w1 hw1 hs1 hpb (LField.belowB hBd.out hpb (fun _ _ _ hl hh => pInput.belowB hBd.out hl hh) c2) v2
      cases e2 : runW b1 (itL iInput y2) with
      | none =>
        rw [e2] at C
        obtain rfl : R = none := hR.out.trans (runW_stop e2)
        replace C := Lib.hid C
        clear e2
        go_wp2_with fail
        refine C.out.mono ?_; rintro e u ⟨hb, rfl⟩
        go_wp2_with fail
        exact ⟨rfl, hBd.out.trans hb, rfl⟩
      | some b2 =>
        rw [e2] at C
        replace hR := Lib.hid (hR.out.trans (runW_go e2))
        have hs2 := runW_sm _ _ _ hs1 (by intro j hj; unfold itL at hj; rcases List.mem_cons.1 hj with rfl | hj; (· exact vl2); (· obtain ⟨y, hy, hi⟩ := List.mem_flatMap.1 hj; exact v2 y hy j hi)) e2
        replace C := Lib.hid C
        clear e2
        go_wp2_with fail
        refine C.out.mono ?_; rintro e w2 ⟨hb, rfl, hw2⟩
        replace hBd := Lib.hid (hBd.out.trans hb)
        clear C hb
        have C := list_Value_w g base b2 y3 pb (po + 3) w2 hw2 hs2 hpb (LField.belowB hBd.out hpb (fun _ _ _ hl hh => pValue.belowB hBd.out hl hh) c3) v3
        cases e3 : runW b2 (itL iValue y3) with
        | none =>
          rw [e3] at C
          obtain rfl : R = none := hR.out.trans (runW_stop e3)
          replace C := Lib.hid C
          clear e3
          go_wp2_with fail
          refine C.out.mono ?_; rintro e u ⟨hb, rfl⟩
          go_wp2_with fail
          exact ⟨rfl, hBd.out.trans hb, rfl⟩
        | some b3 =>
          rw [e3] at C
          replace hR := Lib.hid (hR.out.trans (runW_go e3))
          have hs3 := runW_sm _ _ _ hs2 (by intro j hj; unfold itL at hj; rcases List.mem_cons.1 hj with rfl | hj; (· exact vl3); (· obtain ⟨y, hy, hi⟩ := List.mem_flatMap.1 hj; exact v3 y hy j hi)) e3
          replace C := Lib.hid C
          clear e3
          go_wp2_with fail
          refine C.out.mono ?_; rintro e w3 ⟨hb, rfl, hw3⟩
          replace hBd := Lib.hid (hBd.out.trans hb)
          clear C hb
          have C := list_Ins_w g base b3 y4 pb (po + 4) w3 hw3 hs3 hpb (LField.belowB hBd.out hpb (fun _ _ _ hl hh => pIns.belowB hBd.out hl hh) c4) v4
          cases e4 : runW b3 (itL iIns y4) with
          | none =>
            rw [e4] at C
            obtain rfl : R = none := hR.out.trans (runW_stop e4)
            replace C := Lib.hid C
            clear e4
            go_wp2_with fail
            refine C.out.mono ?_; rintro e u ⟨hb, rfl⟩
            go_wp2_with fail
            exact ⟨rfl, hBd.out.trans hb, rfl⟩
          | some b4 =>
            rw [e4] at C
            replace hR := Lib.hid (hR.out.trans (runW_go e4))
            have hs4 := runW_sm _ _ _ hs3 (by intro j hj; unfold itL at hj; rcases List.mem_cons.1 hj with rfl | hj; (· exact vl4); (· obtain ⟨y, hy, hi⟩ := List.mem_flatMap.1 hj; exact v4 y hy j hi)) e4
            replace C := Lib.hid C
            clear e4
            go_wp2_with fail
            refine C.out.mono ?_; rintro e w4 ⟨hb, rfl, hw4⟩
            replace hBd := Lib.hid (hBd.out.trans hb)
            clear C hb
            obtain rfl : R = some b4 := hR.out
            go_wp2
            go_end0
            exact ⟨hBd.out, rfl, hw4⟩


set_option maxHeartbeats 8000000 in
set_option maxRecDepth 100000 in
theorem list_Code_w (g base : Nat) (bs : List Nat) (xs : List (TCode)) (pb po : Nat) (w : World) (h : Wtr w g base bs) (hs : Sm bs) (hpb : pb < base) (hx : LField (pCode base) 5 base w pb po xs) (hv : ∀ x ∈ xs, ∀ i ∈ iCode x, wfI i) :
    Calls Try.prog 79 #[(.iface 57 (.pointer (some ⟨g, 0, none⟩))), .pointer (some ⟨pb, po, none⟩), .func (.func 80) #[] #[]] w (WEnd g base (runW bs (itL iCode xs)) (.tuple #[]) w) := by
  have hmf : ∀ (fn : Fn) (first cap : Array Value) (w : World), (Instr.makeFunc fn first cap).run Try.prog w = .ok (.func fn first cap) w := fun _ _ _ _ => rfl
  have nacount := na_count ⟨g, 0, none⟩
  have mecount := me_count ⟨g, 0, none⟩
  obtain ⟨A, c, hp, hA, hlen⟩ := hx
  have CC := count_w g base bs xs.length hlen w.drew (h.later (Below.refl _ _).drew) (by unfold Sm at hs; omega)
  have hsplit : runW bs (itL iCode xs) = (runW bs [.c xs.length]).bind fun b => runW b (xs.flatMap iCode) := by
    unfold itL
    rw [show Itm.c xs.length :: xs.flatMap iCode = [.c xs.length] ++ xs.flatMap iCode from rfl, runW_append]
  rw [hsplit]
  have hbd := Lib.hid ((Below.refl base w).drew)
  clear hsplit
  cases h0 : runW bs [.c xs.length] with
  | none =>
    rw [h0] at CC
    go_enter Try.func79, Try.ntmps79
    go_upto_region 0 with (fail)
    go_region_with (go_at_call 150; refine CC.mono ?_; rintro e u ⟨hb, rfl⟩; refine paysI ⟨#[], []⟩ u ⟨rfl, hbd.out.trans hb, rfl⟩ ?_)
    all_goals trivial
  | some b1 =>
    rw [h0] at CC
    have hs1 := runW_sm _ _ _ hs (by intro i hi; simp at hi; subst hi; exact hlen) h0
    clear h0 h
    show Calls _ _ _ _ (WEnd g base (runW b1 (xs.flatMap iCode)) (.tuple #[]) w)
    go_enter Try.func79, Try.ntmps79
    go_upto_region 0 with (fail)
    go_cut [15, 16] from 7 to 16 (fun n i w' => n = .int .i64 (xs.length : Int) ∧ i = .int .i64 0 ∧ Wtr w' g base b1 ∧ Below base w w')
    case first =>
      go_region_with (go_at_call 150; refine CC.mono ?_; rintro e u ⟨hb, rfl, hw⟩)
      all_goals (go_wp2_with fail; go_meet; exact ⟨rfl, rfl, hw, hbd.out.trans hb⟩)
    case rest =>
    obtain ⟨rfl, rfl, hw, hB0⟩ := hcut
    clear CC hbd
    go_wp2_with fail
    go_loopw [16] (fun vi wr => ∃ (k : Nat) (bk : List Nat), k ≤ xs.length ∧ vi = .int .i64 (k : Int) ∧ Sm bk ∧ Wtr wr g base bk ∧ Below base w wr ∧ runW b1 (xs.flatMap iCode) = runW bk ((xs.drop k).flatMap iCode)) (fun vi _ => xs.length - (intOf vi).toNat)
    case atStart => exact ⟨0, b1, by omega, rfl, hs1, hw, hB0, rfl⟩
    case round =>
      clear hw hs1 hB0
      obtain ⟨k, bk, hk, rfl, hsk, hWk, hBk, hrk⟩ := hrel
      have k0 : (0 : Int) ≤ (k : Int) := by omega
      by_cases hlt : k < xs.length
      · have k1 : (k : Int) < (xs.length : Int) := by omega
        have kne : ((k : Int) == (xs.length : Int)) = false := by rw [beq_eq_false_iff_ne]; omega
        have hc := List.getElem?_eq_getElem hlt
        have hwf := hv _ (List.getElem_mem hlt)
        have hd : xs.drop k = xs[k] :: xs.drop (k + 1) := List.drop_eq_getElem_cons hlt
        rw [hd, List.flatMap_cons] at hrk
        obtain ⟨b, off, rfl, hbl, hall⟩ := hA (by omega)
        have hPk := hall k _ hc
        generalize xs[k] = x at *
        have hp1 := cellB hBk hpb hp
        have CE := Code_w g base bk x b (off + k * 5) wr hWk hsk hbl (pCode.belowB hBk hbl (by first | exact hPk | (rw [Nat.mul_one] at hPk; exact hPk))) hwf
        replace hrk := Lib.hid hrk
        replace hd := Lib.hid hd
        replace hBk := Lib.hid hBk
        replace hWk := Lib.hid hWk
        replace hwf := Lib.hid hwf
        clear hall hc hPk
        cases hx0 : runW bk (iCode x) with
        | none =>
          rw [hx0] at CE
          replace hrk := Lib.hid (hrk.out.trans (runW_stop hx0))
          rw [hrk.out]
          replace CE := Lib.hid CE
          clear hx0
          go_wp2_with fail
          refine CE.out.mono ?_; rintro e u ⟨hb, rfl⟩
          go_wp2_with fail
          exact ⟨rfl, hBk.out.trans hb, rfl⟩
        | some b2 =>
          rw [hx0] at CE
          replace hrk := Lib.hid (hrk.out.trans (runW_go hx0))
          have hs2 := runW_sm _ _ _ hsk hwf.out hx0
          replace CE := Lib.hid CE
          clear hx0
          go_wp2_with fail
          refine CE.out.mono ?_; rintro e u ⟨hb, rfl, hw2⟩
          replace hb := Lib.hid (hBk.out.trans hb)
          replace hw2 := Lib.hid hw2
          go_wp2
          go_roundw
          case rel => exact ⟨k + 1, b2, by omega, by go_num, hs2, hw2.out, hb.out, hrk.out⟩
          case measure => simp [intOf]; omega
      · obtain rfl : k = xs.length := by omega
        rw [List.drop_length] at hrk
        have hfin : WEnd g base (runW b1 (xs.flatMap iCode)) (.tuple #[]) w (.returned (.tuple #[])) wr := ⟨hBk, by rw [hrk]; exact ⟨rfl, hWk⟩⟩
        replace hfin := Lib.hid hfin
        clear hrk hWk hBk
        go_wp2
        go_end0
        exact hfin.out


set_option maxHeartbeats 8000000 in
set_option maxRecDepth 100000 in
theorem Table_w (g base : Nat) (bs : List Nat) (x : TTable) (pb po : Nat) (w : World) (h : Wtr w g base bs) (hs : Sm bs) (hpb : pb < base) (hx : pTable base w pb po x) (hv : ∀ i ∈ iTable x, wfI i) :
    Calls Try.prog 50 #[(.iface 57 (.pointer (some ⟨g, 0, none⟩))), .pointer (some ⟨pb, po, none⟩)] w (WEnd g base (runW bs (iTable x)) (.tuple #[]) w) := by
  have hmf : ∀ (fn : Fn) (first cap : Array Value) (w : World), (Instr.makeFunc fn first cap).run Try.prog w = .ok (.func fn first cap) w := fun _ _ _ _ => rfl
  have nanumber := na_number ⟨g, 0, none⟩
  have menumber := me_number ⟨g, 0, none⟩
  obtain ⟨c0, c1, c2, c3, c4, c5, c6, c7⟩ := hx
  have hBd := Lib.hid (Below.refl base w)
  unfold iTable at hv ⊢
  have v0 : wfI (.n (x.1.1)) := hv _ (List.mem_append.2 (Or.inl (List.mem_cons_self)))
  have v1 : ∀ y ∈ x.1.2.1, ∀ i ∈ iInt y, wfI i := fun y hy i hi => hv i (List.mem_append.2 (Or.inr (List.mem_append.2 (Or.inl (List.mem_cons_of_mem _ (List.mem_flatMap.2 ⟨y, hy, hi⟩))))))
  have vl1 : x.1.2.1.length ≤ 9223372036854775807 := by obtain ⟨_, _, _, _, hh⟩ := c1; exact hh
  have v2 : ∀ y ∈ x.1.2.2.1, ∀ i ∈ iInts y, wfI i := fun y hy i hi => hv i (List.mem_append.2 (Or.inr (List.mem_append.2 (Or.inr (List.mem_append.2 (Or.inl (List.mem_cons_of_mem _ (List.mem_flatMap.2 ⟨y, hy, hi⟩))))))))
  have vl2 : x.1.2.2.1.length ≤ 9223372036854775807 := by obtain ⟨_, _, _, _, hh⟩ := c2; exact hh
  have v3 : wfI (.n (x.1.2.2.2.1)) := hv _ (List.mem_append.2 (Or.inr (List.mem_append.2 (Or.inr (List.mem_append.2 (Or.inr (List.mem_append.2 (Or.inl (List.mem_cons_self)))))))))
  have v4 : wfI (.n (x.1.2.2.2.2.1)) := hv _ (List.mem_append.2 (Or.inr (List.mem_append.2 (Or.inr (List.mem_append.2 (Or.inr (List.mem_append.2 (Or.inr (List.mem_append.2 (Or.inl (List.mem_cons_self)))))))))))
  have v5 : wfI (.n (x.1.2.2.2.2.2)) := hv _ (List.mem_append.2 (Or.inr (List.mem_append.2 (Or.inr (List.mem_append.2 (Or.inr (List.mem_append.2 (Or.inr (List.mem_append.2 (Or.inr (List.mem_append.2 (Or.inl (List.mem_cons_self)))))))))))))
  have v6 : ∀ y ∈ x.2.1, ∀ i ∈ iRow y, wfI i := fun y hy i hi => hv i (List.mem_append.2 (Or.inr (List.mem_append.2 (Or.inr (List.mem_append.2 (Or.inr (List.mem_append.2 (Or.inr (List.mem_append.2 (Or.inr (List.mem_append.2 (Or.inr (List.mem_append.2 (Or.inl (List.mem_cons_of_mem _ (List.mem_flatMap.2 ⟨y, hy, hi⟩))))))))))))))))
  have vl6 : x.2.1.length ≤ 9223372036854775807 := by obtain ⟨_, _, _, _, hh⟩ := c6; exact hh
  have v7 : ∀ y ∈ x.2.2, ∀ i ∈ iCode y, wfI i := fun y hy i hi => hv i (List.mem_append.2 (Or.inr (List.mem_append.2 (Or.inr (List.mem_append.2 (Or.inr (List.mem_append.2 (Or.inr (List.mem_append.2 (Or.inr (List.mem_append.2 (Or.inr (List.mem_append.2 (Or.inr (List.mem_append.2 (Or.inl (List.mem_cons_of_mem _ (List.mem_flatMap.2 ⟨y, hy, hi⟩))))))))))))))))))
  have vl7 : x.2.2.length ≤ 9223372036854775807 := by obtain ⟨_, _, _, _, hh⟩ := c7; exact hh
  clear hv
  generalize hy0 : x.1.1 = y0 at *
  clear hy0
  generalize hy1 : x.1.2.1 = y1 at *
  clear hy1
  generalize hy2 : x.1.2.2.1 = y2 at *
  clear hy2
  generalize hy3 : x.1.2.2.2.1 = y3 at *
  clear hy3
  generalize hy4 : x.1.2.2.2.2.1 = y4 at *
  clear hy4
  generalize hy5 : x.1.2.2.2.2.2 = y5 at *
  clear hy5
  generalize hy6 : x.2.1 = y6 at *
  clear hy6
  generalize hy7 : x.2.2 = y7 at *
  clear hy7
  obtain ⟨R, hR⟩ : ∃ R, R = runW bs ([.n y0] ++ (itL iInt y1 ++ (itL iInts y2 ++ ([.n y3] ++ ([.n y4] ++ ([.n y5] ++ (itL iRow y6 ++ (itL iCode y7 ++ [])))))))) := ⟨_, rfl⟩
  rw [← hR]
  replace hR := Lib.hid hR
  go_enter Try.func50, Try.ntmps50
  go_upto_region 0 with (fail)
  have C := number_w g base bs y0 pb (po) v0.1 v0.2 w.drew (h.later (Below.refl _ _).drew) (by unfold Sm at hs; omega) (cellB hBd.out.drew hpb c0)
  cases e0 : runW bs [.n y0] with
  | none =>
    rw [e0] at C
    obtain rfl : R = none := hR.out.trans (runW_stop e0)
    go_region_with (go_at_call 152; refine C.mono ?_; rintro e u ⟨hb, rfl⟩; refine paysI ⟨#[], []⟩ u ⟨rfl, hBd.out.drew.trans hb, rfl⟩ ?_)
    trivial
  | some b0 =>
    rw [e0] at C
    replace hR := Lib.hid (hR.out.trans (runW_go e0))
    go_region_with (go_at_call 152; refine C.mono ?_; rintro e w0 ⟨hb, rfl, hw0⟩)
    replace hBd := Lib.hid (hBd.out.drew.trans hb)
    have hs0 := runW_sm _ _ _ hs (by intro j hj; simp at hj; subst hj; exact v0) e0
    clear C hb e0
    have C := numbers_w g base b0 y1 pb (po + 1) w0 hw0 hs0 hpb (LField.belowB hBd.out hpb (fun _ _ _ hl hh => pInt.belowB hBd.out hl hh) c1) v1
    cases e1 : runW b0 (itL iInt y1) with
    | none =>
      rw [e1] at C
      obtain rfl : R = none := hR.out.trans (runW_stop e1)
      replace C := Lib.hid C
      clear e1
      go_wp2_with fail
      refine C.out.mono ?_; rintro e u ⟨hb, rfl⟩
      go_wp2_with fail
      exact ⟨rfl, hBd.out.trans hb, rfl⟩
    | some b1 =>
      rw [e1] at C
      replace hR := Lib.hid (hR.out.trans (runW_go e1))
      have hs1 := runW_sm _ _ _ hs0 (by intro j hj; unfold itL at hj; rcases List.mem_cons.1 hj with rfl | hj; (· exact vl1); (· obtain ⟨y, hy, hi⟩ := List.mem_flatMap.1 hj; exact v1 y hy j hi)) e1
      replace C := Lib.hid C
      clear e1
      go_wp2_with fail
      refine C.out.mono ?_; rintro e w1 ⟨hb, rfl, hw1⟩
      replace hBd := Lib.hid (hBd.out.trans hb)
      clear C hb
      have C := list_Ints_w g base b1 y2 pb (po + 2) w1 hw1 hs1 hpb (LField.belowB hBd.out hpb (fun _ _ _ hl hh => pInts.belowB hBd.out hl hh) c2) v2
      cases e2 : runW b1 (itL iInts y2) with
      | none =>
        rw [e2] at C
        obtain rfl : R = none := hR.out.trans (runW_stop e2)
        replace C := Lib.hid C
        clear e2
        go_wp2_with fail
        refine C.out.mono ?_; rintro e u ⟨hb, rfl⟩
        go_wp2_with fail
        exact ⟨rfl, hBd.out.trans hb, rfl⟩
      | some b2 =>
        rw [e2] at C
        replace hR := Lib.hid (hR.out.trans (runW_go e2))
        have hs2 := runW_sm _ _ _ hs1 (by intro j hj; unfold itL at hj; rcases List.mem_cons.1 hj with rfl | hj; (· exact vl2); (· obtain ⟨y, hy, hi⟩ := List.mem_flatMap.1 hj; exact v2 y hy j hi)) e2
        replace C := Lib.hid C
        clear e2
        go_wp2_with fail
        refine C.out.mono ?_; rintro e w2 ⟨hb, rfl, hw2⟩
        replace hBd := Lib.hid (hBd.out.trans hb)
        clear C hb
        go_upto_region 3 with (fail)
        have C := number_w g base b2 y3 pb (po + 3) v3.1 v3.2 w2.drew (hw2.later (Below.refl _ _).drew) (by unfold Sm at hs2; omega) (cellB hBd.out.drew hpb c3)
        cases e3 : runW b2 [.n y3] with
        | none =>
          rw [e3] at C
          obtain rfl : R = none := hR.out.trans (runW_stop e3)
          go_region_with (go_at_call 152; refine C.mono ?_; rintro e u ⟨hb, rfl⟩; refine paysI ⟨#[], []⟩ u ⟨rfl, hBd.out.drew.trans hb, rfl⟩ ?_)
          trivial
        | some b3 =>
          rw [e3] at C
          replace hR := Lib.hid (hR.out.trans (runW_go e3))
          go_region_with (go_at_call 152; refine C.mono ?_; rintro e w3 ⟨hb, rfl, hw3⟩)
          replace hBd := Lib.hid (hBd.out.drew.trans hb)
          have hs3 := runW_sm _ _ _ hs2 (by intro j hj; simp at hj; subst hj; exact v3) e3
          clear C hb e3
          go_upto_region 4 with (fail)
          have C := number_w g base b3 y4 pb (po + 4) v4.1 v4.2 w3.drew (hw3.later (Below.refl _ _).drew) (by unfold Sm at hs3; omega) (cellB hBd.out.drew hpb c4)
          cases e4 : runW b3 [.n y4] with
          | none =>
            rw [e4] at C
            obtain rfl : R = none := hR.out.trans (runW_stop e4)
            go_region_with (go_at_call 152; refine C.mono ?_; rintro e u ⟨hb, rfl⟩; refine paysI ⟨#[], []⟩ u ⟨rfl, hBd.out.drew.trans hb, rfl⟩ ?_)
            trivial
          | some b4 =>
            rw [e4] at C
            replace hR := Lib.hid (hR.out.trans (runW_go e4))
            go_region_with (go_at_call 152; refine C.mono ?_; rintro e w4 ⟨hb, rfl, hw4⟩)
            replace hBd := Lib.hid (hBd.out.drew.trans hb)
            have hs4 := runW_sm _ _ _ hs3 (by intro j hj; simp at hj; subst hj; exact v4) e4
            clear C hb e4
            go_upto_region 5 with (fail)
            have C := number_w g base b4 y5 pb (po + 5) v5.1 v5.2 w4.drew (hw4.later (Below.refl _ _).drew) (by unfold Sm at hs4; omega) (cellB hBd.out.drew hpb c5)
            cases e5 : runW b4 [.n y5] with
            | none =>
              rw [e5] at C
              obtain rfl : R = none := hR.out.trans (runW_stop e5)
              go_region_with (go_at_call 152; refine C.mono ?_; rintro e u ⟨hb, rfl⟩; refine paysI ⟨#[], []⟩ u ⟨rfl, hBd.out.drew.trans hb, rfl⟩ ?_)
              trivial
            | some b5 =>
              rw [e5] at C
              replace hR := Lib.hid (hR.out.trans (runW_go e5))
              go_region_with (go_at_call 152; refine C.mono ?_; rintro e w5 ⟨hb, rfl, hw5⟩)
              replace hBd := Lib.hid (hBd.out.drew.trans hb)
              have hs5 := runW_sm _ _ _ hs4 (by intro j hj; simp at hj; subst hj; exact v5) e5
              clear C hb e5
              have C := list_Row_w g base b5 y6 pb (po + 6) w5 hw5 hs5 hpb (LField.belowB hBd.out hpb (fun _ _ _ hl hh => pRow.belowB hBd.out hl hh) c6) v6
              cases e6 : runW b5 (itL iRow y6) with
              | none =>
                rw [e6] at C
                obtain rfl : R = none := hR.out.trans (runW_stop e6)
                replace C := Lib.hid C
                clear e6
                go_wp2_with fail
                refine C.out.mono ?_; rintro e u ⟨hb, rfl⟩
                go_wp2_with fail
                exact ⟨rfl, hBd.out.trans hb, rfl⟩
              | some b6 =>
                rw [e6] at C
                replace hR := Lib.hid (hR.out.trans (runW_go e6))
                have hs6 := runW_sm _ _ _ hs5 (by intro j hj; unfold itL at hj; rcases List.mem_cons.1 hj with rfl | hj; (· exact vl6); (· obtain ⟨y, hy, hi⟩ := List.mem_flatMap.1 hj; exact v6 y hy j hi)) e6
                replace C := Lib.hid C
                clear e6
                go_wp2_with fail
                refine C.out.mono ?_; rintro e w6 ⟨hb, rfl, hw6⟩
                replace hBd := Lib.hid (hBd.out.trans hb)
                clear C hb
                have C := list_Code_w g base b6 y7 pb (po + 7) w6 hw6 hs6 hpb (LField.belowB hBd.out hpb (fun _ _ _ hl hh => pCode.belowB hBd.out hl hh) c7) v7
                cases e7 : runW b6 (itL iCode y7) with
                | none =>
                  rw [e7] at C
                  obtain rfl : R = none := hR.out.trans (runW_stop e7)
                  replace C := Lib.hid C
                  clear e7
                  go_wp2_with fail
                  refine C.out.mono ?_; rintro e u ⟨hb, rfl⟩
                  go_wp2_with fail
                  exact ⟨rfl, hBd.out.trans hb, rfl⟩
                | some b7 =>
                  rw [e7] at C
                  replace hR := Lib.hid (hR.out.trans (runW_go e7))
                  have hs7 := runW_sm _ _ _ hs6 (by intro j hj; unfold itL at hj; rcases List.mem_cons.1 hj with rfl | hj; (· exact vl7); (· obtain ⟨y, hy, hi⟩ := List.mem_flatMap.1 hj; exact v7 y hy j hi)) e7
                  replace C := Lib.hid C
                  clear e7
                  go_wp2_with fail
                  refine C.out.mono ?_; rintro e w7 ⟨hb, rfl, hw7⟩
                  replace hBd := Lib.hid (hBd.out.trans hb)
                  clear C hb
                  obtain rfl : R = some b7 := hR.out
                  go_wp2
                  go_end0
                  exact ⟨hBd.out, rfl, hw7⟩

end Go.Proofs.Ytlfhgmoafgjdcaa
