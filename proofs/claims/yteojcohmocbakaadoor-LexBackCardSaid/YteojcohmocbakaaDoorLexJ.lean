/- How the program spells tokens, as contracts. -/
import Derived.Test.YteojcohmocbakaaDoorLexI
import Derived.Test.YteojcohmocbakaaDoorShelfB
import Derived.Lib.LaidTab
import Derived.Lib.ItoaMem
import Derived.Lib.AppendIntMem
namespace Go.Proofs.YteojcohmocbakaaDoor
open Go.ChangeShapes Go.WideShapes Go.ChangeAt Go.RowKit
set_option linter.unusedVariables false
set_option linter.unusedSimpArgs false

abbrev Tab (w : World) : Prop := Lib.TabIs Tryd.prog w "internal/strconv.uint64pow10" .u64 Lib.pow10Tab
theorem Tab.later {w w1 : World} (h : Tab w) (hb : Below w.heap.size w w1) : Tab w1 := Lib.tabBelow_of_tabIs h _ hb
theorem format_any (n : Int) (w : World) (h0 : -9223372036854775808 ≤ n) (h1 : n ≤ 9223372036854775807) (ht : Tab w) :
    Calls Tryd.prog 20 #[.int .i64 n, .int .i64 10] w fun e w' => e = .returned (.string (ba (Lib.itoa n))) ∧ Below w.heap.size w w' := by
  refine (Tryd.strconv_FormatInt_10 n h0 h1 w ht).mono ?_
  rintro e w' ⟨rfl, k, os, rfl⟩
  exact ⟨rfl, Lib.below_grow _ _ (Nat.le_refl _) k os⟩
/-- a spelt token's box -/
theorem boxed5 (w : World) (k : Int) (t : ByteArray) (n sc a : Int) (ty : TypeId) : (w.alloc (.cells #[.int .i64 k, .string t, .int .i64 n, .int .i64 sc, .int .i64 a] ty)).cell? ⟨w.heap.size, 0, none⟩ = some (.int .i64 k) ∧ (w.alloc (.cells #[.int .i64 k, .string t, .int .i64 n, .int .i64 sc, .int .i64 a] ty)).cell? ⟨w.heap.size, 1, none⟩ = some (.string t) ∧ (w.alloc (.cells #[.int .i64 k, .string t, .int .i64 n, .int .i64 sc, .int .i64 a] ty)).cell? ⟨w.heap.size, 2, none⟩ = some (.int .i64 n) ∧ (w.alloc (.cells #[.int .i64 k, .string t, .int .i64 n, .int .i64 sc, .int .i64 a] ty)).cell? ⟨w.heap.size, 3, none⟩ = some (.int .i64 sc) := by
  refine ⟨?_, ?_, ?_, ?_⟩ <;> simp [go_sem]
theorem spell_text (k : Int) (hk : k = 1 ∨ k = 2 ∨ k = 6) (t : ByteArray) (n sc a : Int) (w : World) (hs : t.size ≤ 4000) :
    Calls Tryd.prog 12 #[tokV k t n sc a] w fun e w' => e = .returned (.string t) ∧ Below w.heap.size w w' := by
  have CC := fun w => clone_any t w (by omega)
  replace CC := Lib.hid CC
  have hu := m1 w (.cells #[.int .i64 k, .string t, .int .i64 n, .int .i64 sc, .int .i64 a] 33)
  obtain ⟨c0, c1, c2, c3⟩ := boxed5 w k t n sc a 33
  unfold tokV
  rcases hk with rfl | rfl | rfl
  all_goals go_enter Tryd.func12, Tryd.ntmps12
  all_goals go_wp2_with (go_at_call 19; refine (CC.out _).mono ?_; rintro e w1 ⟨rfl, hb1⟩)
  all_goals go_ret
  all_goals exact ⟨rfl, mmore hu hb1⟩
theorem spell_fin (t : ByteArray) (n sc a : Int) (w : World) :
    Calls Tryd.prog 12 #[tokV 0 t n sc a] w fun e w' => e = .returned (.string ⟨#[]⟩) ∧ Below w.heap.size w w' := by
  have hu := m1 w (.cells #[.int .i64 0, .string t, .int .i64 n, .int .i64 sc, .int .i64 a] 33)
  obtain ⟨c0, c1, c2, c3⟩ := boxed5 w 0 t n sc a 33
  unfold tokV
  go_enter Tryd.func12, Tryd.ntmps12
  go_wp2
  go_ret
  exact ⟨rfl, hu⟩
theorem spell_sym (t : ByteArray) (n sc a : Int) (w : World) (hs : t.size ≤ 4000) :
    Calls Tryd.prog 12 #[tokV 5 t n sc a] w fun e w' => e = .returned (.string ((⟨#[39]⟩ : ByteArray) ++ t ++ ⟨#[39]⟩)) ∧ Below w.heap.size w w' := by
  have hu := m1 w (.cells #[.int .i64 5, .string t, .int .i64 n, .int .i64 sc, .int .i64 a] 33)
  obtain ⟨c0, c1, c2, c3⟩ := boxed5 w 5 t n sc a 33
  have b1 : ¬ 9223372036854775807 < 1 + t.size := by omega
  have b2 : ¬ 9223372036854775807 < 1 + t.size + 1 := by omega
  unfold tokV
  go_enter Tryd.func12, Tryd.ntmps12
  go_wp2
  go_ret
  exact ⟨rfl, hu⟩
theorem spell_int (t : ByteArray) (n sc a : Int) (w : World) (h0 : -9223372036854775808 ≤ n) (h1 : n ≤ 9223372036854775807) (ht : Tab w) :
    Calls Tryd.prog 12 #[tokV 3 t n sc a] w fun e w' => e = .returned (.string (ba (Lib.itoa n))) ∧ Below w.heap.size w w' := by
  have hu := m1 w (.cells #[.int .i64 3, .string t, .int .i64 n, .int .i64 sc, .int .i64 a] 33)
  have CF := format_any n _ h0 h1 (ht.later hu)
  replace CF := Lib.hid CF
  obtain ⟨c0, c1, c2, c3⟩ := boxed5 w 3 t n sc a 33
  unfold tokV
  generalize ba (Lib.itoa n) = z at *
  go_enter Tryd.func12, Tryd.ntmps12
  go_wp2_with (go_at_call 20; refine CF.out.mono ?_; rintro e w1 ⟨rfl, hb1⟩)
  go_ret
  exact ⟨rfl, mmore hu hb1⟩
theorem spell_real (t : ByteArray) (n sc a : Int) (z : ByteArray) (w : World) (hd : ∀ w1, Below w.heap.size w w1 → Calls Tryd.prog 21 #[.int .i64 n, .int .i64 sc] w1 fun e w' => e = .returned (.string z) ∧ Below w1.heap.size w1 w') :
    Calls Tryd.prog 12 #[tokV 4 t n sc a] w fun e w' => e = .returned (.string z) ∧ Below w.heap.size w w' := by
  have hu := m1 w (.cells #[.int .i64 4, .string t, .int .i64 n, .int .i64 sc, .int .i64 a] 33)
  have CF := Lib.hid (hd _ hu)
  obtain ⟨c0, c1, c2, c3⟩ := boxed5 w 4 t n sc a 33
  unfold tokV
  clear hd
  go_enter Tryd.func12, Tryd.ntmps12
  go_wp2_with (go_at_call 21; refine CF.out.mono ?_; rintro e w1 ⟨rfl, hb1⟩)
  go_ret
  exact ⟨rfl, mmore hu hb1⟩
theorem repeatL_one (c : UInt8) : ∀ n, Lib.repeatL [c] n = List.replicate n c
  | 0 => rfl
  | n + 1 => by
    rw [List.replicate_succ]
    show [c] ++ Lib.repeatL [c] n = _
    rw [repeatL_one c n]
    rfl
set_option maxHeartbeats 4000000 in
set_option maxRecDepth 100000 in
theorem decimal_F (W P : List UInt8) (w : World) (hW : ∀ x ∈ W, digC (x.toNat : Int) = true) (hP : ∀ x ∈ P, digC (x.toNat : Int) = true) (h0 : noLead W) (hp : P ≠ []) (h15 : W.length + P.length ≤ 15) (ht : Tab w) :
    Calls Tryd.prog 21 #[.int .i64 (digV (W ++ P) : Int), .int .i64 (P.length : Int)] w fun e w' => e = .returned (.string (ba (W ++ 46 :: P))) ∧ Below w.heap.size w w' := by
  have hall : ∀ x ∈ W ++ P, digC (x.toNat : Int) = true := fun x hx => by
    rcases List.mem_append.1 hx with h | h
    · exact hW x h
    · exact hP x h
  have hlt := digV_lt _ _ rfl hall
  have h10 : 10 ^ (W ++ P).length ≤ 10 ^ 15 := Nat.pow_le_pow_right (by omega) (by rw [List.length_append]; exact h15)
  have hN : digV (W ++ P) < 1000000000000000 := by omega
  have hpd := point_dig W P hW hP h0
  have hdl := congrArg List.length hpd
  rw [List.length_append, List.length_replicate, List.length_append] at hdl
  have hW1 : 1 ≤ W.length := by
    cases W with
    | nil => exact absurd rfl h0.1
    | cons c W => simp
  have hP1 : 1 ≤ P.length := by
    cases P with
    | nil => exact absurd rfl hp
    | cons c W => simp
  have CF := format_any (digV (W ++ P) : Int) w (by omega) (by omega) ht
  have hit : Lib.itoa (digV (W ++ P) : Int) = Lib.decDigits (digV (W ++ P)) := by unfold Lib.itoa; rw [if_neg (by omega), Int.toNat_natCast]
  rw [hit] at CF
  generalize digV (W ++ P) = N at *
  generalize hD : Lib.decDigits N = D at *
  obtain ⟨r, hr⟩ : ∃ r : Nat, r = P.length + 1 - D.length := ⟨_, rfl⟩
  rw [← hr] at hpd hdl
  have hbz := ba_size D
  have CR : ∀ w, Calls Tryd.prog 38 #[.string ⟨#[48]⟩, .int .i64 (r : Int)] w fun e w' => e = .returned (.string (ba (List.replicate r 48))) ∧ Below w.heap.size w w' := by
    intro w
    have := Tryd.strings_Repeat ⟨#[48]⟩ r w (by omega) (by show 1 * r ≤ _; omega)
    rw [show (⟨#[48]⟩ : ByteArray).data.toList = [48] from rfl, repeatL_one] at this
    exact this
  have hrz := ba_size (List.replicate r (48 : UInt8))
  rw [List.length_replicate] at hrz
  have hcat : ba (List.replicate r 48) ++ ba D = ba (W ++ P) := by
    rw [← ba_of (ba _ ++ ba D), list_append, ba_list, ba_list, hpd]
  have hcz := ba_size (W ++ P)
  rw [List.length_append] at hcz
  have hx1 : (ba (W ++ P)).extract 0 W.length = ba W := by
    rw [← ba_of ((ba (W ++ P)).extract 0 W.length), ext_to, ba_list]
    simp
  have hx2 : (ba (W ++ P)).extract W.length (ba (W ++ P)).size = ba P := by
    rw [← ba_of ((ba (W ++ P)).extract W.length _), ext_from, ba_list]
    simp
  have hfin : ba W ++ (⟨#[46]⟩ : ByteArray) ++ ba P = ba (W ++ 46 :: P) := by
    rw [← ba_of (ba W ++ _ ++ ba P), list_append, list_append, ba_list, ba_list]
    rw [show (⟨#[46]⟩ : ByteArray).data.toList = [46] from rfl, List.append_assoc]
    rfl
  have s1 : ¬ (P.length : Int) < 1 := by omega
  have s2 : ¬ (P.length : Int) ≥ 15 := by omega
  have wr : IntKind.i64.wrap ((P.length : Int) + 1) = (P.length : Int) + 1 := by rw [IntKind.wrap_i64]; omega
  have wr2 : IntKind.i64.wrap ((P.length : Int) + 1 - ((ba D).size : Int)) = (P.length : Int) + 1 - ((ba D).size : Int) := by rw [IntKind.wrap_i64]; omega
  have wm : max (0 : Int) ((P.length : Int) + 1 - ((ba D).size : Int)) = (r : Int) := by omega
  have wl : IntKind.i64.wrap (((ba (W ++ P)).size : Int) - (P.length : Int)) = (W.length : Int) := by rw [IntKind.wrap_i64]; omega
  replace hcat := Lib.hid hcat
  replace hx1 := Lib.hid hx1
  replace hx2 := Lib.hid hx2
  replace hfin := Lib.hid hfin
  replace CF := Lib.hid CF
  replace CR := Lib.hid CR
  have z1 : (ba (List.replicate r (48 : UInt8))).size ≤ 20 := by omega
  have z2 : (ba D).size ≤ 20 := by omega
  have z3 : (ba (W ++ P)).size ≤ 20 := by omega
  have z4 : (W.length : Int) ≤ ((ba (W ++ P)).size : Int) := by omega
  have z5 : (0 : Int) ≤ (W.length : Int) := by omega
  clear hdl hpd hD hit hr hbz hrz hcz hN h10 hlt hall
  generalize ba (List.replicate r (48 : UInt8)) = R at *
  generalize ba (W ++ P) = C at *
  generalize ba D = E at *
  generalize W.length = a at *
  generalize P.length = m at *
  go_enter Tryd.func21, Tryd.ntmps21
  go_upto_region 5 with (first | (go_at_call 20; refine CF.out.mono ?_; rintro e w1 ⟨rfl, hb1⟩) | (go_at_call 38; refine (CR.out _).mono ?_; rintro e w2 ⟨rfl, hb2⟩))
  rw [hcat.out]
  go_upto_region 6 with (fail)
  have q1 : ¬ 9223372036854775807 < min a C.size + 1 := by omega
  have q2 : ¬ 9223372036854775807 < min a C.size + 1 + (C.size - a) := by omega
  have hBB := hb1.trans (hb2.mono hb1.size)
  go_quiet (fail)
  have hB3 := Go.below_drewN hBB nq
  generalize w2.drewN nq = w3 at *
  go_wp2_with fail
  rw [hx1.out, hx2.out, hfin.out]
  go_ret
  exact ⟨rfl, hB3⟩
end Go.Proofs.YteojcohmocbakaaDoor
