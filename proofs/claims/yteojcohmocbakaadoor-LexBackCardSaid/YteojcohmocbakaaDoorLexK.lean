/- How the document spells tokens, as contracts; what both spell. -/
import Derived.Test.YteojcohmocbakaaDoorLexJ
namespace Go.Proofs.YteojcohmocbakaaDoor
open Go.ChangeShapes Go.WideShapes Go.ChangeAt Go.RowKit
set_option linter.unusedVariables false
set_option linter.unusedSimpArgs false

theorem rspell_text (k : Int) (hk : k = 0 ∨ k = 1 ∨ k = 2 ∨ k = 6) (t : ByteArray) (n sc a : Int) (w : World) :
    Calls Tryd.prog 13 #[tokV k t n sc a] w fun e w' => e = .returned (.string t) ∧ Below w.heap.size w w' := by
  have hu := m1 w (.cells #[.int .i64 k, .string t, .int .i64 n, .int .i64 sc, .int .i64 a] 36)
  obtain ⟨c0, c1, c2, c3⟩ := boxed5 w k t n sc a 36
  unfold tokV
  rcases hk with rfl | rfl | rfl | rfl
  all_goals go_enter Tryd.func13, Tryd.ntmps13
  all_goals go_wp2
  all_goals go_ret
  all_goals exact ⟨rfl, hu⟩
theorem rspell_sym (t : ByteArray) (n sc a : Int) (w : World) (hs : t.size ≤ 4000) :
    Calls Tryd.prog 13 #[tokV 5 t n sc a] w fun e w' => e = .returned (.string ((⟨#[39]⟩ : ByteArray) ++ t ++ ⟨#[39]⟩)) ∧ Below w.heap.size w w' := by
  have hu := m1 w (.cells #[.int .i64 5, .string t, .int .i64 n, .int .i64 sc, .int .i64 a] 36)
  obtain ⟨c0, c1, c2, c3⟩ := boxed5 w 5 t n sc a 36
  have b1 : ¬ 9223372036854775807 < 1 + t.size := by omega
  have b2 : ¬ 9223372036854775807 < 1 + t.size + 1 := by omega
  unfold tokV
  go_enter Tryd.func13, Tryd.ntmps13
  go_wp2
  go_ret
  exact ⟨rfl, hu⟩
theorem rspell_int (t : ByteArray) (n sc a : Int) (w : World) (h0 : -9223372036854775808 ≤ n) (h1 : n ≤ 9223372036854775807) :
    Calls Tryd.prog 13 #[tokV 3 t n sc a] w fun e w' => e = .returned (.string (ba (Lib.itoa n))) ∧ Below w.heap.size w w' := by
  have hu := m1 w (.cells #[.int .i64 3, .string t, .int .i64 n, .int .i64 sc, .int .i64 a] 36)
  have CF : ∀ w, Calls Tryd.prog 22 #[.int .i64 n] w fun e w' => e = .returned (.string (ba (Lib.itoa n))) ∧ Below w.heap.size w w' := fun w => rdecimal_any n w h0 h1
  obtain ⟨c0, c1, c2, c3⟩ := boxed5 w 3 t n sc a 36
  unfold tokV
  generalize ba (Lib.itoa n) = z at *
  replace CF := Lib.hid CF
  go_enter Tryd.func13, Tryd.ntmps13
  go_wp2_with (go_at_call 22; refine (CF.out _).mono ?_; rintro e w1 ⟨rfl, hb1⟩)
  go_ret
  exact ⟨rfl, mmore hu hb1⟩
theorem rspell_real (t : ByteArray) (n sc a : Int) (z : ByteArray) (w : World) (hd : ∀ w1, Calls Tryd.prog 23 #[.int .i64 n, .int .i64 sc] w1 fun e w' => e = .returned (.string z) ∧ Below w1.heap.size w1 w') :
    Calls Tryd.prog 13 #[tokV 4 t n sc a] w fun e w' => e = .returned (.string z) ∧ Below w.heap.size w w' := by
  have hu := m1 w (.cells #[.int .i64 4, .string t, .int .i64 n, .int .i64 sc, .int .i64 a] 36)
  have CF := Lib.hid (hd (w.alloc (.cells #[.int .i64 4, .string t, .int .i64 n, .int .i64 sc, .int .i64 a] 36)))
  obtain ⟨c0, c1, c2, c3⟩ := boxed5 w 4 t n sc a 36
  unfold tokV
  clear hd
  go_enter Tryd.func13, Tryd.ntmps13
  go_wp2_with (go_at_call 23; refine CF.out.mono ?_; rintro e w1 ⟨rfl, hb1⟩)
  go_ret
  exact ⟨rfl, mmore hu hb1⟩
set_option maxHeartbeats 4000000 in
set_option maxRecDepth 100000 in
theorem point_F (W P : List UInt8) (w : World) (hW : ∀ x ∈ W, digC (x.toNat : Int) = true) (hP : ∀ x ∈ P, digC (x.toNat : Int) = true) (h0 : noLead W) (hp : P ≠ []) (h15 : W.length + P.length ≤ 15) :
    Calls Tryd.prog 23 #[.int .i64 (digV (W ++ P) : Int), .int .i64 (P.length : Int)] w fun e w' => e = .returned (.string (ba (W ++ 46 :: P))) ∧ Below w.heap.size w w' := by
  have hltP := digV_lt _ _ rfl hP
  have hltW := digV_lt _ _ rfl hW
  have happ := digV_app P W
  have hW1 : 1 ≤ W.length := by
    cases W with
    | nil => exact absurd rfl h0.1
    | cons c W => simp
  have h10W : 10 ^ W.length ≤ 10 ^ 15 := Nat.pow_le_pow_right (by omega) (by omega)
  have h10P : 10 ^ P.length ≤ 10 ^ 14 := Nat.pow_le_pow_right (by omega) (by omega)
  have hTp : 0 < 10 ^ P.length := Nat.pow_pos (by omega)
  have hq : digV (W ++ P) / 10 ^ P.length = digV W := by rw [happ, Nat.add_comm, Nat.add_mul_div_right _ _ hTp, Nat.div_eq_of_lt hltP, Nat.zero_add]
  have hr : digV (W ++ P) % 10 ^ P.length = digV P := by rw [happ, Nat.add_comm, Nat.add_mul_mod_self_right, Nat.mod_eq_of_lt hltP]
  have hdW := dec_digV _ W rfl h0.1 hW h0.2
  obtain ⟨hp1, hp2⟩ := pad_dig P hp hP
  have itW : Lib.itoa (digV W : Int) = W := by unfold Lib.itoa; rw [if_neg (by omega), Int.toNat_natCast, hdW]
  have itP : Lib.itoa (digV P : Int) = Lib.decDigits (digV P) := by unfold Lib.itoa; rw [if_neg (by omega), Int.toNat_natCast]
  have CW : ∀ w, Calls Tryd.prog 22 #[.int .i64 (digV W : Int)] w fun e w' => e = .returned (.string (ba (Lib.itoa (digV W : Int)))) ∧ Below w.heap.size w w' := fun w => rdecimal_any (digV W : Int) w (by omega) (by omega)
  have CP : ∀ w, Calls Tryd.prog 22 #[.int .i64 (digV P : Int)] w fun e w' => e = .returned (.string (ba (Lib.itoa (digV P : Int)))) ∧ Below w.heap.size w w' := fun w => rdecimal_any (digV P : Int) w (by omega) (by omega)
  rw [itW] at CW
  rw [itP] at CP
  have hfin : ba W ++ (⟨#[46]⟩ : ByteArray) ++ ba P = ba (W ++ 46 :: P) := by
    rw [← ba_of (ba W ++ _ ++ ba P), list_append, list_append, ba_list, ba_list]
    rw [show (⟨#[46]⟩ : ByteArray).data.toList = [46] from rfl, List.append_assoc]
    rfl
  have hwz := ba_size W
  have hpz := ba_size P
  obtain ⟨T, hT⟩ : ∃ T : Nat, T = 10 ^ P.length := ⟨_, rfl⟩
  have tq : IntKind.i64.wrap ((digV (W ++ P) : Int) / (T : Int)) = (digV W : Int) := by
    rw [hT]
    rw [show ((digV (W ++ P) : Int) / ((10 ^ P.length : Nat) : Int)) = ((digV (W ++ P) / 10 ^ P.length : Nat) : Int) from rfl, hq, IntKind.wrap_i64]
    omega
  have tr : IntKind.i64.wrap ((digV (W ++ P) : Int).tmod (T : Int)) = (digV P : Int) := by
    rw [Int.tmod_eq_emod_of_nonneg (by omega), hT]
    rw [show ((digV (W ++ P) : Int) % ((10 ^ P.length : Nat) : Int)) = ((digV (W ++ P) % 10 ^ P.length : Nat) : Int) from rfl, hr, IntKind.wrap_i64]
    omega
  have tr2 : (digV (W ++ P) : Int).tmod (T : Int) = (digV P : Int) := by
    rw [Int.tmod_eq_emod_of_nonneg (by omega), hT]
    rw [show ((digV (W ++ P) : Int) % ((10 ^ P.length : Nat) : Int)) = ((digV (W ++ P) % 10 ^ P.length : Nat) : Int) from rfl, hr]
  have hT0 : ¬ T = 0 := by omega
  have hm14 : P.length ≤ 14 := by omega
  replace hT := Lib.hid hT
  replace hfin := Lib.hid hfin
  replace CW := Lib.hid CW
  replace CP := Lib.hid CP
  replace hp2 := Lib.hid hp2
  replace hpz := Lib.hid hpz
  have hwz15 : (ba W).size ≤ 15 := by omega
  clear hq hr happ hltP hltW h10W hdW itW itP hwz
  go_enter Tryd.func23, Tryd.ntmps23
  go_wp2_with fail
  go_loopw [5, 6] (fun t i wr => ∃ k : Nat, k ≤ P.length ∧ i = .int .i64 (k : Int) ∧ t = .int .i64 ((10 ^ k : Nat) : Int) ∧ w = wr) (fun _ i _ => P.length - (intOf i).toNat)
  case atStart => exact ⟨0, Nat.zero_le _, rfl, rfl, rfl⟩
  case round =>
    obtain ⟨k, hk, rfl, rfl, rfl⟩ := hrel
    by_cases hlt : k < P.length
    · have hpw : 10 ^ (k + 1) ≤ 10 ^ 14 := Nat.pow_le_pow_right (by omega) (by omega)
      have hps : 10 ^ (k + 1) = 10 ^ k * 10 := Nat.pow_succ 10 k
      have wm : IntKind.i64.wrap (((10 ^ k : Nat) : Int) * 10) = ((10 ^ (k + 1) : Nat) : Int) := by rw [IntKind.wrap_i64, hps]; omega
      have hk1 : (k : Int) < (P.length : Int) := by omega
      obtain ⟨X, hX⟩ : ∃ X : Nat, X = 10 ^ k := ⟨_, rfl⟩
      obtain ⟨Y, hY⟩ : ∃ Y : Nat, Y = 10 ^ (k + 1) := ⟨_, rfl⟩
      rw [← hX, ← hY] at wm
      rw [← hX]
      replace hX := Lib.hid hX
      replace hY := Lib.hid hY
      clear hpw hps
      go_wp2_with fail
      go_roundw
      case rel => exact ⟨k + 1, by omega, by go_num, by rw [← hY.out], by first | rfl | trivial⟩
      case measure => simp [intOf]; omega
    · obtain rfl : k = P.length := by omega
      rw [← hT.out]
      have hk1 : ¬ (P.length : Int) < (P.length : Int) := by omega
      go_wp2_with (go_at_call 22; refine (CP.out _).mono ?_; rintro e w1 ⟨rfl, hb1⟩)
      clear tr tr2
      generalize Lib.decDigits (digV P) = D at *
      go_loopw [7] (fun d wz => ∃ j : Nat, j + D.length ≤ P.length ∧ d = .string (ba (List.replicate j 48 ++ D)) ∧ w1 = wz) (fun d _ => match d with | .string y => P.length - y.size | _ => 0)
      case atStart => exact ⟨0, by omega, rfl, rfl⟩
      case round =>
        obtain ⟨j, hj, rfl, rfl⟩ := hrel
        have hyz := ba_size (List.replicate j (48 : UInt8) ++ D)
        rw [List.length_append, List.length_replicate] at hyz
        by_cases hlt2 : j + D.length < P.length
        · have hst : (⟨#[48]⟩ : ByteArray) ++ ba (List.replicate j 48 ++ D) = ba (List.replicate (j + 1) 48 ++ D) := by
            rw [← ba_of ((⟨#[48]⟩ : ByteArray) ++ _), list_append, ba_list]
            rw [show (⟨#[48]⟩ : ByteArray).data.toList = [48] from rfl, List.replicate_succ]
            rfl
          have hyz2 := ba_size (List.replicate (j + 1) (48 : UInt8) ++ D)
          rw [List.length_append, List.length_replicate] at hyz2
          replace hst := Lib.hid hst
          generalize hy1 : ba (List.replicate j (48 : UInt8) ++ D) = y at *
          replace hy1 := Lib.hid hy1
          have k1 : (y.size : Int) < (P.length : Int) := by omega
          have k2 : ¬ 9223372036854775807 < 1 + y.size := by omega
          replace hyz := Lib.hid hyz
          replace hyz2 := Lib.hid hyz2
          go_wp2_with fail
          rw [hst.out]
          go_roundw
          case rel => exact ⟨j + 1, by omega, rfl, by first | rfl | trivial⟩
          case measure => have a1 := hyz.out; have a2 := hyz2.out; show P.length - _ < P.length - _; omega
        · have hjm : j = P.length - D.length := by omega
          rw [hjm, hp2.out]
          have hpz2 := hpz.out
          have k1 : ¬ ((ba P).size : Int) < (P.length : Int) := by omega
          have k2 : ¬ 9223372036854775807 < (ba W).size + 1 := by omega
          have k3 : ¬ 9223372036854775807 < (ba W).size + 1 + (ba P).size := by omega
          clear hyz hjm hj hlt2 hp1 h10P hTp hpz2
          generalize ba P = pb at *
          generalize ba W = wb at *
          go_wp2_with fail
          refine (CW.out _).mono ?_; rintro e w2 ⟨rfl, hb2⟩
          clear tq
          go_wp2_with fail
          rw [hfin.out]
          go_ret
          exact ⟨rfl, mmore hb1 hb2⟩
end Go.Proofs.YteojcohmocbakaaDoor
