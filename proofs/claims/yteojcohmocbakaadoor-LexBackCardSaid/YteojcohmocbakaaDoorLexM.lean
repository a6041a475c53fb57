/- The document's numbers: what digits spell, as contracts. -/
import Derived.Test.YteojcohmocbakaaDoorLexD
namespace Go.Proofs.YteojcohmocbakaaDoor
open Go.ChangeShapes Go.WideShapes Go.ChangeAt Go.RowKit
set_option linter.unusedVariables false
set_option linter.unusedSimpArgs false

theorem digV_snoc (l : List UInt8) (c : UInt8) : digV (l ++ [c]) = digV l * 10 + (c.toNat - 48) := by
  unfold digV
  rw [List.foldl_append]
  rfl
theorem digV_cons (c : UInt8) (l : List UInt8) : digV (c :: l) = l.foldl digStep (c.toNat - 48) := by
  show l.foldl digStep (digStep 0 c) = _
  unfold digStep
  rw [Nat.zero_mul, Nat.zero_add]
theorem digV_lt : ∀ (n : Nat) (l : List UInt8), l.length = n → (∀ x ∈ l, digC (x.toNat : Int) = true) → digV l < 10 ^ n
  | 0, l, h, _ => by
    obtain rfl := List.length_eq_zero_iff.1 h
    decide
  | n + 1, l, h, hd => by
    obtain ⟨m, c, rfl⟩ : ∃ m c, l = m ++ [c] := ⟨l.dropLast, l.getLast (by intro e; rw [e] at h; simp at h), (List.dropLast_concat_getLast _).symm⟩
    have hm : m.length = n := by simp at h; exact h
    have := digV_lt n m hm (fun x hx => hd x (by simp [hx]))
    have hc := dig_bounds (hd c (by simp))
    rw [digV_snoc, Nat.pow_succ]
    omega
theorem digV_pos : ∀ (n : Nat) (c : UInt8) (l : List UInt8), l.length = n → (∀ x ∈ c :: l, digC (x.toNat : Int) = true) → c.toNat ≠ 48 → 10 ^ n ≤ digV (c :: l)
  | 0, c, l, h, hd, h0 => by
    obtain rfl := List.length_eq_zero_iff.1 h
    have hc := dig_bounds (hd c (by simp))
    rw [digV_cons]
    show 1 ≤ c.toNat - 48
    omega
  | n + 1, c, l, h, hd, h0 => by
    obtain ⟨m, d, rfl⟩ : ∃ m d, l = m ++ [d] := ⟨l.dropLast, l.getLast (by intro e; rw [e] at h; simp at h), (List.dropLast_concat_getLast _).symm⟩
    have hm : m.length = n := by simp at h; exact h
    have := digV_pos n c m hm (fun x hx => hd x (by simp at hx ⊢; rcases hx with h | h; exact .inl h; exact .inr (.inl h))) h0
    rw [show c :: (m ++ [d]) = (c :: m) ++ [d] from rfl, digV_snoc, Nat.pow_succ]
    omega
/-- digits without a leading 0 are those of their number -/
theorem dec_digV : ∀ (n : Nat) (l : List UInt8), l.length = n → l ≠ [] → (∀ x ∈ l, digC (x.toNat : Int) = true) → ((l.headD 0).toNat = 48 → l.length = 1) → Lib.decDigits (digV l) = l
  | 0, l, h, h0, _, _ => absurd (List.length_eq_zero_iff.1 h) h0
  | n + 1, l, h, h0, hd, hz => by
    obtain ⟨m, c, rfl⟩ : ∃ m c, l = m ++ [c] := ⟨l.dropLast, l.getLast h0, (List.dropLast_concat_getLast _).symm⟩
    have hm : m.length = n := by simp at h; exact h
    have hc := dig_bounds (hd c (by simp))
    have hcc : UInt8.ofNat (48 + (c.toNat - 48)) = c := by
      rw [show 48 + (c.toNat - 48) = c.toNat by omega]
      simp
    rw [digV_snoc]
    cases m with
    | nil =>
      rw [Lib.decDigits, dif_pos (by show 0 * 10 + (c.toNat - 48) < 10; omega)]
      show [UInt8.ofNat (48 + (0 * 10 + (c.toNat - 48)))] = [c]
      rw [Nat.zero_mul, Nat.zero_add, hcc]
    | cons d m =>
      have hd48 : d.toNat ≠ 48 := fun h => by
        have := hz h
        simp at this
      have h1 := digV_pos m.length d m rfl (fun x hx => hd x (by simp at hx ⊢; rcases hx with h | h; exact .inl h; exact .inr (.inl h))) hd48
      have h2 : 1 ≤ 10 ^ m.length := Nat.one_le_iff_ne_zero.2 (by simp)
      have ih := dec_digV n (d :: m) hm (by simp) (fun x hx => hd x (by simp at hx ⊢; rcases hx with h | h; exact .inl h; exact .inr (.inl h))) (fun h => absurd h hd48)
      rw [Lib.decDigits, dif_neg (by omega)]
      rw [show (digV (d :: m) * 10 + (c.toNat - 48)) / 10 = digV (d :: m) by omega, show (digV (d :: m) * 10 + (c.toNat - 48)) % 10 = c.toNat - 48 by omega, ih, hcc]
theorem fracF_dig (l : List UInt8) : ∀ x ∈ fracF l, digC (x.toNat : Int) = true := by
  cases l with
  | nil => intro x hx; cases hx
  | cons d q =>
    intro x hx
    rw [fracF_cons] at hx
    split at hx
    · exact runL_all digC q x hx
    · cases hx
/-- the document's conditions -/
theorem numF_doc (c : UInt8) (r : List UInt8) (hc : digC (c.toNat : Int) = true) :
    numF (c :: r) = if (1 < (runL digC (c :: r)).length ∧ c.toNat = 48) ∨ ((fracF ((c :: r).drop (runL digC (c :: r)).length)).length = 0 ∧ 19 < (runL digC (c :: r)).length) ∨ (0 < (fracF ((c :: r).drop (runL digC (c :: r)).length)).length ∧ 15 < (runL digC (c :: r)).length + (fracF ((c :: r).drop (runL digC (c :: r)).length)).length) then tokNo
      else if (fracF ((c :: r).drop (runL digC (c :: r)).length)).length = 0 then (if digV (runL digC (c :: r)) < 9223372036854775808 then (⟨3, [], digV (runL digC (c :: r)), 0⟩, (runL digC (c :: r)).length) else tokNo)
      else (⟨4, [], digV (runL digC (c :: r) ++ fracF ((c :: r).drop (runL digC (c :: r)).length)), (fracF ((c :: r).drop (runL digC (c :: r)).length)).length⟩, (runL digC (c :: r)).length + 1 + (fracF ((c :: r).drop (runL digC (c :: r)).length)).length) := by
  unfold numF
  rw [show (c :: r).headD 0 = c from rfl]
  have hW := runL_all digC (c :: r)
  have hP := fracF_dig ((c :: r).drop (runL digC (c :: r)).length)
  have hWc : runL digC (c :: r) = c :: runL digC r := by rw [runL_cons, if_pos hc]
  generalize hPe : fracF ((c :: r).drop (runL digC (c :: r)).length) = P at *
  rw [hWc] at hW ⊢
  clear hPe hWc
  generalize runL digC r = W at *
  have hall : ∀ x ∈ (c :: W) ++ P, digC (x.toNat : Int) = true := fun x hx => by
    rcases List.mem_append.1 hx with h | h
    · exact hW x h
    · exact hP x h
  by_cases h1 : 1 < (c :: W).length ∧ c.toNat = 48
  · rw [if_pos (.inr ⟨h1.2, h1.1⟩), if_pos (.inl h1)]
  · by_cases h2 : P.length = 0
    · obtain rfl := List.length_eq_zero_iff.1 h2
      rw [List.append_nil]
      by_cases h3 : 19 < (c :: W).length
      · have h48 : c.toNat ≠ 48 := fun h => h1 ⟨by omega, h⟩
        have h4 := digV_pos W.length c W rfl hW h48
        have h5 : 10 ^ 19 ≤ 10 ^ W.length := Nat.pow_le_pow_right (by omega) (by simp at h3; omega)
        rw [if_pos (.inl (by omega)), if_pos (.inr (.inl ⟨rfl, h3⟩))]
      · rw [if_neg (c := (1 < (c :: W).length ∧ c.toNat = 48) ∨ _) (by rintro (h | h | h); exact h1 h; exact h3 h.2; exact absurd h.1 (by simp))]
        by_cases h6 : digV (c :: W) < 9223372036854775808
        · rw [if_neg (by rintro (h | h); exact h h6; exact h1 ⟨h.2, h.1⟩), if_pos h6]
          simp
        · rw [if_pos (.inl h6), if_neg h6]
          simp
    · by_cases h3 : 15 < (c :: W).length + P.length
      · rw [if_pos (c := (1 < (c :: W).length ∧ c.toNat = 48) ∨ _) (.inr (.inr ⟨by omega, h3⟩))]
        split
        · rfl
        · first | rfl | rw [if_neg h2, if_pos h3]
      · have h4 := digV_lt _ _ rfl hall
        rw [List.length_append] at h4
        have h5 : 10 ^ ((c :: W).length + P.length) ≤ 10 ^ 15 := Nat.pow_le_pow_right (by omega) (by omega)
        rw [if_neg (c := (1 < (c :: W).length ∧ c.toNat = 48) ∨ _) (by rintro (h | h | h); exact h1 h; exact h2 h.1; exact h3 h.2)]
        rw [if_neg (by rintro (h | h); exact h (by omega); exact h1 ⟨h.2, h.1⟩), if_neg h2, if_neg h3, if_neg h2]

theorem take_snoc (l : List UInt8) (k : Nat) (h : k < l.length) : digV (l.take (k + 1)) = digV (l.take k) * 10 + ((l[k]'h).toNat - 48) := by
  rw [List.take_add_one, List.getElem?_eq_getElem h]
  simp only [Option.toList_some]
  exact digV_snoc _ _
set_option maxHeartbeats 8000000 in
set_option maxRecDepth 100000 in
theorem rnumber_walk (d : ByteArray) (w : World) (h1 : 0 < d.size) (h2 : d.size ≤ 19) (hd : ∀ x ∈ d.data.toList, digC (x.toNat : Int) = true) (m : Int) (hm : IntKind.i64.wrap (digV d.data.toList : Int) = m) (t : ByteArray) (q : Bool) (hq : (t.toList == d.toList) = q)
    (hD : ∀ w, Calls Tryd.prog 22 #[.int .i64 m] w fun e w' => e = .returned (.string t) ∧ Below w.heap.size w w') :
    Calls Tryd.prog 47 #[.string d] w fun e w' => e = .returned (.tuple #[.int .i64 m, .bool q]) ∧ Below w.heap.size w w' := by
  have i0 : (0 : Int) < (d.size : Int) := by omega
  have hc0 : digC ((d[0]'h1).toNat : Int) = true := by
    rw [← get_list d 0 h1]
    exact hd _ (List.getElem_mem _)
  have h45 : (((d[0]'h1).toNat : Int) == 45) = false := by
    have := dig_bounds hc0
    simp; omega
  have i1 : ¬ (d.size : Int) < (d.size : Int) := by omega
  have i2 : (d.size : Int) > 0 := by omega
  replace hm := Lib.hid hm
  replace hD := Lib.hid hD
  replace hd := Lib.hid hd
  clear hc0
  go_enter Tryd.func47, Tryd.ntmps47
  go_wp2_with fail
  go_loopw [5, 6] (fun n i wr => ∃ k : Nat, k ≤ d.size ∧ i = .int .i64 (k : Int) ∧ n = .int .u64 (digV (d.data.toList.take k) : Int) ∧ w = wr) (fun _ i _ => d.size - (intOf i).toNat)
  case atStart => exact ⟨0, Nat.zero_le _, rfl, rfl, rfl⟩
  case round =>
    obtain ⟨k, hk, rfl, rfl, rfl⟩ := hrel
    by_cases hlt : k < d.size
    · have hl2 : k < d.data.toList.length := by rw [list_size]; exact hlt
      have hx : digC ((d[k]'hlt).toNat : Int) = true := by
        rw [← get_list d k hlt]
        exact hd.out _ (List.getElem_mem _)
      have hxb := dig_bounds hx
      have hst := take_snoc d.data.toList k hl2
      rw [get_list d k hlt] at hst
      have hlt10 := digV_lt _ (d.data.toList.take k) rfl (fun x h => hd.out x (List.mem_of_mem_take h))
      have hp : 10 ^ (d.data.toList.take k).length ≤ 10 ^ 18 := Nat.pow_le_pow_right (by omega) (by rw [List.length_take]; omega)
      have hN : digV (d.data.toList.take k) < 1000000000000000000 := by omega
      have CC := rdigit_any ((d[k]'hlt).toNat : Int) w
      rw [hx] at CC
      replace CC := Lib.hid CC
      have hk' : ¬ (k : Int) > 18 := by omega
      have hk'' : (k : Int) < (d.size : Int) := by omega
      have hk0 : (0 : Int) ≤ (k : Int) := by omega
      have w1 : IntKind.u64.wrap (10 * (digV (d.data.toList.take k) : Int)) = 10 * (digV (d.data.toList.take k) : Int) := by rw [IntKind.wrap_u64]; omega
      have w2 : IntKind.u8.wrap (((d[k]'hlt).toNat : Int) - 48) = ((d[k]'hlt).toNat : Int) - 48 := by rw [IntKind.wrap_u8]; omega
      have w3 : IntKind.u64.wrap (((d[k]'hlt).toNat : Int) - 48) = ((d[k]'hlt).toNat : Int) - 48 := by rw [IntKind.wrap_u64]; omega
      have w4 : IntKind.u64.wrap (10 * (digV (d.data.toList.take k) : Int) + (((d[k]'hlt).toNat : Int) - 48)) = (digV (d.data.toList.take (k + 1)) : Int) := by rw [IntKind.wrap_u64, hst]; omega
      clear hst hlt10 hp hN hx hxb hl2
      go_wp2_with (go_at_call 34; refine CC.out.mono ?_; rintro e w1 ⟨rfl, rfl⟩)
      go_roundw
      case rel => exact ⟨k + 1, by omega, by go_num, by first | rfl | (rw [w4]) | simp, by first | rfl | trivial⟩
      case measure => simp [intOf]; omega
    · obtain rfl : k = d.size := by omega
      rw [List.take_of_length_le (by rw [list_size]; exact Nat.le_refl _)]
      have hm' := hm.out
      go_wp2_with (go_at_call 22; refine (hD.out _).mono ?_; rintro e w1 ⟨rfl, hb⟩)
      exact bodyPost_ret (v := .tuple #[.int .i64 m, .bool q]) (by simp [results, Tryd.results47, go_sem, hq]) rfl ⟨rfl, hb⟩
/-- the document's number of digits without a leading 0 -/
theorem rnumber_ok (d : ByteArray) (w : World) (h1 : 0 < d.size) (h2 : d.size ≤ 19) (hd : ∀ x ∈ d.data.toList, digC (x.toNat : Int) = true) (hz : (d.data.toList.headD 0).toNat = 48 → d.data.toList.length = 1) (hD : digV d.data.toList < 9223372036854775808) :
    Calls Tryd.prog 47 #[.string d] w fun e w' => e = .returned (.tuple #[.int .i64 (digV d.data.toList : Int), .bool true]) ∧ Below w.heap.size w w' := by
  have hl := list_size d
  have hne : d.data.toList ≠ [] := by intro h; rw [h] at hl; simp at hl; omega
  have hdec := dec_digV _ _ rfl hne hd hz
  refine rnumber_walk d w h1 h2 hd _ (by rw [IntKind.wrap_i64]; omega) d true (by simp) fun w1 => ?_
  have := rdecimal_any (digV d.data.toList : Int) w1 (by omega) (by omega)
  have e : (⟨(Lib.itoa (digV d.data.toList : Int)).toArray⟩ : ByteArray) = d := by
    unfold Lib.itoa
    rw [if_neg (by omega), Int.toNat_natCast, hdec]
  rw [e] at this
  exact this
theorem rnumber_no (d : ByteArray) (w : World) (h1 : 0 < d.size) (h2 : d.size ≤ 19) (hd : ∀ x ∈ d.data.toList, digC (x.toNat : Int) = true) (hD : ¬ digV d.data.toList < 9223372036854775808) :
    Calls Tryd.prog 47 #[.string d] w fun e w' => ∃ m, e = .returned (.tuple #[.int .i64 m, .bool false]) ∧ Below w.heap.size w w' := by
  have hlt := digV_lt _ _ rfl hd
  rw [list_size] at hlt
  have hp : 10 ^ d.size ≤ 10 ^ 19 := Nat.pow_le_pow_right (by omega) h2
  have hN : digV d.data.toList < 10000000000000000000 := by omega
  have hm : IntKind.i64.wrap (digV d.data.toList : Int) = (digV d.data.toList : Int) - 18446744073709551616 := by rw [IntKind.wrap_i64]; omega
  refine (rnumber_walk d w h1 h2 hd _ hm ⟨(Lib.itoa ((digV d.data.toList : Int) - 18446744073709551616)).toArray⟩ false ?_ fun w1 => rdecimal_any _ w1 (by omega) (by omega)).mono fun e w' h => ⟨_, h⟩
  have e : Lib.itoa ((digV d.data.toList : Int) - 18446744073709551616) = 45 :: Lib.decDigits ((digV d.data.toList : Int) - 18446744073709551616).natAbs := by unfold Lib.itoa; rw [if_pos (by omega)]
  rw [e, ByteArray.toList_eq, ByteArray.toList_eq]
  cases hl : d.data.toList with
  | nil => have := list_size d; rw [hl] at this; simp at this; omega
  | cons c r =>
    have hc := dig_bounds (hd c (by rw [hl]; simp))
    have : (45 : UInt8) ≠ c := by rintro rfl; revert hc; decide
    simp [this]
end Go.Proofs.YteojcohmocbakaaDoor
