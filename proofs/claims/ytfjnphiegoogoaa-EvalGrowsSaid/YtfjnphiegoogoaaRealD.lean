/- What Min, Max and OfInt answer, in package real and in the document's, as contracts, for every input. -/
import Derived.Test.YtfjnphiegoogoaaRealC
import Derived.LoopTactic
namespace Go.Proofs.Ytfjnphiegoogoaa
open Go.ChangeShapes Go.WideShapes Go.ChangeAt Go.RowKit Go.Fl

/-- the first (the last) of two, or NaN -/
def pickP (a b : Nat) (last : Bool) : Nat := if INF < a % 9223372036854775808 ∨ INF < b % 9223372036854775808 then 9221120237041090560 else if last then (if ordP a b = 1 then a else b) else (if ordP a b = -1 then a else b)

theorem ordP_three (a b : Nat) : ordP a b = -1 ∨ ordP a b = 0 ∨ ordP a b = 1 := by unfold ordP; (repeat' split) <;> simp
theorem ordP_zero (a b : Nat) (ha : a < 18446744073709551616) (hb : b < 18446744073709551616) : ordP a b = 0 ↔ cn a = cn b := by
  rw [← rankP_eq a b ha hb]; unfold ordP; (repeat' split) <;> omega

theorem canon_t (n : Nat) (w : World) (hn : n < 18446744073709551616) (h : INF < n % 9223372036854775808) :
    Calls Try.prog 46 #[.int .u64 (n : Int)] w fun e w' => e = .returned (.int .u64 9221120237041090560) ∧ w = w' := by
  have := canon_any n w hn
  rw [cn_nan h] at this; exact this

theorem pick_any (a b : Nat) (last : Bool) (s : Int) (hs : s = if last then 1 else -1) (w : World) (ha : a < 18446744073709551616) (hb : b < 18446744073709551616) :
    Calls Try.prog 97 #[.int .u64 (a : Int), .int .u64 (b : Int), .int .i64 s] w fun e w' => e = .returned (.int .u64 ((pickP a b last : Nat) : Int)) ∧ w = w' := by
  have c2 := Lib.hid (canon_any b w hb)
  have n1 := cn_isnan a
  have n2 := cn_isnan b
  by_cases na : INF < a % 9223372036854775808
  · have E := Lib.hid (show (9221120237041090560 : Int) = ((pickP a b last : Nat) : Int) by unfold pickP; rw [if_pos (Or.inl na)]; rfl)
    have c1 := Lib.hid (canon_t a w ha na)
    clear na n1 n2 ha hb hs
    go_enter Try.func97, Try.ntmps97
    go_wp2_with fail
    refine c1.out.mono ?_; rintro e w' ⟨rfl, rfl⟩
    go_wp2_with fail
    refine c2.out.mono ?_; rintro e w' ⟨rfl, rfl⟩
    go_wp2
    go_ret
    exact ⟨ret_int E.out, rfl⟩
  · have c1 := Lib.hid (canon_any a w ha)
    have a1 : (((cn a : Nat) : Int) == 9221120237041090560) = false := by rw [cn_num na]; simp; unfold INF at na; omega
    by_cases nb : INF < b % 9223372036854775808
    · have E := Lib.hid (show (9221120237041090560 : Int) = ((pickP a b last : Nat) : Int) by unfold pickP; rw [if_pos (Or.inr nb)]; rfl)
      have c2 := Lib.hid (canon_t b w hb nb)
      clear na nb n1 n2 ha hb hs
      go_enter Try.func97, Try.ntmps97
      go_wp2_with fail
      refine c1.out.mono ?_; rintro e w' ⟨rfl, rfl⟩
      go_wp2_with fail
      refine c2.out.mono ?_; rintro e w' ⟨rfl, rfl⟩
      go_wp2
      go_ret
      exact ⟨ret_int E.out, rfl⟩
    · have b1 : (((cn b : Nat) : Int) == 9221120237041090560) = false := by rw [cn_num nb]; simp; unfold INF at nb; omega
      have c3 := order_any (cn a) (cn b) w (cn_lt ha) (cn_lt hb)
      rw [ordP_cn] at c3
      have c3 := Lib.hid c3
      by_cases o : ordP a b = s
      · have E := Lib.hid (show ((cn a : Nat) : Int) = ((pickP a b last : Nat) : Int) by unfold pickP; rw [if_neg (by omega), cn_num na]; subst hs; cases last <;> simp_all)
        have o2 : (ordP a b == s) = true := by simpa using o
        clear na nb n1 n2 ha hb o hs
        go_enter Try.func97, Try.ntmps97
        go_wp2_with fail
        refine c1.out.mono ?_; rintro e w' ⟨rfl, rfl⟩
        go_wp2_with fail
        refine c2.out.mono ?_; rintro e w' ⟨rfl, rfl⟩
        go_wp2_with fail
        refine c3.out.mono ?_; rintro e w' ⟨rfl, rfl⟩
        go_wp2
        go_ret
        exact ⟨ret_int E.out, rfl⟩
      · have E := Lib.hid (show ((cn b : Nat) : Int) = ((pickP a b last : Nat) : Int) by unfold pickP; rw [if_neg (by omega), cn_num nb]; subst hs; cases last <;> simp_all)
        have o2 : (ordP a b == s) = false := by simpa using o
        clear na nb n1 n2 ha hb o hs
        go_enter Try.func97, Try.ntmps97
        go_wp2_with fail
        refine c1.out.mono ?_; rintro e w' ⟨rfl, rfl⟩
        go_wp2_with fail
        refine c2.out.mono ?_; rintro e w' ⟨rfl, rfl⟩
        go_wp2_with fail
        refine c3.out.mono ?_; rintro e w' ⟨rfl, rfl⟩
        go_wp2
        go_ret
        exact ⟨ret_int E.out, rfl⟩

theorem min_any (a b : Nat) (w : World) (ha : a < 18446744073709551616) (hb : b < 18446744073709551616) :
    Calls Try.prog 91 #[.int .u64 (a : Int), .int .u64 (b : Int)] w fun e w' => e = .returned (.int .u64 ((pickP a b false : Nat) : Int)) ∧ w = w' := by
  have c := Lib.hid (pick_any a b false (-1) rfl w ha hb)
  go_enter Try.func91, Try.ntmps91
  go_wp2_with (go_at_call 97; refine c.out.mono ?_; rintro e w' ⟨rfl, rfl⟩)
  go_ret
  exact ⟨rfl, rfl⟩

theorem max_any (a b : Nat) (w : World) (ha : a < 18446744073709551616) (hb : b < 18446744073709551616) :
    Calls Try.prog 92 #[.int .u64 (a : Int), .int .u64 (b : Int)] w fun e w' => e = .returned (.int .u64 ((pickP a b true : Nat) : Int)) ∧ w = w' := by
  have c := Lib.hid (pick_any a b true 1 rfl w ha hb)
  go_enter Try.func92, Try.ntmps92
  go_wp2_with (go_at_call 97; refine c.out.mono ?_; rintro e w' ⟨rfl, rfl⟩)
  go_ret
  exact ⟨rfl, rfl⟩

theorem rpick_any (a b : Nat) (last : Bool) (w : World) (ha : a < 18446744073709551616) (hb : b < 18446744073709551616) :
    Calls Try.prog 57 #[.int .u64 (a : Int), .int .u64 (b : Int), .bool last] w fun e w' => e = .returned (.int .u64 ((pickP a b last : Nat) : Int)) ∧ w = w' := by
  have c3 := Lib.hid (rorder_any a b w ha hb)
  by_cases na : INF < a % 9223372036854775808
  · have E := Lib.hid (show (9221120237041090560 : Int) = ((pickP a b last : Nat) : Int) by unfold pickP; rw [if_pos (Or.inl na)]; rfl)
    have H1 := Lib.hid (isNan_t a w ha na)
    clear na ha hb
    go_enter Try.func57, Try.ntmps57
    go_wp2_with (go_at_call 56; refine H1.out.mono ?_; rintro e w' ⟨rfl, rfl⟩)
    go_ret
    exact ⟨ret_int E.out, rfl⟩
  · have H1 := Lib.hid (isNan_f a w ha na)
    by_cases nb : INF < b % 9223372036854775808
    · have E := Lib.hid (show (9221120237041090560 : Int) = ((pickP a b last : Nat) : Int) by unfold pickP; rw [if_pos (Or.inr nb)]; rfl)
      have H2 := Lib.hid (isNan_t b w hb nb)
      clear na ha hb nb
      go_enter Try.func57, Try.ntmps57
      go_wp2_with fail
      refine H1.out.mono ?_; rintro e w' ⟨rfl, rfl⟩
      go_wp2_with fail
      refine H2.out.mono ?_; rintro e w' ⟨rfl, rfl⟩
      go_wp2
      go_ret
      exact ⟨ret_int E.out, rfl⟩
    · have H2 := Lib.hid (isNan_f b w hb nb)
      have z := ordP_zero a b ha hb
      rw [cn_num na, cn_num nb] at z
      have t := ordP_three a b
      have e : ((pickP a b last : Nat) : Int) = if (!decide (0 < ordP a b) == last) = true then (b : Int) else (a : Int) := by
        unfold pickP; rw [if_neg (by omega)]
        cases last <;> rcases t with t | t | t <;> simp_all
      have E := Lib.hid e
      clear na ha hb nb e z t
      go_enter Try.func57, Try.ntmps57
      go_wp2_with fail
      refine H1.out.mono ?_; rintro e w' ⟨rfl, rfl⟩
      go_wp2_with fail
      refine H2.out.mono ?_; rintro e w' ⟨rfl, rfl⟩
      go_wp2_with fail
      refine c3.out.mono ?_; rintro e w' ⟨rfl, rfl⟩
      go_wp2
      all_goals go_ret
      all_goals refine ⟨ret_int ?_, rfl⟩
      · rw [E.out, if_pos (by assumption)]
      · have hf : (!decide (0 < ordP a b) == last) = false := by assumption
        rw [E.out, if_neg (by rw [hf]; decide)]

theorem nat_of_wf {z : Int} (h : (Lit.int .u64 z).wf = true) : ∃ n : Nat, z = n ∧ n < 18446744073709551616 := by
  have h2 : IntKind.u64.min ≤ z ∧ z ≤ IntKind.u64.max := by simpa [Lit.wf] using h
  change (0 : Int) ≤ z ∧ z ≤ 18446744073709551615 at h2
  exact ⟨z.toNat, by omega, by omega⟩

theorem i64_of_wf {z : Int} (h : (Lit.int .i64 z).wf = true) : -9223372036854775808 ≤ z ∧ z ≤ 9223372036854775807 := by
  have h2 : IntKind.i64.min ≤ z ∧ z ≤ IntKind.i64.max := by simpa [Lit.wf] using h
  change (-9223372036854775808 : Int) ≤ z ∧ z ≤ 9223372036854775807 at h2
  exact h2

theorem grown_drewN {W w' : World} (h : Grown W w') (k : Nat) : Grown W (w'.drewN k) := h

theorem ordP_swap (a b : Nat) : ordP b a = - ordP a b := by unfold ordP; (repeat' split) <;> omega
theorem ordP_trans (a b c : Nat) (h1 : ordP a b ≤ 0) (h2 : ordP b c ≤ 0) : ordP a c ≤ 0 := by
  unfold ordP at *; (repeat' split at h1) <;> (repeat' split at h2) <;> (repeat' split) <;> omega

end Go.Proofs.Ytfjnphiegoogoaa
