/- What the operators of one value answer in package value, and Apply of any list, as contracts. -/
import Derived.Test.YtfjnphiegoogoaaTwo
import Derived.Test.YtfjnphiegoogoaaAplI
import Derived.Test.YtfjnphiegoogoaaTri
namespace Go.Proofs.Ytfjnphiegoogoaa
open Go.ChangeShapes Go.WideShapes Go.ChangeAt Go.RowKit Go.Fl

theorem one_none (op k : Int) (b : Int) (w : World) (h : r1P op k = 0) :
    Calls Try.prog 23 #[.int .i64 op, .agg #[.int .i64 k, .int .u64 b]] w fun e w' => e = .returned (.agg #[.int .i64 0, .int .u64 0]) ∧ Below w.heap.size w w' := by
  have Z := Lib.hid (fun w => one_any op k w)
  rw [h] at Z
  clear h
  go_enter Try.func23, Try.ntmps23
  go_wp2_with (go_at_call 38; refine (Z.out _).mono ?_; rintro e w' ⟨rfl, rfl⟩)
  exact bodyPost_ret (v := .agg #[.int .i64 0, .int .u64 0]) (by simp [results, Try.results23, go_sem]) rfl ⟨rfl, below2 _ _ _⟩

theorem one_minus (b x : Int) (w : World) (hx : wrap64 b = x) (h64 : I64 x) (z : Int) (hz : chk (0 - x) = some z) :
    Calls Try.prog 23 #[.int .i64 6, .agg #[.int .i64 1, .int .u64 b]] w fun e w' => e = .returned (.agg #[.int .i64 1, .int .u64 (IntKind.u64.wrap z)]) ∧ Below w.heap.size w w' := by
  have Z := Lib.hid (fun w => one_any 6 1 w)
  rw [show r1P 6 1 = 1 by decide] at Z
  have R := Lib.hid (fun w => minus_any 0 x w (by decide) h64)
  rw [hz] at R
  clear h64 hz
  go_enter Try.func23, Try.ntmps23
  go_wp2_with (first | (go_at_call 38; refine (Z.out _).mono ?_; rintro e w' ⟨rfl, rfl⟩) | (go_at_call 45; refine (R.out _).mono ?_; rintro e w' ⟨rfl, rfl⟩; unfold endI))
  refine (ofint_v _ _).mono ?_; rintro e w1 ⟨rfl, hb1⟩
  obtain ⟨hc, hf⟩ := bcell hb1
  obtain ⟨_, q1, q2⟩ := put2 (w := w1) (g := w.heap.size + 1) (.int .i64 1) (.int .u64 (IntKind.u64.wrap z)) (x := .int .i64 0) (y := .int .u64 0) (by rw [hc _ _ (by simp)]; simp [go_sem]) (by rw [hc _ _ (by simp)]; simp [go_sem])
  go_wp2
  exact bodyPost_ret (v := .agg #[.int .i64 1, .int .u64 (IntKind.u64.wrap z)]) (by simp [results, Try.results23, go_sem, q1, q2]) rfl ⟨rfl, ((below_more (below2 w _ _) hb1).setCell (by show w.heap.size ≤ w.heap.size + 1; omega) _).setCell (by show w.heap.size ≤ w.heap.size + 1; omega) _⟩

theorem one_minus_gone (b x : Int) (w : World) (hx : wrap64 b = x) (h64 : I64 x) (hz : chk (0 - x) = none) :
    Calls Try.prog 23 #[.int .i64 6, .agg #[.int .i64 1, .int .u64 b]] w fun e w' => e = .panicked [outP] ∧ Below w.heap.size w w' := by
  have Z := Lib.hid (fun w => one_any 6 1 w)
  rw [show r1P 6 1 = 1 by decide] at Z
  have R := Lib.hid (fun w => minus_any 0 x w (by decide) h64)
  rw [hz] at R
  clear h64 hz
  go_enter Try.func23, Try.ntmps23
  go_wp2_with (first | (go_at_call 38; refine (Z.out _).mono ?_; rintro e w' ⟨rfl, rfl⟩) | (go_at_call 45; refine (R.out _).mono ?_; rintro e w' ⟨rfl, rfl⟩; unfold endI))
  exact ⟨rfl, rfl, below2 w _ _⟩

theorem one_negr (b : Nat) (w : World) (hb : b < 18446744073709551616) :
    Calls Try.prog 23 #[.int .i64 6, .agg #[.int .i64 4, .int .u64 (b : Int)]] w fun e w' => e = .returned (.agg #[.int .i64 4, .int .u64 ((ngP b : Nat) : Int)]) ∧ Below w.heap.size w w' := by
  have Z := Lib.hid (fun w => one_any 6 4 w)
  rw [show r1P 6 4 = 4 by decide] at Z
  have R := Lib.hid (fun w => neg_any b w hb)
  generalize ngP b = r at *
  clear hb
  go_enter Try.func23, Try.ntmps23
  go_wp2_with (first | (go_at_call 38; refine (Z.out _).mono ?_; rintro e w' ⟨rfl, rfl⟩) | (go_at_call 43; refine (R.out _).mono ?_; rintro e w' ⟨rfl, rfl⟩))
  refine (ofreal_v _ _).mono ?_; rintro e w1 ⟨rfl, hb1⟩
  obtain ⟨hc, hf⟩ := bcell hb1
  obtain ⟨_, q1, q2⟩ := put2 (w := w1) (g := w.heap.size + 1) (.int .i64 4) (.int .u64 ((r : Nat) : Int)) (x := .int .i64 0) (y := .int .u64 0) (by rw [hc _ _ (by simp)]; simp [go_sem]) (by rw [hc _ _ (by simp)]; simp [go_sem])
  go_wp2
  exact bodyPost_ret (v := .agg #[.int .i64 4, .int .u64 ((r : Nat) : Int)]) (by simp [results, Try.results23, go_sem, q1, q2]) rfl ⟨rfl, ((below_more (below2 w _ _) hb1).setCell (by show w.heap.size ≤ w.heap.size + 1; omega) _).setCell (by show w.heap.size ≤ w.heap.size + 1; omega) _⟩

theorem one_real (b x : Int) (w : World) (hx : wrap64 b = x) (h64 : I64 x) :
    Calls Try.prog 23 #[.int .i64 16, .agg #[.int .i64 1, .int .u64 b]] w fun e w' => e = .returned (.agg #[.int .i64 4, .int .u64 ((ofI x : Nat) : Int)]) ∧ Below w.heap.size w w' := by
  have Z := Lib.hid (fun w => one_any 16 1 w)
  rw [show r1P 16 1 = 4 by decide] at Z
  have R := Lib.hid (fun w => ofint_any x w h64.1 h64.2)
  clear h64
  generalize ofI x = r at *
  go_enter Try.func23, Try.ntmps23
  go_wp2_with (first | (go_at_call 38; refine (Z.out _).mono ?_; rintro e w' ⟨rfl, rfl⟩) | (go_at_call 41; refine (R.out _).mono ?_; rintro e w' ⟨rfl, rfl⟩))
  refine (ofreal_v _ _).mono ?_; rintro e w1 ⟨rfl, hb1⟩
  obtain ⟨hc, hf⟩ := bcell hb1
  obtain ⟨_, q1, q2⟩ := put2 (w := w1) (g := w.heap.size + 1) (.int .i64 4) (.int .u64 ((r : Nat) : Int)) (x := .int .i64 0) (y := .int .u64 0) (by rw [hc _ _ (by simp)]; simp [go_sem]) (by rw [hc _ _ (by simp)]; simp [go_sem])
  go_wp2
  exact bodyPost_ret (v := .agg #[.int .i64 4, .int .u64 ((r : Nat) : Int)]) (by simp [results, Try.results23, go_sem, q1, q2]) rfl ⟨rfl, ((below_more (below2 w _ _) hb1).setCell (by show w.heap.size ≤ w.heap.size + 1; omega) _).setCell (by show w.heap.size ≤ w.heap.size + 1; omega) _⟩

theorem one_nan (b : Nat) (w : World) :
    Calls Try.prog 23 #[.int .i64 17, .agg #[.int .i64 4, .int .u64 (b : Int)]] w fun e w' => e = .returned (.agg #[.int .i64 2, .int .u64 ((b2n (!eqB b b) : Nat) : Int)]) ∧ Below w.heap.size w w' := by
  have Z := Lib.hid (fun w => one_any 17 4 w)
  rw [show r1P 17 4 = 2 by decide] at Z
  have R := Lib.hid (fun w => equal_any b b w)
  generalize eqB b b = r at *
  go_enter Try.func23, Try.ntmps23
  go_wp2_with (first | (go_at_call 38; refine (Z.out _).mono ?_; rintro e w' ⟨rfl, rfl⟩) | (go_at_call 42; refine (R.out _).mono ?_; rintro e w' ⟨rfl, rfl⟩))
  refine (ofbool_v (!r) _).mono ?_; rintro e w1 ⟨rfl, hb1⟩
  obtain ⟨hc, hf⟩ := bcell hb1
  rw [show tB (!r) = ((b2n (!r) : Nat) : Int) by cases r <;> rfl]
  obtain ⟨_, q1, q2⟩ := put2 (w := w1) (g := w.heap.size + 1) (.int .i64 2) (.int .u64 ((b2n (!r) : Nat) : Int)) (x := .int .i64 0) (y := .int .u64 0) (by rw [hc _ _ (by simp)]; simp [go_sem]) (by rw [hc _ _ (by simp)]; simp [go_sem])
  go_wp2
  exact bodyPost_ret (v := .agg #[.int .i64 2, .int .u64 ((b2n (!r) : Nat) : Int)]) (by simp [results, Try.results23, go_sem, q1, q2]) rfl ⟨rfl, ((below_more (below2 w _ _) hb1).setCell (by show w.heap.size ≤ w.heap.size + 1; omega) _).setCell (by show w.heap.size ≤ w.heap.size + 1; omega) _⟩

/-! ### Apply as one plain function -/

theorem resB_eq (z : Option Int) : resB z = ((resN z : Nat) : Int) := (resN_eq z).symm
def pairI (z : Option Int) : Int × Nat := (resK z, resN z)

def bo2 (t : Nat) (k : Int) (b : Nat) (l : Int) (c : Nat) : Int × Nat := if (k = 2 ∧ b = t) ∨ (l = 2 ∧ c = t) then (2, t) else if k ≠ 2 ∨ l ≠ 2 then (0, 0) else (k, b)
theorem bo2_eq (t : Nat) (k : Int) (b : Nat) (l : Int) (c : Nat) : boK k b l c t = (bo2 t k b l c).1 ∧ boB k b l c t = (((bo2 t k b l c).2 : Nat) : Int) := by
  unfold boK boB bo2
  refine ⟨?_, ?_⟩ <;> (repeat' split) <;> first | rfl | (exfalso; omega)

/-- of two values that count as (k, b), (l, c) -/
def appTwo (op k : Int) (b : Nat) (l : Int) (c : Nat) : Int × Nat :=
  if op = 13 then bo2 0 k b l c else if op = 14 then bo2 1 k b l c else if k ≠ l ∨ r2P op k = 0 then (0, 0)
  else if r2P op k = 2 then (2, b2n (cmpB op k b c)) else if k = 1 then pairI (ansI op (wrap64 (b : Int)) (wrap64 (c : Int))) else (4, ansR op b c)
/-- of one value that counts as (k, b) -/
def appOne (op k : Int) (b : Nat) : Int × Nat :=
  if op = 15 ∧ k = 2 then (2, if b = 0 then 1 else 0) else if op = 6 ∧ k = 1 then pairI (chk (0 - wrap64 (b : Int))) else if op = 6 ∧ k = 4 then (4, ngP b)
  else if op = 16 ∧ k = 1 then (4, ofI (wrap64 (b : Int))) else if op = 17 ∧ k = 4 then (2, b2n (!eqB b b)) else (0, 0)
def appP (op : Int) (vs : List (Int × Nat)) : Int × Nat :=
  match vs with
  | [a] => appOne op (clK a.1 a.2) (clB a.1 a.2)
  | [a, b] => appTwo op (clK a.1 a.2) (clB a.1 a.2) (clK b.1 b.2) (clB b.1 b.2)
  | _ => (0, 0)

theorem two_poison (op k b l c : Int) (w : World) (h13 : op ≠ 13) (h14 : op ≠ 14) (hk : k ≠ l ∨ r2P op k = 0) :
    Calls Try.prog 25 #[.int .i64 op, .agg #[.int .i64 k, .int .u64 b], .agg #[.int .i64 l, .int .u64 c]] w fun e w' => e = .returned (.agg #[.int .i64 0, .int .u64 0]) ∧ Below w.heap.size w w' := by
  by_cases e : k = l
  · subst e
    have hz : r2P op k = 0 := hk.resolve_left (fun h => h rfl)
    have f13 : (op == 13) = false := by simpa using h13
    have f14 : (op == 14) = false := by simpa using h14
    have Z := Lib.hid (fun w => two_any op k w)
    rw [hz] at Z
    have f : (k != k) = false := by simp
    clear h13 h14 hk hz
    go_enter Try.func25, Try.ntmps25
    go_wp2_with (go_at_call 48; refine (Z.out _).mono ?_; rintro e w' ⟨rfl, rfl⟩)
    exact bodyPost_ret (v := .agg #[.int .i64 0, .int .u64 0]) (by simp [results, Try.results25, go_sem]) rfl ⟨rfl, below3 _ _ _ _⟩
  · exact two_unlike op k b l c w h13 h14 (.inl e)

theorem clB_lt2 (k : Int) {b : Nat} (hb : b < 18446744073709551616) : clB k b < 18446744073709551616 := by
  have := cn_lt hb
  unfold clB; (repeat' split) <;> omega

/-- how Apply of two ends, by what applyToTwo does -/
theorem apply_two_any (op : Int) (A : Option Addr) (cap : Nat) (k1 k2 : Int) (b1 b2 : Nat) (w : World) (hv : RowV w A 2 [(k1, b1), (k2, b2)]) :
    Calls Try.prog 15 #[.int .i64 op, .slice A 2 cap] w fun e w' => e = .returned (.agg #[.int .i64 (appP op [(k1, b1), (k2, b2)]).1, .int .u64 (((appP op [(k1, b1), (k2, b2)]).2 : Nat) : Int)]) ∧ Below w.heap.size w w' := by
  show Calls _ _ _ _ fun e w' => e = .returned (.agg #[.int .i64 (appTwo op (clK k1 b1) (clB k1 b1) (clK k2 b2) (clB k2 b2)).1, .int .u64 (((appTwo op (clK k1 b1) (clB k1 b1) (clK k2 b2) (clB k2 b2)).2 : Nat) : Int)]) ∧ _
  unfold appTwo
  by_cases h13 : op = 13
  · rw [if_pos h13]; subst h13
    rw [← (bo2_eq 0 _ _ _ _).1, ← (bo2_eq 0 _ _ _ _).2]
    exact apply_two 13 A cap k1 k2 b1 b2 _ _ w hv fun w => two_and _ _ _ _ w
  rw [if_neg h13]
  by_cases h14 : op = 14
  · rw [if_pos h14]; subst h14
    rw [← (bo2_eq 1 _ _ _ _).1, ← (bo2_eq 1 _ _ _ _).2]
    exact apply_two 14 A cap k1 k2 b1 b2 _ _ w hv fun w => two_or _ _ _ _ w
  rw [if_neg h14]
  by_cases hp : clK k1 b1 ≠ clK k2 b2 ∨ r2P op (clK k1 b1) = 0
  · rw [if_pos hp]
    exact apply_two op A cap k1 k2 b1 b2 _ _ w hv fun w => two_poison op _ _ _ _ w h13 h14 hp
  rw [if_neg hp]
  have hk : clK k1 b1 = clK k2 b2 := by omega
  have hr : r2P op (clK k1 b1) ≠ 0 := by omega
  by_cases h2 : r2P op (clK k1 b1) = 2
  · rw [if_pos h2]
    refine apply_two op A cap k1 k2 b1 b2 _ _ w hv fun w => ?_
    rw [← hk]
    exact two_cmp op _ _ _ w h2 h13 h14
  rw [if_neg h2]
  by_cases h1 : clK k1 b1 = 1
  · rw [if_pos h1]
    have ho : 1 ≤ op ∧ op ≤ 5 := by
      rw [h1] at hr h2
      unfold r2P at hr h2
      by_cases c : (1 ≤ op ∧ op ≤ 4 ∧ ((1 : Int) = 1 ∨ (1 : Int) = 4)) ∨ (op = 5 ∧ (1 : Int) = 1)
      · omega
      · rw [if_neg c] at hr h2
        split at hr
        · rw [if_pos (by assumption)] at h2; exact absurd rfl h2
        · exact absurd rfl hr
    unfold pairI
    cases hz : ansI op (wrap64 ((clB k1 b1 : Nat) : Int)) (wrap64 ((clB k2 b2 : Nat) : Int)) with
    | none =>
      refine apply_two_gone op A cap k1 k2 b1 b2 w hv fun w => ?_
      rw [← hk, h1]
      exact two_int_gone op _ _ w ho.1 ho.2 (w64 _) (w64 _) hz _ _ rfl rfl
    | some z =>
      refine apply_two op A cap k1 k2 b1 b2 _ _ w hv fun w => ?_
      rw [← hk, h1]
      rw [← resB_eq]
      exact two_int op _ _ z w ho.1 ho.2 (w64 _) (w64 _) hz _ _ rfl rfl
  rw [if_neg h1]
  have h4 : clK k1 b1 = 4 ∧ 1 ≤ op ∧ op ≤ 4 := by
    generalize clK k1 b1 = k at *
    unfold r2P at hr h2
    split at hr
    · omega
    · rename_i c
      rw [if_neg c] at h2
      split at hr
      · rw [if_pos (by assumption)] at h2; exact absurd rfl h2
      · exact absurd rfl hr
  refine apply_two op A cap k1 k2 b1 b2 _ _ w hv fun w => ?_
  rw [← hk, h4.1]
  exact two_real op _ _ w h4.2.1 h4.2.2

theorem apply_one_any (op : Int) (A : Option Addr) (cap : Nat) (k1 : Int) (b1 : Nat) (w : World) (hv : RowV w A 1 [(k1, b1)]) :
    Calls Try.prog 15 #[.int .i64 op, .slice A 1 cap] w fun e w' => e = .returned (.agg #[.int .i64 (appP op [(k1, b1)]).1, .int .u64 (((appP op [(k1, b1)]).2 : Nat) : Int)]) ∧ Below w.heap.size w w' := by
  have hlt : b1 < 18446744073709551616 := hv.2.1 (k1, b1) (by simp)
  show Calls _ _ _ _ fun e w' => e = .returned (.agg #[.int .i64 (appOne op (clK k1 b1) (clB k1 b1)).1, .int .u64 (((appOne op (clK k1 b1) (clB k1 b1)).2 : Nat) : Int)]) ∧ _
  unfold appOne
  by_cases c1 : op = 15 ∧ clK k1 b1 = 2
  · rw [if_pos c1]
    obtain ⟨rfl, hk⟩ := c1
    have ht := cl_tri k1 b1 hk
    refine apply_one 15 A cap k1 b1 _ _ w hv fun w => ?_
    have hn := one_not k1 b1 w
    rw [show tvK (nt (tri k1 b1)) = 2 by have := ht.2; unfold nt tvK; (repeat' split) <;> omega, show tvB (nt (tri k1 b1)) = (if clB k1 b1 = 0 then 1 else 0) by
      have := ht.2; rw [ht.1]; unfold nt tvB; (repeat' split) <;> omega] at hn
    exact hn
  rw [if_neg c1]
  by_cases c2 : op = 6 ∧ clK k1 b1 = 1
  · rw [if_pos c2]
    obtain ⟨rfl, hk⟩ := c2
    unfold pairI
    cases hz : chk (0 - wrap64 ((clB k1 b1 : Nat) : Int)) with
    | none =>
      refine apply_one_gone 6 A cap k1 b1 w hv fun w => ?_
      rw [hk]
      exact one_minus_gone _ _ w rfl (w64 _) hz
    | some z =>
      refine apply_one 6 A cap k1 b1 _ _ w hv fun w => ?_
      rw [hk, ← resB_eq]
      exact one_minus _ _ w rfl (w64 _) z hz
  rw [if_neg c2]
  by_cases c3 : op = 6 ∧ clK k1 b1 = 4
  · rw [if_pos c3]
    obtain ⟨rfl, hk⟩ := c3
    refine apply_one 6 A cap k1 b1 _ _ w hv fun w => ?_
    rw [hk]
    exact one_negr _ w (clB_lt2 _ hlt)
  rw [if_neg c3]
  by_cases c4 : op = 16 ∧ clK k1 b1 = 1
  · rw [if_pos c4]
    obtain ⟨rfl, hk⟩ := c4
    refine apply_one 16 A cap k1 b1 _ _ w hv fun w => ?_
    rw [hk]
    exact one_real _ _ w rfl (w64 _)
  rw [if_neg c4]
  by_cases c5 : op = 17 ∧ clK k1 b1 = 4
  · rw [if_pos c5]
    obtain ⟨rfl, hk⟩ := c5
    refine apply_one 17 A cap k1 b1 _ _ w hv fun w => ?_
    rw [hk]
    exact one_nan _ w
  rw [if_neg c5]
  refine apply_one op A cap k1 b1 _ _ w hv fun w => ?_
  exact one_none op _ _ w (by unfold r1P; (repeat' split) <;> omega)

theorem apply_any (op : Int) (A : Option Addr) (n cap : Nat) (vs : List (Int × Nat)) (w : World) (hv : RowV w A n vs) :
    Calls Try.prog 15 #[.int .i64 op, .slice A n cap] w fun e w' => e = .returned (.agg #[.int .i64 (appP op vs).1, .int .u64 (((appP op vs).2 : Nat) : Int)]) ∧ Below w.heap.size w w' := by
  obtain rfl : vs.length = n := hv.1
  match vs, hv with
  | [], hv => exact apply_none op A 0 cap w (by decide) (by decide)
  | [a], hv => exact apply_one_any op A cap a.1 a.2 w hv
  | [a, b], hv => exact apply_two_any op A cap a.1 b.1 a.2 b.2 w hv
  | a :: b :: c :: ds, hv => exact apply_none op A _ cap w (by simp) (by simp)

end Go.Proofs.Ytfjnphiegoogoaa
