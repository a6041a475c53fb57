/- The document's token at a place, as contracts, way by way. -/
import Derived.Test.YteojcohmocbakaaDoorLexQ
namespace Go.Proofs.YteojcohmocbakaaDoor
open Go.ChangeShapes Go.WideShapes Go.ChangeAt Go.RowKit
set_option linter.unusedVariables false
set_option linter.unusedSimpArgs false

def sgL : List (List UInt8) := [[33, 61], [60, 61], [62, 61], [40], [41], [44], [46], [43], [45], [42], [47], [37], [61], [60], [62], [33], [124]]
theorem sgL_length : sgL.length = 17 := rfl
theorem pre_one (x c : UInt8) (q : List UInt8) : [x].isPrefixOf (c :: q) = true ↔ c = x := by
  simp
  exact ⟨Eq.symm, Eq.symm⟩
theorem pre_two (x c : UInt8) (q : List UInt8) : [x, 61].isPrefixOf (c :: q) = true ↔ c = x ∧ q.head? = some 61 := by
  cases q with
  | nil => simp
  | cons d q =>
    simp
    exact ⟨fun h => ⟨h.1.symm, h.2.symm⟩, fun h => ⟨h.1.symm, h.2.symm⟩⟩
theorem sign_hit (c : UInt8) (q : List UInt8) (k : Nat) (w : List UInt8) (hk : sgL[k]? = some w) (hp : w.isPrefixOf (c :: q) = true) (hn : ∀ (j : Nat) (v : List UInt8), j < k → sgL[j]? = some v → v.isPrefixOf (c :: q) = false) : signF c q = (⟨6, w, 0, 0⟩, w.length) := by
  have hlt : k < 17 := (List.getElem?_eq_some_iff.1 hk).1
  have two : ∀ x : UInt8, (x = 33 ∨ x = 60 ∨ x = 62) → 3 ≤ k → c = x → q.head? ≠ some 61 := by
    intro x hx h3 hc hq
    rcases hx with rfl | rfl | rfl
    · have := hn 0 [33, 61] (by omega) rfl
      rw [(pre_two _ _ _).2 ⟨hc, hq⟩] at this
      cases this
    · have := hn 1 [60, 61] (by omega) rfl
      rw [(pre_two _ _ _).2 ⟨hc, hq⟩] at this
      cases this
    · have := hn 2 [62, 61] (by omega) rfl
      rw [(pre_two _ _ _).2 ⟨hc, hq⟩] at this
      cases this
  unfold signF
  match k, hlt with
  | 0, _ | 1, _ | 2, _ =>
    injection hk with hk
    subst hk
    obtain ⟨rfl, h2⟩ := (pre_two _ _ _).1 hp
    rw [if_pos ⟨by decide, h2⟩]
    rfl
  | 3, _ | 4, _ | 5, _ | 6, _ | 7, _ | 8, _ | 9, _ | 10, _ | 11, _ | 12, _ | 16, _ =>
    injection hk with hk
    subst hk
    obtain rfl := (pre_one _ _ _).1 hp
    rw [if_neg (fun h => absurd h.1 (by decide)), if_pos (.inr (by decide))]
    rfl
  | 13, _ | 14, _ | 15, _ =>
    injection hk with hk
    subst hk
    obtain rfl := (pre_one _ _ _).1 hp
    rw [if_neg (fun h => two _ (by decide) (by omega) rfl h.2), if_pos (.inl (by decide))]
    rfl
theorem sign_miss (c : UInt8) (q : List UInt8) (hn : ∀ (j : Nat) (v : List UInt8), j < 17 → sgL[j]? = some v → v.isPrefixOf (c :: q) = false) : signF c q = tokNo := by
  have one : ∀ (j : Nat) (x : UInt8), j < 17 → sgL[j]? = some [x] → c ≠ x := by
    intro j x hj hx hc
    have := hn j [x] hj hx
    rw [(pre_one _ _ _).2 hc] at this
    cases this
  have h3 := one 3 40 (by decide) rfl
  have h4 := one 4 41 (by decide) rfl
  have h5 := one 5 44 (by decide) rfl
  have h6 := one 6 46 (by decide) rfl
  have h7 := one 7 43 (by decide) rfl
  have h8 := one 8 45 (by decide) rfl
  have h9 := one 9 42 (by decide) rfl
  have h10 := one 10 47 (by decide) rfl
  have h11 := one 11 37 (by decide) rfl
  have h12 := one 12 61 (by decide) rfl
  have h13 := one 13 60 (by decide) rfl
  have h14 := one 14 62 (by decide) rfl
  have h15 := one 15 33 (by decide) rfl
  have h16 := one 16 124 (by decide) rfl
  have cast : ∀ x : UInt8, c ≠ x → (c.toNat : Int) ≠ (x.toNat : Int) := fun x h e => h (UInt8.toNat_inj.1 (by omega))
  have ht : twoC (c.toNat : Int) = false := by
    have a := cast _ h13
    have b := cast _ h14
    have d := cast _ h15
    unfold twoC
    simp at a b d ⊢
    omega
  have ho : oneC (c.toNat : Int) = false := by
    have a3 := cast _ h3
    have a4 := cast _ h4
    have a5 := cast _ h5
    have a6 := cast _ h6
    have a7 := cast _ h7
    have a8 := cast _ h8
    have a9 := cast _ h9
    have a10 := cast _ h10
    have a11 := cast _ h11
    have a12 := cast _ h12
    have a16 := cast _ h16
    unfold oneC
    simp at a3 a4 a5 a6 a7 a8 a9 a10 a11 a12 a16 ⊢
    omega
  unfold signF
  rw [if_neg (by rw [ht]; simp), if_neg (by rw [ht, ho]; simp)]
/-- a list is a prefix, as the walk asks it -/
theorem pre_iff (l w : List UInt8) : w.isPrefixOf l = true ↔ w.length ≤ l.length ∧ l.take w.length = w := by
  rw [List.isPrefixOf_iff_prefix]
  constructor
  · rintro ⟨t, rfl⟩
    simp
  · rintro ⟨_, h⟩
    have := List.take_append_drop w.length l
    rw [h] at this
    exact ⟨l.drop w.length, this⟩


set_option maxHeartbeats 8000000 in
set_option maxRecDepth 100000 in
theorem one_word (s : ByteArray) (a : Nat) (w : World) (hs : s.size ≤ 4000) (ha : a < s.size) (hA : letC ((s[a]'ha).toNat : Int) = true) (n b : Nat) (hb : b = a + n) (hbs : b ≤ s.size) (d : ByteArray) (hd : s.extract a b = d) (CM : ∀ w, Calls Tryd.prog 31 #[.string s, .int .i64 (a : Int), .bool true] w fun e w' => e = .returned (.int .i64 (n : Int)) ∧ w = w') (hW : wordB d = true) :
    Calls Tryd.prog 18 #[.string s, .int .i64 (a : Int)] w fun e w' => e = .returned (.tuple #[.agg #[.int .i64 1, .string d, .int .i64 0, .int .i64 0, .int .i64 0], .int .i64 (n : Int)]) ∧ Below w.heap.size w w' := by
  have hu := m1 w (.cells #[.int .i64 0, .string ⟨#[]⟩, .int .i64 0, .int .i64 0, .int .i64 0] 36)
  have hT := Lib.hid (TokZ.made5 w)
  have a0 : (0 : Int) ≤ (a : Int) := by omega
  have as_ : (a : Int) < (s.size : Int) := by omega
  have CL := fun w => rletter_any ((s[a]'ha).toNat : Int) w
  have CD := fun w => rdigit_any ((s[a]'ha).toNat : Int) w
  rw [hA] at CL
  clear hA CD
  have b0 : (0 : Int) ≤ (b : Int) := by omega
  have ab : (a : Int) ≤ (b : Int) := by omega
  have bs : (b : Int) ≤ (s.size : Int) := by omega
  have hwb : IntKind.i64.wrap ((a : Int) + (n : Int)) = (b : Int) := by rw [IntKind.wrap_i64]; omega
  have CW := fun w => rword_any d w
  rw [hW] at CW
  replace CW := Lib.hid CW
  replace CL := Lib.hid CL
  replace CM := Lib.hid CM
  replace hd := Lib.hid hd
  clear hb hbs
  go_enter Tryd.func18, Tryd.ntmps18
  go_wp2_with fail
  generalize w.alloc (.cells #[.int .i64 0, .string ⟨#[]⟩, .int .i64 0, .int .i64 0, .int .i64 0] 36) = u at *
  refine (CL.out _).mono ?_; rintro e w1 ⟨rfl, rfl⟩
  go_wp2_with fail
  refine (CM.out _).mono ?_; rintro e w1 ⟨rfl, rfl⟩
  go_upto_region 5 with (fail)
  rw [hd.out]
  go_wp2_with fail
  refine (CW.out _).mono ?_; rintro e w1 ⟨rfl, hb1⟩
  have hB1 := mmore hu hb1
  obtain ⟨c0, c1, c2, c3, c4, f0, f1, f2, f3, f4⟩ := hT.out.later hb1
  have g1 := mblock c0
  go_wp2_with fail
  obtain ⟨q0, q1, q2, q3, q4⟩ := five_cells (.int .i64 1) (.string d) (.int .i64 0) (.int .i64 0) (.int .i64 0) c0 c1 c2 c3 c4
  have B2 := (((((hB1.setCell (p := ⟨w.heap.size, 0, none⟩) (Nat.le_refl _) (.int .i64 1)).setCell (p := ⟨w.heap.size, 1, none⟩) (Nat.le_refl _) (.string d)).setCell (p := ⟨w.heap.size, 2, none⟩) (Nat.le_refl _) (.int .i64 0)).setCell (p := ⟨w.heap.size, 3, none⟩) (Nat.le_refl _) (.int .i64 0)).setCell (p := ⟨w.heap.size, 4, none⟩) (Nat.le_refl _) (.int .i64 0))
  clear c0 c1 c2 c3 c4 f0 f1 f2 f3 f4
  generalize (((((w1.setCell ⟨w.heap.size, 0, none⟩ (.int .i64 1)).setCell ⟨w.heap.size, 1, none⟩ (.string d)).setCell ⟨w.heap.size, 2, none⟩ (.int .i64 0)).setCell ⟨w.heap.size, 3, none⟩ (.int .i64 0)).setCell ⟨w.heap.size, 4, none⟩ (.int .i64 0)) = wz at *
  exact bodyPost_ret (v := .tuple #[.agg #[.int .i64 1, .string d, .int .i64 0, .int .i64 0, .int .i64 0], .int .i64 (n : Int)]) (by simp [results, Tryd.results18, go_sem, q0, q1, q2, q3, q4]) rfl ⟨rfl, B2⟩

set_option maxHeartbeats 8000000 in
set_option maxRecDepth 100000 in
theorem one_name (s : ByteArray) (a : Nat) (w : World) (hs : s.size ≤ 4000) (ha : a < s.size) (hA : letC ((s[a]'ha).toNat : Int) = true) (n b : Nat) (hb : b = a + n) (hbs : b ≤ s.size) (d : ByteArray) (hd : s.extract a b = d) (CM : ∀ w, Calls Tryd.prog 31 #[.string s, .int .i64 (a : Int), .bool true] w fun e w' => e = .returned (.int .i64 (n : Int)) ∧ w = w') (hW : wordB d = false) (hN : NameP d) :
    Calls Tryd.prog 18 #[.string s, .int .i64 (a : Int)] w fun e w' => e = .returned (.tuple #[.agg #[.int .i64 2, .string d, .int .i64 0, .int .i64 0, .int .i64 0], .int .i64 (n : Int)]) ∧ Below w.heap.size w w' := by
  have hu := m1 w (.cells #[.int .i64 0, .string ⟨#[]⟩, .int .i64 0, .int .i64 0, .int .i64 0] 36)
  have hT := Lib.hid (TokZ.made5 w)
  have a0 : (0 : Int) ≤ (a : Int) := by omega
  have as_ : (a : Int) < (s.size : Int) := by omega
  have CL := fun w => rletter_any ((s[a]'ha).toNat : Int) w
  have CD := fun w => rdigit_any ((s[a]'ha).toNat : Int) w
  rw [hA] at CL
  clear hA CD
  have b0 : (0 : Int) ≤ (b : Int) := by omega
  have ab : (a : Int) ≤ (b : Int) := by omega
  have bs : (b : Int) ≤ (s.size : Int) := by omega
  have hwb : IntKind.i64.wrap ((a : Int) + (n : Int)) = (b : Int) := by rw [IntKind.wrap_i64]; omega
  have CW := fun w => rword_any d w
  rw [hW] at CW
  replace CW := Lib.hid CW
  replace CL := Lib.hid CL
  replace CM := Lib.hid CM
  replace hd := Lib.hid hd
  clear hb hbs
  go_enter Tryd.func18, Tryd.ntmps18
  go_wp2_with fail
  generalize w.alloc (.cells #[.int .i64 0, .string ⟨#[]⟩, .int .i64 0, .int .i64 0, .int .i64 0] 36) = u at *
  refine (CL.out _).mono ?_; rintro e w1 ⟨rfl, rfl⟩
  go_wp2_with fail
  refine (CM.out _).mono ?_; rintro e w1 ⟨rfl, rfl⟩
  go_upto_region 5 with (fail)
  rw [hd.out]
  go_wp2_with fail
  refine (CW.out _).mono ?_; rintro e w1 ⟨rfl, hb1⟩
  have hB1 := mmore hu hb1
  go_wp2_with fail
  refine (rname_any d _).mono ?_; rintro e w2 ⟨q, rfl, hq, hb2⟩
  obtain rfl : q = true := hq.2 hN
  have hB2 := mmore hB1 hb2
  clear hq
  obtain ⟨c0, c1, c2, c3, c4, f0, f1, f2, f3, f4⟩ := hT.out.later (hb1.trans (hb2.mono hb1.size))
  have g1 := mblock c0
  go_wp2_with fail
  obtain ⟨q0, q1, q2, q3, q4⟩ := five_cells (.int .i64 2) (.string d) (.int .i64 0) (.int .i64 0) (.int .i64 0) c0 c1 c2 c3 c4
  have B2 := (((((hB2.setCell (p := ⟨w.heap.size, 0, none⟩) (Nat.le_refl _) (.int .i64 2)).setCell (p := ⟨w.heap.size, 1, none⟩) (Nat.le_refl _) (.string d)).setCell (p := ⟨w.heap.size, 2, none⟩) (Nat.le_refl _) (.int .i64 0)).setCell (p := ⟨w.heap.size, 3, none⟩) (Nat.le_refl _) (.int .i64 0)).setCell (p := ⟨w.heap.size, 4, none⟩) (Nat.le_refl _) (.int .i64 0))
  clear c0 c1 c2 c3 c4 f0 f1 f2 f3 f4
  generalize (((((w2.setCell ⟨w.heap.size, 0, none⟩ (.int .i64 2)).setCell ⟨w.heap.size, 1, none⟩ (.string d)).setCell ⟨w.heap.size, 2, none⟩ (.int .i64 0)).setCell ⟨w.heap.size, 3, none⟩ (.int .i64 0)).setCell ⟨w.heap.size, 4, none⟩ (.int .i64 0)) = wz at *
  exact bodyPost_ret (v := .tuple #[.agg #[.int .i64 2, .string d, .int .i64 0, .int .i64 0, .int .i64 0], .int .i64 (n : Int)]) (by simp [results, Tryd.results18, go_sem, q0, q1, q2, q3, q4]) rfl ⟨rfl, B2⟩

set_option maxHeartbeats 8000000 in
set_option maxRecDepth 100000 in
theorem one_wnone (s : ByteArray) (a : Nat) (w : World) (hs : s.size ≤ 4000) (ha : a < s.size) (hA : letC ((s[a]'ha).toNat : Int) = true) (n b : Nat) (hb : b = a + n) (hbs : b ≤ s.size) (d : ByteArray) (hd : s.extract a b = d) (CM : ∀ w, Calls Tryd.prog 31 #[.string s, .int .i64 (a : Int), .bool true] w fun e w' => e = .returned (.int .i64 (n : Int)) ∧ w = w') (hW : wordB d = false) (hN : ¬ NameP d) :
    Calls Tryd.prog 18 #[.string s, .int .i64 (a : Int)] w fun e w' => e = .returned (.tuple #[.agg #[.int .i64 0, .string ⟨#[]⟩, .int .i64 0, .int .i64 0, .int .i64 0], .int .i64 0]) ∧ Below w.heap.size w w' := by
  have hu := m1 w (.cells #[.int .i64 0, .string ⟨#[]⟩, .int .i64 0, .int .i64 0, .int .i64 0] 36)
  have hT := Lib.hid (TokZ.made5 w)
  have a0 : (0 : Int) ≤ (a : Int) := by omega
  have as_ : (a : Int) < (s.size : Int) := by omega
  have CL := fun w => rletter_any ((s[a]'ha).toNat : Int) w
  have CD := fun w => rdigit_any ((s[a]'ha).toNat : Int) w
  rw [hA] at CL
  clear hA CD
  have b0 : (0 : Int) ≤ (b : Int) := by omega
  have ab : (a : Int) ≤ (b : Int) := by omega
  have bs : (b : Int) ≤ (s.size : Int) := by omega
  have hwb : IntKind.i64.wrap ((a : Int) + (n : Int)) = (b : Int) := by rw [IntKind.wrap_i64]; omega
  have CW := fun w => rword_any d w
  rw [hW] at CW
  replace CW := Lib.hid CW
  replace CL := Lib.hid CL
  replace CM := Lib.hid CM
  replace hd := Lib.hid hd
  clear hb hbs
  go_enter Tryd.func18, Tryd.ntmps18
  go_wp2_with fail
  generalize w.alloc (.cells #[.int .i64 0, .string ⟨#[]⟩, .int .i64 0, .int .i64 0, .int .i64 0] 36) = u at *
  refine (CL.out _).mono ?_; rintro e w1 ⟨rfl, rfl⟩
  go_wp2_with fail
  refine (CM.out _).mono ?_; rintro e w1 ⟨rfl, rfl⟩
  go_upto_region 5 with (fail)
  rw [hd.out]
  go_wp2_with fail
  refine (CW.out _).mono ?_; rintro e w1 ⟨rfl, hb1⟩
  have hB1 := mmore hu hb1
  go_wp2_with fail
  refine (rname_any d _).mono ?_; rintro e w2 ⟨q, rfl, hq, hb2⟩
  obtain rfl : q = false := by cases q; rfl; exact absurd (hq.1 rfl) hN
  have hB2 := mmore hB1 hb2
  clear hq
  obtain ⟨c0, c1, c2, c3, c4, f0, f1, f2, f3, f4⟩ := hT.out.later (hb1.trans (hb2.mono hb1.size))
  have g1 := mblock c0
  go_wp2_with fail
  obtain ⟨q0, q1, q2, q3, q4⟩ := five_cells (.int .i64 0) (.string ⟨#[]⟩) (.int .i64 0) (.int .i64 0) (.int .i64 0) c0 c1 c2 c3 c4
  have B2 := (((((hB2.setCell (p := ⟨w.heap.size, 0, none⟩) (Nat.le_refl _) (.int .i64 0)).setCell (p := ⟨w.heap.size, 1, none⟩) (Nat.le_refl _) (.string ⟨#[]⟩)).setCell (p := ⟨w.heap.size, 2, none⟩) (Nat.le_refl _) (.int .i64 0)).setCell (p := ⟨w.heap.size, 3, none⟩) (Nat.le_refl _) (.int .i64 0)).setCell (p := ⟨w.heap.size, 4, none⟩) (Nat.le_refl _) (.int .i64 0))
  clear c0 c1 c2 c3 c4 f0 f1 f2 f3 f4
  generalize (((((w2.setCell ⟨w.heap.size, 0, none⟩ (.int .i64 0)).setCell ⟨w.heap.size, 1, none⟩ (.string ⟨#[]⟩)).setCell ⟨w.heap.size, 2, none⟩ (.int .i64 0)).setCell ⟨w.heap.size, 3, none⟩ (.int .i64 0)).setCell ⟨w.heap.size, 4, none⟩ (.int .i64 0)) = wz at *
  exact bodyPost_ret (v := .tuple #[.agg #[.int .i64 0, .string ⟨#[]⟩, .int .i64 0, .int .i64 0, .int .i64 0], .int .i64 0]) (by simp [results, Tryd.results18, go_sem, q0, q1, q2, q3, q4]) rfl ⟨rfl, B2⟩

set_option maxHeartbeats 8000000 in
set_option maxRecDepth 100000 in
theorem one_digit (s : ByteArray) (a : Nat) (w : World) (hs : s.size ≤ 4000) (ha : a < s.size) (hA : letC ((s[a]'ha).toNat : Int) = false) (hD : digC ((s[a]'ha).toNat : Int) = true) (k : Int) (t : ByteArray) (x sc : Int) (ln : Nat) (CN : ∀ w, Calls Tryd.prog 35 #[.string s, .int .i64 (a : Int)] w fun e w' => e = .returned (.tuple #[.agg #[.int .i64 k, .string t, .int .i64 x, .int .i64 sc, .int .i64 0], .int .i64 (ln : Int)]) ∧ Below w.heap.size w w') :
    Calls Tryd.prog 18 #[.string s, .int .i64 (a : Int)] w fun e w' => e = .returned (.tuple #[.agg #[.int .i64 k, .string t, .int .i64 x, .int .i64 sc, .int .i64 0], .int .i64 (ln : Int)]) ∧ Below w.heap.size w w' := by
  have hu := m1 w (.cells #[.int .i64 0, .string ⟨#[]⟩, .int .i64 0, .int .i64 0, .int .i64 0] 36)
  have hT := Lib.hid (TokZ.made5 w)
  have a0 : (0 : Int) ≤ (a : Int) := by omega
  have as_ : (a : Int) < (s.size : Int) := by omega
  have CL := fun w => rletter_any ((s[a]'ha).toNat : Int) w
  have CD := fun w => rdigit_any ((s[a]'ha).toNat : Int) w
  rw [hA] at CL
  rw [hD] at CD
  replace CL := Lib.hid CL
  replace CD := Lib.hid CD
  clear hA hD
  replace CN := Lib.hid CN
  go_enter Tryd.func18, Tryd.ntmps18
  go_wp2_with fail
  generalize w.alloc (.cells #[.int .i64 0, .string ⟨#[]⟩, .int .i64 0, .int .i64 0, .int .i64 0] 36) = u at *
  refine (CL.out _).mono ?_; rintro e w1 ⟨rfl, rfl⟩
  go_wp2_with fail
  refine (CD.out _).mono ?_; rintro e w1 ⟨rfl, rfl⟩
  go_wp2_with fail
  refine (CN.out _).mono ?_; rintro e w2 ⟨rfl, hb2⟩
  have hB2 := mmore hu hb2
  obtain ⟨c0, c1, c2, c3, c4, f0, f1, f2, f3, f4⟩ := hT.out.later hb2
  have g1 := mblock c0
  go_wp2_with fail
  obtain ⟨q0, q1, q2, q3, q4⟩ := five_cells (.int .i64 k) (.string t) (.int .i64 x) (.int .i64 sc) (.int .i64 0) c0 c1 c2 c3 c4
  have B2 := (((((hB2.setCell (p := ⟨w.heap.size, 0, none⟩) (Nat.le_refl _) (.int .i64 k)).setCell (p := ⟨w.heap.size, 1, none⟩) (Nat.le_refl _) (.string t)).setCell (p := ⟨w.heap.size, 2, none⟩) (Nat.le_refl _) (.int .i64 x)).setCell (p := ⟨w.heap.size, 3, none⟩) (Nat.le_refl _) (.int .i64 sc)).setCell (p := ⟨w.heap.size, 4, none⟩) (Nat.le_refl _) (.int .i64 0))
  clear c0 c1 c2 c3 c4 f0 f1 f2 f3 f4
  generalize (((((w2.setCell ⟨w.heap.size, 0, none⟩ (.int .i64 k)).setCell ⟨w.heap.size, 1, none⟩ (.string t)).setCell ⟨w.heap.size, 2, none⟩ (.int .i64 x)).setCell ⟨w.heap.size, 3, none⟩ (.int .i64 sc)).setCell ⟨w.heap.size, 4, none⟩ (.int .i64 0)) = wz at *
  exact bodyPost_ret (v := .tuple #[.agg #[.int .i64 k, .string t, .int .i64 x, .int .i64 sc, .int .i64 0], .int .i64 (ln : Int)]) (by simp [results, Tryd.results18, go_sem, q0, q1, q2, q3, q4]) rfl ⟨rfl, B2⟩

set_option maxHeartbeats 8000000 in
set_option maxRecDepth 100000 in
theorem one_sym (s : ByteArray) (a : Nat) (w : World) (hs : s.size ≤ 4000) (ha : a < s.size) (hA : letC ((s[a]'ha).toNat : Int) = false) (hD : digC ((s[a]'ha).toNat : Int) = false) (hQ : ((s[a]'ha).toNat : Int) = 39) (n b : Nat) (hb : b = a + 1 + n) (hbs : b ≤ s.size) (d : ByteArray) (hd : s.extract (a + 1) b = d) (CM : ∀ w, Calls Tryd.prog 31 #[.string s, .int .i64 ((a + 1 : Nat) : Int), .bool true] w fun e w' => e = .returned (.int .i64 (n : Int)) ∧ w = w') (hN : NameP d) (hb2 : b < s.size) (h39 : (((s[b]'hb2).toNat : Int) != 39) = false) :
    Calls Tryd.prog 18 #[.string s, .int .i64 (a : Int)] w fun e w' => e = .returned (.tuple #[.agg #[.int .i64 5, .string d, .int .i64 0, .int .i64 0, .int .i64 0], .int .i64 ((n : Int) + 2)]) ∧ Below w.heap.size w w' := by
  have hu := m1 w (.cells #[.int .i64 0, .string ⟨#[]⟩, .int .i64 0, .int .i64 0, .int .i64 0] 36)
  have hT := Lib.hid (TokZ.made5 w)
  have a0 : (0 : Int) ≤ (a : Int) := by omega
  have as_ : (a : Int) < (s.size : Int) := by omega
  have CL := fun w => rletter_any ((s[a]'ha).toNat : Int) w
  have CD := fun w => rdigit_any ((s[a]'ha).toNat : Int) w
  rw [hA] at CL
  rw [hD] at CD
  replace CL := Lib.hid CL
  replace CD := Lib.hid CD
  clear hA hD
  have hq39 : (((s[a]'ha).toNat : Int) == 39) = true := by rw [hQ]; rfl
  obtain ⟨a1, ha1⟩ : ∃ a1 : Nat, a1 = a + 1 := ⟨_, rfl⟩
  have hwa1 : IntKind.i64.wrap ((a : Int) + 1) = (a1 : Int) := by rw [IntKind.wrap_i64]; omega
  have hwb : IntKind.i64.wrap ((a1 : Int) + (n : Int)) = (b : Int) := by rw [IntKind.wrap_i64]; omega
  have hwn : IntKind.i64.wrap ((n : Int) + 2) = (n : Int) + 2 := by rw [IntKind.wrap_i64]; omega
  have b0 : (0 : Int) ≤ (b : Int) := by omega
  have b01 : (0 : Int) ≤ (a1 : Int) := by omega
  have ab : (a1 : Int) ≤ (b : Int) := by omega
  have bs : (b : Int) ≤ (s.size : Int) := by omega
  rw [← ha1] at hd CM
  replace CM := Lib.hid CM
  replace hd := Lib.hid hd
  clear hQ hb ha1
  have bs2 : ¬ (b : Int) ≥ (s.size : Int) := by omega
  have bs3 : (b : Int) < (s.size : Int) := by omega
  go_enter Tryd.func18, Tryd.ntmps18
  go_wp2_with fail
  generalize w.alloc (.cells #[.int .i64 0, .string ⟨#[]⟩, .int .i64 0, .int .i64 0, .int .i64 0] 36) = u at *
  refine (CL.out _).mono ?_; rintro e w1 ⟨rfl, rfl⟩
  go_wp2_with fail
  refine (CD.out _).mono ?_; rintro e w1 ⟨rfl, rfl⟩
  go_wp2_with fail
  refine (CM.out _).mono ?_; rintro e w1 ⟨rfl, rfl⟩
  go_upto_region 15 with (fail)
  rw [hd.out]
  go_wp2_with fail
  refine (rname_any d _).mono ?_; rintro e w2 ⟨q, rfl, hq, hb2⟩
  obtain rfl : q = true := hq.2 hN
  have hB2 := mmore hu hb2
  clear hq
  obtain ⟨c0, c1, c2, c3, c4, f0, f1, f2, f3, f4⟩ := hT.out.later hb2
  have g1 := mblock c0
  go_wp2_with fail
  obtain ⟨q0, q1, q2, q3, q4⟩ := five_cells (.int .i64 5) (.string d) (.int .i64 0) (.int .i64 0) (.int .i64 0) c0 c1 c2 c3 c4
  have B2 := (((((hB2.setCell (p := ⟨w.heap.size, 0, none⟩) (Nat.le_refl _) (.int .i64 5)).setCell (p := ⟨w.heap.size, 1, none⟩) (Nat.le_refl _) (.string d)).setCell (p := ⟨w.heap.size, 2, none⟩) (Nat.le_refl _) (.int .i64 0)).setCell (p := ⟨w.heap.size, 3, none⟩) (Nat.le_refl _) (.int .i64 0)).setCell (p := ⟨w.heap.size, 4, none⟩) (Nat.le_refl _) (.int .i64 0))
  clear c0 c1 c2 c3 c4 f0 f1 f2 f3 f4
  generalize (((((w2.setCell ⟨w.heap.size, 0, none⟩ (.int .i64 5)).setCell ⟨w.heap.size, 1, none⟩ (.string d)).setCell ⟨w.heap.size, 2, none⟩ (.int .i64 0)).setCell ⟨w.heap.size, 3, none⟩ (.int .i64 0)).setCell ⟨w.heap.size, 4, none⟩ (.int .i64 0)) = wz at *
  exact bodyPost_ret (v := .tuple #[.agg #[.int .i64 5, .string d, .int .i64 0, .int .i64 0, .int .i64 0], .int .i64 ((n : Int) + 2)]) (by simp [results, Tryd.results18, go_sem, q0, q1, q2, q3, q4]) rfl ⟨rfl, B2⟩

set_option maxHeartbeats 8000000 in
set_option maxRecDepth 100000 in
theorem one_snone (s : ByteArray) (a : Nat) (w : World) (hs : s.size ≤ 4000) (ha : a < s.size) (hA : letC ((s[a]'ha).toNat : Int) = false) (hD : digC ((s[a]'ha).toNat : Int) = false) (hQ : ((s[a]'ha).toNat : Int) = 39) (n b : Nat) (hb : b = a + 1 + n) (hbs : b ≤ s.size) (d : ByteArray) (hd : s.extract (a + 1) b = d) (CM : ∀ w, Calls Tryd.prog 31 #[.string s, .int .i64 ((a + 1 : Nat) : Int), .bool true] w fun e w' => e = .returned (.int .i64 (n : Int)) ∧ w = w') (hN : ¬ NameP d) :
    Calls Tryd.prog 18 #[.string s, .int .i64 (a : Int)] w fun e w' => e = .returned (.tuple #[.agg #[.int .i64 0, .string ⟨#[]⟩, .int .i64 0, .int .i64 0, .int .i64 0], .int .i64 0]) ∧ Below w.heap.size w w' := by
  have hu := m1 w (.cells #[.int .i64 0, .string ⟨#[]⟩, .int .i64 0, .int .i64 0, .int .i64 0] 36)
  have hT := Lib.hid (TokZ.made5 w)
  have a0 : (0 : Int) ≤ (a : Int) := by omega
  have as_ : (a : Int) < (s.size : Int) := by omega
  have CL := fun w => rletter_any ((s[a]'ha).toNat : Int) w
  have CD := fun w => rdigit_any ((s[a]'ha).toNat : Int) w
  rw [hA] at CL
  rw [hD] at CD
  replace CL := Lib.hid CL
  replace CD := Lib.hid CD
  clear hA hD
  have hq39 : (((s[a]'ha).toNat : Int) == 39) = true := by rw [hQ]; rfl
  obtain ⟨a1, ha1⟩ : ∃ a1 : Nat, a1 = a + 1 := ⟨_, rfl⟩
  have hwa1 : IntKind.i64.wrap ((a : Int) + 1) = (a1 : Int) := by rw [IntKind.wrap_i64]; omega
  have hwb : IntKind.i64.wrap ((a1 : Int) + (n : Int)) = (b : Int) := by rw [IntKind.wrap_i64]; omega
  have hwn : IntKind.i64.wrap ((n : Int) + 2) = (n : Int) + 2 := by rw [IntKind.wrap_i64]; omega
  have b0 : (0 : Int) ≤ (b : Int) := by omega
  have b01 : (0 : Int) ≤ (a1 : Int) := by omega
  have ab : (a1 : Int) ≤ (b : Int) := by omega
  have bs : (b : Int) ≤ (s.size : Int) := by omega
  rw [← ha1] at hd CM
  replace CM := Lib.hid CM
  replace hd := Lib.hid hd
  clear hQ hb ha1
  go_enter Tryd.func18, Tryd.ntmps18
  go_wp2_with fail
  generalize w.alloc (.cells #[.int .i64 0, .string ⟨#[]⟩, .int .i64 0, .int .i64 0, .int .i64 0] 36) = u at *
  refine (CL.out _).mono ?_; rintro e w1 ⟨rfl, rfl⟩
  go_wp2_with fail
  refine (CD.out _).mono ?_; rintro e w1 ⟨rfl, rfl⟩
  go_wp2_with fail
  refine (CM.out _).mono ?_; rintro e w1 ⟨rfl, rfl⟩
  go_upto_region 15 with (fail)
  rw [hd.out]
  go_wp2_with fail
  refine (rname_any d _).mono ?_; rintro e w2 ⟨q, rfl, hq, hb2⟩
  obtain rfl : q = false := by cases q; rfl; exact absurd (hq.1 rfl) hN
  have hB2 := mmore hu hb2
  clear hq
  obtain ⟨c0, c1, c2, c3, c4, f0, f1, f2, f3, f4⟩ := hT.out.later hb2
  have g1 := mblock c0
  go_wp2_with fail
  obtain ⟨q0, q1, q2, q3, q4⟩ := five_cells (.int .i64 0) (.string ⟨#[]⟩) (.int .i64 0) (.int .i64 0) (.int .i64 0) c0 c1 c2 c3 c4
  have B2 := (((((hB2.setCell (p := ⟨w.heap.size, 0, none⟩) (Nat.le_refl _) (.int .i64 0)).setCell (p := ⟨w.heap.size, 1, none⟩) (Nat.le_refl _) (.string ⟨#[]⟩)).setCell (p := ⟨w.heap.size, 2, none⟩) (Nat.le_refl _) (.int .i64 0)).setCell (p := ⟨w.heap.size, 3, none⟩) (Nat.le_refl _) (.int .i64 0)).setCell (p := ⟨w.heap.size, 4, none⟩) (Nat.le_refl _) (.int .i64 0))
  clear c0 c1 c2 c3 c4 f0 f1 f2 f3 f4
  generalize (((((w2.setCell ⟨w.heap.size, 0, none⟩ (.int .i64 0)).setCell ⟨w.heap.size, 1, none⟩ (.string ⟨#[]⟩)).setCell ⟨w.heap.size, 2, none⟩ (.int .i64 0)).setCell ⟨w.heap.size, 3, none⟩ (.int .i64 0)).setCell ⟨w.heap.size, 4, none⟩ (.int .i64 0)) = wz at *
  exact bodyPost_ret (v := .tuple #[.agg #[.int .i64 0, .string ⟨#[]⟩, .int .i64 0, .int .i64 0, .int .i64 0], .int .i64 0]) (by simp [results, Tryd.results18, go_sem, q0, q1, q2, q3, q4]) rfl ⟨rfl, B2⟩

set_option maxHeartbeats 8000000 in
set_option maxRecDepth 100000 in
theorem one_send (s : ByteArray) (a : Nat) (w : World) (hs : s.size ≤ 4000) (ha : a < s.size) (hA : letC ((s[a]'ha).toNat : Int) = false) (hD : digC ((s[a]'ha).toNat : Int) = false) (hQ : ((s[a]'ha).toNat : Int) = 39) (n b : Nat) (hb : b = a + 1 + n) (hbs : b ≤ s.size) (d : ByteArray) (hd : s.extract (a + 1) b = d) (CM : ∀ w, Calls Tryd.prog 31 #[.string s, .int .i64 ((a + 1 : Nat) : Int), .bool true] w fun e w' => e = .returned (.int .i64 (n : Int)) ∧ w = w') (hN : NameP d) (hb2 : ¬ b < s.size) :
    Calls Tryd.prog 18 #[.string s, .int .i64 (a : Int)] w fun e w' => e = .returned (.tuple #[.agg #[.int .i64 0, .string ⟨#[]⟩, .int .i64 0, .int .i64 0, .int .i64 0], .int .i64 0]) ∧ Below w.heap.size w w' := by
  have hu := m1 w (.cells #[.int .i64 0, .string ⟨#[]⟩, .int .i64 0, .int .i64 0, .int .i64 0] 36)
  have hT := Lib.hid (TokZ.made5 w)
  have a0 : (0 : Int) ≤ (a : Int) := by omega
  have as_ : (a : Int) < (s.size : Int) := by omega
  have CL := fun w => rletter_any ((s[a]'ha).toNat : Int) w
  have CD := fun w => rdigit_any ((s[a]'ha).toNat : Int) w
  rw [hA] at CL
  rw [hD] at CD
  replace CL := Lib.hid CL
  replace CD := Lib.hid CD
  clear hA hD
  have hq39 : (((s[a]'ha).toNat : Int) == 39) = true := by rw [hQ]; rfl
  obtain ⟨a1, ha1⟩ : ∃ a1 : Nat, a1 = a + 1 := ⟨_, rfl⟩
  have hwa1 : IntKind.i64.wrap ((a : Int) + 1) = (a1 : Int) := by rw [IntKind.wrap_i64]; omega
  have hwb : IntKind.i64.wrap ((a1 : Int) + (n : Int)) = (b : Int) := by rw [IntKind.wrap_i64]; omega
  have hwn : IntKind.i64.wrap ((n : Int) + 2) = (n : Int) + 2 := by rw [IntKind.wrap_i64]; omega
  have b0 : (0 : Int) ≤ (b : Int) := by omega
  have b01 : (0 : Int) ≤ (a1 : Int) := by omega
  have ab : (a1 : Int) ≤ (b : Int) := by omega
  have bs : (b : Int) ≤ (s.size : Int) := by omega
  rw [← ha1] at hd CM
  replace CM := Lib.hid CM
  replace hd := Lib.hid hd
  clear hQ hb ha1
  have bs2 : (b : Int) ≥ (s.size : Int) := by omega
  go_enter Tryd.func18, Tryd.ntmps18
  go_wp2_with fail
  generalize w.alloc (.cells #[.int .i64 0, .string ⟨#[]⟩, .int .i64 0, .int .i64 0, .int .i64 0] 36) = u at *
  refine (CL.out _).mono ?_; rintro e w1 ⟨rfl, rfl⟩
  go_wp2_with fail
  refine (CD.out _).mono ?_; rintro e w1 ⟨rfl, rfl⟩
  go_wp2_with fail
  refine (CM.out _).mono ?_; rintro e w1 ⟨rfl, rfl⟩
  go_upto_region 15 with (fail)
  rw [hd.out]
  go_wp2_with fail
  refine (rname_any d _).mono ?_; rintro e w2 ⟨q, rfl, hq, hb2⟩
  obtain rfl : q = true := hq.2 hN
  have hB2 := mmore hu hb2
  clear hq
  obtain ⟨c0, c1, c2, c3, c4, f0, f1, f2, f3, f4⟩ := hT.out.later hb2
  have g1 := mblock c0
  go_wp2_with fail
  obtain ⟨q0, q1, q2, q3, q4⟩ := five_cells (.int .i64 0) (.string ⟨#[]⟩) (.int .i64 0) (.int .i64 0) (.int .i64 0) c0 c1 c2 c3 c4
  have B2 := (((((hB2.setCell (p := ⟨w.heap.size, 0, none⟩) (Nat.le_refl _) (.int .i64 0)).setCell (p := ⟨w.heap.size, 1, none⟩) (Nat.le_refl _) (.string ⟨#[]⟩)).setCell (p := ⟨w.heap.size, 2, none⟩) (Nat.le_refl _) (.int .i64 0)).setCell (p := ⟨w.heap.size, 3, none⟩) (Nat.le_refl _) (.int .i64 0)).setCell (p := ⟨w.heap.size, 4, none⟩) (Nat.le_refl _) (.int .i64 0))
  clear c0 c1 c2 c3 c4 f0 f1 f2 f3 f4
  generalize (((((w2.setCell ⟨w.heap.size, 0, none⟩ (.int .i64 0)).setCell ⟨w.heap.size, 1, none⟩ (.string ⟨#[]⟩)).setCell ⟨w.heap.size, 2, none⟩ (.int .i64 0)).setCell ⟨w.heap.size, 3, none⟩ (.int .i64 0)).setCell ⟨w.heap.size, 4, none⟩ (.int .i64 0)) = wz at *
  exact bodyPost_ret (v := .tuple #[.agg #[.int .i64 0, .string ⟨#[]⟩, .int .i64 0, .int .i64 0, .int .i64 0], .int .i64 0]) (by simp [results, Tryd.results18, go_sem, q0, q1, q2, q3, q4]) rfl ⟨rfl, B2⟩

set_option maxHeartbeats 8000000 in
set_option maxRecDepth 100000 in
theorem one_sopen (s : ByteArray) (a : Nat) (w : World) (hs : s.size ≤ 4000) (ha : a < s.size) (hA : letC ((s[a]'ha).toNat : Int) = false) (hD : digC ((s[a]'ha).toNat : Int) = false) (hQ : ((s[a]'ha).toNat : Int) = 39) (n b : Nat) (hb : b = a + 1 + n) (hbs : b ≤ s.size) (d : ByteArray) (hd : s.extract (a + 1) b = d) (CM : ∀ w, Calls Tryd.prog 31 #[.string s, .int .i64 ((a + 1 : Nat) : Int), .bool true] w fun e w' => e = .returned (.int .i64 (n : Int)) ∧ w = w') (hN : NameP d) (hb2 : b < s.size) (h39 : (((s[b]'hb2).toNat : Int) != 39) = true) :
    Calls Tryd.prog 18 #[.string s, .int .i64 (a : Int)] w fun e w' => e = .returned (.tuple #[.agg #[.int .i64 0, .string ⟨#[]⟩, .int .i64 0, .int .i64 0, .int .i64 0], .int .i64 0]) ∧ Below w.heap.size w w' := by
  have hu := m1 w (.cells #[.int .i64 0, .string ⟨#[]⟩, .int .i64 0, .int .i64 0, .int .i64 0] 36)
  have hT := Lib.hid (TokZ.made5 w)
  have a0 : (0 : Int) ≤ (a : Int) := by omega
  have as_ : (a : Int) < (s.size : Int) := by omega
  have CL := fun w => rletter_any ((s[a]'ha).toNat : Int) w
  have CD := fun w => rdigit_any ((s[a]'ha).toNat : Int) w
  rw [hA] at CL
  rw [hD] at CD
  replace CL := Lib.hid CL
  replace CD := Lib.hid CD
  clear hA hD
  have hq39 : (((s[a]'ha).toNat : Int) == 39) = true := by rw [hQ]; rfl
  obtain ⟨a1, ha1⟩ : ∃ a1 : Nat, a1 = a + 1 := ⟨_, rfl⟩
  have hwa1 : IntKind.i64.wrap ((a : Int) + 1) = (a1 : Int) := by rw [IntKind.wrap_i64]; omega
  have hwb : IntKind.i64.wrap ((a1 : Int) + (n : Int)) = (b : Int) := by rw [IntKind.wrap_i64]; omega
  have hwn : IntKind.i64.wrap ((n : Int) + 2) = (n : Int) + 2 := by rw [IntKind.wrap_i64]; omega
  have b0 : (0 : Int) ≤ (b : Int) := by omega
  have b01 : (0 : Int) ≤ (a1 : Int) := by omega
  have ab : (a1 : Int) ≤ (b : Int) := by omega
  have bs : (b : Int) ≤ (s.size : Int) := by omega
  rw [← ha1] at hd CM
  replace CM := Lib.hid CM
  replace hd := Lib.hid hd
  clear hQ hb ha1
  have bs2 : ¬ (b : Int) ≥ (s.size : Int) := by omega
  have bs3 : (b : Int) < (s.size : Int) := by omega
  go_enter Tryd.func18, Tryd.ntmps18
  go_wp2_with fail
  generalize w.alloc (.cells #[.int .i64 0, .string ⟨#[]⟩, .int .i64 0, .int .i64 0, .int .i64 0] 36) = u at *
  refine (CL.out _).mono ?_; rintro e w1 ⟨rfl, rfl⟩
  go_wp2_with fail
  refine (CD.out _).mono ?_; rintro e w1 ⟨rfl, rfl⟩
  go_wp2_with fail
  refine (CM.out _).mono ?_; rintro e w1 ⟨rfl, rfl⟩
  go_upto_region 15 with (fail)
  rw [hd.out]
  go_wp2_with fail
  refine (rname_any d _).mono ?_; rintro e w2 ⟨q, rfl, hq, hb2⟩
  obtain rfl : q = true := hq.2 hN
  have hB2 := mmore hu hb2
  clear hq
  obtain ⟨c0, c1, c2, c3, c4, f0, f1, f2, f3, f4⟩ := hT.out.later hb2
  have g1 := mblock c0
  go_wp2_with fail
  obtain ⟨q0, q1, q2, q3, q4⟩ := five_cells (.int .i64 0) (.string ⟨#[]⟩) (.int .i64 0) (.int .i64 0) (.int .i64 0) c0 c1 c2 c3 c4
  have B2 := (((((hB2.setCell (p := ⟨w.heap.size, 0, none⟩) (Nat.le_refl _) (.int .i64 0)).setCell (p := ⟨w.heap.size, 1, none⟩) (Nat.le_refl _) (.string ⟨#[]⟩)).setCell (p := ⟨w.heap.size, 2, none⟩) (Nat.le_refl _) (.int .i64 0)).setCell (p := ⟨w.heap.size, 3, none⟩) (Nat.le_refl _) (.int .i64 0)).setCell (p := ⟨w.heap.size, 4, none⟩) (Nat.le_refl _) (.int .i64 0))
  clear c0 c1 c2 c3 c4 f0 f1 f2 f3 f4
  generalize (((((w2.setCell ⟨w.heap.size, 0, none⟩ (.int .i64 0)).setCell ⟨w.heap.size, 1, none⟩ (.string ⟨#[]⟩)).setCell ⟨w.heap.size, 2, none⟩ (.int .i64 0)).setCell ⟨w.heap.size, 3, none⟩ (.int .i64 0)).setCell ⟨w.heap.size, 4, none⟩ (.int .i64 0)) = wz at *
  exact bodyPost_ret (v := .tuple #[.agg #[.int .i64 0, .string ⟨#[]⟩, .int .i64 0, .int .i64 0, .int .i64 0], .int .i64 0]) (by simp [results, Tryd.results18, go_sem, q0, q1, q2, q3, q4]) rfl ⟨rfl, B2⟩
end Go.Proofs.YteojcohmocbakaaDoor
