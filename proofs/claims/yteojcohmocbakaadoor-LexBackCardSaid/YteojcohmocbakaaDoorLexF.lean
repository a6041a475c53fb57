/- The token that a text begins with, as contracts in the words of lists. -/
import Derived.Test.YteojcohmocbakaaDoorLexP
import Derived.Test.YteojcohmocbakaaDoorLexNb
import Derived.Lib.SmallJoins
import Derived.WalkSmall
namespace Go.Proofs.YteojcohmocbakaaDoor
open Go.ChangeShapes Go.WideShapes Go.ChangeAt Go.RowKit
set_option linter.unusedVariables false
set_option linter.unusedSimpArgs false

def tokA (t : Tok) (a : Int) : Value := tokV t.kind (ba t.text) t.n t.scale a
def ErrCell (w : World) : Prop := ∃ ev, w.cell? ⟨2, 0, none⟩ = some ev ∧ (ev = .nilIface ∨ ∃ te pe, ev = .iface te pe)
theorem ErrCell.later {w w1 : World} (h : ErrCell w) (hb : Below w.heap.size w w1) : ErrCell w1 := by
  obtain ⟨ev, h1, h2⟩ := h
  exact ⟨ev, cell_later hb h1, h2⟩
def GivesTok (s : ByteArray) (p : Tok × Nat) (w : World) (e : Ending) (w' : World) : Prop := e = .returned (.tuple #[tokA p.1 0, .int .i64 (p.2 : Int)]) ∧ Below w.heap.size w w'
theorem hasPrefix_one (l : List UInt8) (c : UInt8) : Lib.hasPrefix l [c] = true ↔ l.head? = some c := by
  cases l with
  | nil => simp [Lib.hasPrefix]
  | cons d r =>
    simp [Lib.hasPrefix]
    exact ⟨Eq.symm, Eq.symm⟩
theorem ext_run (p : Int → Bool) (s : ByteArray) : s.extract 0 (runL p s.data.toList).length = ba (runL p s.data.toList) := by
  rw [← ba_of (s.extract 0 _), ext_to, runL_take]

theorem word_F (s : ByteArray) (w : World) (hs : s.size ≤ 281474976710656) :
    Calls Tryd.prog 25 #[.string s] w (GivesTok s (wordF s.data.toList) w) := by
  refine (lword_any s _ w hs (run_is okC s)).mono ?_
  rintro e w' ⟨v, n, rfl, h, hb⟩
  refine ⟨?_, hb⟩
  rw [ext_run] at h
  unfold wordF
  rcases h with ⟨h1, rfl, rfl⟩ | ⟨h1, h2, rfl, rfl⟩ | ⟨h1, h2, rfl, rfl⟩
  · rw [if_pos h1, ba_size]; rfl
  · rw [if_neg (by rw [h1]; simp), if_pos h2, ba_size]; rfl
  · rw [if_neg (by rw [h1]; simp), if_neg h2]; rfl
theorem symbol_F (s : ByteArray) (w : World) (hs : s.size ≤ 281474976710656) (h0 : 0 < s.size) :
    Calls Tryd.prog 28 #[.string s] w (GivesTok s (symF (s.data.toList.drop 1)) w) := by
  refine (symbol_any s _ w hs h0 (run_is okC _) _ rfl).mono ?_
  rintro e w' ⟨v, n, rfl, h, hb⟩
  refine ⟨?_, hb⟩
  rw [ext_run, ext_from, ext_from, ba_size, ext_from] at h
  unfold symF
  rcases h with ⟨h1, h2, rfl, rfl⟩ | ⟨h1, rfl, rfl⟩
  · rw [if_pos ⟨h1, (hasPrefix_one _ _).1 h2⟩, ba_size]; rfl
  · rw [if_neg]
    · rfl
    · rintro ⟨h2, h3⟩
      rcases h1 with h1 | h1
      · exact h1 h2
      · rw [(hasPrefix_one _ _).2 h3] at h1
        cases h1
theorem sign_F (s : ByteArray) (w : World) (c : UInt8) (r : List UInt8) (hl : s.data.toList = c :: r) (hs : s.size ≤ 281474976710656) :
    Calls Tryd.prog 29 #[.string s] w (GivesTok s (signF c r) w) := by
  have hz : s.size = r.length + 1 := by rw [← list_size, hl]; rfl
  have h0 : 0 < s.size := by omega
  have hc : s[0] = c := by
    rw [← get_list s 0 h0]
    simp only [hl]
    rfl
  refine (sign_any s w hs h0 _ rfl).mono ?_
  rintro e w' ⟨v, n, rfl, h, hb⟩
  refine ⟨?_, hb⟩
  rw [hc, ext_from, hl] at h
  have e1 : s.extract 0 1 = ba [c] := by rw [← ba_of (s.extract 0 1), ext_to, hl]; rfl
  unfold SignIs at h
  rw [e1] at h
  unfold signF
  rcases h with ⟨h1, h2, rfl, rfl⟩ | ⟨h1, rfl, rfl⟩ | ⟨h1, h2, rfl, rfl⟩
  · have h3 := (hasPrefix_one _ _).1 h2
    rw [if_pos ⟨h1, h3⟩]
    have e2 : s.extract 0 2 = ba [c, 61] := by
      rw [← ba_of (s.extract 0 2), ext_to, hl]
      cases r with
      | nil => cases h3
      | cons d r => simp at h3; subst h3; rfl
    rw [e2]; rfl
  · rcases h1 with ⟨h1, h2⟩ | h1
    · rw [if_neg, if_pos (.inl h1)]
      · rfl
      · rintro ⟨_, h3⟩
        have h4 := (hasPrefix_one _ _).2 h3
        rw [show (c :: r).drop 1 = r from rfl] at h2
        rw [h2] at h4
        cases h4
    · have ht : twoC (c.toNat : Int) = false := by
        cases ht : twoC (c.toNat : Int)
        · rfl
        · unfold twoC at ht; unfold oneC at h1; simp at ht h1; omega
      rw [if_neg (by rw [ht]; simp), if_pos (.inr h1)]; rfl
  · rw [if_neg (by rw [h1]; simp), if_neg (by rw [h1, h2]; simp)]; rfl

theorem fraction_F (t : ByteArray) (w : World) (hs : t.size ≤ 281474976710656) :
    Calls Tryd.prog 43 #[.string t] w fun e w' => e = .returned (.string (ba (fracF t.data.toList))) ∧ w = w' := by
  cases hp : Lib.hasPrefix t.data.toList [46] with
  | false =>
    refine (fraction_no t w hp).mono ?_
    rintro e w' ⟨rfl, rfl⟩
    refine ⟨?_, rfl⟩
    cases hl : t.data.toList with
    | nil => rfl
    | cons c r =>
      rw [fracF_cons, if_neg]
      · rfl
      · intro hc
        have : c = 46 := UInt8.toNat_inj.1 hc
        subst this
        rw [(hasPrefix_one t.data.toList 46).2 (by rw [hl]; rfl)] at hp
        cases hp
  | true =>
    refine (fraction_yes t _ w (by omega) hp (run_is digC _)).mono ?_
    rintro e w' ⟨rfl, rfl⟩
    refine ⟨?_, rfl⟩
    have h1 := (hasPrefix_one _ _).1 hp
    have h2 : (FracB t).data.toList = t.data.toList.drop 1 := by
      unfold FracB Lib.trimPrefix
      rw [hp]
      rfl
    rw [ext_run, h2]
    cases hl : t.data.toList with
    | nil => rw [hl] at h1; cases h1
    | cons c r =>
      rw [hl] at h1
      simp at h1
      subst h1
      rfl
theorem num_of (c : UInt8) (r : List UInt8) (t : Value) (n : Int) (good : Bool)
    (hg : good = decide (digV (runL digC (c :: r) ++ fracF ((c :: r).drop (runL digC (c :: r)).length)) < 9223372036854775808)) (v : Int)
    (hv : good = true → v = (digV (runL digC (c :: r) ++ fracF ((c :: r).drop (runL digC (c :: r)).length)) : Int))
    (h : NumIs (c.toNat : Int) (runL digC (c :: r)).length (ba (fracF ((c :: r).drop (runL digC (c :: r)).length))) v good t n) :
    t = tokA (numF (c :: r)).1 0 ∧ n = ((numF (c :: r)).2 : Int) := by
  unfold numF
  unfold NumIs at h
  rw [ba_size] at h
  rw [show (c :: r).headD 0 = c from rfl]
  generalize digV (runL digC (c :: r) ++ fracF ((c :: r).drop (runL digC (c :: r)).length)) = D at *
  generalize fracF ((c :: r).drop (runL digC (c :: r)).length) = P at *
  generalize runL digC (c :: r) = W at *
  have hc : (c.toNat : Int) = 48 ↔ c.toNat = 48 := by omega
  rw [hc] at h
  rcases h with ⟨h1, rfl, rfl⟩ | ⟨h1, h2, h3, rfl, rfl⟩ | ⟨h1, h2, h3, h4, rfl, rfl⟩ | ⟨h1, h2, h3, h4, rfl, rfl⟩
  · rw [if_pos]
    · exact ⟨rfl, rfl⟩
    · rcases h1 with h1 | h1
      · left
        rw [h1] at hg
        intro hn
        rw [decide_eq_true hn] at hg
        cases hg
      · exact .inr h1
  all_goals
    rw [h1] at hg
    have hD : D < 9223372036854775808 := of_decide_eq_true hg.symm
    have hv := hv h1
    subst hv
    rw [if_neg (by rintro (h | h); exact h hD; exact h2 h)]
  · rw [if_pos h3]
    exact ⟨rfl, rfl⟩
  · rw [if_neg h3, if_pos h4]
    exact ⟨rfl, rfl⟩
  · rw [if_neg h3, if_neg (by omega)]
    exact ⟨rfl, by push_cast; rfl⟩
theorem number_F (s : ByteArray) (w : World) (c : UInt8) (r : List UInt8) (hl : s.data.toList = c :: r) (hs4 : s.size ≤ 4000) (hd : digC (c.toNat : Int) = true) (hE : ErrCell w) :
    Calls Tryd.prog 27 #[.string s] w (GivesTok s (numF (c :: r)) w) := by
  have hs : s.size ≤ 281474976710656 := by omega
  have hz : s.size = r.length + 1 := by rw [← list_size, hl]; rfl
  have h0 : 0 < s.size := by omega
  have hr := run_is digC s
  rw [hl] at hr
  have ha1 : 0 < (runL digC (c :: r)).length := by rw [runL_cons, if_pos hd]; simp
  have hal := runL_le digC (c :: r)
  have hdall := runL_all digC (c :: r)
  have hx : s.extract 0 (runL digC (c :: r)).length = ba (runL digC (c :: r)) := by rw [← hl]; exact ext_run digC s
  have hw0 : (runL digC (c :: r))[0]'ha1 = c := by simp only [runL_cons, if_pos hd]; rfl
  have hPl : (fracF ((c :: r).drop (runL digC (c :: r)).length)).length ≤ s.size := by
    by_cases h : (fracF ((c :: r).drop (runL digC (c :: r)).length)).length = 0
    · omega
    · have := fracF_le _ h
      rw [List.length_drop, List.length_cons] at this
      omega
  have hPd : ∀ x ∈ fracF ((c :: r).drop (runL digC (c :: r)).length), digC (x.toNat : Int) = true := by
    cases hq : (c :: r).drop (runL digC (c :: r)).length with
    | nil => intro x hx; cases hx
    | cons d q =>
      intro x hx
      rw [fracF_cons] at hx
      split at hx
      · exact runL_all digC q x hx
      · cases hx
  have hF : ∀ w, Calls Tryd.prog 43 #[.string (s.extract (runL digC (c :: r)).length s.size)] w fun e w' => e = .returned (.string (ba (fracF ((c :: r).drop (runL digC (c :: r)).length)))) ∧ w = w' := by
    intro w
    have h1 := fraction_F (s.extract (runL digC (c :: r)).length s.size) w (extract_le _ _ _ _ hs)
    rw [ext_from, hl] at h1
    exact h1
  have hcat : (s.extract 0 (runL digC (c :: r)).length ++ ba (fracF ((c :: r).drop (runL digC (c :: r)).length))).data.toList = runL digC (c :: r) ++ fracF ((c :: r).drop (runL digC (c :: r)).length) := by
    rw [list_append, hx, ba_list, ba_list]
  have hlc : (s.extract 0 (runL digC (c :: r)).length ++ ba (fracF ((c :: r).drop (runL digC (c :: r)).length))).size ≤ 281474976710656 := by
    have hal2 : (runL digC (c :: r)).length ≤ r.length + 1 := hal
    have e := congrArg List.length hcat
    rw [list_size, List.length_append] at e
    omega
  have hsz : (s.extract 0 (runL digC (c :: r)).length).size = (runL digC (c :: r)).length := by rw [hx, ba_size]
  have ha : 0 < (s.extract 0 (runL digC (c :: r)).length).size := by omega
  have hsc : (s.extract 0 (runL digC (c :: r)).length)[0] = c := by
    rw [← get_list _ 0 ha]
    simp only [hx, ba_list]
    exact hw0
  have hne : runL digC (c :: r) ++ fracF ((c :: r).drop (runL digC (c :: r)).length) ≠ [] := by
    intro h
    have := congrArg List.length h
    rw [List.length_append, List.length_nil] at this
    omega
  have hpd := parse_digits _ hne (fun x hx => by
    rcases List.mem_append.1 hx with h | h
    · exact hdall x h
    · exact hPd x h)
  rw [← hcat] at hpd
  have num := num_of c r
  rw [← hcat] at num
  have hPs : (ba (fracF ((c :: r).drop (runL digC (c :: r)).length))).size ≤ 281474976710656 := by rw [ba_size]; omega
  have hPz := ba_size (fracF ((c :: r).drop (runL digC (c :: r)).length))
  have hP0 : (fracF ((c :: r).drop (runL digC (c :: r)).length)).length = 0 → ba (fracF ((c :: r).drop (runL digC (c :: r)).length)) = ⟨#[]⟩ := fun h => by rw [List.length_eq_zero_iff.1 h]; rfl
  unfold GivesTok
  clear hcat hne hdall hPd hx hw0
  generalize ba (fracF ((c :: r).drop (runL digC (c :: r)).length)) = P at *
  generalize (fracF ((c :: r).drop (runL digC (c :: r)).length)).length = np at *
  generalize (runL digC (c :: r)).length = a at *
  generalize numF (c :: r) = X at *
  by_cases hD : digV (s.extract 0 a ++ P).data.toList < 9223372036854775808
  · rw [if_pos hD] at hpd
    have hP : ∀ w1, Below w.heap.size w w1 → Calls Tryd.prog 44 #[.string (s.extract 0 a ++ P), .int .i64 10, .int .i64 64] w1 fun e w' => e = .returned (.tuple #[.int .i64 (digV (s.extract 0 a ++ P).data.toList : Int), .nilIface]) ∧ Below w1.heap.size w1 w' := by
      intro w1 hb
      refine (Tryd.strconv_ParseInt_10_at64_ok _ (by omega) _ hpd w1).mono ?_
      rintro e w' ⟨rfl, rfl | ⟨t, rfl⟩⟩
      · exact ⟨rfl, Below.refl _ _⟩
      · exact ⟨rfl, Go.Joins.below_bytesWorld _ _ _ _ (Nat.le_refl _)⟩
    have fin : ∀ (e : Ending) (w' : World), (∃ t n, e = .returned (.tuple #[t, .int .i64 n]) ∧ NumIs (((s.extract 0 a)[0]'ha).toNat : Int) a P (digV (s.extract 0 a ++ P).data.toList : Int) true t n ∧ Below w.heap.size w w') → e = .returned (.tuple #[tokA X.1 0, .int .i64 (X.2 : Int)]) ∧ Below w.heap.size w w' := by
      rintro e w' ⟨t, n, rfl, h, hb⟩
      rw [hsc] at h
      obtain ⟨rfl, rfl⟩ := num t n true (decide_eq_true hD).symm _ (fun _ => rfl) h
      exact ⟨rfl, hb⟩
    by_cases hc48 : c = 48
    · subst hc48
      by_cases h1 : 1 < a
      · exact (number_lead s a _ P w hs hr ha hPs hsc h1 hF hP).mono fin
      · have h1 : a = 1 := by omega
        by_cases hp : np = 0
        · obtain rfl := hP0 hp
          exact (number_int_b s a _ w hs hr ha hPs hsc h1 hF hP).mono fin
        · by_cases h15 : 15 < a + P.size
          · exact (number_long_b s a _ P w hs hr ha hPs hsc h1 (by omega) h15 hF hP).mono fin
          · exact (number_real_b s a _ P w hs hr ha hPs hsc h1 (by omega) (by omega) hF hP).mono fin
    · have hn : (s.extract 0 a)[0] ≠ 48 := by rw [hsc]; exact hc48
      by_cases hp : np = 0
      · obtain rfl := hP0 hp
        exact (number_int_a s a _ w hs hr ha hPs hn hF hP).mono fin
      · by_cases h15 : 15 < a + P.size
        · exact (number_long_a s a _ P w hs hr ha hPs hn (by omega) h15 hF hP).mono fin
        · exact (number_real_a s a _ P w hs hr ha hPs hn (by omega) (by omega) hF hP).mono fin
  · rw [if_neg hD] at hpd
    refine (number_bad s a (c.toNat : Int) (Lib.intSat 64 (s.extract 0 a ++ P).data.toList) P w hs hr (by omega) hPs hF ?_).mono ?_
    · intro w1 hb
      obtain ⟨ev, h1, h2⟩ := hE.later hb
      refine (Tryd.strconv_ParseInt_10_at64_range _ hlc hpd ev w1 h1 h2).mono ?_
      rintro e w' ⟨N, rfl, _, _, hb2⟩
      exact ⟨N, rfl, hb2⟩
    · rintro e w' ⟨t, n, rfl, h, hb⟩
      obtain ⟨rfl, rfl⟩ := num t n false (decide_eq_false hD).symm _ (fun h => by cases h) h
      exact ⟨rfl, hb⟩

set_option maxHeartbeats 8000000 in
set_option maxRecDepth 100000 in
theorem first_word (s : ByteArray) (w : World) (hs : s.size ≤ 4000) (h0 : 0 < s.size) (hA : letC ((s[0]'h0).toNat : Int) = true) (X : Tok × Nat)
    (CW : ∀ u, Below w.heap.size w u → Calls Tryd.prog 25 #[.string s] u (GivesTok s X u)) :
    Calls Tryd.prog 17 #[.string s] w (GivesTok s X w) := by
  have i0 : (0 : Int) < (s.size : Int) := by omega
  have hu := m1 w (.cells #[.int .i64 0, .string ⟨#[]⟩, .int .i64 0, .int .i64 0, .int .i64 0] 33)
  have hT := Lib.hid (TokZ.made w)
  obtain ⟨⟨k, t, n, sc⟩, ln⟩ := X
  unfold GivesTok
  go_enter Tryd.func17, Tryd.ntmps17
  go_upto_region 1 with (fail)
  generalize w.alloc (.cells #[.int .i64 0, .string ⟨#[]⟩, .int .i64 0, .int .i64 0, .int .i64 0] 33) = u at *
  replace CW := Lib.hid (CW u hu)
  have CA := lletter_any ((s[0]'h0).toNat : Int) u
  rw [hA] at CA
  replace CA := Lib.hid CA
  clear hA
  go_wp2_with (first | (go_at_call 24; refine (CA.out).mono ?_; rintro e w3 ⟨rfl, rfl⟩) | (go_at_call 25; refine (CW.out).mono ?_; rintro e w3 ⟨rfl, hb3⟩; obtain ⟨c0, c1, c2, c3, c4, f0, f1, f2, f3, f4⟩ := hT.out.later hb3; have g1 := mblock c0; have hB3 := mmore hu hb3; simp only [tokA, tokV]))
  obtain ⟨q0, q1, q2, q3, q4⟩ := five_cells (.int .i64 k) (.string (ba t)) (.int .i64 n) (.int .i64 sc) (.int .i64 0) c0 c1 c2 c3 c4
  have B2 := (((((hB3.setCell (p := ⟨w.heap.size, 0, none⟩) (Nat.le_refl _) (.int .i64 k)).setCell (p := ⟨w.heap.size, 1, none⟩) (Nat.le_refl _) (.string (ba t))).setCell (p := ⟨w.heap.size, 2, none⟩) (Nat.le_refl _) (.int .i64 n)).setCell (p := ⟨w.heap.size, 3, none⟩) (Nat.le_refl _) (.int .i64 sc)).setCell (p := ⟨w.heap.size, 4, none⟩) (Nat.le_refl _) (.int .i64 0))
  clear c0 c1 c2 c3 c4 f0 f1 f2 f3 f4
  generalize (((((w3.setCell ⟨w.heap.size, 0, none⟩ (.int .i64 k)).setCell ⟨w.heap.size, 1, none⟩ (.string (ba t))).setCell ⟨w.heap.size, 2, none⟩ (.int .i64 n)).setCell ⟨w.heap.size, 3, none⟩ (.int .i64 sc)).setCell ⟨w.heap.size, 4, none⟩ (.int .i64 0)) = wz at *
  exact bodyPost_ret (v := .tuple #[.agg #[.int .i64 k, .string (ba t), .int .i64 n, .int .i64 sc, .int .i64 0], .int .i64 (ln : Int)]) (by simp [results, Tryd.results17, go_sem, q0, q1, q2, q3, q4]) rfl ⟨rfl, B2⟩

set_option maxHeartbeats 8000000 in
set_option maxRecDepth 100000 in
theorem first_number (s : ByteArray) (w : World) (hs : s.size ≤ 4000) (h0 : 0 < s.size) (hA : letC ((s[0]'h0).toNat : Int) = false) (hD : digC ((s[0]'h0).toNat : Int) = true) (X : Tok × Nat)
    (CW : ∀ u, Below w.heap.size w u → Calls Tryd.prog 27 #[.string s] u (GivesTok s X u)) :
    Calls Tryd.prog 17 #[.string s] w (GivesTok s X w) := by
  have i0 : (0 : Int) < (s.size : Int) := by omega
  have hu := m1 w (.cells #[.int .i64 0, .string ⟨#[]⟩, .int .i64 0, .int .i64 0, .int .i64 0] 33)
  have hT := Lib.hid (TokZ.made w)
  obtain ⟨⟨k, t, n, sc⟩, ln⟩ := X
  unfold GivesTok
  go_enter Tryd.func17, Tryd.ntmps17
  go_upto_region 1 with (fail)
  generalize w.alloc (.cells #[.int .i64 0, .string ⟨#[]⟩, .int .i64 0, .int .i64 0, .int .i64 0] 33) = u at *
  replace CW := Lib.hid (CW u hu)
  have CA := lletter_any ((s[0]'h0).toNat : Int) u
  rw [hA] at CA
  replace CA := Lib.hid CA
  clear hA
  have CD := ldigit_any ((s[0]'h0).toNat : Int) u
  rw [hD] at CD
  replace CD := Lib.hid CD
  clear hD
  go_wp2_with (first | (go_at_call 24; refine (CA.out).mono ?_; rintro e w3 ⟨rfl, rfl⟩) | (go_at_call 26; refine (CD.out).mono ?_; rintro e w3 ⟨rfl, rfl⟩) | (go_at_call 27; refine (CW.out).mono ?_; rintro e w3 ⟨rfl, hb3⟩; obtain ⟨c0, c1, c2, c3, c4, f0, f1, f2, f3, f4⟩ := hT.out.later hb3; have g1 := mblock c0; have hB3 := mmore hu hb3; simp only [tokA, tokV]))
  obtain ⟨q0, q1, q2, q3, q4⟩ := five_cells (.int .i64 k) (.string (ba t)) (.int .i64 n) (.int .i64 sc) (.int .i64 0) c0 c1 c2 c3 c4
  have B2 := (((((hB3.setCell (p := ⟨w.heap.size, 0, none⟩) (Nat.le_refl _) (.int .i64 k)).setCell (p := ⟨w.heap.size, 1, none⟩) (Nat.le_refl _) (.string (ba t))).setCell (p := ⟨w.heap.size, 2, none⟩) (Nat.le_refl _) (.int .i64 n)).setCell (p := ⟨w.heap.size, 3, none⟩) (Nat.le_refl _) (.int .i64 sc)).setCell (p := ⟨w.heap.size, 4, none⟩) (Nat.le_refl _) (.int .i64 0))
  clear c0 c1 c2 c3 c4 f0 f1 f2 f3 f4
  generalize (((((w3.setCell ⟨w.heap.size, 0, none⟩ (.int .i64 k)).setCell ⟨w.heap.size, 1, none⟩ (.string (ba t))).setCell ⟨w.heap.size, 2, none⟩ (.int .i64 n)).setCell ⟨w.heap.size, 3, none⟩ (.int .i64 sc)).setCell ⟨w.heap.size, 4, none⟩ (.int .i64 0)) = wz at *
  exact bodyPost_ret (v := .tuple #[.agg #[.int .i64 k, .string (ba t), .int .i64 n, .int .i64 sc, .int .i64 0], .int .i64 (ln : Int)]) (by simp [results, Tryd.results17, go_sem, q0, q1, q2, q3, q4]) rfl ⟨rfl, B2⟩

set_option maxHeartbeats 8000000 in
set_option maxRecDepth 100000 in
theorem first_symbol (s : ByteArray) (w : World) (hs : s.size ≤ 4000) (h0 : 0 < s.size) (hA : letC ((s[0]'h0).toNat : Int) = false) (hD : digC ((s[0]'h0).toNat : Int) = false) (q39 : (((s[0]'h0).toNat : Int) == 39) = true) (X : Tok × Nat)
    (CW : ∀ u, Below w.heap.size w u → Calls Tryd.prog 28 #[.string s] u (GivesTok s X u)) :
    Calls Tryd.prog 17 #[.string s] w (GivesTok s X w) := by
  have i0 : (0 : Int) < (s.size : Int) := by omega
  have hu := m1 w (.cells #[.int .i64 0, .string ⟨#[]⟩, .int .i64 0, .int .i64 0, .int .i64 0] 33)
  have hT := Lib.hid (TokZ.made w)
  obtain ⟨⟨k, t, n, sc⟩, ln⟩ := X
  unfold GivesTok
  go_enter Tryd.func17, Tryd.ntmps17
  go_upto_region 1 with (fail)
  generalize w.alloc (.cells #[.int .i64 0, .string ⟨#[]⟩, .int .i64 0, .int .i64 0, .int .i64 0] 33) = u at *
  replace CW := Lib.hid CW
  replace hu := Lib.hid hu
  have CA := lletter_any ((s[0]'h0).toNat : Int) u
  rw [hA] at CA
  replace CA := Lib.hid CA
  clear hA
  have CD := ldigit_any ((s[0]'h0).toNat : Int) u
  rw [hD] at CD
  replace CD := Lib.hid CD
  clear hD
  have q39' : (((s[0]'h0).toNat : Int) == ((((⟨#[39]⟩ : ByteArray)[0]'(by decide)).toNat : Nat) : Int)) = true := q39
  clear q39
  go_upto_region 5 with (first | (go_at_call 24; refine (CA.out).mono ?_; rintro e w3 ⟨rfl, rfl⟩) | (go_at_call 26; refine (CD.out).mono ?_; rintro e w3 ⟨rfl, rfl⟩))
  go_quiet (fail)
  have hu := Lib.hid (Go.below_drewN hu.out nq)
  have hT := Lib.hid (show TokZ (u.drewN nq) w.heap.size from hT.out)
  have CW := Lib.hid (CW.out _ hu.out)
  have hu := hu.out
  generalize u.drewN nq = u2 at *
  go_wp2_with (first | (go_at_call 24; refine (CA.out).mono ?_; rintro e w3 ⟨rfl, rfl⟩) | (go_at_call 26; refine (CD.out).mono ?_; rintro e w3 ⟨rfl, rfl⟩) | (go_at_call 28; refine (CW.out).mono ?_; rintro e w3 ⟨rfl, hb3⟩; obtain ⟨c0, c1, c2, c3, c4, f0, f1, f2, f3, f4⟩ := hT.out.later hb3; have g1 := mblock c0; have hB3 := mmore hu hb3; simp only [tokA, tokV]))
  obtain ⟨q0, q1, q2, q3, q4⟩ := five_cells (.int .i64 k) (.string (ba t)) (.int .i64 n) (.int .i64 sc) (.int .i64 0) c0 c1 c2 c3 c4
  have B2 := (((((hB3.setCell (p := ⟨w.heap.size, 0, none⟩) (Nat.le_refl _) (.int .i64 k)).setCell (p := ⟨w.heap.size, 1, none⟩) (Nat.le_refl _) (.string (ba t))).setCell (p := ⟨w.heap.size, 2, none⟩) (Nat.le_refl _) (.int .i64 n)).setCell (p := ⟨w.heap.size, 3, none⟩) (Nat.le_refl _) (.int .i64 sc)).setCell (p := ⟨w.heap.size, 4, none⟩) (Nat.le_refl _) (.int .i64 0))
  clear c0 c1 c2 c3 c4 f0 f1 f2 f3 f4
  generalize (((((w3.setCell ⟨w.heap.size, 0, none⟩ (.int .i64 k)).setCell ⟨w.heap.size, 1, none⟩ (.string (ba t))).setCell ⟨w.heap.size, 2, none⟩ (.int .i64 n)).setCell ⟨w.heap.size, 3, none⟩ (.int .i64 sc)).setCell ⟨w.heap.size, 4, none⟩ (.int .i64 0)) = wz at *
  exact bodyPost_ret (v := .tuple #[.agg #[.int .i64 k, .string (ba t), .int .i64 n, .int .i64 sc, .int .i64 0], .int .i64 (ln : Int)]) (by simp [results, Tryd.results17, go_sem, q0, q1, q2, q3, q4]) rfl ⟨rfl, B2⟩

set_option maxHeartbeats 8000000 in
set_option maxRecDepth 100000 in
theorem first_sign (s : ByteArray) (w : World) (hs : s.size ≤ 4000) (h0 : 0 < s.size) (hA : letC ((s[0]'h0).toNat : Int) = false) (hD : digC ((s[0]'h0).toNat : Int) = false) (q39 : (((s[0]'h0).toNat : Int) == 39) = false) (X : Tok × Nat)
    (CW : ∀ u, Below w.heap.size w u → Calls Tryd.prog 29 #[.string s] u (GivesTok s X u)) :
    Calls Tryd.prog 17 #[.string s] w (GivesTok s X w) := by
  have i0 : (0 : Int) < (s.size : Int) := by omega
  have hu := m1 w (.cells #[.int .i64 0, .string ⟨#[]⟩, .int .i64 0, .int .i64 0, .int .i64 0] 33)
  have hT := Lib.hid (TokZ.made w)
  obtain ⟨⟨k, t, n, sc⟩, ln⟩ := X
  unfold GivesTok
  go_enter Tryd.func17, Tryd.ntmps17
  go_upto_region 1 with (fail)
  generalize w.alloc (.cells #[.int .i64 0, .string ⟨#[]⟩, .int .i64 0, .int .i64 0, .int .i64 0] 33) = u at *
  replace CW := Lib.hid CW
  replace hu := Lib.hid hu
  have CA := lletter_any ((s[0]'h0).toNat : Int) u
  rw [hA] at CA
  replace CA := Lib.hid CA
  clear hA
  have CD := ldigit_any ((s[0]'h0).toNat : Int) u
  rw [hD] at CD
  replace CD := Lib.hid CD
  clear hD
  have q39' : (((s[0]'h0).toNat : Int) == ((((⟨#[39]⟩ : ByteArray)[0]'(by decide)).toNat : Nat) : Int)) = false := q39
  clear q39
  go_upto_region 5 with (first | (go_at_call 24; refine (CA.out).mono ?_; rintro e w3 ⟨rfl, rfl⟩) | (go_at_call 26; refine (CD.out).mono ?_; rintro e w3 ⟨rfl, rfl⟩))
  go_quiet (fail)
  have hu := Lib.hid (Go.below_drewN hu.out nq)
  have hT := Lib.hid (show TokZ (u.drewN nq) w.heap.size from hT.out)
  have CW := Lib.hid (CW.out _ hu.out)
  have hu := hu.out
  generalize u.drewN nq = u2 at *
  go_wp2_with (first | (go_at_call 24; refine (CA.out).mono ?_; rintro e w3 ⟨rfl, rfl⟩) | (go_at_call 26; refine (CD.out).mono ?_; rintro e w3 ⟨rfl, rfl⟩) | (go_at_call 29; refine (CW.out).mono ?_; rintro e w3 ⟨rfl, hb3⟩; obtain ⟨c0, c1, c2, c3, c4, f0, f1, f2, f3, f4⟩ := hT.out.later hb3; have g1 := mblock c0; have hB3 := mmore hu hb3; simp only [tokA, tokV]))
  obtain ⟨q0, q1, q2, q3, q4⟩ := five_cells (.int .i64 k) (.string (ba t)) (.int .i64 n) (.int .i64 sc) (.int .i64 0) c0 c1 c2 c3 c4
  have B2 := (((((hB3.setCell (p := ⟨w.heap.size, 0, none⟩) (Nat.le_refl _) (.int .i64 k)).setCell (p := ⟨w.heap.size, 1, none⟩) (Nat.le_refl _) (.string (ba t))).setCell (p := ⟨w.heap.size, 2, none⟩) (Nat.le_refl _) (.int .i64 n)).setCell (p := ⟨w.heap.size, 3, none⟩) (Nat.le_refl _) (.int .i64 sc)).setCell (p := ⟨w.heap.size, 4, none⟩) (Nat.le_refl _) (.int .i64 0))
  clear c0 c1 c2 c3 c4 f0 f1 f2 f3 f4
  generalize (((((w3.setCell ⟨w.heap.size, 0, none⟩ (.int .i64 k)).setCell ⟨w.heap.size, 1, none⟩ (.string (ba t))).setCell ⟨w.heap.size, 2, none⟩ (.int .i64 n)).setCell ⟨w.heap.size, 3, none⟩ (.int .i64 sc)).setCell ⟨w.heap.size, 4, none⟩ (.int .i64 0)) = wz at *
  exact bodyPost_ret (v := .tuple #[.agg #[.int .i64 k, .string (ba t), .int .i64 n, .int .i64 sc, .int .i64 0], .int .i64 (ln : Int)]) (by simp [results, Tryd.results17, go_sem, q0, q1, q2, q3, q4]) rfl ⟨rfl, B2⟩

theorem first_F (s : ByteArray) (w : World) (hs : s.size ≤ 4000) (h0 : 0 < s.size) (hE : ErrCell w) :
    Calls Tryd.prog 17 #[.string s] w (GivesTok s (firstF s.data.toList) w) := by
  obtain ⟨c, r, hl⟩ : ∃ c r, s.data.toList = c :: r := by
    cases h : s.data.toList with
    | nil => have := list_size s; rw [h] at this; simp at this; omega
    | cons c r => exact ⟨c, r, rfl⟩
  have hc : ((s[0]'h0).toNat : Int) = (c.toNat : Int) := by
    rw [← get_list s 0 h0]
    simp only [hl]
    rfl
  have hs2 : s.size ≤ 281474976710656 := by omega
  rw [hl, firstF_cons]
  by_cases hA : letC (c.toNat : Int) = true
  · rw [if_pos hA]
    refine first_word s w hs h0 (by rw [hc]; exact hA) _ fun u hu => ?_
    have := word_F s u hs2
    rw [hl] at this
    exact this
  · rw [if_neg hA]
    have hA' : letC (c.toNat : Int) = false := by simpa using hA
    by_cases hD : digC (c.toNat : Int) = true
    · rw [if_pos hD]
      exact first_number s w hs h0 (by rw [hc]; exact hA') (by rw [hc]; exact hD) _ fun u hu => number_F s u c r hl hs hD (hE.later hu)
    · rw [if_neg hD]
      have hD' : digC (c.toNat : Int) = false := by simpa using hD
      by_cases hQ : c.toNat = 39
      · rw [if_pos hQ]
        refine first_symbol s w hs h0 (by rw [hc]; exact hA') (by rw [hc]; exact hD') (by rw [hc]; simp; omega) _ fun u hu => ?_
        have := symbol_F s u hs2 h0
        rw [hl] at this
        exact this
      · rw [if_neg hQ]
        exact first_sign s w hs h0 (by rw [hc]; exact hA') (by rw [hc]; exact hD') (by rw [hc]; simp; omega) _ fun u hu => sign_F s u c r hl hs2
end Go.Proofs.YteojcohmocbakaaDoor
