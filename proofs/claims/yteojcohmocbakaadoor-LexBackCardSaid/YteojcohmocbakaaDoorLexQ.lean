/- The document's number that stands at a place, as ONE contract in the words of lists. -/
import Derived.Test.YteojcohmocbakaaDoorLexO
namespace Go.Proofs.YteojcohmocbakaaDoor
open Go.ChangeShapes Go.WideShapes Go.ChangeAt Go.RowKit
set_option linter.unusedVariables false
set_option linter.unusedSimpArgs false

theorem drop_cons (s : ByteArray) (a : Nat) (h : a < s.size) : s.data.toList.drop a = s[a] :: s.data.toList.drop (a + 1) := by
  rw [List.drop_eq_getElem_cons (by rw [list_size]; exact h), get_list s a h]
theorem many_F (s : ByteArray) (a : Nat) (w : World) (hs : s.size ≤ 4000) (ha : a ≤ s.size) :
    Calls Tryd.prog 31 #[.string s, .int .i64 (a : Int), .bool false] w fun e w' => e = .returned (.int .i64 ((runL digC (s.data.toList.drop a)).length : Int)) ∧ w = w' :=
  many_digits s a _ w (by omega) (run_at digC s a ha)
theorem rnumber_F (s : ByteArray) (a : Nat) (w : World) (hs : s.size ≤ 4000) (ha : a < s.size) (hc : digC ((s[a]'ha).toNat : Int) = true) :
    Calls Tryd.prog 35 #[.string s, .int .i64 (a : Int)] w (GivesTok s (numF (s.data.toList.drop a)) w) := by
  have hl := drop_cons s a ha
  have hdoc := numF_doc (s[a]) (s.data.toList.drop (a + 1)) hc
  rw [← hl] at hdoc
  have hn0 : 0 < (runL digC (s.data.toList.drop a)).length := by rw [hl, runL_cons, if_pos hc]; simp
  have hnl := runL_le digC (s.data.toList.drop a)
  rw [List.length_drop, list_size] at hnl
  have hWd := runL_all digC (s.data.toList.drop a)
  have CM := fun w => many_F s a w hs (by omega)
  have hdl : (s.extract a (a + (runL digC (s.data.toList.drop a)).length)).data.toList = runL digC (s.data.toList.drop a) := by
    rw [ext_list, Nat.add_sub_cancel_left, runL_take]
  have hh : (runL digC (s.data.toList.drop a)).headD 0 = s[a] := by rw [hl, runL_cons, if_pos hc]; rfl
  rw [hdoc]
  rw [List.drop_drop]
  clear hdoc
  generalize hWe : runL digC (s.data.toList.drop a) = W at *
  obtain ⟨b, hb⟩ : ∃ b, b = a + W.length := ⟨_, rfl⟩
  rw [← hb] at hdl ⊢
  have hbs : b ≤ s.size := by omega
  obtain ⟨d, hd⟩ : ∃ d, s.extract a b = d := ⟨_, rfl⟩
  rw [hd] at hdl
  have hdz : d.size = W.length := by rw [← list_size, hdl]
  have hx0 : 0 < d.size := by omega
  have hd0 : ((d[0]'hx0).toNat : Int) = ((s[a]'ha).toNat : Int) := by
    rw [← hh, ← get_list d 0 hx0]
    simp only [hdl]
    cases W with
    | nil => simp at hn0
    | cons x W => rfl
  have hdd : ∀ x ∈ d.data.toList, digC (x.toNat : Int) = true := by rw [hdl]; exact hWd
  have h48 : ((d[0]'hx0).toNat : Int) = 48 ↔ (s[a]'ha).toNat = 48 := by rw [hd0]; omega
  have hlead : (d.data.toList.headD 0).toNat = 48 → ¬ (1 < W.length ∧ (s[a]'ha).toNat = 48) → d.data.toList.length = 1 := by
    intro h1 h2
    rw [hdl, hh] at h1
    rw [hdl]
    have : ¬ 1 < W.length := fun h => h2 ⟨h, h1⟩
    omega
  have num_ok := fun h19 hz hD w => rnumber_ok d w hx0 h19 hdd hz hD
  have num_no := fun h19 hD w => rnumber_no d w hx0 h19 hdd hD
  rw [hdl] at num_ok num_no
  -- the fraction
  have hfr : fracF (s.data.toList.drop b) = [] ∧ (∀ (hb2 : b < s.size), (((s[b]'hb2).toNat : Int) == 46) = false) ∨
      ∃ (hb2 : b < s.size), (((s[b]'hb2).toNat : Int) == 46) = true ∧ fracF (s.data.toList.drop b) = runL digC (s.data.toList.drop (b + 1)) := by
    by_cases hb2 : b < s.size
    · rw [drop_cons s b hb2, fracF_cons]
      by_cases h46 : (s[b]'hb2).toNat = 46
      · right
        exact ⟨hb2, by rw [h46]; rfl, by rw [if_pos h46]⟩
      · left
        exact ⟨by rw [if_neg h46], fun _ => by simp; omega⟩
    · left
      exact ⟨by rw [List.drop_eq_nil_of_le (by rw [list_size]; omega)]; rfl, fun h => absurd h hb2⟩
  unfold GivesTok
  have none_ : ∀ (e : Ending) (w' : World), (e = .returned (.tuple #[.agg #[.int .i64 0, .string ⟨#[]⟩, .int .i64 0, .int .i64 0, .int .i64 0], .int .i64 0]) ∧ Below w.heap.size w w') → (e = .returned (.tuple #[tokA tokNo.1 0, .int .i64 (tokNo.2 : Int)]) ∧ Below w.heap.size w w') := fun e w' h => h
  have int_ : ∀ (e : Ending) (w' : World), (e = .returned (.tuple #[.agg #[.int .i64 3, .string ⟨#[]⟩, .int .i64 (digV W : Int), .int .i64 0, .int .i64 0], .int .i64 (W.length : Int)]) ∧ Below w.heap.size w w') → (e = .returned (.tuple #[tokA (⟨3, [], (digV W : Int), 0⟩ : Tok) 0, .int .i64 (W.length : Int)]) ∧ Below w.heap.size w w') := fun e w' h => h
  have c48 : 1 < W.length → (s[a]'ha).toNat = 48 → ((d[0]'hx0).toNat : Int) = 48 := fun _ h => h48.2 h
  have n48 : ¬ (s[a]'ha).toNat = 48 → ¬ ((d[0]'hx0).toNat : Int) = 48 := fun h h2 => h (h48.1 h2)
  rcases hfr with ⟨hP, hno⟩ | ⟨hb2, h46, hP⟩
  · rw [hP, List.length_nil]
    by_cases h1 : 1 < W.length ∧ (s[a]'ha).toNat = 48
    · rw [if_pos (.inl h1)]
      by_cases hb2 : b < s.size
      · exact (rn_p1_z s a W.length b w hs hb hbs hn0 d hd hx0 CM hb2 (hno hb2) h1.1 (c48 h1.1 h1.2)).mono none_
      · exact (rn_p0_z s a W.length b w hs hb hbs hn0 d hd hx0 CM hb2 h1.1 (c48 h1.1 h1.2)).mono none_
    · by_cases h19 : 19 < W.length
      · have hc48 : ¬ (s[a]'ha).toNat = 48 := fun h => h1 ⟨by omega, h⟩
        rw [if_pos (.inr (.inl ⟨rfl, h19⟩))]
        by_cases hb2 : b < s.size
        · exact (rn_p1_l s a W.length b w hs hb hbs hn0 d hd hx0 CM hb2 (hno hb2) (by omega) (n48 hc48) h19).mono none_
        · exact (rn_p0_l s a W.length b w hs hb hbs hn0 d hd hx0 CM hb2 (by omega) (n48 hc48) h19).mono none_
      · rw [if_neg (c := (1 < W.length ∧ (s[a]'ha).toNat = 48) ∨ _) (by rintro (h | h | h); exact h1 h; exact h19 h.2; exact absurd h.1 (by simp)), if_pos rfl]
        by_cases hD : digV W < 9223372036854775808
        · rw [if_pos hD]
          have CN := num_ok (by omega) (fun h => by rw [← hdl]; exact hlead (by rw [hdl]; exact h) h1) hD
          by_cases hw1 : 1 < W.length
          · have hc48 : ¬ (s[a]'ha).toNat = 48 := fun h => h1 ⟨hw1, h⟩
            by_cases hb2 : b < s.size
            · exact (rn_p1_ia s a W.length b w hs hb hbs hn0 d hd hx0 CM hb2 (hno hb2) hw1 (n48 hc48) h19 _ CN).mono int_
            · exact (rn_p0_ia s a W.length b w hs hb hbs hn0 d hd hx0 CM hb2 hw1 (n48 hc48) h19 _ CN).mono int_
          · by_cases hb2 : b < s.size
            · exact (rn_p1_ib s a W.length b w hs hb hbs hn0 d hd hx0 CM hb2 (hno hb2) hw1 h19 _ CN).mono int_
            · exact (rn_p0_ib s a W.length b w hs hb hbs hn0 d hd hx0 CM hb2 hw1 h19 _ CN).mono int_
        · rw [if_neg hD]
          have CN := num_no (by omega) hD
          by_cases hw1 : 1 < W.length
          · have hc48 : ¬ (s[a]'ha).toNat = 48 := fun h => h1 ⟨hw1, h⟩
            by_cases hb2 : b < s.size
            · exact (rn_p1_na s a W.length b w hs hb hbs hn0 d hd hx0 CM hb2 (hno hb2) hw1 (n48 hc48) h19 CN).mono none_
            · exact (rn_p0_na s a W.length b w hs hb hbs hn0 d hd hx0 CM hb2 hw1 (n48 hc48) h19 CN).mono none_
          · by_cases hb2 : b < s.size
            · exact (rn_p1_nb s a W.length b w hs hb hbs hn0 d hd hx0 CM hb2 (hno hb2) hw1 h19 CN).mono none_
            · exact (rn_p0_nb s a W.length b w hs hb hbs hn0 d hd hx0 CM hb2 hw1 h19 CN).mono none_
  · have CM2 := fun w => many_F s (b + 1) w hs (by omega)
    have hPd := runL_all digC (s.data.toList.drop (b + 1))
    have hPl := runL_le digC (s.data.toList.drop (b + 1))
    have hPx : (s.extract (b + 1) (b + 1 + (runL digC (s.data.toList.drop (b + 1))).length)).data.toList = runL digC (s.data.toList.drop (b + 1)) := by
      rw [ext_list, Nat.add_sub_cancel_left, runL_take]
    rw [List.length_drop, list_size] at hPl
    rw [hP]
    generalize runL digC (s.data.toList.drop (b + 1)) = P at *
    by_cases hm : P.length = 0
    · obtain rfl := List.length_eq_zero_iff.1 hm
      have CM2 : ∀ w, Calls Tryd.prog 31 #[.string s, .int .i64 ((b + 1 : Nat) : Int), .bool false] w fun e w' => e = .returned (.int .i64 0) ∧ w = w' := CM2
      rw [List.length_nil]
      by_cases h1 : 1 < W.length ∧ (s[a]'ha).toNat = 48
      · rw [if_pos (.inl h1)]
        exact (rn_p2_z s a W.length b w hs hb hbs hn0 d hd hx0 CM hb2 h46 CM2 h1.1 (c48 h1.1 h1.2)).mono none_
      · by_cases h19 : 19 < W.length
        · have hc48 : ¬ (s[a]'ha).toNat = 48 := fun h => h1 ⟨by omega, h⟩
          rw [if_pos (.inr (.inl ⟨rfl, h19⟩))]
          exact (rn_p2_l s a W.length b w hs hb hbs hn0 d hd hx0 CM hb2 h46 CM2 (by omega) (n48 hc48) h19).mono none_
        · rw [if_neg (c := (1 < W.length ∧ (s[a]'ha).toNat = 48) ∨ _) (by rintro (h | h | h); exact h1 h; exact h19 h.2; exact absurd h.1 (by simp)), if_pos rfl]
          by_cases hD : digV W < 9223372036854775808
          · rw [if_pos hD]
            have CN := num_ok (by omega) (fun h => by rw [← hdl]; exact hlead (by rw [hdl]; exact h) h1) hD
            by_cases hw1 : 1 < W.length
            · have hc48 : ¬ (s[a]'ha).toNat = 48 := fun h => h1 ⟨hw1, h⟩
              exact (rn_p2_ia s a W.length b w hs hb hbs hn0 d hd hx0 CM hb2 h46 CM2 hw1 (n48 hc48) h19 _ CN).mono int_
            · exact (rn_p2_ib s a W.length b w hs hb hbs hn0 d hd hx0 CM hb2 h46 CM2 hw1 h19 _ CN).mono int_
          · rw [if_neg hD]
            have CN := num_no (by omega) hD
            by_cases hw1 : 1 < W.length
            · have hc48 : ¬ (s[a]'ha).toNat = 48 := fun h => h1 ⟨hw1, h⟩
              exact (rn_p2_na s a W.length b w hs hb hbs hn0 d hd hx0 CM hb2 h46 CM2 hw1 (n48 hc48) h19 CN).mono none_
            · exact (rn_p2_nb s a W.length b w hs hb hbs hn0 d hd hx0 CM hb2 h46 CM2 hw1 h19 CN).mono none_
    · by_cases h1 : 1 < W.length ∧ (s[a]'ha).toNat = 48
      · rw [if_pos (.inl h1)]
        exact (rn_p3_z s a W.length b w hs hb hbs hn0 d hd hx0 CM P.length (by omega) (by omega) hb2 h46 CM2 h1.1 (c48 h1.1 h1.2)).mono none_
      · by_cases h15 : 15 < W.length + P.length
        · rw [if_pos (.inr (.inr ⟨by omega, h15⟩))]
          by_cases hw1 : 1 < W.length
          · have hc48 : ¬ (s[a]'ha).toNat = 48 := fun h => h1 ⟨hw1, h⟩
            exact (rn_p3_la s a W.length b w hs hb hbs hn0 d hd hx0 CM P.length (by omega) (by omega) hb2 h46 CM2 hw1 (n48 hc48) h15).mono none_
          · exact (rn_p3_lb s a W.length b w hs hb hbs hn0 d hd hx0 CM P.length (by omega) (by omega) hb2 h46 CM2 hw1 h15).mono none_
        · rw [if_neg (c := (1 < W.length ∧ (s[a]'ha).toNat = 48) ∨ _) (by rintro (h | h | h); exact h1 h; exact hm h.1; exact h15 h.2), if_neg hm]
          have hdig : ∀ x ∈ d.data.toList ++ (s.extract (b + 1) (b + 1 + P.length)).data.toList, digC (x.toNat : Int) = true := by
            rw [hPx, hdl]
            intro x hx
            rcases List.mem_append.1 hx with h | h
            · exact hWd x h
            · exact hPd x h
          have hvv : (digV (d.data.toList ++ (s.extract (b + 1) (b + 1 + P.length)).data.toList) : Int) = (digV (W ++ P) : Int) := by rw [hPx, hdl]
          by_cases hw1 : 1 < W.length
          · have hc48 : ¬ (s[a]'ha).toNat = 48 := fun h => h1 ⟨hw1, h⟩
            exact rn_p3_ra s a W.length b w hs hb hbs hn0 d hd hx0 CM P.length (by omega) (by omega) hb2 h46 CM2 hw1 (n48 hc48) h15 hdig _ hvv
          · exact rn_p3_rb s a W.length b w hs hb hbs hn0 d hd hx0 CM P.length (by omega) (by omega) hb2 h46 CM2 hw1 h15 hdig _ hvv
end Go.Proofs.YteojcohmocbakaaDoor
