/- The document's token at a place, and its scan, as contracts in the words of lists. -/
import Derived.Test.YteojcohmocbakaaDoorLexU
namespace Go.Proofs.YteojcohmocbakaaDoor
open Go.ChangeShapes Go.WideShapes Go.ChangeAt Go.RowKit
set_option linter.unusedVariables false
set_option linter.unusedSimpArgs false

theorem ext_at (p : Int → Bool) (s : ByteArray) (a : Nat) : s.extract a (a + (runL p (s.data.toList.drop a)).length) = ba (runL p (s.data.toList.drop a)) := by
  rw [← ba_of (s.extract a _), ext_list, Nat.add_sub_cancel_left, runL_take]
theorem one_F (s : ByteArray) (a : Nat) (w : World) (hs : s.size ≤ 4000) (ha : a < s.size) :
    Calls Tryd.prog 18 #[.string s, .int .i64 (a : Int)] w (GivesTok s (firstF (s.data.toList.drop a)) w) := by
  have hl := drop_cons s a ha
  by_cases hA : letC ((s[a]'ha).toNat : Int) = true
  · have hf : firstF (s.data.toList.drop a) = wordF (s.data.toList.drop a) := by rw [hl, firstF_cons, if_pos hA]
    rw [hf]
    have hnl := runL_le okC (s.data.toList.drop a)
    rw [List.length_drop, list_size] at hnl
    have CM := fun w => many_names s a _ w (by omega) (run_at okC s a (by omega))
    have hd := ext_at okC s a
    have hz := ba_size (runL okC (s.data.toList.drop a))
    unfold wordF
    cases hW : wordB (ba (runL okC (s.data.toList.drop a)))
    · rw [if_neg (by simp)]
      by_cases hN : NameP (ba (runL okC (s.data.toList.drop a)))
      · rw [if_pos hN]
        exact one_name s a w hs ha hA _ _ rfl (by omega) _ hd CM hW hN
      · rw [if_neg hN]
        exact one_wnone s a w hs ha hA _ _ rfl (by omega) _ hd CM hW hN
    · rw [if_pos rfl]
      exact one_word s a w hs ha hA _ _ rfl (by omega) _ hd CM hW
  · have hA' : letC ((s[a]'ha).toNat : Int) = false := by simpa using hA
    by_cases hD : digC ((s[a]'ha).toNat : Int) = true
    · have hf : firstF (s.data.toList.drop a) = numF (s.data.toList.drop a) := by rw [hl, firstF_cons, if_neg hA, if_pos hD]
      rw [hf]
      exact one_digit s a w hs ha hA' hD _ _ _ _ _ (fun w => rnumber_F s a w hs ha hD)
    · have hD' : digC ((s[a]'ha).toNat : Int) = false := by simpa using hD
      by_cases hQ : ((s[a]'ha).toNat : Int) = 39
      · have hf : firstF (s.data.toList.drop a) = symF (s.data.toList.drop (a + 1)) := by rw [hl, firstF_cons, if_neg hA, if_neg hD, if_pos (by omega)]
        rw [hf]
        have hnl := runL_le okC (s.data.toList.drop (a + 1))
        rw [List.length_drop, list_size] at hnl
        have CM := fun w => many_names s (a + 1) _ w (by omega) (run_at okC s (a + 1) (by omega))
        have hd := ext_at okC s (a + 1)
        have hdr : (s.data.toList.drop (a + 1)).drop (runL okC (s.data.toList.drop (a + 1))).length = s.data.toList.drop (a + 1 + (runL okC (s.data.toList.drop (a + 1))).length) := List.drop_drop
        unfold symF
        rw [hdr]
        by_cases hN : NameP (ba (runL okC (s.data.toList.drop (a + 1))))
        · by_cases hb2 : a + 1 + (runL okC (s.data.toList.drop (a + 1))).length < s.size
          · rw [drop_cons s _ hb2, List.head?_cons]
            by_cases h39 : s[a + 1 + (runL okC (s.data.toList.drop (a + 1))).length]'hb2 = 39
            · rw [if_pos ⟨hN, by rw [h39]⟩]
              have := one_sym s a w hs ha hA' hD' hQ _ _ rfl (by omega) _ hd CM hN hb2 (by rw [h39]; rfl)
              refine this.mono fun e w' h => ?_
              refine ⟨h.1.trans ?_, h.2⟩
              show Ending.returned (.tuple #[_, .int .i64 _]) = Ending.returned (.tuple #[_, .int .i64 (((runL okC (s.data.toList.drop (a + 1))).length + 2 : Nat) : Int)])
              rw [Int.natCast_add]
              rfl
            · rw [if_neg (by rintro ⟨_, h⟩; injection h with h; exact h39 h)]
              have hne : (((s[a + 1 + (runL okC (s.data.toList.drop (a + 1))).length]'hb2).toNat : Int) != 39) = true := by
                have : (s[a + 1 + (runL okC (s.data.toList.drop (a + 1))).length]'hb2).toNat ≠ 39 := fun h => h39 (UInt8.toNat_inj.1 h)
                simp; omega
              exact one_sopen s a w hs ha hA' hD' hQ _ _ rfl (by omega) _ hd CM hN hb2 hne
          · rw [if_neg (by rintro ⟨_, h⟩; rw [List.drop_eq_nil_of_le (by rw [list_size]; omega)] at h; cases h)]
            exact one_send s a w hs ha hA' hD' hQ _ _ rfl (by omega) _ hd CM hN hb2
        · rw [if_neg (fun h => hN h.1)]
          exact one_snone s a w hs ha hA' hD' hQ _ _ rfl (by omega) _ hd CM hN
      · have hf : firstF (s.data.toList.drop a) = signF (s[a]) (s.data.toList.drop (a + 1)) := by rw [hl, firstF_cons, if_neg hA, if_neg hD, if_neg (by omega)]
        rw [hf]
        exact one_sign s a w hs ha hA' hD' hQ
theorem infoTok5 : (Tryd.prog.info? 36).map (fun i => (i.zero, i.size, i.bytes)) = some (some (.agg #[.int .i64 0, .string ⟨#[]⟩, .int .i64 0, .int .i64 0, .int .i64 0]), 5, 48) := by kernel_rfl
theorem rscan_long (s : ByteArray) (w : World) (hs : ¬ s.size ≤ 4000) :
    Calls Tryd.prog 9 #[.string s] w fun e w' => e = .returned (.tuple #[.slice none 0 0, .int .i64 0, .int .i64 2]) ∧ w = w' := by
  have h : (4000 : Int) < (s.size : Int) := by omega
  clear hs
  go_enter Tryd.func9, Tryd.ntmps9
  go_wp2_with fail
  exact bodyPost_ret (v := .tuple #[.slice none 0 0, .int .i64 0, .int .i64 2]) (by simp [results, Tryd.results9, go_sem]) rfl ⟨rfl, rfl⟩
/-- what the document's scan leaves -/
def ScanOut5 (s : ByteArray) (T : List (Tok × Nat)) (e : Bool × Nat) (w : World) (en : Ending) (w' : World) : Prop :=
  ((e.1 = true ∧ ∃ v, en = .returned (.tuple #[v, .int .i64 0, .int .i64 0]) ∧ w'.ownsRow w.heap.size 36 5 v (T.length + 1) (tcells (T ++ [(⟨0, [], 0, 0⟩, s.size)]))) ∨
    (e.1 = false ∧ en = .returned (.tuple #[.slice none 0 0, .int .i64 (e.2 : Int), .int .i64 12]))) ∧ Below w.heap.size w w'
/-- between two tokens -/
def ScK (u : World) (s : ByteArray) (T : List (Tok × Nat)) (e : Bool × Nat) (v i : Value) (wr : World) : Prop :=
  ∃ (k : Nat) (L T' : List (Tok × Nat)), i = .int .i64 (k : Int) ∧ k ≤ s.size ∧ L.length ≤ k ∧ ScanR k (s.data.toList.drop k) T' e ∧ T = L ++ T' ∧
    wr.ownsRow u.heap.size 36 5 v L.length (tcells L) ∧ Below u.heap.size u wr
set_option maxHeartbeats 8000000 in
set_option maxRecDepth 100000 in
theorem rscan_F (s : ByteArray) (T : List (Tok × Nat)) (e : Bool × Nat) (w : World) (hs : s.size ≤ 4000) (hR : ScanR 0 s.data.toList T e) :
    Calls Tryd.prog 9 #[.string s] w (ScanOut5 s T e w) := by
  obtain ⟨i0, hi, hz0, hz1, hz2⟩ := info_parts infoTok5
  have hnl : ¬ (4000 : Int) < (s.size : Int) := by omega
  replace hR := Lib.hid hR
  unfold ScanOut5
  go_enter Tryd.func9, Tryd.ntmps9
  go_wp2_with fail
  go_loopw [5, 6] (fun v i wr => ScK w s T e v i wr) (fun _ i _ => s.size - (intOf i).toNat)
  case atStart => exact ⟨0, [], T, rfl, Nat.zero_le _, Nat.le_refl _, hR.out, rfl, World.ownsRow_nil _ _ _ _, Below.refl _ _⟩
  case round =>
    obtain ⟨k, L, T', rfl, hk, hLk, hS, hT, hO, hB⟩ := hrel
    clear hR
    go_wp2_with fail
    go_loopw [6] (fun i wz => ∃ j : Nat, k ≤ j ∧ j ≤ s.size ∧ i = .int .i64 (j : Int) ∧ Hid (ScanR j (s.data.toList.drop j) T' e) ∧ wr = wz) (fun i _ => s.size - (intOf i).toNat)
    case atStart => exact ⟨k, Nat.le_refl _, hk, rfl, Lib.hid hS, rfl⟩
    case round =>
      obtain ⟨j, hkj, hjs, rfl, hSj, rfl⟩ := hrel
      have hSj := hSj.out
      clear hS
      by_cases hlt : j < s.size
      · have hd := drop_cons s j hlt
        rw [hd] at hSj
        have CB := fun w => rblank_any ((s[j]'hlt).toNat : Int) w
        have j0 : (0 : Int) ≤ (j : Int) := by omega
        have j1 : (j : Int) < (s.size : Int) := by omega
        have j2 : ((j : Int) == (s.size : Int)) = false := by simp; omega
        by_cases hb : blkC ((s[j]'hlt).toNat : Int) = true
        · rw [hb] at CB
          replace CB := Lib.hid CB
          have hS2 : ScanR (j + 1) (s.data.toList.drop (j + 1)) T' e := by
            cases hSj with
            | blank _ _ _ _ _ _ h3 => exact h3
            | tok _ _ _ _ _ h2 => rw [hb] at h2; cases h2
            | bad _ _ _ h2 => rw [hb] at h2; cases h2
          replace hS2 := Lib.hid hS2
          clear hSj hd hb hT hO hB
          go_wp2_with (go_at_call 15; refine (CB.out _).mono ?_; rintro e w1 ⟨rfl, rfl⟩)
          go_roundw
          case rel => exact ⟨j + 1, by omega, by omega, by go_num, hS2, by first | rfl | trivial⟩
          case measure => simp [intOf]; omega
        · have hb' : blkC ((s[j]'hlt).toNat : Int) = false := by simpa using hb
          rw [hb'] at CB
          replace CB := Lib.hid CB
          have CO := fun w => one_F s j w hs hlt
          rw [hd] at CO
          have hle := firstF_le (s.data.toList.drop j)
          rw [List.length_drop, list_size, hd] at hle
          by_cases h0 : (firstF (s[j] :: s.data.toList.drop (j + 1))).2 = 0
          · have hT0 : T' = [] ∧ e = (false, j) := by
              cases hSj with
              | blank _ _ _ _ _ h2 => rw [hb'] at h2; cases h2
              | tok _ _ _ _ _ _ h2 => exact absurd h0 h2
              | bad => exact ⟨rfl, rfl⟩
            obtain ⟨rfl, rfl⟩ := hT0
            clear hSj hd hb hb' hle
            generalize firstF (s[j] :: s.data.toList.drop (j + 1)) = X at *
            obtain ⟨⟨kd, t, n, sc⟩, ln⟩ := X
            obtain rfl : ln = 0 := h0
            replace CO := Lib.hid CO
            clear hT
            go_wp2_with (first | (go_at_call 15; refine (CB.out _).mono ?_; rintro e w1 ⟨rfl, rfl⟩) | (go_at_call 18; refine (CO.out _).mono ?_; rintro e w1 ⟨rfl, hb1⟩; simp only [tokA, tokV]))
            exact bodyPost_ret (v := .tuple #[.slice none 0 0, .int .i64 (j : Int), .int .i64 12]) (by simp [results, Tryd.results9, go_sem]) rfl ⟨rfl, (mmore hB hb1).alloc (mmore hB hb1).size _⟩
          · obtain ⟨T2, rfl, hS2⟩ : ∃ T2, T' = ((firstF (s[j] :: s.data.toList.drop (j + 1))).1, j) :: T2 ∧ ScanR (j + (firstF (s[j] :: s.data.toList.drop (j + 1))).2) (s.data.toList.drop (j + (firstF (s[j] :: s.data.toList.drop (j + 1))).2)) T2 e := by
              cases hSj with
              | blank _ _ _ _ _ h2 => rw [hb'] at h2; cases h2
              | tok _ _ _ T2 _ _ _ h3 =>
                refine ⟨T2, rfl, ?_⟩
                have key := List.drop_drop (i := (firstF (s[j] :: s.data.toList.drop (j + 1))).2) (j := j) (l := s.data.toList)
                rw [hd] at key
                rw [key] at h3
                exact h3
              | bad _ _ _ _ h2 => exact absurd h2 h0
            clear hSj hd hb hb'
            generalize firstF (s[j] :: s.data.toList.drop (j + 1)) = X at *
            obtain ⟨⟨kd, t, n, sc⟩, ln⟩ := X
            simp only at h0 hle hT hS2
            have h0' : ((ln : Int) == 0) = false := by simp; exact h0
            obtain ⟨m, hm⟩ : ∃ m : Nat, m = j + ln := ⟨_, rfl⟩
            rw [← hm] at hS2
            have hms : m ≤ s.size := by omega
            have hkm : k < m := by omega
            have hwm : IntKind.i64.wrap ((j : Int) + (ln : Int)) = (m : Int) := by rw [IntKind.wrap_i64]; omega
            have l0 : L.length + 1 ≤ m := by omega
            have l1 : L.length + 1 ≤ maxLen := by unfold maxLen; omega
            have l2 : (L.length + 1) * 48 ≤ 140737488355328 := by omega
            have hTL : T = (L ++ [(⟨kd, t, n, sc⟩, j)]) ++ T2 := by rw [hT]; simp
            replace hTL := Lib.hid hTL
            replace hS2 := Lib.hid hS2
            replace CO := Lib.hid CO
            replace l0 := Lib.hid l0
            replace hkm := Lib.hid hkm
            replace hLk := Lib.hid hLk
            replace hms := Lib.hid hms
            clear hT hm hle h0
            go_upto_region 12 with (first | (go_at_call 15; refine (CB.out _).mono ?_; rintro e w1 ⟨rfl, rfl⟩) | (go_at_call 18; refine (CO.out _).mono ?_; rintro e w1 ⟨rfl, hb1⟩; simp only [tokA, tokV]))
            have hu := m1 w1 (.cells #[.int .i64 kd, .string (ba t), .int .i64 n, .int .i64 sc, .int .i64 0] 36)
            have hB1 := mmore hB hb1
            have hne : u5.ownBlock ≠ some w1.heap.size := fun h => by
              have := ((mown_below hO hb1).lt _ h).2
              omega
            have hO2 := mown_below (mown_below hO hb1) hu
            have hB2 := mmore hB1 hu
            have c0 : (w1.alloc (.cells #[.int .i64 kd, .string (ba t), .int .i64 n, .int .i64 sc, .int .i64 0] 36)).cell? ⟨w1.heap.size, 0, none⟩ = some (.int .i64 kd) := by simp [go_sem]
            have c1 : (w1.alloc (.cells #[.int .i64 kd, .string (ba t), .int .i64 n, .int .i64 sc, .int .i64 0] 36)).cell? ⟨w1.heap.size, 1, none⟩ = some (.string (ba t)) := by simp [go_sem]
            have c2 : (w1.alloc (.cells #[.int .i64 kd, .string (ba t), .int .i64 n, .int .i64 sc, .int .i64 0] 36)).cell? ⟨w1.heap.size, 2, none⟩ = some (.int .i64 n) := by simp [go_sem]
            have c3 : (w1.alloc (.cells #[.int .i64 kd, .string (ba t), .int .i64 n, .int .i64 sc, .int .i64 0] 36)).cell? ⟨w1.heap.size, 3, none⟩ = some (.int .i64 sc) := by simp [go_sem]
            have c4 : (w1.alloc (.cells #[.int .i64 kd, .string (ba t), .int .i64 n, .int .i64 sc, .int .i64 0] 36)).cell? ⟨w1.heap.size, 4, none⟩ = some (.int .i64 0) := by simp [go_sem]
            have f4 : (w1.alloc (.cells #[.int .i64 kd, .string (ba t), .int .i64 n, .int .i64 sc, .int .i64 0] 36)).frozen? ⟨w1.heap.size, 4, none⟩ = false := by simp [go_sem]
            have hgl : w.heap.size ≤ w1.heap.size := hB1.size
            generalize w1.alloc (.cells #[.int .i64 kd, .string (ba t), .int .i64 n, .int .i64 sc, .int .i64 0] 36) = u at *
            have g1 := mblock c0
            clear hu hb1 hB1 hO hB CO CB
            generalize w1.heap.size = g at *
            go_upto_region 13 with (fail)
            have d0 : (u.setCell ⟨g, 4, none⟩ (.int .i64 (j : Int))).cell? ⟨g, 0, none⟩ = some (.int .i64 kd) := by simp [go_sem, c0]
            have d1 : (u.setCell ⟨g, 4, none⟩ (.int .i64 (j : Int))).cell? ⟨g, 1, none⟩ = some (.string (ba t)) := by simp [go_sem, c1]
            have d2 : (u.setCell ⟨g, 4, none⟩ (.int .i64 (j : Int))).cell? ⟨g, 2, none⟩ = some (.int .i64 n) := by simp [go_sem, c2]
            have d3 : (u.setCell ⟨g, 4, none⟩ (.int .i64 (j : Int))).cell? ⟨g, 3, none⟩ = some (.int .i64 sc) := by simp [go_sem, c3]
            have d4 : (u.setCell ⟨g, 4, none⟩ (.int .i64 (j : Int))).cell? ⟨g, 4, none⟩ = some (.int .i64 (j : Int)) := by simp [go_sem, c4]
            have hO3 := mown_set (p := ⟨g, 4, none⟩) hO2 hne (.int .i64 (j : Int))
            have hB3 := hB2.setCell (p := ⟨g, 4, none⟩) hgl (.int .i64 (j : Int))
            clear c0 c1 c2 c3 c4 f4 hO2 hB2 hne g1
            generalize u.setCell ⟨g, 4, none⟩ (.int .i64 (j : Int)) = u3 at *
            have hsz := hB3.size
            go_wp2_with (at_builtin; refine wpList_append_own _ rfl (.tmp 44) (.tmp 46) 26 rfl w.heap.size 36 i0 (.agg #[.int .i64 0, .string ⟨#[]⟩, .int .i64 0, .int .i64 0, .int .i64 0]) 5 48 Tryd.underlying26 hi hz0 hz1 hz2 rfl (by decide) u5 L.length (tcells L) rfl (hO3.alloc _) ⟨u3.heap.size, 0, none⟩ 1 1 [.int .i64 kd, .string (ba t), .int .i64 n, .int .i64 sc, .int .i64 (j : Int)] rfl rfl (news_five _ _ _ _ _ _ _) (one_five _ _ _ _ _) l1 l2 (by simp; omega) ?_; intro v' w4 hO4 hgrow _; have hB4 := Lib.hid ((hB3.alloc hsz _).grown hgrow (by simp; omega) (fun g hg => (hO3.lt g hg).1)); replace hO4 := Lib.hid hO4; clear hgrow)
            go_roundw
            case rel =>
              refine ⟨m, L ++ [(⟨kd, t, n, sc⟩, j)], T2, rfl, hms.out, by simpa using l0.out, hS2.out, hTL.out, ?_, hB4.out⟩
              rw [tcells_snoc, List.length_append]
              exact hO4.out
            case measure => have := hkm.out; have := hms.out; simp [intOf]; omega
      · obtain rfl : j = s.size := by omega
        have hT0 : T' = [] ∧ e = (true, s.size) := by
          rw [List.drop_eq_nil_of_le (by rw [list_size]; omega)] at hSj
          cases hSj
          exact ⟨rfl, rfl⟩
        obtain ⟨rfl, rfl⟩ := hT0
        rw [List.append_nil] at hT
        subst hT
        have l1 : T.length + 1 ≤ maxLen := by unfold maxLen; omega
        have l2 : (T.length + 1) * 48 ≤ 140737488355328 := by omega
        have hsz := hB.size
        replace hLk := Lib.hid hLk
        clear hSj hlt
        go_wp2_with (at_builtin; refine wpList_append_own _ rfl (.tmp 28) (.tmp 31) 26 rfl w.heap.size 36 i0 (.agg #[.int .i64 0, .string ⟨#[]⟩, .int .i64 0, .int .i64 0, .int .i64 0]) 5 48 Tryd.underlying26 hi hz0 hz1 hz2 rfl (by decide) u5 T.length (tcells T) rfl (hO.alloc _) ⟨wr.heap.size, 0, none⟩ 1 1 [.int .i64 0, .string ⟨#[]⟩, .int .i64 0, .int .i64 0, .int .i64 (s.size : Int)] rfl rfl (news_five _ _ _ _ _ _ _) (one_five _ _ _ _ _) l1 l2 (by simp; omega) ?_; intro v' w4 hO4 hgrow _)
        have hB4 := (hB.alloc hsz _).grown hgrow (by simp; omega) (fun g hg => (hO.lt g hg).1)
        refine bodyPost_ret (v := .tuple #[v', .int .i64 0, .int .i64 0]) (by simp [results, Tryd.results9, go_sem]) rfl ⟨⟨v', rfl, ?_⟩, hB4⟩
        rw [tcells_snoc]
        exact hO4
end Go.Proofs.YteojcohmocbakaaDoor
