/- The tokens of a text (Scan), as a contract in the words of lists. -/
import Derived.Test.YteojcohmocbakaaDoorLexF
import Derived.Maps.AppendAt
namespace Go.Proofs.YteojcohmocbakaaDoor
open Go.ChangeShapes Go.WideShapes Go.ChangeAt Go.RowKit
set_option linter.unusedVariables false
set_option linter.unusedSimpArgs false

theorem infoTok : (Tryd.prog.info? 33).map (fun i => (i.zero, i.size, i.bytes)) = some (some (.agg #[.int .i64 0, .string ⟨#[]⟩, .int .i64 0, .int .i64 0, .int .i64 0]), 5, 48) := by kernel_rfl
def tcells (L : List (Tok × Nat)) : List Value := L.flatMap fun p => [.int .i64 p.1.kind, .string (ba p.1.text), .int .i64 p.1.n, .int .i64 p.1.scale, .int .i64 (p.2 : Int)]
theorem tcells_snoc (L : List (Tok × Nat)) (p : Tok × Nat) : tcells (L ++ [p]) = tcells L ++ [.int .i64 p.1.kind, .string (ba p.1.text), .int .i64 p.1.n, .int .i64 p.1.scale, .int .i64 (p.2 : Int)] := by
  unfold tcells
  simp
theorem news_five (w : World) (t : TypeId) (x y z u v : Value) : ∀ (j : Nat) (q : Value), [x, y, z, u, v][j]? = some q → (w.alloc (.cells #[x, y, z, u, v] t)).cell? ((⟨w.heap.size, 0, none⟩ : Addr).add j) = some q := by
  intro j q hj
  match j, hj with
  | 0, hj => simp at hj; subst hj; simp [Addr.add]
  | 1, hj => simp at hj; subst hj; simp [Addr.add]
  | 2, hj => simp at hj; subst hj; simp [Addr.add]
  | 3, hj => simp at hj; subst hj; simp [Addr.add]
  | 4, hj => simp at hj; subst hj; simp [Addr.add]
theorem one_five (a : Int) (b : ByteArray) (c d e : Int) : ∀ u ∈ [Value.int .i64 a, Value.string b, Value.int .i64 c, Value.int .i64 d, Value.int .i64 e], u.oneCell' = true := by
  intro u hu; simp at hu; rcases hu with rfl | rfl | rfl | rfl | rfl <;> rfl
theorem ScanR.skip {T : List (Tok × Nat)} {e : Bool × Nat} : ∀ (l : List UInt8) (a : Nat), ScanR a l T e → ScanR (a + (runL blkC l).length) (l.drop (runL blkC l).length) T e
  | [], a, h => h
  | c :: l, a, h => by
    rw [runL_cons]
    by_cases hc : blkC (c.toNat : Int) = true
    · rw [if_pos hc]
      cases h with
      | blank _ _ _ _ _ _ k =>
        have := ScanR.skip l (a + 1) k
        rw [show a + (c :: runL blkC l).length = a + 1 + (runL blkC l).length by simp; omega]
        exact this
      | tok _ _ _ _ _ h2 => rw [hc] at h2; cases h2
      | bad _ _ _ h2 => rw [hc] at h2; cases h2
    · rw [if_neg hc]
      exact h
/-- what a scan leaves: T, e: the tokens ahead of the end, and how it ends -/
def ScanOut (s : ByteArray) (T : List (Tok × Nat)) (e : Bool × Nat) (w : World) (en : Ending) (w' : World) : Prop :=
  ((e.1 = true ∧ ∃ v, en = .returned (.tuple #[v, .int .i64 0, .int .i64 0]) ∧ w'.ownsRow w.heap.size 33 5 v (T.length + 1) (tcells (T ++ [(⟨0, [], 0, 0⟩, s.size)]))) ∨
    (e.1 = false ∧ en = .returned (.tuple #[.slice none 0 0, .int .i64 (e.2 : Int), .int .i64 12]))) ∧ Below w.heap.size w w'
theorem scan_long (s : ByteArray) (w : World) (hs : ¬ s.size ≤ 4000) :
    Calls Tryd.prog 8 #[.string s] w fun e w' => e = .returned (.tuple #[.slice none 0 0, .int .i64 0, .int .i64 2]) ∧ w = w' := by
  have h : (4000 : Int) < (s.size : Int) := by omega
  clear hs
  go_enter Tryd.func8, Tryd.ntmps8
  go_wp2_with fail
  exact bodyPost_ret (v := .tuple #[.slice none 0 0, .int .i64 0, .int .i64 2]) (by simp [results, Tryd.results8, go_sem]) rfl ⟨rfl, rfl⟩
/-- between two tokens -/
def ScI (u : World) (s : ByteArray) (T : List (Tok × Nat)) (e : Bool × Nat) (v i : Value) (wr : World) : Prop :=
  ∃ (k : Nat) (L T' : List (Tok × Nat)), i = .int .i64 (k : Int) ∧ k ≤ s.size ∧ L.length ≤ k ∧ ScanR k (s.data.toList.drop k) T' e ∧ T = L ++ T' ∧ (∀ h : k < s.size, blkC ((s[k]'h).toNat : Int) = false) ∧
    wr.ownsRow u.heap.size 33 5 v L.length (tcells L) ∧ Below u.heap.size u wr
set_option maxHeartbeats 8000000 in
set_option maxRecDepth 100000 in
theorem scan_F (s : ByteArray) (T : List (Tok × Nat)) (e : Bool × Nat) (w : World) (hs : s.size ≤ 4000) (hR : ScanR 0 s.data.toList T e) (hE : ErrCell w) :
    Calls Tryd.prog 8 #[.string s] w (ScanOut s T e w) := by
  obtain ⟨i0, hi, hz0, hz1, hz2⟩ := info_parts infoTok
  have hnl : ¬ (4000 : Int) < (s.size : Int) := by omega
  have hsk := ScanR.skip _ _ hR
  have CS := fun w => span_blank s _ w (by omega) (run_is blkC s)
  have hbl := run_is blkC s
  rw [Nat.zero_add] at hsk
  generalize (runL blkC s.data.toList).length = r at *
  have hr1 := hbl.1
  have hr2 := hbl.2.2
  replace CS := Lib.hid CS
  replace hR := Lib.hid hR
  replace hsk := Lib.hid hsk
  replace hbl := Lib.hid hbl
  replace hr2 := Lib.hid hr2
  unfold ScanOut
  go_enter Tryd.func8, Tryd.ntmps8
  go_upto_region 4 with (fail)
  have hO0 := World.ownsRow_lit (base := w.heap.size) (e := 33) (size := 5) w #[] 0 (Nat.le_refl _) (by unfold maxLen; omega) rfl
  have hB0 := m1 w (.cells #[] 33)
  generalize w.alloc (.cells #[] 33) = u at *
  have hEu := Lib.hid (hE.later hB0)
  have hE0 := Lib.hid hE
  clear hE
  go_wp2_with (go_at_call 16; refine (CS.out _).mono ?_; rintro e w1 ⟨rfl, rfl⟩)
  go_loopw [5, 6] (fun v i wr => ScI w s T e v i wr ∧ ErrCell wr) (fun _ i _ => s.size - (intOf i).toNat)
  case atStart => exact ⟨⟨r, [], T, rfl, hr1, Nat.zero_le _, hsk.out, rfl, hr2.out, hO0, hB0⟩, hEu.out⟩
  case round =>
    obtain ⟨⟨k, L, T', rfl, hk, hLk, hS, hT, hnb, hO, hB⟩, hEr⟩ := hrel
    clear hsk CS hbl hr2 hR hr1 hO0 hB0 hEu
    by_cases hlt : k < s.size
    · obtain ⟨c, q, hd⟩ : ∃ c q, s.data.toList.drop k = c :: q := by
        cases h : s.data.toList.drop k with
        | nil => have := congrArg List.length h; rw [List.length_drop, list_size, List.length_nil] at this; omega
        | cons c q => exact ⟨c, q, rfl⟩
      have hzl : (c :: q).length = s.size - k := by rw [← hd, List.length_drop, list_size]
      have hbc : blkC (c.toNat : Int) = false := by
        have h1 := hnb hlt
        rw [← get_list s k hlt] at h1
        have h2 : s.data.toList[k]'(by rw [list_size]; exact hlt) = c := by
          have h3 : (s.data.toList.drop k)[0]'(by rw [hd]; simp) = c := by simp only [hd]; rfl
          rw [List.getElem_drop] at h3
          exact h3
        rw [h2] at h1
        exact h1
      have hle := firstF_le (c :: q)
      have hxs : (s.extract k s.size).size = s.size - k := by rw [ByteArray.size_extract]; omega
      have CF : ∀ wz, ErrCell wz → Calls Tryd.prog 17 #[.string (s.extract k s.size)] wz (GivesTok (s.extract k s.size) (firstF (c :: q)) wz) := fun wz hz => by
        have := first_F (s.extract k s.size) wz (by omega) (by omega) hz
        rw [ext_from, hd] at this
        exact this
      replace CF := Lib.hid (CF wr hEr)
      have hlt' : (k : Int) < (s.size : Int) := by omega
      have hle' : (k : Int) ≤ (s.size : Int) := by omega
      have hk0 : (0 : Int) ≤ (k : Int) := by omega
      rw [hd] at hS
      rw [hzl] at hle
      by_cases h0 : (firstF (c :: q)).2 = 0
      · have hT0 : T' = [] ∧ e = (false, k) := by
          cases hS with
          | blank _ _ _ _ _ h2 => rw [hbc] at h2; cases h2
          | tok _ _ _ _ _ _ h2 => exact absurd h0 h2
          | bad => exact ⟨rfl, rfl⟩
        obtain ⟨rfl, rfl⟩ := hT0
        clear hS hnb hbc hle hd hzl hxs
        generalize firstF (c :: q) = X at *
        obtain ⟨⟨kd, t, n, sc⟩, ln⟩ := X
        obtain rfl : ln = 0 := h0
        clear hT
        go_wp2_with (go_at_call 17; refine CF.out.mono ?_; rintro e w1 ⟨rfl, hb1⟩; simp only [tokA, tokV])
        exact bodyPost_ret (v := .tuple #[.slice none 0 0, .int .i64 (k : Int), .int .i64 12]) (by simp [results, Tryd.results8, go_sem]) rfl ⟨rfl, (mmore hB hb1).alloc (mmore hB hb1).size _⟩
      · obtain ⟨T2, rfl, hS2⟩ : ∃ T2, T' = ((firstF (c :: q)).1, k) :: T2 ∧ ScanR (k + (firstF (c :: q)).2) (s.data.toList.drop (k + (firstF (c :: q)).2)) T2 e := by
          cases hS with
          | blank _ _ _ _ _ h2 => rw [hbc] at h2; cases h2
          | tok _ _ _ T2 _ _ _ h3 =>
            refine ⟨T2, rfl, ?_⟩
            rw [← List.drop_drop, hd]
            exact h3
          | bad _ _ _ _ h2 => exact absurd h2 h0
        clear hS hnb hbc hd hzl hxs
        generalize firstF (c :: q) = X at *
        obtain ⟨⟨kd, t, n, sc⟩, ln⟩ := X
        simp only at h0 hle hT hS2
        have h0' : ((ln : Int) == 0) = false := by simp; exact h0
        obtain ⟨m, hm⟩ : ∃ m : Nat, m = k + ln := ⟨_, rfl⟩
        rw [← hm] at hS2
        have hms : m ≤ s.size := by omega
        have hkm : k < m := by omega
        have hwm : IntKind.i64.wrap ((k : Int) + (ln : Int)) = (m : Int) := by rw [IntKind.wrap_i64]; omega
        have hms' : (m : Int) ≤ (s.size : Int) := by omega
        have hm0 : (0 : Int) ≤ (m : Int) := by omega
        have hsk := ScanR.skip _ _ hS2
        have hrun := run_at blkC s m hms
        have CS := fun w => span_blank (s.extract m s.size) _ w (by rw [ByteArray.size_extract]; omega) (run_is blkC (s.extract m s.size))
        rw [ext_from] at CS
        rw [List.drop_drop] at hsk
        generalize (runL blkC (s.data.toList.drop m)).length = r2 at *
        obtain ⟨m2, hm2⟩ : ∃ m2 : Nat, m2 = m + r2 := ⟨_, rfl⟩
        rw [← hm2] at hsk
        have hrs : m + r2 ≤ s.size := hrun.1
        have hm2s : m2 ≤ s.size := by omega
        have hwm2 : IntKind.i64.wrap ((m : Int) + (r2 : Int)) = (m2 : Int) := by rw [IntKind.wrap_i64]; omega
        have hnb2 : ∀ h : m2 < s.size, blkC ((s[m2]'h).toNat : Int) = false := by rw [hm2]; exact hrun.2.2
        have hkm2 : k < m2 := by omega
        have l0 : L.length + 1 ≤ m2 := by omega
        have l1 : L.length + 1 ≤ maxLen := by unfold maxLen; omega
        have l2 : (L.length + 1) * 48 ≤ 140737488355328 := by omega
        have hTL : T = (L ++ [(⟨kd, t, n, sc⟩, k)]) ++ T2 := by rw [hT]; simp
        replace hTL := Lib.hid hTL
        replace hsk := Lib.hid hsk
        replace hnb2 := Lib.hid hnb2
        replace hrun := Lib.hid hrun
        replace CS := Lib.hid CS
        replace l0 := Lib.hid l0
        replace hkm2 := Lib.hid hkm2
        replace hLk := Lib.hid hLk
        replace hm2s := Lib.hid hm2s
        clear hT hS2 hm hm2 hle hrs h0
        go_upto_region 10 with (go_at_call 17; refine CF.out.mono ?_; rintro e w1 ⟨rfl, hb1⟩; simp only [tokA, tokV])
        have hu := m1 w1 (.cells #[.int .i64 kd, .string (ba t), .int .i64 n, .int .i64 sc, .int .i64 0] 33)
        have hB1 := mmore hB hb1
        have hne : u5.ownBlock ≠ some w1.heap.size := fun h => by
          have := ((mown_below hO hb1).lt _ h).2
          omega
        have hO2 := mown_below (mown_below hO hb1) hu
        have hB2 := mmore hB1 hu
        have hE2 := (hEr.later hb1).later hu
        have c0 : (w1.alloc (.cells #[.int .i64 kd, .string (ba t), .int .i64 n, .int .i64 sc, .int .i64 0] 33)).cell? ⟨w1.heap.size, 0, none⟩ = some (.int .i64 kd) := by simp [go_sem]
        have c1 : (w1.alloc (.cells #[.int .i64 kd, .string (ba t), .int .i64 n, .int .i64 sc, .int .i64 0] 33)).cell? ⟨w1.heap.size, 1, none⟩ = some (.string (ba t)) := by simp [go_sem]
        have c2 : (w1.alloc (.cells #[.int .i64 kd, .string (ba t), .int .i64 n, .int .i64 sc, .int .i64 0] 33)).cell? ⟨w1.heap.size, 2, none⟩ = some (.int .i64 n) := by simp [go_sem]
        have c3 : (w1.alloc (.cells #[.int .i64 kd, .string (ba t), .int .i64 n, .int .i64 sc, .int .i64 0] 33)).cell? ⟨w1.heap.size, 3, none⟩ = some (.int .i64 sc) := by simp [go_sem]
        have c4 : (w1.alloc (.cells #[.int .i64 kd, .string (ba t), .int .i64 n, .int .i64 sc, .int .i64 0] 33)).cell? ⟨w1.heap.size, 4, none⟩ = some (.int .i64 0) := by simp [go_sem]
        have f4 : (w1.alloc (.cells #[.int .i64 kd, .string (ba t), .int .i64 n, .int .i64 sc, .int .i64 0] 33)).frozen? ⟨w1.heap.size, 4, none⟩ = false := by simp [go_sem]
        have hgl : w.heap.size ≤ w1.heap.size := hB1.size
        generalize w1.alloc (.cells #[.int .i64 kd, .string (ba t), .int .i64 n, .int .i64 sc, .int .i64 0] 33) = u at *
        have g1 := mblock c0
        clear hu hb1 hB1 hO hB hEr CF
        generalize w1.heap.size = g at *
        go_upto_region 11 with (fail)
        have d0 : (u.setCell ⟨g, 4, none⟩ (.int .i64 (k : Int))).cell? ⟨g, 0, none⟩ = some (.int .i64 kd) := by simp [go_sem, c0]
        have d1 : (u.setCell ⟨g, 4, none⟩ (.int .i64 (k : Int))).cell? ⟨g, 1, none⟩ = some (.string (ba t)) := by simp [go_sem, c1]
        have d2 : (u.setCell ⟨g, 4, none⟩ (.int .i64 (k : Int))).cell? ⟨g, 2, none⟩ = some (.int .i64 n) := by simp [go_sem, c2]
        have d3 : (u.setCell ⟨g, 4, none⟩ (.int .i64 (k : Int))).cell? ⟨g, 3, none⟩ = some (.int .i64 sc) := by simp [go_sem, c3]
        have d4 : (u.setCell ⟨g, 4, none⟩ (.int .i64 (k : Int))).cell? ⟨g, 4, none⟩ = some (.int .i64 (k : Int)) := by simp [go_sem, c4]
        have hO3 := mown_set (p := ⟨g, 4, none⟩) hO2 hne (.int .i64 (k : Int))
        have hB3 := hB2.setCell (p := ⟨g, 4, none⟩) hgl (.int .i64 (k : Int))
        clear c0 c1 c2 c3 c4 f4 hO2 hB2 hE2 hne g1
        generalize u.setCell ⟨g, 4, none⟩ (.int .i64 (k : Int)) = u3 at *
        have hsz := hB3.size
        go_wp2_with (first | (at_builtin; refine wpList_append_own _ rfl (.tmp 37) (.tmp 39) 22 rfl w.heap.size 33 i0 (.agg #[.int .i64 0, .string ⟨#[]⟩, .int .i64 0, .int .i64 0, .int .i64 0]) 5 48 Tryd.underlying22 hi hz0 hz1 hz2 rfl (by decide) u5 L.length (tcells L) rfl (hO3.alloc _) ⟨u3.heap.size, 0, none⟩ 1 1 [.int .i64 kd, .string (ba t), .int .i64 n, .int .i64 sc, .int .i64 (k : Int)] rfl rfl (news_five _ _ _ _ _ _ _) (one_five _ _ _ _ _) l1 l2 (by simp; omega) ?_; intro v' w4 hO4 hgrow _; have hB4 := Lib.hid ((hB3.alloc hsz _).grown hgrow (by simp; omega) (fun g hg => (hO3.lt g hg).1)); replace hO4 := Lib.hid hO4; clear hgrow) | (go_at_call 16; refine (CS.out _).mono ?_; rintro e w1 ⟨rfl, rfl⟩))
        go_roundw
        case rel =>
          refine ⟨⟨m2, L ++ [(⟨kd, t, n, sc⟩, k)], T2, rfl, hm2s.out, by simpa using l0.out, hsk.out, hTL.out, hnb2.out, ?_, hB4.out⟩, ?_⟩
          · rw [tcells_snoc, List.length_append]
            exact hO4.out
          · obtain ⟨ev, h1, h2⟩ := hE0.out
            exact ⟨ev, (hB4.out.cell (mblock h1)).trans h1, h2⟩
        case measure => have := hkm2.out; simp [intOf]; omega
    · obtain rfl : k = s.size := by omega
      have hT0 : T' = [] ∧ e = (true, s.size) := by
        rw [List.drop_eq_nil_of_le (by rw [list_size]; omega)] at hS
        cases hS
        exact ⟨rfl, rfl⟩
      obtain ⟨rfl, rfl⟩ := hT0
      rw [List.append_nil] at hT
      subst hT
      have l1 : T.length + 1 ≤ maxLen := by unfold maxLen; omega
      have l2 : (T.length + 1) * 48 ≤ 140737488355328 := by omega
      have hsz := hB.size
      replace hLk := Lib.hid hLk
      clear hS hnb hlt
      go_wp2_with (at_builtin; refine wpList_append_own _ rfl (.tmp 44) (.tmp 48) 22 rfl w.heap.size 33 i0 (.agg #[.int .i64 0, .string ⟨#[]⟩, .int .i64 0, .int .i64 0, .int .i64 0]) 5 48 Tryd.underlying22 hi hz0 hz1 hz2 rfl (by decide) u5 T.length (tcells T) rfl (hO.alloc _) ⟨wr.heap.size, 0, none⟩ 1 1 [.int .i64 0, .string ⟨#[]⟩, .int .i64 0, .int .i64 0, .int .i64 (s.size : Int)] rfl rfl (news_five _ _ _ _ _ _ _) (one_five _ _ _ _ _) l1 l2 (by simp; omega) ?_; intro v' w4 hO4 hgrow _)
      have hB4 := (hB.alloc hsz _).grown hgrow (by simp; omega) (fun g hg => (hO.lt g hg).1)
      refine bodyPost_ret (v := .tuple #[v', .int .i64 0, .int .i64 0]) (by simp [results, Tryd.results8, go_sem]) rfl ⟨⟨v', rfl, ?_⟩, hB4⟩
      rw [tcells_snoc]
      exact hO4
end Go.Proofs.YteojcohmocbakaaDoor
