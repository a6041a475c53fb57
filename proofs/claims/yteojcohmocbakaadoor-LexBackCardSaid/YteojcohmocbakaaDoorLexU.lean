/- The document's sign at a place, and its token there, as ONE contract in the words of lists. -/
import Derived.Test.YteojcohmocbakaaDoorLexT
namespace Go.Proofs.YteojcohmocbakaaDoor
open Go.ChangeShapes Go.WideShapes Go.ChangeAt Go.RowKit
set_option linter.unusedVariables false
set_option linter.unusedSimpArgs false

theorem signs_cell (w : World) (k : Nat) (h : k < 17) : ∃ v, sgL[k]? = some v ∧ (w.alloc (.cells (sgL.map fun l => Value.string ⟨l.toArray⟩).toArray 9)).cell? ⟨w.heap.size, k, none⟩ = some (.string (ba v)) := by
  have hk : k < sgL.length := h
  have hb := Blk.made w 9 (sgL.map fun l => Value.string ⟨l.toArray⟩).toArray
  refine ⟨sgL[k]'hk, List.getElem?_eq_getElem hk, ?_⟩
  rw [hb.cell k]
  simp [List.getElem?_eq_getElem hk, ba]
theorem sg_size (k : Nat) (v : List UInt8) (h : sgL[k]? = some v) : 1 ≤ v.length ∧ v.length ≤ 2 := by
  have hm : v ∈ sgL := List.mem_of_getElem? h
  have : ∀ x ∈ sgL, 1 ≤ x.length ∧ x.length ≤ 2 := by decide
  exact this v hm
set_option maxHeartbeats 8000000 in
set_option maxRecDepth 100000 in
theorem one_sign (s : ByteArray) (a : Nat) (w : World) (hs : s.size ≤ 4000) (ha : a < s.size) (hA : letC ((s[a]'ha).toNat : Int) = false) (hD : digC ((s[a]'ha).toNat : Int) = false) (hQ : ¬ ((s[a]'ha).toNat : Int) = 39) :
    Calls Tryd.prog 18 #[.string s, .int .i64 (a : Int)] w (GivesTok s (signF (s[a]) (s.data.toList.drop (a + 1))) w) := by
  have hu := m1 w (.cells #[.int .i64 0, .string ⟨#[]⟩, .int .i64 0, .int .i64 0, .int .i64 0] 36)
  have hT := Lib.hid (TokZ.made5 w)
  have a0 : (0 : Int) ≤ (a : Int) := by omega
  have as_ : (a : Int) < (s.size : Int) := by omega
  have CL := fun w => rletter_any ((s[a]'ha).toNat : Int) w
  have CD := fun w => rdigit_any ((s[a]'ha).toNat : Int) w
  have hl := drop_cons s a ha
  have hq39 : (((s[a]'ha).toNat : Int) == 39) = false := by simp; exact hQ
  rw [hA] at CL
  rw [hD] at CD
  replace CL := Lib.hid CL
  replace CD := Lib.hid CD
  replace hl := Lib.hid hl
  clear hA hD hQ
  unfold GivesTok
  go_enter Tryd.func18, Tryd.ntmps18
  go_wp2_with fail
  generalize w.alloc (.cells #[.int .i64 0, .string ⟨#[]⟩, .int .i64 0, .int .i64 0, .int .i64 0] 36) = u at *
  refine (CL.out _).mono ?_; rintro e w1 ⟨rfl, rfl⟩
  go_wp2_with fail
  refine (CD.out _).mono ?_; rintro e w1 ⟨rfl, rfl⟩
  go_wp2_with fail
  have HC := Lib.hid (fun k h => signs_cell u k h)
  have hbk := m1 u (.cells (sgL.map fun l => Value.string ⟨l.toArray⟩).toArray 9)
  have hT2 := Lib.hid (hT.out.later hbk)
  have hB2 := mmore hu hbk
  obtain ⟨v, hv⟩ : ∃ v, u.alloc (.cells (sgL.map fun l => Value.string ⟨l.toArray⟩).toArray 9) = v := ⟨_, rfl⟩
  rw [hv] at HC hT2 hB2
  have hv2 : u.alloc (.cells #[Value.string ⟨#[33, 61]⟩, Value.string ⟨#[60, 61]⟩, Value.string ⟨#[62, 61]⟩, Value.string ⟨#[40]⟩, Value.string ⟨#[41]⟩, Value.string ⟨#[44]⟩, Value.string ⟨#[46]⟩, Value.string ⟨#[43]⟩, Value.string ⟨#[45]⟩, Value.string ⟨#[42]⟩, Value.string ⟨#[47]⟩, Value.string ⟨#[37]⟩, Value.string ⟨#[61]⟩, Value.string ⟨#[60]⟩, Value.string ⟨#[62]⟩, Value.string ⟨#[33]⟩, Value.string ⟨#[124]⟩] 9) = v := hv
  rw [hv2]
  clear hT hu hbk CL CD hv hv2
  generalize u.heap.size = g at *
  go_loopw [87] (fun i wr => ∃ k : Nat, k ≤ 17 ∧ i = .int .i64 (k : Int) ∧ Hid (∀ (j : Nat) (x : List UInt8), j < k → sgL[j]? = some x → x.isPrefixOf (s.data.toList.drop a) = false) ∧ v = wr) (fun i _ => 17 - (intOf i).toNat)
  case atStart => exact ⟨0, by omega, rfl, Lib.hid (fun j l h => by omega), rfl⟩
  case round =>
    obtain ⟨k, hk, rfl, H, rfl⟩ := hrel
    by_cases hlt : k < 17
    · obtain ⟨x, hx, hcell⟩ := HC.out k hlt
      have hxs := sg_size k x hx
      have hbz := ba_size x
      have k1 : (k : Int) < 17 := by omega
      obtain ⟨e, he⟩ : ∃ e : Nat, e = a + x.length := ⟨_, rfl⟩
      have hpi := pre_iff (s.data.toList.drop a) x
      rw [List.length_drop, list_size] at hpi
      have hwe : IntKind.i64.wrap ((a : Int) + ((ba x).size : Int)) = (e : Int) := by rw [IntKind.wrap_i64]; omega
      have e0 : (a : Int) ≤ (e : Int) := by omega
      have e01 : (0 : Int) ≤ (e : Int) := by omega
      have hlen : (x.length : Int) = ((ba x).size : Int) := by omega
      by_cases hes : e ≤ s.size
      · have es : (e : Int) ≤ (s.size : Int) := by omega
        obtain ⟨q, hq⟩ : ∃ q, ((s.extract a e).toList == (ba x).toList) = q := ⟨_, rfl⟩
        have hq2 : q = x.isPrefixOf (s.data.toList.drop a) := by
          rw [← hq, Bool.eq_iff_iff, beq_iff_eq, hpi, ByteArray.toList_eq, ByteArray.toList_eq, ext_list, show e - a = x.length by omega]
          exact ⟨fun h => ⟨by omega, h⟩, fun h => h.2⟩
        replace hq2 := Lib.hid hq2
        replace hx := Lib.hid hx
        replace hlen := Lib.hid hlen
        clear hpi hxs hbz he
        generalize hyx : ba x = y at *
        cases q
        · go_wp2_with fail
          go_roundw
          case rel => exact ⟨k + 1, by omega, by go_num, Lib.hid (fun j z h hj => by
            by_cases c : j < k
            · exact H.out j z c hj
            · obtain rfl : j = k := by omega
              rw [hx.out] at hj
              injection hj with hj
              rw [← hj]; exact hq2.out.symm), by first | rfl | trivial⟩
          case measure => simp [intOf]; omega
        · have hit : signF (s[a]) (s.data.toList.drop (a + 1)) = (⟨6, x, 0, 0⟩, x.length) := by
            have hp := hq2.out.symm
            have hn := H.out
            rw [hl.out] at hp hn
            exact sign_hit _ _ k x hx.out hp (fun j z h1 h2 => hn j z h1 h2)
          obtain ⟨c0, c1, c2, c3, c4, f0, f1, f2, f3, f4⟩ := hT2.out
          have g1 := mblock c0
          replace hit := Lib.hid hit
          replace hyx := Lib.hid hyx
          go_wp2_with fail
          rw [hit.out]
          obtain ⟨q0, q1, q2, q3, q4⟩ := five_cells (.int .i64 6) (.string y) (.int .i64 0) (.int .i64 0) (.int .i64 0) c0 c1 c2 c3 c4
          have B2 := (((((hB2.setCell (p := ⟨w.heap.size, 0, none⟩) (Nat.le_refl _) (.int .i64 6)).setCell (p := ⟨w.heap.size, 1, none⟩) (Nat.le_refl _) (.string y)).setCell (p := ⟨w.heap.size, 2, none⟩) (Nat.le_refl _) (.int .i64 0)).setCell (p := ⟨w.heap.size, 3, none⟩) (Nat.le_refl _) (.int .i64 0)).setCell (p := ⟨w.heap.size, 4, none⟩) (Nat.le_refl _) (.int .i64 0))
          clear c0 c1 c2 c3 c4 f0 f1 f2 f3 f4
          generalize (((((v.setCell ⟨w.heap.size, 0, none⟩ (.int .i64 6)).setCell ⟨w.heap.size, 1, none⟩ (.string y)).setCell ⟨w.heap.size, 2, none⟩ (.int .i64 0)).setCell ⟨w.heap.size, 3, none⟩ (.int .i64 0)).setCell ⟨w.heap.size, 4, none⟩ (.int .i64 0)) = wz at *
          exact bodyPost_ret (v := .tuple #[.agg #[.int .i64 6, .string y, .int .i64 0, .int .i64 0, .int .i64 0], .int .i64 (y.size : Int)]) (by simp [results, Tryd.results18, go_sem, q0, q1, q2, q3, q4]) rfl ⟨by rw [show tokA (⟨6, x, 0, 0⟩ : Tok) 0 = .agg #[.int .i64 6, .string y, .int .i64 0, .int .i64 0, .int .i64 0] by rw [← hyx.out]; rfl, ← hlen.out], B2⟩
      · have hno : x.isPrefixOf (s.data.toList.drop a) = false := by
          cases h : x.isPrefixOf (s.data.toList.drop a)
          · rfl
          · have := (hpi.1 h).1; omega
        have es : ¬ (e : Int) ≤ (s.size : Int) := by omega
        replace hno := Lib.hid hno
        replace hx := Lib.hid hx
        replace hlen := Lib.hid hlen
        clear hpi hxs hbz he
        generalize ba x = y at *
        go_wp2_with fail
        go_roundw
        case rel => exact ⟨k + 1, by omega, by go_num, Lib.hid (fun j z h hj => by
          by_cases c : j < k
          · exact H.out j z c hj
          · obtain rfl : j = k := by omega
            rw [hx.out] at hj
            injection hj with hj
            rw [← hj]; exact hno.out), by first | rfl | trivial⟩
        case measure => simp [intOf]; omega
    · obtain rfl : k = 17 := by omega
      have miss : signF (s[a]) (s.data.toList.drop (a + 1)) = tokNo := by
        have hn := H.out
        rw [hl.out] at hn
        exact sign_miss _ _ hn
      obtain ⟨c0, c1, c2, c3, c4, f0, f1, f2, f3, f4⟩ := hT2.out
      have g1 := mblock c0
      replace miss := Lib.hid miss
      go_wp2_with fail
      rw [miss.out]
      obtain ⟨q0, q1, q2, q3, q4⟩ := five_cells (.int .i64 0) (.string ⟨#[]⟩) (.int .i64 0) (.int .i64 0) (.int .i64 0) c0 c1 c2 c3 c4
      have B2 := (((((hB2.setCell (p := ⟨w.heap.size, 0, none⟩) (Nat.le_refl _) (.int .i64 0)).setCell (p := ⟨w.heap.size, 1, none⟩) (Nat.le_refl _) (.string ⟨#[]⟩)).setCell (p := ⟨w.heap.size, 2, none⟩) (Nat.le_refl _) (.int .i64 0)).setCell (p := ⟨w.heap.size, 3, none⟩) (Nat.le_refl _) (.int .i64 0)).setCell (p := ⟨w.heap.size, 4, none⟩) (Nat.le_refl _) (.int .i64 0))
      clear c0 c1 c2 c3 c4 f0 f1 f2 f3 f4
      generalize (((((v.setCell ⟨w.heap.size, 0, none⟩ (.int .i64 0)).setCell ⟨w.heap.size, 1, none⟩ (.string ⟨#[]⟩)).setCell ⟨w.heap.size, 2, none⟩ (.int .i64 0)).setCell ⟨w.heap.size, 3, none⟩ (.int .i64 0)).setCell ⟨w.heap.size, 4, none⟩ (.int .i64 0)) = wz at *
      exact bodyPost_ret (v := .tuple #[.agg #[.int .i64 0, .string ⟨#[]⟩, .int .i64 0, .int .i64 0, .int .i64 0], .int .i64 0]) (by simp [results, Tryd.results18, go_sem, q0, q1, q2, q3, q4]) rfl ⟨rfl, B2⟩
end Go.Proofs.YteojcohmocbakaaDoor
