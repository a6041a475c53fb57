/- The texts of floats (real.Text, real.Parse, the document's Text), as contracts. -/
import Derived.Test.YtkmlbifhpkfinaaGreatDoorTxP
import Derived.Test.YtkmlbifhpkfinaaGreatDoorRealB
namespace Go.Proofs.YtkmlbifhpkfinaaGreatDoor
open Go.ChangeShapes Go.WideShapes Go.ChangeAt Go.RowKit Go.Fl
set_option linter.unusedVariables false
set_option linter.unusedSimpArgs false

theorem u64_of_wf {z : Int} (h : (Lit.int .u64 z).wf = true) : ∃ n : Nat, z = n ∧ n < 18446744073709551616 := by
  have h2 : IntKind.u64.min ≤ z ∧ z ≤ IntKind.u64.max := by simpa [Lit.wf] using h
  change (0 : Int) ≤ z ∧ z ≤ 18446744073709551615 at h2
  exact ⟨z.toNat, by omega, by omega⟩
/-- the text of a float -/
def ftOf (n : Nat) : ByteArray := ⟨(textB (cn n)).toArray⟩
theorem ftOf_size (n : Nat) : (ftOf n).size = 17 := by
  show (textB (cn n)).toArray.size = 17
  rw [List.size_toArray, textB_len]
theorem ftOf_cn (n : Nat) : ftOf (cn n) = ftOf n := by unfold ftOf; rw [cn_cn]
theorem ftOf_inj {m n : Nat} (hm : m < 18446744073709551616) (hn : n < 18446744073709551616) (h : ftOf m = ftOf n) : cn m = cn n := by
  unfold ftOf at h
  have h2 : textB (cn m) = textB (cn n) := by
    have := congrArg (fun b : ByteArray => b.data.toList) h
    simpa using this
  exact textB_inj (cn_lt hm) (cn_lt hn) h2
theorem rep48 (k : Nat) : Lib.repeatL [48] k = List.replicate k 48 := by
  induction k with
  | zero => rfl
  | succ k ih => rw [Lib.repeatL, List.replicate_succ, ← ih]; rfl
theorem join_text (n : Nat) (hn : n < 18446744073709551616) : (⟨#[35]⟩ : ByteArray) ++ ⟨(List.replicate (16 - (hexD (cn n)).length) 48).toArray⟩ ++ ⟨(hexD (cn n)).toArray⟩ = ftOf n := by
  apply ByteArray.ext
  unfold ftOf textB
  rw [hex16_D (cn_lt hn)]
  apply Array.ext'
  simp [ByteArray.toList_data_append]
set_option maxHeartbeats 2000000 in
theorem text_any (n : Nat) (w : World) (hn : n < 18446744073709551616) (hT : TzCell w) :
    Calls Tryz.prog 36 #[.int .u64 (n : Int)] w fun e w' => e = .returned (.string (ftOf n)) ∧ Below w.heap.size w w' := by
  have C := fmt_any (cn n) w (cn_lt hn) hT
  have hc := Lib.hid (canon_any n w hn)
  have hl := hexD_len (cn_lt hn)
  have hl2 := hexD_pos (cn n)
  have hj := join_text n hn
  have hz : (⟨(hexD (cn n)).toArray⟩ : ByteArray).size = (hexD (cn n)).length := by simp [ByteArray.size]
  generalize ftOf n = TT at *
  generalize hk : (hexD (cn n)).length = k at *
  generalize (⟨(hexD (cn n)).toArray⟩ : ByteArray) = D at *
  have R : ∀ w, Calls Tryz.prog 58 #[.string ⟨#[48]⟩, .int .i64 ((16 - k : Nat) : Int)] w fun e w' => e = .returned (.string ⟨(List.replicate (16 - k) 48).toArray⟩) ∧ Below w.heap.size w w' := fun w => by
    rw [← rep48]
    exact Tryz.strings_Repeat ⟨#[48]⟩ (16 - k) w (by omega) (by show 1 * (16 - k) ≤ _; omega)
  have hrz : (⟨(List.replicate (16 - k) 48).toArray⟩ : ByteArray).size = 16 - k := by simp [ByteArray.size]
  generalize (⟨(List.replicate (16 - k) 48).toArray⟩ : ByteArray) = Z at *
  have e1 : (16 : Int) - (k : Int) = ((16 - k : Nat) : Int) := by omega
  have t1 : ¬ 9223372036854775807 < 1 + Z.size := by omega
  have t2 : ¬ 9223372036854775807 < 1 + Z.size + D.size := by omega
  replace C := Lib.hid C
  replace R := Lib.hid R
  replace hj := Lib.hid hj
  replace e1 := Lib.hid e1
  clear hT
  go_enter Tryz.func36, Tryz.ntmps36
  go_wp2_with (first | (go_at_call 57; refine hc.out.mono ?_; rintro e w' ⟨rfl, rfl⟩) | (go_at_call 56; refine C.out.mono ?_; rintro e w1 ⟨rfl, hb⟩) | (rw [e1.out]; go_at_call 58; refine (R.out _).mono ?_; rintro e w2 ⟨rfl, hb2⟩))
  all_goals exact bodyPost_ret (v := .string TT) (by simp [results, Tryz.results36, go_sem, hj.out]) rfl ⟨rfl, mmore hb hb2⟩
theorem trim_text (n : Nat) : Lib.trimPrefix (ftOf n).data.toList [35] = hexK 16 (cn n) := by
  unfold Lib.trimPrefix Lib.hasPrefix ftOf textB
  simp
theorem read_text (n : Nat) (hn : n < 18446744073709551616) : readR (Lib.trimPrefix (ftOf n).data.toList [35]) = .ok (cn n) := by
  rw [trim_text, readR, if_neg, hexP_16 (cn_lt hn)]
  intro h
  have := hexK_len 16 (cn n)
  rw [h] at this
  cases this
theorem toList_ne {a b : ByteArray} (h : a ≠ b) : (a.toList == b.toList) = false := by
  simp
  intro e
  exact h (by
    apply ByteArray.ext
    apply Array.ext'
    rw [ByteArray.toList_eq, ByteArray.toList_eq] at e
    exact e)
set_option maxHeartbeats 2000000 in
theorem parse_yes (n : Nat) (w : World) (hn : n < 18446744073709551616) (hT : TzCell w) (hE : ErrCells w) :
    Calls Tryz.prog 69 #[.string (ftOf n)] w fun e w' => e = .returned (.tuple #[.int .u64 ((cn n : Nat) : Int), .bool true]) ∧ Below w.heap.size w w' := by
  have hr := read_text n hn
  have hz := ftOf_size n
  have TP := Tryz.strings_TrimPrefix (ftOf n) ⟨#[35]⟩ w
  have hsz : (⟨(Lib.trimPrefix (ftOf n).data.toList (⟨#[35]⟩ : ByteArray).data.toList).toArray⟩ : ByteArray).size ≤ 281474976710656 := by
    show (Lib.trimPrefix (ftOf n).data.toList [35]).toArray.size ≤ _
    rw [trim_text, List.size_toArray, hexK_len]
    decide
  have P := parseU_any _ hsz w hE
  rw [show (⟨(Lib.trimPrefix (ftOf n).data.toList (⟨#[35]⟩ : ByteArray).data.toList).toArray⟩ : ByteArray).data.toList = Lib.trimPrefix (ftOf n).data.toList [35] from rfl, hr] at P
  generalize (⟨(Lib.trimPrefix (ftOf n).data.toList (⟨#[35]⟩ : ByteArray).data.toList).toArray⟩ : ByteArray) = t at *
  have T : ∀ w1, Below w.heap.size w w1 → Calls Tryz.prog 36 #[.int .u64 ((cn n : Nat) : Int)] w1 fun e w' => e = .returned (.string (ftOf n)) ∧ Below w1.heap.size w1 w' := fun w1 hb => by
    have := text_any (cn n) w1 (cn_lt hn) (hT.later hb)
    rw [ftOf_cn] at this
    exact this
  generalize ftOf n = S at *
  replace TP := Lib.hid TP
  replace P := Lib.hid P
  replace T := Lib.hid T
  clear hr hT hE hsz
  go_enter Tryz.func69, Tryz.ntmps69
  go_wp2_with (first | (go_at_call 68; refine TP.out.mono ?_; rintro e w1 ⟨rfl, rfl⟩) | (go_at_call 96; refine P.out.mono ?_; rintro e w1 ⟨⟨v, rfl, hv⟩, hb⟩; simp only [ParsA] at hv; subst hv) | (go_at_call 36; refine (T.out _ hb).mono ?_; rintro e w2 ⟨rfl, hb2⟩))
  exact bodyPost_ret (v := .tuple #[.int .u64 ((cn n : Nat) : Int), .bool true]) (by simp [results, Tryz.results69, go_sem]) rfl ⟨rfl, mmore hb hb2⟩
set_option maxHeartbeats 2000000 in
theorem parse_no (s : ByteArray) (w : World) (hs : s.size ≤ 281474976710656) (hno : ∀ n, n < 18446744073709551616 → ftOf n ≠ s) (hT : TzCell w) (hE : ErrCells w) :
    Calls Tryz.prog 69 #[.string s] w fun e w' => e = .returned (.tuple #[.int .u64 0, .bool false]) ∧ Below w.heap.size w w' := by
  have TP := Tryz.strings_TrimPrefix s ⟨#[35]⟩ w
  have hsz : (⟨(Lib.trimPrefix s.data.toList (⟨#[35]⟩ : ByteArray).data.toList).toArray⟩ : ByteArray).size ≤ 281474976710656 := by
    show (Lib.trimPrefix s.data.toList [35]).toArray.size ≤ _
    rw [List.size_toArray]
    have : s.data.toList.length = s.size := Array.length_toList
    unfold Lib.trimPrefix
    split
    · simp; omega
    · omega
  have P := parseU_any _ hsz w hE
  have hlt : ∀ m, readR (⟨(Lib.trimPrefix s.data.toList (⟨#[35]⟩ : ByteArray).data.toList).toArray⟩ : ByteArray).data.toList = .ok m → m < 18446744073709551616 := fun m h => by
    unfold readR at h
    split at h
    · cases h
    · exact hexP_lt _ 0 m (by decide) h
  generalize (⟨(Lib.trimPrefix s.data.toList (⟨#[35]⟩ : ByteArray).data.toList).toArray⟩ : ByteArray) = t at *
  have T : ∀ m w1, m < 18446744073709551616 → Below w.heap.size w w1 → Calls Tryz.prog 36 #[.int .u64 ((m : Nat) : Int)] w1 fun e w' => (∃ x, e = .returned (.string x) ∧ (x.toList == s.toList) = false) ∧ Below w1.heap.size w1 w' := fun m w1 hm hb =>
    (text_any m w1 hm (hT.later hb)).mono fun e w' ⟨he, hb⟩ => ⟨⟨_, he, toList_ne (hno m hm)⟩, hb⟩
  generalize readR t.data.toList = r at *
  replace TP := Lib.hid TP
  replace P := Lib.hid P
  replace T := Lib.hid T
  clear hT hE hno hsz
  have fin : ∀ x y : Nat, True := fun _ _ => trivial
  cases r with
  | ok m =>
    have hm := hlt m rfl
    go_enter Tryz.func69, Tryz.ntmps69
    go_wp2_with (first | (go_at_call 68; refine TP.out.mono ?_; rintro e w1 ⟨rfl, rfl⟩) | (go_at_call 96; refine P.out.mono ?_; rintro e w1 ⟨⟨v, rfl, hv⟩, hb⟩; simp only [ParsA] at hv; subst hv) | (go_at_call 36; refine (T.out m _ hm hb).mono ?_; rintro e w2 ⟨⟨x, rfl, hx⟩, hb2⟩))
    exact bodyPost_ret (v := .tuple #[.int .u64 0, .bool false]) (by simp [results, Tryz.results69, go_sem]) rfl ⟨rfl, mmore hb hb2⟩
  | syntaxE =>
    go_enter Tryz.func69, Tryz.ntmps69
    go_wp2_with (first | (go_at_call 68; refine TP.out.mono ?_; rintro e w1 ⟨rfl, rfl⟩) | (go_at_call 96; refine P.out.mono ?_; rintro e w1 ⟨⟨v, rfl, hv⟩, hb⟩; simp only [ParsA] at hv; obtain ⟨m, et, ep, hm, rfl⟩ := hv))
    exact bodyPost_ret (v := .tuple #[.int .u64 0, .bool false]) (by simp [results, Tryz.results69, go_sem]) rfl ⟨rfl, hb⟩
  | rangeE =>
    go_enter Tryz.func69, Tryz.ntmps69
    go_wp2_with (first | (go_at_call 68; refine TP.out.mono ?_; rintro e w1 ⟨rfl, rfl⟩) | (go_at_call 96; refine P.out.mono ?_; rintro e w1 ⟨⟨v, rfl, hv⟩, hb⟩; simp only [ParsA] at hv; obtain ⟨m, et, ep, hm, rfl⟩ := hv))
    exact bodyPost_ret (v := .tuple #[.int .u64 0, .bool false]) (by simp [results, Tryz.results69, go_sem]) rfl ⟨rfl, hb⟩
theorem dig1 : ∀ d : Nat, d < 16 → (⟨#[48, 49, 50, 51, 52, 53, 54, 55, 56, 57, 97, 98, 99, 100, 101, 102]⟩ : ByteArray).extract d (d + 1) = ⟨#[hexC d]⟩ := by decide
set_option maxHeartbeats 2000000 in
set_option maxRecDepth 100000 in
theorem rtext_any (n : Nat) (w : World) (hn : n < 18446744073709551616) :
    Calls Tryz.prog 22 #[.int .u64 (n : Int)] w fun e w' => e = .returned (.string (ftOf n)) ∧ w = w' := by
  have hc := Lib.hid (rcanon_any n w hn)
  have hcl := cn_lt hn
  have hTT : (⟨(35 :: hexK 16 (cn n)).toArray⟩ : ByteArray) = ftOf n := rfl
  generalize ftOf n = TT at *
  generalize cn n = c at *
  replace hTT := Lib.hid hTT
  go_enter Tryz.func22, Tryz.ntmps22
  go_wp2_with (go_at_call 40; refine hc.out.mono ?_; rintro e w' ⟨rfl, rfl⟩)
  go_loopw [0, 3, 4] (fun a s i wr => ∃ (m k : Nat) (t : ByteArray), m < 18446744073709551616 ∧ k ≤ 16 ∧ a = .int .u64 (m : Int) ∧ s = .string t ∧ i = .int .i64 (k : Int) ∧ t.size = k ∧ Hid (hexK (16 - k) m ++ t.data.toList = hexK 16 c) ∧ w = wr) (fun _ _ i _ => 16 - (intOf i).toNat)
  case atStart => exact ⟨c, 0, ⟨#[]⟩, hcl, by decide, rfl, rfl, rfl, rfl, Lib.hid (by simp), rfl⟩
  case round =>
    obtain ⟨m, k, t, hm, hk, rfl, rfl, rfl, hts, hD, rfl⟩ := hrel
    by_cases h16 : k < 16
    · have k1 : (k : Int) < 16 := by omega
      have hd := dig1 (m % 16) (Nat.mod_lt _ (by decide))
      have hD2 : hexK (16 - (k + 1)) (m / 16) ++ ((⟨#[hexC (m % 16)]⟩ : ByteArray) ++ t).data.toList = hexK 16 c := by
        rw [← hD.out, show 16 - k = 16 - (k + 1) + 1 by omega, hexK]
        simp [ByteArray.toList_data_append]
      have hz2 : ((⟨#[hexC (m % 16)]⟩ : ByteArray) ++ t).size = k + 1 := by
        rw [ByteArray.size_append]
        show 1 + t.size = _
        omega
      have hto : ¬ 9223372036854775807 < 1 + t.size := by omega
      have w1 : IntKind.u64.wrap ((m : Int) % 16 + 1) = (m : Int) % 16 + 1 := by rw [IntKind.wrap_u64]; omega
      have l1 : (m : Int) % 16 + 1 ≤ 16 := by omega
      generalize hexC (m % 16) = hx at *
      replace hD2 := Lib.hid hD2
      replace hz2 := Lib.hid hz2
      go_wp2
      exact ⟨⟨m / 16, k + 1, _, by omega, by omega, by go_num, rfl, by go_num, hz2.out, hD2, trivial⟩, by simp [intOf]; omega⟩
    · have k1 : ¬ (k : Int) < 16 := by omega
      have hke : k = 16 := by omega
      have hto : ¬ 9223372036854775807 < 1 + t.size := by omega
      have hR : (⟨#[35]⟩ : ByteArray) ++ t = TT := by
        rw [← hTT.out, ← hD.out, hke]
        apply ByteArray.ext
        apply Array.ext'
        simp [ByteArray.toList_data_append, hexK]
      go_wp2
      go_ret
      exact ⟨by first | rfl | rw [hR], rfl⟩
end Go.Proofs.YtkmlbifhpkfinaaGreatDoor
