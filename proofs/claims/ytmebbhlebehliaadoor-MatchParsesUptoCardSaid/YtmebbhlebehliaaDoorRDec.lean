/- The document's digits of whole numbers, as a contract. -/
import Derived.Test.YtmebbhlebehliaaDoorLine
import Derived.Lib.ItoaNum
import Derived.Laws.BytesArg
namespace Go.Proofs.YtmebbhlebehliaaDoor
open Go.ChangeShapes Go.WideShapes Go.ChangeAt Go.RowKit
set_option linter.unusedVariables false
set_option linter.unusedSimpArgs false

theorem digit_text (w : World) (n : Nat) (hn : n < 256) : (convert 42 9 (.slice (some ⟨w.heap.size, 0, none⟩) 1 1)).run Tryd.prog (w.alloc (.cells #[.int .u8 (n : Int)] 5)) = .ok (.string ⟨#[UInt8.ofNat n]⟩) (w.alloc (.cells #[.int .u8 (n : Int)] 5)) := by
  have h := run_convert_bytes_arg (P := Tryd.prog) (w.alloc (.cells #[.int .u8 (n : Int)] 5)) 42 5 Tryd.underlying42 Tryd.underlying5 w.heap.size 0 1 1 [(n : Int)] rfl (fun i hi => by
    obtain rfl : i = 0 := by omega
    simp [go_sem]) 9 Tryd.underlying9
  rw [h]
  rfl
theorem dec_step {m : Nat} (h : 9 < m) (t : ByteArray) : Lib.decDigits (m / 10) ++ ((⟨#[UInt8.ofNat (48 + m % 10)]⟩ : ByteArray) ++ t).data.toList = Lib.decDigits m ++ t.data.toList := by
  conv => rhs; rw [Lib.decDigits, dif_neg (by omega)]
  simp [ByteArray.toList_data_append]
theorem dec_last {m : Nat} (h : ¬ 9 < m) (t : ByteArray) : ((⟨#[UInt8.ofNat (48 + m)]⟩ : ByteArray) ++ t).data.toList = Lib.decDigits m ++ t.data.toList := by
  rw [Lib.decDigits, dif_pos (by omega)]
  simp [ByteArray.toList_data_append]

theorem bytes_back (b : ByteArray) : b = ⟨b.data.toList.toArray⟩ := by cases b; simp
theorem dec_len : ∀ (k u : Nat), 0 < k → u < 10 ^ k → (Lib.decDigits u).length ≤ k
  | 0, _, h, _ => by omega
  | k + 1, u, _, h => by
    rw [Lib.decDigits]
    split
    · simp
    · by_cases hk : 0 < k
      · have hu : u / 10 < 10 ^ k := by rw [Nat.pow_succ] at h; omega
        have := dec_len k (u / 10) hk hu
        simp
        omega
      · obtain rfl : k = 0 := by omega
        simp at h
        omega
theorem dec_size {m m0 : Nat} {t : ByteArray} (h : Lib.decDigits m ++ t.data.toList = Lib.decDigits m0) (hm : m0 ≤ 9223372036854775807) : t.size ≤ 19 := by
  have h1 := dec_len 19 m0 (by decide) (Nat.lt_of_le_of_lt hm (by decide))
  rw [← h, List.length_append] at h1
  have : t.data.toList.length = t.size := Array.length_toList
  omega

theorem dec_size2 {m m0 : Nat} {t : ByteArray} (h : Lib.decDigits m ++ t.data.toList = Lib.decDigits m0) (hm : m0 ≤ 9223372036854775808) : t.size ≤ 19 := by
  have h1 := dec_len 19 m0 (by decide) (Nat.lt_of_le_of_lt hm (by decide))
  rw [← h, List.length_append] at h1
  have : t.data.toList.length = t.size := Array.length_toList
  omega

set_option maxHeartbeats 4000000 in
set_option maxRecDepth 100000 in
theorem rdecimal_pos (m0 : Nat) (w : World) (hm : m0 ≤ 9223372036854775807) :
    Calls Tryd.prog 18 #[.int .i64 (m0 : Int)] w fun e w' => e = .returned (.string ⟨(Lib.decDigits m0).toArray⟩) ∧ Below w.heap.size w w' := by
  have c1 : IntKind.u64.wrap (m0 : Int) = (m0 : Int) := by rw [IntKind.wrap_u64]; omega
  have c2 : ¬ (m0 : Int) < 0 := by omega
  go_enter Tryd.func18, Tryd.ntmps18
  go_wp2_with fail
  go_loopw [3, 4] (fun s i wr => ∃ (m : Nat) (t : ByteArray), m ≤ 9223372036854775807 ∧ i = .int .u64 (m : Int) ∧ s = .string t ∧ Hid (Lib.decDigits m ++ t.data.toList = Lib.decDigits m0) ∧ Below w.heap.size w wr) (fun _ i _ => (intOf i).toNat)
  case atStart => exact ⟨m0, ⟨#[]⟩, hm, rfl, rfl, Lib.hid (by simp), Below.refl _ _⟩
  case round =>
    obtain ⟨m, t, hml, rfl, rfl, hD, hB⟩ := hrel
    have hts := dec_size hD.out hm
    have hto : ¬ 9223372036854775807 < 1 + t.size := by omega
    by_cases h9 : 9 < m
    · have k1 : (m : Int) > 9 := by omega
      have cv := digit_text wr (48 + m % 10) (by omega)
      rw [show ((48 + m % 10 : Nat) : Int) = 48 + (m : Int) % 10 by omega] at cv
      have hB2 := mmore hB (m1 wr (.cells #[.int .u8 (48 + (m : Int) % 10)] 5))
      have hD2 := (dec_step h9 t).trans hD.out
      obtain ⟨d, hd⟩ : ∃ d, UInt8.ofNat (48 + m % 10) = d := ⟨_, rfl⟩
      rw [hd] at cv hD2
      replace hD2 := Lib.hid hD2
      replace hd := Lib.hid hd
      go_wp2
      go_roundw
      case rel => exact ⟨m / 10, _, by omega, by go_num, rfl, hD2, hB2⟩
      case measure => simp [intOf]; omega
    · have k1 : ¬ (m : Int) > 9 := by omega
      have cv := digit_text wr (48 + m) (by omega)
      rw [show ((48 + m : Nat) : Int) = 48 + (m : Int) by omega] at cv
      have hB2 := mmore hB (m1 wr (.cells #[.int .u8 (48 + (m : Int))] 5))
      have hD2 := (dec_last h9 t).trans hD.out
      obtain ⟨d, hd⟩ : ∃ d, UInt8.ofNat (48 + m) = d := ⟨_, rfl⟩
      rw [hd] at cv hD2
      replace hD2 := Lib.hid hD2
      replace hd := Lib.hid hd
      go_wp2
      go_ret
      refine ⟨?_, hB2⟩
      rw [← hD2.out]
      exact congrArg (fun b => Ending.returned (Value.string b)) (bytes_back _)
set_option maxHeartbeats 4000000 in
set_option maxRecDepth 100000 in
theorem rdecimal_neg (m0 : Nat) (x : Int) (w : World) (hx : x = -(m0 : Int)) (h0 : 0 < m0) (hm : m0 ≤ 9223372036854775808) :
    Calls Tryd.prog 18 #[.int .i64 x] w fun e w' => e = .returned (.string ((⟨#[45]⟩ : ByteArray) ++ ⟨(Lib.decDigits m0).toArray⟩)) ∧ Below w.heap.size w w' := by
  obtain ⟨y, hy⟩ : ∃ y, IntKind.u64.wrap x = y := ⟨_, rfl⟩
  have c3 : IntKind.u64.wrap (-y) = (m0 : Int) := by rw [IntKind.wrap_u64] at hy ⊢; omega
  have c2 : x < 0 := by omega
  replace hx := Lib.hid hx
  go_enter Tryd.func18, Tryd.ntmps18
  go_wp2_with fail
  go_loopw [3, 4] (fun s i wr => ∃ (m : Nat) (t : ByteArray), m ≤ 9223372036854775808 ∧ i = .int .u64 (m : Int) ∧ s = .string t ∧ Hid (Lib.decDigits m ++ t.data.toList = Lib.decDigits m0) ∧ Below w.heap.size w wr) (fun _ i _ => (intOf i).toNat)
  case atStart => exact ⟨m0, ⟨#[]⟩, hm, rfl, rfl, Lib.hid (by simp), Below.refl _ _⟩
  case round =>
    obtain ⟨m, t, hml, rfl, rfl, hD, hB⟩ := hrel
    have hts := dec_size2 hD.out hm
    have hto : ¬ 9223372036854775807 < 1 + t.size := by omega
    have hto2 : ¬ 9223372036854775807 < 1 + (1 + t.size) := by omega
    by_cases h9 : 9 < m
    · have k1 : (m : Int) > 9 := by omega
      have cv := digit_text wr (48 + m % 10) (by omega)
      rw [show ((48 + m % 10 : Nat) : Int) = 48 + (m : Int) % 10 by omega] at cv
      have hB2 := mmore hB (m1 wr (.cells #[.int .u8 (48 + (m : Int) % 10)] 5))
      have hD2 := (dec_step h9 t).trans hD.out
      obtain ⟨d, hd⟩ : ∃ d, UInt8.ofNat (48 + m % 10) = d := ⟨_, rfl⟩
      rw [hd] at cv hD2
      replace hD2 := Lib.hid hD2
      replace hd := Lib.hid hd
      go_wp2
      go_roundw
      case rel => exact ⟨m / 10, _, by omega, by go_num, rfl, hD2, hB2⟩
      case measure => simp [intOf]; omega
    · have k1 : ¬ (m : Int) > 9 := by omega
      have cv := digit_text wr (48 + m) (by omega)
      rw [show ((48 + m : Nat) : Int) = 48 + (m : Int) by omega] at cv
      have hB2 := mmore hB (m1 wr (.cells #[.int .u8 (48 + (m : Int))] 5))
      have hD2 := (dec_last h9 t).trans hD.out
      obtain ⟨d, hd⟩ : ∃ d, UInt8.ofNat (48 + m) = d := ⟨_, rfl⟩
      rw [hd] at cv hD2
      replace hD2 := Lib.hid hD2
      replace hd := Lib.hid hd
      go_wp2
      go_ret
      refine ⟨?_, hB2⟩
      rw [← hD2.out]
      exact congrArg (fun b => Ending.returned (Value.string ((⟨#[45]⟩ : ByteArray) ++ b))) (bytes_back _)

theorem minus_text (l : List UInt8) : (⟨#[45]⟩ : ByteArray) ++ ⟨l.toArray⟩ = ⟨(45 :: l).toArray⟩ := by
  have h := bytes_back ((⟨#[45]⟩ : ByteArray) ++ ⟨l.toArray⟩)
  rw [h]
  simp [ByteArray.toList_data_append]
/-- the document's digits are the library's -/
theorem rdecimal_any (n : Int) (w : World) (h0 : -9223372036854775808 ≤ n) (h1 : n ≤ 9223372036854775807) :
    Calls Tryd.prog 18 #[.int .i64 n] w fun e w' => e = .returned (.string ⟨(Lib.itoa n).toArray⟩) ∧ Below w.heap.size w w' := by
  by_cases h : n < 0
  · have e : Lib.itoa n = 45 :: Lib.decDigits n.natAbs := by unfold Lib.itoa; rw [if_pos h]
    rw [e, ← minus_text]
    exact rdecimal_neg n.natAbs n w (by omega) (by omega) (by omega)
  · have e : Lib.itoa n = Lib.decDigits n.toNat := by unfold Lib.itoa; rw [if_neg h]
    rw [e]
    have hn : n = (n.toNat : Int) := by omega
    have := rdecimal_pos n.toNat w (by omega)
    rw [← hn] at this
    exact this
end Go.Proofs.YtmebbhlebehliaaDoor
