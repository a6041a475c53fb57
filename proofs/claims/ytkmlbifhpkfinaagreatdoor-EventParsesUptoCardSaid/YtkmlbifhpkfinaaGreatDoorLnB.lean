/- Words that are read (strings.Cut at a blank, numbers, floats, symbols; event.read), as contracts. -/
import Derived.Test.YtkmlbifhpkfinaaGreatDoorLnA
import Derived.Test.YtkmlbifhpkfinaaGreatDoorShelf
namespace Go.Proofs.YtkmlbifhpkfinaaGreatDoor
open Go.ChangeShapes Go.WideShapes Go.ChangeAt Go.RowKit Go.Fl Go.Shelf
set_option linter.unusedVariables false
set_option linter.unusedSimpArgs false

theorem bdrewN {B : Nat} {a w : World} (h : Below B a w) (n : Nat) : Below B a (w.drewN n) := ⟨h.os, h.tape, h.output, h.size, h.block⟩
theorem ext_take (s : ByteArray) (k : Nat) : s.extract 0 k = bl (s.data.toList.take k) := by
  rw [bl_ext (ext_list s 0 k)]
  simp
theorem ext_drop (s : ByteArray) (k : Nat) : s.extract k s.size = bl (s.data.toList.drop k) := by
  rw [bl_ext (ext_list s k s.size), List.take_of_length_le (by rw [List.length_drop, list_len]; omega)]
def CutsE (s : ByteArray) (w : World) (e : Ending) (w' : World) : Prop :=
  (∃ b : Bool, e = .returned (.tuple #[.string (bl (cutL s.data.toList)), .string (bl (cutR s.data.toList)), .bool b])) ∧ Below w.heap.size w w'
set_option maxHeartbeats 1000000 in
theorem cut_any (s : ByteArray) (w : World) (hs : s.size ≤ 281474976710656) :
    Calls Tryz.prog 41 #[.string s, .string ⟨#[32]⟩] w (CutsE s w) := by
  have hI := Tryz.stringslite_Index_one s 32 w
  rcases index_cut s.data.toList with ⟨h1, h2, h3⟩ | ⟨k, h1, h2, h3, h4⟩
  · rw [h1] at hI
    have hb : bl (cutL s.data.toList) = s := by rw [h2, bl_of]
    have hc : bl (cutR s.data.toList) = ⟨#[]⟩ := by rw [h3]; rfl
    unfold CutsE
    rw [hb, hc]
    replace hI := Lib.hid hI
    clear h1 h2 h3 hb hc
    have C : Calls Tryz.prog 62 #[.string s, .string ⟨#[32]⟩] w fun e w' => e = .returned (.tuple #[.string s, .string ⟨#[]⟩, .bool false]) ∧ Below w.heap.size w w' := by
      go_enter Tryz.func62, Tryz.ntmps62
      go_wp2_with (go_at_call 88; refine hI.out.mono ?_; rintro e w1 ⟨rfl, rfl⟩)
      exact bodyPost_ret (v := .tuple #[.string s, .string ⟨#[]⟩, .bool false]) (by simp [results, Tryz.results62, go_sem]) rfl ⟨rfl, Below.refl _ _⟩
    replace C := Lib.hid C
    go_enter Tryz.func41, Tryz.ntmps41
    go_wp2_with (go_at_call 62; refine C.out.mono ?_; rintro e w1 ⟨rfl, hb1⟩)
    exact bodyPost_ret (v := .tuple #[.string s, .string ⟨#[]⟩, .bool false]) (by simp [results, Tryz.results41, go_sem]) rfl ⟨⟨_, rfl⟩, hb1⟩
  · rw [h1] at hI
    have hkr : k < s.size := by rw [list_len] at h2; exact h2
    have hb : bl (cutL s.data.toList) = s.extract 0 k := by rw [h3, ext_take]
    have hc : bl (cutR s.data.toList) = s.extract (k + 1) s.size := by rw [h4, ext_drop]
    unfold CutsE
    rw [hb, hc]
    have hsz : (⟨#[32]⟩ : ByteArray).size = 1 := rfl
    have k0 : (0 : Int) ≤ (k : Int) := by omega
    have k1 : (k : Int) ≤ (s.size : Int) := by omega
    have k3 : IntKind.i64.wrap ((k : Int) + 1) = (k : Int) + 1 := by rw [IntKind.wrap_i64]; omega
    have k4 : (k : Int) + 1 ≤ (s.size : Int) := by omega
    have k5 : (0 : Int) ≤ (k : Int) + 1 := by omega
    replace hI := Lib.hid hI
    clear h1 h2 h3 h4 hb hc
    have C : Calls Tryz.prog 62 #[.string s, .string ⟨#[32]⟩] w fun e w' => e = .returned (.tuple #[.string (s.extract 0 k), .string (s.extract (k + 1) s.size), .bool true]) ∧ Below w.heap.size w w' := by
      go_enter Tryz.func62, Tryz.ntmps62
      go_wp2_with (go_at_call 88; refine hI.out.mono ?_; rintro e w1 ⟨rfl, rfl⟩)
      go_quiet (fail)
      go_wp2
      exact bodyPost_ret (v := .tuple #[.string (s.extract 0 k), .string (s.extract (k + 1) s.size), .bool true]) (by simp [results, Tryz.results62, go_sem]) rfl ⟨rfl, bdrewN (Below.refl _ _) _⟩
    replace C := Lib.hid C
    go_enter Tryz.func41, Tryz.ntmps41
    go_wp2_with (go_at_call 62; refine C.out.mono ?_; rintro e w1 ⟨rfl, hb1⟩)
    exact bodyPost_ret (v := .tuple #[.string (s.extract 0 k), .string (s.extract (k + 1) s.size), .bool true]) (by simp [results, Tryz.results41, go_sem]) rfl ⟨⟨_, rfl⟩, hb1⟩

/-- a number is read -/
def IntR (s : ByteArray) (w : World) (e : Ending) (w' : World) : Prop :=
  (∃ (n : Int) (ev : Value), e = .returned (.tuple #[.int .i64 n, ev]) ∧ -9223372036854775808 ≤ n ∧ n ≤ 9223372036854775807 ∧ (∀ x : Int, -9223372036854775808 ≤ x → x ≤ 9223372036854775807 → s.data.toList = Lib.itoa x → n = x)) ∧ Below w.heap.size w w'
theorem intSat_range (l : List UInt8) : -9223372036854775808 ≤ Lib.intSat 64 l ∧ Lib.intSat 64 l ≤ 9223372036854775807 := by
  unfold Lib.intSat
  split <;> simp
theorem pint_any (s : ByteArray) (w : World) (hs : s.size ≤ 281474976710656) (hE : ErrCells w) :
    Calls Tryz.prog 43 #[.string s, .int .i64 10, .int .i64 64] w (IntR s w) := by
  obtain ⟨⟨e1, c1, k1⟩, ⟨e2, c2, k2⟩⟩ := hE
  rcases h : Lib.parseIntB 64 s.data.toList with v | - | -
  · have hb := Lib.parseIntB_bounds h
    refine (Tryz.strconv_ParseInt_10_at64_ok s (by omega) v h w).mono ?_
    rintro e w' ⟨rfl, hw⟩
    refine ⟨⟨v, .nilIface, rfl, by simp at hb; omega, by simp at hb; omega, fun x h0 h1 he => ?_⟩, ?_⟩
    · rw [he, parse_itoa h0 h1] at h
      injection h with h
      exact h.symm
    · rcases hw with rfl | ⟨t, rfl⟩
      · exact Below.refl _ _
      · exact Lib.bytesWorld_below _ _ _
  · refine (Any.strconv_ParseInt_10_at64_syntax Tryz.laysC174 s hs h e1 w c1 k1).mono ?_
    rintro e w' ⟨N, rfl, _, _, hb⟩
    refine ⟨⟨0, _, rfl, by decide, by decide, fun x h0 h1 he => ?_⟩, hb⟩
    rw [he, parse_itoa h0 h1] at h
    cases h
  · refine (Tryz.strconv_ParseInt_10_at64_range s hs h e2 w c2 k2).mono ?_
    rintro e w' ⟨N, rfl, _, _, hb⟩
    have hr := intSat_range s.data.toList
    refine ⟨⟨_, _, rfl, hr.1, hr.2, fun x h0 h1 he => ?_⟩, hb⟩
    rw [he, parse_itoa h0 h1] at h
    cases h

/-- a float is read -/
def RealR (s : ByteArray) (w : World) (e : Ending) (w' : World) : Prop :=
  (∃ (n : Nat) (b : Bool), e = .returned (.tuple #[.int .u64 (n : Int), .bool b]) ∧ n < 18446744073709551616 ∧ (∀ m, m < 18446744073709551616 → s.data.toList = textB (cn m) → n = cn m)) ∧ Below w.heap.size w w'
theorem preal_any (s : ByteArray) (w : World) (hs : s.size ≤ 281474976710656) (hT : TzCell w) (hE : ErrCells w) :
    Calls Tryz.prog 69 #[.string s] w (RealR s w) := by
  by_cases hy : ∃ m, m < 18446744073709551616 ∧ ftOf m = s
  · obtain ⟨m, hm, rfl⟩ := hy
    refine (parse_yes m w hm hT hE).mono ?_
    rintro e w' ⟨rfl, hb⟩
    refine ⟨⟨cn m, true, rfl, cn_lt hm, fun k hk he => ?_⟩, hb⟩
    exact ftOf_inj hm hk (bl_ext he)
  · refine (parse_no s w hs (fun m hm h => hy ⟨m, hm, h⟩) hT hE).mono ?_
    rintro e w' ⟨rfl, hb⟩
    refine ⟨⟨0, false, rfl, by decide, fun m hm he => absurd ⟨m, hm, ?_⟩ hy⟩, hb⟩
    exact (bl_ext he).symm
end Go.Proofs.YtkmlbifhpkfinaaGreatDoor
