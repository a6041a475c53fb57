/- Hexadecimal texts of numbers read by strconv (ParseUint at base 16), as contracts. -/
import Derived.Test.YtkmlbifhpkfinaaGreatDoorTxB
import Derived.Test.YtkmlbifhpkfinaaGreatDoorShelf
import Derived.Lib.ConvBytes
import Derived.Lib.AtoiErrMem
import Derived.Lib.Hide
import Derived.Laws.Closers25
import Derived.Laws.Closers25b
import Derived.BigCall
import Derived.BigGuard
namespace Go.Proofs.YtkmlbifhpkfinaaGreatDoor
open Go.ChangeShapes Go.WideShapes Go.ChangeAt Go.RowKit
set_option linter.unusedVariables false
set_option linter.unusedSimpArgs false

def tupR : HexR → Value
  | .ok n => .tuple #[.int .u64 (n : Int), .nilIface]
  | .syntaxE => .tuple #[.int .u64 0, .iface 145 (.int .i64 2)]
  | .rangeE => .tuple #[.int .u64 18446744073709551615, .iface 145 (.int .i64 1)]
theorem or32 : ∀ x : Nat, x < 256 → bits .or .u8 (x : Int) 32 = ((x ||| 32 : Nat) : Int) ∧ x ||| 32 < 256 := by decide +kernel
theorem lower_at (x lo : Nat) (hx : x < 256) (hl : x ||| 32 = lo) (w : World) : Calls Tryz.prog 110 #[.int .u8 (x : Int)] w fun e w' => e = .returned (.int .u8 (lo : Int)) ∧ w = w' := by
  refine (Tryz.internal_strconv_lower (x : Int) w).mono ?_
  rintro e w' ⟨rfl, rfl⟩
  rw [(or32 x hx).1, hl]
  exact ⟨rfl, rfl⟩
theorem lower_95 (w : World) : Calls Tryz.prog 110 #[.int .u8 95] w fun e w' => e = .returned (.int .u8 127) ∧ w = w' := lower_at 95 127 (by decide) (by decide) w

set_option maxHeartbeats 8000000 in
set_option maxRecDepth 100000 in
theorem parseI_any (t : ByteArray) (hne : t.size ≠ 0) (hmax : t.size ≤ 9223372036854775806) (w : World) :
    Calls Tryz.prog 89 #[.string t, .int .i64 16, .int .i64 64] w fun e w' => e = .returned (tupR (hexP 0 t.data.toList)) ∧ Below w.heap.size w w' := by
  have hemp : t.toList.isEmpty = false := by
    rw [← decide_eq_emptyBytes]
    exact decide_eq_false (fun h => hne (by rw [h]; rfl))
  have hcv := Lib.run_convert_string_bytes (P := Tryz.prog) w 9 86 5 t (u := .string) Tryz.underlying9 Tryz.underlying86 Tryz.underlying5
  have hB : ∀ j, j < t.size → (Lib.bytesWorld w 5 t).cell? ⟨w.heap.size, j, none⟩ = some (.int .u8 (t.data.toList.getD j 0).toNat) := fun j hj => Lib.bytesWorld_cell w 5 t j hj
  have hBel : Below w.heap.size w (Lib.bytesWorld w 5 t) := Lib.bytesWorld_below w _ t
  generalize Lib.bytesWorld w 5 t = W1 at *
  obtain ⟨bs, hL⟩ : ∃ bs, bs = t.data.toList := ⟨_, rfl⟩
  have hLn : bs.length = t.size := by rw [hL, Lib.size_eq]
  rw [← hL] at hB ⊢
  clear hL
  have hmv : IntKind.u64.wrap (IntKind.u64.wrap 18446744073709551616 - 1) = 18446744073709551615 := by
    rw [IntKind.wrap_u64, IntKind.wrap_u64]
    decide
  go_enter Tryz.func89, Tryz.ntmps89
  go_wp2
  go_loop [12, 13, 101] (fun vu vn vi => ∃ (k acc : Nat) (a : Int), vu = .bool false ∧ vn = .int .u64 a ∧ vi = .int .i64 k ∧ k ≤ t.size ∧ Hid (a = (acc : Int) ∧ acc < 18446744073709551616 ∧ hexP 0 bs = hexP acc (bs.drop k)))
    (fun _ _ vi => t.size - (intOf vi).toNat)
  case atStart => exact ⟨0, 0, 0, rfl, rfl, rfl, by omega, rfl, by omega, rfl⟩
  case round =>
    obtain ⟨k, acc, a, rfl, rfl, rfl, hk, hh⟩ := hrel
    obtain ⟨ha, hacc, hdec⟩ := hh.out
    clear hh
    have a0 : 0 ≤ a := by omega
    have a1 : a < 18446744073709551616 := by omega
    by_cases hkn : k < t.size
    · have hc := hB k hkn
      have hdrop : bs.drop k = bs[k]'(by omega) :: bs.drop (k + 1) := List.drop_eq_getElem_cons (by omega)
      have hget : bs.getD k 0 = bs[k]'(by omega) := by simp [List.getD, List.getElem?_eq_getElem (show k < bs.length by omega)]
      rw [hdrop] at hdec
      rw [hget] at hc
      generalize bs[k]'(by omega) = c at hc hdec
      have hc256 : c.toNat < 256 := c.toNat_lt
      obtain ⟨lo, hlo⟩ : ∃ lo, c.toNat ||| 32 = lo := ⟨_, rfl⟩
      have hlo2 : lo < 256 := by rw [← hlo]; exact (or32 _ hc256).2
      have hLow := Lib.hid (fun w => lower_at c.toNat lo hc256 hlo w)
      clear hB hdrop hget
      have hV : hexV c.toNat = if 48 ≤ c.toNat ∧ c.toNat ≤ 57 then some (c.toNat - 48) else if 97 ≤ lo ∧ lo ≤ 102 then some (lo - 87) else none := by unfold hexV; rw [hlo]
      by_cases hdig : 48 ≤ c.toNat ∧ c.toNat ≤ 57
      · obtain ⟨hd0, hd1⟩ := hdig
        rw [if_pos ⟨hd0, hd1⟩] at hV
        by_cases hcut : 1152921504606846976 ≤ acc
        · have hF : hexP acc (c :: bs.drop (k + 1)) = .rangeE := by simp [hexP, hV, hcut]
          rw [hF] at hdec
          have icut : 1152921504606846976 ≤ a := by omega
          clear hcut hacc hF ha hV hlo
          go_wp2
          exact bodyPost_ret (v := tupR .rangeE) (by simp [results, Tryz.results89, go_sem, tupR]) rfl ⟨by first | rfl | rw [hdec], hBel⟩
        · have hF : hexP acc (c :: bs.drop (k + 1)) = hexP (acc * 16 + (c.toNat - 48)) (bs.drop (k + 1)) := by simp [hexP, hV, hcut]
          have HN : Hid (a * 16 + ((c.toNat : Int) - 48) = ((acc * 16 + (c.toNat - 48) : Nat) : Int) ∧ acc * 16 + (c.toNat - 48) < 18446744073709551616 ∧ hexP 0 bs = hexP (acc * 16 + (c.toNat - 48)) (bs.drop (k + 1))) := Lib.hid ⟨by omega, by omega, hdec.trans hF⟩
          have icut : a < 1152921504606846976 := by omega
          have iov : a * 16 + ((c.toNat : Int) - 48) < 18446744073709551616 := by omega
          clear hcut hacc hF hdec ha hV hlo
          go_wp2
          refine ⟨⟨k + 1, acc * 16 + (c.toNat - 48), a * 16 + ((c.toNat : Int) - 48), rfl, (by first | rfl | (congr 1; omega)), (by first | rfl | (congr 1; omega)), by omega, HN⟩, by simp [intOf]; omega⟩
      · rw [if_neg hdig] at hV
        by_cases hlet : 97 ≤ lo ∧ lo ≤ 102
        · obtain ⟨hd0, hd1⟩ := hlet
          rw [if_pos ⟨hd0, hd1⟩] at hV
          have h95 : ((c.toNat : Int) == 95) = false := by
            simp
            intro h
            have : c.toNat = 95 := by omega
            rw [this] at hlo
            simp at hlo
            omega
          by_cases hcut : 1152921504606846976 ≤ acc
          · have hF : hexP acc (c :: bs.drop (k + 1)) = .rangeE := by simp [hexP, hV, hcut]
            rw [hF] at hdec
            have icut : 1152921504606846976 ≤ a := by omega
            clear hcut hacc hF ha hV hlo
            go_wp2_with (go_at_call 110; refine (hLow.out _).mono ?_; rintro e w1 ⟨rfl, rfl⟩)
            all_goals first | (exfalso; omega) | exact bodyPost_ret (v := tupR .rangeE) (by simp [results, Tryz.results89, go_sem, tupR]) rfl ⟨by first | rfl | rw [hdec], hBel⟩
          · have hF : hexP acc (c :: bs.drop (k + 1)) = hexP (acc * 16 + (lo - 87)) (bs.drop (k + 1)) := by simp [hexP, hV, hcut]
            have HN : Hid (a * 16 + ((lo : Int) - 87) = ((acc * 16 + (lo - 87) : Nat) : Int) ∧ acc * 16 + (lo - 87) < 18446744073709551616 ∧ hexP 0 bs = hexP (acc * 16 + (lo - 87)) (bs.drop (k + 1))) := Lib.hid ⟨by omega, by omega, hdec.trans hF⟩
            have icut : a < 1152921504606846976 := by omega
            clear hcut hacc hF hdec ha hV hlo
            go_wp2_with (go_at_call 110; refine (hLow.out _).mono ?_; rintro e w1 ⟨rfl, rfl⟩)
            all_goals first | (exfalso; omega) | exact ⟨⟨k + 1, acc * 16 + (lo - 87), a * 16 + ((lo : Int) - 87), rfl, (by first | rfl | (congr 1; omega)), (by first | rfl | (congr 1; omega)), by omega, HN⟩, by simp [intOf]; omega⟩
        · rw [if_neg hlet] at hV
          have hF : hexP acc (c :: bs.drop (k + 1)) = .syntaxE := by simp [hexP, hV]
          rw [hF] at hdec
          clear hacc hF ha hV hlo
          by_cases h95 : c.toNat = 95
          · have h95b : ((c.toNat : Int) == 95) = true := by simp; omega
            go_wp2_with (go_at_call 110; refine (lower_95 _).mono ?_; rintro e w1 ⟨rfl, rfl⟩)
            all_goals first | (exfalso; omega) | exact bodyPost_ret (v := tupR .syntaxE) (by simp [results, Tryz.results89, go_sem, tupR]) rfl ⟨by first | rfl | rw [hdec], hBel⟩
          · have h95b : ((c.toNat : Int) == 95) = false := by simp; omega
            go_wp2_with (go_at_call 110; refine (hLow.out _).mono ?_; rintro e w1 ⟨rfl, rfl⟩)
            all_goals first | (exfalso; omega) | exact bodyPost_ret (v := tupR .syntaxE) (by simp [results, Tryz.results89, go_sem, tupR]) rfl ⟨by first | rfl | rw [hdec], hBel⟩
    · have hkk : k = t.size := by omega
      subst hkk
      have hF : hexP acc (bs.drop t.size) = .ok acc := by rw [List.drop_eq_nil_of_le (by omega)]; rfl
      rw [hF] at hdec
      subst ha
      clear hacc hF a0 a1
      go_wp2
      exact bodyPost_ret (v := tupR (.ok acc)) (by simp [results, Tryz.results89, go_sem, tupR]) rfl ⟨by first | rfl | rw [hdec], hBel⟩
/-- the errors' variables hold errors -/
def ErrCells (w : World) : Prop := (∃ ev, w.cell? ⟨3, 0, none⟩ = some ev ∧ (ev = .nilIface ∨ ∃ te pe, ev = .iface te pe)) ∧ (∃ ev, w.cell? ⟨4, 0, none⟩ = some ev ∧ (ev = .nilIface ∨ ∃ te pe, ev = .iface te pe))
theorem ErrCells.later {w w1 : World} (h : ErrCells w) (hb : Below w.heap.size w w1) : ErrCells w1 := by
  obtain ⟨⟨ev, h1, h2⟩, ⟨ev', h3, h4⟩⟩ := h
  exact ⟨⟨ev, cell_later hb h1, h2⟩, ⟨ev', cell_later hb h3, h4⟩⟩
/-- what a text is read as: the empty one isn't a number -/
def readR (l : List UInt8) : HexR := if l = [] then .syntaxE else hexP 0 l
theorem parseE_any (t : ByteArray) (hmax : t.size ≤ 9223372036854775806) (w : World) :
    Calls Tryz.prog 89 #[.string t, .int .i64 16, .int .i64 64] w fun e w' => e = .returned (tupR (readR t.data.toList)) ∧ Below w.heap.size w w' := by
  by_cases h0 : t.size = 0
  · have ht : t = ⟨#[]⟩ := by
      apply ByteArray.ext
      exact Array.eq_empty_of_size_eq_zero h0
    subst ht
    exact (Tryz.internal_strconv_ParseUint_empty 16 64 w).mono fun e w' ⟨he, hw⟩ => ⟨he, hw ▸ Below.refl _ _⟩
  · have hne : t.data.toList ≠ [] := fun h => h0 (by rw [Lib.size_eq, h]; rfl)
    refine (parseI_any t h0 hmax w).mono fun e w' ⟨he, hw⟩ => ⟨?_, hw⟩
    rw [he, readR, if_neg hne]
/-- a number and no error; or some number and an error -/
def ParsA (r : HexR) (v : Value) : Prop := match r with
  | .ok n => v = .tuple #[.int .u64 (n : Int), .nilIface]
  | _ => ∃ (m : Nat) (t : TypeId) (p : Value), m < 18446744073709551616 ∧ v = .tuple #[.int .u64 (m : Int), .iface t p]
set_option maxHeartbeats 2000000 in
theorem parseU_any (t : ByteArray) (hmax : t.size ≤ 281474976710656) (w : World) (hE : ErrCells w) :
    Calls Tryz.prog 96 #[.string t, .int .i64 16, .int .i64 64] w fun e w' => (∃ v, e = .returned v ∧ ParsA (readR t.data.toList) v) ∧ Below w.heap.size w w' := by
  have C := parseE_any t (by omega) w
  generalize readR t.data.toList = r at *
  obtain ⟨⟨ev, h1, h2⟩, ⟨ev', h3, h4⟩⟩ := hE
  have T1 := fun w1 (hb : Below w.heap.size w w1) => Tryz.strconv_toError_syntax ⟨#[80, 97, 114, 115, 101, 85, 105, 110, 116]⟩ t 16 64 ev w1 hmax (cell_later hb h1) h2
  have T2 := fun w1 (hb : Below w.heap.size w w1) => Tryz.strconv_toError_range ⟨#[80, 97, 114, 115, 101, 85, 105, 110, 116]⟩ t 16 64 ev' w1 hmax (cell_later hb h3) h4
  replace C := Lib.hid C
  replace T1 := Lib.hid T1
  replace T2 := Lib.hid T2
  clear h1 h2 h3 h4
  cases r with
  | ok n =>
    go_enter Tryz.func96, Tryz.ntmps96
    go_wp2_with (go_at_call 89; refine C.out.mono ?_; rintro e w1 ⟨rfl, hb⟩; simp only [tupR])
    exact bodyPost_ret (v := .tuple #[.int .u64 (n : Int), .nilIface]) (by simp [results, Tryz.results96, go_sem]) rfl ⟨⟨_, rfl, rfl⟩, hb⟩
  | syntaxE =>
    go_enter Tryz.func96, Tryz.ntmps96
    go_wp2_with (first | (go_at_call 89; refine C.out.mono ?_; rintro e w1 ⟨rfl, hb⟩; simp only [tupR]) | (go_at_call 66; refine (T1.out _ hb).mono ?_; rintro e w2 ⟨N, rfl, _, _, hb2⟩))
    exact bodyPost_ret (v := .tuple #[.int .u64 0, .iface 148 (.pointer (some ⟨N, 0, none⟩))]) (by simp [results, Tryz.results96, go_sem]) rfl ⟨⟨_, rfl, 0, _, _, by decide, rfl⟩, mmore hb hb2⟩
  | rangeE =>
    go_enter Tryz.func96, Tryz.ntmps96
    go_wp2_with (first | (go_at_call 89; refine C.out.mono ?_; rintro e w1 ⟨rfl, hb⟩; simp only [tupR]) | (go_at_call 66; refine (T2.out _ hb).mono ?_; rintro e w2 ⟨N, rfl, _, _, hb2⟩))
    exact bodyPost_ret (v := .tuple #[.int .u64 18446744073709551615, .iface 148 (.pointer (some ⟨N, 0, none⟩))]) (by simp [results, Tryz.results96, go_sem]) rfl ⟨⟨_, rfl, 18446744073709551615, _, _, by decide, rfl⟩, mmore hb hb2⟩
end Go.Proofs.YtkmlbifhpkfinaaGreatDoor
