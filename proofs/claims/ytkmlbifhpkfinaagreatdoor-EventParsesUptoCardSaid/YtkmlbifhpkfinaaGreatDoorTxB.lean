/- Hexadecimal texts of numbers by strconv (FormatUint at base 16), as contracts. -/
import Derived.Test.YtkmlbifhpkfinaaGreatDoorTxA
import Derived.Test.YtkmlbifhpkfinaaGreatDoorMem
import Derived.Laws.BytesArg
import Derived.Laws.BitsAllLaws
import Derived.Lib.TrailingZeros
import Derived.Lib.LaidTab
namespace Go.Proofs.YtkmlbifhpkfinaaGreatDoor
open Go.ChangeShapes Go.WideShapes Go.ChangeAt Go.RowKit
set_option linter.unusedVariables false
set_option linter.unusedSimpArgs false

/-- the table that bits.TrailingZeros64 reads: only its one cell at 16 is read -/
def TzCell (w : World) : Prop := w.cell? ⟨6, 15, none⟩ = some (.int .u8 4)

theorem pow16_any (w : World) : Calls Tryz.prog 78 #[.int .i64 16] w fun e w' => e = .returned (.bool true) ∧ w = w' := by
  have h : bits BinOp.and IntKind.i64 16 15 = 0 := by decide
  go_enter Tryz.func78, Tryz.ntmps78
  go_wp2
  go_ret
  exact ⟨rfl, rfl⟩
set_option maxRecDepth 100000 in
theorem tz64_16 (w : World) (hT : TzCell w) : Calls Tryz.prog 102 #[.int .u64 16] w fun e w' => e = .returned (.int .i64 4) ∧ w = w' := by
  have key : IntKind.u64.wrap (bits BinOp.and IntKind.u64 16 (IntKind.u64.wrap (-16)) * 285870213051353865) / 288230376151711744 = 15 := by decide
  unfold TzCell at hT
  go_enter Tryz.func102, Tryz.ntmps102
  go_wp2_with (simp only [key])
  go_ret
  exact ⟨rfl, rfl⟩
theorem tz_16 (w : World) (hT : TzCell w) : Calls Tryz.prog 79 #[.int .u64 16] w fun e w' => e = .returned (.int .i64 4) ∧ w = w' := by
  have C := Lib.hid (tz64_16 w hT)
  go_enter Tryz.func79, Tryz.ntmps79
  go_wp2_with (go_at_call 102; refine C.out.mono ?_; rintro e w1 ⟨rfl, rfl⟩)
  go_ret
  exact ⟨rfl, rfl⟩
theorem TzCell.later {w w1 : World} (h : TzCell w) (hb : Below w.heap.size w w1) : TzCell w1 := cell_later hb h
/-- the buffer's end holds what is written so far -/
def BufI (w : World) (done : List UInt8) (W : World) : Prop :=
  ∃ cs, Blk W w.heap.size 130 cs ∧ cs.size = 65 ∧ (∀ (j : Nat) (b : UInt8), done[j]? = some b → cs[65 - done.length + j]? = some (.int .u8 (b.toNat : Int))) ∧ Below w.heap.size w W
theorem BufI.at_ {w W : World} {done : List UInt8} (h : BufI w done W) (q : Nat) (hq : q < 65) : ∃ v, W.cell? ⟨w.heap.size, q, none⟩ = some v := by
  obtain ⟨cs, hb, hz, _, _⟩ := h
  exact ⟨cs[q]'(by omega), by rw [hb.cell]; simp [hz, hq]⟩
theorem BufI.free {w W : World} {done : List UInt8} (h : BufI w done W) (q : Nat) : W.frozen? ⟨w.heap.size, q, none⟩ = false := by
  obtain ⟨cs, hb, hz, _, _⟩ := h
  exact hb.free q
theorem BufI.put_ {w W : World} {done : List UInt8} (h : BufI w done W) {q : Nat} (hq : q + 1 + done.length = 65) (b : UInt8) {x : Int} (hx : x = (b.toNat : Int)) : BufI w (b :: done) (W.setCell ⟨w.heap.size, q, none⟩ (.int .u8 x)) := by
  subst hx
  obtain ⟨cs, hb, hz, hc, hB⟩ := h
  refine ⟨_, hb.put_ q _, by simp [hz], fun j c hj => ?_, hB.setCell (Nat.le_refl _) _⟩
  rw [List.length_cons, show 65 - (done.length + 1) + j = q + j by omega]
  cases j with
  | zero =>
    simp at hj
    subst hj
    simp [Array.getElem?_setIfInBounds_self, hz]
    omega
  | succ j =>
    simp at hj
    have := hc j c hj
    rw [show 65 - done.length + j = q + (j + 1) by omega] at this
    rw [Array.getElem?_setIfInBounds_ne (by omega)]
    exact this
theorem BufI.text {w W : World} {done : List UInt8} (h : BufI w done W) {q : Nat} (hq : q + done.length = 65) (cap : Nat) :
    (convert 86 9 (.slice (some ⟨w.heap.size, q, none⟩) done.length cap)).run Tryz.prog W = .ok (.string ⟨done.toArray⟩) W := by
  obtain ⟨cs, hb, hz, hc, hB⟩ := h
  have := run_convert_bytes_arg (P := Tryz.prog) W 86 5 Tryz.underlying86 Tryz.underlying5 w.heap.size q done.length cap (done.map fun b => (b.toNat : Int)) (by simp) (fun i hi => by
    have h2 := hc i done[i] (List.getElem?_eq_getElem hi)
    rw [show 65 - done.length + i = q + i by omega] at h2
    rw [hb.cell, h2]
    simp [List.getD, hi]) _ Tryz.underlying9
  rw [this]
  simp [strOfNums, Function.comp_def]
theorem slice65 (W : World) (g q k : Nat) (hq : q + k = 65) (hk : 0 < k) : (Instr.sliceAt 130 (.pointer (some ⟨g, 0, none⟩)) (some (.int .i64 (q : Int))) none none).run Tryz.prog W = .ok (.slice (some ⟨g, q, none⟩) k k) W := by
  have hal : Tryz.prog.arrayLen 130 = 65 := by kernel_rfl
  have := run_sliceAt_array_l (P := Tryz.prog) W 130 ⟨g, 0, none⟩ (by kernel_rfl) .i64 (q : Int) (by omega) (by rw [hal]; omega)
  rw [this]
  have hs : (sizeOf (Tryz.prog.elem 130)).run Tryz.prog W = .ok 1 W := by kernel_rfl
  rw [hs]
  simp only [Result.andThen, slicedAt, hal, Int.toNat_natCast]
  rw [show 65 - q = k by omega, if_neg (by omega)]
  simp [go_sem]
theorem and15 (m : Nat) (hm : m < 18446744073709551616) : bits .and .u64 (m : Int) 15 = (m : Int) % 16 := by
  have := bits_and_u64_nat m 15 hm (by decide)
  rw [show ((15 : Nat) : Int) = 15 from rfl] at this
  rw [this, show (15 : Nat) = 2 ^ 4 - 1 from rfl, Nat.and_two_pow_sub_one_eq_mod]
  rfl
theorem dig_at (d : Nat) (h : d < 16) : (((⟨#[48, 49, 50, 51, 52, 53, 54, 55, 56, 57, 97, 98, 99, 100, 101, 102, 103, 104, 105, 106, 107, 108, 109, 110, 111, 112, 113, 114, 115, 116, 117, 118, 119, 120, 121, 122]⟩ : ByteArray)[d]'(by show d < 36; omega)).toNat : Int) = ((hexC d).toNat : Int) := by
  revert d
  decide
def digs : ByteArray := ⟨#[48, 49, 50, 51, 52, 53, 54, 55, 56, 57, 97, 98, 99, 100, 101, 102, 103, 104, 105, 106, 107, 108, 109, 110, 111, 112, 113, 114, 115, 116, 117, 118, 119, 120, 121, 122]⟩
set_option maxHeartbeats 4000000 in
set_option maxRecDepth 100000 in
theorem fmt16_any (n : Nat) (w : World) (hn : n < 18446744073709551616) (hT : TzCell w) :
    Calls Tryz.prog 54 #[.slice none 0 0, .int .u64 (n : Int), .int .i64 16, .bool false, .bool false] w fun e w' => e = .returned (.tuple #[.slice none 0 0, .string ⟨(hexD n).toArray⟩]) ∧ Below w.heap.size w w' := by
  have hP := Lib.hid pow16_any
  have hZ := Lib.hid tz_16
  replace hT := Lib.hid hT
  go_enter Tryz.func54, Tryz.ntmps54
  go_wp2_with (first | (go_at_call 78; refine (hP.out _).mono ?_; rintro e w1 ⟨rfl, rfl⟩) | (go_at_call 79; refine (hZ.out _ (hT.out.later (m1 _ _))).mono ?_; rintro e w1 ⟨rfl, rfl⟩))
  clear hP hZ hT
  have B0 : BufI w [] (w.alloc (Obj.cells Tryz.zeroCells130 130)) := ⟨_, Blk.made _ _ _, by kernel_rfl, fun j b h => by simp at h, m1 _ _⟩
  go_loopw [1, 13] (fun u i wr => ∃ (m q : Nat) (done : List UInt8), m < 18446744073709551616 ∧ u = .int .u64 (m : Int) ∧ i = .int .i64 ((q : Int) + 1) ∧ q + 1 + done.length = 65 ∧ Hid (m < 16 ^ (16 - done.length) ∧ done.length ≤ 15) ∧ Hid (hexD m ++ done = hexD n) ∧ BufI w done wr) (fun u _ _ => (intOf u).toNat)
  case atStart => exact ⟨n, 64, [], hn, rfl, rfl, rfl, Lib.hid ⟨by simpa using hn, by simp⟩, Lib.hid (by simp), B0⟩
  case round =>
    obtain ⟨m, q, done, hm, rfl, rfl, hq, hpw, hD, hB⟩ := hrel
    clear B0
    have hq65 : (q : Int) < 65 := by omega
    obtain ⟨cv, hcv⟩ := hB.at_ q (by omega)
    have hfr := hB.free q
    have hand := and15 m hm
    have hpo := hpw.out
    by_cases h16 : 16 ≤ m
    · have k1 : (m : Int) ≥ 16 := by omega
      have hdl : done.length ≤ 14 := by
        rcases Nat.lt_or_ge 14 done.length with h | h
        · have : done.length = 15 := by omega
          rw [this] at hpo
          simp at hpo
          omega
        · exact h
      have hp2 : m / 16 < 16 ^ (16 - (hexC (m % 16) :: done).length) ∧ (hexC (m % 16) :: done).length ≤ 15 := by
        rw [List.length_cons]
        have e : 16 - done.length = 16 - (done.length + 1) + 1 := by omega
        have h1 := hpo.1
        rw [e, Nat.pow_succ] at h1
        exact ⟨by omega, by omega⟩
      replace hp2 := Lib.hid hp2
      have hD2 : hexD (m / 16) ++ hexC (m % 16) :: done = hexD n := by rw [← hD.out, hexD_big (by omega : ¬ m < 16)]; simp
      replace hD2 := Lib.hid hD2
      have hcx := dig_at (m % 16) (by omega)
      have hq1 := Lib.hid (show 1 ≤ q by omega)
      clear hpo hdl
      go_wp2
      have hq1 := hq1.out
      refine ⟨⟨m / 16, q - 1, hexC (m % 16) :: done, by omega, by go_num, ?_, ?_, hp2, hD2, hB.put_ hq _ ?_⟩, by simp [intOf]; omega⟩
      · rw [show (((q - 1 : Nat) : Int) + 1) = (q : Int) by omega]
      · simp; omega
      · rfl
    · have k1 : ¬ (m : Int) ≥ 16 := by omega
      have hsl := fun W => slice65 W w.heap.size q (done.length + 1) (by omega) (by omega)
      have hcx := dig_at m (by omega)
      have hB2 := hB.put_ hq (hexC m) rfl
      have cv2 := hB2.text (q := q) (by simp; omega) (done.length + 1)
      rw [List.length_cons] at cv2
      have hD2 : hexC m :: done = hexD n := by rw [← hD.out, hexD_small (by omega)]; rfl
      rw [hD2] at cv2
      have hBel : Below w.heap.size w (wr.setCell ⟨w.heap.size, q, none⟩ (.int .u8 ((hexC m).toNat : Int))) := by obtain ⟨_, _, _, _, h⟩ := hB2; exact h
      replace hD2 := Lib.hid hD2
      clear hpo hB hB2
      go_wp2
      exact bodyPost_ret (v := .tuple #[.slice none 0 0, .string ⟨(hexD n).toArray⟩]) (by simp [results, Tryz.results54, go_sem]) rfl ⟨rfl, hBel⟩
theorem fmtI_any (n : Nat) (w : World) (hn : n < 18446744073709551616) (hT : TzCell w) :
    Calls Tryz.prog 80 #[.int .u64 (n : Int), .int .i64 16] w fun e w' => e = .returned (.string ⟨(hexD n).toArray⟩) ∧ Below w.heap.size w w' := by
  have C := Lib.hid (fmt16_any n w hn hT)
  clear hT
  go_enter Tryz.func80, Tryz.ntmps80
  go_wp2_with (go_at_call 54; refine C.out.mono ?_; rintro e w1 ⟨rfl, hb⟩)
  go_ret
  exact ⟨rfl, hb⟩
theorem fmt_any (n : Nat) (w : World) (hn : n < 18446744073709551616) (hT : TzCell w) :
    Calls Tryz.prog 56 #[.int .u64 (n : Int), .int .i64 16] w fun e w' => e = .returned (.string ⟨(hexD n).toArray⟩) ∧ Below w.heap.size w w' := by
  have C := Lib.hid (fmtI_any n w hn hT)
  clear hT
  go_enter Tryz.func56, Tryz.ntmps56
  go_wp2_with (go_at_call 80; refine C.out.mono ?_; rintro e w1 ⟨rfl, hb⟩)
  go_ret
  exact ⟨rfl, hb⟩
end Go.Proofs.YtkmlbifhpkfinaaGreatDoor
