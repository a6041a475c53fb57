/- The chapter's examples of layer 20, and the document's numbers as they are read, as contracts. -/
import Derived.Test.YthoknfkldmfdpaaWrE
import Derived.Test.YthoknfkldmfdpaaWrF
import Derived.Lib.SlBytesConst
namespace Go.Proofs.Ythoknfkldmfdpaa
open Go.ChangeShapes Go.WideShapes Go.ChangeAt Go.RowKit
set_option linter.unusedVariables false
set_option linter.unusedSimpArgs false

theorem lit_bys (w : World) (l : List Nat) (cs : Array Value) (h : cs.toList = bcells l) : Bys (w.alloc (.cells cs 5)) (some ⟨w.heap.size, 0, none⟩) l := by
  refine ⟨by rw [bcells_length, Nat.mul_one], fun hl => ⟨_, rfl, by simp, fun j u hu => ?_⟩⟩
  have hadd : (⟨w.heap.size, 0, none⟩ : Addr).add j = ⟨w.heap.size, j, none⟩ := by unfold Addr.add; split <;> simp_all
  rw [hadd, (Blk.made w _ cs).cell, ← Array.getElem?_toList, h, hu]
/-- a constant's bytes, their row marked behind its end -/
theorem const_bys (w : World) (l : List Nat) (cs : Array Value) (m : Nat × Nat) (h : cs.toList = bcells l) : Bys (w.alloc (.cells cs 5 m)) (some ⟨w.heap.size, 0, none⟩) l := by
  refine ⟨by rw [bcells_length, Nat.mul_one], fun hl => ⟨_, rfl, by simp, fun j u hu => ?_⟩⟩
  have hadd : (⟨w.heap.size, 0, none⟩ : Addr).add j = ⟨w.heap.size, j, none⟩ := by unfold Addr.add; split <;> simp_all
  rw [hadd, cell_of_row (w.alloc (.cells cs 5 m)) w.heap.size j cs _ m (heap_alloc_new w _), ← Array.getElem?_toList, h, hu]
theorem u300 : uintL 300 = [172, 2] := by rw [uintL_more (by decide), uintL_small (by decide)]
theorem u1 : uintL (zig (-1)) = [1] := by rw [show zig (-1) = 1 by decide, uintL_small (by decide)]
theorem s9 : sumL [49, 50, 51, 52, 53, 54, 55, 56, 57] = 3421780262 := by decide +kernel
theorem n128 : numOf [128, 0] = none := by decide
theorem byt_of {l : List Nat} (h : l.all (· < 256) = true) : Byt l := fun c hc => by simpa using List.all_eq_true.1 h c hc

set_option maxHeartbeats 8000000 in
set_option maxRecDepth 100000 in
theorem awake20 (w : World) : Calls Try.prog 11 #[] w fun e w' => e = .returned (.bool true) ∧ Below w.heap.size w w' := by
  have C1 := Lib.hid (open_any (some ⟨w.heap.size, 0, none⟩) [128, 0] 2 _ (lit_bys w [128, 0] #[.int .u8 128, .int .u8 0] rfl) (by decide))
  have hm1 := Lib.hid (m1 w (.cells #[.int .u8 128, .int .u8 0] 5))
  go_enter Try.func11, Try.ntmps11
  go_wp2_with fail
  refine C1.out.mono ?_
  rintro e w1 ⟨g, B, rfl, _, hg0, hR, hB1⟩
  replace hg0 : w.heap.size ≤ g := by simp at hg0; omega
  have hB := mmore hm1.out hB1
  have C2 := uintf_any g B [128, 0] (byt_of rfl) w1 hR
  rw [n128] at C2
  replace C2 := Lib.hid C2
  replace hB := Lib.hid hB
  clear hR hB1
  go_wp2_with fail
  refine C2.out.mono ?_
  rintro e w2 ⟨hg2, rfl, hR⟩
  have hB2 := hB.out.grown hg2 hB.out.size (fun j ej => by injection ej with ej; omega)
  have C3 := uint_any 300 (by decide) w2
  rw [u300] at C3
  replace C3 := Lib.hid C3
  clear hg2 hB
  replace hB2 := Lib.hid hB2
  replace hR := Lib.hid hR
  go_wp2_with fail
  refine C3.out.mono ?_
  rintro e w3 ⟨A3, c3, rfl, hO3, hB3⟩
  have q3 := conv_str (n := 2) (c := c3) rfl (Bys.of_own hO3).2
  rw [show strOf [172, 2] = ⟨#[172, 2]⟩ from rfl] at q3
  have hR3 := hR.out.later hB3
  have hB4 := mmore hB2.out hB3
  have C4 := int_any (-1) (by decide) (by decide) w3
  rw [u1] at C4
  replace C4 := Lib.hid C4
  replace hB4 := Lib.hid hB4
  replace hR3 := Lib.hid hR3
  clear hO3 hB3 hB2 hR
  go_wp2_with fail
  refine C4.out.mono ?_
  rintro e w4 ⟨A4, c4, rfl, hO4, hB5⟩
  have q4 := conv_str (n := 1) (c := c4) rfl (Bys.of_own hO4).2
  rw [show strOf [1] = ⟨#[1]⟩ from rfl] at q4
  have hR4 := hR3.out.later hB5
  have hB6 := mmore hB4.out hB5
  have hcv := Lib.run_convert_bytes_const (P := Try.prog) w4 23 5 #[.int .u8 49, .int .u8 50, .int .u8 51, .int .u8 52, .int .u8 53, .int .u8 54, .int .u8 55, .int .u8 56, .int .u8 57] 9 9 Try.underlying23 Try.underlying5
  have hm5 := m1 w4 (.cells #[.int .u8 49, .int .u8 50, .int .u8 51, .int .u8 52, .int .u8 53, .int .u8 54, .int .u8 55, .int .u8 56, .int .u8 57] 5 (9, 10))
  have C5 := sum_any (some ⟨w4.heap.size, 0, none⟩) [49, 50, 51, 52, 53, 54, 55, 56, 57] 9 (byt_of rfl) _ (const_bys w4 _ #[.int .u8 49, .int .u8 50, .int .u8 51, .int .u8 52, .int .u8 53, .int .u8 54, .int .u8 55, .int .u8 56, .int .u8 57] (9, 10) rfl) (by decide)
  rw [s9] at C5
  have C6 := left_any g B [128, 0] _ (hR4.later hm5)
  have hB7 := mmore hB6 hm5
  replace C5 := Lib.hid C5
  replace C6 := Lib.hid C6
  replace hB7 := Lib.hid hB7
  clear hO4 hB5 hB4 hR3 hB6 hm5 hR4
  go_wp2_with fail
  refine C5.out.mono ?_
  rintro e w5 ⟨rfl, rfl⟩
  go_wp2_with fail
  refine C6.out.mono ?_
  rintro e w5 ⟨rfl, rfl⟩
  go_wp2
  go_ret
  exact ⟨rfl, hB7.out⟩
end Go.Proofs.Ythoknfkldmfdpaa
