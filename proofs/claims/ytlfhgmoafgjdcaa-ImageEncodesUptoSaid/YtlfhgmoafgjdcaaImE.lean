/- An image's sum: the contract. -/
import Derived.Test.YtlfhgmoafgjdcaaWrF
namespace Go.Proofs.Ytlfhgmoafgjdcaa
open Go.ChangeShapes Go.WideShapes Go.ChangeAt Go.RowKit
set_option linter.unusedVariables false
set_option linter.unusedSimpArgs false
/-- the lowest byte first -/
def le4 (x : Nat) : List Nat := [x % 256, x / 256 % 256, x / 65536 % 256, x / 16777216 % 256]
theorem le4_byt (x : Nat) : Byt (le4 x) := by
  intro c hc
  simp [le4] at hc
  rcases hc with rfl | rfl | rfl | rfl <;> omega
set_option maxHeartbeats 4000000 in
set_option maxRecDepth 100000 in
theorem isum_any (A : Option Addr) (l : List Nat) (c : Nat) (hl : Byt l) (w : World) (h : Bys w A l) (hlen : l.length ≤ 140737488355000) : Calls Try.prog 23 #[.slice A l.length c] w (OwnB w.heap.size w (le4 (sumL l))) := by
  have C := sum_any A l c hl w h hlen
  have hs : sumL l < 4294967296 := sumL_lt hl
  generalize sumL l = x at *
  replace C := Lib.hid C
  have b0 : IntKind.u8.wrap (x : Int) = ((x % 256 : Nat) : Int) := by rw [IntKind.wrap_u8]; omega
  have b1 : IntKind.u8.wrap ((x / 256 : Nat) : Int) = ((x / 256 % 256 : Nat) : Int) := by rw [IntKind.wrap_u8]; omega
  have b2 : IntKind.u8.wrap ((x / 65536 : Nat) : Int) = ((x / 65536 % 256 : Nat) : Int) := by rw [IntKind.wrap_u8]; omega
  have b3 : IntKind.u8.wrap ((x / 16777216 : Nat) : Int) = ((x / 16777216 % 256 : Nat) : Int) := by rw [IntKind.wrap_u8]; omega
  have x0 : (0 : Int) ≤ (x : Int) := by omega
  go_enter Try.func23, Try.ntmps23
  go_wp2_with fail
  refine C.out.mono ?_; rintro e u ⟨rfl, rfl⟩
  go_wp2
  go_ret
  have e1 : #[Value.int IntKind.u8 ((x : Int) % 256), Value.int IntKind.u8 ((x : Int) / 256 % 256), Value.int IntKind.u8 ((x : Int) / 65536 % 256), Value.int IntKind.u8 ((x : Int) / 16777216)].toList = bcells (le4 x) := by
    have : (x : Int) / 16777216 = ((x / 16777216 % 256 : Nat) : Int) := by omega
    rw [this]
    rfl
  refine ⟨some ⟨w.heap.size, 0, none⟩, 4, rfl, ?_, m1 w _⟩
  rw [← e1]
  exact World.ownsRow_lit w _ 4 (Nat.le_refl _) (by unfold maxLen; omega) rfl
end Go.Proofs.Ytlfhgmoafgjdcaa
