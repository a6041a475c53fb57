/- 'awake' answers true, as a contract. -/
import Derived.Test.YtpjlocmohcjpfaaDo
namespace Go.Proofs.Ytpjlocmohcjpfaa
open Go.ChangeShapes Go.WideShapes Go.ChangeAt Go.RowKit Go.Fl

theorem add_lit (A : Option Addr) (cap : Nat) (w : World) (hv : RowV w A 2 [(1, 2), (1, 3)]) :
    Calls Try.prog 11 #[.int .i64 1, .slice A 2 cap] w fun e w' => e = .returned (.agg #[.int .i64 1, .int .u64 5]) ∧ Below w.heap.size w w' :=
  apply_two 1 A cap 1 1 2 3 1 5 w hv fun w => two_add 2 3 w (by decide) (by decide) (by decide) (by decide) 2 3 (by unfold wrap64; omega) (by unfold wrap64; omega)

theorem num_lit (n : Nat) (h : n < 9223372036854775808) (w : World) :
    Calls Try.prog 39 #[.int .i64 (n : Int)] w fun e w' => e = .returned (.agg #[.int .i64 1, .int .u64 (n : Int)]) ∧ Below w.heap.size w w' := by
  have := num_any (n : Int) w
  rw [show IntKind.u64.wrap (n : Int) = n by rw [IntKind.wrap_u64]; omega] at this
  exact this

theorem awake_any (w : World) : Calls Try.prog 13 #[] w fun e w' => e = .returned (.bool true) ∧ Below w.heap.size w w' := by
  have he := eqR
  go_enter Try.func13, Try.ntmps13
  go_wp2_with fail
  refine (num_lit 2 (by decide) _).mono ?_; rintro e w1 ⟨rfl, hb1⟩
  go_wp2_with fail
  refine (num_lit 3 (by decide) _).mono ?_; rintro e w2 ⟨rfl, hb2⟩
  go_wp2_with fail
  refine (do_of 1 (some ⟨w2.heap.size, 0, none⟩) 2 2 [(1, 2), (1, 3)] 1 5 _ ⟨rfl, by simp, fun _ => ⟨w2.heap.size, 0, rfl, fun i k c h => ?_⟩⟩ (by decide) (fun A' cap' w hv => add_lit A' cap' w hv)).mono ?_
  · match i, h with
    | 0, h => simp at h; obtain ⟨rfl, rfl⟩ := h; simp
    | 1, h => simp at h; obtain ⟨rfl, rfl⟩ := h; simp
  rintro e w3 ⟨rfl, hb3⟩
  go_wp2_with fail
  refine (num_lit 5 (by decide) _).mono ?_; rintro e w4 ⟨rfl, hb4⟩
  have hB := below_more (below_more (below_more (below_more hb1 hb2) (below1 _ _)) hb3) hb4
  clear hb1 hb2 hb3 hb4
  go_wp2
  go_ret
  exact ⟨rfl, hB⟩
end Go.Proofs.Ytpjlocmohcjpfaa
