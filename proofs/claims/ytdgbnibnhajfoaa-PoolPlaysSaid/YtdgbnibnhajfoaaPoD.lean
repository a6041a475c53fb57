/- A pool: its map of cells. -/
import Derived.Test.YtdgbnibnhajfoaaPoC
namespace Go.Proofs.Ytdgbnibnhajfoaa
open Go.ChangeShapes Go.WideShapes Go.ChangeAt Go.RowKit
set_option linter.unusedVariables false
set_option linter.unusedSimpArgs false

theorem check_int (e : Bool) (n : Nat) (a : Int) (w : World) : (Instr.checkKey e (n + 1) 3 (.int .i64 a)).run Try.prog w = .ok () w := by
  simp [Instr.checkKey, run_underlying Try.underlying3, Result.andThen]
theorem check_bool (e : Bool) (n : Nat) (a : Bool) (w : World) : (Instr.checkKey e (n + 1) 4 (.bool a)).run Try.prog w = .ok () w := by
  simp [Instr.checkKey, run_underlying Try.underlying4, Result.andThen]
theorem check_link (e : Bool) (n : Nat) (k : Ln) (w : World) : (Instr.checkKey e (n + 2) 64 (encL k)).run Try.prog w = .ok () w := by
  obtain ⟨a, b, c⟩ := k
  unfold encL
  rw [Instr.checkKey]
  simp [run_underlying Try.underlying64, check_int, check_bool, Result.andThen, go_sem]
theorem stay_link (n : Nat) (k : Ln) : Instr.sameBits (n + 2) (encL k) (encL k) = true := by
  obtain ⟨a, b, c⟩ := k
  simp [Instr.sameBits, encL]
theorem linkKey : KeyOk Try.prog 64 encL where
  eq := by
    rintro ⟨a, b, c⟩ ⟨d, e, f⟩ w
    have h : (binOp .eql 64 (.agg #[.int .i64 a, .int .i64 b, .bool c]) (.agg #[.int .i64 d, .int .i64 e, .bool f])).run Try.prog w = .ok (.bool (decide ((a, b, c) = (d, e, f)))) w := by
      by_cases h0 : a = d <;> by_cases h1 : b = e <;> by_cases h2 : c = f <;> simp [go_sem, h0, h1, h2]
    simp only [run_eql_struct] at h
    show (Op.equalIn 10000 64 (.agg #[.int .i64 a, .int .i64 b, .bool c]) (.agg #[.int .i64 d, .int .i64 e, .bool f])).run Try.prog w = _
    cases hq : (Op.equalIn 10000 64 (.agg #[.int .i64 a, .int .i64 b, .bool c]) (.agg #[.int .i64 d, .int .i64 e, .bool f])).run Try.prog w with
    | ok v u =>
      rw [hq] at h
      simp only [Result.andThen_ok] at h
      injection h with h1 h2
      injection h1 with h1
      rw [h1, h2]
    | _ => rw [hq] at h; simp [Result.andThen] at h
  check := by
    intro e k w
    exact check_link e 9998 k w
  now := ⟨_, Try.underlying64, fun a x => by cases x <;> rfl⟩
  stay := by
    intro k w
    have := stay_link 9998 k
    unfold Instr.keyThatStays
    rw [if_pos this]
    rfl
  inj := by
    rintro ⟨a, b, c⟩ ⟨d, e, f⟩ h
    simp only [encL, Value.agg.injEq] at h
    simp at h
    simp [h]
end Go.Proofs.Ytdgbnibnhajfoaa
