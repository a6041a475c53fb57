/- What Same and Order of values answer, in package value and in the document's, as contracts, for every input. -/
import Derived.Test.YtfjnphiegoogoaaVal
import Derived.Deep.RegionHeld3
import Derived.Deep.RegionWith
import Derived.Deep.CutRange
import Derived.Deep.DeepCutAuto
import Derived.Deep.QuietTactic
import Derived.BigQuiet
namespace Go.Proofs.Ytfjnphiegoogoaa
open Go.ChangeShapes Go.WideShapes Go.ChangeAt Go.RowKit Go.Fl

theorem compareI_any (x y : Int) (w : World) :
    Calls Try.prog 98 #[.int .i64 x, .int .i64 y] w fun e w' => e = .returned (.int .i64 (cmpP x y)) ∧ w = w' := by
  have hn : ∀ x : Int, (x != x) = false := fun x => by simp
  by_cases c : x < y
  · rw [show cmpP x y = -1 by unfold cmpP; rw [if_pos c]]
    go_enter Try.func98, Try.ntmps98
    go_wp2
    go_ret
    exact ⟨rfl, rfl⟩
  · by_cases d : y < x
    · rw [show cmpP x y = 1 by unfold cmpP; rw [if_neg c, if_pos d]]
      go_enter Try.func98, Try.ntmps98
      go_wp2
      go_ret
      exact ⟨rfl, rfl⟩
    · rw [show cmpP x y = 0 by unfold cmpP; rw [if_neg c, if_neg d]]
      go_enter Try.func98, Try.ntmps98
      go_wp2
      go_ret
      exact ⟨rfl, rfl⟩

theorem compareL_any (x y : Int) (w : World) :
    Calls Try.prog 99 #[.int .i64 x, .int .i64 y] w fun e w' => e = .returned (.int .i64 (cmpP x y)) ∧ w = w' := by
  have hn : ∀ x : Int, (x != x) = false := fun x => by simp
  by_cases c : x < y
  · rw [show cmpP x y = -1 by unfold cmpP; rw [if_pos c]]
    go_enter Try.func99, Try.ntmps99
    go_wp2
    go_ret
    exact ⟨rfl, rfl⟩
  · by_cases d : y < x
    · rw [show cmpP x y = 1 by unfold cmpP; rw [if_neg c, if_pos d]]
      go_enter Try.func99, Try.ntmps99
      go_wp2
      go_ret
      exact ⟨rfl, rfl⟩
    · rw [show cmpP x y = 0 by unfold cmpP; rw [if_neg c, if_neg d]]
      go_enter Try.func99, Try.ntmps99
      go_wp2
      go_ret
      exact ⟨rfl, rfl⟩

/-- two structs of two cells each, stored anew -/
theorem four_cells {w : World} {g : Nat} {u0 u1 u2 u3 : Value} (v0 v1 v2 v3 : Value) (h0 : w.cell? ⟨g, 0, none⟩ = some u0) (h1 : w.cell? ⟨g, 1, none⟩ = some u1) (h2 : w.cell? ⟨g + 1, 0, none⟩ = some u2) (h3 : w.cell? ⟨g + 1, 1, none⟩ = some u3) :
    ((((w.setCell ⟨g, 0, none⟩ v0).setCell ⟨g, 1, none⟩ v1).setCell ⟨g + 1, 0, none⟩ v2).setCell ⟨g + 1, 1, none⟩ v3).cell? ⟨g, 0, none⟩ = some v0 ∧
    ((((w.setCell ⟨g, 0, none⟩ v0).setCell ⟨g, 1, none⟩ v1).setCell ⟨g + 1, 0, none⟩ v2).setCell ⟨g + 1, 1, none⟩ v3).cell? ⟨g, 1, none⟩ = some v1 ∧
    ((((w.setCell ⟨g, 0, none⟩ v0).setCell ⟨g, 1, none⟩ v1).setCell ⟨g + 1, 0, none⟩ v2).setCell ⟨g + 1, 1, none⟩ v3).cell? ⟨g + 1, 0, none⟩ = some v2 ∧
    ((((w.setCell ⟨g, 0, none⟩ v0).setCell ⟨g, 1, none⟩ v1).setCell ⟨g + 1, 0, none⟩ v2).setCell ⟨g + 1, 1, none⟩ v3).cell? ⟨g + 1, 1, none⟩ = some v3 := by
  refine ⟨?_, ?_, ?_, ?_⟩ <;> simp [go_sem, h0, h1, h2, h3]

theorem keep5 {w0 w w1 : World} {a0 a1 a2 a3 : Addr} {v0 v1 v2 v3 : Value} (hb : Below w.heap.size w w1) (h : w.cell? a0 = some v0 ∧ w.cell? a1 = some v1 ∧ w.cell? a2 = some v2 ∧ w.cell? a3 = some v3 ∧ Below w0.heap.size w0 w) :
    w1.cell? a0 = some v0 ∧ w1.cell? a1 = some v1 ∧ w1.cell? a2 = some v2 ∧ w1.cell? a3 = some v3 ∧ Below w0.heap.size w0 w1 :=
  ⟨cell_later hb h.1, cell_later hb h.2.1, cell_later hb h.2.2.1, cell_later hb h.2.2.2.1, h.2.2.2.2.trans (hb.mono h.2.2.2.2.size)⟩

theorem clB_lt (k : Int) {b : Nat} (hb : b < 18446744073709551616) : clB k b < 18446744073709551616 := by
  have := cn_lt hb
  unfold clB; (repeat' split) <;> omega

def sameB (k : Int) (b : Nat) (l : Int) (c : Nat) : Bool := decide (clK k b = clK l c ∧ clB k b = clB l c)


/-- the order of two values -/
def vordP (k : Int) (b : Nat) (l : Int) (c : Nat) : Int :=
  if clK k b ≠ clK l c then cmpP (clK k b) (clK l c) else if clK k b = 1 then cmpP (wrap64 (clB k b)) (wrap64 (clB l c)) else if clK k b = 4 then ordP (clB k b) (clB l c) else cmpP (clB k b) (clB l c)

set_option maxHeartbeats 1000000 in
theorem order_v (k l : Int) (b c : Nat) (w : World) (hb : b < 18446744073709551616) (hc : c < 18446744073709551616) :
    Calls Try.prog 96 #[.agg #[.int .i64 k, .int .u64 (b : Int)], .agg #[.int .i64 l, .int .u64 (c : Int)]] w fun e w' => e = .returned (.int .i64 (vordP k b l c)) ∧ Below w.heap.size w w' := by
  go_enter Try.func96, Try.ntmps96
  go_wp2
  go_upto_region 2 with (fail)
  go_cut [] from 5 to 8 (fun w' => w'.cell? ⟨w.heap.size, 0, none⟩ = some (.int .i64 (clK k b)) ∧ w'.cell? ⟨w.heap.size, 1, none⟩ = some (.int .u64 ((clB k b : Nat) : Int)) ∧ w'.cell? ⟨w.heap.size + 1, 0, none⟩ = some (.int .i64 (clK l c)) ∧ w'.cell? ⟨w.heap.size + 1, 1, none⟩ = some (.int .u64 ((clB l c : Nat) : Int)) ∧ Below w.heap.size w w')
  case first =>
    go_region_with (go_at_call 24; refine (clean_any _ _ _ (by assumption)).mono ?_; rintro e w1 ⟨rfl, hb1⟩; obtain ⟨p0, p1, p2, p3⟩ := later2 (g := w.heap.size) (u := .int .i64 k) (v := .int .u64 (b : Int)) hb1 (by first | exact ⟨by assumption, by assumption, by assumption, by assumption⟩ | simp); obtain ⟨q0, q1, q2, q3⟩ := later2 (g := w.heap.size + 1) (u := .int .i64 l) (v := .int .u64 (c : Int)) hb1 (by first | exact ⟨by assumption, by assumption, by assumption, by assumption⟩ | simp); have hB := below_more (w0 := w) (by first | exact (below2 _ _ _).drew | assumption) hb1)
    all_goals (go_wp2_with fail; go_meet; obtain ⟨r0, r1, r2, r3⟩ := four_cells (.int .i64 (clK k b)) (.int .u64 ((clB k b : Nat) : Int)) (.int .i64 (clK l c)) (.int .u64 ((clB l c : Nat) : Int)) p0 p1 q0 q1; exact ⟨r0, r1, r2, r3, (((hB.setCell (by simp) _).setCell (by simp) _).setCell (by simp) _).setCell (by simp) _⟩)
  case rest =>
    obtain ⟨r0, r1, r2, r3, hB⟩ := hcut
    have V := Lib.hid (show vordP k b l c = if clK k b ≠ clK l c then cmpP (clK k b) (clK l c) else if clK k b = 1 then cmpP (wrap64 (clB k b)) (wrap64 (clB l c)) else if clK k b = 4 then ordP (clB k b) (clB l c) else cmpP (clB k b) (clB l c) from rfl)
    have l1 := clB_lt k hb
    have l2 := clB_lt l hc
    generalize clK k b = x at *
    generalize clK l c = y at *
    generalize clB k b = p at *
    generalize clB l c = q at *
    by_cases e : x = y
    · subst e
      have e1 : (x != x) = false := by simp
      by_cases k1 : x = 1
      · subst k1
        have E := Lib.hid (show cmpP (wrap64 p) (wrap64 q) = vordP k b l c by rw [V.out]; simp)
        clear V
        go_wp2_with (go_at_call 99; refine (compareL_any _ _ _).mono ?_; rintro e w' ⟨rfl, rfl⟩)
        go_ret
        exact ⟨ret_int E.out, hB⟩
      · have f1 : (x == 1) = false := by simpa using k1
        by_cases k4 : x = 4
        · subst k4
          have E := Lib.hid (show ordP p q = vordP k b l c by rw [V.out]; simp)
          clear V
          go_wp2_with (go_at_call 100; refine (order_any _ _ _ l1 l2).mono ?_; rintro e w' ⟨rfl, rfl⟩)
          go_ret
          exact ⟨ret_int E.out, hB⟩
        · have f4 : (x == 4) = false := by simpa using k4
          have E := Lib.hid (show cmpP p q = vordP k b l c by rw [V.out, if_neg (by simp), if_neg k1, if_neg k4])
          clear V
          go_wp2_with (go_at_call 101; refine (compareU_any _ _ _).mono ?_; rintro e w' ⟨rfl, rfl⟩)
          go_ret
          exact ⟨ret_int E.out, hB⟩
    · have e1 : (x != y) = true := by simpa using e
      have E := Lib.hid (show cmpP x y = vordP k b l c by rw [V.out, if_pos e])
      clear V
      go_wp2_with (go_at_call 98; refine (compareI_any _ _ _).mono ?_; rintro e w' ⟨rfl, rfl⟩)
      go_ret
      exact ⟨ret_int E.out, hB⟩
end Go.Proofs.Ytfjnphiegoogoaa
