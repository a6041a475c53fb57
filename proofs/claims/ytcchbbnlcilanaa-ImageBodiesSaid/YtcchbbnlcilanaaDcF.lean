/- The document's Decode, where it answers an error ahead of reading. -/
import Derived.Test.YtcchbbnlcilanaaImJ
namespace Go.Proofs.Ytcchbbnlcilanaa
open Go.ChangeShapes Go.WideShapes Go.ChangeAt Go.RowKit
set_option linter.unusedVariables false
set_option linter.unusedSimpArgs false
set_option maxHeartbeats 4000000 in
set_option maxRecDepth 100000 in
theorem rdecode_long (A : Option Addr) (l : List Nat) (c : Nat) (w : World) (h1 : 65536 < l.length) (h63 : l.length ≤ 140737488355000) :
    Calls Try.prog 15 #[.slice A l.length c] w (DecIs l w) := by
  have hd : decP l = (2, none) := by unfold decP; rw [if_pos h1]
  have hfin := fun w' (hb : Below w.heap.size w w') => DecIs.no hd hb
  replace hfin := Lib.hid hfin
  clear hd
  have i1 : (65536 : Int) < (l.length : Int) := by omega
  generalize l.length = n at *
  go_enter Try.func15, Try.ntmps15
  go_wp2
  refine bodyPost_ret (v := .tuple #[zT, .int .i64 2]) (by simp [results, Try.results15, go_sem, zT]) rfl (hfin.out _ (m1 w _))
set_option maxHeartbeats 4000000 in
set_option maxRecDepth 100000 in
theorem rdecode_short (A : Option Addr) (l : List Nat) (c : Nat) (w : World) (h1 : l.length < 8) :
    Calls Try.prog 15 #[.slice A l.length c] w (DecIs l w) := by
  have hd : decP l = (30, none) := by unfold decP; rw [if_neg (by omega), if_pos h1]
  have hfin := fun w' (hb : Below w.heap.size w w') => DecIs.no hd hb
  replace hfin := Lib.hid hfin
  clear hd
  have i0 : ¬ (65536 : Int) < (l.length : Int) := by omega
  have i1 : (l.length : Int) < 8 := by omega
  generalize l.length = n at *
  go_enter Try.func15, Try.ntmps15
  go_wp2
  refine bodyPost_ret (v := .tuple #[zT, .int .i64 30]) (by simp [results, Try.results15, go_sem, zT]) rfl (hfin.out _ (m1 w _))
theorem ausp_byt' : Byt ausp := by intro z hz; simp [ausp] at hz; rcases hz with rfl | rfl | rfl | rfl <;> omega
set_option maxHeartbeats 8000000 in
set_option maxRecDepth 100000 in
theorem rdecode_head (A : Option Addr) (l : List Nat) (c : Nat) (w : World) (hl : Byt l) (h : Bys w A l) (h1 : ¬ 65536 < l.length) (h2 : ¬ l.length < 8) (hc : l.length ≤ c) (h3 : ¬ l.take 4 = ausp) :
    Calls Try.prog 15 #[.slice A l.length c] w (DecIs l w) := by
  have hd : decP l = (32, none) := by unfold decP; rw [if_neg h1, if_neg h2, if_neg h3]
  have hfin := fun w' (hb : Below w.heap.size w w') => DecIs.no hd hb
  replace hfin := Lib.hid hfin
  clear hd
  have i0 : ¬ (65536 : Int) < (l.length : Int) := by omega
  have i1 : ¬ (l.length : Int) < 8 := by omega
  have i2 : (4 : Int) ≤ (c : Int) := by omega
  have hcv := conv_pre (k := 4) (c := c) (l' := l.take 4) (by omega) rfl (h.later (m1 w (.cells zCells 27)))
  have hs := toList_neM (fun e => h3 (strOf_inj (hl.take 4) ausp_byt' (b := ausp) e))
  rw [show strOf ausp = ⟨#[65, 85, 83, 80]⟩ from rfl] at hs
  rw [show (⟨#[65, 85, 83, 80]⟩ : ByteArray).toList = [65, 85, 83, 80] by first | decide | simp | go_simp] at hs
  generalize strOf (l.take 4) = s at *
  clear h hl h3 hc
  generalize l.length = n at *
  go_enter Try.func15, Try.ntmps15
  go_wp2
  refine bodyPost_ret (v := .tuple #[zT, .int .i64 32]) (by simp [results, Try.results15, go_sem, zT]) rfl (hfin.out _ (m1 w _))
theorem split_eq {l : List Nat} (h : 4 ≤ l.length) : (l.take (l.length - 4) ++ le4 (sumL (l.take (l.length - 4))) = l) ↔ l.drop (l.length - 4) = le4 (sumL (l.take (l.length - 4))) := by
  constructor
  · intro e
    have h0 : (l.take (l.length - 4)).length = l.length - 4 := by rw [List.length_take]; omega
    have := congrArg (List.drop (l.length - 4)) e
    rw [List.drop_left' h0] at this
    exact this.symm
  · intro e
    rw [← e, List.take_append_drop]
/-- the test of the sum -/
def sumOk (l : List Nat) : Bool := decide (l.drop (l.length - 4) = le4 (sumL (l.take (l.length - 4))))
theorem sumOk_cmp {l : List Nat} (hl : Byt l) (h : 4 ≤ l.length) : ((strOf (l.take (l.length - 4) ++ le4 (sumL (l.take (l.length - 4))))).toList == (strOf l).toList) = sumOk l := by
  have hby2 : Byt (l.take (l.length - 4) ++ le4 (sumL (l.take (l.length - 4)))) := Byt.append (hl.take _) (le4_byt _)
  unfold sumOk
  by_cases e : l.drop (l.length - 4) = le4 (sumL (l.take (l.length - 4)))
  · rw [decide_eq_true e, (split_eq h).2 e]
    simp
  · rw [decide_eq_false e]
    exact toList_neM (fun k => e ((split_eq h).1 (strOf_inj hby2 hl k)))
theorem DecIs.yes {l : List Nat} {w w' : World} {x : TTable} {vs : List Value} (hd : decP l = (0, some x)) (hb : Below w.heap.size w w') (hl : vs.length = 8) (hE : eTable w' vs x) : DecIs l w (.returned (.tuple #[.agg vs.toArray, .int .i64 0])) w' := ⟨hb, _, by rw [hd], by rw [hd]; exact ⟨vs, hl, hE, rfl⟩⟩
end Go.Proofs.Ytcchbbnlcilanaa
