/- The document's writer of images: counts, lists of stops, as contracts. -/
import Derived.Test.YtlfhgmoafgjdcaaOuA
namespace Go.Proofs.Ytlfhgmoafgjdcaa
open Go.ChangeShapes Go.WideShapes Go.ChangeAt Go.RowKit
set_option linter.unusedVariables false
set_option linter.unusedSimpArgs false
def LenOk (bs : List Nat) (L : List Itm) : Prop := (bs ++ encL L).length ≤ 1000000000000
theorem LenOk.part {bs : List Nat} {L1 L2 L3 : List Itm} (h : LenOk bs (L1 ++ (L2 ++ L3))) : LenOk (bs ++ encL L1) L2 := by
  unfold LenOk at *
  rw [encL_append, encL_append] at h
  simp only [List.length_append] at *
  omega
theorem encL_ge : ∀ L : List Itm, L.length ≤ (encL L).length
  | [] => by simp [encL]
  | i :: r => by
    have := encL_ge r
    have := encI_pos i
    rw [encL_cons, List.length_append, List.length_cons]
    omega
theorem ROut.more {w : World} {g base : Nat} {bs : List Nat} {ok : Bool} {L1 L2 : List Itm} (h : ROut w g base ((bs ++ encL L1) ++ encL L2) ((ok && L1.all okI) && L2.all okI)) : ROut w g base (bs ++ encL (L1 ++ L2)) (ok && (L1 ++ L2).all okI) := by
  rw [encL_append, ← List.append_assoc, List.all_append, ← Bool.and_assoc]
  exact h
theorem ROut.eq {w : World} {g base : Nat} {bs : List Nat} {ok : Bool} {L1 L2 : List Itm} (h : ROut w g base (bs ++ encL L1) (ok && L1.all okI)) (e1 : encL L1 = encL L2) (e2 : L1.all okI = L2.all okI) : ROut w g base (bs ++ encL L2) (ok && L2.all okI) := by rw [← e1, ← e2]; exact h
theorem onums_n (g base : Nat) (bs : List Nat) (ok : Bool) (A : Option Addr) (zs : List Int) (n c : Nat) (hn : n = zs.length) (w : World) (h : ROut w g base bs ok) (hz : NumsAt base g w A zs) (hw : ∀ i ∈ nI zs, wfI i) (hlen : LenOk bs (nI zs)) :
    Calls Try.prog 24 #[.pointer (some ⟨g, 0, none⟩), .slice A n c] w (OutR base g bs ok (nI zs) w) := by
  subst hn
  refine onums_any g base bs ok A zs c w h hz hw hlen ?_
  have := encL_ge (nI zs)
  unfold LenOk at hlen
  rw [List.length_append] at hlen
  simp only [nI, List.length_map] at this hlen ⊢
  omega
set_option maxHeartbeats 8000000 in
set_option maxRecDepth 100000 in
theorem ocount_any (g base : Nat) (bs : List Nat) (ok : Bool) (k : Nat) (w : World) (h : ROut w g base bs ok) (hk : k ≤ 9223372036854775807) (hlen : LenOk bs [.c k]) :
    Calls Try.prog 25 #[.pointer (some ⟨g, 0, none⟩), .int .i64 (k : Int)] w (OutR base g bs ok [.c k] w) := by
  have hbg := h.base
  obtain ⟨A0, c0, hB0, hW0, _⟩ := id h
  have cg1 : w.cell? ⟨g, 1, none⟩ = some (.bool ok) := by rw [hB0.cell]; rfl
  have cf1 := hB0.free 1
  go_enter Try.func25, Try.ntmps25
  go_upto_region 0 with (fail)
  go_cut [12] from 4 to 14 (fun p w' => ∃ w4, w4 = w' ∧ ROut w4 g base bs (ok && decide (k ≤ 1024)) ∧ OFr base g w w4)
  case first =>
    have hfin : ∀ q, q = (ok && decide (k ≤ 1024)) → ∃ w4, w4 = w.setCell ⟨g, 1, none⟩ (.bool q) ∧ ROut w4 g base bs (ok && decide (k ≤ 1024)) ∧ OFr base g w w4 := fun q hq => ⟨_, rfl, by rw [← hq]; exact h.put q, OFr.set_ w hbg.1 1 _⟩
    replace hfin := Lib.hid hfin
    clear h hB0 hW0
    by_cases b1 : k ≤ 1024
    · have b2 : (k : Int) ≤ 1024 := by omega
      cases ok with
      | false => go_wp2; all_goals (go_meet; exact hfin.out _ (by simp [b1]))
      | true => go_wp2; all_goals (go_meet; exact hfin.out _ (by simp [b1]))
    · have b2 : ¬ (k : Int) ≤ 1024 := by omega
      cases ok with
      | false => go_wp2; all_goals (go_meet; exact hfin.out _ (by simp [b1]))
      | true => go_wp2; all_goals (go_meet; exact hfin.out _ (by simp [b1]))
  case rest =>
  clear h hB0 hW0 cg1 cf1
  obtain ⟨w4, hw4, hR4, hf4⟩ := hcut
  subst hw4
  have hm := m1 w4 (.cells #[.int .i64 (k : Int)] 3)
  have hb4 := hR4.base
  have hz : NumsAt base g (w4.alloc (.cells #[.int .i64 (k : Int)] 3)) (some ⟨w4.heap.size, 0, none⟩) [(k : Int)] := NumsAt.lit w4 [(k : Int)] hb4.2
  have hR5 := hR4.later hm
  have hf5 := hf4.trans (OFr.of_below hm (by omega))
  have hlen' : LenOk bs (nI [(k : Int)]) := hlen
  have hbk : (nI [(k : Int)]).all okI = true ∨ ¬ k ≤ 1024 := by
    by_cases b1 : k ≤ 1024
    · left; simp [nI, okI]; omega
    · right; exact b1
  have hall : ((ok && decide (k ≤ 1024)) && (nI [(k : Int)]).all okI) = (ok && [Itm.c k].all okI) := by
    rcases hbk with h | h
    · rw [h]; simp [okI]
    · simp [okI, h]
  have hbe : encL (nI [(k : Int)]) = encL [Itm.c k] := rfl
  go_wp2_with fail
  refine (onums_n g base bs _ _ [(k : Int)] 1 1 rfl _ hR5 hz (by intro i hi; simp [nI] at hi; subst hi; show _ ∧ _; omega) hlen').mono ?_
  rintro e w6 ⟨rfl, hf6, hR6⟩
  rw [hall, hbe] at hR6
  have hfin : OutR base g bs ok [.c k] w (.returned (.tuple #[])) w6 := ⟨rfl, hf5.trans hf6, hR6⟩
  replace hfin := Lib.hid hfin
  clear hR4 hR5 hR6 hf4 hf5 hf6
  go_wp2
  go_end0
  exact hfin.out
set_option maxHeartbeats 8000000 in
set_option maxRecDepth 100000 in
theorem ostops_any (g base : Nat) (bs : List Nat) (ok : Bool) (A : Option Addr) (xs : List TStop) (n c : Nat) (hn : n = xs.length) (w : World) (h : ROut w g base bs ok) (hx : ListAt pStop 2 base w A xs) (hw : ∀ i ∈ itL iStop xs, wfI i) (hlen : LenOk bs (itL iStop xs)) :
    Calls Try.prog 53 #[.pointer (some ⟨g, 0, none⟩), .slice A n c] w (OutR base g bs ok (itL iStop xs) w) := by
  subst hn
  have hbg := h.base
  have hk9 : xs.length ≤ 9223372036854775807 := hw (.c xs.length) (by simp [itL])
  go_enter Try.func53, Try.ntmps53
  go_wp2_with fail
  refine (ocount_any g base bs ok xs.length w h hk9 (by
    have : LenOk (bs ++ encL []) [.c xs.length] := LenOk.part (L1 := []) (L2 := [.c xs.length]) (L3 := xs.flatMap iStop) hlen
    simpa [encL] using this)).mono ?_
  rintro e w1 ⟨rfl, hf1, hR1⟩
  clear h
  go_wp2_with fail
  go_loopw [12] (fun i wr => ∃ k : Nat, k ≤ xs.length ∧ i = .int .i64 (k : Int) ∧ OFr base g w wr ∧ ROut wr g base (bs ++ encL (.c xs.length :: (xs.take k).flatMap iStop)) (ok && (Itm.c xs.length :: (xs.take k).flatMap iStop).all okI)) (fun i _ => xs.length - (intOf i).toNat)
  case atStart => exact ⟨0, Nat.zero_le _, rfl, hf1, hR1⟩
  case round =>
    clear hf1 hR1
    obtain ⟨k, hk, rfl, hfr, hR⟩ := hrel
    have k0 : (0 : Int) ≤ (k : Int) := by omega
    by_cases hlt : k < xs.length
    · have k1 : (k : Int) < (xs.length : Int) := by omega
      obtain ⟨b, off, rfl, hbl, hall⟩ := hx (by omega)
      have hxk : xs[k]? = some xs[k] := List.getElem?_eq_getElem hlt
      have htk : (Itm.c xs.length :: (xs.take (k + 1)).flatMap iStop) = (Itm.c xs.length :: (xs.take k).flatMap iStop) ++ iStop xs[k] := by
        rw [List.take_add_one, hxk, List.flatMap_append]; simp
      have hsp : itL iStop xs = (Itm.c xs.length :: (xs.take k).flatMap iStop) ++ (iStop xs[k] ++ (xs.drop (k + 1)).flatMap iStop) := by
        have e1 : xs = xs.take k ++ (xs[k] :: xs.drop (k + 1)) := by rw [← List.drop_eq_getElem_cons hlt, List.take_append_drop]
        unfold itL
        conv => lhs; rw [e1]
        rw [List.flatMap_append, List.flatMap_cons]
        simp [← e1]
      have hwk : ∀ i ∈ iStop xs[k], wfI i := fun i hi => hw i (by rw [hsp]; simp only [List.mem_append]; exact .inr (.inl hi))
      rw [hsp] at hlen
      have hlk := hlen.part
      obtain ⟨p0, p1⟩ := pStop.belowB hfr.below hbl (hall k _ hxk)
      rw [← hsp] at hlen
      clear hsp hxk
      generalize xs[k] = x at *
      obtain ⟨z0, z1⟩ := x
      simp only at p0 p1
      have hgr := hR.base
      have hm := m2 wr (.cells #[.int .i64 z0, .int .i64 z1] 126) (.cells #[.int .i64 z0, .int .i64 z1] 3)
      have hz : NumsAt base g ((wr.alloc (.cells #[.int .i64 z0, .int .i64 z1] 126)).alloc (.cells #[.int .i64 z0, .int .i64 z1] 3)) (some ⟨wr.heap.size + 1, 0, none⟩) [z0, z1] := by
        have := NumsAt.lit (base := base) (g := g) (wr.alloc (.cells #[.int .i64 z0, .int .i64 z1] 126)) [z0, z1] (by simp; omega)
        rwa [show (wr.alloc (.cells #[.int .i64 z0, .int .i64 z1] 126)).heap.size = wr.heap.size + 1 by simp] at this
      have hR5 := Lib.hid (hR.later hm)
      have hf5 := Lib.hid (hfr.trans (OFr.of_below hm (by omega)))
      replace hz := Lib.hid hz
      clear hR hfr hm hall
      go_wp2_with fail
      refine (onums_n g base _ _ _ [z0, z1] 2 2 rfl _ hR5.out hz.out hwk hlk).mono ?_
      rintro e w6 ⟨rfl, hf6, hR6⟩
      have hR7 := Lib.hid (ROut.more (L2 := iStop (z0, z1)) hR6)
      have hf7 := Lib.hid (hf5.out.trans hf6)
      clear hR6 hf6 hR5 hf5 hz
      go_wp2
      go_roundw
      case rel => exact ⟨k + 1, by omega, by go_num, hf7.out, by rw [htk]; exact hR7.out⟩
      case measure => simp [intOf]; omega
    · obtain rfl : k = xs.length := by omega
      rw [List.take_length] at hR
      have hfin : OutR base g bs ok (itL iStop xs) w (.returned (.tuple #[])) wr := ⟨rfl, hfr, hR⟩
      replace hfin := Lib.hid hfin
      clear hfr hR
      go_wp2
      go_end0
      exact hfin.out
end Go.Proofs.Ytlfhgmoafgjdcaa
