/- What Sum answers, in package real and in the document's, as contracts, for every list of floats. -/
import Derived.Test.YtpcdeofjadnpbaaRealE
import Derived.LoopTactic
import Derived.WalkSpells
import Derived.WalkSmall
namespace Go.Proofs.Ytpcdeofjadnpbaa
open Go.ChangeShapes Go.WideShapes Go.ChangeAt Go.RowKit Go.Fl

/-- floats added one behind the other -/
def sumP (l : List Nat) : Nat := match l with
  | [] => 0
  | a :: t => t.foldl (fun s x => res (Ieee.double.add s x)) (cn a)

theorem res_lt64 (a b : Nat) : res (Ieee.double.add a b) < 18446744073709551616 := by
  have := fres_lt .add a b
  unfold res
  cases h : Ieee.double.add a b with
  | none => decide
  | some r => exact cn_lt (Ieee.Format.add_lt Ieee.double h)
theorem sumP_snoc (l : List Nat) (x : Nat) (h : l ≠ []) : sumP (l ++ [x]) = res (Ieee.double.add (sumP l) x) := by
  cases l with
  | nil => exact absurd rfl h
  | cons a t => simp [sumP]
theorem fold_lt (t : List Nat) : ∀ s, s < 18446744073709551616 → t.foldl (fun s x => res (Ieee.double.add s x)) s < 18446744073709551616 := by
  induction t with
  | nil => intro s h; exact h
  | cons a t ih => intro s h; exact ih _ (res_lt64 s a)
theorem sumP_lt (l : List Nat) (h : ∀ x ∈ l, x < 18446744073709551616) : sumP l < 18446744073709551616 := by
  cases l with
  | nil => decide
  | cons a t => exact fold_lt t _ (cn_lt (h a (by simp)))
theorem sumP_take (l : List Nat) (k x : Nat) (hk : l[k]? = some x) (h0 : 0 < k) : sumP (l.take (k + 1)) = res (Ieee.double.add (sumP (l.take k)) x) := by
  rw [List.take_add_one, hk]
  have hl := (List.getElem?_eq_some_iff.1 hk).1
  have h2 : (l.take k).length = k := by rw [List.length_take]; omega
  refine sumP_snoc _ _ fun h => ?_
  rw [h] at h2; simp at h2; omega
theorem sumP_one (l : List Nat) (x : Nat) (hk : l[0]? = some x) : sumP (l.take 1) = cn x := by
  cases l with
  | nil => simp at hk
  | cons a t => simp at hk; subst hk; rfl

/-- a slice of floats' words -/
def RowN (w : World) (A : Option Addr) (n : Nat) (ns : List Nat) : Prop :=
  ns.length = n ∧ (∀ x ∈ ns, x < 18446744073709551616) ∧ (0 < n → ∃ b off, A = some ⟨b, off, none⟩ ∧ ∀ (i x : Nat), ns[i]? = some x → w.cell? ⟨b, off + i, none⟩ = some (.int .u64 (x : Int)))

def SumR (w : World) (ns : List Nat) (s i : Value) (wr : World) : Prop := ∃ k : Nat, k + 1 ≤ ns.length ∧ i = .int .i64 (k : Int) ∧ s = .int .u64 ((sumP (ns.take (k + 1)) : Nat) : Int) ∧ ∃ j, wr = w.drewN j
def SumR2 (w : World) (ns : List Nat) (s i : Value) (wr : World) : Prop := ∃ k : Nat, k ≤ ns.length ∧ i = .int .i64 (k : Int) ∧ s = .int .u64 ((sumP (ns.take k) : Nat) : Int) ∧ ∃ j, wr = w.drewN j
theorem retsum {a b : Int} {c d : Bool} (h : a = b) (h2 : c = d) : Ending.returned (.tuple #[.int .u64 a, .bool c]) = .returned (.tuple #[.int .u64 b, .bool d]) := by rw [h, h2]

set_option maxHeartbeats 1000000 in
theorem sum_any (A : Option Addr) (n cap : Nat) (ns : List Nat) (w : World) (hv : RowN w A n ns) (hcap : n ≤ cap) (hn : n ≤ 4611686018427387904) :
    Calls Try.prog 38 #[.slice A n cap] w fun e w' => e = .returned (.tuple #[.int .u64 ((sumP ns : Nat) : Int), .bool (decide (0 < n))]) ∧ ∃ k, w' = w.drewN k := by
  obtain ⟨hl, hb, hc⟩ := hv
  by_cases z : n = 0
  · subst z
    have hnil : ns = [] := List.eq_nil_of_length_eq_zero hl
    subst hnil
    have E := Lib.hid (show (0 : Int) = ((sumP [] : Nat) : Int) from rfl)
    clear hc hb
    go_enter Try.func38, Try.ntmps38
    go_wp2
    go_ret2
    exact ⟨retsum E.out rfl, 0, rfl⟩
  · subst hl
    obtain ⟨b, off, rfl, hcell⟩ := hc (by omega)
    have hx0 : ns[0]? = some ns[0] := List.getElem?_eq_getElem (by omega)
    have r0 := hcell 0 _ hx0
    have l0 : ns[0] < 18446744073709551616 := hb _ (List.getElem_mem _)
    have s0 := Lib.hid (sumP_one ns _ hx0)
    have HC := Lib.hid hcell
    have HB := Lib.hid hb
    have E := Lib.hid (show (decide (0 < ns.length)) = true from decide_eq_true (by omega))
    generalize ns[0] = x0 at *
    simp at r0
    have pos : 1 ≤ ns.length := by omega
    have z' : ((ns.length : Int) == 0) = false := by rw [beq_eq_false_iff_ne]; omega
    clear hc hb hcell hx0 z
    by_cases c1 : cap = 1
    · subst c1
      have e1 : ns.length = 1 := by omega
      have e2 : ns.take 1 = ns := by rw [← e1, List.take_length]
      have T := Lib.hid (show ((cn x0 : Nat) : Int) = ((sumP ns : Nat) : Int) by rw [← e2, s0.out])
      have z2 : ¬ (0 : Int) < (ns.length : Int) - 1 := by omega
      have L1 := Lib.hid e1
      clear e1 e2
      go_enter Try.func38, Try.ntmps38
      go_wp2_with fail
      refine (canon_any _ _ l0).mono ?_; rintro e w1 ⟨rfl, rfl⟩
      go_wp2_with fail
      go_loopw [4, 17] (fun s i wr => SumR w ns s i wr) (fun _ i _ => ns.length - (intOf i).toNat)
      case atStart => exact ⟨0, by omega, rfl, by rw [s0.out], 0, rfl⟩
      case round =>
        obtain ⟨k, hk, rfl, rfl, j, rfl⟩ := hrel
        have hk1 := L1.out
        obtain rfl : k = 0 := by omega
        clear hk1
        go_wp2
        go_ret2
        exact ⟨retsum (by rw [← T.out, s0.out]) E.out.symm, _, rfl⟩
    · go_enter Try.func38, Try.ntmps38
      go_wp2_with fail
      refine (canon_any _ _ l0).mono ?_; rintro e w1 ⟨rfl, rfl⟩
      go_wp2_with fail
      go_loopw [4, 17] (fun s i wr => SumR w ns s i wr) (fun _ i _ => ns.length - (intOf i).toNat)
      case atStart => exact ⟨0, by omega, rfl, by rw [s0.out], 0, rfl⟩
      case round =>
        obtain ⟨k, hk, rfl, rfl, j, rfl⟩ := hrel
        by_cases hlt : k + 1 < ns.length
        · have hxk : ns[k + 1]? = some ns[k + 1] := List.getElem?_eq_getElem hlt
          have rk := HC.out (k + 1) _ hxk
          have sk := Lib.hid (sumP_take ns (k + 1) _ hxk (by omega))
          generalize ns[k + 1] = xk at *
          clear hxk
          have rk2 : (w.drewN j).cell? ⟨b, off + 1 + k, none⟩ = some (.int .u64 (xk : Int)) := by rw [show off + 1 + k = off + (k + 1) by omega]; exact rk
          clear rk
          go_wp2_with fail
          refine (add_any _ _ _).mono ?_; rintro e w2 ⟨rfl, j2, rfl⟩
          go_wp2_with fail
          go_roundw
          case rel => exact ⟨k + 1, by omega, by go_num, by rw [sk.out], _, rfl⟩
          case measure => simp [intOf]; omega
        · have ek : k + 1 = ns.length := by omega
          have T := Lib.hid (show ((sumP (ns.take (k + 1)) : Nat) : Int) = ((sumP ns : Nat) : Int) by rw [ek, List.take_length])
          clear ek
          go_wp2
          go_ret2
          exact ⟨retsum T.out E.out.symm, _, rfl⟩

set_option maxHeartbeats 1000000 in
theorem rsum_any (A : Option Addr) (n cap : Nat) (ns : List Nat) (w : World) (hv : RowN w A n ns) (hn : n ≤ 4611686018427387904) :
    Calls Try.prog 39 #[.slice A n cap] w fun e w' => e = .returned (.tuple #[.int .u64 ((sumP ns : Nat) : Int), .bool (decide (0 < n))]) ∧ ∃ k, w' = w.drewN k := by
  obtain ⟨hl, hb, hc⟩ := hv
  subst hl
  have HB := Lib.hid hb
  have E0 := Lib.hid (show Value.int .u64 0 = .int .u64 ((sumP (ns.take 0) : Nat) : Int) from rfl)
  clear hb
  go_enter Try.func39, Try.ntmps39
  go_wp2
  go_loopw [4, 9] (fun s i wr => SumR2 w ns s i wr) (fun _ i _ => ns.length - (intOf i).toNat)
  case atStart => exact ⟨0, Nat.zero_le _, rfl, E0.out, 0, rfl⟩
  case round =>
    obtain ⟨k, hk, rfl, rfl, j, rfl⟩ := hrel
    by_cases hlt : k < ns.length
    · obtain ⟨b, off, rfl, hcell⟩ := hc (by omega)
      have hxk : ns[k]? = some ns[k] := List.getElem?_eq_getElem hlt
      have rk : (w.drewN j).cell? ⟨b, off + k, none⟩ = _ := hcell k _ hxk
      have lk : ns[k] < 18446744073709551616 := HB.out _ (List.getElem_mem _)
      have ls : sumP (ns.take k) < 18446744073709551616 := sumP_lt _ fun x hx => HB.out x (List.mem_of_mem_take hx)
      by_cases z : k = 0
      · subst z
        have sk := Lib.hid (sumP_one ns _ hxk)
        generalize ns[0] = xk at *
        clear hxk hcell hc
        simp at rk
        go_wp2_with fail
        refine (rcanon_any _ _ lk).mono ?_; rintro e w2 ⟨rfl, rfl⟩
        go_wp2_with fail
        go_roundw
        case rel => exact ⟨1, by omega, by go_num, by rw [sk.out], _, rfl⟩
        case measure => simp [intOf]; omega
      · have sk := Lib.hid (sumP_take ns k _ hxk (by omega))
        have z' : ((k : Int) == 0) = false := by simp; omega
        generalize ns[k] = xk at *
        clear hxk hcell hc z
        go_wp2_with fail
        refine (do1_any _ _ _ ls lk).mono ?_; rintro e w2 ⟨rfl, j2, rfl⟩
        go_wp2_with fail
        go_roundw
        case rel => exact ⟨k + 1, by omega, by go_num, by rw [sk.out], _, rfl⟩
        case measure => simp [intOf]; omega
    · obtain rfl : k = ns.length := by omega
      have T := Lib.hid (show ((sumP (ns.take ns.length) : Nat) : Int) = ((sumP ns : Nat) : Int) by rw [List.take_length])
      clear hc
      go_wp2
      go_ret2
      exact ⟨retsum T.out (by simp), _, rfl⟩
end Go.Proofs.Ytpcdeofjadnpbaa
