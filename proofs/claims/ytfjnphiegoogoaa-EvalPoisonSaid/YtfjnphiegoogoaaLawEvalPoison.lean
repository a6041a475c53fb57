/- EvalPoison: what isn't there is poison to the program, whatever else is, and a condition that is poison doesn't hold. -/
import Derived.Test.YtfjnphiegoogoaaRows
import Derived.WalkKit
import Derived.ProofKit
import Derived.OpenShut
import Derived.ShutString
import Derived.ChangeOld
import Derived.Below
import Derived.Lib.SmallJoins
import Derived.SizedLaws
import Derived.Test.YtfjnphiegoogoaaLkK
import Derived.Test.YtfjnphiegoogoaaEvN
import Derived.Test.YtfjnphiegoogoaaEvQ
import Derived.Deep.CutRange
import Derived.Deep.DeepCutAuto
import Derived.Deep.QuietTactic
import Derived.BigQuiet
namespace Go.Proofs.Ytfjnphiegoogoaa.evalPoison
open Go.ChangeShapes Go.WideShapes Go.ChangeAt Go.RowKit Go.Joins
set_option linter.unusedVariables false
set_option linter.unusedSimpArgs false

theorem own : ownKnob Try.prog.godebug = none := by kernel_rfl
theorem laidOut : laidOutB Try.prog = true := by kernel_rfl

theorem bdrewN {B : Nat} {a w : World} (h : Below B a w) (n : Nat) : Below B a (w.drewN n) := ⟨h.os, h.tape, h.output, h.size, h.block⟩
theorem leaf_none (es : List Ev) (bs : List (List Int)) (op pos a cur : Int) (h : 26 ≤ op ∧ op ≤ 31 ∨ op = 42) (hp : placesP bs pos = []) : leafP op 0 0 pos a es bs cur = (0, 0) := by
  unfold leafP
  rw [if_neg (by omega), if_neg (by omega), if_neg (by omega), if_pos hp]
/-- the memory of the law: the binding, the look -/
def PoJ (w : World) (A0 A1 : Option Addr) (c0 c1 : Nat) (z0 : List Ev) (z1 : List (List Int)) (cu : Int) (gk : Nat) (wr : World) : Prop :=
  (wr.cell? ⟨w.heap.size, 0, none⟩ = some (.slice A1 z1.length c1) ∧ wr.cell? ⟨w.heap.size, 1, none⟩ = some (.int .i64 cu)) ∧ (wr.cell? ⟨gk, 0, none⟩ = some (.slice A0 z0.length c0) ∧ wr.cell? ⟨gk, 1, none⟩ = some (.slice A1 z1.length c1) ∧ wr.cell? ⟨gk, 2, none⟩ = some (.int .i64 cu)) ∧ LookIn wr A0 A1 z0 z1 ∧ Below w.heap.size w wr
theorem PoJ.later {w wr w1 : World} {A0 A1 : Option Addr} {c0 c1 : Nat} {z0 : List Ev} {z1 : List (List Int)} {cu : Int} {gk : Nat} (h : PoJ w A0 A1 c0 c1 z0 z1 cu gk wr) (hb : Below wr.heap.size wr w1) : PoJ w A0 A1 c0 c1 z0 z1 cu gk w1 :=
  ⟨⟨cell_later hb h.1.1, cell_later hb h.1.2⟩, ⟨cell_later hb h.2.1.1, cell_later hb h.2.1.2.1, cell_later hb h.2.1.2.2⟩, h.2.2.1.later hb, mmore h.2.2.2 hb⟩
set_option maxHeartbeats 4000000 in
theorem walk (w : World) (A0 : Option Addr) (c0 : Nat) (z0 : List Ev) (w0 : EvsAt w A0 z0) (u0 : z0.length ≤ c0) (x0 : c0 ≤ maxLen) (s0 : z0.length * 40 ≤ 140737488351232) (y0 : ∀ e ∈ z0, e.2.2.length * 16 ≤ 140737488351232) (A1 : Option Addr) (c1 : Nat) (z1 : List (List Int)) (cu1 : Int) (w1 : KindsAt w A1 z1) (s1 : z1.length * 24 ≤ 140737488351232) (y1 : ∀ l ∈ z1, l.length * 8 ≤ 140737488351232) (a2 b2 : Int) (w2 : (Lit.int .i64 a2).wf = true) (x2 : (Lit.int .i64 b2).wf = true) :
    Calls Try.prog 6 #[.slice A0 z0.length c0, .agg #[.slice A1 z1.length c1, .int .i64 cu1], .agg #[.int .i64 a2, .int .i64 b2]] w fun e w' => e = .returned (.bool true) ∧ Below w.heap.size w w' := by
  have hz63 : z0.length ≤ 9223372036854775807 := by omega
  have hl63 : z1.length ≤ 9223372036854775807 := by omega
  have hy63 : ∀ e ∈ z0, e.2.2.length ≤ 9223372036854775807 := fun e he => by have := y0 e he; omega
  have hL : LookIn w A0 A1 z0 z1 := ⟨w0, w1, hz63, hy63, hl63, fun l hl => by have := y1 l hl; omega⟩
  replace hL := Lib.hid hL
  clear y0 y1 w0 w1 w2 x2 u0 x0 hy63
  go_enter Try.func6, Try.ntmps6
  go_wp2_with fail
  have hB0 := m2 w (.cells #[.slice A1 z1.length c1, .int .i64 cu1] 31) (.cells #[.int .i64 a2, .int .i64 b2] 44)
  have p0 : ((w.alloc (.cells #[.slice A1 z1.length c1, .int .i64 cu1] 31)).alloc (.cells #[.int .i64 a2, .int .i64 b2] 44)).cell? ⟨w.heap.size, 0, none⟩ = some (.slice A1 z1.length c1) := by simp [go_sem]
  have p1 : ((w.alloc (.cells #[.slice A1 z1.length c1, .int .i64 cu1] 31)).alloc (.cells #[.int .i64 a2, .int .i64 b2] 44)).cell? ⟨w.heap.size, 1, none⟩ = some (.int .i64 cu1) := by simp [go_sem]
  have q0 : ((w.alloc (.cells #[.slice A1 z1.length c1, .int .i64 cu1] 31)).alloc (.cells #[.int .i64 a2, .int .i64 b2] 44)).cell? ⟨w.heap.size + 1, 0, none⟩ = some (.int .i64 a2) := by simp [go_sem]
  have q1 : ((w.alloc (.cells #[.slice A1 z1.length c1, .int .i64 cu1] 31)).alloc (.cells #[.int .i64 a2, .int .i64 b2] 44)).cell? ⟨w.heap.size + 1, 1, none⟩ = some (.int .i64 b2) := by simp [go_sem]
  generalize (w.alloc (.cells #[.slice A1 z1.length c1, .int .i64 cu1] 31)).alloc (.cells #[.int .i64 a2, .int .i64 b2] 44) = wa at *
  replace hB0 := Lib.hid hB0
  go_quiet (fail)
  go_wp2_with fail
  refine (awake9 _).mono ?_; rintro e v1 ⟨rfl, hb1⟩
  have hB1 := mmore (bdrewN hB0.out _) hb1
  have p0 : v1.cell? ⟨w.heap.size, 0, none⟩ = some (.slice A1 z1.length c1) := cell_later hb1 (by simpa using p0)
  have p1 : v1.cell? ⟨w.heap.size, 1, none⟩ = some (.int .i64 cu1) := cell_later hb1 (by simpa using p1)
  clear hb1 hB0 q0 q1
  go_upto_region 5 with (fail)
  have hb2 := m1 v1 (lookO A0 A1 z0.length c0 z1.length c1 cu1)
  have gk := Blk.made v1 34 #[.slice A0 z0.length c0, .slice A1 z1.length c1, .int .i64 cu1]
  have J : PoJ w A0 A1 c0 c1 z0 z1 cu1 v1.heap.size (v1.alloc (lookO A0 A1 z0.length c0 z1.length c1 cu1)) :=
    ⟨⟨cell_later hb2 p0, cell_later hb2 p1⟩, ⟨gk.cell 0, gk.cell 1, gk.cell 2⟩, hL.out.later (mmore hB1 hb2), mmore hB1 hb2⟩
  clear hb2 gk p0 p1 hB1 hL
  generalize v1.heap.size = gk at *
  generalize v1.alloc (lookO A0 A1 z0.length c0 z1.length c1 cu1) = v2 at *
  obtain ⟨⟨p0, p1⟩, ⟨k0, k1, k2⟩, hL, hB⟩ := J
  have J := Lib.hid (show PoJ w A0 A1 c0 c1 z0 z1 cu1 gk v2 from ⟨⟨p0, p1⟩, ⟨k0, k1, k2⟩, hL, hB⟩)
  clear hB
  go_cut [40] from 24 to 40 (fun p w' => p = .bool false ∧ PoJ w A0 A1 c0 c1 z0 z1 cu1 gk w')
  case first =>
    have hnv : ∀ (w : World), (binOp .neq 25 (.agg #[.int .i64 0, .int .u64 0]) (.agg #[.int .i64 0, .int .u64 0])).run Try.prog w = .ok (.bool false) w := fun w => by simp [go_sem]
    have D := do_any9 A0 A1 c0 c1 cu1 z0 z1 41 0 b2 v2 (by unfold LeafOp; decide) hL
    rw [show leafP 41 0 0 0 b2 z0 z1 cu1 = attrP z0 cu1 b2 from rfl] at D
    clear hL
    by_cases h1 : cu1 < 0
    · rw [show attrP z0 cu1 b2 = (0, 0) by unfold attrP; rw [if_pos h1]] at D
      replace D := Lib.hid D
      go_wp2_with fail
      refine D.out.mono ?_; rintro e v3 ⟨rfl, hb3⟩
      have J3 := Lib.hid (J.out.later hb3)
      go_wp2_with fail
      go_meet
      exact ⟨rfl, J3.out⟩
    · by_cases h2 : cu1 < (z0.length : Int)
      · clear D
        go_wp2_with fail
        go_meet
        exact ⟨rfl, J.out⟩
      · rw [show attrP z0 cu1 b2 = (0, 0) by unfold attrP; rw [if_neg h1, List.getElem?_eq_none (by omega)]] at D
        replace D := Lib.hid D
        go_wp2_with fail
        refine D.out.mono ?_; rintro e v3 ⟨rfl, hb3⟩
        have J3 := Lib.hid (J.out.later hb3)
        go_wp2_with fail
        go_meet
        exact ⟨rfl, J3.out⟩
  case rest =>
    obtain ⟨rfl, J⟩ := hcut
    clear p0 p1 k0 k1 k2 hL
    go_upto_region 7 with (fail)
    obtain ⟨⟨p0, p1⟩, ⟨k0, k1, k2⟩, hL, hB⟩ := J
    have J := Lib.hid (show PoJ w A0 A1 c0 c1 z0 z1 cu1 gk wc from ⟨⟨p0, p1⟩, ⟨k0, k1, k2⟩, hL, hB⟩)
    have hW := Lib.hid hL.2.1
    clear hB hL
    go_cut [58] from 41 to 58 (fun p w' => ∃ b : Bool, p = .bool b ∧ w' = wc ∧ Hid (b = true ↔ placesP z1 a2 ≠ []))
    case first =>
      by_cases h1 : a2 < 0
      · have hp : placesP z1 a2 = [] := by unfold placesP; rw [if_pos h1]
        replace hp := Lib.hid hp
        clear k0 k1 k2 p1
        go_wp2_with fail
        go_meet
        exact ⟨false, rfl, rfl, Lib.hid ⟨fun h => (by cases h), fun h => absurd hp.out h⟩⟩
      obtain ⟨p, rfl⟩ : ∃ q : Nat, a2 = (q : Int) := ⟨a2.toNat, by omega⟩
      by_cases h2 : (p : Int) < (z1.length : Int)
      · have hp : placesP z1 (p : Int) = z1[p]'(by omega) := by
          unfold placesP; rw [if_neg h1]; simp [List.getElem?_eq_getElem (show p < z1.length by omega)]
        obtain ⟨b, off, e2, hc⟩ := hW.out (by omega)
        obtain ⟨x0, r0, UA, ucap, e3, hI⟩ := hc p _ (List.getElem?_eq_getElem (by omega))
        subst e2 e3
        generalize z1[p] = ks at *
        have i2 : (0 : Int) ≤ (p : Int) := by omega
        by_cases h3 : 0 < ks.length
        · have hne : ks ≠ [] := List.length_pos_iff.1 h3
          rw [← hp] at hne
          replace hne := Lib.hid hne
          clear k0 k1 k2 p1 hI hc hp
          have h3' : (0 : Int) < (ks.length : Int) := by omega
          go_wp2_with fail
          go_meet
          exact ⟨true, rfl, rfl, Lib.hid ⟨fun _ => hne.out, fun _ => rfl⟩⟩
        · have hne : ks = [] := List.eq_nil_of_length_eq_zero (by omega)
          rw [← hp] at hne
          replace hne := Lib.hid hne
          clear k0 k1 k2 p1 hI hc hp
          have h3' : ¬ (0 : Int) < (ks.length : Int) := by omega
          go_wp2_with fail
          go_meet
          exact ⟨false, rfl, rfl, Lib.hid ⟨fun h => (by cases h), fun h => absurd hne.out h⟩⟩
      · have hp : placesP z1 (p : Int) = [] := by
          unfold placesP; rw [if_neg h1]; simp [List.getElem?_eq_none (show z1.length ≤ p by omega)]
        replace hp := Lib.hid hp
        clear k0 k1 k2 p1
        go_wp2_with fail
        go_meet
        exact ⟨false, rfl, rfl, Lib.hid ⟨fun h => (by cases h), fun h => absurd hp.out h⟩⟩
    case rest =>
      obtain ⟨q, rfl, rfl, HQ⟩ := hcut
      clear p0 p1 k0 k1 k2 hW
      cases q
      case true =>
        go_wp2_with fail
        go_ret
        exact ⟨rfl, J.out.2.2.2⟩
      case false =>
        have hp : placesP z1 a2 = [] := Classical.byContradiction fun h => by have := HQ.out.2 h; cases this
        replace hp := Lib.hid hp
        clear HQ
        have hnv : ∀ (w : World), (binOp .neq 25 (.agg #[.int .i64 0, .int .u64 0]) (.agg #[.int .i64 0, .int .u64 0])).run Try.prog w = .ok (.bool false) w := fun w => by simp [go_sem]
        have hev : ∀ (w : World), (binOp .eql 25 (.agg #[.int .i64 1, .int .u64 0]) (.agg #[.int .i64 1, .int .u64 0])).run Try.prog w = .ok (.bool true) w := fun w => by simp [go_sem]
        go_wp2_with fail
        go_loopw [10] (fun i wr => ∃ k : Nat, 26 ≤ k ∧ k ≤ 32 ∧ i = .int .i64 (k : Int) ∧ PoJ w A0 A1 c0 c1 z0 z1 cu1 gk wr) (fun i _ => 32 - (intOf i).toNat)
        case atStart => exact ⟨26, by omega, by omega, rfl, J.out⟩
        case round =>
          obtain ⟨k, h26, hk, rfl, J⟩ := hrel
          obtain ⟨⟨p0, p1⟩, ⟨k0, k1, k2⟩, hL, hB⟩ := J
          have J := Lib.hid (show PoJ w A0 A1 c0 c1 z0 z1 cu1 gk wr from ⟨⟨p0, p1⟩, ⟨k0, k1, k2⟩, hL, hB⟩)
          clear p0 p1
          by_cases hk31 : k ≤ 31
          · have D := do_any9 A0 A1 c0 c1 cu1 z0 z1 (k : Int) a2 b2 wr (by unfold LeafOp; omega) hL
            rw [leaf_none z0 z1 (k : Int) a2 b2 cu1 (.inl ⟨by omega, by omega⟩) hp.out] at D
            replace D := Lib.hid D
            have hk' : (k : Int) ≤ 31 := by omega
            clear hL hB
            go_wp2_with fail
            refine D.out.mono ?_; rintro e v3 ⟨rfl, hb3⟩
            have J3 := Lib.hid (J.out.later hb3)
            clear k0 k1 k2 J D
            go_wp2_with fail
            go_roundw
            case rel => exact ⟨k + 1, by omega, by omega, by go_num, J3.out⟩
            case measure => simp [intOf]; omega
          · obtain rfl : k = 32 := by omega
            have hk' : ¬ ((32 : Nat) : Int) ≤ 31 := by omega
            clear k0 k1 k2 hL hB
            go_upto_region 15 with (fail)
            have gn := Blk.made wr 27 #[.int .i64 42, .int .i64 0, .slice none 0 0, .int .i64 0, .int .u64 0, .int .i64 a2, .int .i64 b2]
            have J4 := J.out.later (m1 wr (.cells #[.int .i64 42, .int .i64 0, .slice none 0 0, .int .i64 0, .int .u64 0, .int .i64 a2, .int .i64 b2] 27))
            clear J
            generalize wr.heap.size = g0 at *
            generalize wr.alloc (.cells #[.int .i64 42, .int .i64 0, .slice none 0 0, .int .i64 0, .int .u64 0, .int .i64 a2, .int .i64 b2] 27) = v4 at *
            obtain ⟨⟨p0, p1⟩, ⟨k0, k1, k2⟩, hL, hB⟩ := J4
            have J4 := Lib.hid (show PoJ w A0 A1 c0 c1 z0 z1 cu1 gk v4 from ⟨⟨p0, p1⟩, ⟨k0, k1, k2⟩, hL, hB⟩)
            have D := do_any9 A0 A1 c0 c1 cu1 z0 z1 25 a2 0 v4 (by unfold LeafOp; decide) hL
            rw [show leafP 25 0 0 a2 0 z0 z1 cu1 = (1, nU ((placesP z1 a2).length : Int)) from rfl, hp.out, show nU (([] : List Int).length : Int) = 0 by kernel_rfl] at D
            replace D := Lib.hid D
            clear p0 p1 hL hB
            go_wp2_with fail
            refine D.out.mono ?_; rintro e v5 ⟨rfl, hb5⟩
            have J5 := J4.out.later hb5
            have gn5 := gn.kept hb5
            clear gn D J4 hb5 k0 k1 k2
            obtain ⟨⟨p0, p1⟩, ⟨k0, k1, k2⟩, hL, hB⟩ := J5
            have J5 := Lib.hid (show PoJ w A0 A1 c0 c1 z0 z1 cu1 gk v5 from ⟨⟨p0, p1⟩, ⟨k0, k1, k2⟩, hL, hB⟩)
            clear p0 p1 hL hB
            have n0 : v5.cell? ⟨g0, 0, none⟩ = some (.int .i64 42) := gn5.cell 0
            have n1 : v5.cell? ⟨g0, 1, none⟩ = some (.int .i64 0) := gn5.cell 1
            have n2 : v5.cell? ⟨g0, 2, none⟩ = some (.slice none 0 0) := gn5.cell 2
            have n3 : v5.cell? ⟨g0, 3, none⟩ = some (.int .i64 0) := gn5.cell 3
            have n4 : v5.cell? ⟨g0, 4, none⟩ = some (.int .u64 0) := gn5.cell 4
            have n5 : v5.cell? ⟨g0, 5, none⟩ = some (.int .i64 a2) := gn5.cell 5
            have n6 : v5.cell? ⟨g0, 6, none⟩ = some (.int .i64 b2) := gn5.cell 6
            have kk0 : ∀ o : Obj, (v5.alloc o).cell? ⟨gk, 0, none⟩ = some (.slice A0 z0.length c0) := fun o => cell_later (m1 _ _) k0
            have kk1 : ∀ o : Obj, (v5.alloc o).cell? ⟨gk, 1, none⟩ = some (.slice A1 z1.length c1) := fun o => cell_later (m1 _ _) k1
            have kk2 : ∀ o : Obj, (v5.alloc o).cell? ⟨gk, 2, none⟩ = some (.int .i64 cu1) := fun o => cell_later (m1 _ _) k2
            have gq := Blk.made v5 27 #[.int .i64 42, .int .i64 0, .slice none 0 0, .int .i64 0, .int .u64 0, .int .i64 a2, .int .i64 b2]
            have J6 := J5.out.later (m1 v5 (.cells #[.int .i64 42, .int .i64 0, .slice none 0 0, .int .i64 0, .int .u64 0, .int .i64 a2, .int .i64 b2] 27))
            have A6 := all_one A0 A1 z0.length c0 z1.length c1 cu1 v5.heap.size (0, 0) (v5.alloc (.cells #[.int .i64 42, .int .i64 0, .slice none 0 0, .int .i64 0, .int .u64 0, .int .i64 a2, .int .i64 b2] 27)) (by decide) (fun wz hz => by
              have gz := gq.kept hz
              have := leaf_any A0 A1 c0 c1 cu1 z0 z1 v5.heap.size 0 42 0 0 a2 b2 wz (by unfold LeafOp; decide) (by decide) ⟨gz.cell 0, gz.cell 3, gz.cell 4, gz.cell 5, gz.cell 6⟩ (J6.2.2.1.later hz)
              rw [leaf_none z0 z1 42 a2 b2 cu1 (.inr rfl) hp.out] at this
              exact ask_leaf A0 A1 _ c0 _ c1 cu1 v5.heap.size 0 42 (0, 0) wz (by unfold LeafOp; decide) (gz.cell 0) this)
            have gn6 := gn5.kept (m1 v5 (.cells #[.int .i64 42, .int .i64 0, .slice none 0 0, .int .i64 0, .int .u64 0, .int .i64 a2, .int .i64 b2] 27))
            replace A6 := Lib.hid A6
            replace gn6 := Lib.hid gn6
            replace J6 := Lib.hid J6
            clear gq gn5 J5
            go_wp2_with fail
            refine A6.out.mono ?_; rintro e v6 ⟨rfl, hb6⟩
            have J7 := J6.out.later hb6
            have gn7 := gn6.out.kept hb6
            clear A6 gn6 J6 hb6 n0 n1 n2 n3 n4 n5 n6 kk0 kk1 kk2 k0 k1 k2
            obtain ⟨⟨p0, p1⟩, ⟨k0, k1, k2⟩, hL, hB⟩ := J7
            have J7 := Lib.hid (show PoJ w A0 A1 c0 c1 z0 z1 cu1 gk v6 from ⟨⟨p0, p1⟩, ⟨k0, k1, k2⟩, hL, hB⟩)
            clear p0 p1 hL hB
            have n0 : v6.cell? ⟨g0, 0, none⟩ = some (.int .i64 42) := gn7.cell 0
            have n1 : v6.cell? ⟨g0, 1, none⟩ = some (.int .i64 0) := gn7.cell 1
            have n2 : v6.cell? ⟨g0, 2, none⟩ = some (.slice none 0 0) := gn7.cell 2
            have n3 : v6.cell? ⟨g0, 3, none⟩ = some (.int .i64 0) := gn7.cell 3
            have n4 : v6.cell? ⟨g0, 4, none⟩ = some (.int .u64 0) := gn7.cell 4
            have n5 : v6.cell? ⟨g0, 5, none⟩ = some (.int .i64 a2) := gn7.cell 5
            have n6 : v6.cell? ⟨g0, 6, none⟩ = some (.int .i64 b2) := gn7.cell 6
            have kk0 : ∀ o o' : Obj, ((v6.alloc o).alloc o').cell? ⟨gk, 0, none⟩ = some (.slice A0 z0.length c0) := fun o o' => cell_later (m2 _ _ _) k0
            have kk1 : ∀ o o' : Obj, ((v6.alloc o).alloc o').cell? ⟨gk, 1, none⟩ = some (.slice A1 z1.length c1) := fun o o' => cell_later (m2 _ _ _) k1
            have kk2 : ∀ o o' : Obj, ((v6.alloc o).alloc o').cell? ⟨gk, 2, none⟩ = some (.int .i64 cu1) := fun o o' => cell_later (m2 _ _ _) k2
            have ga := (Blk.made v6 27 #[.int .i64 42, .int .i64 0, .slice none 0 0, .int .i64 0, .int .u64 0, .int .i64 a2, .int .i64 b2]).kept (m1 _ (.cells #[.int .i64 15, .int .i64 0, .slice (some ⟨v6.heap.size, 0, none⟩) 1 1, .int .i64 0, .int .u64 0, .int .i64 0, .int .i64 0] 27))
            have gb : Blk ((v6.alloc (.cells #[.int .i64 42, .int .i64 0, .slice none 0 0, .int .i64 0, .int .u64 0, .int .i64 a2, .int .i64 b2] 27)).alloc (.cells #[.int .i64 15, .int .i64 0, .slice (some ⟨v6.heap.size, 0, none⟩) 1 1, .int .i64 0, .int .u64 0, .int .i64 0, .int .i64 0] 27)) (v6.heap.size + 1) 27 #[.int .i64 15, .int .i64 0, .slice (some ⟨v6.heap.size, 0, none⟩) 1 1, .int .i64 0, .int .u64 0, .int .i64 0, .int .i64 0] := by
              have := Blk.made (v6.alloc (.cells #[.int .i64 42, .int .i64 0, .slice none 0 0, .int .i64 0, .int .u64 0, .int .i64 a2, .int .i64 b2] 27)) 27 #[.int .i64 15, .int .i64 0, .slice (some ⟨v6.heap.size, 0, none⟩) 1 1, .int .i64 0, .int .u64 0, .int .i64 0, .int .i64 0]
              simpa using this
            have J8 := J7.out.later (m2 v6 (.cells #[.int .i64 42, .int .i64 0, .slice none 0 0, .int .i64 0, .int .u64 0, .int .i64 a2, .int .i64 b2] 27) (.cells #[.int .i64 15, .int .i64 0, .slice (some ⟨v6.heap.size, 0, none⟩) 1 1, .int .i64 0, .int .u64 0, .int .i64 0, .int .i64 0] 27))
            have A8 := all_one A0 A1 z0.length c0 z1.length c1 cu1 (v6.heap.size + 1) (appP 15 [(0, 0)]) _ (show (appP 15 [(0, 0)]).1 ≠ 2 by decide) (fun wz hz => by
              have gz := ga.kept hz
              have gy := gb.kept hz
              have := leaf_any A0 A1 c0 c1 cu1 z0 z1 v6.heap.size 0 42 0 0 a2 b2 wz (by unfold LeafOp; decide) (by decide) ⟨gz.cell 0, gz.cell 3, gz.cell 4, gz.cell 5, gz.cell 6⟩ (J8.2.2.1.later hz)
              rw [leaf_none z0 z1 42 a2 b2 cu1 (.inr rfl) hp.out] at this
              exact ask_15 A0 A1 _ c0 _ c1 cu1 (v6.heap.size + 1) 0 v6.heap.size 0 42 (0, 0) wz (by unfold LeafOp; decide) (by decide) (gy.cell 0) (gy.cell 2) (gz.cell 0) this)
            replace A8 := Lib.hid A8
            replace J8 := Lib.hid J8
            clear ga gb gn7 J7
            go_wp2_with fail
            refine A8.out.mono ?_; rintro e v9 ⟨rfl, hb9⟩
            have hB9 := Lib.hid (mmore J8.out.2.2.2 hb9)
            clear n0 n1 n2 n3 n4 n5 n6 kk0 kk1 kk2 k0 k1 k2 A8 J8 hb9
            go_wp2_with fail
            go_ret
            exact ⟨rfl, hB9.out⟩

set_option maxRecDepth 100000 in
theorem lifted (os : Os) (started : os.Started) (H : Type) (enc : TypeId × Value → H) :
    ReturnsInHanded {} Try.checked os 6 .any (Rows.evalPoisonSpec.pre6 enc Try.prog Try.f6 Rows.evalPoisonRow.domain false) (Rows.evalPoisonSpec.post enc Try.prog Try.f6 false true false false) := by
  refine returnsInHanded_of_change_sized (C := Try.checked) own started (by kernel_rfl) Try.func6
    (ChangeSpec.witness6 (enc := enc) (C := Try.checked) false ⟨#[], #[.slice none 0 0, .agg #[.slice none 0 0, .int .i64 0], .agg #[.int .i64 0, .int .i64 0]], []⟩ 8 (by kernel_rfl) (by kernel_rfl) (by kernel_rfl) (by kernel_rfl)) ?_
  intro W base args ds gs before hval0 hW hcnd hsz0 _
  have hsz : (DataW.weightsEach Try.prog (Try.f6.params.toList ++ Rows.evalPoisonSpec.plain.varTypes Try.prog) (ds ++ gs)).all (· ≤ reachBytes) = true := hsz0
  clear hsz0
  have hval : ∀ (j : Nat) t v, Try.f6.params[j]? = some t → args[j]? = some v → Value.okWide Try.prog W .any base t v := hval0
  have hW' := hW
  obtain ⟨p, q, hA0, hV, rfl, hfz, hnd⟩ := hW
  have hA : DataW.TrodAll enc Try.prog W 0 (fun _ => true) true Try.f6.params.toList args.toList ds p := hA0
  rw [Try.params6] at hA hval hsz
  obtain ⟨v0, vs0, d0, ds0, p0, q0, hargs, rfl, rfl, h0, r0⟩ := trodAll_cons hA
  obtain ⟨v1, vs1, d1, ds1, p1, q1, rfl, rfl, rfl, h1, r1⟩ := trodAll_cons r0
  obtain ⟨v2, vs2, d2, ds2, p2, q2, rfl, rfl, rfl, h2, r2⟩ := trodAll_cons r1
  obtain ⟨rfl, rfl, rfl⟩ := trodAll_nil r2
  obtain rfl : args = #[v0, v1, v2] := by cases args; simp_all
  obtain ⟨rfl, rfl⟩ := trodVars_none hV
  have kk0 := h0
  have lt0 : ∀ x ∈ p0, x.block < W.heap.size := by obtain ⟨m, hm⟩ := kk0; exact DataW.trod_lt m _ _ _ hm
  have kk1 := h1
  have lt1 : ∀ x ∈ p1, x.block < W.heap.size := by obtain ⟨m, hm⟩ := kk1; exact DataW.trod_lt m _ _ _ hm
  have kk2 := h2
  have lt2 : ∀ x ∈ p2, x.block < W.heap.size := by obtain ⟨m, hm⟩ := kk2; exact DataW.trod_lt m _ _ _ hm
  obtain ⟨A0, c0, z0, rfl, uu0, xx0, w0, ss0, yy0⟩ := open_events9 (hval 0 28 v0 rfl rfl) h0 (wb_each hsz (j := 0) (t := 28) rfl rfl)
  obtain ⟨A1, c1, z1, cu1, rfl, w1, ss1, yy1⟩ := open_place9 (hval 1 31 v1 rfl rfl) h1 (wb_each hsz (j := 1) (t := 31) rfl rfl)
  obtain ⟨a2, b2, rfl, w2, x2⟩ := open_two Try.underlying44 Try.underlying3 (by kernel_rfl) (by kernel_rfl) (hval 2 44 v2 rfl rfl) h2
  clear hA0 hval0
  refine (walk W A0 c0 z0 w0 uu0 xx0 ss0 yy0 A1 c1 z1 cu1 w1 ss1 yy1 a2 b2 w2 x2).mono fun e W' ⟨he, bel⟩ => ?_
  subst he
  exact ⟨_, rfl, _, _, _, [], _, [], hW', trodAll_mk1 (shut_bool Try.underlying4 _), (trodAll_cons_mk (Below.trod laidOut (by kernel_rfl) (of_decide_eq_true (by kernel_rfl)) kk0 bel lt0) (trodAll_cons_mk (Below.trod laidOut (by kernel_rfl) (of_decide_eq_true (by kernel_rfl)) kk1 bel lt1) (trodAll_cons_mk (Below.trod laidOut (by kernel_rfl) (of_decide_eq_true (by kernel_rfl)) kk2 bel lt2) trodAll_mk0))), rfl, bel.frame _, fun h => by cases h⟩

theorem over : Rows.evalPoisonRow.holds Try.pinned (OpenSpec.ofChange Rows.evalPoisonSpec) :=
  OpenClaim.holds_of_wide 6 Try.f6 rfl rfl rfl rfl rfl rfl rfl ⟨rfl, rfl, rfl, rfl, rfl⟩ rfl rfl rfl rfl rfl (by kernel_rfl) Try.func6 (by kernel_rfl)
    (of_decide_eq_true (by kernel_rfl)) (by unfold Func.isWrapper; first | (rw [if_pos (by decide +kernel)]; kernel_rfl) | (rw [if_neg (by decide +kernel)]; exact ⟨rfl, rfl⟩))
    (fun os started H enc _ => lifted os started H enc)

/-- the statement -/
theorem proved : Rows.EvalPoisonSaid :=
  over
#print axioms proved
end Go.Proofs.Ytfjnphiegoogoaa.evalPoison
