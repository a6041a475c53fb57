/- WireReads: what any reads answer, one behind the other, over any bytes, is what the document says; the bytes stay, and aren't kept. -/
import Derived.Test.YthoknfkldmfdpaaRows
import Derived.WalkKit
import Derived.ProofKit
import Derived.OpenShut
import Derived.ShutString
import Derived.ChangeOld
import Derived.Below
import Derived.Lib.SmallJoins
import Derived.SizedLaws
import Derived.Test.YthoknfkldmfdpaaWrG
import Derived.Test.YthoknfkldmfdpaaWrH
import Derived.Test.YthoknfkldmfdpaaWrO
import Derived.Test.YthoknfkldmfdpaaWb
import Derived.Test.YthoknfkldmfdpaaInvG
import Derived.Deep.CutRange
import Derived.Deep.DeepCutAuto
namespace Go.Proofs.Ythoknfkldmfdpaa.wireReads
open Go.ChangeShapes Go.WideShapes Go.ChangeAt Go.RowKit Go.Joins
set_option linter.unusedVariables false
set_option linter.unusedSimpArgs false

theorem own : ownKnob Try.prog.godebug = none := by kernel_rfl
theorem laidOut : laidOutB Try.prog = true := by kernel_rfl

theorem bdrewL {B : Nat} {a w : World} (h : Below B a w) (n : Nat) : Below B a (w.drewN n) := ⟨h.os, h.tape, h.output, h.size, h.block⟩
theorem own_cap {W : World} {base n c : Nat} {A : Option Addr} {e : TypeId} {size : Nat} {xs : List Value} (h : W.ownsRow base e size (.slice A n c) n xs) : n ≤ c ∧ c ≤ maxLen := by
  obtain ⟨a, c', hv, h1, h2⟩ := bslice_of h
  injection hv with _ _ hv
  subst hv
  exact ⟨h1, h2⟩
set_option maxHeartbeats 16000000 in
set_option maxRecDepth 100000 in
theorem walk (w : World) (A0 : Option Addr) (c0 : Nat) (z0 : List Nat) (w0 : Bys w A0 z0) (y0 : Byt z0) (u0 : z0.length ≤ c0) (x0 : c0 ≤ maxLen) (s0 : z0.length ≤ 140737488351232) (A1 : Option Addr) (c1 : Nat) (z1 : List StepP) (w1 : StepsAt w A1 z1) (y1 : ∀ s ∈ z1, -9223372036854775808 ≤ s.1 ∧ s.1 ≤ 9223372036854775807) (u1 : z1.length ≤ c1) (x1 : c1 ≤ maxLen) (s1 : z1.length * 24 ≤ 140737488351232) :
    Calls Try.prog 5 #[.slice A0 z0.length c0, .slice A1 z1.length c1] w fun e w' => e = .returned (.bool true) ∧ Below w.heap.size w w' := by
  obtain ⟨i0, hi, hz0, hz1, hz2⟩ := info_parts infoB
  replace hi := Lib.hid hi
  replace hz1 := Lib.hid hz1
  replace hz2 := Lib.hid hz2
  have AW := Lib.hid (fun w => awake20 w)
  have hO0 := World.ownsRow_lit (base := w.heap.size) (e := 5) (size := 1) w #[] 0 (Nat.le_refl _) (by unfold maxLen; omega) rfl
  have hR0 := Lib.hid (Reads.alloc w0 (Nat.le_refl _) (.cells #[] 5))
  have hB0 := m1 w (.cells #[] 5)
  have l1 : 0 + z0.length ≤ maxLen := by unfold maxLen; omega
  have l2 : (0 + z0.length) * 1 ≤ 140737488355328 := by omega
  have l3 : z0.length + 1 ≤ maxLen := by unfold maxLen; omega
  have l4 : (z0.length + 1) * 1 ≤ 140737488355328 := by omega
  have W0 := Lib.hid w0
  have W1 := Lib.hid w1
  have Y0 := Lib.hid y0
  have Y1 := Lib.hid y1
  clear w0 w1 y0 y1
  go_enter Try.func5, Try.ntmps5
  go_wp2_with (first | (at_builtin; refine wpList_append_any _ rfl (.tmp 20) (.tmp 21) 23 rfl w.heap.size 5 i0 (.int .u8 0) 1 1 Try.underlying23 hi.out hz0 hz1.out hz2.out rfl (by decide) _ 0 [] rfl hO0 w.heap.size A0 z0.length c0 (bcells z0) rfl hR0.out (bcells_one _) l1 l2 (by simp) ?_; intro v3 w3 hO3 hg3 _; rw [Nat.zero_add, List.nil_append] at hO3; have hB3 := bbelow_grown hB0 (Nat.le_refl _) hO0 hg3; have hs3 := hB3.size; replace hO3 := Lib.hid hO3; replace hB3 := Lib.hid hB3; clear hg3) | (at_builtin; go_loud (refine wpList_append_own _ rfl (.tmp 22) (.tmp 23) 23 rfl w.heap.size 5 i0 (.int .u8 0) 1 1 Try.underlying23 hi.out hz0 hz1.out hz2.out rfl (by decide) _ z0.length (bcells z0) rfl (hO3.out.alloc _) ⟨w3.heap.size, 0, none⟩ 1 1 _ rfl (by first | rfl | trace_state) (cell_one_new _ _ _) (by simp [Value.oneCell']) l3 l4 (by simp; omega) ?_; intro v4 w4 hO4 hg4 _; have hB4 := (hB3.out.alloc hs3 _).grown hg4 (by simp; omega) (fun g hg => (hO3.out.lt g hg).1); obtain ⟨g1, k1, rfl, hg1, -⟩ := hO4.form (by omega); replace hO4 : w4.ownsRow w.heap.size 5 1 (.slice (some ⟨g1, 0, none⟩) (z0.length + 1) k1) (z0.length + 1) (bcells (z0 ++ [113])) := own_snoc (c := 113) rfl hO4; have hk1 := (own_cap hO4).1; have hk1' : z0.length ≤ k1 := Nat.le_of_succ_le hk1; replace hO4 := Lib.hid hO4; replace hB4 := Lib.hid hB4; clear hg4 hO3 hB3 hO0 hR0 hB0)))
  have hT : (z0 ++ [113]).take z0.length = z0 := by simp
  have hP := (Bys.of_own hO4.out).2.pre (k := z0.length) (by simp)
  rw [hT] at hP
  refine (open_n (some ⟨g1, 0, none⟩) z0 _ k1 _ rfl hP (by omega)).mono ?_
  rintro e w5 ⟨gr, B, rfl, hBw, hgw, hR, hb5⟩
  have hB5 := Lib.hid (mmore hB4.out hb5)
  have hO5 := Lib.hid (mown_below hO4.out hb5)
  have hg1w := (hO4.out.lt g1 rfl).2
  replace hR := Lib.hid hR
  clear hP hT hO4 hB4 hb5
  go_wp2_with fail
  refine (AW.out _).mono ?_; rintro e w6 ⟨rfl, hb6⟩
  have hB6 := Lib.hid (mmore hB5.out hb6)
  have hO6 := Lib.hid (mown_below hO5.out hb6)
  have hR6 := Lib.hid (hR.out.later hb6)
  have q1 : (convert 23 9 (.slice (some ⟨g1, 0, none⟩) (z0.length + 1) k1)).run Try.prog w6 = .ok (.string (strOf z0 ++ ⟨#[113]⟩)) w6 := by
    have := conv_str (n := z0.length + 1) (c := k1) (by simp) (Bys.of_own hO6.out).2
    rwa [strOf_append, show strOf [113] = ⟨#[113]⟩ from rfl] at this
  have q2 := conv_str (n := z0.length) (c := c0) rfl (Bys.later W0.out hB6.out)
  have qs : (strOf z0).size = z0.length := strOf_size z0
  have qs1 : (strOf z0).size ≤ 140737488351232 := by omega
  clear qs hb6 hB5 hO5 hR
  generalize strOf z0 = sz at *
  go_upto_region 5 with (fail)
  have hg1g : g1 ≠ gr := by omega
  have hg1B : g1 ≠ B := by omega
  clear q1 q2 qs1
  go_wp2_with fail
  go_loopw [46] (fun vk wr => ∃ (k : Nat) (xs : List Value), k ≤ z0.length + 1 ∧ vk = .int .i64 (k : Int) ∧ wr.ownsRow w.heap.size 5 1 (.slice (some ⟨g1, 0, none⟩) (z0.length + 1) k1) (z0.length + 1) xs ∧ w6.grownBy wr (some g1)) (fun vk _ => z0.length + 1 - (intOf vk).toNat)
  case atStart => exact ⟨0, _, by omega, rfl, hO6.out, World.grownBy.refl _ _⟩
  case round =>
    obtain ⟨k, xs, hk, rfl, hO, hg⟩ := hrel
    have k0 : (0 : Int) ≤ (k : Int) := by omega
    by_cases hlt : k < z0.length + 1
    · have k9 : (k : Int) < (z0.length : Int) + 1 := by omega
      have hxl : xs.length = z0.length + 1 := by have := hO.1; omega
      have hcell : wr.cell? ⟨g1, k, none⟩ = some (xs[k]'(by omega)) := by rw [hO.cellAt k (by omega)]; exact List.getElem?_eq_getElem _
      have hfr := hO.frozenAt k
      obtain ⟨hs1, hs2⟩ := hO.stored k (.int .u8 153)
      have hg' := Lib.hid (hg.trans hs2)
      replace hs1 := Lib.hid hs1
      generalize xs[k]'(by omega) = xk at *
      clear hs2 hO hg hxl
      go_wp2
      go_roundw
      case rel => exact ⟨k + 1, _, by omega, by go_num, hs1.out, hg'.out⟩
      case measure => simp [intOf]; omega
    · have hge : ¬ (k : Int) < (z0.length : Int) + 1 := by omega
      have hB7 : Below w.heap.size w wr := hB6.out.grown hg hB6.out.size (fun j ej => by injection ej with ej; omega)
      have hR7 := hR6.out.grown hg (fun e => hg1g (by injection e)) (fun e => hg1B (by injection e))
      replace hB7 := Lib.hid hB7
      replace hR7 := Lib.hid hR7
      clear hO hg hB6 hO6 hR6 hlt hk
      go_wp2_with fail
      clear hge k0
      generalize wr = wL at *
      go_loopw [8, 55] (fun va vk wr => ∃ (k at_ : Nat), k ≤ z1.length ∧ k ≤ 300 ∧ va = .int .i64 (at_ : Int) ∧ vk = .int .i64 (k : Int) ∧ at_ ≤ z0.length ∧ Rdr wr gr B (z0.drop at_) ∧ Below w.heap.size w wr) (fun _ vk _ => z1.length - (intOf vk).toNat)
      case atStart => exact ⟨0, 0, by omega, by omega, rfl, rfl, by omega, hR7.out, hB7.out⟩
      case round =>
        obtain ⟨k, at_, hk, hk3, rfl, rfl, hat, hR, hB⟩ := hrel
        have k0 : (0 : Int) ≤ (k : Int) := by omega
        have t0 : (0 : Int) ≤ (at_ : Int) := by omega
        by_cases hlt : k < z1.length
        · have k9 : (k : Int) < (z1.length : Int) := by omega
          have hck := List.getElem?_eq_getElem hlt
          have hyk := Y1.out _ (List.getElem_mem hlt)
          obtain ⟨b2, off, rfl, hst⟩ := W1.out (by omega)
          obtain ⟨r0, r1, r2⟩ := hst k _ hck
          replace r0 := mlater hB r0
          replace r1 := mlater hB r1
          replace r2 := mlater hB r2
          generalize z1[k] = st at *
          obtain ⟨kd, lo, hj⟩ := st
          simp only at r0 r1 r2 hyk
          clear hck hst
          have hBS := hB.alloc hB.size (.cells #[.int .i64 kd, .int .i64 lo, .int .i64 hj] 40)
          by_cases h300 : k = 300
          · have f300 : ((k : Int) == 300) = true := by rw [beq_iff_eq]; omega
            replace hBS := Lib.hid hBS
            clear h300 hB hR
            go_wp2
            go_ret
            exact ⟨rfl, hBS.out⟩
          have f300 : ((k : Int) == 300) = false := by rw [beq_eq_false_iff_ne]; omega
          have hRS := hR.later (m1 wr (.cells #[.int .i64 kd, .int .i64 lo, .int .i64 hj] 40))
          have hcut0 := Reads.cut (Bys.later W0.out hBS) (k := at_) (cap := c0) hat u0
          have hrest : (z0.drop at_).length = z0.length - at_ := List.length_drop
          have hby : Byt (z0.drop at_) := Y0.out.drop at_
          have hcut1 : c0 ≠ at_ → Bys (wr.alloc (.cells #[.int .i64 kd, .int .i64 lo, .int .i64 hj] 40)) (A0.map fun x => x.add at_) (z0.drop at_) := fun hne => by
            rw [if_neg hne, Nat.mul_one] at hcut0
            show Reads _ _ 1 _ (z0.drop at_).length (bcells (z0.drop at_))
            rw [hrest, show bcells (z0.drop at_) = (bcells z0).drop at_ by simp [bcells]]
            exact hcut0
          have hcut2 : c0 = at_ → Bys (wr.alloc (.cells #[.int .i64 kd, .int .i64 lo, .int .i64 hj] 40)) A0 (z0.drop at_) := fun he => by
            rw [if_pos he, Nat.mul_one] at hcut0
            show Reads _ _ 1 _ (z0.drop at_).length (bcells (z0.drop at_))
            rw [hrest, show bcells (z0.drop at_) = (bcells z0).drop at_ by simp [bcells]]
            exact hcut0
          have CF := fun (A : Option Addr) (n c : Nat) u (hn : n = (z0.drop at_).length) (h : Bys u A (z0.drop at_)) => rfirst_n A (z0.drop at_) n c hby u hn h (by omega)
          have CU := fun u (h : Rdr u gr B (z0.drop at_)) => uintf_any gr B (z0.drop at_) hby u h
          have CI := fun u (h : Rdr u gr B (z0.drop at_)) => intf_any gr B (z0.drop at_) hby u h
          have CP := fun u (h : Rdr u gr B (z0.drop at_)) => uptof_any gr B (z0.drop at_) hby u h lo hj
          unfold numOf at CU
          unfold intOfL at CI
          unfold uptoL at CP
          unfold FirstIs at CF
          clear hcut0 hrest
          replace hcut1 := Lib.hid hcut1
          replace hcut2 := Lib.hid hcut2
          replace hRS := Lib.hid hRS
          replace hBS := Lib.hid hBS
          clear hB hR h300
          cases hf : firstW (z0.drop at_) with
          | none =>
            rw [hf] at CU CI CP CF
            have CS : ∀ u, Calls Try.prog 21 #[.int .u64 0] u fun e w' => e = .returned (.int .i64 0) ∧ u = w' := fun u => rsigned_any 0 (by decide) u
            replace CU := Lib.hid CU
            replace CI := Lib.hid CI
            replace CP := Lib.hid CP
            replace CF := Lib.hid CF
            replace CS := Lib.hid CS
            have CL := Lib.hid (fun u (h : Rdr u gr B (z0.drop at_)) => left_any gr B (z0.drop at_) u h)
            have hlen : ((z0.drop at_).length : Int) = (z0.length : Int) - (at_ : Int) := by rw [List.length_drop]; omega
            replace hlen := Lib.hid hlen
            clear hf
            go_upto_region 15 with (fail)
            go_cut [11, 12] from 62 to 68 (fun p q w' => p = .int .u64 0 ∧ q = .int .i64 0 ∧ (wr.alloc (.cells #[.int .i64 kd, .int .i64 lo, .int .i64 hj] 40)) = w')
            case first =>
              by_cases hc : c0 = at_
              · have hb := hcut2.out hc
                subst hc
                clear hcut1 hcut2
                go_wp2_with fail
                refine (CF.out A0 _ _ _ (by rw [List.length_drop]; omega) hb).mono ?_; rintro e u ⟨rfl, rfl⟩
                go_wp2
                go_meet
                exact ⟨rfl, rfl, rfl⟩
              · have hb := hcut1.out hc
                have hc2 : at_ < c0 := by omega
                clear hcut1 hcut2
                go_wp2_with fail
                refine (CF.out _ _ _ _ (by rw [List.length_drop]) hb).mono ?_; rintro e u ⟨rfl, rfl⟩
                go_wp2
                go_meet
                exact ⟨rfl, rfl, rfl⟩
            case rest =>
              obtain ⟨rfl, rfl, rfl⟩ := hcut
              clear hcut1 hcut2 CF
              by_cases hk0 : kd = 0
              · have e0 : ((kd : Int) == 0) = true := by rw [beq_iff_eq]; omega
                clear hk0
                go_wp2_with fail
                refine (CS.out _).mono ?_; rintro e u1 ⟨rfl, rfl⟩
                go_wp2_with fail
                refine (CU.out _ hRS.out).mono ?_
                rintro e u2 ⟨hg, rfl, hR2⟩
                have hBn := Lib.hid (hBS.out.grown hg hBS.out.size (fun j ej => by injection ej with ej; omega))
                have CL2 := Lib.hid (CL.out _ hR2)
                replace hR2 := Lib.hid hR2
                clear CU CI CP CS CL hBS hRS hg
                go_wp2_with fail
                refine CL2.out.mono ?_; rintro e u3 ⟨rfl, rfl⟩
                rw [hlen.out]
                go_wp2
                go_roundw
                case rel => exact ⟨k + 1, at_, by omega, by have := f300; rw [beq_eq_false_iff_ne] at this; omega, by go_num, by go_num, by omega, hR2.out, hBn.out⟩
                case measure => simp [intOf]; omega
              by_cases hk1 : kd = 1
              · have e0 : ((kd : Int) == 0) = false := by rw [beq_eq_false_iff_ne]; omega
                have e1 : ((kd : Int) == 1) = true := by rw [beq_iff_eq]; omega
                clear hk0 hk1
                go_wp2_with fail
                refine (CS.out _).mono ?_; rintro e u1 ⟨rfl, rfl⟩
                go_wp2_with fail
                refine (CI.out _ hRS.out).mono ?_
                rintro e u2 ⟨hg, rfl, hR2⟩
                have hBn := Lib.hid (hBS.out.grown hg hBS.out.size (fun j ej => by injection ej with ej; omega))
                have CL2 := Lib.hid (CL.out _ hR2)
                replace hR2 := Lib.hid hR2
                clear CU CI CP CS CL hBS hRS hg
                go_wp2_with fail
                refine CL2.out.mono ?_; rintro e u3 ⟨rfl, rfl⟩
                rw [hlen.out]
                go_wp2
                go_roundw
                case rel => exact ⟨k + 1, at_, by omega, by have := f300; rw [beq_eq_false_iff_ne] at this; omega, by go_num, by go_num, by omega, hR2.out, hBn.out⟩
                case measure => simp [intOf]; omega
              have e0 : ((kd : Int) == 0) = false := by rw [beq_eq_false_iff_ne]; omega
              have e1 : ((kd : Int) == 1) = false := by rw [beq_eq_false_iff_ne]; omega
              clear hk0 hk1
              by_cases m1 : (0 : Int) < lo
              · go_wp2_with fail
                refine (CS.out _).mono ?_; rintro e u1 ⟨rfl, rfl⟩
                go_wp2_with fail
                refine (CP.out _ hRS.out).mono ?_
                rintro e u2 ⟨hg, rfl, hR2⟩
                have hBn := Lib.hid (hBS.out.grown hg hBS.out.size (fun j ej => by injection ej with ej; omega))
                have CL2 := Lib.hid (CL.out _ hR2)
                replace hR2 := Lib.hid hR2
                clear CU CI CP CS CL hBS hRS hg
                go_wp2_with fail
                refine CL2.out.mono ?_; rintro e u3 ⟨rfl, rfl⟩
                rw [hlen.out]
                go_wp2
                go_roundw
                case rel => exact ⟨k + 1, at_, by omega, by have := f300; rw [beq_eq_false_iff_ne] at this; omega, by go_num, by go_num, by omega, hR2.out, hBn.out⟩
                case measure => simp [intOf]; omega
              by_cases m2 : hj < (0 : Int)
              · go_wp2_with fail
                refine (CS.out _).mono ?_; rintro e u1 ⟨rfl, rfl⟩
                go_wp2_with fail
                refine (CP.out _ hRS.out).mono ?_
                rintro e u2 ⟨hg, rfl, hR2⟩
                have hBn := Lib.hid (hBS.out.grown hg hBS.out.size (fun j ej => by injection ej with ej; omega))
                have CL2 := Lib.hid (CL.out _ hR2)
                replace hR2 := Lib.hid hR2
                clear CU CI CP CS CL hBS hRS hg
                go_wp2_with fail
                refine CL2.out.mono ?_; rintro e u3 ⟨rfl, rfl⟩
                rw [hlen.out]
                go_wp2
                go_roundw
                case rel => exact ⟨k + 1, at_, by omega, by have := f300; rw [beq_eq_false_iff_ne] at this; omega, by go_num, by go_num, by omega, hR2.out, hBn.out⟩
                case measure => simp [intOf]; omega
              go_wp2_with fail
              refine (CS.out _).mono ?_; rintro e u1 ⟨rfl, rfl⟩
              go_wp2_with fail
              refine (CP.out _ hRS.out).mono ?_
              rintro e u2 ⟨hg, rfl, hR2⟩
              have hBn := Lib.hid (hBS.out.grown hg hBS.out.size (fun j ej => by injection ej with ej; omega))
              have CL2 := Lib.hid (CL.out _ hR2)
              replace hR2 := Lib.hid hR2
              clear CU CI CP CS CL hBS hRS hg
              go_wp2_with fail
              refine CL2.out.mono ?_; rintro e u3 ⟨rfl, rfl⟩
              rw [hlen.out]
              go_wp2
              go_roundw
              case rel => exact ⟨k + 1, at_, by omega, by have := f300; rw [beq_eq_false_iff_ne] at this; omega, by go_num, by go_num, by omega, hR2.out, hBn.out⟩
              case measure => simp [intOf]; omega
          | some y =>
            obtain ⟨fn, fk⟩ := y
            obtain ⟨-, hf1, hf2, -, hf4⟩ := first_back hby hf
            rw [hf] at CU CI CP CF
            change ∀ u, Rdr u gr B (z0.drop at_) → Calls _ _ _ u (ReadIs gr B (some (.int .u64 (fn : Int), (z0.drop at_).drop fk)) (.int .u64 0) (z0.drop at_) u) at CU
            change ∀ u, Rdr u gr B (z0.drop at_) → Calls _ _ _ u (ReadIs gr B (some (.int .i64 (zag fn), (z0.drop at_).drop fk)) (.int .i64 0) (z0.drop at_) u) at CI
            change ∀ u, Rdr u gr B (z0.drop at_) → Calls _ _ _ u (ReadIs gr B (if zag fn < lo ∨ hj < zag fn then none else some (.int .i64 (zag fn), (z0.drop at_).drop fk)) (.int .i64 0) (z0.drop at_) u) at CP
            rw [List.drop_drop] at CU CI CP
            have CS := fun u => rsigned_any fn hf4 u
            have hzi := zag_in hf4
            generalize zag fn = z at *
            rw [List.length_drop] at hf2
            replace CU := Lib.hid CU
            replace CI := Lib.hid CI
            replace CP := Lib.hid CP
            replace CF := Lib.hid CF
            replace CS := Lib.hid CS
            have CL := Lib.hid (fun u r (h : Rdr u gr B r) => left_any gr B r u h)
            have hlenA : ((z0.drop (at_ + fk)).length : Int) = (z0.length : Int) - ((at_ : Int) + (fk : Int)) := by rw [List.length_drop]; omega
            have hlenB : ((z0.drop at_).length : Int) = (z0.length : Int) - (at_ : Int) := by rw [List.length_drop]; omega
            have hatk : at_ + fk ≤ z0.length := by omega
            replace hlenA := Lib.hid hlenA
            replace hlenB := Lib.hid hlenB
            have dk1 : decide (0 < fk) = true := by simp; omega
            have dk2 : (0 : Int) < (fk : Int) := by omega
            clear hf hf2 hf4
            go_upto_region 15 with (fail)
            go_cut [11, 12] from 62 to 68 (fun p q w' => p = .int .u64 (fn : Int) ∧ q = .int .i64 (fk : Int) ∧ (wr.alloc (.cells #[.int .i64 kd, .int .i64 lo, .int .i64 hj] 40)) = w')
            case first =>
              by_cases hc : c0 = at_
              · have hb := hcut2.out hc
                subst hc
                clear hcut1 hcut2
                go_wp2_with fail
                refine (CF.out A0 _ _ _ (by rw [List.length_drop]; omega) hb).mono ?_; rintro e u ⟨rfl, rfl⟩
                go_wp2
                go_meet
                exact ⟨rfl, rfl, rfl⟩
              · have hb := hcut1.out hc
                have hc2 : at_ < c0 := by omega
                clear hcut1 hcut2
                go_wp2_with fail
                refine (CF.out _ _ _ _ (by rw [List.length_drop]) hb).mono ?_; rintro e u ⟨rfl, rfl⟩
                go_wp2
                go_meet
                exact ⟨rfl, rfl, rfl⟩
            case rest =>
              obtain ⟨rfl, rfl, rfl⟩ := hcut
              clear hcut1 hcut2 CF
              by_cases hk0 : kd = 0
              · have e0 : ((kd : Int) == 0) = true := by rw [beq_iff_eq]; omega
                clear hk0
                go_wp2_with fail
                refine (CS.out _).mono ?_; rintro e u1 ⟨rfl, rfl⟩
                go_wp2_with fail
                refine (CU.out _ hRS.out).mono ?_
                rintro e u2 ⟨hg, rfl, hR2⟩
                have hBn := Lib.hid (hBS.out.grown hg hBS.out.size (fun j ej => by injection ej with ej; omega))
                have CL2 := Lib.hid (CL.out _ _ hR2)
                replace hR2 := Lib.hid hR2
                clear CU CI CP CS CL hBS hRS hg
                go_wp2_with fail
                refine CL2.out.mono ?_; rintro e u3 ⟨rfl, rfl⟩
                rw [hlenA.out]
                go_wp2
                go_roundw
                case rel => exact ⟨k + 1, at_ + fk, by omega, by have := f300; rw [beq_eq_false_iff_ne] at this; omega, by go_num, by go_num, by omega, hR2.out, hBn.out⟩
                case measure => simp [intOf]; omega
              by_cases hk1 : kd = 1
              · have e0 : ((kd : Int) == 0) = false := by rw [beq_eq_false_iff_ne]; omega
                have e1 : ((kd : Int) == 1) = true := by rw [beq_iff_eq]; omega
                clear hk0 hk1
                go_wp2_with fail
                refine (CS.out _).mono ?_; rintro e u1 ⟨rfl, rfl⟩
                go_wp2_with fail
                refine (CI.out _ hRS.out).mono ?_
                rintro e u2 ⟨hg, rfl, hR2⟩
                have hBn := Lib.hid (hBS.out.grown hg hBS.out.size (fun j ej => by injection ej with ej; omega))
                have CL2 := Lib.hid (CL.out _ _ hR2)
                replace hR2 := Lib.hid hR2
                clear CU CI CP CS CL hBS hRS hg
                go_wp2_with fail
                refine CL2.out.mono ?_; rintro e u3 ⟨rfl, rfl⟩
                rw [hlenA.out]
                go_wp2
                go_roundw
                case rel => exact ⟨k + 1, at_ + fk, by omega, by have := f300; rw [beq_eq_false_iff_ne] at this; omega, by go_num, by go_num, by omega, hR2.out, hBn.out⟩
                case measure => simp [intOf]; omega
              have e0 : ((kd : Int) == 0) = false := by rw [beq_eq_false_iff_ne]; omega
              have e1 : ((kd : Int) == 1) = false := by rw [beq_eq_false_iff_ne]; omega
              clear hk0 hk1
              have CPo := CP.out
              by_cases m1 : z < lo
              · rw [if_pos (.inl m1)] at CPo
                replace CPo := Lib.hid CPo
                go_wp2_with fail
                refine (CS.out _).mono ?_; rintro e u1 ⟨rfl, rfl⟩
                go_wp2_with fail
                refine (CPo.out _ hRS.out).mono ?_
                rintro e u2 ⟨hg, rfl, hR2⟩
                have hBn := Lib.hid (hBS.out.grown hg hBS.out.size (fun j ej => by injection ej with ej; omega))
                have CL2 := Lib.hid (CL.out _ _ hR2)
                replace hR2 := Lib.hid hR2
                clear CU CI CP CS CL hBS hRS hg
                go_wp2_with fail
                refine CL2.out.mono ?_; rintro e u3 ⟨rfl, rfl⟩
                rw [hlenB.out]
                go_wp2
                go_roundw
                case rel => exact ⟨k + 1, at_, by omega, by have := f300; rw [beq_eq_false_iff_ne] at this; omega, by go_num, by go_num, by omega, hR2.out, hBn.out⟩
                case measure => simp [intOf]; omega
              by_cases m2 : hj < z
              · rw [if_pos (.inr m2)] at CPo
                replace CPo := Lib.hid CPo
                go_wp2_with fail
                refine (CS.out _).mono ?_; rintro e u1 ⟨rfl, rfl⟩
                go_wp2_with fail
                refine (CPo.out _ hRS.out).mono ?_
                rintro e u2 ⟨hg, rfl, hR2⟩
                have hBn := Lib.hid (hBS.out.grown hg hBS.out.size (fun j ej => by injection ej with ej; omega))
                have CL2 := Lib.hid (CL.out _ _ hR2)
                replace hR2 := Lib.hid hR2
                clear CU CI CP CS CL hBS hRS hg
                go_wp2_with fail
                refine CL2.out.mono ?_; rintro e u3 ⟨rfl, rfl⟩
                rw [hlenB.out]
                go_wp2
                go_roundw
                case rel => exact ⟨k + 1, at_, by omega, by have := f300; rw [beq_eq_false_iff_ne] at this; omega, by go_num, by go_num, by omega, hR2.out, hBn.out⟩
                case measure => simp [intOf]; omega
              rw [if_neg (by omega)] at CPo
              replace CPo := Lib.hid CPo
              go_wp2_with fail
              refine (CS.out _).mono ?_; rintro e u1 ⟨rfl, rfl⟩
              go_wp2_with fail
              refine (CPo.out _ hRS.out).mono ?_
              rintro e u2 ⟨hg, rfl, hR2⟩
              have hBn := Lib.hid (hBS.out.grown hg hBS.out.size (fun j ej => by injection ej with ej; omega))
              have CL2 := Lib.hid (CL.out _ _ hR2)
              replace hR2 := Lib.hid hR2
              clear CU CI CP CS CL hBS hRS hg
              go_wp2_with fail
              refine CL2.out.mono ?_; rintro e u3 ⟨rfl, rfl⟩
              rw [hlenA.out]
              go_wp2
              go_roundw
              case rel => exact ⟨k + 1, at_ + fk, by omega, by have := f300; rw [beq_eq_false_iff_ne] at this; omega, by go_num, by go_num, by omega, hR2.out, hBn.out⟩
              case measure => simp [intOf]; omega
        · have hfin := Lib.hid hB
          obtain rfl : k = z1.length := by omega
          clear hB hR
          go_wp2
          go_ret
          exact ⟨rfl, hfin.out⟩

set_option maxRecDepth 100000 in
theorem lifted (os : Os) (started : os.Started) (H : Type) (enc : TypeId × Value → H) :
    ReturnsInHanded {} Try.checked os 5 .any (Rows.wireReadsSpec.pre6 enc Try.prog Try.f5 Rows.wireReadsRow.domain false) (Rows.wireReadsSpec.post enc Try.prog Try.f5 false true false false) := by
  refine returnsInHanded_of_change_sized (C := Try.checked) own started (by kernel_rfl) Try.func5
    (ChangeSpec.witness6 (enc := enc) (C := Try.checked) false ⟨#[], #[.slice none 0 0, .slice none 0 0], []⟩ 8 (by kernel_rfl) (by kernel_rfl) (by kernel_rfl) (by kernel_rfl)) ?_
  intro W base args ds gs before hval0 hW hcnd hsz0 _
  have hsz : (DataW.weightsEach Try.prog (Try.f5.params.toList ++ Rows.wireReadsSpec.plain.varTypes Try.prog) (ds ++ gs)).all (· ≤ reachBytes) = true := hsz0
  clear hsz0
  have hval : ∀ (j : Nat) t v, Try.f5.params[j]? = some t → args[j]? = some v → Value.okWide Try.prog W .any base t v := hval0
  have hW' := hW
  obtain ⟨p, q, hA0, hV, rfl, hfz, hnd⟩ := hW
  have hA : DataW.TrodAll enc Try.prog W 0 (fun _ => true) true Try.f5.params.toList args.toList ds p := hA0
  rw [Try.params5] at hA hval hsz
  obtain ⟨v0, vs0, d0, ds0, p0, q0, hargs, rfl, rfl, h0, r0⟩ := trodAll_cons hA
  obtain ⟨v1, vs1, d1, ds1, p1, q1, rfl, rfl, rfl, h1, r1⟩ := trodAll_cons r0
  obtain ⟨rfl, rfl, rfl⟩ := trodAll_nil r1
  obtain rfl : args = #[v0, v1] := by cases args; simp_all
  obtain ⟨rfl, rfl⟩ := trodVars_none hV
  have kk0 := h0
  have lt0 : ∀ x ∈ p0, x.block < W.heap.size := by obtain ⟨m, hm⟩ := kk0; exact DataW.trod_lt m _ _ _ hm
  have kk1 := h1
  have lt1 : ∀ x ∈ p1, x.block < W.heap.size := by obtain ⟨m, hm⟩ := kk1; exact DataW.trod_lt m _ _ _ hm
  obtain ⟨A0, c0, z0, rfl, w0, yy0, uu0, xx0, ss0⟩ := open_bytesT (hval 0 23 v0 rfl rfl) h0 (wb_each hsz (j := 0) (t := 23) rfl rfl)
  obtain ⟨A1, c1, z1, rfl, w1, yy1, uu1, xx1, ss1⟩ := open_stepsT (hval 1 38 v1 rfl rfl) h1 (wb_each hsz (j := 1) (t := 38) rfl rfl)
  clear hA0 hval0
  refine (walk W A0 c0 z0 w0 yy0 uu0 xx0 ss0 A1 c1 z1 w1 yy1 uu1 xx1 ss1).mono fun e W' ⟨he, bel⟩ => ?_
  subst he
  exact ⟨_, rfl, _, _, _, [], _, [], hW', trodAll_mk1 (shut_bool Try.underlying4 _), (trodAll_cons_mk (Below.trod laidOut (by kernel_rfl) (of_decide_eq_true (by kernel_rfl)) kk0 bel lt0) (trodAll_cons_mk (Below.trod laidOut (by kernel_rfl) (of_decide_eq_true (by kernel_rfl)) kk1 bel lt1) trodAll_mk0)), rfl, bel.frame _, fun h => by cases h⟩

theorem over : Rows.wireReadsRow.holds Try.pinned (OpenSpec.ofChange Rows.wireReadsSpec) :=
  OpenClaim.holds_of_wide 5 Try.f5 rfl rfl rfl rfl rfl rfl rfl ⟨rfl, rfl, rfl, rfl, rfl⟩ rfl rfl rfl rfl rfl (by kernel_rfl) Try.func5 (by kernel_rfl)
    (of_decide_eq_true (by kernel_rfl)) (by unfold Func.isWrapper; first | (rw [if_pos (by decide +kernel)]; kernel_rfl) | (rw [if_neg (by decide +kernel)]; exact ⟨rfl, rfl⟩))
    (fun os started H enc _ => lifted os started H enc)

/-- the statement -/
theorem proved : Rows.WireReadsSaid :=
  over
#print axioms proved
end Go.Proofs.Ythoknfkldmfdpaa.wireReads
