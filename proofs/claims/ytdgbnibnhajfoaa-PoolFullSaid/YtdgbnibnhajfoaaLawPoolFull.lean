/- PoolFull: a pool has never more cells than it may; what is there is found again, also where it is full. -/
import Derived.Test.YtdgbnibnhajfoaaRows
import Derived.WalkKit
import Derived.ProofKit
import Derived.OpenShut
import Derived.ShutString
import Derived.ChangeOld
import Derived.Below
import Derived.Lib.SmallJoins
import Derived.SizedLaws
import Derived.Test.YtdgbnibnhajfoaaPoJ
namespace Go.Proofs.Ytdgbnibnhajfoaa.poolFull
open Go.ChangeShapes Go.WideShapes Go.ChangeAt Go.RowKit Go.Joins
set_option linter.unusedVariables false
set_option linter.unusedSimpArgs false

theorem own : ownKnob Try.prog.godebug = none := by kernel_rfl
theorem laidOut : laidOutB Try.prog = true := by kernel_rfl

theorem bytes3 : Try.prog.bytesOf 3 = 8 := by kernel_rfl
set_option maxHeartbeats 16000000 in
set_option maxRecDepth 100000 in
theorem walk (w : World) (a0 : Int) (w0 : (Lit.int .i64 a0).wf = true) (A1 : Option Addr) (n1 c1 : Nat) (z1 : List Int) (w1 : IntsIn .i64 w A1 n1 c1 z1) (s1 : n1 * 8 ≤ 140737488351232) :
    Calls Try.prog 6 #[.int .i64 a0, .slice A1 n1 c1] w fun e w' => e = .returned (.bool true) ∧ Below w.heap.size w w' := by
  have C0 := Lib.hid (fun w => awake23 w)
  obtain ⟨m, hmE, hm⟩ := mod_nat a0 20 (by decide) (by decide)
  obtain ⟨hI, hzl, hzb⟩ := w1.at_
  have C1 := Lib.hid (new_any (m : Int) w)
  obtain ⟨N, hN⟩ : ∃ n, w.heap.size = n := ⟨_, rfl⟩
  have n9 : (n1 : Int) ≤ 9223372036854775807 := by omega
  clear w1 hzb
  generalize z1.take n1 = zs at *
  replace hI := Lib.hid hI
  replace hzl := Lib.hid hzl
  go_enter Try.func6, Try.ntmps6
  go_upto_region 2 with (fail)
  rw [show (20 : Int) = ((20 : Nat) : Int) from rfl, hmE]
  clear hmE
  go_wp2_with fail
  refine C1.out.mono ?_
  rintro e u1 ⟨p, rfl, hP, hb⟩
  clear C1
  replace hP := Lib.hid hP
  replace hb := Lib.hid hb
  go_wp2_with fail
  refine (C0.out _).mono ?_
  rintro e u2 ⟨rfl, hb2⟩
  have hP2 := hP.out.later hb2
  have hb3 := mmore hb.out hb2
  clear hP hb hb2
  by_cases hn : 60 < (n1 : Int)
  · replace hb3 := Lib.hid hb3
    clear hP2
    go_wp2_with fail
    refine (C0.out _).mono ?_
    rintro e u3 ⟨rfl, hb4⟩
    have hb5 := Lib.hid (mmore hb3.out hb4)
    go_wp2
    go_ret
    exact ⟨rfl, hb5.out⟩
  have hmk : (Instr.makeMap 50 none).run Try.prog u2 = .ok (.map (some u2.heap.size)) (u2.alloc (.map #[] 0)) := run_makeMap_plain u2 _
  have hm2 := m1 u2 (.map #[] 0)
  have hM := Lib.hid (IMap.new u2)
  have hP3 := Lib.hid ((hP2.lt.later hm2).more (D' := fun k => N ≤ k ∧ k ≠ u2.heap.size) fun k hk => ⟨by omega, by omega⟩)
  have hb4 := Lib.hid (mmore hb3 hm2)
  have hnn := Lib.hid (show n1 ≤ 60 by omega)
  have hr := hb3.size
  clear hP2 hm2 hb3
  go_upto_region 6 with (fail)
  generalize u2.alloc (.map #[] 0) = u3 at *
  obtain ⟨r, hre⟩ : ∃ r, u2.heap.size = r := ⟨_, rfl⟩
  rw [hre] at hP3 hM
  rw [hre]
  rw [hre] at hr
  replace hr := Lib.hid hr
  clear hre hmk
  go_wp2_with fail
  go_loopw [34] (fun i wr => ∃ (k : Nat) (L : List Int) (s : PS) (f : Int → Option Value), k ≤ n1 ∧ i = .int .i64 (k : Int) ∧ PFull k m L s f ∧ PAt N p (fun q => N ≤ q ∧ q ≠ r) s wr ∧ IMap wr r f ∧ Below w.heap.size w wr) (fun i _ => n1 - (intOf i).toNat)
  case atStart => exact ⟨0, [], newS m, _, Nat.zero_le _, rfl, PFull.start m, by rw [← hN] at hP3 ⊢; exact hP3.out, hM.out, hb4.out⟩
  case round =>
    obtain ⟨k, L, s, f, hk, rfl, hF, hP, hMf, hB⟩ := hrel
    clear hP3 hM hb4
    by_cases hlt : k < n1
    · obtain ⟨zb, zo, rfl, hcell⟩ := hI.out (by rw [hzl.out]; omega)
      have hzk := List.getElem?_eq_getElem (l := zs) (i := k) (by rw [hzl.out]; exact hlt)
      have q0 := hcell k _ hzk
      replace q0 := cell_later hB q0
      generalize zs[k]'(by rw [hzl.out]; exact hlt) = e0 at *
      obtain ⟨e, heE, he⟩ := mod_nat e0 30 (by decide) (by decide)
      have k0 : (0 : Int) ≤ (k : Int) := by omega
      have k1 : (k : Int) < (n1 : Int) := by omega
      have k3 := Lib.hid hlt
      clear hcell hzk
      have hs0 : 0 ≤ (e : Int) := by omega
      have hkb := hnn.out
      replace hB := Lib.hid hB
      replace hMf := Lib.hid hMf
      replace hF := Lib.hid hF
      go_upto_region 10 with (fail)
      rw [show (30 : Int) = ((30 : Nat) : Int) from rfl, heE]
      clear heE q0
      by_cases hL : (e : Int) ∈ L
      · obtain ⟨c, hc, hnum, hfe, b1, b2, b3, b4, hF2⟩ := hF.out.there hL
        have C := Lib.hid (add_there_root_false hP (e : Int) hs0 (L.idxOf (e : Int)) c hnum hc (by omega) (by omega))
        have hidx : L.idxOf (e : Int) < L.length := List.idxOf_lt_length_iff.2 hL
        generalize L.idxOf (e : Int) = ix at *
        have hcnt := fun (u : World) (hu : IMap u r f) => hu.count (P := Try.prog) Try.underlying50 hF.out.nd hF.out.some_ 3
        have hrl := hMf.out.lt
        replace hF2 := Lib.hid hF2
        replace hcnt := Lib.hid hcnt
        go_wp2_with fail
        refine C.out.mono ?_
        rintro e9 u4 ⟨rfl, hO⟩
        obtain ⟨hP4, hb5, hrr⟩ := hO.but hB.out hN hrl
        have hM4 := hMf.out.same hrr
        have hlook := look_int hM4 (e : Int)
        rw [hfe] at hlook
        have hlen4 := hcnt.out u4 hM4
        simp only [Option.getD_some, Option.isSome_some] at hlook
        have hlm : decide ((L.length : Int) < (m : Int)) = decide ((L.length : Int) < (m : Int)) := rfl
        obtain ⟨u5, hup, hM5, hG5⟩ := up_int hM4 (e : Int) ((ix : Nat) : Int)
        have hP5 := hP4.beside hG5
        have hb6 := hb5.grown hG5 hb5.size (fun j ej => by injection ej with ej; subst ej; exact hr.out)
        have hU := used_any hP5
        rw [hF2.out.used] at hU
        replace hU := Lib.hid hU
        have hlu := hF2.out.le
        have hlm2 : decide ((m : Int) < (L.length : Int)) = false := by simp; omega
        replace hP5 := Lib.hid hP5
        replace hM5 := Lib.hid hM5
        replace hb6 := Lib.hid hb6
        clear hO hF hMf hB hP C hcnt
        clear hP4 hb5 hrr hM4 hG5 hrl
        go_wp2_with fail
        refine hU.out.mono ?_
        rintro e9 u6 ⟨rfl, n6, rfl⟩
        have hP6 := hP5.out.later (below_dn u5 n6)
        have hM6 := hM5.out.later (below_dn u5 n6)
        have hb7 := mmore hb6.out (below_dn u5 n6)
        generalize u5.drewN n6 = u6 at *
        have hlen6 := hM6.count (P := Try.prog) Try.underlying50 hF2.out.nd hF2.out.some_ 3
        have hU6 := used_any hP6
        rw [hF2.out.used] at hU6
        replace hU6 := Lib.hid hU6
        replace hP6 := Lib.hid hP6
        replace hM6 := Lib.hid hM6
        replace hb7 := Lib.hid hb7
        clear hU hP5 hM5 hb6 hlook
        go_wp2_with fail
        refine hU6.out.mono ?_
        rintro e9 u7 ⟨rfl, n7, rfl⟩
        go_wp2
        go_roundw
        case rel => exact ⟨k + 1, L, _, _, k3.out, by go_num, hF2.out, hP6.out.later (below_dn _ _), hM6.out.later (below_dn _ _), mmore hb7.out (below_dn _ _)⟩
        case measure => have := k3.out; simp [intOf]; omega
      · by_cases hfull : L.length < m
        · have hF2 := hF.out.new hL hfull
          have hfe : f (e : Int) = none := by rw [hF.out.map, if_neg hL]
          have hnum : s.num (-1, (e : Int), true) = none := by rw [hF.out.num, if_neg hL]
          have C := add_new_root_false hP (e : Int) hs0 hnum (by rw [hF.out.used, hF.out.most]; omega) hF.out.free (by rw [hF.out.len]; omega)
          rw [hF.out.len] at C
          replace C := Lib.hid C
          have hcnt := fun (u : World) (hu : IMap u r f) => hu.count (P := Try.prog) Try.underlying50 hF.out.nd hF.out.some_ 3
          have hrl := hMf.out.lt
          replace hF2 := Lib.hid hF2
          replace hcnt := Lib.hid hcnt
          go_wp2_with fail
          refine C.out.mono ?_
          rintro e9 u4 ⟨rfl, hO⟩
          obtain ⟨hP4, hb5, hrr⟩ := hO.but hB.out hN hrl
          have hM4 := hMf.out.same hrr
          have hlook := look_int hM4 (e : Int)
          rw [hfe] at hlook
          have hlen4 := hcnt.out u4 hM4
          simp only [Option.getD_none, Option.isSome_none] at hlook
          have hlm : decide ((L.length : Int) < (m : Int)) = true := by simp; omega
          obtain ⟨u5, hup, hM5, hG5⟩ := up_int hM4 (e : Int) ((L.length : Nat) : Int)
          have hP5 := hP4.beside hG5
          have hb6 := hb5.grown hG5 hb5.size (fun j ej => by injection ej with ej; subst ej; exact hr.out)
          have hU := used_any hP5
          rw [hF2.out.used] at hU
          replace hU := Lib.hid hU
          have hlu := hF2.out.le
          have hlm2 : decide ((m : Int) < ((L ++ [(e : Int)]).length : Int)) = false := by simp; omega
          replace hP5 := Lib.hid hP5
          replace hM5 := Lib.hid hM5
          replace hb6 := Lib.hid hb6
          clear hO hF hMf hB hP C hcnt
          clear hP4 hb5 hrr hM4 hG5 hrl
          go_wp2_with fail
          refine hU.out.mono ?_
          rintro e9 u6 ⟨rfl, n6, rfl⟩
          have hP6 := hP5.out.later (below_dn u5 n6)
          have hM6 := hM5.out.later (below_dn u5 n6)
          have hb7 := mmore hb6.out (below_dn u5 n6)
          generalize u5.drewN n6 = u6 at *
          have hlen6 := hM6.count (P := Try.prog) Try.underlying50 hF2.out.nd hF2.out.some_ 3
          have hU6 := used_any hP6
          rw [hF2.out.used] at hU6
          replace hU6 := Lib.hid hU6
          replace hP6 := Lib.hid hP6
          replace hM6 := Lib.hid hM6
          replace hb7 := Lib.hid hb7
          clear hU hP5 hM5 hb6 hlook
          go_wp2_with fail
          refine hU6.out.mono ?_
          rintro e9 u7 ⟨rfl, n7, rfl⟩
          go_wp2
          go_roundw
          case rel => exact ⟨k + 1, (L ++ [(e : Int)]), _, _, k3.out, by go_num, hF2.out, hP6.out.later (below_dn _ _), hM6.out.later (below_dn _ _), mmore hb7.out (below_dn _ _)⟩
          case measure => have := k3.out; simp [intOf]; omega
        · have hF2 := hF.out.more
          have hfe : f (e : Int) = none := by rw [hF.out.map, if_neg hL]
          have hnum : s.num (-1, (e : Int), true) = none := by rw [hF.out.num, if_neg hL]
          have C := Lib.hid (add_full_root_false hP (e : Int) hs0 hnum (by rw [hF.out.used, hF.out.most]; have := hF.out.le; omega))
          have hcnt := fun (u : World) (hu : IMap u r f) => hu.count (P := Try.prog) Try.underlying50 hF.out.nd hF.out.some_ 3
          replace hF2 := Lib.hid hF2
          replace hcnt := Lib.hid hcnt
          go_wp2_with fail
          refine C.out.mono ?_
          rintro e9 u5 ⟨rfl, hO⟩
          have hP5 := hP.later hO
          have hM5 := hMf.out.later hO
          have hb6 := mmore hB.out hO
          have hlook := look_int hM5 (e : Int)
          rw [hfe] at hlook
          have hlen4 := hcnt.out u5 hM5
          simp only [Option.getD_none, Option.isSome_none] at hlook
          have hlm : decide ((L.length : Int) < (m : Int)) = false := by simp; omega
          have hU := used_any hP5
          rw [hF2.out.used] at hU
          replace hU := Lib.hid hU
          have hlu := hF2.out.le
          have hlm2 : decide ((m : Int) < (L.length : Int)) = false := by simp; omega
          replace hP5 := Lib.hid hP5
          replace hM5 := Lib.hid hM5
          replace hb6 := Lib.hid hb6
          clear hO hF hMf hB hP C hcnt
          go_wp2_with fail
          refine hU.out.mono ?_
          rintro e9 u6 ⟨rfl, n6, rfl⟩
          have hP6 := hP5.out.later (below_dn u5 n6)
          have hM6 := hM5.out.later (below_dn u5 n6)
          have hb7 := mmore hb6.out (below_dn u5 n6)
          generalize u5.drewN n6 = u6 at *
          have hlen6 := hM6.count (P := Try.prog) Try.underlying50 hF2.out.nd hF2.out.some_ 3
          have hU6 := used_any hP6
          rw [hF2.out.used] at hU6
          replace hU6 := Lib.hid hU6
          replace hP6 := Lib.hid hP6
          replace hM6 := Lib.hid hM6
          replace hb7 := Lib.hid hb7
          clear hU hP5 hM5 hb6 hlook
          go_wp2_with fail
          refine hU6.out.mono ?_
          rintro e9 u7 ⟨rfl, n7, rfl⟩
          go_wp2
          go_roundw
          case rel => exact ⟨k + 1, L, _, _, k3.out, by go_num, hF2.out, hP6.out.later (below_dn _ _), hM6.out.later (below_dn _ _), mmore hb7.out (below_dn _ _)⟩
          case measure => have := k3.out; simp [intOf]; omega
    · obtain rfl : k = n1 := by omega
      replace hB := Lib.hid hB
      clear hP hF hMf
      go_wp2
      go_ret
      exact ⟨rfl, hB.out⟩

set_option maxRecDepth 100000 in
theorem lifted (os : Os) (started : os.Started) (H : Type) (enc : TypeId × Value → H) :
    ReturnsInHanded {} Try.checked os 6 .any (Rows.poolFullSpec.pre6 enc Try.prog Try.f6 Rows.poolFullRow.domain false) (Rows.poolFullSpec.post enc Try.prog Try.f6 false true false false) := by
  refine returnsInHanded_of_change_sized (C := Try.checked) own started (by kernel_rfl) Try.func6
    (ChangeSpec.witness6 (enc := enc) (C := Try.checked) false ⟨#[], #[.int .i64 0, .slice none 0 0], []⟩ 8 (by kernel_rfl) (by kernel_rfl) (by kernel_rfl) (by kernel_rfl)) ?_
  intro W base args ds gs before hval0 hW hcnd hsz0 _
  have hsz : (DataW.weightsEach Try.prog (Try.f6.params.toList ++ Rows.poolFullSpec.plain.varTypes Try.prog) (ds ++ gs)).all (· ≤ reachBytes) = true := hsz0
  clear hsz0
  have hval : ∀ (j : Nat) t v, Try.f6.params[j]? = some t → args[j]? = some v → Value.okWide Try.prog W .any base t v := hval0
  have hW' := hW
  obtain ⟨p, q, hA0, hV, rfl, hfz, hnd⟩ := hW
  have hA : DataW.TrodAll enc Try.prog W 0 (fun _ => true) true Try.f6.params.toList args.toList ds p := hA0
  rw [Try.params6] at hA hval hsz
  obtain ⟨v0, vs0, d0, ds0, p0, q0, hargs, rfl, rfl, h0, r0⟩ := trodAll_cons hA
  obtain ⟨v1, vs1, d1, ds1, p1, q1, rfl, rfl, rfl, h1, r1⟩ := trodAll_cons r0
  obtain ⟨rfl, rfl, rfl⟩ := trodAll_nil r1
  obtain rfl : args = #[v0, v1] := by cases args; simp_all
  obtain ⟨rfl, rfl⟩ := trodVars_none hV
  have kk0 := h0
  have lt0 : ∀ x ∈ p0, x.block < W.heap.size := by obtain ⟨m, hm⟩ := kk0; exact DataW.trod_lt m _ _ _ hm
  have kk1 := h1
  have lt1 : ∀ x ∈ p1, x.block < W.heap.size := by obtain ⟨m, hm⟩ := kk1; exact DataW.trod_lt m _ _ _ hm
  obtain ⟨a0, rfl, rfl, rfl, w0⟩ := open_int Try.underlying3 (hval 0 3 v0 rfl rfl) h0
  obtain ⟨A1, n1, c1, rfl⟩ := okWide_slice Try.underlying44 (hval 1 44 v1 rfl rfl)
  obtain ⟨z1, w1, s1⟩ : ∃ zs, IntsIn .i64 W A1 n1 c1 zs ∧ n1 * 8 ≤ 140737488351232 := by
    obtain ⟨fuel, hf⟩ := h1
    rcases open_ints Try.underlying44 Try.underlying3 (by kernel_rfl) hf with ⟨hcs, _⟩ | ⟨x, l, c, zs, hcs, _, hl, hm, hz, hx, hcell, hwz⟩
    · simp [Value.cells] at hcs
      obtain ⟨rfl, rfl, rfl⟩ := hcs
      exact ⟨[], .inl ⟨rfl, rfl, rfl, rfl⟩, by decide⟩
    · simp [Value.cells] at hcs
      obtain ⟨rfl, rfl, rfl⟩ := hcs
      simp only [Prod.mk.injEq] at hx
      obtain ⟨rfl, rfl⟩ := hx
      have hb := sized_slice hsz (j := 1) (t := 44) (e := 3) rfl rfl Try.underlying44
      rw [bytes3] at hb
      simp only [lits, List.length_map, List.length_take, List.length_drop, reachBytes] at hb
      simp only [if_true] at hz
      exact ⟨zs, .inr ⟨_, rfl, hl, hm, hz, hcell, hwz⟩, by omega⟩
  clear hA0 hval0
  refine (walk W a0 w0 A1 n1 c1 z1 w1 s1).mono fun e W' ⟨he, bel⟩ => ?_
  subst he
  exact ⟨_, rfl, _, _, _, [], _, [], hW', trodAll_mk1 (shut_bool Try.underlying4 _), (trodAll_cons_mk (Below.trod laidOut (by kernel_rfl) (of_decide_eq_true (by kernel_rfl)) kk0 bel lt0) (trodAll_cons_mk (Below.trod laidOut (by kernel_rfl) (of_decide_eq_true (by kernel_rfl)) kk1 bel lt1) trodAll_mk0)), rfl, bel.frame _, fun h => by cases h⟩

theorem over : Rows.poolFullRow.holds Try.pinned (OpenSpec.ofChange Rows.poolFullSpec) :=
  OpenClaim.holds_of_wide 6 Try.f6 rfl rfl rfl rfl rfl rfl rfl ⟨rfl, rfl, rfl, rfl, rfl⟩ rfl rfl rfl rfl rfl (by kernel_rfl) Try.func6 (by kernel_rfl)
    (of_decide_eq_true (by kernel_rfl)) (by unfold Func.isWrapper; first | (rw [if_pos (by decide +kernel)]; kernel_rfl) | (rw [if_neg (by decide +kernel)]; exact ⟨rfl, rfl⟩))
    (fun os started H enc _ => lifted os started H enc)

/-- the statement -/
theorem proved : Rows.PoolFullSaid :=
  over
#print axioms proved
end Go.Proofs.Ytdgbnibnhajfoaa.poolFull
