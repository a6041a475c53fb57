/- WireJoins: of two texts as long the sums differ as the sum of both, xored, and that of as many noughts do; and a bit that is turned turns the sum. -/
import Derived.Test.YthoknfkldmfdpaaRows
import Derived.WalkKit
import Derived.ProofKit
import Derived.OpenShut
import Derived.ShutString
import Derived.ChangeOld
import Derived.Below
import Derived.Lib.SmallJoins
import Derived.SizedLaws
import Derived.Test.YthoknfkldmfdpaaWrG
import Derived.Test.YthoknfkldmfdpaaWrO
import Derived.Test.YthoknfkldmfdpaaWb
import Derived.Test.YthoknfkldmfdpaaInvG
import Derived.Test.YthoknfkldmfdpaaWrJ
import Derived.Deep.CutRange
import Derived.Deep.DeepCutAuto
import Derived.StillTailTactics
import Derived.Deep.QuietTactic
import Derived.BigQuiet
import Derived.Deep.RegionWith
import Derived.BigRegion
import Derived.Deep.RegionHeld3
namespace Go.Proofs.Ythoknfkldmfdpaa.wireJoins
open Go.ChangeShapes Go.WideShapes Go.ChangeAt Go.RowKit Go.Joins
set_option linter.unusedVariables false
set_option linter.unusedSimpArgs false

theorem own : ownKnob Try.prog.godebug = none := by kernel_rfl
theorem laidOut : laidOutB Try.prog = true := by kernel_rfl

theorem bdrewL {B : Nat} {a w : World} (h : Below B a w) (n : Nat) : Below B a (w.drewN n) := ⟨h.os, h.tape, h.output, h.size, h.block⟩
theorem gdrew {a w : World} {row : Option Nat} (h : a.grownBy w row) : a.grownBy w.drew row := ⟨h.os, h.tape, h.output, h.size, h.block⟩
set_option maxHeartbeats 16000000 in
set_option maxRecDepth 100000 in
theorem walk (w : World) (A0 : Option Addr) (c0 : Nat) (z0 : List Nat) (w0 : Bys w A0 z0) (y0 : Byt z0) (u0 : z0.length ≤ c0) (x0 : c0 ≤ maxLen) (s0 : z0.length ≤ 140737488351232) (A1 : Option Addr) (c1 : Nat) (z1 : List Nat) (w1 : Bys w A1 z1) (y1 : Byt z1) (u1 : z1.length ≤ c1) (x1 : c1 ≤ maxLen) (s1 : z1.length ≤ 140737488351232) (a2 : Int) (w2 : (Lit.int .i64 a2).wf = true) :
    Calls Try.prog 7 #[.slice A0 z0.length c0, .slice A1 z1.length c1, .int .i64 a2] w fun e w' => e = .returned (.bool true) ∧ Below w.heap.size w w' := by
  obtain ⟨i0, hi, hz0, hz1, hz2⟩ := info_parts infoB
  have AW := Lib.hid (fun w => awake20 w)
  have hNa : min z0.length z1.length ≤ z0.length := Nat.min_le_left _ _
  have hNb : min z0.length z1.length ≤ z1.length := Nat.min_le_right _ _
  have hm0 : z0.length ≤ z1.length → z0.length = min z0.length z1.length := fun h => by omega
  have hm1 : ¬ z0.length ≤ z1.length → z1.length = min z0.length z1.length := fun h => by omega
  replace hm0 := Lib.hid hm0
  replace hm1 := Lib.hid hm1
  generalize min z0.length z1.length = N at *
  have ha := Lib.hid (Bys.pre w0 hNa)
  have hb := Lib.hid (Bys.pre w1 hNb)
  have ya := Lib.hid (y0.take N)
  have yb := Lib.hid (y1.take N)
  have la : (z0.take N).length = N := by rw [List.length_take]; omega
  have lb : (z1.take N).length = N := by rw [List.length_take]; omega
  generalize z0.take N = a at *
  generalize z1.take N = b at *
  replace la := Lib.hid la
  replace lb := Lib.hid lb
  have hc0 : N ≤ c0 := by omega
  have hc1 : N ≤ c1 := by omega
  have hN0 : (0 : Int) ≤ (N : Int) := by omega
  clear w0 w1 y0 y1
  have hmk : ∀ w : World, (Instr.makeSlice 23 (.int .i64 (N : Int)) (.int .i64 (N : Int))).run Try.prog w = .ok (.slice (some ⟨w.heap.size, 0, none⟩) N N) (w.alloc (.cells (bcells (List.replicate N 0)).toArray 5)) := by
    intro w
    have := run_make (P := Try.prog) (w := w) 23 5 i0 (.int .u8 0) Try.underlying23 hi hz0 .i64 .i64 (N : Int) (N : Int) (by omega) (Int.le_refl _) (by rw [hz2]; omega) (by omega)
    rw [Int.toNat_natCast, hz1, Nat.mul_one] at this
    rw [this]
    show Result.ok _ (w.alloc (.cells (madeCells #[Value.int .u8 0] N) _)) = _
    rw [zeros_cells]
  replace hmk := Lib.hid hmk
  replace hi := Lib.hid hi
  replace hz1 := Lib.hid hz1
  replace hz2 := Lib.hid hz2
  go_enter Try.func7, Try.ntmps7
  go_upto_region 1 with (fail)
  go_cut [7] from 13 to 17 (fun v w' => v = .int .i64 (N : Int) ∧ w = w')
  case first =>
    by_cases hle : z0.length ≤ z1.length
    · have e := hm0.out hle
      replace e := Lib.hid e
      go_wp2
      go_meet
      exact ⟨by rw [e.out], rfl⟩
    · have e := hm1.out hle
      replace e := Lib.hid e
      go_wp2
      go_meet
      exact ⟨by rw [e.out], rfl⟩
  case rest =>
    obtain ⟨rfl, rfl⟩ := hcut
    clear hm0 hm1
    by_cases hbig : (N : Int) > 50000
    · go_wp2_with fail
      refine (AW.out _).mono ?_; rintro e u1 ⟨rfl, hb1⟩
      replace hb1 := Lib.hid hb1
      go_wp2_with fail
      refine (AW.out _).mono ?_; rintro e u2 ⟨rfl, hb2⟩
      replace hb2 := Lib.hid (mmore hb1.out hb2)
      go_wp2
      go_ret
      exact ⟨rfl, hb2.out⟩
    have hbig' : N ≤ 50000 := by omega
    go_wp2_with fail
    refine (AW.out _).mono ?_; rintro e u1 ⟨rfl, hb1⟩
    replace hb1 := Lib.hid hb1
    go_upto_region 4 with (fail)
    go_cut [8, 9] from 25 to 28 (fun p q w' => ∃ g1 g2, p = .slice (some ⟨g1, 0, none⟩) N N ∧ q = .slice (some ⟨g2, 0, none⟩) N N ∧ g1 ≠ g2 ∧ u1.heap.size ≤ g1 ∧ u1.heap.size ≤ g2 ∧ BBlk w' g1 (List.replicate N 0) ∧ BBlk w' g2 (List.replicate N 0) ∧ Below u1.heap.size u1 w')
    case first =>
      have hmk' := hmk.out
      have hA := Lib.hid (show BBlk ((u1.alloc (.cells (bcells (List.replicate N 0)).toArray 5)).alloc (.cells (bcells (List.replicate N 0)).toArray 5)).drew u1.heap.size (List.replicate N 0) from (Blk.made u1 _ _).kept (m1 _ _).drew)
      have hB := Lib.hid (show BBlk ((u1.alloc (.cells (bcells (List.replicate N 0)).toArray 5)).alloc (.cells (bcells (List.replicate N 0)).toArray 5)).drew (u1.heap.size + 1) (List.replicate N 0) from by
        have := Blk.made (u1.alloc (.cells (bcells (List.replicate N 0)).toArray 5)) 5 (bcells (List.replicate N 0)).toArray
        rwa [show (u1.alloc (.cells (bcells (List.replicate N 0)).toArray 5)).heap.size = u1.heap.size + 1 by simp] at this)
      have hC := Lib.hid ((m2 u1 (.cells (bcells (List.replicate N 0)).toArray 5) (.cells (bcells (List.replicate N 0)).toArray 5)).drew)
      go_region
      all_goals (go_wp2_with fail; go_meet)
      · exact ⟨_, _, rfl, rfl, by omega, by omega, by omega, hA.out, hB.out, hC.out⟩
      · exact ⟨_, _, rfl, rfl, by omega, by omega, by omega, hB.out, hA.out, hC.out⟩
    case rest =>
      obtain ⟨g1, g2, rfl, rfl, hne, hg1, hg2, hZ1, hZ2, hB2⟩ := hcut


      have hBw := mmore hb1.out hB2
      have hs1 := hb1.out.size
      have hx1 : w.heap.size ≤ g1 := by omega
      replace hBw := Lib.hid hBw
      replace hZ1 := Lib.hid hZ1
      replace hZ2 := Lib.hid hZ2
      clear hB2 hmk
      have hXl := Lib.hid (xorL_length la.out lb.out)
      have hXb := Lib.hid (xorL_byt ya.out yb.out)
      have hX : ∀ k c d : Nat, a[k]? = some c → b[k]? = some d → (xorL a b)[k]? = some (c ^^^ d) := fun k c d h1 h2 => xorL_get h1 h2
      replace hX := Lib.hid hX
      have hJ := Lib.hid (sumL_joins a b (la.out.trans lb.out.symm))
      generalize xorL a b = X at *
      go_wp2_with fail
      go_loopw [30] (fun vk wr => ∃ k : Nat, k ≤ N ∧ vk = .int .i64 (k : Int) ∧ BBlk wr g1 (upTo X N k) ∧ wc.grownBy wr (some g1)) (fun vk _ => N - (intOf vk).toNat)
      case atStart => exact ⟨0, by omega, rfl, by rw [upTo_zero]; exact hZ1.out, World.grownBy.refl _ _⟩
      case round =>
        obtain ⟨k, hk, rfl, hU, hg⟩ := hrel
        have k0 : (0 : Int) ≤ (k : Int) := by omega
        have hBr := hBw.out.grown hg hBw.out.size (fun j ej => by injection ej with ej; omega)
        by_cases hlt : k < N
        · have k1 : (k : Int) < (N : Int) := by omega
          have k2 : (k : Int) < (z0.length : Int) := by omega
          have k3 : (k : Int) < (z1.length : Int) := by omega
          have la' := la.out
          have lb' := lb.out
          have ea := List.getElem?_eq_getElem (l := a) (i := k) (by omega)
          have eb := List.getElem?_eq_getElem (l := b) (i := k) (by omega)
          have xa := ya.out.get ea
          have xb := yb.out.get eb
          have hXk := hX.out k _ _ ea eb
          obtain ⟨ada, hA0, _, ca⟩ := (Bys.later ha.out hBr).at_ ea
          obtain ⟨adb, hA1, _, cb⟩ := (Bys.later hb.out hBr).at_ eb
          generalize a[k] = x at *
          generalize b[k] = y at *
          subst hA0 hA1
          have hxor := u8_xor_nat x y xa xb
          have hput := Lib.hid (hU.put k (x ^^^ y))
          rw [upTo_set hXl.out hlt hXk] at hput
          have fr : wr.frozen? ⟨g1, k, none⟩ = false := Blk.free hU k
          have hcz := hU.cell_ (upTo_get hXl.out hlt)
          have hgn := Lib.hid (gdrew (hg.trans (mset wr ⟨g1, k, none⟩ (.int .u8 ((x ^^^ y : Nat) : Int)))))
          replace hU := Lib.hid hU
          replace hg := Lib.hid hg
          replace hXk := Lib.hid hXk
          clear ea eb la' lb' hBr
          go_wp2_with fail
          go_region
          go_wp2
          go_roundw
          case rel => exact ⟨k + 1, by omega, by go_num, hput.out, hgn.out⟩
          case measure => simp [intOf]; omega
        · obtain rfl : k = N := by omega
          rw [upTo_all hXl.out] at hU
          have hZr : BBlk wr g2 (List.replicate k 0) := Blk.grown hZ2.out hg (by intro e; injection e with e; omega)
          have hsa := sumL_lt ya.out
          have hsb := sumL_lt yb.out
          have hsx := sumL_lt hXb.out
          have hsz := sumL_lt (zeros_byt k)
          have lz : (List.replicate k 0).length = k := by simp
          have la' : a.length ≤ 140737488355000 := by rw [la.out]; omega
          have lb' : b.length ≤ 140737488355000 := by rw [lb.out]; omega
          have lx' : X.length ≤ 140737488355000 := by rw [hXl.out]; omega
          have S1 := Lib.hid (fun n => sum_n A0 a k c0 ya.out (wr.drewN n) la.out.symm (Bys.later ha.out (bdrewL hBr n)) la')
          have S2 := Lib.hid (fun n => sum_n A1 b k c1 yb.out (wr.drewN n) lb.out.symm (Bys.later hb.out (bdrewL hBr n)) lb')
          have S3 := Lib.hid (fun n => sum_n (some ⟨g1, 0, none⟩) X k k hXb.out (wr.drewN n) hXl.out.symm hU.bys lx')
          have S4 := Lib.hid (fun n => sum_n (some ⟨g2, 0, none⟩) (List.replicate k 0) k k (zeros_byt k) (wr.drewN n) lz.symm hZr.bys (by rw [lz]; omega))
          have hJ' := hJ.out
          rw [la.out] at hJ'
          have hx1 := xor32 hsa hsb
          have hx2 := xor32 hsx hsz
          rw [← hJ'] at hx2
          generalize sumL a ^^^ sumL b = t at *
          generalize sumL X = sx at *
          generalize sumL (List.replicate k 0) = sz at *
          have hT := Lib.hid (fun j c d (h1 : a[j]? = some c) (h2 : d < 256) (h3 : d ≠ c) => sumL_turned ya.out h1 h2 h3)
          have SA := Lib.hid (fun u (h : Bys u A0 a) => sum_n A0 a k c0 ya.out u la.out.symm h la')
          generalize sumL a = sa at *
          generalize sumL b = sb at *
          replace hBr := Lib.hid hBr
          replace la' := Lib.hid la'
          clear lb' lx' hU hg hZr hsa hsb hsx hsz lz hJ' hZ1 hZ2 hX hXl hXb hJ hBw
          go_wp2_with fail
          go_quiet ((go_at_call 18; first | (with_reducible exact Calls.quiet_of_same (S1.out _)) | (with_reducible exact Calls.quiet_of_same (S2.out _)) | (with_reducible exact Calls.quiet_of_same (S3.out _)) | (with_reducible exact Calls.quiet_of_same (S4.out _))))
          have hB5 := Lib.hid (bdrewL hBr.out nq)
          clear S1 S2 S3 S4 hx1 hx2 hBr
          generalize wr.drewN nq = w5 at *
          by_cases hk0 : k = 0
          · have hk0' : ((k : Int) == 0) = true := by rw [beq_iff_eq]; omega
            clear hk0
            go_wp2
            go_ret
            exact ⟨rfl, hB5.out⟩
          · have hk0' : ((k : Int) == 0) = false := by rw [beq_eq_false_iff_ne]; omega
            have hkp : (0 : Int) < (k : Int) := by omega
            have hk8 : (8 * (k : Int)) = ((8 * k : Nat) : Int) := by omega
            obtain ⟨q, hq, hq8⟩ : ∃ q : Nat, wrap64 ((IntKind.u64.wrap a2).tmod (8 * (k : Int))) = (q : Int) ∧ q < 8 * k := by
              have h0 : 0 ≤ IntKind.u64.wrap a2 := by rw [IntKind.wrap_u64]; omega
              rw [Int.tmod_eq_emod_of_nonneg h0, hk8]
              have h1 := Int.emod_nonneg (IntKind.u64.wrap a2) (b := ((8 * k : Nat) : Int)) (by omega)
              have h2 := Int.emod_lt_of_pos (IntKind.u64.wrap a2) (b := ((8 * k : Nat) : Int)) (by omega)
              refine ⟨(IntKind.u64.wrap a2 % ((8 * k : Nat) : Int)).toNat, ?_, by omega⟩
              generalize IntKind.u64.wrap a2 % ((8 * k : Nat) : Int) = y at *
              unfold wrap64
              omega
            clear hk8
            obtain ⟨j, r, hj, hr, hjk, hr8⟩ : ∃ j r : Nat, (q : Int) / 8 = (j : Int) ∧ (q : Int) % 8 = (r : Int) ∧ j < k ∧ r < 8 := ⟨q / 8, q % 8, by omega, by omega, by omega, by omega⟩
            have hO0 := World.ownsRow_lit (base := w5.heap.size) (e := 5) (size := 1) w5 #[] 0 (Nat.le_refl _) (by unfold maxLen; omega) rfl
            have hR0 := Lib.hid (Reads.alloc (Bys.later ha.out hB5.out) (Nat.le_refl _) (.cells #[] 5))
            have hB6 := m1 w5 (.cells #[] 5)
            have l1 : 0 + k ≤ maxLen := by unfold maxLen; omega
            have l2 : (0 + k) * 1 ≤ 140737488355328 := by omega
            have hla := Lib.hid la.out
            replace hj := Lib.hid hj
            replace hr := Lib.hid hr
            go_upto_region 15 with (fail)
            rw [hq]
            clear hq
            go_wp2_with (at_builtin; refine wpList_append_any _ rfl (.tmp 70) (.tmp 73) 23 rfl w5.heap.size 5 i0 (.int .u8 0) 1 1 Try.underlying23 hi.out hz0 hz1.out hz2.out rfl (by decide) _ 0 [] rfl hO0 w5.heap.size A0 k c0 (bcells a) rfl (by have := hR0.out; rw [hla.out] at this; exact this) (bcells_one _) l1 l2 (by simp) ?_; intro v6 w6 hO6 hg6 _; rw [Nat.zero_add, List.nil_append] at hO6; have hB7 := bbelow_grown hB6 (Nat.le_refl _) hO0 hg6; obtain ⟨g3, c3, rfl, hg3, -⟩ := hO6.form (by omega); replace hO6 := Lib.hid hO6; replace hB7 := Lib.hid hB7; clear hg6)
            have hjl : j < a.length := by rw [hla.out]; exact hjk
            have hja := List.getElem?_eq_getElem hjl
            have hjb := ya.out.get hja
            generalize a[j] = c at *
            clear hjl
            have hcell : w6.cell? ⟨g3, j, none⟩ = some (.int .u8 (c : Int)) := by rw [hO6.out.cellAt j (by omega), bcells_get hja]
            have hfr := hO6.out.frozenAt j
            obtain ⟨hbt, hbb, hbn⟩ := bit_turned hjb hr8
            rw [IntKind.wrap_u8'] at hbt
            have hst := hO6.out.stored j (.int .u8 ((c ^^^ 2 ^ r : Nat) : Int))
            have hset : (bcells a).set j (.int .u8 ((c ^^^ 2 ^ r : Nat) : Int)) = bcells (a.set j (c ^^^ 2 ^ r)) := by simp [bcells, List.map_set]
            rw [hset] at hst
            have hTn := Lib.hid (hT.out j c (c ^^^ 2 ^ r) hja hbb hbn)
            have hYs := Lib.hid (set_byt ya.out j hbb)
            have hLs : (a.set j (c ^^^ 2 ^ r)).length = k := by rw [List.length_set, hla.out]
            generalize a.set j (c ^^^ 2 ^ r) = tu at *
            generalize c ^^^ 2 ^ r = d at *
            replace hst := Lib.hid hst
            replace hLs := Lib.hid hLs
            have hj' := hj.out
            have hr' := hr.out
            have j0 : (0 : Int) ≤ (j : Int) := by omega
            have j1 : (j : Int) < (k : Int) := by omega
            have r0 : (0 : Int) ≤ (r : Int) := by omega
            have r8 : (r : Int) < 8 := by omega
            have q0 : (0 : Int) ≤ (q : Int) := by omega
            clear hja hset hT hj hr
            go_region
            obtain ⟨hst1, hst2⟩ := hst.out
            have hg3' := hO6.out.lt g3 rfl
            have hB8 := mmore hB5.out (hB7.out.grown hst2 hB7.out.size (fun j ej => by injection ej with ej; omega)).drew
            have hT1 := (Bys.of_own hst1).2.later ((Below.refl _ _).drew)
            clear hst1 hst2 hst hbt hcell hfr
            generalize (w6.setCell ⟨g3, j, none⟩ (.int .u8 (d : Int))).drew = w7 at *
            have S5 := Lib.hid (fun n => sum_n (some ⟨g3, 0, none⟩) tu k c3 hYs.out (w7.drewN n) hLs.out.symm (Bys.later hT1 (bdrewL (Below.refl _ _) n)) (by rw [hLs.out]; omega))
            have S6 := Lib.hid (fun n => SA.out (w7.drewN n) (Bys.later ha.out (bdrewL hB8 n)))
            have hTn' := hTn.out
            generalize sumL tu = st at *
            have hne' : ((st : Int) != (sa : Int)) = true := by rw [bne_iff_ne]; omega
            replace hB8 := Lib.hid hB8
            clear hTn' hTn hj' hr' hT1 SA hB7 hO6 hB6 hO0
            go_wp2_with fail
            go_quiet ((go_at_call 18; first | (with_reducible exact Calls.quiet_of_same (S5.out _)) | (with_reducible exact Calls.quiet_of_same (S6.out _))))
            have hB9 := Lib.hid (bdrewL hB8.out nq)
            generalize w7.drewN nq = w9 at *
            go_wp2
            go_ret
            exact ⟨rfl, hB9.out⟩

set_option maxRecDepth 100000 in
theorem lifted (os : Os) (started : os.Started) (H : Type) (enc : TypeId × Value → H) :
    ReturnsInHanded {} Try.checked os 7 .any (Rows.wireJoinsSpec.pre6 enc Try.prog Try.f7 Rows.wireJoinsRow.domain false) (Rows.wireJoinsSpec.post enc Try.prog Try.f7 false true false false) := by
  refine returnsInHanded_of_change_sized (C := Try.checked) own started (by kernel_rfl) Try.func7
    (ChangeSpec.witness6 (enc := enc) (C := Try.checked) false ⟨#[], #[.slice none 0 0, .slice none 0 0, .int .i64 0], []⟩ 8 (by kernel_rfl) (by kernel_rfl) (by kernel_rfl) (by kernel_rfl)) ?_
  intro W base args ds gs before hval0 hW hcnd hsz0 _
  have hsz : (DataW.weightsEach Try.prog (Try.f7.params.toList ++ Rows.wireJoinsSpec.plain.varTypes Try.prog) (ds ++ gs)).all (· ≤ reachBytes) = true := hsz0
  clear hsz0
  have hval : ∀ (j : Nat) t v, Try.f7.params[j]? = some t → args[j]? = some v → Value.okWide Try.prog W .any base t v := hval0
  have hW' := hW
  obtain ⟨p, q, hA0, hV, rfl, hfz, hnd⟩ := hW
  have hA : DataW.TrodAll enc Try.prog W 0 (fun _ => true) true Try.f7.params.toList args.toList ds p := hA0
  rw [Try.params7] at hA hval hsz
  obtain ⟨v0, vs0, d0, ds0, p0, q0, hargs, rfl, rfl, h0, r0⟩ := trodAll_cons hA
  obtain ⟨v1, vs1, d1, ds1, p1, q1, rfl, rfl, rfl, h1, r1⟩ := trodAll_cons r0
  obtain ⟨v2, vs2, d2, ds2, p2, q2, rfl, rfl, rfl, h2, r2⟩ := trodAll_cons r1
  obtain ⟨rfl, rfl, rfl⟩ := trodAll_nil r2
  obtain rfl : args = #[v0, v1, v2] := by cases args; simp_all
  obtain ⟨rfl, rfl⟩ := trodVars_none hV
  have kk0 := h0
  have lt0 : ∀ x ∈ p0, x.block < W.heap.size := by obtain ⟨m, hm⟩ := kk0; exact DataW.trod_lt m _ _ _ hm
  have kk1 := h1
  have lt1 : ∀ x ∈ p1, x.block < W.heap.size := by obtain ⟨m, hm⟩ := kk1; exact DataW.trod_lt m _ _ _ hm
  have kk2 := h2
  have lt2 : ∀ x ∈ p2, x.block < W.heap.size := by obtain ⟨m, hm⟩ := kk2; exact DataW.trod_lt m _ _ _ hm
  obtain ⟨A0, c0, z0, rfl, w0, yy0, uu0, xx0, ss0⟩ := open_bytesT (hval 0 23 v0 rfl rfl) h0 (wb_each hsz (j := 0) (t := 23) rfl rfl)
  obtain ⟨A1, c1, z1, rfl, w1, yy1, uu1, xx1, ss1⟩ := open_bytesT (hval 1 23 v1 rfl rfl) h1 (wb_each hsz (j := 1) (t := 23) rfl rfl)
  obtain ⟨a2, rfl, rfl, rfl, w2⟩ := open_int Try.underlying3 (hval 2 3 v2 rfl rfl) h2
  clear hA0 hval0
  refine (walk W A0 c0 z0 w0 yy0 uu0 xx0 ss0 A1 c1 z1 w1 yy1 uu1 xx1 ss1 a2 w2).mono fun e W' ⟨he, bel⟩ => ?_
  subst he
  exact ⟨_, rfl, _, _, _, [], _, [], hW', trodAll_mk1 (shut_bool Try.underlying4 _), (trodAll_cons_mk (Below.trod laidOut (by kernel_rfl) (of_decide_eq_true (by kernel_rfl)) kk0 bel lt0) (trodAll_cons_mk (Below.trod laidOut (by kernel_rfl) (of_decide_eq_true (by kernel_rfl)) kk1 bel lt1) (trodAll_cons_mk (Below.trod laidOut (by kernel_rfl) (of_decide_eq_true (by kernel_rfl)) kk2 bel lt2) trodAll_mk0))), rfl, bel.frame _, fun h => by cases h⟩

theorem over : Rows.wireJoinsRow.holds Try.pinned (OpenSpec.ofChange Rows.wireJoinsSpec) :=
  OpenClaim.holds_of_wide 7 Try.f7 rfl rfl rfl rfl rfl rfl rfl ⟨rfl, rfl, rfl, rfl, rfl⟩ rfl rfl rfl rfl rfl (by kernel_rfl) Try.func7 (by kernel_rfl)
    (of_decide_eq_true (by kernel_rfl)) (by unfold Func.isWrapper; first | (rw [if_pos (by decide +kernel)]; kernel_rfl) | (rw [if_neg (by decide +kernel)]; exact ⟨rfl, rfl⟩))
    (fun os started H enc _ => lifted os started H enc)

/-- the statement -/
theorem proved : Rows.WireJoinsSaid :=
  over
#print axioms proved
end Go.Proofs.Ythoknfkldmfdpaa.wireJoins
