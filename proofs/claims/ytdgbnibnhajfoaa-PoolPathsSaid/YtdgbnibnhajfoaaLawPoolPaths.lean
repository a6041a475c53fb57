/- PoolPaths: a binding that is put in, event by event, is the path of its last cell; put in once more it is the same cell, and no cell more. -/
import Derived.Test.YtdgbnibnhajfoaaRows
import Derived.WalkKit
import Derived.ProofKit
import Derived.OpenShut
import Derived.ShutString
import Derived.ChangeOld
import Derived.Below
import Derived.Lib.SmallJoins
import Derived.SizedLaws
import Derived.Test.YtdgbnibnhajfoaaPoK
namespace Go.Proofs.Ytdgbnibnhajfoaa.poolPaths
open Go.ChangeShapes Go.WideShapes Go.ChangeAt Go.RowKit Go.Joins
set_option linter.unusedVariables false
set_option linter.unusedSimpArgs false

theorem own : ownKnob Try.prog.godebug = none := by kernel_rfl
theorem laidOut : laidOutB Try.prog = true := by kernel_rfl

set_option maxHeartbeats 16000000 in
set_option maxRecDepth 100000 in
theorem walk (w : World) (A0 : Option Addr) (c0 : Nat) (z0 : List (List Int)) (w0 : RowsAt w A0 z0) (s0 : z0.length * 24 ≤ 140737488351232) (y0 : ∀ l ∈ z0, l.length * 8 ≤ 140737488351232) :
    Calls Try.prog 5 #[.slice A0 z0.length c0] w fun e w' => e = .returned (.bool true) ∧ Below w.heap.size w w' := by
  have C0 := Lib.hid (fun w => awake23 w)
  have C1 := Lib.hid (new_any 1000 w)
  obtain ⟨N, hN⟩ : ∃ n, w.heap.size = n := ⟨_, rfl⟩
  obtain ⟨nb, hnb⟩ : ∃ n, z0.length = n := ⟨_, rfl⟩
  rw [hnb]
  rw [hnb] at s0
  have n9 : (nb : Int) ≤ 9223372036854775807 := by omega
  replace w0 := Lib.hid w0
  replace hnb := Lib.hid hnb
  replace y0 := Lib.hid y0
  go_enter Try.func5, Try.ntmps5
  go_wp2_with fail
  refine C1.out.mono ?_
  rintro e u1 ⟨p, rfl, hP, hb⟩
  clear C1
  replace hP := Lib.hid hP
  replace hb := Lib.hid hb
  go_wp2_with fail
  go_loopw [4, 20] (fun vn i wr => ∃ k : Nat, k ≤ nb ∧ i = .int .i64 (k : Int) ∧ vn = .int .i64 ((ahead z0 k : Nat) : Int) ∧ ahead z0 k ≤ 300 ∧ (∀ (j : Nat) (l : List Int), j < k → z0[j]? = some l → l ≠ [] ∧ ∀ e ∈ l, 0 ≤ e) ∧ wr = u1) (fun _ i _ => nb - (intOf i).toNat)
  case atStart => exact ⟨0, Nat.zero_le _, rfl, rfl, Nat.zero_le _, fun j l hj => absurd hj (by omega), rfl⟩
  case round =>
    obtain ⟨k, hk, rfl, rfl, h3, hT, hwr⟩ := hrel
    obtain rfl : u1 = wr := hwr.symm
    replace hT := Lib.hid hT
    by_cases hlt : k < nb
    · obtain ⟨b1, o1, rfl, hc1⟩ := w0.out (by rw [hnb.out]; omega)
      have hx1 : z0[k]? = some (z0[k]'(by rw [hnb.out]; exact hlt)) := List.getElem?_eq_getElem _
      obtain ⟨v1, q1, B1, z1, rfl, hi1⟩ := hc1 k _ hx1
      have hd1 := y0.out _ (List.mem_of_getElem? hx1)
      replace q1 := cell_later hb.out q1
      generalize z0[k]'(by rw [hnb.out]; exact hlt) = r1 at *
      have hah := Lib.hid (ahead_succ hx1)
      have k0 : (0 : Int) ≤ (k : Int) := by omega
      have k1 : (k : Int) < (nb : Int) := by omega
      obtain ⟨m, hm⟩ : ∃ m, r1.length = m := ⟨_, rfl⟩
      rw [hm] at q1 hd1
      have m9 : (m : Int) ≤ 9223372036854775807 := by omega
      obtain ⟨na, hna⟩ : ∃ m, ahead z0 k = m := ⟨_, rfl⟩
      rw [hna] at h3
      rw [hna]
      replace hi1 := Lib.hid hi1
      replace hx1 := Lib.hid hx1
      replace hm := Lib.hid hm
      replace hna := Lib.hid hna
      have k3 := Lib.hid hlt
      clear hc1
      by_cases hm0 : m = 0
      · subst hm0
        go_wp2_with fail
        refine (C0.out _).mono ?_
        rintro e u2 ⟨rfl, hb2⟩
        have hb3 := Lib.hid (mmore hb.out hb2)
        go_wp2
        go_ret
        exact ⟨rfl, hb3.out⟩
      have hm1 : ((m : Int) == 0) = false := by simp; omega
      replace hm0 := Lib.hid hm0
      go_wp2_with fail
      go_loopw [30] (fun i wr => ∃ j : Nat, j ≤ m ∧ i = .int .i64 (j : Int) ∧ (∀ (t : Nat) (e : Int), t < j → r1[t]? = some e → 0 ≤ e) ∧ wr = u1) (fun i _ => m - (intOf i).toNat)
      case atStart => exact ⟨0, Nat.zero_le _, rfl, fun t e ht => absurd ht (by omega), rfl⟩
      case round =>
        obtain ⟨j, hj, rfl, hT2, hwr⟩ := hrel
        obtain rfl : u1 = wr := hwr.symm
        replace hT2 := Lib.hid hT2
        by_cases hjl : j < m
        · obtain ⟨g3, o3, rfl, hc3⟩ := hi1.out (by rw [hm.out]; omega)
          have hy1 : r1[j]? = some (r1[j]'(by rw [hm.out]; exact hjl)) := List.getElem?_eq_getElem _
          have p1 := hc3 j _ hy1
          replace p1 := cell_later hb.out p1
          generalize r1[j]'(by rw [hm.out]; exact hjl) = y1 at *
          have j0 : (0 : Int) ≤ (j : Int) := by omega
          have j1 : (j : Int) < (m : Int) := by omega
          have k4 := Lib.hid hjl
          replace hy1 := Lib.hid hy1
          clear hc3
          by_cases hneg : y1 < 0
          · go_wp2_with fail
            refine (C0.out _).mono ?_
            rintro e u2 ⟨rfl, hb2⟩
            have hb3 := Lib.hid (mmore hb.out hb2)
            go_wp2
            go_ret
            exact ⟨rfl, hb3.out⟩
          · have hneg2 : decide (y1 < 0) = false := by simp; omega
            replace hneg := Lib.hid hneg
            go_wp2
            go_roundw
            case rel => exact ⟨j + 1, k4.out, by go_num, fun t e ht he => by
              by_cases h : t = j
              · subst h; rw [hy1.out] at he; injection he with he; have := hneg.out; omega
              · exact hT2.out t e (by omega) he, by trivial⟩
            case measure => have := k4.out; simp [intOf]; omega
        · obtain rfl : j = m := by omega
          have hrow := Lib.hid (show r1 ≠ [] ∧ ∀ e ∈ r1, 0 ≤ e from ⟨by intro q; subst q; exact hm0.out (by simpa using hm.out.symm), fun e he => by
            obtain ⟨t, ht⟩ := List.mem_iff_getElem?.1 he
            exact hT2.out t e (by have := (List.getElem?_eq_some_iff.1 ht).1; rw [hm.out] at this; exact this) ht⟩)
          have hsum : ahead z0 (k + 1) = na + j := by rw [hah.out, hna.out, hm.out]
          have hw1 : IntKind.i64.wrap ((na : Int) + (j : Int)) = (na : Int) + (j : Int) := by rw [IntKind.wrap_i64]; omega
          clear hT2
          by_cases hbig : (300 : Int) < (na : Int) + (j : Int)
          · go_wp2_with fail
            refine (C0.out _).mono ?_
            rintro e u2 ⟨rfl, hb2⟩
            have hb3 := Lib.hid (mmore hb.out hb2)
            go_wp2
            go_ret
            exact ⟨rfl, hb3.out⟩
          · replace hsum := Lib.hid hsum
            have hbig2 := Lib.hid hbig
            go_wp2
            go_roundw
            case rel => exact ⟨k + 1, k3.out, by go_num, by rw [hsum.out]; push_cast; rfl, by rw [hsum.out]; have := hbig2.out; omega, fun t l ht hl => by
              by_cases h : t = k
              · subst h; rw [hx1.out] at hl; injection hl with hl; subst hl; exact hrow.out
              · exact hT.out t l (by omega) hl, by trivial⟩
            case measure => have := k3.out; simp [intOf]; omega
    · obtain rfl : k = nb := by omega
      have hrows : ∀ l ∈ z0, l ≠ [] ∧ ∀ e ∈ l, 0 ≤ e := fun l hl => by
        obtain ⟨t, ht⟩ := List.mem_iff_getElem?.1 hl
        exact hT.out t l (by have := (List.getElem?_eq_some_iff.1 ht).1; rw [hnb.out] at this; exact this) ht
      have hna : ahead z0 k = (itemsOf z0).length := by rw [itemsOf_len, ← ahead_all, hnb.out]
      obtain ⟨na, hna2⟩ : ∃ m, ahead z0 k = m := ⟨_, rfl⟩
      rw [hna2] at hna h3
      rw [hna2]
      clear hT hna2
      replace hrows := Lib.hid hrows
      replace hna := Lib.hid hna
      go_wp2_with fail
      refine (C0.out _).mono ?_
      rintro e u2 ⟨rfl, hb2⟩
      have hP2 := Lib.hid (hP.out.later hb2)
      have hb3 := Lib.hid (mmore hb.out hb2)
      clear hP hb hb2
      by_cases hz : na = 0
      · subst hz
        go_wp2_with fail
        refine (C0.out _).mono ?_
        rintro e u3 ⟨rfl, hb4⟩
        have hb5 := Lib.hid (mmore hb3.out hb4)
        go_wp2
        go_ret
        exact ⟨rfl, hb5.out⟩
      have hz1 : ((na : Int) == 0) = false := by simp; omega
      replace hz := Lib.hid hz
      go_upto_region 21 with (fail)
      have hm3 := m1 u2 (.cells #[.int .i64 (-1), .int .i64 (-1)] 48)
      have hPz := (hP2.out.lt.later hm3).more (D' := fun k => N ≤ k ∧ k ≠ u2.heap.size) fun k hk => ⟨by omega, by omega⟩
      rw [hN] at hPz
      have hR := Lib.hid (show PRnd w N p u2.heap.size na 0 (itemsOf z0) 0 (u2.alloc (.cells #[.int .i64 (-1), .int .i64 (-1)] 48)) from
        ⟨⟨0, newS 1000, Nat.zero_le _, PCh.start _, hPz⟩, Blk.made u2 _ _, mmore hb3.out hm3, by rw [← hN]; exact hb3.out.size⟩)
      have hF0 := Lib.hid (show ∀ x, (itemsOf z0)[0]? = some x → x.2 = true from fun x hx => itemsOf_first (fun l hl => (hrows.out l hl).1) hx)
      generalize u2.alloc (.cells #[.int .i64 (-1), .int .i64 (-1)] 48) = u3 at *
      generalize u2.heap.size = g at *
      clear hP2 hb3 hm3 hPz
      go_wp2_with fail
      go_loopw [58] (fun i wr => ∃ q : Nat, q ≤ 2 ∧ i = .int .i64 (q : Int) ∧ ((q < 2 ∧ PRnd w N p g na q (itemsOf z0) 0 wr) ∨ (q = 2 ∧ PRnd w N p g na 1 (itemsOf z0) na wr))) (fun i _ => 2 - (intOf i).toNat)
      case atStart => exact ⟨0, by omega, rfl, .inl ⟨by omega, hR.out⟩⟩
      case round =>
        obtain ⟨q, hq, rfl, hrel2⟩ := hrel
        clear hR
        rcases hrel2 with ⟨hq2, hR⟩ | ⟨rfl, hR⟩
        · have q0 : (0 : Int) ≤ (q : Int) := by omega
          have q1 : (q : Int) < 2 := by omega
          have q3 := Lib.hid hq2
          replace hR := Lib.hid hR
          clear hq hq2
          go_wp2_with fail
          go_loopw [63] (fun i wr => ∃ k' : Nat, k' ≤ k ∧ i = .int .i64 (k' : Int) ∧ PRnd w N p g na q (itemsOf z0) (ahead z0 k') wr) (fun i _ => k - (intOf i).toNat)
          case atStart => exact ⟨0, Nat.zero_le _, rfl, hR.out⟩
          case round =>
            obtain ⟨k', hk', rfl, hR'⟩ := hrel
            clear hR
            by_cases hlt : k' < k
            · obtain ⟨b1, o1, rfl, hc1⟩ := w0.out (by rw [hnb.out]; omega)
              have hx1 : z0[k']? = some (z0[k']'(by rw [hnb.out]; exact hlt)) := List.getElem?_eq_getElem _
              obtain ⟨v1, p1, B1, z1, rfl, hi1⟩ := hc1 k' _ hx1
              have hd1 := y0.out _ (List.mem_of_getElem? hx1)
              have hr1 := hrows.out _ (List.mem_of_getElem? hx1)
              replace p1 := cell_later hR'.below p1
              generalize z0[k']'(by rw [hnb.out]; exact hlt) = r1 at *
              have hah := Lib.hid (ahead_succ hx1)
              have k0 : (0 : Int) ≤ (k' : Int) := by omega
              have k1 : (k' : Int) < (k : Int) := by omega
              obtain ⟨m, hm⟩ : ∃ m, r1.length = m := ⟨_, rfl⟩
              rw [hm] at p1 hd1
              have m9 : (m : Int) ≤ 9223372036854775807 := by omega
              replace hi1 := Lib.hid hi1
              replace hx1 := Lib.hid hx1
              replace hm := Lib.hid hm
              have k3 := Lib.hid hlt
              replace hR' := Lib.hid hR'
              replace hr1 := Lib.hid hr1
              clear hc1 hd1
              go_wp2_with fail
              go_loopw [69] (fun i wr => ∃ j : Nat, j ≤ m ∧ i = .int .i64 (j : Int) ∧ PRnd w N p g na q (itemsOf z0) (ahead z0 k' + j) wr) (fun i _ => m - (intOf i).toNat)
              case atStart => exact ⟨0, Nat.zero_le _, rfl, hR'.out⟩
              case round =>
                obtain ⟨j, hj, rfl, hR2⟩ := hrel
                clear hR' p1
                by_cases hjl : j < m
                · obtain ⟨g3, o3, rfl, hc3⟩ := hi1.out (by rw [hm.out]; omega)
                  have hy1 : r1[j]? = some (r1[j]'(by rw [hm.out]; exact hjl)) := List.getElem?_eq_getElem _
                  have p1 := hc3 j _ hy1
                  replace p1 := cell_later hR2.below p1
                  have hpos := hr1.out.2 _ (List.mem_of_getElem? hy1)
                  generalize r1[j]'(by rw [hm.out]; exact hjl) = y1 at *
                  have hit := itemsOf_at hx1.out hy1
                  have j0 : (0 : Int) ≤ (j : Int) := by omega
                  have j1 : (j : Int) < (m : Int) := by omega
                  have k4 := Lib.hid hjl
                  have hjb : ((j : Int) == 0) = (j == 0) := by cases j <;> simp <;> omega
                  generalize (j == 0) = bj at *
                  have C := hR2.step hN hF0.out q3.out hna.out h3 hit hpos
                  have hl := hR2.last.cell q
                  rw [lastC_at q3.out] at hl
                  obtain ⟨tt, htt⟩ : ∃ t, ahead z0 k' + j = t := ⟨_, rfl⟩
                  rw [htt] at C hl
                  replace C := Lib.hid C
                  replace htt := Lib.hid htt
                  clear hc3 hit hpos hy1 hR2
                  go_wp2_with fail
                  refine C.out.mono ?_
                  rintro e u4 ⟨rfl, hfr, hcl, hR3⟩
                  replace hR3 := Lib.hid hR3
                  go_wp2
                  go_roundw
                  case rel => exact ⟨j + 1, k4.out, by go_num, by rw [← Nat.add_assoc, htt.out]; exact hR3.out⟩
                  case measure => have := k4.out; simp [intOf]; omega
                · obtain rfl : j = m := by omega
                  have hR4 := Lib.hid (show PRnd w N p g na q (itemsOf z0) (ahead z0 (k' + 1)) wr by rw [hah.out, hm.out]; exact hR2)
                  clear hR2
                  go_wp2
                  go_roundw
                  case rel => exact ⟨k' + 1, k3.out, by go_num, hR4.out⟩
                  case measure => have := k3.out; simp [intOf]; omega
            · obtain rfl : k' = k := by omega
              have hfull : ahead z0 k' = na := by rw [hna.out, itemsOf_len, ← ahead_all, hnb.out]
              rw [hfull] at hR'
              have U := Lib.hid hR'.used
              clear hR' hfull
              go_wp2_with fail
              refine U.out.mono ?_
              rintro e u4 ⟨rfl, hR3⟩
              replace hR3 := Lib.hid hR3
              go_wp2
              go_roundw
              case rel =>
                refine ⟨q + 1, by have := q3.out; omega, by go_num, ?_⟩
                have := q3.out
                match q, this, hR3 with
                | 0, _, h => exact .inl ⟨by omega, h.out.next⟩
                | 1, _, h => exact .inr ⟨rfl, h.out⟩
              case measure => have := q3.out; simp [intOf]; omega
        · have l0 : wr.cell? ⟨g, 0, none⟩ = some (.int .i64 ((na : Int) - 1)) := hR.last.cell 0
          have l1 : wr.cell? ⟨g, 1, none⟩ = some (.int .i64 ((na : Int) - 1)) := hR.last.cell 1
          have P := Lib.hid (hR.path hna.out (fun l hl => (hrows.out l hl).1) h3)
          have hbe := Lib.hid hR.below
          clear hR
          go_wp2_with fail
          refine P.out.mono ?_
          rintro e u4 ⟨A, c, rfl, hRo, hb4⟩
          have hb5 := Lib.hid (mmore hbe.out hb4)
          have S := same_any A A0 z0.length k c c0 z0 z0 u4 hRo (w0.out.later hb5.out) rfl hnb.out (by rw [hnb.out]; omega) (by omega) (fun l hl => by have := y0.out l hl; omega) (fun l hl => by have := y0.out l hl; omega)
          rw [show decide (z0 = z0) = true by simp] at S
          replace S := Lib.hid S
          clear hRo hb4
          go_wp2_with fail
          refine S.out.mono ?_
          rintro e u5 ⟨rfl, n, rfl⟩
          go_wp2
          go_ret
          exact ⟨rfl, mmore hb5.out (below_dn _ _)⟩

set_option maxRecDepth 100000 in
theorem lifted (os : Os) (started : os.Started) (H : Type) (enc : TypeId × Value → H) :
    ReturnsInHanded {} Try.checked os 5 .any (Rows.poolPathsSpec.pre6 enc Try.prog Try.f5 Rows.poolPathsRow.domain false) (Rows.poolPathsSpec.post enc Try.prog Try.f5 false true false false) := by
  refine returnsInHanded_of_change_sized (C := Try.checked) own started (by kernel_rfl) Try.func5
    (ChangeSpec.witness6 (enc := enc) (C := Try.checked) false ⟨#[], #[.slice none 0 0], []⟩ 8 (by kernel_rfl) (by kernel_rfl) (by kernel_rfl) (by kernel_rfl)) ?_
  intro W base args ds gs before hval0 hW hcnd hsz0 _
  have hsz : (DataW.weightsEach Try.prog (Try.f5.params.toList ++ Rows.poolPathsSpec.plain.varTypes Try.prog) (ds ++ gs)).all (· ≤ reachBytes) = true := hsz0
  clear hsz0
  have hval : ∀ (j : Nat) t v, Try.f5.params[j]? = some t → args[j]? = some v → Value.okWide Try.prog W .any base t v := hval0
  have hW' := hW
  obtain ⟨p, q, hA0, hV, rfl, hfz, hnd⟩ := hW
  have hA : DataW.TrodAll enc Try.prog W 0 (fun _ => true) true Try.f5.params.toList args.toList ds p := hA0
  rw [Try.params5] at hA hval hsz
  obtain ⟨v0, vs0, d0, ds0, p0, q0, hargs, rfl, rfl, h0, r0⟩ := trodAll_cons hA
  obtain ⟨rfl, rfl, rfl⟩ := trodAll_nil r0
  obtain rfl : args = #[v0] := by cases args; simp_all
  obtain ⟨rfl, rfl⟩ := trodVars_none hV
  have kk0 := h0
  have lt0 : ∀ x ∈ p0, x.block < W.heap.size := by obtain ⟨m, hm⟩ := kk0; exact DataW.trod_lt m _ _ _ hm
  obtain ⟨A0, c0, z0, rfl, w0, ss0, yy0⟩ := open_rowsT (hval 0 41 v0 rfl rfl) h0 (wb_each hsz (j := 0) (t := 41) rfl rfl)
  clear hA0 hval0
  refine (walk W A0 c0 z0 w0 ss0 yy0).mono fun e W' ⟨he, bel⟩ => ?_
  subst he
  exact ⟨_, rfl, _, _, _, [], _, [], hW', trodAll_mk1 (shut_bool Try.underlying4 _), (trodAll_cons_mk (Below.trod laidOut (by kernel_rfl) (of_decide_eq_true (by kernel_rfl)) kk0 bel lt0) trodAll_mk0), rfl, bel.frame _, fun h => by cases h⟩

theorem over : Rows.poolPathsRow.holds Try.pinned (OpenSpec.ofChange Rows.poolPathsSpec) :=
  OpenClaim.holds_of_wide 5 Try.f5 rfl rfl rfl rfl rfl rfl rfl ⟨rfl, rfl, rfl, rfl, rfl⟩ rfl rfl rfl rfl rfl (by kernel_rfl) Try.func5 (by kernel_rfl)
    (of_decide_eq_true (by kernel_rfl)) (by unfold Func.isWrapper; first | (rw [if_pos (by decide +kernel)]; kernel_rfl) | (rw [if_neg (by decide +kernel)]; exact ⟨rfl, rfl⟩))
    (fun os started H enc _ => lifted os started H enc)

/-- the statement -/
theorem proved : Rows.PoolPathsSaid :=
  over
#print axioms proved
end Go.Proofs.Ytdgbnibnhajfoaa.poolPaths
