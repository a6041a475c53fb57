/- ValueKinds: what an operator makes is of the kind that Result tells, or poison. -/
import Derived.Test.YtocciehjpgkceaaRows
import Derived.WalkKit
import Derived.ProofKit
import Derived.OpenShut
import Derived.ShutString
import Derived.ChangeOld
import Derived.Below
import Derived.Lib.SmallJoins
import Derived.SizedLaws
import Derived.Test.YtocciehjpgkceaaAwake
import Derived.Test.YtocciehjpgkceaaKinds
import Derived.Test.YtocciehjpgkceaaOpen
import Derived.Test.YtocciehjpgkceaaWords
namespace Go.Proofs.Ytocciehjpgkceaa.valueKinds
open Go.ChangeShapes Go.WideShapes Go.ChangeAt Go.RowKit Go.Fl Go.Joins
set_option linter.unusedVariables false

theorem own : ownKnob Try.prog.godebug = none := by kernel_rfl
theorem laidOut : laidOutB Try.prog = true := by kernel_rfl
theorem cells29 : Try.prog.cellsOf 29 = 2 := by kernel_rfl

theorem bytes16_29 : Try.prog.bytesOf 29 = 16 := by kernel_rfl
-- (the loop that lists the kinds; then Result, Apply and what they answer)
theorem infoI : (Try.prog.info? 3).map (fun i => (i.zero, i.size, i.bytes)) = some (some (.int .i64 0), 1, 8) := by kernel_rfl
def kindsOf (vs : List (Int × Nat)) : List Int := vs.map fun v => clK v.1 v.2
def cellsI (zs : List Int) : List Value := zs.map fun z => .int .i64 z
theorem cellsI_snoc (vs : List (Int × Nat)) (k : Nat) (v : Int × Nat) (h : vs[k]? = some v) : cellsI (kindsOf (vs.take (k + 1))) = cellsI (kindsOf (vs.take k)) ++ [.int .i64 (clK v.1 v.2)] := by
  rw [List.take_add_one, h]
  simp [cellsI, kindsOf]
def KindsR (u : World) (vs : List (Int × Nat)) (m i : Value) (wr : World) : Prop :=
  ∃ k : Nat, k ≤ vs.length ∧ i = .int .i64 (k : Int) ∧ wr.ownsRow u.heap.size 3 1 m k (cellsI (kindsOf (vs.take k))) ∧ Below u.heap.size u wr
theorem own_rowI {w : World} {base n : Nat} {e : TypeId} {v : Value} {zs : List Int} (hn : zs.length = n) (h : w.ownsRow base e 1 v n (cellsI zs)) : ∃ A cap, v = .slice A n cap ∧ RowI .i64 w A n zs := by
  subst hn
  by_cases z : zs.length = 0
  · have hnil : zs = [] := List.eq_nil_of_length_eq_zero z
    subst hnil
    rcases h.2 with ⟨rfl, _⟩ | ⟨g, cap, cur, rfl, _⟩
    · exact ⟨none, 0, rfl, rfl, fun h => absurd h (by simp)⟩
    · exact ⟨some ⟨g, 0, none⟩, cap, rfl, rfl, fun h => absurd h (by simp)⟩
  · obtain ⟨g, cap, rfl, _, _⟩ := h.form (by omega)
    have hc := h.cells (g := g) rfl
    refine ⟨_, cap, rfl, rfl, fun _ => ⟨g, 0, rfl, fun i z hi => ?_⟩⟩
    have hx : (cellsI zs)[i]? = some (.int .i64 z) := by simp [cellsI, hi]
    have := hc _ _ hx
    rw [show (⟨g, 0 + i, none⟩ : Addr) = (⟨g, 0, none⟩ : Addr).add i by unfold Addr.add; split <;> simp_all]
    exact this
theorem keepK {w0 w w1 : World} {a0 a1 : Addr} {v0 v1 : Value} (hb : Below w.heap.size w w1) (h : w.cell? a0 = some v0 ∧ w.cell? a1 = some v1 ∧ Below w0.heap.size w0 w) :
    w1.cell? a0 = some v0 ∧ w1.cell? a1 = some v1 ∧ Below w0.heap.size w0 w1 := ⟨cell_later hb h.1, cell_later hb h.2.1, h.2.2.trans (hb.mono h.2.2.size)⟩

set_option maxHeartbeats 4000000 in
theorem walk (w : World) (a0 : Int) (w0 : (Lit.int .i64 a0).wf = true) (A1 : Option Addr) (n1 c1 : Nat) (z1 : List (Int × Nat)) (w1 : RowV w A1 n1 z1) (s1 : n1 * 16 ≤ 140737488351232) :
    Calls Try.prog 4 #[.int .i64 a0, .slice A1 n1 c1] w fun e w' => e = .returned (.bool true) ∧ Below w.heap.size w w' := by
  obtain ⟨i0, hi, hz0, hz1, hz2⟩ := info_parts infoI
  have hev : ∀ (k b : Int) (w : World), (binOp .neq 27 (.agg #[.int .i64 k, .int .u64 b]) (.agg #[.int .i64 k, .int .u64 b])).run Try.prog w = .ok (.bool false) w := fun k b w => by simp [go_sem]
  have hf0 : ∀ (x y : Value) (w : World), (Instr.field 27 (.agg #[x, y]) 0).run Try.prog w = .ok x w := fun _ _ _ => rfl
  go_enter Try.func4, Try.ntmps4
  go_wp2_with fail
  refine (awake_any _).mono ?_; rintro e u1 ⟨rfl, hb1⟩
  obtain ⟨hlen, hbits, hc0⟩ := w1.later hb1
  obtain rfl : z1.length = n1 := hlen
  have HW := Lib.hid w1
  clear w1
  go_wp2_with fail
  go_loopw [5, 14] (fun m i wr => KindsR u1 z1 m i wr) (fun _ i _ => z1.length - (intOf i).toNat)
  case atStart => exact ⟨0, Nat.zero_le _, rfl, World.ownsRow_nil _ _ _ _, Below.refl _ _⟩
  case round =>
    obtain ⟨k, hk, rfl, hown, hB⟩ := hrel
    by_cases hlt : k < z1.length
    · obtain ⟨b, off, rfl, hcell⟩ := hc0 (by omega)
      have hvk : z1[k]? = some ((z1[k]).1, (z1[k]).2) := by rw [List.getElem?_eq_getElem hlt]
      have hbk : (z1[k]).2 < 18446744073709551616 := hbits _ (List.getElem_mem hlt)
      obtain ⟨r0, r1⟩ := hcell k _ _ hvk
      have r0 := cell_later hB r0
      have r1 := cell_later hB r1
      have sn := Lib.hid (cellsI_snoc z1 k _ hvk)
      generalize z1[k].1 = x at *
      generalize z1[k].2 = c at *
      clear hcell hvk hc0 hbits
      go_wp2_with fail
      refine (to_any _ _ _).mono ?_; rintro e w1 ⟨rfl, hc1⟩
      go_wp2_with fail
      refine (clean_any _ _ _ hbk).mono ?_; rintro e w2 ⟨rfl, hc2⟩
      have hown2 := own_below (own_below (hown.alloc _) hc1) hc2
      have hB1 : Below u1.heap.size u1 w1 := below_more (hB.alloc hB.size _) hc1
      have hB2 : Below u1.heap.size u1 w2 := below_more hB1 hc2
      have hs2 := hB2.size
      clear r0 r1 hown hB1 hc1 hc2
      go_wp2_with (at_builtin; refine wpList_append_own _ rfl (.tmp 18) (.tmp 23) 34 rfl u1.heap.size 3 i0 (.int .i64 0) 1 8 Try.underlying34 hi hz0 hz1 hz2 rfl (by decide) u5 k (cellsI (kindsOf (z1.take k))) rfl (hown2.alloc _) ⟨w2.heap.size, 0, none⟩ 1 1 [.int .i64 (clK x c)] rfl rfl ?c1 ?c2 ?c3 ?c4 ?c5 ?_)
      case c1 =>
        intro j u hj
        match j, hj with
        | 0, hj => simp at hj; subst hj; simp [Addr.add]
      case c2 => intro u hu; simp at hu; subst hu; rfl
      case c3 => unfold maxLen; omega
      case c4 => omega
      case c5 => simp; omega
      intro v' w3 hown3 hgrow _
      rw [← sn.out] at hown3
      have hB3 : Below u1.heap.size u1 w3 := (hB2.alloc hs2 _).grown hgrow (by simp; omega) (fun g hg => (hown2.lt g hg).1)
      clear hown2
      go_wp2
      go_roundw
      case rel => exact ⟨k + 1, by omega, by go_num, hown3, hB3⟩
      case measure => simp [intOf]; omega
    · obtain rfl : k = z1.length := by omega
      rw [List.take_length] at hown
      obtain ⟨A', cap', rfl, hrow⟩ := own_rowI (show (kindsOf z1).length = z1.length by simp [kindsOf]) hown
      have hw := HW.out
      have hbz := hw.2.1
      have HV := Lib.hid ((hw.later hb1).later hB)
      have hww := below_more hb1 hB
      have HR := Lib.hid hrow
      clear hown hrow hw hc0 hbits
      go_wp2_with fail
      refine (result_any a0 A' z1.length cap' (kindsOf z1) _ HR.out (by omega)).mono ?_; rintro e w1 ⟨rfl, nr, rfl⟩
      have HV2 := Lib.hid (show RowV (wr.drewN nr) A1 z1.length z1 from HV.out)
      have hw2 := below_drewN hww nr
      clear HV HR
      go_wp2_with fail
      refine (all_any A1 z1.length c1 z1 _ HV2.out s1).mono ?_
      rintro e w2 ⟨v, rfl, hown, hc2⟩
      obtain ⟨A'', cap'', rfl, hrow⟩ := own_row hown (HV2.out).2.1
      have HR := Lib.hid hrow
      clear hown hrow HV2
      go_wp2_with fail
      refine (apply_any a0 A'' z1.length cap'' z1 _ HR.out).mono ?_
      rintro e w3 ⟨rfl, hc3⟩
      have hw4 := below_more (below_more hw2 hc2) hc3
      have hcl := app_clean a0 z1
      have hk1 := app_kind a0 z1
      have hk2 := app_logic a0 z1
      have hbl : (appP a0 z1).2 < 18446744073709551616 := app_lt a0 z1 w hbz
      clear hc2 hc3 hw2 hww HR
      generalize hk : (appP a0 z1).1 = x at *
      generalize hc : (appP a0 z1).2 = c at *
      obtain ⟨cl1, cl2⟩ : clK x c = x ∧ clB x c = c := by
        have h := hcl
        unfold isClean at h
        rw [hk, hc] at h
        exact h
      have hx : (z1.length = 2 ∧ (a0 = 13 ∨ a0 = 14) ∧ (x = 0 ∨ x = 2)) ∨ (¬ (z1.length = 2 ∧ (a0 = 13 ∨ a0 = 14)) ∧ (x = 0 ∨ x = resP a0 (kindsOf z1))) := by
        by_cases c : z1.length = 2 ∧ (a0 = 13 ∨ a0 = 14)
        · exact .inl ⟨c.1, c.2, hk2 c.1 c.2⟩
        · exact .inr ⟨c, hk1 (fun h => by omega)⟩
      replace hx := Lib.hid hx
      clear hcl hbz hk1 hk2 hk hc
      go_wp2_with fail
      go_region_held3 (fun w' => w'.cell? ⟨w3.heap.size, 0, none⟩ = some (.int .i64 x) ∧ w'.cell? ⟨w3.heap.size, 1, none⟩ = some (.int .u64 (c : Int)) ∧ Below w.heap.size w w') (first | exact ⟨by simp, by simp, (hw4.alloc hw4.size _).drew⟩ | go_keep | exact keepK hb1 (by first | assumption | exact ⟨by assumption, by assumption, by assumption⟩)) (first | (go_at_call 14; refine (clean_any _ _ _ hbl).mono ?_; rintro e w1 ⟨rfl, hb1⟩; rw [cl1, cl2]))
      rename_i hHeld
      obtain ⟨s0, sx1, hB9⟩ := hHeld
      clear cl1 cl2
      generalize resP a0 (kindsOf z1) = r at *
      rcases hx.out with ⟨h1, h2 | h2, rfl | rfl⟩ | ⟨h1, rfl | rfl⟩
      all_goals (try subst h2)
      all_goals go_wp2
      all_goals first | (go_ret; exact ⟨rfl, hB9⟩) | (exfalso; simp only [beq_iff_eq, beq_eq_false_iff_ne, Bool.or_eq_true, Bool.and_eq_true] at *; omega) | trace_state

set_option maxRecDepth 100000 in
theorem lifted (os : Os) (started : os.Started) (H : Type) (enc : TypeId × Value → H) :
    ReturnsInHanded {} Try.checked os 4 .any (Rows.valueKindsSpec.pre6 enc Try.prog Try.f4 Rows.valueKindsRow.domain false) (Rows.valueKindsSpec.post enc Try.prog Try.f4 false true false false) := by
  refine returnsInHanded_of_change_sized (C := Try.checked) own started (by kernel_rfl) Try.func4
    (ChangeSpec.witness6 (enc := enc) (C := Try.checked) false ⟨#[], #[.int .i64 0, .slice none 0 0], []⟩ 8 (by kernel_rfl) (by kernel_rfl) (by kernel_rfl) (by kernel_rfl)) ?_
  intro W base args ds gs before hval0 hW hcnd hsz0 _
  have hsz : (DataW.weightsEach Try.prog (Try.f4.params.toList ++ Rows.valueKindsSpec.plain.varTypes Try.prog) (ds ++ gs)).all (· ≤ reachBytes) = true := hsz0
  clear hsz0
  have hval : ∀ (j : Nat) t v, Try.f4.params[j]? = some t → args[j]? = some v → Value.okWide Try.prog W .any base t v := hval0
  have hW' := hW
  obtain ⟨p, q, hA0, hV, rfl, hfz, hnd⟩ := hW
  have hA : DataW.TrodAll enc Try.prog W 0 (fun _ => true) true Try.f4.params.toList args.toList ds p := hA0
  rw [Try.params4] at hA hval hsz
  obtain ⟨v0, vs0, d0, ds0, p0, q0, hargs, rfl, rfl, h0, r0⟩ := trodAll_cons hA
  obtain ⟨v1, vs1, d1, ds1, p1, q1, rfl, rfl, rfl, h1, r1⟩ := trodAll_cons r0
  obtain ⟨rfl, rfl, rfl⟩ := trodAll_nil r1
  obtain rfl : args = #[v0, v1] := by cases args; simp_all
  obtain ⟨rfl, rfl⟩ := trodVars_none hV
  have kk0 := h0
  have lt0 : ∀ x ∈ p0, x.block < W.heap.size := by obtain ⟨m, hm⟩ := kk0; exact DataW.trod_lt m _ _ _ hm
  have kk1 := h1
  have lt1 : ∀ x ∈ p1, x.block < W.heap.size := by obtain ⟨m, hm⟩ := kk1; exact DataW.trod_lt m _ _ _ hm
  obtain ⟨a0, rfl, rfl, rfl, w0⟩ := open_int Try.underlying3 (hval 0 3 v0 rfl rfl) h0
  obtain ⟨A1, n1, c1, rfl⟩ := okWide_slice Try.underlying22 (hval 1 22 v1 rfl rfl)
  obtain ⟨z1, w1, s1⟩ : ∃ zs, RowV W A1 n1 zs ∧ n1 * 16 ≤ 140737488351232 := by
    obtain ⟨fuel, hf⟩ := h1
    rcases Go.Deep.open_slice_pairs Try.underlying22 Try.underlying29 (by kernel_rfl) rfl rfl (by kernel_rfl) (by kernel_rfl) hf with ⟨hcs, _⟩ | ⟨x, l, c, m, nn, V0, V1, D0, D1, P0, P1, hcs, _, hl, hm, hmm, hx, hcell⟩
    · simp [Value.cells] at hcs
      obtain ⟨rfl, rfl, rfl⟩ := hcs
      exact ⟨[], ⟨rfl, by simp, fun h => absurd h (by decide)⟩, by decide⟩
    · simp [Value.cells] at hcs
      obtain ⟨rfl, rfl, rfl⟩ := hcs
      simp only [Prod.mk.injEq] at hx
      obtain ⟨rfl, rfl⟩ := hx
      have hb := sized_slice hsz (j := 1) (t := 22) (e := 29) rfl rfl Try.underlying22
      rw [bytes16_29] at hb
      simp only [List.length_map, List.length_range, reachBytes] at hb
      have lm : n1 ≤ m := by rw [hmm]; split <;> omega
      obtain ⟨z, hz⟩ := row_of_pairs (w := W) (a := x) lm (fun i hi => ⟨(hcell i hi).1, (hcell i hi).2.1⟩) (fun i hi => by
        obtain ⟨_, _, g0, g1⟩ := hcell i hi
        obtain ⟨a, e0, _, wa⟩ := DataW.trod_int Try.underlying3 g0
        obtain ⟨b, e1, _, wb⟩ := DataW.trod_int Try.underlying25 g1
        simp at e0 e1
        obtain ⟨n, rfl, hn⟩ := nat_of_wf wb
        exact ⟨(a, n), e0, e1, hn⟩)
      exact ⟨z, hz, by omega⟩
  clear hA0 hval0
  refine (walk W a0 w0 A1 n1 c1 z1 w1 s1).mono fun e W' ⟨he, bel⟩ => ?_
  subst he
  exact ⟨_, rfl, _, _, _, [], _, [], hW', trodAll_mk1 (shut_bool Try.underlying4 _), (trodAll_cons_mk (Below.trod laidOut (by kernel_rfl) (of_decide_eq_true (by kernel_rfl)) kk0 bel lt0) (trodAll_cons_mk (Below.trod laidOut (by kernel_rfl) (of_decide_eq_true (by kernel_rfl)) kk1 bel lt1) trodAll_mk0)), rfl, bel.frame _, fun h => by cases h⟩

theorem over : Rows.valueKindsRow.holds Try.pinned (OpenSpec.ofChange Rows.valueKindsSpec) :=
  OpenClaim.holds_of_wide 4 Try.f4 rfl rfl rfl rfl rfl rfl rfl ⟨rfl, rfl, rfl, rfl, rfl⟩ rfl rfl rfl rfl rfl (by kernel_rfl) Try.func4 (by kernel_rfl)
    (of_decide_eq_true (by kernel_rfl)) (by unfold Func.isWrapper; first | (rw [if_pos (by decide +kernel)]; kernel_rfl) | (rw [if_neg (by decide +kernel)]; exact ⟨rfl, rfl⟩))
    (fun os started H enc _ => lifted os started H enc)

/-- the statement -/
theorem proved : Rows.ValueKindsSaid :=
  over
#print axioms proved
end Go.Proofs.Ytocciehjpgkceaa.valueKinds
