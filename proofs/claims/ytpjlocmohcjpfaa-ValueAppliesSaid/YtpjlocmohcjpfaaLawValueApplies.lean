/- ValueApplies: what any operator makes of any values is what the document says; the list that was handed in stays, and its spare room too. -/
import Derived.Test.YtpjlocmohcjpfaaRows
import Derived.WalkKit
import Derived.ProofKit
import Derived.OpenShut
import Derived.ShutString
import Derived.ChangeOld
import Derived.Below
import Derived.Lib.SmallJoins
import Derived.SizedLaws
import Derived.Test.YtpjlocmohcjpfaaAwake
import Derived.Test.YtpjlocmohcjpfaaRApp
import Derived.Test.YtpjlocmohcjpfaaDist
import Derived.Test.YtpjlocmohcjpfaaOpen
namespace Go.Proofs.Ytpjlocmohcjpfaa.valueApplies
open Go.ChangeShapes Go.WideShapes Go.ChangeAt Go.RowKit Go.Fl Go.Joins
set_option linter.unusedVariables false
set_option linter.unusedSimpArgs false

theorem own : ownKnob Try.prog.godebug = none := by kernel_rfl
theorem laidOut : laidOutB Try.prog = true := by kernel_rfl
theorem cells29 : Try.prog.cellsOf 29 = 2 := by kernel_rfl

theorem bytes16_29 : Try.prog.bytesOf 29 = 16 := by kernel_rfl
theorem head_row {w : World} {base n : Nat} {e : TypeId} {v : Value} {vs : List (Int × Nat)} (hn : vs.length = n) (h : w.ownsRow base e 2 v (n + 1) (cellsV vs ++ [.int .i64 71, .int .u64 0])) :
    ∃ g cap, v = .slice (some ⟨g, 0, none⟩) (n + 1) cap ∧ n + 1 ≤ cap ∧ cap ≤ maxLen ∧ (∀ (i : Nat) (k : Int) (c : Nat), vs[i]? = some (k, c) → w.cell? ⟨g, i * 2, none⟩ = some (.int .i64 k) ∧ w.cell? ⟨g, i * 2 + 1, none⟩ = some (.int .u64 (c : Int))) ∧ w.cell? ⟨g, n * 2, none⟩ = some (.int .i64 71) := by
  subst hn
  rcases h.2 with ⟨_, h0⟩ | ⟨g, cap, cur, rfl, _, _, hnc, hcm, _, _⟩
  · omega
  · have hc := h.cells (g := g) rfl
    have ea : ∀ j, (⟨g, j, none⟩ : Addr) = (⟨g, 0, none⟩ : Addr).add j := fun j => by unfold Addr.add; split <;> simp_all
    have hl : (cellsV vs).length = vs.length * 2 := cellsV_length vs
    refine ⟨g, cap, rfl, hnc, hcm, fun i k c hi => ?_, ?_⟩
    · have hx := cellsV_at vs i k c hi
      have h0 := (List.getElem?_eq_some_iff.1 hx.1).1
      have h1 := (List.getElem?_eq_some_iff.1 hx.2).1
      rw [ea (i * 2), ea (i * 2 + 1)]
      exact ⟨hc _ _ (by rw [List.getElem?_append_left h0]; exact hx.1), hc _ _ (by rw [List.getElem?_append_left h1]; exact hx.2)⟩
    · rw [ea]
      exact hc _ _ (by rw [List.getElem?_append_right (by omega), hl, Nat.sub_self]; rfl)
theorem keepA {w0 w w1 : World} {a0 a1 a2 a3 : Addr} {v0 v1 v2 v3 : Value} (hb : Below w.heap.size w w1) (h : w.cell? a0 = some v0 ∧ w.cell? a1 = some v1 ∧ w.cell? a2 = some v2 ∧ w.cell? a3 = some v3 ∧ Below w0.heap.size w0 w) :
    w1.cell? a0 = some v0 ∧ w1.cell? a1 = some v1 ∧ w1.cell? a2 = some v2 ∧ w1.cell? a3 = some v3 ∧ Below w0.heap.size w0 w1 := ⟨cell_later hb h.1, cell_later hb h.2.1, cell_later hb h.2.2.1, cell_later hb h.2.2.2.1, h.2.2.2.2.trans (hb.mono h.2.2.2.2.size)⟩

set_option maxHeartbeats 4000000 in
theorem walk (w : World) (a0 : Int) (w0 : (Lit.int .i64 a0).wf = true) (A1 : Option Addr) (n1 c1 : Nat) (z1 : List (Int × Nat)) (w1 : RowV w A1 n1 z1) (s1 : n1 * 16 ≤ 140737488351232) :
    Calls Try.prog 3 #[.int .i64 a0, .slice A1 n1 c1] w fun e w' => e = .returned (.bool true) ∧ Below w.heap.size w w' := by
  obtain ⟨i0, hi, hz0, hz1, hz2⟩ := info_parts infoV
  have hev : ∀ (k b : Int) (w : World), (binOp .neq 29 (.agg #[.int .i64 k, .int .u64 b]) (.agg #[.int .i64 k, .int .u64 b])).run Try.prog w = .ok (.bool false) w := fun k b w => by simp [go_sem]
  have heq : ∀ (k b : Int) (w : World), (binOp .eql 29 (.agg #[.int .i64 k, .int .u64 b]) (.agg #[.int .i64 k, .int .u64 b])).run Try.prog w = .ok (.bool true) w := fun k b w => by simp [go_sem]
  obtain rfl : z1.length = n1 := w1.1
  have hbits := w1.2.1
  have HW := Lib.hid w1
  clear w1
  go_enter Try.func3, Try.ntmps3
  go_wp2_with fail
  refine (all_any A1 z1.length c1 z1 _ HW.out s1).mono ?_
  rintro e w2 ⟨v, rfl, hown, hb1⟩
  have hs2 := hb1.size
  go_wp2_with (at_builtin; refine wpList_append_own _ rfl (.tmp 10) (.tmp 12) 23 rfl w.heap.size 27 i0 (.agg #[.int .i64 0, .int .u64 0]) 2 16 Try.underlying23 hi hz0 hz1 hz2 rfl (by decide) v z1.length (cellsV z1) rfl (hown.alloc _) ⟨w2.heap.size, 0, none⟩ 1 1 [.int .i64 71, .int .u64 0] rfl rfl ?c1 ?c2 ?c3 ?c4 ?c5 ?_)
  case c1 =>
    intro j u hj
    match j, hj with
    | 0, hj => simp at hj; subst hj; simp [Addr.add]
    | 1, hj => simp at hj; subst hj; simp [Addr.add]
  case c2 => intro u hu; simp at hu; rcases hu with rfl | rfl <;> rfl
  case c3 => unfold maxLen; omega
  case c4 => omega
  case c5 => simp; omega
  intro v' w3 hown3 hgrow _
  have hB3 : Below w.heap.size w w3 := (hb1.alloc hs2 _).grown hgrow (by simp; omega) (fun g hg => (hown.lt g hg).1)
  obtain ⟨g, cap, rfl, hcap, hcm, hcell, hlast⟩ := head_row rfl hown3
  unfold maxLen at hcm
  have HR := Lib.hid (show RowV w3 (some ⟨g, 0, none⟩) z1.length z1 from ⟨rfl, hbits, fun _ => ⟨g, 0, rfl, fun i k c h => by rw [Nat.zero_add]; exact hcell i k c h⟩⟩)
  replace hcell := Lib.hid hcell
  have i1 : (0 : Int) ≤ (z1.length : Int) := by omega
  have i2 : (z1.length : Int) ≤ (cap : Int) := by omega
  clear hown hown3 hgrow hb1 hs2 hi hz0 hz1 hz2
  have RA := Lib.hid (fun w hv => rapply_any a0 A1 z1.length c1 z1 w hv s1)
  have AP := Lib.hid (fun w hv => apply_any a0 (some ⟨g, 0, none⟩) z1.length cap z1 w hv)
  generalize appP a0 z1 = r at *
  go_wp2_with fail
  refine (AP.out _ HR.out).mono ?_
  rintro e w4 ⟨rfl, hb4⟩
  have hB4 := below_more hB3 hb4
  have hlast4 := cell_later hb4 hlast
  have hc4 := Lib.hid (fun (i : Nat) (k : Int) (c : Nat) h => (⟨cell_later hb4 (hcell.out i k c h).1, cell_later hb4 (hcell.out i k c h).2⟩ : w4.cell? ⟨g, i * 2, none⟩ = some (.int .i64 k) ∧ w4.cell? ⟨g, i * 2 + 1, none⟩ = some (.int .u64 (c : Int))))
  clear hlast hcell HR AP hb4 hB3
  go_wp2_with fail
  have hx := below1 w4 (.cells #[.int .i64 r.1, .int .u64 (r.2 : Int)] 27)
  have hB5 := below_more hB4 hx
  have hlast5 := cell_later hx hlast4
  have hc5 := Lib.hid (fun (i : Nat) (k : Int) (c : Nat) h => (⟨cell_later hx (hc4.out i k c h).1, cell_later hx (hc4.out i k c h).2⟩ : (w4.alloc (.cells #[.int .i64 r.1, .int .u64 (r.2 : Int)] 27)).cell? ⟨g, i * 2, none⟩ = some (.int .i64 k) ∧ (w4.alloc (.cells #[.int .i64 r.1, .int .u64 (r.2 : Int)] 27)).cell? ⟨g, i * 2 + 1, none⟩ = some (.int .u64 (c : Int))))
  have q0 : (w4.alloc (.cells #[.int .i64 r.1, .int .u64 (r.2 : Int)] 27)).cell? ⟨w4.heap.size, 0, none⟩ = some (.int .i64 r.1) := by simp [go_sem]
  have q1 : (w4.alloc (.cells #[.int .i64 r.1, .int .u64 (r.2 : Int)] 27)).cell? ⟨w4.heap.size, 1, none⟩ = some (.int .u64 (r.2 : Int)) := by simp [go_sem]
  clear hx hB4 hlast4 hc4
  generalize w4.alloc (.cells #[.int .i64 r.1, .int .u64 (r.2 : Int)] 27) = u at *
  generalize w4.heap.size = g6 at *
  have Q := Lib.hid (And.intro q0 (And.intro q1 (And.intro hlast5 hB5)))
  clear q0 q1 hlast5 hB5
  go_loopw [22] (fun i wr => ∃ k : Nat, k ≤ z1.length ∧ i = .int .i64 (k : Int) ∧ Below u.heap.size u wr) (fun i _ => z1.length - (intOf i).toNat)
  case atStart => exact ⟨0, Nat.zero_le _, rfl, Below.refl _ _⟩
  case round =>
    obtain ⟨k, hk, rfl, hB⟩ := hrel
    by_cases hlt : k < z1.length
    · obtain ⟨b, off, rfl, hcw⟩ := HW.out.2.2 (by omega)
      have hvk : z1[k]? = some ((z1[k]).1, (z1[k]).2) := by rw [List.getElem?_eq_getElem hlt]
      obtain ⟨r0, r1⟩ := hcw k _ _ hvk
      have r0 := cell_later hB (cell_later (Q.out).2.2.2 r0)
      have r1 := cell_later hB (cell_later (Q.out).2.2.2 r1)
      have t0 := cell_later hB (hc5.out k _ _ hvk).1
      have t1 := cell_later hB (hc5.out k _ _ hvk).2
      generalize z1[k].1 = x at *
      generalize z1[k].2 = c at *
      clear hcw hvk hbits
      have k0 : (0 : Int) ≤ (k : Int) := by omega
      have k1 : (k : Int) < (z1.length : Int) := by omega
      go_wp2_with fail
      go_region_held3 (fun w' => w'.cell? ⟨g, k * 2, none⟩ = some (.int .i64 x) ∧ w'.cell? ⟨g, k * 2 + 1, none⟩ = some (.int .u64 (c : Int)) ∧ w'.cell? ⟨wr.heap.size, 0, none⟩ = some (.int .i64 x) ∧ w'.cell? ⟨wr.heap.size, 1, none⟩ = some (.int .u64 (c : Int)) ∧ Below u.heap.size u w') (first | exact ⟨cell_later (below1 _ _).drew t0, cell_later (below1 _ _).drew t1, by simp, by simp, (hB.alloc hB.size _).drew⟩ | go_keep | exact keepA hb1 (by first | assumption | exact ⟨by assumption, by assumption, by assumption, by assumption, by assumption⟩)) (first | (go_at_call 12; refine (of_any _ _ _).mono ?_; rintro e w1 ⟨rfl, hb1⟩))
      rename_i hHeld
      have hB6 : Below u.heap.size u w1 := hHeld.2.2.2.2
      clear hHeld hb1 r0 r1 t0 t1
      go_wp2
      go_roundw
      case rel => exact ⟨k + 1, by omega, by go_num, hB6⟩
      case measure => simp [intOf]; omega
    · obtain rfl : k = z1.length := by omega
      obtain ⟨q0, q1, hlast, hB5⟩ := Q.out
      have q0 := cell_later hB q0
      have q1 := cell_later hB q1
      have hlast := cell_later hB hlast
      have hB5 := below_more hB5 hB
      clear Q hB hbits hc5
      have j1 : (0 : Int) ≤ (z1.length : Int) + 1 := by omega
      have j2 : (z1.length : Int) + 1 ≤ (cap : Int) := by omega
      have j3 : (z1.length : Int) < (z1.length : Int) + 1 := by omega
      go_wp2_with fail
      refine (awake_any _).mono ?_; rintro e v1 ⟨rfl, hb1⟩
      have q0 := cell_later hb1 q0
      have q1 := cell_later hb1 q1
      have hlast := cell_later hb1 hlast
      have hB5 := below_more hB5 hb1
      clear hb1
      go_wp2_with fail
      refine (of_any _ _ _).mono ?_; rintro e v2 ⟨rfl, hb1⟩
      have hlast := cell_later hb1 hlast
      have hB5 := below_more hB5 hb1
      clear hb1 q0 q1
      go_wp2_with fail
      refine (RA.out _ (HW.out.later hB5)).mono ?_; rintro e v3 ⟨rfl, hb1⟩
      have hlast := cell_later hb1 hlast
      have hB5 := below_more hB5 hb1
      clear hb1
      go_wp2
      go_ret
      exact ⟨rfl, hB5⟩

set_option maxRecDepth 100000 in
theorem lifted (os : Os) (started : os.Started) (H : Type) (enc : TypeId × Value → H) :
    ReturnsInHanded {} Try.checked os 3 .any (Rows.valueAppliesSpec.pre6 enc Try.prog Try.f3 Rows.valueAppliesRow.domain false) (Rows.valueAppliesSpec.post enc Try.prog Try.f3 false true false false) := by
  refine returnsInHanded_of_change_sized (C := Try.checked) own started (by kernel_rfl) Try.func3
    (ChangeSpec.witness6 (enc := enc) (C := Try.checked) false ⟨#[], #[.int .i64 0, .slice none 0 0], []⟩ 8 (by kernel_rfl) (by kernel_rfl) (by kernel_rfl) (by kernel_rfl)) ?_
  intro W base args ds gs before hval0 hW hcnd hsz0 _
  have hsz : (DataW.weightsEach Try.prog (Try.f3.params.toList ++ Rows.valueAppliesSpec.plain.varTypes Try.prog) (ds ++ gs)).all (· ≤ reachBytes) = true := hsz0
  clear hsz0
  have hval : ∀ (j : Nat) t v, Try.f3.params[j]? = some t → args[j]? = some v → Value.okWide Try.prog W .any base t v := hval0
  have hW' := hW
  obtain ⟨p, q, hA0, hV, rfl, hfz, hnd⟩ := hW
  have hA : DataW.TrodAll enc Try.prog W 0 (fun _ => true) true Try.f3.params.toList args.toList ds p := hA0
  rw [Try.params3] at hA hval hsz
  obtain ⟨v0, vs0, d0, ds0, p0, q0, hargs, rfl, rfl, h0, r0⟩ := trodAll_cons hA
  obtain ⟨v1, vs1, d1, ds1, p1, q1, rfl, rfl, rfl, h1, r1⟩ := trodAll_cons r0
  obtain ⟨rfl, rfl, rfl⟩ := trodAll_nil r1
  obtain rfl : args = #[v0, v1] := by cases args; simp_all
  obtain ⟨rfl, rfl⟩ := trodVars_none hV
  have kk0 := h0
  have lt0 : ∀ x ∈ p0, x.block < W.heap.size := by obtain ⟨m, hm⟩ := kk0; exact DataW.trod_lt m _ _ _ hm
  have kk1 := h1
  have lt1 : ∀ x ∈ p1, x.block < W.heap.size := by obtain ⟨m, hm⟩ := kk1; exact DataW.trod_lt m _ _ _ hm
  obtain ⟨a0, rfl, rfl, rfl, w0⟩ := open_int Try.underlying3 (hval 0 3 v0 rfl rfl) h0
  obtain ⟨A1, n1, c1, rfl⟩ := okWide_slice Try.underlying22 (hval 1 22 v1 rfl rfl)
  obtain ⟨z1, w1, s1⟩ : ∃ zs, RowV W A1 n1 zs ∧ n1 * 16 ≤ 140737488351232 := by
    obtain ⟨fuel, hf⟩ := h1
    rcases Go.Deep.open_slice_pairs Try.underlying22 Try.underlying29 (by kernel_rfl) rfl rfl (by kernel_rfl) (by kernel_rfl) hf with ⟨hcs, _⟩ | ⟨x, l, c, m, nn, V0, V1, D0, D1, P0, P1, hcs, _, hl, hm, hmm, hx, hcell⟩
    · simp [Value.cells] at hcs
      obtain ⟨rfl, rfl, rfl⟩ := hcs
      exact ⟨[], ⟨rfl, by simp, fun h => absurd h (by decide)⟩, by decide⟩
    · simp [Value.cells] at hcs
      obtain ⟨rfl, rfl, rfl⟩ := hcs
      simp only [Prod.mk.injEq] at hx
      obtain ⟨rfl, rfl⟩ := hx
      have hb := sized_slice hsz (j := 1) (t := 22) (e := 29) rfl rfl Try.underlying22
      rw [bytes16_29] at hb
      simp only [List.length_map, List.length_range, reachBytes] at hb
      have lm : n1 ≤ m := by rw [hmm]; split <;> omega
      obtain ⟨z, hz⟩ := row_of_pairs (w := W) (a := x) lm (fun i hi => ⟨(hcell i hi).1, (hcell i hi).2.1⟩) (fun i hi => by
        obtain ⟨_, _, g0, g1⟩ := hcell i hi
        obtain ⟨a, e0, _, wa⟩ := DataW.trod_int Try.underlying3 g0
        obtain ⟨b, e1, _, wb⟩ := DataW.trod_int Try.underlying25 g1
        simp at e0 e1
        obtain ⟨n, rfl, hn⟩ := nat_of_wf wb
        exact ⟨(a, n), e0, e1, hn⟩)
      exact ⟨z, hz, by omega⟩
  clear hA0 hval0
  refine (walk W a0 w0 A1 n1 c1 z1 w1 s1).mono fun e W' ⟨he, bel⟩ => ?_
  subst he
  exact ⟨_, rfl, _, _, _, [], _, [], hW', trodAll_mk1 (shut_bool Try.underlying4 _), (trodAll_cons_mk (Below.trod laidOut (by kernel_rfl) (of_decide_eq_true (by kernel_rfl)) kk0 bel lt0) (trodAll_cons_mk (Below.trod laidOut (by kernel_rfl) (of_decide_eq_true (by kernel_rfl)) kk1 bel lt1) trodAll_mk0)), rfl, bel.frame _, fun h => by cases h⟩

theorem over : Rows.valueAppliesRow.holds Try.pinned (OpenSpec.ofChange Rows.valueAppliesSpec) :=
  OpenClaim.holds_of_wide 3 Try.f3 rfl rfl rfl rfl rfl rfl rfl ⟨rfl, rfl, rfl, rfl, rfl⟩ rfl rfl rfl rfl rfl (by kernel_rfl) Try.func3 (by kernel_rfl)
    (of_decide_eq_true (by kernel_rfl)) (by unfold Func.isWrapper; first | (rw [if_pos (by decide +kernel)]; kernel_rfl) | (rw [if_neg (by decide +kernel)]; exact ⟨rfl, rfl⟩))
    (fun os started H enc _ => lifted os started H enc)

/-- the statement -/
theorem proved : Rows.ValueAppliesSaid :=
  over
#print axioms proved
end Go.Proofs.Ytpjlocmohcjpfaa.valueApplies
