/- ImageBack: what is read has just the bytes that were read. -/
import Derived.Test.YtdjjjglbjpmfdaaRows
import Derived.WalkKit
import Derived.ProofKit
import Derived.OpenShut
import Derived.ShutString
import Derived.ChangeOld
import Derived.Below
import Derived.Lib.SmallJoins
import Derived.SizedLaws
import Derived.Test.YtdjjjglbjpmfdaaImJ
import Derived.Test.YtdjjjglbjpmfdaaWrO
import Derived.Test.YtdjjjglbjpmfdaaWb
import Derived.Deep.CutRange
import Derived.Deep.DeepCutAuto
import Derived.StillTailTactics
namespace Go.Proofs.Ytdjjjglbjpmfdaa.imageBack
open Go.ChangeShapes Go.WideShapes Go.ChangeAt Go.RowKit Go.Joins
set_option linter.unusedVariables false
set_option linter.unusedSimpArgs false

theorem own : ownKnob Try.prog.godebug = none := by kernel_rfl
theorem laidOut : laidOutB Try.prog = true := by kernel_rfl

theorem ausp_byt : Byt ausp := by intro z hz; simp [ausp] at hz; rcases hz with rfl | rfl | rfl | rfl <;> omega
theorem byt_append {a b : List Nat} (ha : Byt a) (hb : Byt b) : Byt (a ++ b) := fun z hz => (List.mem_append.1 hz).elim (ha z) (hb z)
set_option maxHeartbeats 16000000 in
set_option maxRecDepth 100000 in
theorem walk (w : World) (A0 : Option Addr) (c0 : Nat) (z0 : List Nat) (w0 : Bys w A0 z0) (y0 : Byt z0) (u0 : z0.length ≤ c0) (x0 : c0 ≤ maxLen) (s0 : z0.length ≤ 140737488351232) (a1 : Bool) :
    Calls Try.prog 6 #[.slice A0 z0.length c0, .bool a1] w fun e w' => e = .returned (.bool true) ∧ Below w.heap.size w w' := by
  have AW := Lib.hid (fun w => awake21 w)
  have hcv : (convert 31 31 (.slice (some ⟨w.heap.size, 0, none⟩) 4 4)).run Try.prog (w.alloc (.cells #[.int .u8 65, .int .u8 85, .int .u8 83, .int .u8 80] 5)) = .ok (.slice (some ⟨w.heap.size, 0, none⟩) 4 4) (w.alloc (.cells #[.int .u8 65, .int .u8 85, .int .u8 83, .int .u8 80] 5 (4, 5))) := Lib.run_convert_bytes_const (P := Try.prog) w 31 5 #[.int .u8 65, .int .u8 85, .int .u8 83, .int .u8 80] 4 4 Try.underlying31 Try.underlying5
  replace hcv := Lib.hid hcv
  have hb1 := Lib.hid (m1 w (.cells #[.int .u8 65, .int .u8 85, .int .u8 83, .int .u8 80] 5 (4, 5)))
  have hl1 := Lib.hid (lit_bys w)
  have hz1 := Lib.hid (w0.later hb1.out)
  replace w0 := Lib.hid w0
  replace y0 := Lib.hid y0
  replace u0 := Lib.hid u0
  go_enter Try.func6, Try.ntmps6
  go_upto_region 1 with (fail)
  go_cut [14] from 9 to 14 (fun p w' => p = .bool (a1 && decide ((z0.length : Int) < 70000)) ∧ w = w')
  case first =>
    cases a1 with
    | false =>
      go_wp2
      go_meet
      exact ⟨rfl, rfl⟩
    | true =>
      by_cases hlt : (z0.length : Int) < 70000
      · have e := Lib.hid (decide_eq_true hlt)
        go_wp2
        go_meet
        exact ⟨by rw [e.out]; rfl, rfl⟩
      · have e := Lib.hid (decide_eq_false hlt)
        go_wp2
        go_meet
        exact ⟨by rw [e.out]; rfl, rfl⟩
  case rest =>
  obtain ⟨rfl, rfl⟩ := hcut
  have hq : (a1 && decide ((z0.length : Int) < 70000)) = true → (z0.length : Int) < 70000 := fun h => by simp at h; exact h.2
  replace hq := Lib.hid hq
  generalize (a1 && decide ((z0.length : Int) < 70000)) = q at *
  go_upto_if 14 with (fail)
  go_cut [0] from 15 to 19 (fun p w' => ∃ A l c, p = .slice A l.length c ∧ Byt l ∧ Bys w' A l ∧ l.length ≤ c ∧ l.length ≤ 140737488355000 ∧ Below w.heap.size w w')
  case first =>
    have hsame : ∃ A l c, Value.slice A0 z0.length c0 = .slice A l.length c ∧ Byt l ∧ Bys w A l ∧ l.length ≤ c ∧ l.length ≤ 140737488355000 ∧ Below w.heap.size w w := ⟨A0, z0, c0, rfl, y0.out, w0.out, u0.out, by omega, Below.refl _ _⟩
    replace hsame := Lib.hid hsame
    cases q with
    | false =>
      go_wp2
      go_meet
      exact hsame.out
    | true =>
      have hlt := hq.out rfl
      have hcv := hcv.out
      have l1 : ausp.length + z0.length ≤ 140737488355328 := by rw [show ausp.length = 4 from rfl]; omega
      go_wp2_with (at_builtin; refine wpList_append_C rfl (.tmp 16) (.tmp 17) rfl rfl (bs := ausp) (news := z0) 4 z0.length rfl rfl rfl A0 c0 rfl hl1.out (by decide) hz1.out l1 ?_; intro A1 c1 w2 hc1 hy2 hb2; have hb3 := mmore hb1.out hb2; have CS := Lib.hid (summed_any A1 (ausp ++ z0) c1 (byt_append ausp_byt y0.out) w2 hy2 (by rw [List.length_append, show ausp.length = 4 from rfl]; omega)); replace hb3 := Lib.hid hb3; clear hb2 hy2 hc1)
      have CS0 := CS.out
      rw [List.length_append] at CS0
      refine CS0.mono ?_; rintro e w3 ⟨A3, c3, rfl, hO, hb4⟩
      have hby := byt_append (byt_append ausp_byt y0.out) (le4_byt (sumL (ausp ++ z0)))
      have hlen : (ausp ++ z0 ++ le4 (sumL (ausp ++ z0))).length = z0.length + 8 := by rw [List.length_append, List.length_append, show ausp.length = 4 from rfl, show (le4 (sumL (ausp ++ z0))).length = 4 from rfl]; omega
      clear CS CS0
      generalize ausp ++ z0 ++ le4 (sumL (ausp ++ z0)) = zz at *
      obtain ⟨_, hy3⟩ := Bys.of_own hO
      obtain ⟨_, _, hq, hc3, _⟩ := bslice_of hO
      injection hq with q1 q2 q3
      subst q3
      have hfin : ∃ A l c, Value.slice A3 zz.length c3 = .slice A l.length c ∧ Byt l ∧ Bys w3 A l ∧ l.length ≤ c ∧ l.length ≤ 140737488355000 ∧ Below w.heap.size w w3 := ⟨A3, zz, c3, rfl, hby, hy3, hc3, by omega, mmore hb3.out hb4⟩
      replace hfin := Lib.hid hfin
      clear hO hy3 hc3 q1 q2 hb3 hb4 hcv hlen hby
      generalize zz.length = m at *
      go_wp2
      go_meet
      exact hfin.out
  case rest =>
    obtain ⟨A, l, c, rfl, hy, hm, hc, hl, hB⟩ := hcut
    rename_i wc
    have D := Lib.hid (decode_any A l c wc hy hm hc hl)
    have hlater := Lib.hid (fun u (hb : Below wc.heap.size wc u) => conv_str (n := l.length) (c := c) rfl (hm.later hb))
    clear hcv hb1 hl1 hz1 w0 y0 u0
    have dc := decP_cases l
    have db := fun x => decP_back (x := x) hy
    clear hm
    replace hy := Lib.hid hy
    replace hB := Lib.hid hB
    replace dc := Lib.hid dc
    replace db := Lib.hid db
    go_wp2_with fail
    refine D.out.mono ?_; rintro e w2 ⟨hb2, tv, rfl, ht⟩
    rcases dc.out with ⟨k, hk, hk0, _⟩ | ⟨x, hx, _⟩
    · rw [hk] at ht ⊢
      subst ht
      have hk1 : (k == 0) = false := by simpa using hk0
      have hk2 : (k != 0) = true := by simpa using hk0
      have hB2 := mmore hB.out (mmore hb2 (m1 w2 (.cells zCells 27)))
      replace hB2 := Lib.hid hB2
      clear hb2 hk D dc db hlater
      unfold zT
      go_wp2_with fail
      refine (AW.out _).mono ?_; rintro e w3 ⟨rfl, hb3⟩
      replace hb3 := Lib.hid (mmore hB2.out hb3)
      go_wp2_with fail
      refine (AW.out _).mono ?_; rintro e w4 ⟨rfl, hb4⟩
      replace hb4 := Lib.hid (mmore hb3.out hb4)
      go_wp2
      go_ret
      exact ⟨rfl, hb4.out⟩
    · rw [hx] at ht ⊢
      obtain ⟨vs, hvl, hE, rfl⟩ := ht
      obtain ⟨hen, hok, hwf⟩ := db.out x hx
      obtain ⟨z0, A1, n1, c1, A2, n2, c2, z3, z4, z5, A6, n6, c6, A7, n7, c7, rfl⟩ := eTable_form hE
      have hb3 := mmore hb2 (m1 w2 (.cells #[.int .i64 z0, .slice A1 n1 c1, .slice A2 n2 c2, .int .i64 z3, .int .i64 z4, .int .i64 z5, .slice A6 n6 c6, .slice A7 n7 c7] 27))
      have hm2 := m1 w2 (.cells #[.int .i64 z0, .slice A1 n1 c1, .slice A2 n2 c2, .int .i64 z3, .int .i64 z4, .int .i64 z5, .slice A6 n6 c6, .slice A7 n7 c7] 27)
      have EN := fun u (hb : Below w2.heap.size w2 u) => encode_any x z0 A1 n1 c1 A2 n2 c2 z3 z4 z5 A6 n6 c6 A7 n7 c7 u (lies_again hE hb hok) hwf
      have hblk := Blk.made w2 27 #[.int .i64 z0, .slice A1 n1 c1, .slice A2 n2 c2, .int .i64 z3, .int .i64 z4, .int .i64 z5, .slice A6 n6 c6, .slice A7 n7 c7]
      replace hblk := Lib.hid hblk
      replace EN := Lib.hid EN
      replace hb3 := Lib.hid hb3
      replace hm2 := Lib.hid hm2
      replace hen := Lib.hid hen
      clear hx hE hvl hok hwf hb2 D dc db
      go_wp2_with fail
      refine (AW.out _).mono ?_; rintro e w3 ⟨rfl, hb4⟩
      have hblk3 := hblk.out.kept hb4
      have hb5 := Lib.hid (mmore hb3.out hb4)
      have hm3 := Lib.hid (mmore hm2.out hb4)
      have t0 : w3.cell? ⟨w2.heap.size, 0, none⟩ = some (.int .i64 z0) := hblk3.cell 0
      have t1 : w3.cell? ⟨w2.heap.size, 1, none⟩ = some (.slice A1 n1 c1) := hblk3.cell 1
      have t2 : w3.cell? ⟨w2.heap.size, 2, none⟩ = some (.slice A2 n2 c2) := hblk3.cell 2
      have t3 : w3.cell? ⟨w2.heap.size, 3, none⟩ = some (.int .i64 z3) := hblk3.cell 3
      have t4 : w3.cell? ⟨w2.heap.size, 4, none⟩ = some (.int .i64 z4) := hblk3.cell 4
      have t5 : w3.cell? ⟨w2.heap.size, 5, none⟩ = some (.int .i64 z5) := hblk3.cell 5
      have t6 : w3.cell? ⟨w2.heap.size, 6, none⟩ = some (.slice A6 n6 c6) := hblk3.cell 6
      have t7 : w3.cell? ⟨w2.heap.size, 7, none⟩ = some (.slice A7 n7 c7) := hblk3.cell 7
      clear hblk hblk3 hb3 hm2 hb4
      go_wp2_with fail
      refine (EN.out _ hm3.out).mono ?_; rintro e w4 ⟨hb6, v, rfl, hv⟩
      rw [hen.out] at hv ⊢
      obtain ⟨A4, c4, rfl, hO⟩ := hv
      have q1 := conv_str (n := l.length) (c := c4) rfl (Bys.of_own hO).2
      have hb7 := mmore hb5.out hb6
      have q2 := hlater.out _ hb7
      have hB7 := Lib.hid (mmore hB.out hb7)
      clear hO hb6 hb7 hb5 hm3 EN hlater hen
      generalize strOf l = s at *
      generalize l.length = n at *
      go_wp2
      go_ret
      exact ⟨by simp, hB7.out⟩

set_option maxRecDepth 100000 in
theorem lifted (os : Os) (started : os.Started) (H : Type) (enc : TypeId × Value → H) :
    ReturnsInHanded {} Try.checked os 6 .any (Rows.imageBackSpec.pre6 enc Try.prog Try.f6 Rows.imageBackRow.domain false) (Rows.imageBackSpec.post enc Try.prog Try.f6 false true false false) := by
  refine returnsInHanded_of_change_sized (C := Try.checked) own started (by kernel_rfl) Try.func6
    (ChangeSpec.witness6 (enc := enc) (C := Try.checked) false ⟨#[], #[.slice none 0 0, .bool false], []⟩ 8 (by kernel_rfl) (by kernel_rfl) (by kernel_rfl) (by kernel_rfl)) ?_
  intro W base args ds gs before hval0 hW hcnd hsz0 _
  have hsz : (DataW.weightsEach Try.prog (Try.f6.params.toList ++ Rows.imageBackSpec.plain.varTypes Try.prog) (ds ++ gs)).all (· ≤ reachBytes) = true := hsz0
  clear hsz0
  have hval : ∀ (j : Nat) t v, Try.f6.params[j]? = some t → args[j]? = some v → Value.okWide Try.prog W .any base t v := hval0
  have hW' := hW
  obtain ⟨p, q, hA0, hV, rfl, hfz, hnd⟩ := hW
  have hA : DataW.TrodAll enc Try.prog W 0 (fun _ => true) true Try.f6.params.toList args.toList ds p := hA0
  rw [Try.params6] at hA hval hsz
  obtain ⟨v0, vs0, d0, ds0, p0, q0, hargs, rfl, rfl, h0, r0⟩ := trodAll_cons hA
  obtain ⟨v1, vs1, d1, ds1, p1, q1, rfl, rfl, rfl, h1, r1⟩ := trodAll_cons r0
  obtain ⟨rfl, rfl, rfl⟩ := trodAll_nil r1
  obtain rfl : args = #[v0, v1] := by cases args; simp_all
  obtain ⟨rfl, rfl⟩ := trodVars_none hV
  have kk0 := h0
  have lt0 : ∀ x ∈ p0, x.block < W.heap.size := by obtain ⟨m, hm⟩ := kk0; exact DataW.trod_lt m _ _ _ hm
  have kk1 := h1
  have lt1 : ∀ x ∈ p1, x.block < W.heap.size := by obtain ⟨m, hm⟩ := kk1; exact DataW.trod_lt m _ _ _ hm
  obtain ⟨A0, c0, z0, rfl, w0, yy0, uu0, xx0, ss0⟩ := open_bytesT (hval 0 31 v0 rfl rfl) h0 (wb_each hsz (j := 0) (t := 31) rfl rfl)
  obtain ⟨a1, rfl, rfl, rfl⟩ := open_bool Try.underlying4 (hval 1 4 v1 rfl rfl) h1
  clear hA0 hval0
  refine (walk W A0 c0 z0 w0 yy0 uu0 xx0 ss0 a1).mono fun e W' ⟨he, bel⟩ => ?_
  subst he
  exact ⟨_, rfl, _, _, _, [], _, [], hW', trodAll_mk1 (shut_bool Try.underlying4 _), (trodAll_cons_mk (Below.trod laidOut (by kernel_rfl) (of_decide_eq_true (by kernel_rfl)) kk0 bel lt0) (trodAll_cons_mk (Below.trod laidOut (by kernel_rfl) (of_decide_eq_true (by kernel_rfl)) kk1 bel lt1) trodAll_mk0)), rfl, bel.frame _, fun h => by cases h⟩

theorem over : Rows.imageBackRow.holds Try.pinned (OpenSpec.ofChange Rows.imageBackSpec) :=
  OpenClaim.holds_of_wide 6 Try.f6 rfl rfl rfl rfl rfl rfl rfl ⟨rfl, rfl, rfl, rfl, rfl⟩ rfl rfl rfl rfl rfl (by kernel_rfl) Try.func6 (by kernel_rfl)
    (of_decide_eq_true (by kernel_rfl)) (by unfold Func.isWrapper; first | (rw [if_pos (by decide +kernel)]; kernel_rfl) | (rw [if_neg (by decide +kernel)]; exact ⟨rfl, rfl⟩))
    (fun os started H enc _ => lifted os started H enc)

/-- the statement -/
theorem proved : Rows.ImageBackSaid :=
  over
#print axioms proved
end Go.Proofs.Ytdjjjglbjpmfdaa.imageBack
