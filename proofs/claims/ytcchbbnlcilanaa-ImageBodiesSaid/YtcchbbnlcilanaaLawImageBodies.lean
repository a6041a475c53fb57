/- ImageBodies: likewise of any bytes (of at most 70000) behind the first four, with their right sum. -/
import Derived.Test.YtcchbbnlcilanaaRows
import Derived.WalkKit
import Derived.ProofKit
import Derived.OpenShut
import Derived.ShutString
import Derived.ChangeOld
import Derived.Below
import Derived.Lib.SmallJoins
import Derived.SizedLaws
import Derived.Test.YtcchbbnlcilanaaDcH
import Derived.Test.YtcchbbnlcilanaaWb
namespace Go.Proofs.Ytcchbbnlcilanaa.imageBodies
open Go.ChangeShapes Go.WideShapes Go.ChangeAt Go.RowKit Go.Joins
set_option linter.unusedVariables false
set_option linter.unusedSimpArgs false

theorem own : ownKnob Try.prog.godebug = none := by kernel_rfl
theorem laidOut : laidOutB Try.prog = true := by kernel_rfl

theorem ausp_byt : Byt ausp := by intro z hz; simp [ausp] at hz; rcases hz with rfl | rfl | rfl | rfl <;> omega
theorem byt_append {a b : List Nat} (ha : Byt a) (hb : Byt b) : Byt (a ++ b) := fun z hz => (List.mem_append.1 hz).elim (ha z) (hb z)
set_option maxHeartbeats 16000000 in
set_option maxRecDepth 100000 in
theorem walk (w : World) (A0 : Option Addr) (c0 : Nat) (z0 : List Nat) (w0 : Bys w A0 z0) (y0 : Byt z0) (u0 : z0.length ≤ c0) (x0 : c0 ≤ maxLen) (s0 : z0.length ≤ 140737488351232) :
    Calls Try.prog 5 #[.slice A0 z0.length c0] w fun e w' => e = .returned (.bool true) ∧ Below w.heap.size w w' := by
  have AW := Lib.hid (fun w => awake21 w)
  have hcv : (convert 31 31 (.slice (some ⟨w.heap.size, 0, none⟩) 4 4)).run Try.prog (w.alloc (.cells #[.int .u8 65, .int .u8 85, .int .u8 83, .int .u8 80] 5)) = .ok (.slice (some ⟨w.heap.size, 0, none⟩) 4 4) (w.alloc (.cells #[.int .u8 65, .int .u8 85, .int .u8 83, .int .u8 80] 5 (4, 5))) := Lib.run_convert_bytes_const (P := Try.prog) w 31 5 #[.int .u8 65, .int .u8 85, .int .u8 83, .int .u8 80] 4 4 Try.underlying31 Try.underlying5
  have hb1 := Lib.hid (m1 w (.cells #[.int .u8 65, .int .u8 85, .int .u8 83, .int .u8 80] 5 (4, 5)))
  have hl1 := Lib.hid (lit_bys w)
  have hz1 := Lib.hid (w0.later hb1.out)
  replace y0 := Lib.hid y0
  by_cases hbig : (z0.length : Int) > 70000
  · clear w0 hcv hb1 hl1 hz1 u0
    go_enter Try.func5, Try.ntmps5
    go_wp2_with fail
    refine (AW.out _).mono ?_; rintro e u1 ⟨rfl, hb2⟩
    replace hb2 := Lib.hid hb2
    go_wp2
    go_ret
    exact ⟨rfl, hb2.out⟩
  · have l1 : ausp.length + z0.length ≤ 140737488355328 := by rw [show ausp.length = 4 from rfl]; omega
    have hlt : ¬ (70000 : Int) < (z0.length : Int) := by omega
    clear w0 u0
    go_enter Try.func5, Try.ntmps5
    go_wp2_with (at_builtin; refine wpList_append_C rfl (.tmp 8) (.tmp 9) rfl rfl (bs := ausp) (news := z0) 4 z0.length rfl rfl rfl A0 c0 rfl hl1.out (by decide) hz1.out l1 ?_; intro A1 c1 w2 hc1 hy2 hb2; have hb3 := mmore hb1.out hb2; have CS := Lib.hid (summed_any A1 (ausp ++ z0) c1 (byt_append ausp_byt y0.out) w2 hy2 (by rw [List.length_append, show ausp.length = 4 from rfl]; omega)); replace hb3 := Lib.hid hb3; clear hb2 hy2 hc1)
    have CS0 := CS.out
    rw [List.length_append] at CS0
    refine CS0.mono ?_; rintro e w3 ⟨A3, c3, rfl, hO, hb4⟩
    have hby := byt_append (byt_append ausp_byt y0.out) (le4_byt (sumL (ausp ++ z0)))
    have hlen : (ausp ++ z0 ++ le4 (sumL (ausp ++ z0))).length = z0.length + 8 := by rw [List.length_append, List.length_append, show ausp.length = 4 from rfl, show (le4 (sumL (ausp ++ z0))).length = 4 from rfl]; omega
    clear CS CS0
    generalize ausp ++ z0 ++ le4 (sumL (ausp ++ z0)) = zz at *
    obtain ⟨_, hy3⟩ := Bys.of_own hO
    obtain ⟨_, _, hq, hc3, _⟩ := bslice_of hO
    injection hq with q1 q2 q3
    subst q3
    have DE := Lib.hid (idecodes_any A3 zz c3 w3 hby hy3 hc3 (by omega))
    have hB := Lib.hid (mmore hb3.out hb4)
    clear hO hy3 hc3 q1 q2 hb3 hb4 hcv hby AW hb1 hl1 hz1 hlen hlt l1
    generalize zz.length = m at *
    go_wp2_with fail
    refine DE.out.mono ?_; rintro e w5 ⟨rfl, hb5⟩
    have hBf := Lib.hid (mmore hB.out hb5)
    clear hb5 DE hB
    go_wp2
    go_ret
    exact ⟨rfl, hBf.out⟩

set_option maxRecDepth 100000 in
theorem lifted (os : Os) (started : os.Started) (H : Type) (enc : TypeId × Value → H) :
    ReturnsInHanded {} Try.checked os 5 .any (Rows.imageBodiesSpec.pre6 enc Try.prog Try.f5 Rows.imageBodiesRow.domain false) (Rows.imageBodiesSpec.post enc Try.prog Try.f5 false true false false) := by
  refine returnsInHanded_of_change_sized (C := Try.checked) own started (by kernel_rfl) Try.func5
    (ChangeSpec.witness6 (enc := enc) (C := Try.checked) false ⟨#[], #[.slice none 0 0], []⟩ 8 (by kernel_rfl) (by kernel_rfl) (by kernel_rfl) (by kernel_rfl)) ?_
  intro W base args ds gs before hval0 hW hcnd hsz0 _
  have hsz : (DataW.weightsEach Try.prog (Try.f5.params.toList ++ Rows.imageBodiesSpec.plain.varTypes Try.prog) (ds ++ gs)).all (· ≤ reachBytes) = true := hsz0
  clear hsz0
  have hval : ∀ (j : Nat) t v, Try.f5.params[j]? = some t → args[j]? = some v → Value.okWide Try.prog W .any base t v := hval0
  have hW' := hW
  obtain ⟨p, q, hA0, hV, rfl, hfz, hnd⟩ := hW
  have hA : DataW.TrodAll enc Try.prog W 0 (fun _ => true) true Try.f5.params.toList args.toList ds p := hA0
  rw [Try.params5] at hA hval hsz
  obtain ⟨v0, vs0, d0, ds0, p0, q0, hargs, rfl, rfl, h0, r0⟩ := trodAll_cons hA
  obtain ⟨rfl, rfl, rfl⟩ := trodAll_nil r0
  obtain rfl : args = #[v0] := by cases args; simp_all
  obtain ⟨rfl, rfl⟩ := trodVars_none hV
  have kk0 := h0
  have lt0 : ∀ x ∈ p0, x.block < W.heap.size := by obtain ⟨m, hm⟩ := kk0; exact DataW.trod_lt m _ _ _ hm
  obtain ⟨A0, c0, z0, rfl, w0, yy0, uu0, xx0, ss0⟩ := open_bytesT (hval 0 31 v0 rfl rfl) h0 (wb_each hsz (j := 0) (t := 31) rfl rfl)
  clear hA0 hval0
  refine (walk W A0 c0 z0 w0 yy0 uu0 xx0 ss0).mono fun e W' ⟨he, bel⟩ => ?_
  subst he
  exact ⟨_, rfl, _, _, _, [], _, [], hW', trodAll_mk1 (shut_bool Try.underlying4 _), (trodAll_cons_mk (Below.trod laidOut (by kernel_rfl) (of_decide_eq_true (by kernel_rfl)) kk0 bel lt0) trodAll_mk0), rfl, bel.frame _, fun h => by cases h⟩

theorem over : Rows.imageBodiesRow.holds Try.pinned (OpenSpec.ofChange Rows.imageBodiesSpec) :=
  OpenClaim.holds_of_wide 5 Try.f5 rfl rfl rfl rfl rfl rfl rfl ⟨rfl, rfl, rfl, rfl, rfl⟩ rfl rfl rfl rfl rfl (by kernel_rfl) Try.func5 (by kernel_rfl)
    (of_decide_eq_true (by kernel_rfl)) (by unfold Func.isWrapper; first | (rw [if_pos (by decide +kernel)]; kernel_rfl) | (rw [if_neg (by decide +kernel)]; exact ⟨rfl, rfl⟩))
    (fun os started H enc _ => lifted os started H enc)

/-- the statement -/
theorem proved : Rows.ImageBodiesSaid :=
  over
#print axioms proved
end Go.Proofs.Ytcchbbnlcilanaa.imageBodies
