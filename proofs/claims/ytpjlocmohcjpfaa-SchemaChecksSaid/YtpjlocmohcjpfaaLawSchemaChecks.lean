/- SchemaChecks: what is wrong with a schema: the program tells as the document does. -/
import Derived.Test.YtpjlocmohcjpfaaRows
import Derived.WalkKit
import Derived.ProofKit
import Derived.OpenShut
import Derived.ShutString
import Derived.ChangeOld
import Derived.Below
import Derived.Lib.SmallJoins
import Derived.SizedLaws
import Derived.Test.YtpjlocmohcjpfaaSchA
import Derived.Test.YtpjlocmohcjpfaaSchO
import Derived.Test.YtpjlocmohcjpfaaRCheck
import Derived.Test.YtpjlocmohcjpfaaInvG
namespace Go.Proofs.Ytpjlocmohcjpfaa.schemaChecks
open Go.ChangeShapes Go.WideShapes Go.ChangeAt Go.RowKit Go.Joins
set_option linter.unusedVariables false
set_option linter.unusedSimpArgs false

theorem own : ownKnob Try.prog.godebug = none := by kernel_rfl
theorem laidOut : laidOutB Try.prog = true := by kernel_rfl

def schW (t0 : List ST) (s0 : List ByteArray) : Value → World → Prop := fun v w => ∃ x1 x2, v = .agg #[x1, x2] ∧ TypesIn w x1 t0 ∧ SymsIn w x2 s0
theorem sch_mono (t0 : List ST) (s0 : List ByteArray) : G.MonoW (schW t0 s0) := by
  rintro v w w' ⟨x1, x2, e, h1, h2⟩ hb
  exact ⟨x1, x2, e, h1.later hb, h2.later hb⟩
theorem keep3 {w0 w w1 : World} {a0 a1 : Addr} {v0 v1 : Value} (hb : Below w.heap.size w w1)
    (h : w.cell? a0 = some v0 ∧ w.cell? a1 = some v1 ∧ Below w0.heap.size w0 w) :
    w1.cell? a0 = some v0 ∧ w1.cell? a1 = some v1 ∧ Below w0.heap.size w0 w1 := by
  obtain ⟨h0, h1, h2⟩ := h
  exact ⟨cell_later hb h0, cell_later hb h1, mmore h2 hb⟩
theorem check_some (ts : List ST) (ss : List ByteArray) : ∃ c : Int, CheckIs ts ss c := by
  unfold CheckIs
  by_cases h1 : LongP ts ss
  · exact ⟨2, .inl ⟨h1, rfl⟩⟩
  by_cases h2 : WellP ts ss
  · by_cases h3 : KindsP ts
    · exact ⟨0, .inr (.inr (.inr ⟨h1, h2, h3, rfl⟩))⟩
    · exact ⟨11, .inr (.inr (.inl ⟨h1, h2, h3, rfl⟩))⟩
  · exact ⟨10, .inr (.inl ⟨h1, h2, rfl⟩)⟩

set_option maxHeartbeats 4000000 in
theorem walk (w : World) (x0 y0 : Value) (t0 : List ST) (s0 : List ByteArray) (w0 : TypesIn w x0 t0) (u0 : SymsIn w y0 s0) (p0 : t0.length * 40 ≤ 140737488351232) (q0 : ∀ t ∈ t0, t.2.length * 24 ≤ 140737488351232) (r0 : s0.length * 16 ≤ 140737488351232) :
    Calls Try.prog 6 #[.agg #[x0, y0]] w fun e w' => e = .returned (.bool true) ∧ Below w.heap.size w w' := by
  obtain ⟨A, cap, rfl, hTA⟩ := w0.slice
  obtain ⟨B, capB, rfl, hS1, hS2, hSB⟩ := u0.slice2
  have HW := Lib.hid (And.intro w0 u0)
  have hb0 := m1 w (.cells #[.slice A t0.length cap, .slice B s0.length capB] 41)
  have c0 : (w.alloc (.cells #[.slice A t0.length cap, .slice B s0.length capB] 41)).cell? ⟨w.heap.size, 0, none⟩ = some (.slice A t0.length cap) := by simp [go_sem]
  have c1 : (w.alloc (.cells #[.slice A t0.length cap, .slice B s0.length capB] 41)).cell? ⟨w.heap.size, 1, none⟩ = some (.slice B s0.length capB) := by simp [go_sem]
  obtain ⟨cE, hcE⟩ := check_some t0 s0
  have HA := Lib.hid (And.intro hTA hSB)
  replace hcE := Lib.hid hcE
  replace p0 := Lib.hid p0
  replace q0 := Lib.hid q0
  replace r0 := Lib.hid r0
  replace hS1 := Lib.hid hS1
  replace hS2 := Lib.hid hS2
  clear hTA hSB w0 u0
  go_enter Try.func6, Try.ntmps6
  go_upto_region 1 with (fail)
  have base := keep3 (w0 := w) (Below.refl _ _).drew ⟨c0, c1, hb0⟩
  clear hb0 c0 c1
  generalize w.alloc (.cells #[.slice A t0.length cap, .slice B s0.length capB] 41) = v at *
  have KD := G.keepsD_true []
  refine G.region_words (fun w' => w'.cell? ⟨w.heap.size, 0, none⟩ = some (.slice A t0.length cap) ∧ w'.cell? ⟨w.heap.size, 1, none⟩ = some (.slice B s0.length capB) ∧ Below w.heap.size w w') [G.isW (.bool true), G.isW (.bool true), G.isW (.agg #[.slice A t0.length cap, .slice B s0.length capB]), schW t0 s0, G.isW (.int .i64 cE), G.isW (.agg #[.slice A t0.length cap, .slice B s0.length capB]), G.isW (.int .i64 cE), G.isW (.bool true), G.isW (.bool true), G.isW (.bool true)] (by kernel_rfl) (by repeat' (first | exact G.monoL_nil | exact G.is_mono _ | exact sch_mono _ _ | exact G.any_mono | refine G.monoL_cons ?_ ?_)) (by kernel_rfl) (by kernel_rfl) (fun _ _ h hb => keep3 hb h) base ?_ ?_
  · intro KC
    refine G.stepsL_cons (fun a u hc hdd hd hk hdep => ?_) ?_
    ·
      refine G.step_call KC KD hc hdd rfl 15 #[] (G.wanted_plain rfl) (by go_simp) ?_
      exact (sawake_any u).mono (by rintro e w' ⟨rfl, hb⟩; exact ⟨_, rfl, rfl, hb⟩)
    refine G.stepsL_cons (fun a u hc hdd hd hk hdep => ?_) ?_
    ·
      have d3 : (a.tmps[3]?).getD undef = (.bool true) := hdep ⟨0, .data⟩ (by simp) rfl
      refine G.step_val KC KD hc hdd rfl (.bool true) u (G.wanted_plain rfl) ?_ rfl (Below.refl _ _)
      first | (go_simp; done) | rfl
    refine G.stepsL_cons (fun a u hc hdd hd hk hdep => ?_) ?_
    ·
      have d1 : (a.tmps[1]?).getD undef = (.pointer (some ⟨w.heap.size, 0, none⟩)) := hk 1 (by kernel_rfl)
      refine G.step_val KC KD hc hdd rfl (.agg #[.slice A t0.length cap, .slice B s0.length capB]) u ((G.wanted_guard (j := 1) (b := true) (c := true) rfl (hdep ⟨1, .guard⟩ (by simp) rfl)).trans rfl) ?_ rfl (Below.refl _ _)
      obtain ⟨s0, s1, s2⟩ := hc
      go_simp
    refine G.stepsL_cons (fun a u hc hdd hd hk hdep => ?_) ?_
    ·
      have d5 : (a.tmps[5]?).getD undef = (.agg #[.slice A t0.length cap, .slice B s0.length capB]) := hdep ⟨2, .data⟩ (by simp) rfl
      refine G.step_call KC KD hc hdd rfl 22 #[.agg #[.slice A t0.length cap, .slice B s0.length capB]] ((G.wanted_guard (j := 1) (b := true) (c := true) rfl (hdep ⟨1, .guard⟩ (by simp) rfl)).trans rfl) (by go_simp) ?_
      obtain ⟨z0, z1, z2⟩ := hc
      exact (sto_any _ _ t0 s0 u (HW.out.1.later z2) (HW.out.2.later z2) p0.out q0.out r0.out).mono (by rintro e w' ⟨x1, x2, rfl, h1, h2, hb⟩; exact ⟨_, rfl, ⟨x1, x2, rfl, h1, h2⟩, hb⟩)
    refine G.stepsL_cons (fun a u hc hdd hd hk hdep => ?_) ?_
    ·
      obtain ⟨x1, x2, d6, hx1, hx2⟩ : schW t0 s0 ((a.tmps[6]?).getD undef) u := hdep ⟨3, .data⟩ (by simp) rfl
      obtain ⟨A2, cap2, rfl, hTA2⟩ := hx1.slice
      obtain ⟨B2, capB2, rfl, hS21, hS22, hSB2⟩ := hx2.slice2
      refine G.step_call KC KD hc hdd rfl 21 #[.agg #[.slice A2 t0.length cap2, .slice B2 s0.length capB2]] ((G.wanted_guard (j := 1) (b := true) (c := true) rfl (hdep ⟨1, .guard⟩ (by simp) rfl)).trans rfl) (by go_simp) ?_
      exact (check_any A2 B2 cap2 capB2 t0 s0 u hTA2 hSB2 p0.out q0.out hS21 hS22).mono (by rintro e w' ⟨c, rfl, hcc, hb⟩; obtain rfl := check_one hcc hcE.out; exact ⟨_, rfl, rfl, hb⟩)
    refine G.stepsL_cons (fun a u hc hdd hd hk hdep => ?_) ?_
    ·
      have d1 : (a.tmps[1]?).getD undef = (.pointer (some ⟨w.heap.size, 0, none⟩)) := hk 1 (by kernel_rfl)
      refine G.step_val KC KD hc hdd rfl (.agg #[.slice A t0.length cap, .slice B s0.length capB]) u ((G.wanted_guard (j := 1) (b := true) (c := true) rfl (hdep ⟨1, .guard⟩ (by simp) rfl)).trans rfl) ?_ rfl (Below.refl _ _)
      obtain ⟨s0, s1, s2⟩ := hc
      go_simp
    refine G.stepsL_cons (fun a u hc hdd hd hk hdep => ?_) ?_
    ·
      have d8 : (a.tmps[8]?).getD undef = (.agg #[.slice A t0.length cap, .slice B s0.length capB]) := hdep ⟨5, .data⟩ (by simp) rfl
      refine G.step_call KC KD hc hdd rfl 23 #[.agg #[.slice A t0.length cap, .slice B s0.length capB]] ((G.wanted_guard (j := 1) (b := true) (c := true) rfl (hdep ⟨1, .guard⟩ (by simp) rfl)).trans rfl) (by go_simp) ?_
      obtain ⟨z0, z1, z2⟩ := hc
      exact (rcheck_any A B cap capB t0 s0 u (HA.out.1.later z2) (HA.out.2.later z2) p0.out q0.out hS1.out hS2.out).mono (by rintro e w' ⟨c, rfl, hcc, hb⟩; obtain rfl := check_one hcc hcE.out; exact ⟨_, rfl, rfl, hb⟩)
    refine G.stepsL_cons (fun a u hc hdd hd hk hdep => ?_) ?_
    ·
      have d7 : (a.tmps[7]?).getD undef = (.int .i64 cE) := hdep ⟨4, .data⟩ (by simp) rfl
      have d9 : (a.tmps[9]?).getD undef = (.int .i64 cE) := hdep ⟨6, .data⟩ (by simp) rfl
      refine G.step_val KC KD hc hdd rfl (.bool true) u ((G.wanted_guard (j := 1) (b := true) (c := true) rfl (hdep ⟨1, .guard⟩ (by simp) rfl)).trans rfl) ?_ rfl (Below.refl _ _)
      go_simp
    refine G.stepsL_cons (fun a u hc hdd hd hk hdep => ?_) ?_
    ·
      have d4 : (a.tmps[4]?).getD undef = (.bool true) := hdep ⟨1, .data⟩ (by simp) rfl
      have d10 : (a.tmps[10]?).getD undef = (.bool true) := hdep ⟨7, .data⟩ (by simp) rfl
      refine G.step_val KC KD hc hdd rfl (.bool true) u (G.wanted_plain rfl) ?_ rfl (Below.refl _ _)
      first | (go_simp; done) | rfl
    refine G.stepsL_cons (fun a u hc hdd hd hk hdep => ?_) ?_
    ·
      have d11 : (a.tmps[11]?).getD undef = (.bool true) := hdep ⟨8, .data⟩ (by simp) rfl
      refine G.step_val KC KD hc hdd rfl (.bool true) u (G.wanted_plain rfl) ?_ rfl (Below.refl _ _)
      first | (go_simp; done) | rfl
    exact G.stepsL_nil
  intro vs wN hN hh
  obtain ⟨e0, e1, e2, e3, e4, e5, e6, e7, e8, e9, -⟩ := hh
  have eL : vs 9 = (.bool true) := e9
  clear e0 e1 e2 e3 e4 e5 e6 e7 e8 e9
  set_option maxRecDepth 100000 in simp only [putAll, Act.put, List.setIfInBounds_toArray, List.set_cons_zero, List.set_cons_succ, eL]
  obtain ⟨_, _, hB⟩ := hN
  go_wp2
  go_ret
  exact ⟨rfl, hB⟩

set_option maxRecDepth 100000 in
theorem lifted (os : Os) (started : os.Started) (H : Type) (enc : TypeId × Value → H) :
    ReturnsInHanded {} Try.checked os 6 .any (Rows.schemaChecksSpec.pre6 enc Try.prog Try.f6 Rows.schemaChecksRow.domain false) (Rows.schemaChecksSpec.post enc Try.prog Try.f6 false true false false) := by
  refine returnsInHanded_of_change_sized (C := Try.checked) own started (by kernel_rfl) Try.func6
    (ChangeSpec.witness6 (enc := enc) (C := Try.checked) false ⟨#[], #[.agg #[.slice none 0 0, .slice none 0 0]], []⟩ 8 (by kernel_rfl) (by kernel_rfl) (by kernel_rfl) (by kernel_rfl)) ?_
  intro W base args ds gs before hval0 hW hcnd hsz0 _
  have hsz : (DataW.weightsEach Try.prog (Try.f6.params.toList ++ Rows.schemaChecksSpec.plain.varTypes Try.prog) (ds ++ gs)).all (· ≤ reachBytes) = true := hsz0
  clear hsz0
  have hval : ∀ (j : Nat) t v, Try.f6.params[j]? = some t → args[j]? = some v → Value.okWide Try.prog W .any base t v := hval0
  have hW' := hW
  obtain ⟨p, q, hA0, hV, rfl, hfz, hnd⟩ := hW
  have hA : DataW.TrodAll enc Try.prog W 0 (fun _ => true) true Try.f6.params.toList args.toList ds p := hA0
  rw [Try.params6] at hA hval hsz
  obtain ⟨v0, vs0, d0, ds0, p0, q0, hargs, rfl, rfl, h0, r0⟩ := trodAll_cons hA
  obtain ⟨rfl, rfl, rfl⟩ := trodAll_nil r0
  obtain rfl : args = #[v0] := by cases args; simp_all
  obtain ⟨rfl, rfl⟩ := trodVars_none hV
  have kk0 := h0
  have lt0 : ∀ x ∈ p0, x.block < W.heap.size := by obtain ⟨m, hm⟩ := kk0; exact DataW.trod_lt m _ _ _ hm
  obtain ⟨x0, y0, t0, s0, rfl, w0, u0, pp0, qq0, rr0⟩ := open_schema (hval 0 41 v0 rfl rfl) h0 (wb_each hsz (j := 0) (t := 41) rfl rfl)
  clear hA0 hval0
  refine (walk W x0 y0 t0 s0 w0 u0 pp0 qq0 rr0).mono fun e W' ⟨he, bel⟩ => ?_
  subst he
  exact ⟨_, rfl, _, _, _, [], _, [], hW', trodAll_mk1 (shut_bool Try.underlying4 _), (trodAll_cons_mk (Below.trod laidOut (by kernel_rfl) (of_decide_eq_true (by kernel_rfl)) kk0 bel lt0) trodAll_mk0), rfl, bel.frame _, fun h => by cases h⟩

theorem over : Rows.schemaChecksRow.holds Try.pinned (OpenSpec.ofChange Rows.schemaChecksSpec) :=
  OpenClaim.holds_of_wide 6 Try.f6 rfl rfl rfl rfl rfl rfl rfl ⟨rfl, rfl, rfl, rfl, rfl⟩ rfl rfl rfl rfl rfl (by kernel_rfl) Try.func6 (by kernel_rfl)
    (of_decide_eq_true (by kernel_rfl)) (by unfold Func.isWrapper; first | (rw [if_pos (by decide +kernel)]; kernel_rfl) | (rw [if_neg (by decide +kernel)]; exact ⟨rfl, rfl⟩))
    (fun os started H enc _ => lifted os started H enc)

/-- the statement -/
theorem proved : Rows.SchemaChecksSaid :=
  over
#print axioms proved
end Go.Proofs.Ytpjlocmohcjpfaa.schemaChecks
