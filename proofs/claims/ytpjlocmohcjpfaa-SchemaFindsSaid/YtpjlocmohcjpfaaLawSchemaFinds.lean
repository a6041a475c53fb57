/- SchemaFinds: the places of types, attributes and symbols, in any schema: the program tells as the document does. -/
import Derived.Test.YtpjlocmohcjpfaaRows
import Derived.WalkKit
import Derived.ProofKit
import Derived.OpenShut
import Derived.ShutString
import Derived.ChangeOld
import Derived.Below
import Derived.Lib.SmallJoins
import Derived.SizedLaws
import Derived.Test.YtpjlocmohcjpfaaSchA
import Derived.Test.YtpjlocmohcjpfaaSchO
import Derived.Test.YtpjlocmohcjpfaaSchR
import Derived.Test.YtpjlocmohcjpfaaInvG
namespace Go.Proofs.Ytpjlocmohcjpfaa.schemaFinds
open Go.ChangeShapes Go.WideShapes Go.ChangeAt Go.RowKit Go.Joins
set_option linter.unusedVariables false
set_option linter.unusedSimpArgs false

theorem own : ownKnob Try.prog.godebug = none := by kernel_rfl
theorem laidOut : laidOutB Try.prog = true := by kernel_rfl

theorem keep9 {w0 w w1 : World} {a0 a1 a2 a3 : Addr} {v0 v1 v2 v3 : Value} {A B A2 B2 : Option Addr} {ts : List ST} {ss : List ByteArray} (hb : Below w.heap.size w w1)
    (h : w.cell? a0 = some v0 ∧ w.cell? a1 = some v1 ∧ w.cell? a2 = some v2 ∧ w.cell? a3 = some v3 ∧ TypesAt w A ts ∧ SymsAt w B ss ∧ TypesAt w A2 ts ∧ SymsAt w B2 ss ∧ Below w0.heap.size w0 w) :
    w1.cell? a0 = some v0 ∧ w1.cell? a1 = some v1 ∧ w1.cell? a2 = some v2 ∧ w1.cell? a3 = some v3 ∧ TypesAt w1 A ts ∧ SymsAt w1 B ss ∧ TypesAt w1 A2 ts ∧ SymsAt w1 B2 ss ∧ Below w0.heap.size w0 w1 := by
  obtain ⟨h0, h1, h2, h3, h4, h5, h6, h7, h8⟩ := h
  exact ⟨cell_later hb h0, cell_later hb h1, cell_later hb h2, cell_later hb h3, h4.later hb, h5.later hb, h6.later hb, h7.later hb, mmore h8 hb⟩

set_option maxHeartbeats 4000000 in
theorem walk (w : World) (x0 y0 : Value) (t0 : List ST) (s0 : List ByteArray) (w0 : TypesIn w x0 t0) (u0 : SymsIn w y0 s0) (p0 : t0.length * 40 ≤ 140737488351232) (q0 : ∀ t ∈ t0, t.2.length * 24 ≤ 140737488351232) (r0 : s0.length * 16 ≤ 140737488351232) (s1 : ByteArray) (w1 : s1.size ≤ maxLen) (a2 : Int) (w2 : (Lit.int .i64 a2).wf = true) :
    Calls Try.prog 7 #[.agg #[x0, y0], .string s1, .int .i64 a2] w fun e w' => e = .returned (.bool true) ∧ Below w.heap.size w w' := by
  have hn : t0.length ≤ 9223372036854775807 := by omega
  have hs : s0.length ≤ 9223372036854775807 := by omega
  have hf : ∀ x ∈ t0, x.2.length ≤ 9223372036854775807 := fun x hx => by have := q0 x hx; omega
  obtain ⟨A, cap, rfl, hTA⟩ := w0.slice
  obtain ⟨B, capB, rfl, hSB⟩ := u0.slice
  have HW := Lib.hid (And.intro w0 u0)
  have hb0 := m1 w (.cells #[.slice A t0.length cap, .slice B s0.length capB] 41)
  have hTA1 := Lib.hid (hTA.later hb0)
  have hSB1 := Lib.hid (hSB.later hb0)
  have c0 : (w.alloc (.cells #[.slice A t0.length cap, .slice B s0.length capB] 41)).cell? ⟨w.heap.size, 0, none⟩ = some (.slice A t0.length cap) := by simp [go_sem]
  have c1 : (w.alloc (.cells #[.slice A t0.length cap, .slice B s0.length capB] 41)).cell? ⟨w.heap.size, 1, none⟩ = some (.slice B s0.length capB) := by simp [go_sem]
  replace p0 := Lib.hid p0
  replace q0 := Lib.hid q0
  replace r0 := Lib.hid r0
  clear hTA hSB w0 u0 w2 w1
  go_enter Try.func7, Try.ntmps7
  go_wp2_with fail
  generalize w.alloc (.cells #[.slice A t0.length cap, .slice B s0.length capB] 41) = v at *
  refine (sto_any _ _ t0 s0 v (HW.out.1.later hb0) (HW.out.2.later hb0) p0.out q0.out r0.out).mono ?_; rintro e w2 ⟨x1, x2, rfl, hT2, hS2, hb2⟩
  obtain ⟨A2, cap2, rfl, hTA2⟩ := hT2.slice
  obtain ⟨B2, capB2, rfl, hSB2⟩ := hS2.slice
  have hb3 := m1 w2 (.cells #[.slice A2 t0.length cap2, .slice B2 s0.length capB2] 46)
  have hb23 := mmore hb2 hb3
  have d0 := cell_later hb23 c0
  have d1 := cell_later hb23 c1
  have d2 : (w2.alloc (.cells #[.slice A2 t0.length cap2, .slice B2 s0.length capB2] 46)).cell? ⟨w2.heap.size, 0, none⟩ = some (.slice A2 t0.length cap2) := by simp [go_sem]
  have d3 : (w2.alloc (.cells #[.slice A2 t0.length cap2, .slice B2 s0.length capB2] 46)).cell? ⟨w2.heap.size, 1, none⟩ = some (.slice B2 s0.length capB2) := by simp [go_sem]
  have base := keep9 (Below.refl _ _).drew (And.intro d0 (And.intro d1 (And.intro d2 (And.intro d3 (And.intro (hTA1.out.later hb23) (And.intro (hSB1.out.later hb23) (And.intro (hTA2.later hb3) (And.intro (hSB2.later hb3) (mmore hb0 hb23)))))))))
  clear hT2 hS2 hTA2 hSB2 hTA1 hSB1 hb2 hb3 hb23 d0 d1 d2 d3 c0 c1 hb0 HW
  go_wp2_with fail
  generalize w2.alloc (.cells #[.slice A2 t0.length cap2, .slice B2 s0.length capB2] 46) = z at *
  generalize w2.heap.size = g7 at *
  have KD := G.keepsD_true []
  refine G.region_words (fun w' => w'.cell? ⟨w.heap.size, 0, none⟩ = some (.slice A t0.length cap) ∧ w'.cell? ⟨w.heap.size, 1, none⟩ = some (.slice B s0.length capB) ∧ w'.cell? ⟨g7, 0, none⟩ = some (.slice A2 t0.length cap2) ∧ w'.cell? ⟨g7, 1, none⟩ = some (.slice B2 s0.length capB2) ∧ TypesAt w' A t0 ∧ SymsAt w' B s0 ∧ TypesAt w' A2 t0 ∧ SymsAt w' B2 s0 ∧ Below w.heap.size w w') [G.isW (.bool true), G.isW (.bool true), G.isW (.agg #[.slice A2 t0.length cap2, .slice B2 s0.length capB2]), G.isW (.string s1), G.isW (.int .i64 (typeOf t0 s1)), G.isW (.agg #[.slice A t0.length cap, .slice B s0.length capB]), G.isW (.string s1), G.isW (.int .i64 (typeOf t0 s1)), G.isW (.bool true), G.isW (.bool true), G.isW (.bool true), G.isW (.agg #[.slice A2 t0.length cap2, .slice B2 s0.length capB2]), G.isW (.int .i64 (a2)), G.isW (.string s1), G.isW (.int .i64 (attrOf t0 a2 s1)), G.isW (.agg #[.slice A t0.length cap, .slice B s0.length capB]), G.isW (.int .i64 (a2)), G.isW (.string s1), G.isW (.int .i64 (attrOf t0 a2 s1)), G.isW (.bool true), G.isW (.bool true), G.isW (.bool true), G.isW (.agg #[.slice A2 t0.length cap2, .slice B2 s0.length capB2]), G.isW (.string s1), G.isW (.int .i64 (textOf s0 s1)), G.isW (.pointer (some ⟨w.heap.size, 1, none⟩)), G.isW (.slice B s0.length capB), G.isW (.string s1), G.isW (.int .i64 (textOf s0 s1)), G.isW (.bool true), G.isW (.bool true), G.isW (.bool true)] (by kernel_rfl) (by repeat' (first | exact G.monoL_nil | exact G.is_mono _ | exact G.any_mono | refine G.monoL_cons ?_ ?_)) (by kernel_rfl) (by kernel_rfl) (fun _ _ h hb => keep9 hb h) base ?_ ?_
  · intro KC
    refine G.stepsL_cons (fun a u hc hdd hd hk hdep => ?_) ?_
    ·
      refine G.step_call KC KD hc hdd rfl 15 #[] (G.wanted_plain rfl) (by go_simp) ?_
      exact (sawake_any u).mono (by rintro e w' ⟨rfl, hb⟩; exact ⟨_, rfl, rfl, hb⟩)
    refine G.stepsL_cons (fun a u hc hdd hd hk hdep => ?_) ?_
    ·
      have d10 : (a.tmps[10]?).getD undef = (.bool true) := hdep ⟨0, .data⟩ (by simp) rfl
      refine G.step_val KC KD hc hdd rfl (.bool true) u (G.wanted_plain rfl) ?_ rfl (Below.refl _ _)
      first | (go_simp; done) | rfl
    refine G.stepsL_cons (fun a u hc hdd hd hk hdep => ?_) ?_
    ·
      have d7 : (a.tmps[7]?).getD undef = (.pointer (some ⟨g7, 0, none⟩)) := hk 7 (by kernel_rfl)
      refine G.step_val KC KD hc hdd rfl (.agg #[.slice A2 t0.length cap2, .slice B2 s0.length capB2]) u ((G.wanted_guard (j := 1) (b := true) (c := true) rfl (hdep ⟨1, .guard⟩ (by simp) rfl)).trans rfl) ?_ rfl (Below.refl _ _)
      obtain ⟨s0, s1, s2, s3, s4, s5, s6, s7, s8⟩ := hc
      go_simp
    refine G.stepsL_cons (fun a u hc hdd hd hk hdep => ?_) ?_
    ·
      have d1 : (a.tmps[1]?).getD undef = (.string s1) := hk 1 (by kernel_rfl)
      refine G.step_val KC KD hc hdd rfl (.string s1) u ((G.wanted_guard (j := 1) (b := true) (c := true) rfl (hdep ⟨1, .guard⟩ (by simp) rfl)).trans rfl) ?_ rfl (Below.refl _ _)
      first | (go_simp; done) | rfl
    refine G.stepsL_cons (fun a u hc hdd hd hk hdep => ?_) ?_
    ·
      have d12 : (a.tmps[12]?).getD undef = (.agg #[.slice A2 t0.length cap2, .slice B2 s0.length capB2]) := hdep ⟨2, .data⟩ (by simp) rfl
      have d13 : (a.tmps[13]?).getD undef = (.string s1) := hdep ⟨3, .data⟩ (by simp) rfl
      refine G.step_call KC KD hc hdd rfl 24 #[.agg #[.slice A2 t0.length cap2, .slice B2 s0.length capB2], .string s1] ((G.wanted_guard (j := 1) (b := true) (c := true) rfl (hdep ⟨1, .chain⟩ (by simp) rfl)).trans rfl) (by go_simp) ?_
      obtain ⟨z0, z1, z2, z3, z4, z5, z6, z7, z8⟩ := hc
      exact (type_any A2 cap2 _ t0 s1 u z6 hn).mono (by rintro e w' ⟨rfl, hb⟩; exact ⟨_, rfl, rfl, hb⟩)
    refine G.stepsL_cons (fun a u hc hdd hd hk hdep => ?_) ?_
    ·
      have d3 : (a.tmps[3]?).getD undef = (.pointer (some ⟨w.heap.size, 0, none⟩)) := hk 3 (by kernel_rfl)
      refine G.step_val KC KD hc hdd rfl (.agg #[.slice A t0.length cap, .slice B s0.length capB]) u ((G.wanted_guard (j := 1) (b := true) (c := true) rfl (hdep ⟨1, .guard⟩ (by simp) rfl)).trans rfl) ?_ rfl (Below.refl _ _)
      obtain ⟨s0, s1, s2, s3, s4, s5, s6, s7, s8⟩ := hc
      go_simp
    refine G.stepsL_cons (fun a u hc hdd hd hk hdep => ?_) ?_
    ·
      have d1 : (a.tmps[1]?).getD undef = (.string s1) := hk 1 (by kernel_rfl)
      refine G.step_val KC KD hc hdd rfl (.string s1) u ((G.wanted_guard (j := 1) (b := true) (c := true) rfl (hdep ⟨1, .guard⟩ (by simp) rfl)).trans rfl) ?_ rfl (Below.refl _ _)
      first | (go_simp; done) | rfl
    refine G.stepsL_cons (fun a u hc hdd hd hk hdep => ?_) ?_
    ·
      have d15 : (a.tmps[15]?).getD undef = (.agg #[.slice A t0.length cap, .slice B s0.length capB]) := hdep ⟨5, .data⟩ (by simp) rfl
      have d16 : (a.tmps[16]?).getD undef = (.string s1) := hdep ⟨6, .data⟩ (by simp) rfl
      refine G.step_call KC KD hc hdd rfl 25 #[.agg #[.slice A t0.length cap, .slice B s0.length capB], .string s1] ((G.wanted_guard (j := 1) (b := true) (c := true) rfl (hdep ⟨1, .guard⟩ (by simp) rfl)).trans rfl) (by go_simp) ?_
      obtain ⟨z0, z1, z2, z3, z4, z5, z6, z7, z8⟩ := hc
      exact (rtypeat_any A cap _ t0 s1 u z4 hn).mono (by rintro e w' ⟨rfl, hb⟩; exact ⟨_, rfl, rfl, hb⟩)
    refine G.stepsL_cons (fun a u hc hdd hd hk hdep => ?_) ?_
    ·
      have d14 : (a.tmps[14]?).getD undef = (.int .i64 (typeOf t0 s1)) := hdep ⟨4, .data⟩ (by simp) rfl
      have d17 : (a.tmps[17]?).getD undef = (.int .i64 (typeOf t0 s1)) := hdep ⟨7, .data⟩ (by simp) rfl
      refine G.step_val KC KD hc hdd rfl (.bool true) u ((G.wanted_guard (j := 1) (b := true) (c := true) rfl (hdep ⟨1, .guard⟩ (by simp) rfl)).trans rfl) ?_ rfl (Below.refl _ _)
      go_simp
    refine G.stepsL_cons (fun a u hc hdd hd hk hdep => ?_) ?_
    ·
      have d11 : (a.tmps[11]?).getD undef = (.bool true) := hdep ⟨1, .data⟩ (by simp) rfl
      have d18 : (a.tmps[18]?).getD undef = (.bool true) := hdep ⟨8, .data⟩ (by simp) rfl
      refine G.step_val KC KD hc hdd rfl (.bool true) u (G.wanted_plain rfl) ?_ rfl (Below.refl _ _)
      first | (go_simp; done) | rfl
    refine G.stepsL_cons (fun a u hc hdd hd hk hdep => ?_) ?_
    ·
      have d19 : (a.tmps[19]?).getD undef = (.bool true) := hdep ⟨9, .data⟩ (by simp) rfl
      refine G.step_val KC KD hc hdd rfl (.bool true) u (G.wanted_plain rfl) ?_ rfl (Below.refl _ _)
      first | (go_simp; done) | rfl
    refine G.stepsL_cons (fun a u hc hdd hd hk hdep => ?_) ?_
    ·
      have d7 : (a.tmps[7]?).getD undef = (.pointer (some ⟨g7, 0, none⟩)) := hk 7 (by kernel_rfl)
      refine G.step_val KC KD hc hdd rfl (.agg #[.slice A2 t0.length cap2, .slice B2 s0.length capB2]) u ((G.wanted_guard (j := 10) (b := true) (c := true) rfl (hdep ⟨10, .guard⟩ (by simp) rfl)).trans rfl) ?_ rfl (Below.refl _ _)
      obtain ⟨s0, s1, s2, s3, s4, s5, s6, s7, s8⟩ := hc
      go_simp
    refine G.stepsL_cons (fun a u hc hdd hd hk hdep => ?_) ?_
    ·
      have d2 : (a.tmps[2]?).getD undef = (.int .i64 (a2)) := hk 2 (by kernel_rfl)
      refine G.step_val KC KD hc hdd rfl (.int .i64 (a2)) u ((G.wanted_guard (j := 10) (b := true) (c := true) rfl (hdep ⟨10, .guard⟩ (by simp) rfl)).trans rfl) ?_ rfl (Below.refl _ _)
      first | (go_simp; done) | rfl
    refine G.stepsL_cons (fun a u hc hdd hd hk hdep => ?_) ?_
    ·
      have d1 : (a.tmps[1]?).getD undef = (.string s1) := hk 1 (by kernel_rfl)
      refine G.step_val KC KD hc hdd rfl (.string s1) u ((G.wanted_guard (j := 10) (b := true) (c := true) rfl (hdep ⟨10, .guard⟩ (by simp) rfl)).trans rfl) ?_ rfl (Below.refl _ _)
      first | (go_simp; done) | rfl
    refine G.stepsL_cons (fun a u hc hdd hd hk hdep => ?_) ?_
    ·
      have d21 : (a.tmps[21]?).getD undef = (.agg #[.slice A2 t0.length cap2, .slice B2 s0.length capB2]) := hdep ⟨11, .data⟩ (by simp) rfl
      have d22 : (a.tmps[22]?).getD undef = (.int .i64 (a2)) := hdep ⟨12, .data⟩ (by simp) rfl
      have d23 : (a.tmps[23]?).getD undef = (.string s1) := hdep ⟨13, .data⟩ (by simp) rfl
      refine G.step_call KC KD hc hdd rfl 26 #[.agg #[.slice A2 t0.length cap2, .slice B2 s0.length capB2], .int .i64 a2, .string s1] ((G.wanted_guard (j := 10) (b := true) (c := true) rfl (hdep ⟨10, .chain⟩ (by simp) rfl)).trans rfl) (by go_simp) ?_
      obtain ⟨z0, z1, z2, z3, z4, z5, z6, z7, z8⟩ := hc
      exact (attr_any A2 cap2 _ t0 a2 s1 u z6 hn hf).mono (by rintro e w' ⟨rfl, hb⟩; exact ⟨_, rfl, rfl, hb⟩)
    refine G.stepsL_cons (fun a u hc hdd hd hk hdep => ?_) ?_
    ·
      have d3 : (a.tmps[3]?).getD undef = (.pointer (some ⟨w.heap.size, 0, none⟩)) := hk 3 (by kernel_rfl)
      refine G.step_val KC KD hc hdd rfl (.agg #[.slice A t0.length cap, .slice B s0.length capB]) u ((G.wanted_guard (j := 10) (b := true) (c := true) rfl (hdep ⟨10, .guard⟩ (by simp) rfl)).trans rfl) ?_ rfl (Below.refl _ _)
      obtain ⟨s0, s1, s2, s3, s4, s5, s6, s7, s8⟩ := hc
      go_simp
    refine G.stepsL_cons (fun a u hc hdd hd hk hdep => ?_) ?_
    ·
      have d2 : (a.tmps[2]?).getD undef = (.int .i64 (a2)) := hk 2 (by kernel_rfl)
      refine G.step_val KC KD hc hdd rfl (.int .i64 (a2)) u ((G.wanted_guard (j := 10) (b := true) (c := true) rfl (hdep ⟨10, .guard⟩ (by simp) rfl)).trans rfl) ?_ rfl (Below.refl _ _)
      first | (go_simp; done) | rfl
    refine G.stepsL_cons (fun a u hc hdd hd hk hdep => ?_) ?_
    ·
      have d1 : (a.tmps[1]?).getD undef = (.string s1) := hk 1 (by kernel_rfl)
      refine G.step_val KC KD hc hdd rfl (.string s1) u ((G.wanted_guard (j := 10) (b := true) (c := true) rfl (hdep ⟨10, .guard⟩ (by simp) rfl)).trans rfl) ?_ rfl (Below.refl _ _)
      first | (go_simp; done) | rfl
    refine G.stepsL_cons (fun a u hc hdd hd hk hdep => ?_) ?_
    ·
      have d25 : (a.tmps[25]?).getD undef = (.agg #[.slice A t0.length cap, .slice B s0.length capB]) := hdep ⟨15, .data⟩ (by simp) rfl
      have d26 : (a.tmps[26]?).getD undef = (.int .i64 (a2)) := hdep ⟨16, .data⟩ (by simp) rfl
      have d27 : (a.tmps[27]?).getD undef = (.string s1) := hdep ⟨17, .data⟩ (by simp) rfl
      refine G.step_call KC KD hc hdd rfl 27 #[.agg #[.slice A t0.length cap, .slice B s0.length capB], .int .i64 a2, .string s1] ((G.wanted_guard (j := 10) (b := true) (c := true) rfl (hdep ⟨10, .guard⟩ (by simp) rfl)).trans rfl) (by go_simp) ?_
      obtain ⟨z0, z1, z2, z3, z4, z5, z6, z7, z8⟩ := hc
      exact (rattrat_any A cap _ t0 a2 s1 u z4 hn hf).mono (by rintro e w' ⟨rfl, hb⟩; exact ⟨_, rfl, rfl, hb⟩)
    refine G.stepsL_cons (fun a u hc hdd hd hk hdep => ?_) ?_
    ·
      have d24 : (a.tmps[24]?).getD undef = (.int .i64 (attrOf t0 a2 s1)) := hdep ⟨14, .data⟩ (by simp) rfl
      have d28 : (a.tmps[28]?).getD undef = (.int .i64 (attrOf t0 a2 s1)) := hdep ⟨18, .data⟩ (by simp) rfl
      refine G.step_val KC KD hc hdd rfl (.bool true) u ((G.wanted_guard (j := 10) (b := true) (c := true) rfl (hdep ⟨10, .guard⟩ (by simp) rfl)).trans rfl) ?_ rfl (Below.refl _ _)
      go_simp
    refine G.stepsL_cons (fun a u hc hdd hd hk hdep => ?_) ?_
    ·
      have d20 : (a.tmps[20]?).getD undef = (.bool true) := hdep ⟨10, .data⟩ (by simp) rfl
      have d29 : (a.tmps[29]?).getD undef = (.bool true) := hdep ⟨19, .data⟩ (by simp) rfl
      refine G.step_val KC KD hc hdd rfl (.bool true) u (G.wanted_plain rfl) ?_ rfl (Below.refl _ _)
      first | (go_simp; done) | rfl
    refine G.stepsL_cons (fun a u hc hdd hd hk hdep => ?_) ?_
    ·
      have d30 : (a.tmps[30]?).getD undef = (.bool true) := hdep ⟨20, .data⟩ (by simp) rfl
      refine G.step_val KC KD hc hdd rfl (.bool true) u (G.wanted_plain rfl) ?_ rfl (Below.refl _ _)
      first | (go_simp; done) | rfl
    refine G.stepsL_cons (fun a u hc hdd hd hk hdep => ?_) ?_
    ·
      have d7 : (a.tmps[7]?).getD undef = (.pointer (some ⟨g7, 0, none⟩)) := hk 7 (by kernel_rfl)
      refine G.step_val KC KD hc hdd rfl (.agg #[.slice A2 t0.length cap2, .slice B2 s0.length capB2]) u ((G.wanted_guard (j := 21) (b := true) (c := true) rfl (hdep ⟨21, .guard⟩ (by simp) rfl)).trans rfl) ?_ rfl (Below.refl _ _)
      obtain ⟨s0, s1, s2, s3, s4, s5, s6, s7, s8⟩ := hc
      go_simp
    refine G.stepsL_cons (fun a u hc hdd hd hk hdep => ?_) ?_
    ·
      have d1 : (a.tmps[1]?).getD undef = (.string s1) := hk 1 (by kernel_rfl)
      refine G.step_val KC KD hc hdd rfl (.string s1) u ((G.wanted_guard (j := 21) (b := true) (c := true) rfl (hdep ⟨21, .guard⟩ (by simp) rfl)).trans rfl) ?_ rfl (Below.refl _ _)
      first | (go_simp; done) | rfl
    refine G.stepsL_cons (fun a u hc hdd hd hk hdep => ?_) ?_
    ·
      have d32 : (a.tmps[32]?).getD undef = (.agg #[.slice A2 t0.length cap2, .slice B2 s0.length capB2]) := hdep ⟨22, .data⟩ (by simp) rfl
      have d33 : (a.tmps[33]?).getD undef = (.string s1) := hdep ⟨23, .data⟩ (by simp) rfl
      refine G.step_call KC KD hc hdd rfl 28 #[.agg #[.slice A2 t0.length cap2, .slice B2 s0.length capB2], .string s1] ((G.wanted_guard (j := 21) (b := true) (c := true) rfl (hdep ⟨21, .chain⟩ (by simp) rfl)).trans rfl) (by go_simp) ?_
      obtain ⟨z0, z1, z2, z3, z4, z5, z6, z7, z8⟩ := hc
      exact (sym_any B2 capB2 _ s0 s1 u z7 hs).mono (by rintro e w' ⟨rfl, hb⟩; exact ⟨_, rfl, rfl, hb⟩)
    refine G.stepsL_cons (fun a u hc hdd hd hk hdep => ?_) ?_
    ·
      have d3 : (a.tmps[3]?).getD undef = (.pointer (some ⟨w.heap.size, 0, none⟩)) := hk 3 (by kernel_rfl)
      refine G.step_val KC KD hc hdd rfl (.pointer (some ⟨w.heap.size, 1, none⟩)) u ((G.wanted_guard (j := 21) (b := true) (c := true) rfl (hdep ⟨21, .guard⟩ (by simp) rfl)).trans rfl) ?_ rfl (Below.refl _ _)
      go_simp
    refine G.stepsL_cons (fun a u hc hdd hd hk hdep => ?_) ?_
    ·
      have d35 : (a.tmps[35]?).getD undef = (.pointer (some ⟨w.heap.size, 1, none⟩)) := hdep ⟨25, .data⟩ (by simp) rfl
      refine G.step_val KC KD hc hdd rfl (.slice B s0.length capB) u ((G.wanted_guard (j := 21) (b := true) (c := true) rfl (hdep ⟨21, .guard⟩ (by simp) rfl)).trans rfl) ?_ rfl (Below.refl _ _)
      obtain ⟨s0, s1, s2, s3, s4, s5, s6, s7, s8⟩ := hc
      go_simp
    refine G.stepsL_cons (fun a u hc hdd hd hk hdep => ?_) ?_
    ·
      have d1 : (a.tmps[1]?).getD undef = (.string s1) := hk 1 (by kernel_rfl)
      refine G.step_val KC KD hc hdd rfl (.string s1) u ((G.wanted_guard (j := 21) (b := true) (c := true) rfl (hdep ⟨21, .guard⟩ (by simp) rfl)).trans rfl) ?_ rfl (Below.refl _ _)
      first | (go_simp; done) | rfl
    refine G.stepsL_cons (fun a u hc hdd hd hk hdep => ?_) ?_
    ·
      have d36 : (a.tmps[36]?).getD undef = (.slice B s0.length capB) := hdep ⟨26, .data⟩ (by simp) rfl
      have d37 : (a.tmps[37]?).getD undef = (.string s1) := hdep ⟨27, .data⟩ (by simp) rfl
      refine G.step_call KC KD hc hdd rfl 29 #[.slice B s0.length capB, .string s1] ((G.wanted_guard (j := 21) (b := true) (c := true) rfl (hdep ⟨21, .guard⟩ (by simp) rfl)).trans rfl) (by go_simp) ?_
      obtain ⟨z0, z1, z2, z3, z4, z5, z6, z7, z8⟩ := hc
      exact (rat_any B capB s0 s1 u z5 hs).mono (by rintro e w' ⟨rfl, hb⟩; exact ⟨_, rfl, rfl, hb⟩)
    refine G.stepsL_cons (fun a u hc hdd hd hk hdep => ?_) ?_
    ·
      have d34 : (a.tmps[34]?).getD undef = (.int .i64 (textOf s0 s1)) := hdep ⟨24, .data⟩ (by simp) rfl
      have d38 : (a.tmps[38]?).getD undef = (.int .i64 (textOf s0 s1)) := hdep ⟨28, .data⟩ (by simp) rfl
      refine G.step_val KC KD hc hdd rfl (.bool true) u ((G.wanted_guard (j := 21) (b := true) (c := true) rfl (hdep ⟨21, .guard⟩ (by simp) rfl)).trans rfl) ?_ rfl (Below.refl _ _)
      go_simp
    refine G.stepsL_cons (fun a u hc hdd hd hk hdep => ?_) ?_
    ·
      have d31 : (a.tmps[31]?).getD undef = (.bool true) := hdep ⟨21, .data⟩ (by simp) rfl
      have d39 : (a.tmps[39]?).getD undef = (.bool true) := hdep ⟨29, .data⟩ (by simp) rfl
      refine G.step_val KC KD hc hdd rfl (.bool true) u (G.wanted_plain rfl) ?_ rfl (Below.refl _ _)
      first | (go_simp; done) | rfl
    refine G.stepsL_cons (fun a u hc hdd hd hk hdep => ?_) ?_
    ·
      have d40 : (a.tmps[40]?).getD undef = (.bool true) := hdep ⟨30, .data⟩ (by simp) rfl
      refine G.step_val KC KD hc hdd rfl (.bool true) u (G.wanted_plain rfl) ?_ rfl (Below.refl _ _)
      first | (go_simp; done) | rfl
    exact G.stepsL_nil
  intro vs wN hN hh
  obtain ⟨e0, e1, e2, e3, e4, e5, e6, e7, e8, e9, e10, e11, e12, e13, e14, e15, e16, e17, e18, e19, e20, e21, e22, e23, e24, e25, e26, e27, e28, e29, e30, e31, -⟩ := hh
  have eL : vs 31 = (.bool true) := e31
  clear e0 e1 e2 e3 e4 e5 e6 e7 e8 e9 e10 e11 e12 e13 e14 e15 e16 e17 e18 e19 e20 e21 e22 e23 e24 e25 e26 e27 e28 e29 e30 e31
  set_option maxRecDepth 100000 in simp only [putAll, Act.put, List.setIfInBounds_toArray, List.set_cons_zero, List.set_cons_succ, eL]
  obtain ⟨_, _, _, _, _, _, _, _, hB9⟩ := hN
  go_wp2
  go_ret
  exact ⟨rfl, hB9⟩

set_option maxRecDepth 100000 in
theorem lifted (os : Os) (started : os.Started) (H : Type) (enc : TypeId × Value → H) :
    ReturnsInHanded {} Try.checked os 7 .any (Rows.schemaFindsSpec.pre6 enc Try.prog Try.f7 Rows.schemaFindsRow.domain false) (Rows.schemaFindsSpec.post enc Try.prog Try.f7 false true false false) := by
  refine returnsInHanded_of_change_sized (C := Try.checked) own started (by kernel_rfl) Try.func7
    (ChangeSpec.witness6 (enc := enc) (C := Try.checked) false ⟨#[], #[.agg #[.slice none 0 0, .slice none 0 0], .string ⟨#[]⟩, .int .i64 0], []⟩ 8 (by kernel_rfl) (by kernel_rfl) (by kernel_rfl) (by kernel_rfl)) ?_
  intro W base args ds gs before hval0 hW hcnd hsz0 _
  have hsz : (DataW.weightsEach Try.prog (Try.f7.params.toList ++ Rows.schemaFindsSpec.plain.varTypes Try.prog) (ds ++ gs)).all (· ≤ reachBytes) = true := hsz0
  clear hsz0
  have hval : ∀ (j : Nat) t v, Try.f7.params[j]? = some t → args[j]? = some v → Value.okWide Try.prog W .any base t v := hval0
  have hW' := hW
  obtain ⟨p, q, hA0, hV, rfl, hfz, hnd⟩ := hW
  have hA : DataW.TrodAll enc Try.prog W 0 (fun _ => true) true Try.f7.params.toList args.toList ds p := hA0
  rw [Try.params7] at hA hval hsz
  obtain ⟨v0, vs0, d0, ds0, p0, q0, hargs, rfl, rfl, h0, r0⟩ := trodAll_cons hA
  obtain ⟨v1, vs1, d1, ds1, p1, q1, rfl, rfl, rfl, h1, r1⟩ := trodAll_cons r0
  obtain ⟨v2, vs2, d2, ds2, p2, q2, rfl, rfl, rfl, h2, r2⟩ := trodAll_cons r1
  obtain ⟨rfl, rfl, rfl⟩ := trodAll_nil r2
  obtain rfl : args = #[v0, v1, v2] := by cases args; simp_all
  obtain ⟨rfl, rfl⟩ := trodVars_none hV
  have kk0 := h0
  have lt0 : ∀ x ∈ p0, x.block < W.heap.size := by obtain ⟨m, hm⟩ := kk0; exact DataW.trod_lt m _ _ _ hm
  have kk1 := h1
  have lt1 : ∀ x ∈ p1, x.block < W.heap.size := by obtain ⟨m, hm⟩ := kk1; exact DataW.trod_lt m _ _ _ hm
  have kk2 := h2
  have lt2 : ∀ x ∈ p2, x.block < W.heap.size := by obtain ⟨m, hm⟩ := kk2; exact DataW.trod_lt m _ _ _ hm
  obtain ⟨x0, y0, t0, s0, rfl, w0, u0, pp0, qq0, rr0⟩ := open_schema (hval 0 41 v0 rfl rfl) h0 (wb_each hsz (j := 0) (t := 41) rfl rfl)
  obtain ⟨s1, rfl, rfl, rfl, w1⟩ := Go.ChangeMaps.open_string Try.underlying9 (hval 1 9 v1 rfl rfl) h1
  obtain ⟨a2, rfl, rfl, rfl, w2⟩ := open_int Try.underlying3 (hval 2 3 v2 rfl rfl) h2
  clear hA0 hval0
  refine (walk W x0 y0 t0 s0 w0 u0 pp0 qq0 rr0 s1 w1 a2 w2).mono fun e W' ⟨he, bel⟩ => ?_
  subst he
  exact ⟨_, rfl, _, _, _, [], _, [], hW', trodAll_mk1 (shut_bool Try.underlying4 _), (trodAll_cons_mk (Below.trod laidOut (by kernel_rfl) (of_decide_eq_true (by kernel_rfl)) kk0 bel lt0) (trodAll_cons_mk (Below.trod laidOut (by kernel_rfl) (of_decide_eq_true (by kernel_rfl)) kk1 bel lt1) (trodAll_cons_mk (Below.trod laidOut (by kernel_rfl) (of_decide_eq_true (by kernel_rfl)) kk2 bel lt2) trodAll_mk0))), rfl, bel.frame _, fun h => by cases h⟩

theorem over : Rows.schemaFindsRow.holds Try.pinned (OpenSpec.ofChange Rows.schemaFindsSpec) :=
  OpenClaim.holds_of_wide 7 Try.f7 rfl rfl rfl rfl rfl rfl rfl ⟨rfl, rfl, rfl, rfl, rfl⟩ rfl rfl rfl rfl rfl (by kernel_rfl) Try.func7 (by kernel_rfl)
    (of_decide_eq_true (by kernel_rfl)) (by unfold Func.isWrapper; first | (rw [if_pos (by decide +kernel)]; kernel_rfl) | (rw [if_neg (by decide +kernel)]; exact ⟨rfl, rfl⟩))
    (fun os started H enc _ => lifted os started H enc)

/-- the statement -/
theorem proved : Rows.SchemaFindsSaid :=
  over
#print axioms proved
end Go.Proofs.Ytpjlocmohcjpfaa.schemaFinds
