/- SchemaKinds: the kind of any attribute of any type; and of each type the attribute of a name: the program tells as the document does. -/
import Derived.Test.YtpjlocmohcjpfaaRows
import Derived.WalkKit
import Derived.ProofKit
import Derived.OpenShut
import Derived.ShutString
import Derived.ChangeOld
import Derived.Below
import Derived.Lib.SmallJoins
import Derived.SizedLaws
import Derived.Test.YtpjlocmohcjpfaaSchA
import Derived.Test.YtpjlocmohcjpfaaSchO
import Derived.Test.YtpjlocmohcjpfaaSchR
import Derived.Test.YtpjlocmohcjpfaaKey
import Derived.Test.YtpjlocmohcjpfaaInvG
namespace Go.Proofs.Ytpjlocmohcjpfaa.schemaKinds
open Go.ChangeShapes Go.WideShapes Go.ChangeAt Go.RowKit Go.Joins
set_option linter.unusedVariables false
set_option linter.unusedSimpArgs false

theorem own : ownKnob Try.prog.godebug = none := by kernel_rfl
theorem laidOut : laidOutB Try.prog = true := by kernel_rfl

theorem keep9 {w0 w w1 : World} {a0 a1 a2 a3 a4 a5 : Addr} {v0 v1 v2 v3 v4 v5 : Value} {A A2 : Option Addr} {ts : List ST} (hb : Below w.heap.size w w1)
    (h : w.cell? a0 = some v0 ∧ w.cell? a1 = some v1 ∧ w.cell? a2 = some v2 ∧ w.cell? a3 = some v3 ∧ w.cell? a4 = some v4 ∧ w.cell? a5 = some v5 ∧ TypesAt w A ts ∧ TypesAt w A2 ts ∧ Below w0.heap.size w0 w) :
    w1.cell? a0 = some v0 ∧ w1.cell? a1 = some v1 ∧ w1.cell? a2 = some v2 ∧ w1.cell? a3 = some v3 ∧ w1.cell? a4 = some v4 ∧ w1.cell? a5 = some v5 ∧ TypesAt w1 A ts ∧ TypesAt w1 A2 ts ∧ Below w0.heap.size w0 w1 := by
  obtain ⟨h0, h1, h2, h3, h4, h5, h6, h7, h8⟩ := h
  exact ⟨cell_later hb h0, cell_later hb h1, cell_later hb h2, cell_later hb h3, cell_later hb h4, cell_later hb h5, h6.later hb, h7.later hb, mmore h8 hb⟩

set_option maxHeartbeats 4000000 in
theorem walk (w : World) (x0 y0 : Value) (t0 : List ST) (s0 : List ByteArray) (w0 : TypesIn w x0 t0) (u0 : SymsIn w y0 s0) (p0 : t0.length * 40 ≤ 140737488351232) (q0 : ∀ t ∈ t0, t.2.length * 24 ≤ 140737488351232) (r0 : s0.length * 16 ≤ 140737488351232) (s1 : ByteArray) (w1 : s1.size ≤ maxLen) (a2 b2 : Int) (w2 : (Lit.int .i64 a2).wf = true) (x2 : (Lit.int .i64 b2).wf = true) :
    Calls Try.prog 8 #[.agg #[x0, y0], .string s1, .agg #[.int .i64 a2, .int .i64 b2]] w fun e w' => e = .returned (.bool true) ∧ Below w.heap.size w w' := by
  have hn : t0.length ≤ 9223372036854775807 := by omega
  have hf : ∀ x ∈ t0, x.2.length ≤ 9223372036854775807 := fun x hx => by have := q0 x hx; omega
  obtain ⟨A, cap, rfl, hTA⟩ := w0.slice
  obtain ⟨B, capB, rfl, hSB⟩ := u0.slice
  have HW := Lib.hid (And.intro w0 u0)
  have hb0 := m2 w (.cells #[.slice A t0.length cap, .slice B s0.length capB] 41) (.cells #[.int .i64 a2, .int .i64 b2] 56)
  have hTA1 := Lib.hid (hTA.later hb0)
  have c0 : ((w.alloc (.cells #[.slice A t0.length cap, .slice B s0.length capB] 41)).alloc (.cells #[.int .i64 a2, .int .i64 b2] 56)).cell? ⟨w.heap.size, 0, none⟩ = some (.slice A t0.length cap) := by simp [go_sem]
  have c1 : ((w.alloc (.cells #[.slice A t0.length cap, .slice B s0.length capB] 41)).alloc (.cells #[.int .i64 a2, .int .i64 b2] 56)).cell? ⟨w.heap.size, 1, none⟩ = some (.slice B s0.length capB) := by simp [go_sem]
  have c2 : ((w.alloc (.cells #[.slice A t0.length cap, .slice B s0.length capB] 41)).alloc (.cells #[.int .i64 a2, .int .i64 b2] 56)).cell? ⟨w.heap.size + 1, 0, none⟩ = some (.int .i64 a2) := by simp [go_sem]
  have c3 : ((w.alloc (.cells #[.slice A t0.length cap, .slice B s0.length capB] 41)).alloc (.cells #[.int .i64 a2, .int .i64 b2] 56)).cell? ⟨w.heap.size + 1, 1, none⟩ = some (.int .i64 b2) := by simp [go_sem]
  have hp0 : t0.length * 40 ≤ 140737488351232 := p0
  replace p0 := Lib.hid p0
  replace q0 := Lib.hid q0
  replace r0 := Lib.hid r0
  clear hTA hSB w0 u0 w2 w1 x2
  go_enter Try.func8, Try.ntmps8
  go_wp2_with fail
  generalize (w.alloc (.cells #[.slice A t0.length cap, .slice B s0.length capB] 41)).alloc (.cells #[.int .i64 a2, .int .i64 b2] 56) = v at *
  refine (sto_any _ _ t0 s0 v (HW.out.1.later hb0) (HW.out.2.later hb0) p0.out q0.out r0.out).mono ?_; rintro e w2 ⟨x1, x2, rfl, hT2, hS2, hb2⟩
  obtain ⟨A2, cap2, rfl, hTA2⟩ := hT2.slice
  obtain ⟨B2, capB2, rfl, hSB2⟩ := hS2.slice
  have hb3 := m1 w2 (.cells #[.slice A2 t0.length cap2, .slice B2 s0.length capB2] 46)
  have hb23 := mmore hb2 hb3
  have d0 := cell_later hb23 c0
  have d1 := cell_later hb23 c1
  have d4 := cell_later hb23 c2
  have d5 := cell_later hb23 c3
  have d2 : (w2.alloc (.cells #[.slice A2 t0.length cap2, .slice B2 s0.length capB2] 46)).cell? ⟨w2.heap.size, 0, none⟩ = some (.slice A2 t0.length cap2) := by simp [go_sem]
  have d3 : (w2.alloc (.cells #[.slice A2 t0.length cap2, .slice B2 s0.length capB2] 46)).cell? ⟨w2.heap.size, 1, none⟩ = some (.slice B2 s0.length capB2) := by simp [go_sem]
  have base := And.intro d0 (And.intro d1 (And.intro d2 (And.intro d3 (And.intro d4 (And.intro d5 (And.intro (hTA1.out.later hb23) (And.intro (hTA2.later hb3) (mmore hb0 hb23))))))))
  clear hT2 hS2 hTA2 hSB2 hTA1 hb2 hb3 hb23 d0 d1 d2 d3 d4 d5 c0 c1 c2 c3 hb0 HW
  go_wp2_with fail
  generalize w2.alloc (.cells #[.slice A2 t0.length cap2, .slice B2 s0.length capB2] 46) = z at *
  generalize w2.heap.size = g7 at *
  have base' := base
  obtain ⟨d0, d1, d2, d3, d4, d5, d6, d7, d8⟩ := base'
  refine (key_any A2 cap2 _ t0 s1 _ d7 hp0 hf).mono ?_; rintro e w3 ⟨A', cap', rfl, hI, hb4⟩
  have base3 := keep9 hb4 base
  have kl := Lib.hid (keyOf_length t0 s1)
  have ka := Lib.hid (fun k h => keyOf_at t0 s1 k h)
  replace hI := Lib.hid hI
  clear base d0 d1 d2 d3 d4 d5 d6 d7 d8 hb4
  have d0 := base3.1
  replace base3 := Lib.hid base3
  go_wp2_with fail
  go_loopw [24] (fun i wr => ∃ k : Nat, k ≤ t0.length ∧ i = .int .i64 (k : Int) ∧ Below w3.heap.size w3 wr) (fun i _ => t0.length - (intOf i).toNat)
  case atStart => exact ⟨0, Nat.zero_le _, rfl, Below.refl _ _⟩
  case round =>
    obtain ⟨k, hk, rfl, hB⟩ := hrel
    clear d0
    have base := keep9 hB base3.out
    by_cases hlt : k < t0.length
    · obtain ⟨b', off', rfl, hcell⟩ := hI.out (by rw [kl.out]; omega)
      have r0 := cell_later hB (hcell k _ (ka.out k hlt))
      obtain ⟨d0, d1, d2, d3, d4, d5, d6, d7, d8⟩ := base
      have CA := Lib.hid (rattrat_any A cap (.slice B s0.length capB) t0 (k : Int) s1 wr d6 hn hf)
      generalize attrOf t0 (k : Int) s1 = r at *
      have k0 : (0 : Int) ≤ (k : Int) := by omega
      have k1 : (k : Int) < (t0.length : Int) := by omega
      clear hcell d2 d3 d4 d5 d6 d7 d8
      go_wp2_with fail
      refine CA.out.mono ?_; rintro e w4 ⟨rfl, hb5⟩
      go_wp2_with fail
      go_roundw
      case rel => exact ⟨k + 1, by omega, by go_num, mmore hB hb5⟩
      case measure => simp [intOf]; omega
    · obtain rfl : k = t0.length := by omega
      have base := keep9 (Below.refl _ _).drew base
      go_wp2_with fail

      have KD := G.keepsD_true []
      refine G.region_words (fun w' => w'.cell? ⟨w.heap.size, 0, none⟩ = some (.slice A t0.length cap) ∧ w'.cell? ⟨w.heap.size, 1, none⟩ = some (.slice B s0.length capB) ∧ w'.cell? ⟨g7, 0, none⟩ = some (.slice A2 t0.length cap2) ∧ w'.cell? ⟨g7, 1, none⟩ = some (.slice B2 s0.length capB2) ∧ w'.cell? ⟨w.heap.size + 1, 0, none⟩ = some (.int .i64 a2) ∧ w'.cell? ⟨w.heap.size + 1, 1, none⟩ = some (.int .i64 b2) ∧ TypesAt w' A t0 ∧ TypesAt w' A2 t0 ∧ Below w.heap.size w w') [G.isW (.bool true), G.isW (.bool true), G.isW (.agg #[.slice A2 t0.length cap2, .slice B2 s0.length capB2]), G.isW (.pointer (some ⟨w.heap.size + 1, 0, none⟩)), G.isW (.int .i64 (a2)), G.isW (.pointer (some ⟨w.heap.size + 1, 1, none⟩)), G.isW (.int .i64 (b2)), G.isW (.int .i64 (kindOf t0 a2 b2)), G.isW (.agg #[.slice A t0.length cap, .slice B s0.length capB]), G.isW (.pointer (some ⟨w.heap.size + 1, 0, none⟩)), G.isW (.int .i64 (a2)), G.isW (.pointer (some ⟨w.heap.size + 1, 1, none⟩)), G.isW (.int .i64 (b2)), G.isW (.int .i64 (kindOf t0 a2 b2)), G.isW (.bool true), G.isW (.bool true), G.isW (.bool true)] (by kernel_rfl) (by repeat' (first | exact G.monoL_nil | exact G.is_mono _ | exact G.any_mono | refine G.monoL_cons ?_ ?_)) (by kernel_rfl) (by kernel_rfl) (fun _ _ h hb => keep9 hb h) base ?_ ?_
      · intro KC
        refine G.stepsL_cons (fun a u hc hdd hd hk hdep => ?_) ?_
        ·
          refine G.step_call KC KD hc hdd rfl 15 #[] (G.wanted_plain rfl) (by go_simp) ?_
          exact (sawake_any u).mono (by rintro e w' ⟨rfl, hb⟩; exact ⟨_, rfl, rfl, hb⟩)
        refine G.stepsL_cons (fun a u hc hdd hd hk hdep => ?_) ?_
        ·
          have d36 : (a.tmps[36]?).getD undef = (.bool true) := hdep ⟨0, .data⟩ (by simp) rfl
          refine G.step_val KC KD hc hdd rfl (.bool true) u (G.wanted_plain rfl) ?_ rfl (Below.refl _ _)
          first | (go_simp; done) | rfl
        refine G.stepsL_cons (fun a u hc hdd hd hk hdep => ?_) ?_
        ·
          have d7 : (a.tmps[7]?).getD undef = (.pointer (some ⟨g7, 0, none⟩)) := hk 7 (by kernel_rfl)
          refine G.step_val KC KD hc hdd rfl (.agg #[.slice A2 t0.length cap2, .slice B2 s0.length capB2]) u ((G.wanted_guard (j := 1) (b := true) (c := true) rfl (hdep ⟨1, .guard⟩ (by simp) rfl)).trans rfl) ?_ rfl (Below.refl _ _)
          obtain ⟨s0, s1, s2, s3, s4, s5, s6, s7, s8⟩ := hc
          go_simp
        refine G.stepsL_cons (fun a u hc hdd hd hk hdep => ?_) ?_
        ·
          have d5 : (a.tmps[5]?).getD undef = (.pointer (some ⟨w.heap.size + 1, 0, none⟩)) := hk 5 (by kernel_rfl)
          refine G.step_val KC KD hc hdd rfl (.pointer (some ⟨w.heap.size + 1, 0, none⟩)) u ((G.wanted_guard (j := 1) (b := true) (c := true) rfl (hdep ⟨1, .guard⟩ (by simp) rfl)).trans rfl) ?_ rfl (Below.refl _ _)
          go_simp
        refine G.stepsL_cons (fun a u hc hdd hd hk hdep => ?_) ?_
        ·
          have d39 : (a.tmps[39]?).getD undef = (.pointer (some ⟨w.heap.size + 1, 0, none⟩)) := hdep ⟨3, .data⟩ (by simp) rfl
          refine G.step_val KC KD hc hdd rfl (.int .i64 (a2)) u ((G.wanted_guard (j := 1) (b := true) (c := true) rfl (hdep ⟨1, .guard⟩ (by simp) rfl)).trans rfl) ?_ rfl (Below.refl _ _)
          obtain ⟨s0, s1, s2, s3, s4, s5, s6, s7, s8⟩ := hc
          go_simp
        refine G.stepsL_cons (fun a u hc hdd hd hk hdep => ?_) ?_
        ·
          have d5 : (a.tmps[5]?).getD undef = (.pointer (some ⟨w.heap.size + 1, 0, none⟩)) := hk 5 (by kernel_rfl)
          refine G.step_val KC KD hc hdd rfl (.pointer (some ⟨w.heap.size + 1, 1, none⟩)) u ((G.wanted_guard (j := 1) (b := true) (c := true) rfl (hdep ⟨1, .guard⟩ (by simp) rfl)).trans rfl) ?_ rfl (Below.refl _ _)
          go_simp
        refine G.stepsL_cons (fun a u hc hdd hd hk hdep => ?_) ?_
        ·
          have d41 : (a.tmps[41]?).getD undef = (.pointer (some ⟨w.heap.size + 1, 1, none⟩)) := hdep ⟨5, .data⟩ (by simp) rfl
          refine G.step_val KC KD hc hdd rfl (.int .i64 (b2)) u ((G.wanted_guard (j := 1) (b := true) (c := true) rfl (hdep ⟨1, .guard⟩ (by simp) rfl)).trans rfl) ?_ rfl (Below.refl _ _)
          obtain ⟨s0, s1, s2, s3, s4, s5, s6, s7, s8⟩ := hc
          go_simp
        refine G.stepsL_cons (fun a u hc hdd hd hk hdep => ?_) ?_
        ·
          have d38 : (a.tmps[38]?).getD undef = (.agg #[.slice A2 t0.length cap2, .slice B2 s0.length capB2]) := hdep ⟨2, .data⟩ (by simp) rfl
          have d40 : (a.tmps[40]?).getD undef = (.int .i64 (a2)) := hdep ⟨4, .data⟩ (by simp) rfl
          have d42 : (a.tmps[42]?).getD undef = (.int .i64 (b2)) := hdep ⟨6, .data⟩ (by simp) rfl
          refine G.step_call KC KD hc hdd rfl 31 #[.agg #[.slice A2 t0.length cap2, .slice B2 s0.length capB2], .int .i64 a2, .int .i64 b2] ((G.wanted_guard (j := 1) (b := true) (c := true) rfl (hdep ⟨1, .chain⟩ (by simp) rfl)).trans rfl) (by go_simp) ?_
          obtain ⟨z0, z1, z2, z3, z4, z5, z6, z7, z8⟩ := hc
          exact (kind_any A2 cap2 _ t0 a2 b2 u z7 hn hf).mono (by rintro e w' ⟨rfl, hb⟩; exact ⟨_, rfl, rfl, hb⟩)
        refine G.stepsL_cons (fun a u hc hdd hd hk hdep => ?_) ?_
        ·
          have d3 : (a.tmps[3]?).getD undef = (.pointer (some ⟨w.heap.size, 0, none⟩)) := hk 3 (by kernel_rfl)
          refine G.step_val KC KD hc hdd rfl (.agg #[.slice A t0.length cap, .slice B s0.length capB]) u ((G.wanted_guard (j := 1) (b := true) (c := true) rfl (hdep ⟨1, .guard⟩ (by simp) rfl)).trans rfl) ?_ rfl (Below.refl _ _)
          obtain ⟨s0, s1, s2, s3, s4, s5, s6, s7, s8⟩ := hc
          go_simp
        refine G.stepsL_cons (fun a u hc hdd hd hk hdep => ?_) ?_
        ·
          have d5 : (a.tmps[5]?).getD undef = (.pointer (some ⟨w.heap.size + 1, 0, none⟩)) := hk 5 (by kernel_rfl)
          refine G.step_val KC KD hc hdd rfl (.pointer (some ⟨w.heap.size + 1, 0, none⟩)) u ((G.wanted_guard (j := 1) (b := true) (c := true) rfl (hdep ⟨1, .guard⟩ (by simp) rfl)).trans rfl) ?_ rfl (Below.refl _ _)
          go_simp
        refine G.stepsL_cons (fun a u hc hdd hd hk hdep => ?_) ?_
        ·
          have d45 : (a.tmps[45]?).getD undef = (.pointer (some ⟨w.heap.size + 1, 0, none⟩)) := hdep ⟨9, .data⟩ (by simp) rfl
          refine G.step_val KC KD hc hdd rfl (.int .i64 (a2)) u ((G.wanted_guard (j := 1) (b := true) (c := true) rfl (hdep ⟨1, .guard⟩ (by simp) rfl)).trans rfl) ?_ rfl (Below.refl _ _)
          obtain ⟨s0, s1, s2, s3, s4, s5, s6, s7, s8⟩ := hc
          go_simp
        refine G.stepsL_cons (fun a u hc hdd hd hk hdep => ?_) ?_
        ·
          have d5 : (a.tmps[5]?).getD undef = (.pointer (some ⟨w.heap.size + 1, 0, none⟩)) := hk 5 (by kernel_rfl)
          refine G.step_val KC KD hc hdd rfl (.pointer (some ⟨w.heap.size + 1, 1, none⟩)) u ((G.wanted_guard (j := 1) (b := true) (c := true) rfl (hdep ⟨1, .guard⟩ (by simp) rfl)).trans rfl) ?_ rfl (Below.refl _ _)
          go_simp
        refine G.stepsL_cons (fun a u hc hdd hd hk hdep => ?_) ?_
        ·
          have d47 : (a.tmps[47]?).getD undef = (.pointer (some ⟨w.heap.size + 1, 1, none⟩)) := hdep ⟨11, .data⟩ (by simp) rfl
          refine G.step_val KC KD hc hdd rfl (.int .i64 (b2)) u ((G.wanted_guard (j := 1) (b := true) (c := true) rfl (hdep ⟨1, .guard⟩ (by simp) rfl)).trans rfl) ?_ rfl (Below.refl _ _)
          obtain ⟨s0, s1, s2, s3, s4, s5, s6, s7, s8⟩ := hc
          go_simp
        refine G.stepsL_cons (fun a u hc hdd hd hk hdep => ?_) ?_
        ·
          have d44 : (a.tmps[44]?).getD undef = (.agg #[.slice A t0.length cap, .slice B s0.length capB]) := hdep ⟨8, .data⟩ (by simp) rfl
          have d46 : (a.tmps[46]?).getD undef = (.int .i64 (a2)) := hdep ⟨10, .data⟩ (by simp) rfl
          have d48 : (a.tmps[48]?).getD undef = (.int .i64 (b2)) := hdep ⟨12, .data⟩ (by simp) rfl
          refine G.step_call KC KD hc hdd rfl 32 #[.agg #[.slice A t0.length cap, .slice B s0.length capB], .int .i64 a2, .int .i64 b2] ((G.wanted_guard (j := 1) (b := true) (c := true) rfl (hdep ⟨1, .guard⟩ (by simp) rfl)).trans rfl) (by go_simp) ?_
          obtain ⟨z0, z1, z2, z3, z4, z5, z6, z7, z8⟩ := hc
          exact (rkind_any A cap _ t0 a2 b2 u z6 hn hf).mono (by rintro e w' ⟨rfl, hb⟩; exact ⟨_, rfl, rfl, hb⟩)
        refine G.stepsL_cons (fun a u hc hdd hd hk hdep => ?_) ?_
        ·
          have d43 : (a.tmps[43]?).getD undef = (.int .i64 (kindOf t0 a2 b2)) := hdep ⟨7, .data⟩ (by simp) rfl
          have d49 : (a.tmps[49]?).getD undef = (.int .i64 (kindOf t0 a2 b2)) := hdep ⟨13, .data⟩ (by simp) rfl
          refine G.step_val KC KD hc hdd rfl (.bool true) u ((G.wanted_guard (j := 1) (b := true) (c := true) rfl (hdep ⟨1, .guard⟩ (by simp) rfl)).trans rfl) ?_ rfl (Below.refl _ _)
          go_simp
        refine G.stepsL_cons (fun a u hc hdd hd hk hdep => ?_) ?_
        ·
          have d37 : (a.tmps[37]?).getD undef = (.bool true) := hdep ⟨1, .data⟩ (by simp) rfl
          have d50 : (a.tmps[50]?).getD undef = (.bool true) := hdep ⟨14, .data⟩ (by simp) rfl
          refine G.step_val KC KD hc hdd rfl (.bool true) u (G.wanted_plain rfl) ?_ rfl (Below.refl _ _)
          first | (go_simp; done) | rfl
        refine G.stepsL_cons (fun a u hc hdd hd hk hdep => ?_) ?_
        ·
          have d51 : (a.tmps[51]?).getD undef = (.bool true) := hdep ⟨15, .data⟩ (by simp) rfl
          refine G.step_val KC KD hc hdd rfl (.bool true) u (G.wanted_plain rfl) ?_ rfl (Below.refl _ _)
          first | (go_simp; done) | rfl
        exact G.stepsL_nil
      intro vs wN hN hh
      obtain ⟨e0, e1, e2, e3, e4, e5, e6, e7, e8, e9, e10, e11, e12, e13, e14, e15, e16, -⟩ := hh
      have eL : vs 16 = (.bool true) := e16
      clear e0 e1 e2 e3 e4 e5 e6 e7 e8 e9 e10 e11 e12 e13 e14 e15 e16
      set_option maxRecDepth 100000 in simp only [putAll, Act.put, List.setIfInBounds_toArray, List.set_cons_zero, List.set_cons_succ, eL]
      obtain ⟨_, _, _, _, _, _, _, _, hB9⟩ := hN
      go_wp2
      go_ret
      exact ⟨rfl, hB9⟩

set_option maxRecDepth 100000 in
theorem lifted (os : Os) (started : os.Started) (H : Type) (enc : TypeId × Value → H) :
    ReturnsInHanded {} Try.checked os 8 .any (Rows.schemaKindsSpec.pre6 enc Try.prog Try.f8 Rows.schemaKindsRow.domain false) (Rows.schemaKindsSpec.post enc Try.prog Try.f8 false true false false) := by
  refine returnsInHanded_of_change_sized (C := Try.checked) own started (by kernel_rfl) Try.func8
    (ChangeSpec.witness6 (enc := enc) (C := Try.checked) false ⟨#[], #[.agg #[.slice none 0 0, .slice none 0 0], .string ⟨#[]⟩, .agg #[.int .i64 0, .int .i64 0]], []⟩ 8 (by kernel_rfl) (by kernel_rfl) (by kernel_rfl) (by kernel_rfl)) ?_
  intro W base args ds gs before hval0 hW hcnd hsz0 _
  have hsz : (DataW.weightsEach Try.prog (Try.f8.params.toList ++ Rows.schemaKindsSpec.plain.varTypes Try.prog) (ds ++ gs)).all (· ≤ reachBytes) = true := hsz0
  clear hsz0
  have hval : ∀ (j : Nat) t v, Try.f8.params[j]? = some t → args[j]? = some v → Value.okWide Try.prog W .any base t v := hval0
  have hW' := hW
  obtain ⟨p, q, hA0, hV, rfl, hfz, hnd⟩ := hW
  have hA : DataW.TrodAll enc Try.prog W 0 (fun _ => true) true Try.f8.params.toList args.toList ds p := hA0
  rw [Try.params8] at hA hval hsz
  obtain ⟨v0, vs0, d0, ds0, p0, q0, hargs, rfl, rfl, h0, r0⟩ := trodAll_cons hA
  obtain ⟨v1, vs1, d1, ds1, p1, q1, rfl, rfl, rfl, h1, r1⟩ := trodAll_cons r0
  obtain ⟨v2, vs2, d2, ds2, p2, q2, rfl, rfl, rfl, h2, r2⟩ := trodAll_cons r1
  obtain ⟨rfl, rfl, rfl⟩ := trodAll_nil r2
  obtain rfl : args = #[v0, v1, v2] := by cases args; simp_all
  obtain ⟨rfl, rfl⟩ := trodVars_none hV
  have kk0 := h0
  have lt0 : ∀ x ∈ p0, x.block < W.heap.size := by obtain ⟨m, hm⟩ := kk0; exact DataW.trod_lt m _ _ _ hm
  have kk1 := h1
  have lt1 : ∀ x ∈ p1, x.block < W.heap.size := by obtain ⟨m, hm⟩ := kk1; exact DataW.trod_lt m _ _ _ hm
  have kk2 := h2
  have lt2 : ∀ x ∈ p2, x.block < W.heap.size := by obtain ⟨m, hm⟩ := kk2; exact DataW.trod_lt m _ _ _ hm
  obtain ⟨x0, y0, t0, s0, rfl, w0, u0, pp0, qq0, rr0⟩ := open_schema (hval 0 41 v0 rfl rfl) h0 (wb_each hsz (j := 0) (t := 41) rfl rfl)
  obtain ⟨s1, rfl, rfl, rfl, w1⟩ := Go.ChangeMaps.open_string Try.underlying9 (hval 1 9 v1 rfl rfl) h1
  obtain ⟨a2, b2, rfl, w2, x2⟩ := open_two Try.underlying56 Try.underlying3 (by kernel_rfl) (by kernel_rfl) (hval 2 56 v2 rfl rfl) h2
  clear hA0 hval0
  refine (walk W x0 y0 t0 s0 w0 u0 pp0 qq0 rr0 s1 w1 a2 b2 w2 x2).mono fun e W' ⟨he, bel⟩ => ?_
  subst he
  exact ⟨_, rfl, _, _, _, [], _, [], hW', trodAll_mk1 (shut_bool Try.underlying4 _), (trodAll_cons_mk (Below.trod laidOut (by kernel_rfl) (of_decide_eq_true (by kernel_rfl)) kk0 bel lt0) (trodAll_cons_mk (Below.trod laidOut (by kernel_rfl) (of_decide_eq_true (by kernel_rfl)) kk1 bel lt1) (trodAll_cons_mk (Below.trod laidOut (by kernel_rfl) (of_decide_eq_true (by kernel_rfl)) kk2 bel lt2) trodAll_mk0))), rfl, bel.frame _, fun h => by cases h⟩

theorem over : Rows.schemaKindsRow.holds Try.pinned (OpenSpec.ofChange Rows.schemaKindsSpec) :=
  OpenClaim.holds_of_wide 8 Try.f8 rfl rfl rfl rfl rfl rfl rfl ⟨rfl, rfl, rfl, rfl, rfl⟩ rfl rfl rfl rfl rfl (by kernel_rfl) Try.func8 (by kernel_rfl)
    (of_decide_eq_true (by kernel_rfl)) (by unfold Func.isWrapper; first | (rw [if_pos (by decide +kernel)]; kernel_rfl) | (rw [if_neg (by decide +kernel)]; exact ⟨rfl, rfl⟩))
    (fun os started H enc _ => lifted os started H enc)

/-- the statement -/
theorem proved : Rows.SchemaKindsSaid :=
  over
#print axioms proved
end Go.Proofs.Ytpjlocmohcjpfaa.schemaKinds
