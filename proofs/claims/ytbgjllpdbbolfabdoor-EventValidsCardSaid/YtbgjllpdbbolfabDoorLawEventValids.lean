/- EventValids: which events are valid, by any schema, and by its kinds alone: the program tells as the document does. -/
import Derived.Test.YtbgjllpdbbolfabDoorRows
import Derived.Test.YtbgjllpdbbolfabDoorCards
import Derived.Test.YtbgjllpdbbolfabDoorTie
import Derived.LaidMore
import Derived.LaidLaws
import Derived.ChangeVars
import Derived.SevenTiedAt
import Derived.Stop.Joined
import Derived.Stop.LaidErr
import Derived.Lib.LaidTab
import Derived.Lib.ItoaNum
import Derived.WalkKit
import Derived.ProofKit
import Derived.OpenShut
import Derived.ShutString
import Derived.ChangeOld
import Derived.Below
import Derived.Lib.SmallJoins
import Derived.SizedLaws
import Derived.Test.YtbgjllpdbbolfabDoorEvA
import Derived.Test.YtbgjllpdbbolfabDoorEvR
import Derived.Test.YtbgjllpdbbolfabDoorEvO
namespace Go.Proofs.YtbgjllpdbbolfabDoor.eventValids
open Go.ChangeShapes Go.WideShapes Go.ChangeAt Go.RowKit Go.Joins
set_option linter.unusedVariables false
set_option linter.unusedSimpArgs false

theorem own : ownKnob Tryd.prog.godebug = none := by kernel_rfl
theorem laidOut : laidOutB Tryd.prog = true := by kernel_rfl

def kdW (ts : List ST) : Value → World → Prop := fun v w => ∃ A cap, v = .slice A ts.length cap ∧ KindsAt w A (ksOf ts)
theorem kd_mono (ts : List ST) : G.MonoW (kdW ts) := by
  rintro v w w' ⟨A, cap, e, h⟩ hb
  exact ⟨A, cap, e, h.later hb⟩
theorem keep13 {w0 w w1 : World} {a0 a1 a2 a3 a4 a5 a6 : Addr} {v0 v1 v2 v3 v4 v5 v6 : Value} {A C A2 C2 B : Option Addr} {ts : List ST} {ss : List ByteArray} {vs : List (Int × Nat)} (hb : Below w.heap.size w w1)
    (h : w.cell? a0 = some v0 ∧ w.cell? a1 = some v1 ∧ w.cell? a2 = some v2 ∧ w.cell? a3 = some v3 ∧ w.cell? a4 = some v4 ∧ w.cell? a5 = some v5 ∧ w.cell? a6 = some v6 ∧ TypesAt w A ts ∧ SymsAt w C ss ∧ TypesAt w A2 ts ∧ SymsAt w C2 ss ∧ RowV w B vs.length vs ∧ Below w0.heap.size w0 w) :
    w1.cell? a0 = some v0 ∧ w1.cell? a1 = some v1 ∧ w1.cell? a2 = some v2 ∧ w1.cell? a3 = some v3 ∧ w1.cell? a4 = some v4 ∧ w1.cell? a5 = some v5 ∧ w1.cell? a6 = some v6 ∧ TypesAt w1 A ts ∧ SymsAt w1 C ss ∧ TypesAt w1 A2 ts ∧ SymsAt w1 C2 ss ∧ RowV w1 B vs.length vs ∧ Below w0.heap.size w0 w1 := by
  obtain ⟨h0, h1, h2, h3, h4, h5, h6, h7, h8, h9, h10, h11, h12⟩ := h
  exact ⟨cell_later hb h0, cell_later hb h1, cell_later hb h2, cell_later hb h3, cell_later hb h4, cell_later hb h5, cell_later hb h6, h7.later hb, h8.later hb, h9.later hb, h10.later hb, h11.later hb, mmore h12 hb⟩

set_option maxHeartbeats 4000000 in
theorem walk (w : World) (htab : Lib.TabIs Tryd.prog w "internal/strconv.uint64pow10" .u64 Lib.pow10Tab) (x0 y0 : Value) (t0 : List ST) (s0 : List ByteArray) (w0 : TypesIn w x0 t0) (u0 : SymsIn w y0 s0) (p0 : t0.length * 40 ≤ 140737488351232) (q0 : ∀ t ∈ t0, t.2.length * 24 ≤ 140737488351232) (r0 : s0.length * 16 ≤ 140737488351232) (ty1 tm1 : Int) (B1 : Option Addr) (c1 : Nat) (z1 : List (Int × Nat)) (w1 : RowV w B1 z1.length z1) (s1 : z1.length * 16 ≤ 140737488351232) :
    Calls Tryd.prog 4 #[.agg #[x0, y0], .agg #[.int .i64 ty1, .int .i64 tm1, .slice B1 z1.length c1]] w fun e w' => e = .returned (.bool true) ∧ Below w.heap.size w w' := by
  have HW := Lib.hid (And.intro w0 u0)
  obtain ⟨A, cap, rfl, hTA⟩ := w0
  obtain ⟨B, capB, rfl, ⟨hS1, hS2⟩, hSB⟩ := u0
  have hTA : TypesAt w A t0 := hTA
  have hSB : SymsAt w B s0 := hSB
  have hz : z1.length ≤ 9223372036854775807 := by omega
  have hl1 : (ksOf t0).length ≤ 9223372036854775807 := by rw [ksOf_length]; omega
  have hl2 : ∀ ks ∈ ksOf t0, ks.length ≤ 9223372036854775807 := fun ks h => by
    obtain ⟨t, ht, rfl⟩ := List.mem_map.1 h
    have := q0 t ht
    rw [ksT_length]
    omega
  replace hl2 := Lib.hid hl2
  have hb0 := m2 w (.cells #[.slice A t0.length cap, .slice B s0.length capB] 25) (.cells #[.int .i64 ty1, .int .i64 tm1, .slice B1 z1.length c1] 42)
  have k0 : Blk ((w.alloc (.cells #[.slice A t0.length cap, .slice B s0.length capB] 25)).alloc (.cells #[.int .i64 ty1, .int .i64 tm1, .slice B1 z1.length c1] 42)) w.heap.size 25 #[.slice A t0.length cap, .slice B s0.length capB] := (Blk.made _ _ _).kept (m1 _ _)
  have k1 : Blk ((w.alloc (.cells #[.slice A t0.length cap, .slice B s0.length capB] 25)).alloc (.cells #[.int .i64 ty1, .int .i64 tm1, .slice B1 z1.length c1] 42)) (w.heap.size + 1) 42 #[.int .i64 ty1, .int .i64 tm1, .slice B1 z1.length c1] := by
    have := Blk.made (w.alloc (.cells #[.slice A t0.length cap, .slice B s0.length capB] 25)) 42 #[.int .i64 ty1, .int .i64 tm1, .slice B1 z1.length c1]
    simpa using this
  have hTA1 := Lib.hid (hTA.later hb0)
  have hSB1 := Lib.hid (hSB.later hb0)
  have hw1 := Lib.hid (w1.later hb0)
  have tab := Lib.hid (Lib.tabBelow_of_tabIs htab)
  obtain ⟨cE, hcE⟩ := check_there t0 s0
  replace hcE := Lib.hid hcE
  replace q0 := Lib.hid q0
  replace hS1 := Lib.hid hS1
  replace hS2 := Lib.hid hS2
  clear hTA hSB htab w1
  go_enter Tryd.func4, Tryd.ntmps4
  go_wp2_with fail
  generalize ((w.alloc (.cells #[.slice A t0.length cap, .slice B s0.length capB] 25)).alloc (.cells #[.int .i64 ty1, .int .i64 tm1, .slice B1 z1.length c1] 42)) = v at *
  refine (sto_any _ _ t0 s0 v (HW.out.1.later hb0) (HW.out.2.later hb0) p0 q0.out r0).mono ?_; rintro e w2 ⟨x1, x2, rfl, hT2, hS2', hb2⟩
  obtain ⟨A2, cap2, rfl, hTA2⟩ := hT2
  obtain ⟨B2, capB2, rfl, ⟨hS21, hS22⟩, hSB2⟩ := hS2'
  have hTA2 : TypesAt w2 A2 t0 := hTA2
  have hSB2 : SymsAt w2 B2 s0 := hSB2
  have hb3 := m1 w2 (.cells #[.slice A2 t0.length cap2, .slice B2 s0.length capB2] 30)
  have k5 := Blk.made w2 30 #[.slice A2 t0.length cap2, .slice B2 s0.length capB2]
  have hb23 := mmore hb2 hb3
  have j0 := k0.kept hb23
  have j1 := k1.kept hb23
  have hTA3 := Lib.hid (hTA2.later hb3)
  have hSB3 := Lib.hid (hSB2.later hb3)
  have gTA := Lib.hid (hTA1.out.later hb23)
  have gSB := Lib.hid (hSB1.out.later hb23)
  have gR := Lib.hid (hw1.out.later hb23)
  have hBz := mmore hb0 hb23
  clear hTA2 hSB2 hb3 hb2 hb23 hb0 k0 k1 HW hTA1 hSB1 hw1
  go_upto_region 2 with (fail)
  generalize w2.alloc (.cells #[.slice A2 t0.length cap2, .slice B2 s0.length capB2] 30) = w3 at *
  generalize w2.heap.size = g5 at *
  have e0 : w3.cell? ⟨w.heap.size, 0, none⟩ = some (.slice A t0.length cap) := j0.cell 0
  have e1 : w3.cell? ⟨w.heap.size, 1, none⟩ = some (.slice B s0.length capB) := j0.cell 1
  have e2 : w3.cell? ⟨w.heap.size + 1, 0, none⟩ = some (.int .i64 ty1) := j1.cell 0
  have e3 : w3.cell? ⟨w.heap.size + 1, 1, none⟩ = some (.int .i64 tm1) := j1.cell 1
  have e4 : w3.cell? ⟨w.heap.size + 1, 2, none⟩ = some (.slice B1 z1.length c1) := j1.cell 2
  have e5 : w3.cell? ⟨g5, 0, none⟩ = some (.slice A2 t0.length cap2) := k5.cell 0
  have e6 : w3.cell? ⟨g5, 1, none⟩ = some (.slice B2 s0.length capB2) := k5.cell 1
  clear j0 j1 k5
  go_wp2_with fail
  refine (rvalid_any A B B1 cap capB c1 t0 s0 ty1 tm1 z1 w3 gTA.out gSB.out gR.out p0 q0.out hS1.out hS2.out hz).mono ?_; rintro e w4 ⟨q, rfl, hq, hb4⟩
  have base4 := keep13 hb4 ⟨e0, e1, e2, e3, e4, e5, e6, gTA.out, gSB.out, hTA3.out, hSB3.out, gR.out, hBz⟩
  have base : (fun w' => w'.cell? ⟨w.heap.size, 0, none⟩ = some (.slice A t0.length cap) ∧ w'.cell? ⟨w.heap.size, 1, none⟩ = some (.slice B s0.length capB) ∧ w'.cell? ⟨w.heap.size + 1, 0, none⟩ = some (.int .i64 ty1) ∧ w'.cell? ⟨w.heap.size + 1, 1, none⟩ = some (.int .i64 tm1) ∧ w'.cell? ⟨w.heap.size + 1, 2, none⟩ = some (.slice B1 z1.length c1) ∧ w'.cell? ⟨g5, 0, none⟩ = some (.slice A2 t0.length cap2) ∧ w'.cell? ⟨g5, 1, none⟩ = some (.slice B2 s0.length capB2) ∧ TypesAt w' A t0 ∧ SymsAt w' B s0 ∧ TypesAt w' A2 t0 ∧ SymsAt w' B2 s0 ∧ RowV w' B1 z1.length z1 ∧ Below w.heap.size w w') w4.drew := by
    obtain ⟨h0, h1, h2, h3, h4, h5, h6, h7, h8, h9, h10, h11, h12⟩ := base4
    exact ⟨h0, h1, h2, h3, h4, h5, h6, h7, h8, h9, h10, h11, h12.drew⟩
  replace hq := Lib.hid hq
  clear base4 e0 e1 e2 e3 e4 e5 e6 gTA gSB hTA3 hSB3 gR hBz hb4
  go_wp2_with fail
  by_cases hz0 : cE = 0
  · subst hz0
    have KD := G.keepsD_true []
    refine G.region_words (fun w' => w'.cell? ⟨w.heap.size, 0, none⟩ = some (.slice A t0.length cap) ∧ w'.cell? ⟨w.heap.size, 1, none⟩ = some (.slice B s0.length capB) ∧ w'.cell? ⟨w.heap.size + 1, 0, none⟩ = some (.int .i64 ty1) ∧ w'.cell? ⟨w.heap.size + 1, 1, none⟩ = some (.int .i64 tm1) ∧ w'.cell? ⟨w.heap.size + 1, 2, none⟩ = some (.slice B1 z1.length c1) ∧ w'.cell? ⟨g5, 0, none⟩ = some (.slice A2 t0.length cap2) ∧ w'.cell? ⟨g5, 1, none⟩ = some (.slice B2 s0.length capB2) ∧ TypesAt w' A t0 ∧ SymsAt w' B s0 ∧ TypesAt w' A2 t0 ∧ SymsAt w' B2 s0 ∧ RowV w' B1 z1.length z1 ∧ Below w.heap.size w w') [G.isW (.bool true), G.isW (.bool true), G.isW (.agg #[.slice A2 t0.length cap2, .slice B2 s0.length capB2]), G.isW (.agg #[.int .i64 ty1, .int .i64 tm1, .slice B1 z1.length c1]), evW ty1 tm1 z1, G.isW (.bool q), G.isW (.bool q), G.isW (.bool true), G.isW (.bool true), G.isW (.bool true), G.isW (.agg #[.slice A t0.length cap, .slice B s0.length capB]), G.isW (.int .i64 0), G.isW (.bool false), G.isW (.bool false), G.isW (.agg #[.slice A2 t0.length cap2, .slice B2 s0.length capB2]), kdW t0, G.isW (.pointer (some ⟨g5, 1, none⟩)), G.isW (.slice B2 s0.length capB2), G.isW (.int .i64 (s0.length : Int)), G.isW (.agg #[.int .i64 ty1, .int .i64 tm1, .slice B1 z1.length c1]), evW ty1 tm1 z1, G.isW (.bool q), G.isW (.bool q), G.isW (.bool true), G.isW (.bool true), G.isW (.bool true), G.isW (.bool true)] (by kernel_rfl) (by repeat' (first | exact G.monoL_nil | exact G.is_mono _ | exact ev_mono _ _ _ | exact kd_mono _ | refine G.monoL_cons ?_ ?_)) (by kernel_rfl) (by kernel_rfl) (fun _ _ h hb => keep13 hb h) base ?_ ?_
    · intro KC
      clear base
      refine G.stepsL_cons (fun a u hc hdd hd hk hdep => ?_) ?_
      ·
        refine G.step_call KC KD hc hdd rfl 10 #[] (G.wanted_plain rfl) (by go_simp) ?_
        obtain ⟨-, -, -, -, -, -, -, k7, k8, k9, k10, k11, k12⟩ := hc
        exact (evawake_any u (tab.out u k12)).mono (by rintro e w' ⟨rfl, hb⟩; exact ⟨_, rfl, rfl, hb⟩)
      refine G.stepsL_cons (fun a u hc hdd hd hk hdep => ?_) ?_
      ·
        have d12 : (a.tmps[12]?).getD undef = (.bool true) := hdep ⟨0, .data⟩ (by simp) rfl
        refine G.step_val KC KD hc hdd rfl (.bool true) u (G.wanted_plain rfl) ?_ rfl (Below.refl _ _)
        first | (go_simp; done) | rfl
      refine G.stepsL_cons (fun a u hc hdd hd hk hdep => ?_) ?_
      ·
        have d5 : (a.tmps[5]?).getD undef = (.pointer (some ⟨g5, 0, none⟩)) := hk 5 (by kernel_rfl)
        refine G.step_val KC KD hc hdd rfl (.agg #[.slice A2 t0.length cap2, .slice B2 s0.length capB2]) u ((G.wanted_guard (j := 1) (b := true) (c := true) rfl (hdep ⟨1, .guard⟩ (by simp) rfl)).trans rfl) ?_ rfl (Below.refl _ _)
        obtain ⟨c0, c1, c2, c3, c4, c5, c6, -⟩ := hc
        first | (go_simp; done) | rfl
      refine G.stepsL_cons (fun a u hc hdd hd hk hdep => ?_) ?_
      ·
        have d3 : (a.tmps[3]?).getD undef = (.pointer (some ⟨w.heap.size + 1, 0, none⟩)) := hk 3 (by kernel_rfl)
        refine G.step_val KC KD hc hdd rfl (.agg #[.int .i64 ty1, .int .i64 tm1, .slice B1 z1.length c1]) u ((G.wanted_guard (j := 1) (b := true) (c := true) rfl (hdep ⟨1, .guard⟩ (by simp) rfl)).trans rfl) ?_ rfl (Below.refl _ _)
        obtain ⟨c0, c1, c2, c3, c4, c5, c6, -⟩ := hc
        first | (go_simp; done) | rfl
      refine G.stepsL_cons (fun a u hc hdd hd hk hdep => ?_) ?_
      ·
        have d15 : (a.tmps[15]?).getD undef = (.agg #[.int .i64 ty1, .int .i64 tm1, .slice B1 z1.length c1]) := hdep ⟨3, .data⟩ (by simp) rfl
        refine G.step_call KC KD hc hdd rfl 13 #[.agg #[.int .i64 ty1, .int .i64 tm1, .slice B1 z1.length c1]] ((G.wanted_guard (j := 1) (b := true) (c := true) rfl (hdep ⟨1, .chain⟩ (by simp) rfl)).trans rfl) (by go_simp) ?_
        obtain ⟨-, -, -, -, -, -, -, k7, k8, k9, k10, k11, k12⟩ := hc
        exact (evto_any B1 c1 ty1 tm1 z1 u k11 s1).mono (by rintro e w' ⟨B', c', rfl, h1, hb⟩; exact ⟨_, rfl, ⟨B', c', rfl, h1⟩, hb⟩)
      refine G.stepsL_cons (fun a u hc hdd hd hk hdep => ?_) ?_
      ·
        have d14 : (a.tmps[14]?).getD undef = (.agg #[.slice A2 t0.length cap2, .slice B2 s0.length capB2]) := hdep ⟨2, .data⟩ (by simp) rfl
        obtain ⟨E2, capE2, d16, hE2⟩ : evW ty1 tm1 z1 ((a.tmps[16]?).getD undef) u := hdep ⟨4, .data⟩ (by simp) rfl
        refine G.step_call KC KD hc hdd rfl 12 #[.agg #[.slice A2 t0.length cap2, .slice B2 s0.length capB2], .agg #[.int .i64 ty1, .int .i64 tm1, .slice E2 z1.length capE2]] ((G.wanted_guard (j := 1) (b := true) (c := true) rfl (hdep ⟨1, .guard⟩ (by simp) rfl)).trans rfl) (by go_simp) ?_
        obtain ⟨-, -, -, -, -, -, -, k7, k8, k9, k10, k11, k12⟩ := hc
        exact (evalid_any A2 B2 E2 cap2 capB2 capE2 t0 s0 ty1 tm1 z1 u k9 k10 hE2 p0 q0.out hS21 hS22 hz).mono (by
      rintro e w' ⟨q', rfl, hq', hb⟩
      obtain rfl : q' = q := by rw [Bool.eq_iff_iff, hq', hq.out]
      exact ⟨_, rfl, rfl, hb⟩)
      refine G.stepsL_cons (fun a u hc hdd hd hk hdep => ?_) ?_
      ·
        have d6 : (a.tmps[6]?).getD undef = (.bool q) := hk 6 (by kernel_rfl)
        refine G.step_val KC KD hc hdd rfl (.bool q) u ((G.wanted_guard (j := 1) (b := true) (c := true) rfl (hdep ⟨1, .guard⟩ (by simp) rfl)).trans rfl) ?_ rfl (Below.refl _ _)
        first | (go_simp; done) | rfl
      refine G.stepsL_cons (fun a u hc hdd hd hk hdep => ?_) ?_
      ·
        have d17 : (a.tmps[17]?).getD undef = (.bool q) := hdep ⟨5, .data⟩ (by simp) rfl
        have d18 : (a.tmps[18]?).getD undef = (.bool q) := hdep ⟨6, .data⟩ (by simp) rfl
        refine G.step_val KC KD hc hdd rfl (.bool true) u ((G.wanted_guard (j := 1) (b := true) (c := true) rfl (hdep ⟨1, .guard⟩ (by simp) rfl)).trans rfl) ?_ rfl (Below.refl _ _)
        cases q <;> (first | (go_simp; done) | rfl)
      refine G.stepsL_cons (fun a u hc hdd hd hk hdep => ?_) ?_
      ·
        have d13 : (a.tmps[13]?).getD undef = (.bool true) := hdep ⟨1, .data⟩ (by simp) rfl
        have d19 : (a.tmps[19]?).getD undef = (.bool true) := hdep ⟨7, .data⟩ (by simp) rfl
        refine G.step_val KC KD hc hdd rfl (.bool true) u (G.wanted_plain rfl) ?_ rfl (Below.refl _ _)
        first | (go_simp; done) | rfl
      refine G.stepsL_cons (fun a u hc hdd hd hk hdep => ?_) ?_
      ·
        have d20 : (a.tmps[20]?).getD undef = (.bool true) := hdep ⟨8, .data⟩ (by simp) rfl
        refine G.step_val KC KD hc hdd rfl (.bool true) u (G.wanted_plain rfl) ?_ rfl (Below.refl _ _)
        first | (go_simp; done) | rfl
      refine G.stepsL_cons (fun a u hc hdd hd hk hdep => ?_) ?_
      ·
        have d2 : (a.tmps[2]?).getD undef = (.pointer (some ⟨w.heap.size, 0, none⟩)) := hk 2 (by kernel_rfl)
        refine G.step_val KC KD hc hdd rfl (.agg #[.slice A t0.length cap, .slice B s0.length capB]) u ((G.wanted_guard (j := 9) (b := true) (c := true) rfl (hdep ⟨9, .guard⟩ (by simp) rfl)).trans rfl) ?_ rfl (Below.refl _ _)
        obtain ⟨c0, c1, c2, c3, c4, c5, c6, -⟩ := hc
        first | (go_simp; done) | rfl
      refine G.stepsL_cons (fun a u hc hdd hd hk hdep => ?_) ?_
      ·
        have d22 : (a.tmps[22]?).getD undef = (.agg #[.slice A t0.length cap, .slice B s0.length capB]) := hdep ⟨10, .data⟩ (by simp) rfl
        refine G.step_call KC KD hc hdd rfl 14 #[.agg #[.slice A t0.length cap, .slice B s0.length capB]] ((G.wanted_guard (j := 9) (b := true) (c := true) rfl (hdep ⟨9, .chain⟩ (by simp) rfl)).trans rfl) (by go_simp) ?_
        obtain ⟨-, -, -, -, -, -, -, k7, k8, k9, k10, k11, k12⟩ := hc
        exact (rcheck_any A B cap capB t0 s0 u k7 k8 p0 q0.out hS1.out hS2.out).mono (by rintro e w' ⟨c, rfl, hcc, hb⟩; obtain rfl := check_one hcc hcE.out; exact ⟨_, rfl, rfl, hb⟩)
      refine G.stepsL_cons (fun a u hc hdd hd hk hdep => ?_) ?_
      ·
        have d23 : (a.tmps[23]?).getD undef = (.int .i64 0) := hdep ⟨11, .data⟩ (by simp) rfl
        refine G.step_val KC KD hc hdd rfl (.bool false) u ((G.wanted_guard (j := 9) (b := true) (c := true) rfl (hdep ⟨9, .guard⟩ (by simp) rfl)).trans rfl) ?_ rfl (Below.refl _ _)
        first | (go_simp; done) | rfl
      refine G.stepsL_cons (fun a u hc hdd hd hk hdep => ?_) ?_
      ·
        have d24 : (a.tmps[24]?).getD undef = (.bool false) := hdep ⟨12, .data⟩ (by simp) rfl
        refine G.step_val KC KD hc hdd rfl (.bool false) u ((G.wanted_guard (j := 9) (b := true) (c := true) rfl (hdep ⟨9, .guard⟩ (by simp) rfl)).trans rfl) ?_ rfl (Below.refl _ _)
        first | (go_simp; done) | rfl
      refine G.stepsL_cons (fun a u hc hdd hd hk hdep => ?_) ?_
      ·
        have d5 : (a.tmps[5]?).getD undef = (.pointer (some ⟨g5, 0, none⟩)) := hk 5 (by kernel_rfl)
        refine G.step_val KC KD hc hdd rfl (.agg #[.slice A2 t0.length cap2, .slice B2 s0.length capB2]) u ((G.wanted_guard (j := 13) (b := false) (c := false) rfl (hdep ⟨13, .guard⟩ (by simp) rfl)).trans rfl) ?_ rfl (Below.refl _ _)
        obtain ⟨c0, c1, c2, c3, c4, c5, c6, -⟩ := hc
        first | (go_simp; done) | rfl
      refine G.stepsL_cons (fun a u hc hdd hd hk hdep => ?_) ?_
      ·
        have d26 : (a.tmps[26]?).getD undef = (.agg #[.slice A2 t0.length cap2, .slice B2 s0.length capB2]) := hdep ⟨14, .data⟩ (by simp) rfl
        refine G.step_call KC KD hc hdd rfl 8 #[.agg #[.slice A2 t0.length cap2, .slice B2 s0.length capB2]] ((G.wanted_guard (j := 13) (b := false) (c := false) rfl (hdep ⟨13, .chain⟩ (by simp) rfl)).trans rfl) (by go_simp) ?_
        obtain ⟨-, -, -, -, -, -, -, k7, k8, k9, k10, k11, k12⟩ := hc
        exact (evkinds_any A2 cap2 _ t0 u k9 p0 q0.out).mono (by rintro e w' ⟨A', cap', rfl, hK, hb⟩; exact ⟨_, rfl, ⟨A', cap', rfl, hK⟩, hb⟩)
      refine G.stepsL_cons (fun a u hc hdd hd hk hdep => ?_) ?_
      ·
        have d5 : (a.tmps[5]?).getD undef = (.pointer (some ⟨g5, 0, none⟩)) := hk 5 (by kernel_rfl)
        refine G.step_val KC KD hc hdd rfl (.pointer (some ⟨g5, 1, none⟩)) u ((G.wanted_guard (j := 13) (b := false) (c := false) rfl (hdep ⟨13, .guard⟩ (by simp) rfl)).trans rfl) ?_ rfl (Below.refl _ _)
        first | (go_simp; done) | rfl
      refine G.stepsL_cons (fun a u hc hdd hd hk hdep => ?_) ?_
      ·
        have d28 : (a.tmps[28]?).getD undef = (.pointer (some ⟨g5, 1, none⟩)) := hdep ⟨16, .data⟩ (by simp) rfl
        refine G.step_val KC KD hc hdd rfl (.slice B2 s0.length capB2) u ((G.wanted_guard (j := 13) (b := false) (c := false) rfl (hdep ⟨13, .guard⟩ (by simp) rfl)).trans rfl) ?_ rfl (Below.refl _ _)
        obtain ⟨c0, c1, c2, c3, c4, c5, c6, -⟩ := hc
        first | (go_simp; done) | rfl
      refine G.stepsL_cons (fun a u hc hdd hd hk hdep => ?_) ?_
      ·
        have d29 : (a.tmps[29]?).getD undef = (.slice B2 s0.length capB2) := hdep ⟨17, .data⟩ (by simp) rfl
        refine G.step_val KC KD hc hdd rfl (.int .i64 (s0.length : Int)) u ((G.wanted_guard (j := 13) (b := false) (c := false) rfl (hdep ⟨13, .guard⟩ (by simp) rfl)).trans rfl) ?_ rfl (Below.refl _ _)
        first | (go_simp; done) | rfl
      refine G.stepsL_cons (fun a u hc hdd hd hk hdep => ?_) ?_
      ·
        have d3 : (a.tmps[3]?).getD undef = (.pointer (some ⟨w.heap.size + 1, 0, none⟩)) := hk 3 (by kernel_rfl)
        refine G.step_val KC KD hc hdd rfl (.agg #[.int .i64 ty1, .int .i64 tm1, .slice B1 z1.length c1]) u ((G.wanted_guard (j := 13) (b := false) (c := false) rfl (hdep ⟨13, .guard⟩ (by simp) rfl)).trans rfl) ?_ rfl (Below.refl _ _)
        obtain ⟨c0, c1, c2, c3, c4, c5, c6, -⟩ := hc
        first | (go_simp; done) | rfl
      refine G.stepsL_cons (fun a u hc hdd hd hk hdep => ?_) ?_
      ·
        have d31 : (a.tmps[31]?).getD undef = (.agg #[.int .i64 ty1, .int .i64 tm1, .slice B1 z1.length c1]) := hdep ⟨19, .data⟩ (by simp) rfl
        refine G.step_call KC KD hc hdd rfl 13 #[.agg #[.int .i64 ty1, .int .i64 tm1, .slice B1 z1.length c1]] ((G.wanted_guard (j := 13) (b := false) (c := false) rfl (hdep ⟨13, .guard⟩ (by simp) rfl)).trans rfl) (by go_simp) ?_
        obtain ⟨-, -, -, -, -, -, -, k7, k8, k9, k10, k11, k12⟩ := hc
        exact (evto_any B1 c1 ty1 tm1 z1 u k11 s1).mono (by rintro e w' ⟨B', c', rfl, h1, hb⟩; exact ⟨_, rfl, ⟨B', c', rfl, h1⟩, hb⟩)
      refine G.stepsL_cons (fun a u hc hdd hd hk hdep => ?_) ?_
      ·
        obtain ⟨KA, capK, d27, hK⟩ : kdW t0 ((a.tmps[27]?).getD undef) u := hdep ⟨15, .data⟩ (by simp) rfl
        have d30 : (a.tmps[30]?).getD undef = (.int .i64 (s0.length : Int)) := hdep ⟨18, .data⟩ (by simp) rfl
        obtain ⟨E3, capE3, d32, hE3⟩ : evW ty1 tm1 z1 ((a.tmps[32]?).getD undef) u := hdep ⟨20, .data⟩ (by simp) rfl
        refine G.step_call KC KD hc hdd rfl 15 #[.slice KA t0.length capK, .int .i64 (s0.length : Int), .agg #[.int .i64 ty1, .int .i64 tm1, .slice E3 z1.length capE3]] ((G.wanted_guard (j := 13) (b := false) (c := false) rfl (hdep ⟨13, .guard⟩ (by simp) rfl)).trans rfl) (by go_simp) ?_
        have CF := fits_any KA E3 capK capE3 (ksOf t0) (s0.length : Int) ty1 tm1 z1 u hK hE3 hz hl1 hl2.out
        rw [ksOf_length] at CF
        exact CF.mono (by
      rintro e w' ⟨q', rfl, hq', hb⟩
      obtain rfl : q' = q := by rw [Bool.eq_iff_iff, hq', hq.out]; exact ⟨fun h => ⟨hcE.out, h.2⟩, fun h => ⟨poss_of hcE.out, h.2⟩⟩
      exact ⟨_, rfl, rfl, hb⟩)
      refine G.stepsL_cons (fun a u hc hdd hd hk hdep => ?_) ?_
      ·
        have d6 : (a.tmps[6]?).getD undef = (.bool q) := hk 6 (by kernel_rfl)
        refine G.step_val KC KD hc hdd rfl (.bool q) u ((G.wanted_guard (j := 13) (b := false) (c := false) rfl (hdep ⟨13, .guard⟩ (by simp) rfl)).trans rfl) ?_ rfl (Below.refl _ _)
        first | (go_simp; done) | rfl
      refine G.stepsL_cons (fun a u hc hdd hd hk hdep => ?_) ?_
      ·
        have d33 : (a.tmps[33]?).getD undef = (.bool q) := hdep ⟨21, .data⟩ (by simp) rfl
        have d34 : (a.tmps[34]?).getD undef = (.bool q) := hdep ⟨22, .data⟩ (by simp) rfl
        refine G.step_val KC KD hc hdd rfl (.bool true) u ((G.wanted_guard (j := 13) (b := false) (c := false) rfl (hdep ⟨13, .guard⟩ (by simp) rfl)).trans rfl) ?_ rfl (Below.refl _ _)
        cases q <;> (first | (go_simp; done) | rfl)
      refine G.stepsL_cons (fun a u hc hdd hd hk hdep => ?_) ?_
      ·
        have d25 : (a.tmps[25]?).getD undef = (.bool false) := hdep ⟨13, .data⟩ (by simp) rfl
        have d35 : (a.tmps[35]?).getD undef = (.bool true) := hdep ⟨23, .data⟩ (by simp) rfl
        refine G.step_val KC KD hc hdd rfl (.bool true) u ((G.wanted_guard (j := 9) (b := true) (c := true) rfl (hdep ⟨9, .guard⟩ (by simp) rfl)).trans rfl) ?_ rfl (Below.refl _ _)
        first | (go_simp; done) | rfl
      refine G.stepsL_cons (fun a u hc hdd hd hk hdep => ?_) ?_
      ·
        have d21 : (a.tmps[21]?).getD undef = (.bool true) := hdep ⟨9, .data⟩ (by simp) rfl
        have d36 : (a.tmps[36]?).getD undef = (.bool true) := hdep ⟨24, .data⟩ (by simp) rfl
        refine G.step_val KC KD hc hdd rfl (.bool true) u (G.wanted_plain rfl) ?_ rfl (Below.refl _ _)
        first | (go_simp; done) | rfl
      refine G.stepsL_cons (fun a u hc hdd hd hk hdep => ?_) ?_
      ·
        have d37 : (a.tmps[37]?).getD undef = (.bool true) := hdep ⟨25, .data⟩ (by simp) rfl
        refine G.step_val KC KD hc hdd rfl (.bool true) u (G.wanted_plain rfl) ?_ rfl (Below.refl _ _)
        first | (go_simp; done) | rfl
      exact G.stepsL_nil
    intro vs' wN hN hh
    have eL : vs' 26 = (.bool true) := by
      obtain ⟨-, -, -, -, -, -, -, -, -, -, -, -, -, -, -, -, -, -, -, -, -, -, -, -, -, -, eX, -⟩ := hh
      exact eX
    set_option maxRecDepth 100000 in simp only [putAll, Act.put, List.setIfInBounds_toArray, List.set_cons_zero, List.set_cons_succ, eL]
    have hBz := Lib.hid hN.2.2.2.2.2.2.2.2.2.2.2.2
    clear hN hh
    go_wp2
    go_ret
    exact ⟨rfl, hBz.out⟩
  · have hz1 : (cE != 0) = true := by simpa using hz0
    clear hz0
    have KD := G.keepsD_true []
    refine G.region_words (fun w' => w'.cell? ⟨w.heap.size, 0, none⟩ = some (.slice A t0.length cap) ∧ w'.cell? ⟨w.heap.size, 1, none⟩ = some (.slice B s0.length capB) ∧ w'.cell? ⟨w.heap.size + 1, 0, none⟩ = some (.int .i64 ty1) ∧ w'.cell? ⟨w.heap.size + 1, 1, none⟩ = some (.int .i64 tm1) ∧ w'.cell? ⟨w.heap.size + 1, 2, none⟩ = some (.slice B1 z1.length c1) ∧ w'.cell? ⟨g5, 0, none⟩ = some (.slice A2 t0.length cap2) ∧ w'.cell? ⟨g5, 1, none⟩ = some (.slice B2 s0.length capB2) ∧ TypesAt w' A t0 ∧ SymsAt w' B s0 ∧ TypesAt w' A2 t0 ∧ SymsAt w' B2 s0 ∧ RowV w' B1 z1.length z1 ∧ Below w.heap.size w w') [G.isW (.bool true), G.isW (.bool true), G.isW (.agg #[.slice A2 t0.length cap2, .slice B2 s0.length capB2]), G.isW (.agg #[.int .i64 ty1, .int .i64 tm1, .slice B1 z1.length c1]), evW ty1 tm1 z1, G.isW (.bool q), G.isW (.bool q), G.isW (.bool true), G.isW (.bool true), G.isW (.bool true), G.isW (.agg #[.slice A t0.length cap, .slice B s0.length capB]), G.isW (.int .i64 cE), G.isW (.bool true), G.isW (.bool true), G.isW undef, G.isW undef, G.isW undef, G.isW undef, G.isW undef, G.isW undef, G.isW undef, G.isW undef, G.isW undef, G.isW undef, G.isW (.bool true), G.isW (.bool true), G.isW (.bool true)] (by kernel_rfl) (by repeat' (first | exact G.monoL_nil | exact G.is_mono _ | exact ev_mono _ _ _ | exact kd_mono _ | refine G.monoL_cons ?_ ?_)) (by kernel_rfl) (by kernel_rfl) (fun _ _ h hb => keep13 hb h) base ?_ ?_
    · intro KC
      clear base
      refine G.stepsL_cons (fun a u hc hdd hd hk hdep => ?_) ?_
      ·
        refine G.step_call KC KD hc hdd rfl 10 #[] (G.wanted_plain rfl) (by go_simp) ?_
        obtain ⟨-, -, -, -, -, -, -, k7, k8, k9, k10, k11, k12⟩ := hc
        exact (evawake_any u (tab.out u k12)).mono (by rintro e w' ⟨rfl, hb⟩; exact ⟨_, rfl, rfl, hb⟩)
      refine G.stepsL_cons (fun a u hc hdd hd hk hdep => ?_) ?_
      ·
        have d12 : (a.tmps[12]?).getD undef = (.bool true) := hdep ⟨0, .data⟩ (by simp) rfl
        refine G.step_val KC KD hc hdd rfl (.bool true) u (G.wanted_plain rfl) ?_ rfl (Below.refl _ _)
        first | (go_simp; done) | rfl
      refine G.stepsL_cons (fun a u hc hdd hd hk hdep => ?_) ?_
      ·
        have d5 : (a.tmps[5]?).getD undef = (.pointer (some ⟨g5, 0, none⟩)) := hk 5 (by kernel_rfl)
        refine G.step_val KC KD hc hdd rfl (.agg #[.slice A2 t0.length cap2, .slice B2 s0.length capB2]) u ((G.wanted_guard (j := 1) (b := true) (c := true) rfl (hdep ⟨1, .guard⟩ (by simp) rfl)).trans rfl) ?_ rfl (Below.refl _ _)
        obtain ⟨c0, c1, c2, c3, c4, c5, c6, -⟩ := hc
        first | (go_simp; done) | rfl
      refine G.stepsL_cons (fun a u hc hdd hd hk hdep => ?_) ?_
      ·
        have d3 : (a.tmps[3]?).getD undef = (.pointer (some ⟨w.heap.size + 1, 0, none⟩)) := hk 3 (by kernel_rfl)
        refine G.step_val KC KD hc hdd rfl (.agg #[.int .i64 ty1, .int .i64 tm1, .slice B1 z1.length c1]) u ((G.wanted_guard (j := 1) (b := true) (c := true) rfl (hdep ⟨1, .guard⟩ (by simp) rfl)).trans rfl) ?_ rfl (Below.refl _ _)
        obtain ⟨c0, c1, c2, c3, c4, c5, c6, -⟩ := hc
        first | (go_simp; done) | rfl
      refine G.stepsL_cons (fun a u hc hdd hd hk hdep => ?_) ?_
      ·
        have d15 : (a.tmps[15]?).getD undef = (.agg #[.int .i64 ty1, .int .i64 tm1, .slice B1 z1.length c1]) := hdep ⟨3, .data⟩ (by simp) rfl
        refine G.step_call KC KD hc hdd rfl 13 #[.agg #[.int .i64 ty1, .int .i64 tm1, .slice B1 z1.length c1]] ((G.wanted_guard (j := 1) (b := true) (c := true) rfl (hdep ⟨1, .chain⟩ (by simp) rfl)).trans rfl) (by go_simp) ?_
        obtain ⟨-, -, -, -, -, -, -, k7, k8, k9, k10, k11, k12⟩ := hc
        exact (evto_any B1 c1 ty1 tm1 z1 u k11 s1).mono (by rintro e w' ⟨B', c', rfl, h1, hb⟩; exact ⟨_, rfl, ⟨B', c', rfl, h1⟩, hb⟩)
      refine G.stepsL_cons (fun a u hc hdd hd hk hdep => ?_) ?_
      ·
        have d14 : (a.tmps[14]?).getD undef = (.agg #[.slice A2 t0.length cap2, .slice B2 s0.length capB2]) := hdep ⟨2, .data⟩ (by simp) rfl
        obtain ⟨E2, capE2, d16, hE2⟩ : evW ty1 tm1 z1 ((a.tmps[16]?).getD undef) u := hdep ⟨4, .data⟩ (by simp) rfl
        refine G.step_call KC KD hc hdd rfl 12 #[.agg #[.slice A2 t0.length cap2, .slice B2 s0.length capB2], .agg #[.int .i64 ty1, .int .i64 tm1, .slice E2 z1.length capE2]] ((G.wanted_guard (j := 1) (b := true) (c := true) rfl (hdep ⟨1, .guard⟩ (by simp) rfl)).trans rfl) (by go_simp) ?_
        obtain ⟨-, -, -, -, -, -, -, k7, k8, k9, k10, k11, k12⟩ := hc
        exact (evalid_any A2 B2 E2 cap2 capB2 capE2 t0 s0 ty1 tm1 z1 u k9 k10 hE2 p0 q0.out hS21 hS22 hz).mono (by
      rintro e w' ⟨q', rfl, hq', hb⟩
      obtain rfl : q' = q := by rw [Bool.eq_iff_iff, hq', hq.out]
      exact ⟨_, rfl, rfl, hb⟩)
      refine G.stepsL_cons (fun a u hc hdd hd hk hdep => ?_) ?_
      ·
        have d6 : (a.tmps[6]?).getD undef = (.bool q) := hk 6 (by kernel_rfl)
        refine G.step_val KC KD hc hdd rfl (.bool q) u ((G.wanted_guard (j := 1) (b := true) (c := true) rfl (hdep ⟨1, .guard⟩ (by simp) rfl)).trans rfl) ?_ rfl (Below.refl _ _)
        first | (go_simp; done) | rfl
      refine G.stepsL_cons (fun a u hc hdd hd hk hdep => ?_) ?_
      ·
        have d17 : (a.tmps[17]?).getD undef = (.bool q) := hdep ⟨5, .data⟩ (by simp) rfl
        have d18 : (a.tmps[18]?).getD undef = (.bool q) := hdep ⟨6, .data⟩ (by simp) rfl
        refine G.step_val KC KD hc hdd rfl (.bool true) u ((G.wanted_guard (j := 1) (b := true) (c := true) rfl (hdep ⟨1, .guard⟩ (by simp) rfl)).trans rfl) ?_ rfl (Below.refl _ _)
        cases q <;> (first | (go_simp; done) | rfl)
      refine G.stepsL_cons (fun a u hc hdd hd hk hdep => ?_) ?_
      ·
        have d13 : (a.tmps[13]?).getD undef = (.bool true) := hdep ⟨1, .data⟩ (by simp) rfl
        have d19 : (a.tmps[19]?).getD undef = (.bool true) := hdep ⟨7, .data⟩ (by simp) rfl
        refine G.step_val KC KD hc hdd rfl (.bool true) u (G.wanted_plain rfl) ?_ rfl (Below.refl _ _)
        first | (go_simp; done) | rfl
      refine G.stepsL_cons (fun a u hc hdd hd hk hdep => ?_) ?_
      ·
        have d20 : (a.tmps[20]?).getD undef = (.bool true) := hdep ⟨8, .data⟩ (by simp) rfl
        refine G.step_val KC KD hc hdd rfl (.bool true) u (G.wanted_plain rfl) ?_ rfl (Below.refl _ _)
        first | (go_simp; done) | rfl
      refine G.stepsL_cons (fun a u hc hdd hd hk hdep => ?_) ?_
      ·
        have d2 : (a.tmps[2]?).getD undef = (.pointer (some ⟨w.heap.size, 0, none⟩)) := hk 2 (by kernel_rfl)
        refine G.step_val KC KD hc hdd rfl (.agg #[.slice A t0.length cap, .slice B s0.length capB]) u ((G.wanted_guard (j := 9) (b := true) (c := true) rfl (hdep ⟨9, .guard⟩ (by simp) rfl)).trans rfl) ?_ rfl (Below.refl _ _)
        obtain ⟨c0, c1, c2, c3, c4, c5, c6, -⟩ := hc
        first | (go_simp; done) | rfl
      refine G.stepsL_cons (fun a u hc hdd hd hk hdep => ?_) ?_
      ·
        have d22 : (a.tmps[22]?).getD undef = (.agg #[.slice A t0.length cap, .slice B s0.length capB]) := hdep ⟨10, .data⟩ (by simp) rfl
        refine G.step_call KC KD hc hdd rfl 14 #[.agg #[.slice A t0.length cap, .slice B s0.length capB]] ((G.wanted_guard (j := 9) (b := true) (c := true) rfl (hdep ⟨9, .chain⟩ (by simp) rfl)).trans rfl) (by go_simp) ?_
        obtain ⟨-, -, -, -, -, -, -, k7, k8, k9, k10, k11, k12⟩ := hc
        exact (rcheck_any A B cap capB t0 s0 u k7 k8 p0 q0.out hS1.out hS2.out).mono (by rintro e w' ⟨c, rfl, hcc, hb⟩; obtain rfl := check_one hcc hcE.out; exact ⟨_, rfl, rfl, hb⟩)
      refine G.stepsL_cons (fun a u hc hdd hd hk hdep => ?_) ?_
      ·
        have d23 : (a.tmps[23]?).getD undef = (.int .i64 cE) := hdep ⟨11, .data⟩ (by simp) rfl
        refine G.step_val KC KD hc hdd rfl (.bool true) u ((G.wanted_guard (j := 9) (b := true) (c := true) rfl (hdep ⟨9, .guard⟩ (by simp) rfl)).trans rfl) ?_ rfl (Below.refl _ _)
        first | (go_simp; done) | rfl
      refine G.stepsL_cons (fun a u hc hdd hd hk hdep => ?_) ?_
      ·
        have d24 : (a.tmps[24]?).getD undef = (.bool true) := hdep ⟨12, .data⟩ (by simp) rfl
        refine G.step_val KC KD hc hdd rfl (.bool true) u ((G.wanted_guard (j := 9) (b := true) (c := true) rfl (hdep ⟨9, .guard⟩ (by simp) rfl)).trans rfl) ?_ rfl (Below.refl _ _)
        first | (go_simp; done) | rfl
      refine G.stepsL_cons (fun a u hc hdd hd hk hdep => ?_) ?_
      · exact G.step_skip KD hc hdd rfl ((G.wanted_guard (j := 13) (b := false) (c := true) rfl (hdep ⟨13, .guard⟩ (by simp) rfl)).trans rfl) rfl
      refine G.stepsL_cons (fun a u hc hdd hd hk hdep => ?_) ?_
      · exact G.step_skip KD hc hdd rfl ((G.wanted_guard (j := 13) (b := false) (c := true) rfl (hdep ⟨13, .chain⟩ (by simp) rfl)).trans rfl) rfl
      refine G.stepsL_cons (fun a u hc hdd hd hk hdep => ?_) ?_
      · exact G.step_skip KD hc hdd rfl ((G.wanted_guard (j := 13) (b := false) (c := true) rfl (hdep ⟨13, .guard⟩ (by simp) rfl)).trans rfl) rfl
      refine G.stepsL_cons (fun a u hc hdd hd hk hdep => ?_) ?_
      · exact G.step_skip KD hc hdd rfl ((G.wanted_guard (j := 13) (b := false) (c := true) rfl (hdep ⟨13, .guard⟩ (by simp) rfl)).trans rfl) rfl
      refine G.stepsL_cons (fun a u hc hdd hd hk hdep => ?_) ?_
      · exact G.step_skip KD hc hdd rfl ((G.wanted_guard (j := 13) (b := false) (c := true) rfl (hdep ⟨13, .guard⟩ (by simp) rfl)).trans rfl) rfl
      refine G.stepsL_cons (fun a u hc hdd hd hk hdep => ?_) ?_
      · exact G.step_skip KD hc hdd rfl ((G.wanted_guard (j := 13) (b := false) (c := true) rfl (hdep ⟨13, .guard⟩ (by simp) rfl)).trans rfl) rfl
      refine G.stepsL_cons (fun a u hc hdd hd hk hdep => ?_) ?_
      · exact G.step_skip KD hc hdd rfl ((G.wanted_guard (j := 13) (b := false) (c := true) rfl (hdep ⟨13, .guard⟩ (by simp) rfl)).trans rfl) rfl
      refine G.stepsL_cons (fun a u hc hdd hd hk hdep => ?_) ?_
      · exact G.step_skip KD hc hdd rfl ((G.wanted_guard (j := 13) (b := false) (c := true) rfl (hdep ⟨13, .guard⟩ (by simp) rfl)).trans rfl) rfl
      refine G.stepsL_cons (fun a u hc hdd hd hk hdep => ?_) ?_
      · exact G.step_skip KD hc hdd rfl ((G.wanted_guard (j := 13) (b := false) (c := true) rfl (hdep ⟨13, .guard⟩ (by simp) rfl)).trans rfl) rfl
      refine G.stepsL_cons (fun a u hc hdd hd hk hdep => ?_) ?_
      · exact G.step_skip KD hc hdd rfl ((G.wanted_guard (j := 13) (b := false) (c := true) rfl (hdep ⟨13, .guard⟩ (by simp) rfl)).trans rfl) rfl
      refine G.stepsL_cons (fun a u hc hdd hd hk hdep => ?_) ?_
      ·
        have d25 : (a.tmps[25]?).getD undef = (.bool true) := hdep ⟨13, .data⟩ (by simp) rfl
        have d35 : (a.tmps[35]?).getD undef = undef := hdep ⟨23, .data⟩ (by simp) rfl
        refine G.step_val KC KD hc hdd rfl (.bool true) u ((G.wanted_guard (j := 9) (b := true) (c := true) rfl (hdep ⟨9, .guard⟩ (by simp) rfl)).trans rfl) ?_ rfl (Below.refl _ _)
        first | (go_simp; done) | rfl
      refine G.stepsL_cons (fun a u hc hdd hd hk hdep => ?_) ?_
      ·
        have d21 : (a.tmps[21]?).getD undef = (.bool true) := hdep ⟨9, .data⟩ (by simp) rfl
        have d36 : (a.tmps[36]?).getD undef = (.bool true) := hdep ⟨24, .data⟩ (by simp) rfl
        refine G.step_val KC KD hc hdd rfl (.bool true) u (G.wanted_plain rfl) ?_ rfl (Below.refl _ _)
        first | (go_simp; done) | rfl
      refine G.stepsL_cons (fun a u hc hdd hd hk hdep => ?_) ?_
      ·
        have d37 : (a.tmps[37]?).getD undef = (.bool true) := hdep ⟨25, .data⟩ (by simp) rfl
        refine G.step_val KC KD hc hdd rfl (.bool true) u (G.wanted_plain rfl) ?_ rfl (Below.refl _ _)
        first | (go_simp; done) | rfl
      exact G.stepsL_nil
    intro vs' wN hN hh
    have eL : vs' 26 = (.bool true) := by
      obtain ⟨-, -, -, -, -, -, -, -, -, -, -, -, -, -, -, -, -, -, -, -, -, -, -, -, -, -, eX, -⟩ := hh
      exact eX
    set_option maxRecDepth 100000 in simp only [putAll, Act.put, List.setIfInBounds_toArray, List.set_cons_zero, List.set_cons_succ, eL]
    have hBz := Lib.hid hN.2.2.2.2.2.2.2.2.2.2.2.2
    clear hN hh
    go_wp2
    go_ret
    exact ⟨rfl, hBz.out⟩

theorem door_met (os : Os) (args : Array Value) : laidMetH Tryd.prog Rows.eventValidsRow.laid ((World.doorLaid Tryd.prog 400 os).forCall (fun _ _ => 0) ⟨#[], args, []⟩).memory :=
  laidMetH_of_parts3 (fuel := 8) (laidMet_of_run' 8 (by kernel_rfl) (by kernel_rfl)) (by kernel_rfl) (by kernel_rfl)
theorem gPow : Tryd.prog.globalNamed "internal/strconv.uint64pow10" = some 0 := by kernel_rfl
theorem tPow : (Tryd.prog.globals[0]?).map (·.type) = some 119 := by kernel_rfl
theorem of_laid {W : World} (h : laidMetH Tryd.prog Rows.eventValidsRow.laid W) : Lib.TabIs Tryd.prog W "internal/strconv.uint64pow10" .u64 Lib.pow10Tab := by
  rw [MakeChecks.laidMetH_plain _ _ _ (by kernel_rfl)] at h
  have h2 : laidMet Tryd.prog (("internal/strconv.uint64pow10", Lib.tabData .u64 Lib.pow10Tab) :: Rows.eventValidsRow.laid.drop 3) W := h.tail.tail
  exact Lib.tabIs_of_head gPow tPow Tryd.underlying119 Tryd.underlying66 (by kernel_rfl) (by kernel_rfl) h2

set_option maxRecDepth 100000 in
theorem lifted (os : Os) (started : os.Started) (H : Type) (enc : TypeId × Value → H) :
    ReturnsInHanded {} Tryd.checked os 4 .any (fun w args => (Rows.eventValidsSpec.pre enc Tryd.prog Tryd.f4 [] false w args ∧ laidMetH Tryd.prog Rows.eventValidsRow.laid w) ∧ sizedMet enc Tryd.prog Tryd.f4 (OpenSpec.ofChange Rows.eventValidsSpec) false w args) (Rows.eventValidsSpec.post enc Tryd.prog Tryd.f4 false true false false) := by
  refine returnsInHanded_of_change_and (C := Tryd.checked) (X := fun w _ => laidMetH Tryd.prog Rows.eventValidsRow.laid w) (fun _ _ _ hh h => h.of_heap hh) own started (by kernel_rfl) Tryd.func4
    (ChangeSpec.witness_shaped (enc := enc) (C := Tryd.checked) (os := os) (X := fun w _ => laidMetH Tryd.prog Rows.eventValidsRow.laid w) false (World.doorLaid Tryd.prog 400 os) #[.agg #[.slice none 0 0, .slice none 0 0], .agg #[.int .i64 0, .int .i64 0, .slice none 0 0]] 8 rfl (World.shaped_of_RefB (by kernel_rfl) (by kernel_rfl)) (by kernel_rfl) (by kernel_rfl) (by kernel_rfl) (door_met os _)) ?_
  intro W base args ds gs before hval0 hW _ hsz0 hL _
  have hTab := of_laid hL
  clear hL
  have hsz : (DataW.weightsEach Tryd.prog (Tryd.f4.params.toList ++ Rows.eventValidsSpec.plain.varTypes Tryd.prog) (ds ++ gs)).all (· ≤ reachBytes) = true := hsz0
  clear hsz0
  have hval : ∀ (j : Nat) t v, Tryd.f4.params[j]? = some t → args[j]? = some v → Value.okWide Tryd.prog W .any base t v := hval0
  have hW' := hW
  obtain ⟨p, q, hA0, hV, rfl, hfz, hnd⟩ := hW
  have hA : DataW.TrodAll enc Tryd.prog W 0 (fun _ => true) true Tryd.f4.params.toList args.toList ds p := hA0
  rw [Tryd.params4] at hA hval hsz
  obtain ⟨v0, vs0, d0, ds0, p0, q0, hargs, rfl, rfl, h0, r0⟩ := trodAll_cons hA
  obtain ⟨v1, vs1, d1, ds1, p1, q1, rfl, rfl, rfl, h1, r1⟩ := trodAll_cons r0
  obtain ⟨rfl, rfl, rfl⟩ := trodAll_nil r1
  obtain rfl : args = #[v0, v1] := by cases args; simp_all
  obtain ⟨rfl, rfl⟩ := trodVars_none hV
  have kk0 := h0
  have lt0 : ∀ x ∈ p0, x.block < W.heap.size := by obtain ⟨m, hm⟩ := kk0; exact DataW.trod_lt m _ _ _ hm
  have kk1 := h1
  have lt1 : ∀ x ∈ p1, x.block < W.heap.size := by obtain ⟨m, hm⟩ := kk1; exact DataW.trod_lt m _ _ _ hm
  obtain ⟨x0, y0, t0, s0, rfl, w0, u0, pp0, qq0, rr0⟩ := open_schema (hval 0 25 v0 rfl rfl) h0 (wb_each hsz (j := 0) (t := 25) rfl rfl)
  obtain ⟨ty1, tm1, B1, c1, z1, rfl, w1, ss1⟩ := open_event (hval 1 42 v1 rfl rfl) h1 (wb_each hsz (j := 1) (t := 42) rfl rfl)
  clear hA0 hval0
  refine (walk W hTab x0 y0 t0 s0 w0 u0 pp0 qq0 rr0 ty1 tm1 B1 c1 z1 w1 ss1).mono fun e W' ⟨he, bel⟩ => ?_
  subst he
  exact ⟨_, rfl, _, _, _, [], _, [], hW', trodAll_mk1 (shut_bool Tryd.underlying4 _), (trodAll_cons_mk (Below.trod laidOut (by kernel_rfl) (of_decide_eq_true (by kernel_rfl)) kk0 bel lt0) (trodAll_cons_mk (Below.trod laidOut (by kernel_rfl) (of_decide_eq_true (by kernel_rfl)) kk1 bel lt1) trodAll_mk0)), rfl, bel.frame _, fun h => by cases h⟩

theorem over : Rows.eventValidsRow.holds Tryd.pinned (OpenSpec.ofChange Rows.eventValidsSpec) :=
  OpenClaim.holds_of_wide 4 Tryd.f4 rfl rfl rfl rfl rfl rfl rfl ⟨rfl, rfl, rfl, rfl, rfl⟩ rfl rfl rfl rfl rfl (by kernel_rfl) Tryd.func4 (by kernel_rfl)
    (of_decide_eq_true (by kernel_rfl)) (by unfold Func.isWrapper; first | (rw [if_pos (by decide +kernel)]; kernel_rfl) | (rw [if_neg (by decide +kernel)]; exact ⟨rfl, rfl⟩))
    (fun os started H enc _ => lifted os started H enc)

/-- the statement -/
theorem proved : Rows.EventValidsCardSaid :=
  Claim7.holds_tied_plain_at .later [] [.data, .data, .data] true (true, "428467a3bcc97c58a795449468668db1a86208c4a5e6d5a750a7482daa4be0f0") false
    over (fun _ h => by cases h) (by kernel_rfl) (fun _ h => by cases h) eventValids_row_tie rfl ⟨rfl, rfl⟩ (by kernel_rfl) rfl
    (fun f fn hf hfn => by
      obtain rfl : f = 4 := Option.some.inj ((show Tryd.prog.funcNamed "auspice/auspicelaw04.EventValids" = some 4 by kernel_rfl).symm.trans hf) |>.symm
      obtain rfl : fn = Tryd.f4 := (Option.some.inj (Tryd.func4.symm.trans hfn)).symm
      exact ⟨by kernel_rfl, fun j t ht => by
        rw [Tryd.params4] at ht
        have hm : t ∈ [25, 42] := by simpa using Array.mem_of_getElem? ht
        have hall : ([25, 42].all fun u => !Tryd.prog.wantsStandIn u) = true := by kernel_rfl
        exact (show Tryd.prog.wantsStandIn t = false by simpa using List.all_eq_true.1 hall t hm)⟩)
    (by kernel_rfl)
#print axioms proved
end Go.Proofs.YtbgjllpdbbolfabDoor.eventValids
