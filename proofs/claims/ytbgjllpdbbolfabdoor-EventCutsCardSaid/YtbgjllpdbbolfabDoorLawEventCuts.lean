/- EventCuts: of a script that is wrong at a place all that is ahead of it is right, and it is wrong there whatever comes behind. -/
import Derived.Test.YtbgjllpdbbolfabDoorRows
import Derived.Test.YtbgjllpdbbolfabDoorCards
import Derived.Test.YtbgjllpdbbolfabDoorTie
import Derived.LaidMore
import Derived.LaidLaws
import Derived.ChangeVars
import Derived.SevenTiedAt
import Derived.Stop.Joined
import Derived.Stop.LaidErr
import Derived.Lib.LaidTab
import Derived.Lib.ItoaNum
import Derived.WalkKit
import Derived.ProofKit
import Derived.OpenShut
import Derived.ShutString
import Derived.ChangeOld
import Derived.Below
import Derived.Lib.SmallJoins
import Derived.SizedLaws
import Derived.Test.YtbgjllpdbbolfabDoorEvA
import Derived.Test.YtbgjllpdbbolfabDoorEvE
import Derived.Test.YtbgjllpdbbolfabDoorEvO
namespace Go.Proofs.YtbgjllpdbbolfabDoor.eventCuts
open Go.ChangeShapes Go.WideShapes Go.ChangeAt Go.RowKit Go.Joins
set_option linter.unusedVariables false
set_option linter.unusedSimpArgs false

theorem own : ownKnob Tryd.prog.godebug = none := by kernel_rfl
theorem laidOut : laidOutB Tryd.prog = true := by kernel_rfl

set_option maxHeartbeats 4000000 in
theorem walk (w : World) (htab : Lib.TabIs Tryd.prog w "internal/strconv.uint64pow10" .u64 Lib.pow10Tab) (x0 y0 : Value) (t0 : List ST) (s0 : List ByteArray) (w0 : TypesIn w x0 t0) (u0 : SymsIn w y0 s0) (p0 : t0.length * 40 ≤ 140737488351232) (q0 : ∀ t ∈ t0, t.2.length * 24 ≤ 140737488351232) (r0 : s0.length * 16 ≤ 140737488351232) (A1 : Option Addr) (c1 : Nat) (z1 : List Ev) (w1 : EvsAt w A1 z1) (u1 : z1.length ≤ c1) (x1 : c1 ≤ maxLen) (s1 : z1.length * 40 ≤ 140737488351232) (y1 : ∀ e ∈ z1, e.2.2.length * 16 ≤ 140737488351232) :
    Calls Tryd.prog 7 #[.agg #[x0, y0], .slice A1 z1.length c1] w fun e w' => e = .returned (.bool true) ∧ Below w.heap.size w w' := by
  have HW := Lib.hid (And.intro w0 u0)
  obtain ⟨A, cap, rfl, hTA⟩ := w0
  obtain ⟨B, capB, rfl, _, hSB⟩ := u0
  have hb0 := m1 w (.cells #[.slice A t0.length cap, .slice B s0.length capB] 25)
  have hE1 := Lib.hid (w1.later hb0)
  have tab := Lib.hid (Lib.tabBelow_of_tabIs htab)
  replace q0 := Lib.hid q0
  replace y1 := Lib.hid y1
  clear hTA hSB htab w1
  go_enter Tryd.func7, Tryd.ntmps7
  go_wp2_with fail
  generalize w.alloc (.cells #[.slice A t0.length cap, .slice B s0.length capB] 25) = v at *
  refine (sto_any _ _ t0 s0 v (HW.out.1.later hb0) (HW.out.2.later hb0) p0 q0.out r0).mono ?_; rintro e w2 ⟨x1', x2', rfl, hT2, hS2', hb2⟩
  obtain ⟨A2, cap2, rfl, hTA2⟩ := hT2
  obtain ⟨B2, capB2, rfl, ⟨hS21, hS22⟩, hSB2⟩ := hS2'
  have hTA2 : TypesAt w2 A2 t0 := hTA2
  have hSB2 : SymsAt w2 B2 s0 := hSB2
  have hb3 := m1 w2 (.cells #[.slice A2 t0.length cap2, .slice B2 s0.length capB2] 30)
  have k5 := Blk.made w2 30 #[.slice A2 t0.length cap2, .slice B2 s0.length capB2]
  have hb23 := mmore hb2 hb3
  have dT := hTA2.later hb3
  have dS := hSB2.later hb3
  have dE := hE1.out.later hb23
  have dB := mmore hb0 hb23
  clear hTA2 hSB2 hb2 hb3 hb0 hb23 HW hE1
  go_upto_region 2 with (fail)
  generalize w2.alloc (.cells #[.slice A2 t0.length cap2, .slice B2 s0.length capB2] 30) = w3 at *
  generalize w2.heap.size = g5 at *
  have d0 : w3.cell? ⟨g5, 0, none⟩ = some (.slice A2 t0.length cap2) := k5.cell 0
  have d1 : w3.cell? ⟨g5, 1, none⟩ = some (.slice B2 s0.length capB2) := k5.cell 1
  have base := And.intro d0 (And.intro d1 (And.intro dT (And.intro dS (And.intro dE dB))))
  clear k5
  go_region_held3 (fun w' => w'.cell? ⟨g5, 0, none⟩ = some (.slice A2 t0.length cap2) ∧ w'.cell? ⟨g5, 1, none⟩ = some (.slice B2 s0.length capB2) ∧ TypesAt w' A2 t0 ∧ SymsAt w' B2 s0 ∧ EvsAt w' A1 z1 ∧ Below w.heap.size w w')
    (first | exact keepSd base | go_keep | exact keepS hb1 (by first | assumption | exact ⟨by assumption, by assumption, by assumption, by assumption, by assumption, by assumption⟩))
    (first
      | (go_at_call 18; refine (evall_any A1 c1 z1 _ (by first | assumption | exact evsS (by assumption)) s1 y1.out).mono ?_; rintro e w1 ⟨A3, c3, rfl, hl31, hl32, hE3, hb1⟩)
      | (go_at_call 17; refine (script_any A2 B2 A3 cap2 capB2 c3 t0 s0 z1 _ (by first | assumption | exact typesS (by assumption)) (by first | assumption | exact symsS (by assumption)) (by assumption) p0 q0.out hS21 hS22 s1 y1.out).mono ?_; rintro e w1 ⟨p, r, rfl, hP, hb1⟩))
  rename_i hS
  clear base d0 d1 dT dS dE dB hE3
  rcases hP with ⟨hall, rfl, rfl⟩ | ⟨i, ev, hi, hahead, rfl, hr⟩
  · have hBz := hS.2.2.2.2.2
    clear hS hall
    go_wp2_with fail
    refine (evawake_any _ (tab.out _ hBz)).mono ?_; rintro e w6 ⟨rfl, hb6⟩
    have hB6 := mmore hBz hb6
    go_wp2
    go_ret
    exact ⟨rfl, hB6⟩
  · have hil : i < z1.length := (List.getElem?_eq_some_iff.1 hi).1
    have hr0 : (r == 0) = false := by rcases hr with ⟨_, rfl⟩ | ⟨_, _, rfl⟩ <;> rfl
    have i0 : (0 : Int) ≤ (i : Int) := by omega
    have i1 : (i : Int) < (z1.length : Int) := by omega
    have i2 : (i : Int) ≤ (c1 : Int) := by omega
    have SA := Lib.hid (scr_ahead hahead)
    have SW := Lib.hid (scr_with hi hahead hr)
    replace hr := Lib.hid hr
    replace hi := Lib.hid hi
    clear hahead
    obtain ⟨b, off, rfl, hcell⟩ := hS.2.2.2.2.1 (by omega)
    have e0 := hS.1
    have e1 := hS.2.1
    have hle : i ≤ z1.length := by omega
    have hle1 : i + 1 ≤ z1.length := by omega
    have t1 : wrap64 ((i : Int) + 1) = (i : Int) + 1 := by unfold wrap64; omega
    have t9 : IntKind.i64.wrap ((i : Int) + 1) = (i : Int) + 1 := by rw [IntKind.wrap_i64]; omega
    have t2 : ((i : Int) + 1).toNat = i + 1 := by omega
    have t3 : (i : Int) + 1 ≤ (c1 : Int) := by omega
    have t4 : (0 : Int) ≤ (i : Int) + 1 := by omega
    have t5 : i + 1 ≤ c1 := by omega
    have t6 : i < c1 := by omega
    have t7 : ¬ (c1 : Int) < (i : Int) + 1 := by omega
    have t8 : ¬ (i : Int) + 1 < 0 := by omega
    clear hcell
    go_upto_region 7 with (fail)
    go_region_held3 (fun w' => w'.cell? ⟨g5, 0, none⟩ = some (.slice A2 t0.length cap2) ∧ w'.cell? ⟨g5, 1, none⟩ = some (.slice B2 s0.length capB2) ∧ TypesAt w' A2 t0 ∧ SymsAt w' B2 s0 ∧ EvsAt w' (some ⟨b, off, none⟩) z1 ∧ Below w.heap.size w w')
      (first | exact keepSd hS | go_keep | exact keepS hb1 (by first | assumption | exact ⟨by assumption, by assumption, by assumption, by assumption, by assumption, by assumption⟩))
      (first
        | (go_at_call 18; refine (all_take (some ⟨b, off, none⟩) c1 z1 i _ (by first | assumption | exact evsS (by assumption)) hle s1 y1.out).mono ?_; rintro e w1 ⟨A4, c4, rfl, hl41, hl42, hE4, hb1⟩)
        | (go_at_call 17; refine (script_take A2 B2 A4 cap2 capB2 c4 t0 s0 z1 i _ (by first | assumption | exact typesS (by assumption)) (by first | assumption | exact symsS (by assumption)) (by assumption) hle p0 q0.out hS21 hS22 s1 y1.out).mono ?_; rintro e w1 ⟨p4, r4, rfl, hP4, hb1⟩; obtain ⟨rfl, rfl⟩ := scr_one SA.out hP4))
    rename_i hS7
    clear hS e0 e1 hE4
    have hS := hS7
    have e0 := hS.1
    have e1 := hS.2.1
    clear hS7
    go_upto_region 8 with (fail)
    go_region_held3 (fun w' => w'.cell? ⟨g5, 0, none⟩ = some (.slice A2 t0.length cap2) ∧ w'.cell? ⟨g5, 1, none⟩ = some (.slice B2 s0.length capB2) ∧ TypesAt w' A2 t0 ∧ SymsAt w' B2 s0 ∧ EvsAt w' (some ⟨b, off, none⟩) z1 ∧ Below w.heap.size w w')
      (first | exact keepSd hS | go_keep | exact keepS hb1 (by first | assumption | exact ⟨by assumption, by assumption, by assumption, by assumption, by assumption, by assumption⟩))
      (first
        | (go_at_call 18; refine (all_take (some ⟨b, off, none⟩) c1 z1 (i + 1) _ (by first | assumption | exact evsS (by assumption)) hle1 s1 y1.out).mono ?_; rintro e w1 ⟨A4, c4, rfl, hl41, hl42, hE4, hb1⟩)
        | (go_at_call 17; refine (script_take A2 B2 A4 cap2 capB2 c4 t0 s0 z1 (i + 1) _ (by first | assumption | exact typesS (by assumption)) (by first | assumption | exact symsS (by assumption)) (by assumption) hle1 p0 q0.out hS21 hS22 s1 y1.out).mono ?_; rintro e w1 ⟨p4, r4, rfl, hP4, hb1⟩; obtain ⟨rfl, rfl⟩ := scr_one SW.out hP4))
    rename_i hS8
    clear hS e0 e1 hE4
    obtain ⟨e0, e1, eT, eS, eE, eB⟩ := hS8
    obtain ⟨b', off', e', hcell⟩ := eE (by omega)
    obtain ⟨f0, f1, Bx, cp, f2, hR⟩ := hcell i _ hi.out
    injection e' with e'
    injection e' with e2 e3
    subst e2 e3
    have hfb := y1.out _ (List.mem_of_getElem? hi.out)
    generalize ev = ev at *
    obtain ⟨ty, tm, vs⟩ := ev
    simp only at f0 f1 f2 hR hfb
    have base := And.intro e0 (And.intro e1 (And.intro f0 (And.intro f1 (And.intro f2 (And.intro eT (And.intro eS (And.intro hR eB)))))))
    have base9 := keepDrew base
    clear base e0 e1 f0 f1 f2 eT eS hR eB eE hcell
    go_upto_region 9 with (fail)
    rcases hr.out with ⟨hno, rfl⟩ | ⟨hok, _, rfl⟩
    · have hQ : ∀ q' : Bool, (q' = true ↔ EvOk t0 s0 ty tm vs) → q' = false := fun q' h => by
        cases q'
        · rfl
        · exact absurd (h.1 rfl) hno
      have KD := G.keepsD_true []
      refine G.region_words (fun w' => w'.cell? ⟨g5, 0, none⟩ = some (.slice A2 t0.length cap2) ∧ w'.cell? ⟨g5, 1, none⟩ = some (.slice B2 s0.length capB2) ∧ w'.cell? ⟨b, off + i * 3, none⟩ = some (.int .i64 ty) ∧ w'.cell? ⟨b, off + i * 3 + 1, none⟩ = some (.int .i64 tm) ∧ w'.cell? ⟨b, off + i * 3 + 2, none⟩ = some (.slice Bx vs.length cp) ∧ TypesAt w' A2 t0 ∧ SymsAt w' B2 s0 ∧ RowV w' Bx vs.length vs ∧ Below w.heap.size w w') [G.isW (.bool true), G.isW (.bool true), G.isW (.int .i64 0), G.isW (.bool true), G.isW (.bool true), G.isW (.bool true), G.isW (.int .i64 (i : Int)), G.isW (.int .i64 (i : Int)), G.isW (.bool true), G.isW (.bool true), G.isW (.bool true), G.isW (.int .i64 20), G.isW (.int .i64 20), G.isW (.bool true), G.isW (.bool true), G.isW (.bool true), G.isW (.int .i64 20), G.isW (.bool true), G.isW (.agg #[.slice A2 t0.length cap2, .slice B2 s0.length capB2]), G.isW (.slice (some ⟨b, off, none⟩) z1.length c1), G.isW (.int .i64 (i : Int)), G.isW (.pointer (some ⟨b, off + i * 3, none⟩)), G.isW (.agg #[.int .i64 ty, .int .i64 tm, .slice Bx vs.length cp]), evW ty tm vs, G.isW (.bool false), G.isW (.bool true), G.isW (.bool true), G.isW (.bool true), G.isW (.bool true)] (by kernel_rfl) (by repeat' (first | exact G.monoL_nil | exact G.is_mono _ | exact ev_mono _ _ _ | refine G.monoL_cons ?_ ?_)) (by kernel_rfl) (by kernel_rfl) (fun _ _ h hb => keepV hb h) base9 ?_ ?_
      · intro KC
        clear base9
        refine G.stepsL_cons (fun a u hc hdd hd hk hdep => ?_) ?_
        ·
          refine G.step_call KC KD hc hdd rfl 10 #[] (G.wanted_plain rfl) (by go_simp) ?_
          obtain ⟨-, -, -, -, -, k5, k6, k7, k8⟩ := hc
          exact (evawake_any u (tab.out u k8)).mono (by rintro e w' ⟨rfl, hb⟩; exact ⟨_, rfl, rfl, hb⟩)
        refine G.stepsL_cons (fun a u hc hdd hd hk hdep => ?_) ?_
        ·
          have d55 : (a.tmps[55]?).getD undef = (.bool true) := hdep ⟨0, .data⟩ (by simp) rfl
          refine G.step_val KC KD hc hdd rfl (.bool true) u (G.wanted_plain rfl) ?_ rfl (Below.refl _ _)
          first | (go_simp; done) | rfl
        refine G.stepsL_cons (fun a u hc hdd hd hk hdep => ?_) ?_
        ·
          have d9 : (a.tmps[9]?).getD undef = (.int .i64 0) := hk 9 (by kernel_rfl)
          refine G.step_val KC KD hc hdd rfl (.int .i64 0) u ((G.wanted_guard (j := 1) (b := true) (c := true) rfl (hdep ⟨1, .guard⟩ (by simp) rfl)).trans rfl) ?_ rfl (Below.refl _ _)
          first | (go_simp; done) | rfl
        refine G.stepsL_cons (fun a u hc hdd hd hk hdep => ?_) ?_
        ·
          have d57 : (a.tmps[57]?).getD undef = (.int .i64 0) := hdep ⟨2, .data⟩ (by simp) rfl
          refine G.step_val KC KD hc hdd rfl (.bool true) u ((G.wanted_guard (j := 1) (b := true) (c := true) rfl (hdep ⟨1, .guard⟩ (by simp) rfl)).trans rfl) ?_ rfl (Below.refl _ _)
          first | (go_simp; done) | rfl
        refine G.stepsL_cons (fun a u hc hdd hd hk hdep => ?_) ?_
        ·
          have d56 : (a.tmps[56]?).getD undef = (.bool true) := hdep ⟨1, .data⟩ (by simp) rfl
          have d58 : (a.tmps[58]?).getD undef = (.bool true) := hdep ⟨3, .data⟩ (by simp) rfl
          refine G.step_val KC KD hc hdd rfl (.bool true) u (G.wanted_plain rfl) ?_ rfl (Below.refl _ _)
          first | (go_simp; done) | rfl
        refine G.stepsL_cons (fun a u hc hdd hd hk hdep => ?_) ?_
        ·
          have d59 : (a.tmps[59]?).getD undef = (.bool true) := hdep ⟨4, .data⟩ (by simp) rfl
          refine G.step_val KC KD hc hdd rfl (.bool true) u (G.wanted_plain rfl) ?_ rfl (Below.refl _ _)
          first | (go_simp; done) | rfl
        refine G.stepsL_cons (fun a u hc hdd hd hk hdep => ?_) ?_
        ·
          have d10 : (a.tmps[10]?).getD undef = (.int .i64 (i : Int)) := hk 10 (by kernel_rfl)
          refine G.step_val KC KD hc hdd rfl (.int .i64 (i : Int)) u ((G.wanted_guard (j := 5) (b := true) (c := true) rfl (hdep ⟨5, .guard⟩ (by simp) rfl)).trans rfl) ?_ rfl (Below.refl _ _)
          first | (go_simp; done) | rfl
        refine G.stepsL_cons (fun a u hc hdd hd hk hdep => ?_) ?_
        ·
          have d6 : (a.tmps[6]?).getD undef = (.int .i64 (i : Int)) := hk 6 (by kernel_rfl)
          refine G.step_val KC KD hc hdd rfl (.int .i64 (i : Int)) u ((G.wanted_guard (j := 5) (b := true) (c := true) rfl (hdep ⟨5, .guard⟩ (by simp) rfl)).trans rfl) ?_ rfl (Below.refl _ _)
          first | (go_simp; done) | rfl
        refine G.stepsL_cons (fun a u hc hdd hd hk hdep => ?_) ?_
        ·
          have d61 : (a.tmps[61]?).getD undef = (.int .i64 (i : Int)) := hdep ⟨6, .data⟩ (by simp) rfl
          have d62 : (a.tmps[62]?).getD undef = (.int .i64 (i : Int)) := hdep ⟨7, .data⟩ (by simp) rfl
          refine G.step_val KC KD hc hdd rfl (.bool true) u ((G.wanted_guard (j := 5) (b := true) (c := true) rfl (hdep ⟨5, .guard⟩ (by simp) rfl)).trans rfl) ?_ rfl (Below.refl _ _)
          first | (go_simp; done) | rfl
        refine G.stepsL_cons (fun a u hc hdd hd hk hdep => ?_) ?_
        ·
          have d60 : (a.tmps[60]?).getD undef = (.bool true) := hdep ⟨5, .data⟩ (by simp) rfl
          have d63 : (a.tmps[63]?).getD undef = (.bool true) := hdep ⟨8, .data⟩ (by simp) rfl
          refine G.step_val KC KD hc hdd rfl (.bool true) u (G.wanted_plain rfl) ?_ rfl (Below.refl _ _)
          first | (go_simp; done) | rfl
        refine G.stepsL_cons (fun a u hc hdd hd hk hdep => ?_) ?_
        ·
          have d64 : (a.tmps[64]?).getD undef = (.bool true) := hdep ⟨9, .data⟩ (by simp) rfl
          refine G.step_val KC KD hc hdd rfl (.bool true) u (G.wanted_plain rfl) ?_ rfl (Below.refl _ _)
          first | (go_simp; done) | rfl
        refine G.stepsL_cons (fun a u hc hdd hd hk hdep => ?_) ?_
        ·
          have d11 : (a.tmps[11]?).getD undef = (.int .i64 20) := hk 11 (by kernel_rfl)
          refine G.step_val KC KD hc hdd rfl (.int .i64 20) u ((G.wanted_guard (j := 10) (b := true) (c := true) rfl (hdep ⟨10, .guard⟩ (by simp) rfl)).trans rfl) ?_ rfl (Below.refl _ _)
          first | (go_simp; done) | rfl
        refine G.stepsL_cons (fun a u hc hdd hd hk hdep => ?_) ?_
        ·
          have d7 : (a.tmps[7]?).getD undef = (.int .i64 20) := hk 7 (by kernel_rfl)
          refine G.step_val KC KD hc hdd rfl (.int .i64 20) u ((G.wanted_guard (j := 10) (b := true) (c := true) rfl (hdep ⟨10, .guard⟩ (by simp) rfl)).trans rfl) ?_ rfl (Below.refl _ _)
          first | (go_simp; done) | rfl
        refine G.stepsL_cons (fun a u hc hdd hd hk hdep => ?_) ?_
        ·
          have d66 : (a.tmps[66]?).getD undef = (.int .i64 20) := hdep ⟨11, .data⟩ (by simp) rfl
          have d67 : (a.tmps[67]?).getD undef = (.int .i64 20) := hdep ⟨12, .data⟩ (by simp) rfl
          refine G.step_val KC KD hc hdd rfl (.bool true) u ((G.wanted_guard (j := 10) (b := true) (c := true) rfl (hdep ⟨10, .guard⟩ (by simp) rfl)).trans rfl) ?_ rfl (Below.refl _ _)
          first | (go_simp; done) | rfl
        refine G.stepsL_cons (fun a u hc hdd hd hk hdep => ?_) ?_
        ·
          have d65 : (a.tmps[65]?).getD undef = (.bool true) := hdep ⟨10, .data⟩ (by simp) rfl
          have d68 : (a.tmps[68]?).getD undef = (.bool true) := hdep ⟨13, .data⟩ (by simp) rfl
          refine G.step_val KC KD hc hdd rfl (.bool true) u (G.wanted_plain rfl) ?_ rfl (Below.refl _ _)
          first | (go_simp; done) | rfl
        refine G.stepsL_cons (fun a u hc hdd hd hk hdep => ?_) ?_
        ·
          have d69 : (a.tmps[69]?).getD undef = (.bool true) := hdep ⟨14, .data⟩ (by simp) rfl
          refine G.step_val KC KD hc hdd rfl (.bool true) u (G.wanted_plain rfl) ?_ rfl (Below.refl _ _)
          first | (go_simp; done) | rfl
        refine G.stepsL_cons (fun a u hc hdd hd hk hdep => ?_) ?_
        ·
          have d7 : (a.tmps[7]?).getD undef = (.int .i64 20) := hk 7 (by kernel_rfl)
          refine G.step_val KC KD hc hdd rfl (.int .i64 20) u ((G.wanted_guard (j := 15) (b := true) (c := true) rfl (hdep ⟨15, .guard⟩ (by simp) rfl)).trans rfl) ?_ rfl (Below.refl _ _)
          first | (go_simp; done) | rfl
        refine G.stepsL_cons (fun a u hc hdd hd hk hdep => ?_) ?_
        ·
          have d71 : (a.tmps[71]?).getD undef = (.int .i64 20) := hdep ⟨16, .data⟩ (by simp) rfl
          refine G.step_val KC KD hc hdd rfl (.bool true) u ((G.wanted_guard (j := 15) (b := true) (c := true) rfl (hdep ⟨15, .guard⟩ (by simp) rfl)).trans rfl) ?_ rfl (Below.refl _ _)
          first | (go_simp; done) | rfl
        refine G.stepsL_cons (fun a u hc hdd hd hk hdep => ?_) ?_
        ·
          have d5 : (a.tmps[5]?).getD undef = (.pointer (some ⟨g5, 0, none⟩)) := hk 5 (by kernel_rfl)
          refine G.step_val KC KD hc hdd rfl (.agg #[.slice A2 t0.length cap2, .slice B2 s0.length capB2]) u ((G.wanted_guard (j := 15) (b := true) (c := true) rfl (hdep ⟨15, .guard⟩ (by simp) rfl)).trans rfl) ?_ rfl (Below.refl _ _)
          obtain ⟨c0, c1', c2, c3, c4, -⟩ := hc
          first | (go_simp; done) | rfl
        refine G.stepsL_cons (fun a u hc hdd hd hk hdep => ?_) ?_
        ·
          have d1 : (a.tmps[1]?).getD undef = (.slice (some ⟨b, off, none⟩) z1.length c1) := hk 1 (by kernel_rfl)
          refine G.step_val KC KD hc hdd rfl (.slice (some ⟨b, off, none⟩) z1.length c1) u ((G.wanted_guard (j := 15) (b := true) (c := true) rfl (hdep ⟨15, .guard⟩ (by simp) rfl)).trans rfl) ?_ rfl (Below.refl _ _)
          first | (go_simp; done) | rfl
        refine G.stepsL_cons (fun a u hc hdd hd hk hdep => ?_) ?_
        ·
          have d6 : (a.tmps[6]?).getD undef = (.int .i64 (i : Int)) := hk 6 (by kernel_rfl)
          refine G.step_val KC KD hc hdd rfl (.int .i64 (i : Int)) u ((G.wanted_guard (j := 15) (b := true) (c := true) rfl (hdep ⟨15, .guard⟩ (by simp) rfl)).trans rfl) ?_ rfl (Below.refl _ _)
          first | (go_simp; done) | rfl
        refine G.stepsL_cons (fun a u hc hdd hd hk hdep => ?_) ?_
        ·
          have d74 : (a.tmps[74]?).getD undef = (.slice (some ⟨b, off, none⟩) z1.length c1) := hdep ⟨19, .data⟩ (by simp) rfl
          have d75 : (a.tmps[75]?).getD undef = (.int .i64 (i : Int)) := hdep ⟨20, .data⟩ (by simp) rfl
          refine G.step_val KC KD hc hdd rfl (.pointer (some ⟨b, off + i * 3, none⟩)) u ((G.wanted_guard (j := 15) (b := true) (c := true) rfl (hdep ⟨15, .guard⟩ (by simp) rfl)).trans rfl) ?_ rfl (Below.refl _ _)
          first | (go_simp; done) | rfl
        refine G.stepsL_cons (fun a u hc hdd hd hk hdep => ?_) ?_
        ·
          have d76 : (a.tmps[76]?).getD undef = (.pointer (some ⟨b, off + i * 3, none⟩)) := hdep ⟨21, .data⟩ (by simp) rfl
          refine G.step_val KC KD hc hdd rfl (.agg #[.int .i64 ty, .int .i64 tm, .slice Bx vs.length cp]) u ((G.wanted_guard (j := 15) (b := true) (c := true) rfl (hdep ⟨15, .guard⟩ (by simp) rfl)).trans rfl) ?_ rfl (Below.refl _ _)
          obtain ⟨c0, c1', c2, c3, c4, -⟩ := hc
          first | (go_simp; done) | rfl
        refine G.stepsL_cons (fun a u hc hdd hd hk hdep => ?_) ?_
        ·
          have d77 : (a.tmps[77]?).getD undef = (.agg #[.int .i64 ty, .int .i64 tm, .slice Bx vs.length cp]) := hdep ⟨22, .data⟩ (by simp) rfl
          refine G.step_call KC KD hc hdd rfl 13 #[.agg #[.int .i64 ty, .int .i64 tm, .slice Bx vs.length cp]] ((G.wanted_guard (j := 15) (b := true) (c := true) rfl (hdep ⟨15, .chain⟩ (by simp) rfl)).trans rfl) (by go_simp) ?_
          obtain ⟨-, -, -, -, -, k5, k6, k7, k8⟩ := hc
          exact (evto_any Bx cp ty tm vs u k7 hfb).mono (by rintro e w' ⟨B', c', rfl, h1, hb⟩; exact ⟨_, rfl, ⟨B', c', rfl, h1⟩, hb⟩)
        refine G.stepsL_cons (fun a u hc hdd hd hk hdep => ?_) ?_
        ·
          have d73 : (a.tmps[73]?).getD undef = (.agg #[.slice A2 t0.length cap2, .slice B2 s0.length capB2]) := hdep ⟨18, .data⟩ (by simp) rfl
          obtain ⟨E2, capE2, d78, hE2⟩ : evW ty tm vs ((a.tmps[78]?).getD undef) u := hdep ⟨23, .data⟩ (by simp) rfl
          refine G.step_call KC KD hc hdd rfl 12 #[.agg #[.slice A2 t0.length cap2, .slice B2 s0.length capB2], .agg #[.int .i64 ty, .int .i64 tm, .slice E2 vs.length capE2]] ((G.wanted_guard (j := 15) (b := true) (c := true) rfl (hdep ⟨15, .guard⟩ (by simp) rfl)).trans rfl) (by go_simp) ?_
          obtain ⟨-, -, -, -, -, k5, k6, k7, k8⟩ := hc
          exact (evalid_any A2 B2 E2 cap2 capB2 capE2 t0 s0 ty tm vs u k5 k6 hE2 p0 q0.out hS21 hS22 (by omega)).mono (by
      rintro e w' ⟨q', rfl, hq', hb⟩
      obtain rfl : q' = false := hQ q' hq'
      exact ⟨_, rfl, rfl, hb⟩)
        refine G.stepsL_cons (fun a u hc hdd hd hk hdep => ?_) ?_
        ·
          have d79 : (a.tmps[79]?).getD undef = (.bool false) := hdep ⟨24, .data⟩ (by simp) rfl
          refine G.step_val KC KD hc hdd rfl (.bool true) u ((G.wanted_guard (j := 15) (b := true) (c := true) rfl (hdep ⟨15, .guard⟩ (by simp) rfl)).trans rfl) ?_ rfl (Below.refl _ _)
          first | (go_simp; done) | rfl
        refine G.stepsL_cons (fun a u hc hdd hd hk hdep => ?_) ?_
        ·
          have d72 : (a.tmps[72]?).getD undef = (.bool true) := hdep ⟨17, .data⟩ (by simp) rfl
          have d80 : (a.tmps[80]?).getD undef = (.bool true) := hdep ⟨25, .data⟩ (by simp) rfl
          refine G.step_val KC KD hc hdd rfl (.bool true) u ((G.wanted_guard (j := 15) (b := true) (c := true) rfl (hdep ⟨15, .guard⟩ (by simp) rfl)).trans rfl) ?_ rfl (Below.refl _ _)
          first | (go_simp; done) | rfl
        refine G.stepsL_cons (fun a u hc hdd hd hk hdep => ?_) ?_
        ·
          have d70 : (a.tmps[70]?).getD undef = (.bool true) := hdep ⟨15, .data⟩ (by simp) rfl
          have d81 : (a.tmps[81]?).getD undef = (.bool true) := hdep ⟨26, .data⟩ (by simp) rfl
          refine G.step_val KC KD hc hdd rfl (.bool true) u (G.wanted_plain rfl) ?_ rfl (Below.refl _ _)
          first | (go_simp; done) | rfl
        refine G.stepsL_cons (fun a u hc hdd hd hk hdep => ?_) ?_
        ·
          have d82 : (a.tmps[82]?).getD undef = (.bool true) := hdep ⟨27, .data⟩ (by simp) rfl
          refine G.step_val KC KD hc hdd rfl (.bool true) u (G.wanted_plain rfl) ?_ rfl (Below.refl _ _)
          first | (go_simp; done) | rfl
        exact G.stepsL_nil
      intro vs' wN hN hh
      have eL : vs' 28 = (.bool true) := by
        obtain ⟨-, -, -, -, -, -, -, -, -, -, -, -, -, -, -, -, -, -, -, -, -, -, -, -, -, -, -, -, eX, -⟩ := hh
        exact eX
      set_option maxRecDepth 100000 in simp only [putAll, Act.put, List.setIfInBounds_toArray, List.set_cons_zero, List.set_cons_succ, eL]
      have hBz := Lib.hid hN.2.2.2.2.2.2.2.2
      clear hN hh
      go_wp2
      go_ret
      exact ⟨rfl, hBz.out⟩
    · have hQ : ∀ q' : Bool, (q' = true ↔ EvOk t0 s0 ty tm vs) → q' = true := fun q' h => h.2 hok
      have KD := G.keepsD_true []
      refine G.region_words (fun w' => w'.cell? ⟨g5, 0, none⟩ = some (.slice A2 t0.length cap2) ∧ w'.cell? ⟨g5, 1, none⟩ = some (.slice B2 s0.length capB2) ∧ w'.cell? ⟨b, off + i * 3, none⟩ = some (.int .i64 ty) ∧ w'.cell? ⟨b, off + i * 3 + 1, none⟩ = some (.int .i64 tm) ∧ w'.cell? ⟨b, off + i * 3 + 2, none⟩ = some (.slice Bx vs.length cp) ∧ TypesAt w' A2 t0 ∧ SymsAt w' B2 s0 ∧ RowV w' Bx vs.length vs ∧ Below w.heap.size w w') [G.isW (.bool true), G.isW (.bool true), G.isW (.int .i64 0), G.isW (.bool true), G.isW (.bool true), G.isW (.bool true), G.isW (.int .i64 (i : Int)), G.isW (.int .i64 (i : Int)), G.isW (.bool true), G.isW (.bool true), G.isW (.bool true), G.isW (.int .i64 21), G.isW (.int .i64 21), G.isW (.bool true), G.isW (.bool true), G.isW (.bool true), G.isW (.int .i64 21), G.isW (.bool false), G.isW (.agg #[.slice A2 t0.length cap2, .slice B2 s0.length capB2]), G.isW (.slice (some ⟨b, off, none⟩) z1.length c1), G.isW (.int .i64 (i : Int)), G.isW (.pointer (some ⟨b, off + i * 3, none⟩)), G.isW (.agg #[.int .i64 ty, .int .i64 tm, .slice Bx vs.length cp]), evW ty tm vs, G.isW (.bool true), G.isW (.bool false), G.isW (.bool true), G.isW (.bool true), G.isW (.bool true)] (by kernel_rfl) (by repeat' (first | exact G.monoL_nil | exact G.is_mono _ | exact ev_mono _ _ _ | refine G.monoL_cons ?_ ?_)) (by kernel_rfl) (by kernel_rfl) (fun _ _ h hb => keepV hb h) base9 ?_ ?_
      · intro KC
        clear base9
        refine G.stepsL_cons (fun a u hc hdd hd hk hdep => ?_) ?_
        ·
          refine G.step_call KC KD hc hdd rfl 10 #[] (G.wanted_plain rfl) (by go_simp) ?_
          obtain ⟨-, -, -, -, -, k5, k6, k7, k8⟩ := hc
          exact (evawake_any u (tab.out u k8)).mono (by rintro e w' ⟨rfl, hb⟩; exact ⟨_, rfl, rfl, hb⟩)
        refine G.stepsL_cons (fun a u hc hdd hd hk hdep => ?_) ?_
        ·
          have d55 : (a.tmps[55]?).getD undef = (.bool true) := hdep ⟨0, .data⟩ (by simp) rfl
          refine G.step_val KC KD hc hdd rfl (.bool true) u (G.wanted_plain rfl) ?_ rfl (Below.refl _ _)
          first | (go_simp; done) | rfl
        refine G.stepsL_cons (fun a u hc hdd hd hk hdep => ?_) ?_
        ·
          have d9 : (a.tmps[9]?).getD undef = (.int .i64 0) := hk 9 (by kernel_rfl)
          refine G.step_val KC KD hc hdd rfl (.int .i64 0) u ((G.wanted_guard (j := 1) (b := true) (c := true) rfl (hdep ⟨1, .guard⟩ (by simp) rfl)).trans rfl) ?_ rfl (Below.refl _ _)
          first | (go_simp; done) | rfl
        refine G.stepsL_cons (fun a u hc hdd hd hk hdep => ?_) ?_
        ·
          have d57 : (a.tmps[57]?).getD undef = (.int .i64 0) := hdep ⟨2, .data⟩ (by simp) rfl
          refine G.step_val KC KD hc hdd rfl (.bool true) u ((G.wanted_guard (j := 1) (b := true) (c := true) rfl (hdep ⟨1, .guard⟩ (by simp) rfl)).trans rfl) ?_ rfl (Below.refl _ _)
          first | (go_simp; done) | rfl
        refine G.stepsL_cons (fun a u hc hdd hd hk hdep => ?_) ?_
        ·
          have d56 : (a.tmps[56]?).getD undef = (.bool true) := hdep ⟨1, .data⟩ (by simp) rfl
          have d58 : (a.tmps[58]?).getD undef = (.bool true) := hdep ⟨3, .data⟩ (by simp) rfl
          refine G.step_val KC KD hc hdd rfl (.bool true) u (G.wanted_plain rfl) ?_ rfl (Below.refl _ _)
          first | (go_simp; done) | rfl
        refine G.stepsL_cons (fun a u hc hdd hd hk hdep => ?_) ?_
        ·
          have d59 : (a.tmps[59]?).getD undef = (.bool true) := hdep ⟨4, .data⟩ (by simp) rfl
          refine G.step_val KC KD hc hdd rfl (.bool true) u (G.wanted_plain rfl) ?_ rfl (Below.refl _ _)
          first | (go_simp; done) | rfl
        refine G.stepsL_cons (fun a u hc hdd hd hk hdep => ?_) ?_
        ·
          have d10 : (a.tmps[10]?).getD undef = (.int .i64 (i : Int)) := hk 10 (by kernel_rfl)
          refine G.step_val KC KD hc hdd rfl (.int .i64 (i : Int)) u ((G.wanted_guard (j := 5) (b := true) (c := true) rfl (hdep ⟨5, .guard⟩ (by simp) rfl)).trans rfl) ?_ rfl (Below.refl _ _)
          first | (go_simp; done) | rfl
        refine G.stepsL_cons (fun a u hc hdd hd hk hdep => ?_) ?_
        ·
          have d6 : (a.tmps[6]?).getD undef = (.int .i64 (i : Int)) := hk 6 (by kernel_rfl)
          refine G.step_val KC KD hc hdd rfl (.int .i64 (i : Int)) u ((G.wanted_guard (j := 5) (b := true) (c := true) rfl (hdep ⟨5, .guard⟩ (by simp) rfl)).trans rfl) ?_ rfl (Below.refl _ _)
          first | (go_simp; done) | rfl
        refine G.stepsL_cons (fun a u hc hdd hd hk hdep => ?_) ?_
        ·
          have d61 : (a.tmps[61]?).getD undef = (.int .i64 (i : Int)) := hdep ⟨6, .data⟩ (by simp) rfl
          have d62 : (a.tmps[62]?).getD undef = (.int .i64 (i : Int)) := hdep ⟨7, .data⟩ (by simp) rfl
          refine G.step_val KC KD hc hdd rfl (.bool true) u ((G.wanted_guard (j := 5) (b := true) (c := true) rfl (hdep ⟨5, .guard⟩ (by simp) rfl)).trans rfl) ?_ rfl (Below.refl _ _)
          first | (go_simp; done) | rfl
        refine G.stepsL_cons (fun a u hc hdd hd hk hdep => ?_) ?_
        ·
          have d60 : (a.tmps[60]?).getD undef = (.bool true) := hdep ⟨5, .data⟩ (by simp) rfl
          have d63 : (a.tmps[63]?).getD undef = (.bool true) := hdep ⟨8, .data⟩ (by simp) rfl
          refine G.step_val KC KD hc hdd rfl (.bool true) u (G.wanted_plain rfl) ?_ rfl (Below.refl _ _)
          first | (go_simp; done) | rfl
        refine G.stepsL_cons (fun a u hc hdd hd hk hdep => ?_) ?_
        ·
          have d64 : (a.tmps[64]?).getD undef = (.bool true) := hdep ⟨9, .data⟩ (by simp) rfl
          refine G.step_val KC KD hc hdd rfl (.bool true) u (G.wanted_plain rfl) ?_ rfl (Below.refl _ _)
          first | (go_simp; done) | rfl
        refine G.stepsL_cons (fun a u hc hdd hd hk hdep => ?_) ?_
        ·
          have d11 : (a.tmps[11]?).getD undef = (.int .i64 21) := hk 11 (by kernel_rfl)
          refine G.step_val KC KD hc hdd rfl (.int .i64 21) u ((G.wanted_guard (j := 10) (b := true) (c := true) rfl (hdep ⟨10, .guard⟩ (by simp) rfl)).trans rfl) ?_ rfl (Below.refl _ _)
          first | (go_simp; done) | rfl
        refine G.stepsL_cons (fun a u hc hdd hd hk hdep => ?_) ?_
        ·
          have d7 : (a.tmps[7]?).getD undef = (.int .i64 21) := hk 7 (by kernel_rfl)
          refine G.step_val KC KD hc hdd rfl (.int .i64 21) u ((G.wanted_guard (j := 10) (b := true) (c := true) rfl (hdep ⟨10, .guard⟩ (by simp) rfl)).trans rfl) ?_ rfl (Below.refl _ _)
          first | (go_simp; done) | rfl
        refine G.stepsL_cons (fun a u hc hdd hd hk hdep => ?_) ?_
        ·
          have d66 : (a.tmps[66]?).getD undef = (.int .i64 21) := hdep ⟨11, .data⟩ (by simp) rfl
          have d67 : (a.tmps[67]?).getD undef = (.int .i64 21) := hdep ⟨12, .data⟩ (by simp) rfl
          refine G.step_val KC KD hc hdd rfl (.bool true) u ((G.wanted_guard (j := 10) (b := true) (c := true) rfl (hdep ⟨10, .guard⟩ (by simp) rfl)).trans rfl) ?_ rfl (Below.refl _ _)
          first | (go_simp; done) | rfl
        refine G.stepsL_cons (fun a u hc hdd hd hk hdep => ?_) ?_
        ·
          have d65 : (a.tmps[65]?).getD undef = (.bool true) := hdep ⟨10, .data⟩ (by simp) rfl
          have d68 : (a.tmps[68]?).getD undef = (.bool true) := hdep ⟨13, .data⟩ (by simp) rfl
          refine G.step_val KC KD hc hdd rfl (.bool true) u (G.wanted_plain rfl) ?_ rfl (Below.refl _ _)
          first | (go_simp; done) | rfl
        refine G.stepsL_cons (fun a u hc hdd hd hk hdep => ?_) ?_
        ·
          have d69 : (a.tmps[69]?).getD undef = (.bool true) := hdep ⟨14, .data⟩ (by simp) rfl
          refine G.step_val KC KD hc hdd rfl (.bool true) u (G.wanted_plain rfl) ?_ rfl (Below.refl _ _)
          first | (go_simp; done) | rfl
        refine G.stepsL_cons (fun a u hc hdd hd hk hdep => ?_) ?_
        ·
          have d7 : (a.tmps[7]?).getD undef = (.int .i64 21) := hk 7 (by kernel_rfl)
          refine G.step_val KC KD hc hdd rfl (.int .i64 21) u ((G.wanted_guard (j := 15) (b := true) (c := true) rfl (hdep ⟨15, .guard⟩ (by simp) rfl)).trans rfl) ?_ rfl (Below.refl _ _)
          first | (go_simp; done) | rfl
        refine G.stepsL_cons (fun a u hc hdd hd hk hdep => ?_) ?_
        ·
          have d71 : (a.tmps[71]?).getD undef = (.int .i64 21) := hdep ⟨16, .data⟩ (by simp) rfl
          refine G.step_val KC KD hc hdd rfl (.bool false) u ((G.wanted_guard (j := 15) (b := true) (c := true) rfl (hdep ⟨15, .guard⟩ (by simp) rfl)).trans rfl) ?_ rfl (Below.refl _ _)
          first | (go_simp; done) | rfl
        refine G.stepsL_cons (fun a u hc hdd hd hk hdep => ?_) ?_
        ·
          have d5 : (a.tmps[5]?).getD undef = (.pointer (some ⟨g5, 0, none⟩)) := hk 5 (by kernel_rfl)
          refine G.step_val KC KD hc hdd rfl (.agg #[.slice A2 t0.length cap2, .slice B2 s0.length capB2]) u ((G.wanted_guard (j := 15) (b := true) (c := true) rfl (hdep ⟨15, .guard⟩ (by simp) rfl)).trans rfl) ?_ rfl (Below.refl _ _)
          obtain ⟨c0, c1', c2, c3, c4, -⟩ := hc
          first | (go_simp; done) | rfl
        refine G.stepsL_cons (fun a u hc hdd hd hk hdep => ?_) ?_
        ·
          have d1 : (a.tmps[1]?).getD undef = (.slice (some ⟨b, off, none⟩) z1.length c1) := hk 1 (by kernel_rfl)
          refine G.step_val KC KD hc hdd rfl (.slice (some ⟨b, off, none⟩) z1.length c1) u ((G.wanted_guard (j := 15) (b := true) (c := true) rfl (hdep ⟨15, .guard⟩ (by simp) rfl)).trans rfl) ?_ rfl (Below.refl _ _)
          first | (go_simp; done) | rfl
        refine G.stepsL_cons (fun a u hc hdd hd hk hdep => ?_) ?_
        ·
          have d6 : (a.tmps[6]?).getD undef = (.int .i64 (i : Int)) := hk 6 (by kernel_rfl)
          refine G.step_val KC KD hc hdd rfl (.int .i64 (i : Int)) u ((G.wanted_guard (j := 15) (b := true) (c := true) rfl (hdep ⟨15, .guard⟩ (by simp) rfl)).trans rfl) ?_ rfl (Below.refl _ _)
          first | (go_simp; done) | rfl
        refine G.stepsL_cons (fun a u hc hdd hd hk hdep => ?_) ?_
        ·
          have d74 : (a.tmps[74]?).getD undef = (.slice (some ⟨b, off, none⟩) z1.length c1) := hdep ⟨19, .data⟩ (by simp) rfl
          have d75 : (a.tmps[75]?).getD undef = (.int .i64 (i : Int)) := hdep ⟨20, .data⟩ (by simp) rfl
          refine G.step_val KC KD hc hdd rfl (.pointer (some ⟨b, off + i * 3, none⟩)) u ((G.wanted_guard (j := 15) (b := true) (c := true) rfl (hdep ⟨15, .guard⟩ (by simp) rfl)).trans rfl) ?_ rfl (Below.refl _ _)
          first | (go_simp; done) | rfl
        refine G.stepsL_cons (fun a u hc hdd hd hk hdep => ?_) ?_
        ·
          have d76 : (a.tmps[76]?).getD undef = (.pointer (some ⟨b, off + i * 3, none⟩)) := hdep ⟨21, .data⟩ (by simp) rfl
          refine G.step_val KC KD hc hdd rfl (.agg #[.int .i64 ty, .int .i64 tm, .slice Bx vs.length cp]) u ((G.wanted_guard (j := 15) (b := true) (c := true) rfl (hdep ⟨15, .guard⟩ (by simp) rfl)).trans rfl) ?_ rfl (Below.refl _ _)
          obtain ⟨c0, c1', c2, c3, c4, -⟩ := hc
          first | (go_simp; done) | rfl
        refine G.stepsL_cons (fun a u hc hdd hd hk hdep => ?_) ?_
        ·
          have d77 : (a.tmps[77]?).getD undef = (.agg #[.int .i64 ty, .int .i64 tm, .slice Bx vs.length cp]) := hdep ⟨22, .data⟩ (by simp) rfl
          refine G.step_call KC KD hc hdd rfl 13 #[.agg #[.int .i64 ty, .int .i64 tm, .slice Bx vs.length cp]] ((G.wanted_guard (j := 15) (b := true) (c := true) rfl (hdep ⟨15, .chain⟩ (by simp) rfl)).trans rfl) (by go_simp) ?_
          obtain ⟨-, -, -, -, -, k5, k6, k7, k8⟩ := hc
          exact (evto_any Bx cp ty tm vs u k7 hfb).mono (by rintro e w' ⟨B', c', rfl, h1, hb⟩; exact ⟨_, rfl, ⟨B', c', rfl, h1⟩, hb⟩)
        refine G.stepsL_cons (fun a u hc hdd hd hk hdep => ?_) ?_
        ·
          have d73 : (a.tmps[73]?).getD undef = (.agg #[.slice A2 t0.length cap2, .slice B2 s0.length capB2]) := hdep ⟨18, .data⟩ (by simp) rfl
          obtain ⟨E2, capE2, d78, hE2⟩ : evW ty tm vs ((a.tmps[78]?).getD undef) u := hdep ⟨23, .data⟩ (by simp) rfl
          refine G.step_call KC KD hc hdd rfl 12 #[.agg #[.slice A2 t0.length cap2, .slice B2 s0.length capB2], .agg #[.int .i64 ty, .int .i64 tm, .slice E2 vs.length capE2]] ((G.wanted_guard (j := 15) (b := true) (c := true) rfl (hdep ⟨15, .guard⟩ (by simp) rfl)).trans rfl) (by go_simp) ?_
          obtain ⟨-, -, -, -, -, k5, k6, k7, k8⟩ := hc
          exact (evalid_any A2 B2 E2 cap2 capB2 capE2 t0 s0 ty tm vs u k5 k6 hE2 p0 q0.out hS21 hS22 (by omega)).mono (by
      rintro e w' ⟨q', rfl, hq', hb⟩
      obtain rfl : q' = true := hQ q' hq'
      exact ⟨_, rfl, rfl, hb⟩)
        refine G.stepsL_cons (fun a u hc hdd hd hk hdep => ?_) ?_
        ·
          have d79 : (a.tmps[79]?).getD undef = (.bool true) := hdep ⟨24, .data⟩ (by simp) rfl
          refine G.step_val KC KD hc hdd rfl (.bool false) u ((G.wanted_guard (j := 15) (b := true) (c := true) rfl (hdep ⟨15, .guard⟩ (by simp) rfl)).trans rfl) ?_ rfl (Below.refl _ _)
          first | (go_simp; done) | rfl
        refine G.stepsL_cons (fun a u hc hdd hd hk hdep => ?_) ?_
        ·
          have d72 : (a.tmps[72]?).getD undef = (.bool false) := hdep ⟨17, .data⟩ (by simp) rfl
          have d80 : (a.tmps[80]?).getD undef = (.bool false) := hdep ⟨25, .data⟩ (by simp) rfl
          refine G.step_val KC KD hc hdd rfl (.bool true) u ((G.wanted_guard (j := 15) (b := true) (c := true) rfl (hdep ⟨15, .guard⟩ (by simp) rfl)).trans rfl) ?_ rfl (Below.refl _ _)
          first | (go_simp; done) | rfl
        refine G.stepsL_cons (fun a u hc hdd hd hk hdep => ?_) ?_
        ·
          have d70 : (a.tmps[70]?).getD undef = (.bool true) := hdep ⟨15, .data⟩ (by simp) rfl
          have d81 : (a.tmps[81]?).getD undef = (.bool true) := hdep ⟨26, .data⟩ (by simp) rfl
          refine G.step_val KC KD hc hdd rfl (.bool true) u (G.wanted_plain rfl) ?_ rfl (Below.refl _ _)
          first | (go_simp; done) | rfl
        refine G.stepsL_cons (fun a u hc hdd hd hk hdep => ?_) ?_
        ·
          have d82 : (a.tmps[82]?).getD undef = (.bool true) := hdep ⟨27, .data⟩ (by simp) rfl
          refine G.step_val KC KD hc hdd rfl (.bool true) u (G.wanted_plain rfl) ?_ rfl (Below.refl _ _)
          first | (go_simp; done) | rfl
        exact G.stepsL_nil
      intro vs' wN hN hh
      have eL : vs' 28 = (.bool true) := by
        obtain ⟨-, -, -, -, -, -, -, -, -, -, -, -, -, -, -, -, -, -, -, -, -, -, -, -, -, -, -, -, eX, -⟩ := hh
        exact eX
      set_option maxRecDepth 100000 in simp only [putAll, Act.put, List.setIfInBounds_toArray, List.set_cons_zero, List.set_cons_succ, eL]
      have hBz := Lib.hid hN.2.2.2.2.2.2.2.2
      clear hN hh
      go_wp2
      go_ret
      exact ⟨rfl, hBz.out⟩

theorem door_met (os : Os) (args : Array Value) : laidMetH Tryd.prog Rows.eventCutsRow.laid ((World.doorLaid Tryd.prog 400 os).forCall (fun _ _ => 0) ⟨#[], args, []⟩).memory :=
  laidMetH_of_parts3 (fuel := 8) (laidMet_of_run' 8 (by kernel_rfl) (by kernel_rfl)) (by kernel_rfl) (by kernel_rfl)
theorem gPow : Tryd.prog.globalNamed "internal/strconv.uint64pow10" = some 0 := by kernel_rfl
theorem tPow : (Tryd.prog.globals[0]?).map (·.type) = some 119 := by kernel_rfl
theorem of_laid {W : World} (h : laidMetH Tryd.prog Rows.eventCutsRow.laid W) : Lib.TabIs Tryd.prog W "internal/strconv.uint64pow10" .u64 Lib.pow10Tab := by
  rw [MakeChecks.laidMetH_plain _ _ _ (by kernel_rfl)] at h
  have h2 : laidMet Tryd.prog (("internal/strconv.uint64pow10", Lib.tabData .u64 Lib.pow10Tab) :: Rows.eventCutsRow.laid.drop 3) W := h.tail.tail
  exact Lib.tabIs_of_head gPow tPow Tryd.underlying119 Tryd.underlying66 (by kernel_rfl) (by kernel_rfl) h2

set_option maxRecDepth 100000 in
theorem lifted (os : Os) (started : os.Started) (H : Type) (enc : TypeId × Value → H) :
    ReturnsInHanded {} Tryd.checked os 7 .any (fun w args => (Rows.eventCutsSpec.pre enc Tryd.prog Tryd.f7 [] false w args ∧ laidMetH Tryd.prog Rows.eventCutsRow.laid w) ∧ sizedMet enc Tryd.prog Tryd.f7 (OpenSpec.ofChange Rows.eventCutsSpec) false w args) (Rows.eventCutsSpec.post enc Tryd.prog Tryd.f7 false true false false) := by
  refine returnsInHanded_of_change_and (C := Tryd.checked) (X := fun w _ => laidMetH Tryd.prog Rows.eventCutsRow.laid w) (fun _ _ _ hh h => h.of_heap hh) own started (by kernel_rfl) Tryd.func7
    (ChangeSpec.witness_shaped (enc := enc) (C := Tryd.checked) (os := os) (X := fun w _ => laidMetH Tryd.prog Rows.eventCutsRow.laid w) false (World.doorLaid Tryd.prog 400 os) #[.agg #[.slice none 0 0, .slice none 0 0], .slice none 0 0] 8 rfl (World.shaped_of_RefB (by kernel_rfl) (by kernel_rfl)) (by kernel_rfl) (by kernel_rfl) (by kernel_rfl) (door_met os _)) ?_
  intro W base args ds gs before hval0 hW _ hsz0 hL _
  have hTab := of_laid hL
  clear hL
  have hsz : (DataW.weightsEach Tryd.prog (Tryd.f7.params.toList ++ Rows.eventCutsSpec.plain.varTypes Tryd.prog) (ds ++ gs)).all (· ≤ reachBytes) = true := hsz0
  clear hsz0
  have hval : ∀ (j : Nat) t v, Tryd.f7.params[j]? = some t → args[j]? = some v → Value.okWide Tryd.prog W .any base t v := hval0
  have hW' := hW
  obtain ⟨p, q, hA0, hV, rfl, hfz, hnd⟩ := hW
  have hA : DataW.TrodAll enc Tryd.prog W 0 (fun _ => true) true Tryd.f7.params.toList args.toList ds p := hA0
  rw [Tryd.params7] at hA hval hsz
  obtain ⟨v0, vs0, d0, ds0, p0, q0, hargs, rfl, rfl, h0, r0⟩ := trodAll_cons hA
  obtain ⟨v1, vs1, d1, ds1, p1, q1, rfl, rfl, rfl, h1, r1⟩ := trodAll_cons r0
  obtain ⟨rfl, rfl, rfl⟩ := trodAll_nil r1
  obtain rfl : args = #[v0, v1] := by cases args; simp_all
  obtain ⟨rfl, rfl⟩ := trodVars_none hV
  have kk0 := h0
  have lt0 : ∀ x ∈ p0, x.block < W.heap.size := by obtain ⟨m, hm⟩ := kk0; exact DataW.trod_lt m _ _ _ hm
  have kk1 := h1
  have lt1 : ∀ x ∈ p1, x.block < W.heap.size := by obtain ⟨m, hm⟩ := kk1; exact DataW.trod_lt m _ _ _ hm
  obtain ⟨x0, y0, t0, s0, rfl, w0, u0, pp0, qq0, rr0⟩ := open_schema (hval 0 25 v0 rfl rfl) h0 (wb_each hsz (j := 0) (t := 25) rfl rfl)
  obtain ⟨A1, c1, z1, rfl, uu1, xx1, w1, ss1, yy1⟩ := open_events (hval 1 53 v1 rfl rfl) h1 (wb_each hsz (j := 1) (t := 53) rfl rfl)
  clear hA0 hval0
  refine (walk W hTab x0 y0 t0 s0 w0 u0 pp0 qq0 rr0 A1 c1 z1 w1 uu1 xx1 ss1 yy1).mono fun e W' ⟨he, bel⟩ => ?_
  subst he
  exact ⟨_, rfl, _, _, _, [], _, [], hW', trodAll_mk1 (shut_bool Tryd.underlying4 _), (trodAll_cons_mk (Below.trod laidOut (by kernel_rfl) (of_decide_eq_true (by kernel_rfl)) kk0 bel lt0) (trodAll_cons_mk (Below.trod laidOut (by kernel_rfl) (of_decide_eq_true (by kernel_rfl)) kk1 bel lt1) trodAll_mk0)), rfl, bel.frame _, fun h => by cases h⟩

theorem over : Rows.eventCutsRow.holds Tryd.pinned (OpenSpec.ofChange Rows.eventCutsSpec) :=
  OpenClaim.holds_of_wide 7 Tryd.f7 rfl rfl rfl rfl rfl rfl rfl ⟨rfl, rfl, rfl, rfl, rfl⟩ rfl rfl rfl rfl rfl (by kernel_rfl) Tryd.func7 (by kernel_rfl)
    (of_decide_eq_true (by kernel_rfl)) (by unfold Func.isWrapper; first | (rw [if_pos (by decide +kernel)]; kernel_rfl) | (rw [if_neg (by decide +kernel)]; exact ⟨rfl, rfl⟩))
    (fun os started H enc _ => lifted os started H enc)

/-- the statement -/
theorem proved : Rows.EventCutsCardSaid :=
  Claim7.holds_tied_plain_at .later [] [.data, .data, .data] true (true, "428467a3bcc97c58a795449468668db1a86208c4a5e6d5a750a7482daa4be0f0") false
    over (fun _ h => by cases h) (by kernel_rfl) (fun _ h => by cases h) eventCuts_row_tie rfl ⟨rfl, rfl⟩ (by kernel_rfl) rfl
    (fun f fn hf hfn => by
      obtain rfl : f = 7 := Option.some.inj ((show Tryd.prog.funcNamed "auspice/auspicelaw04.EventCuts" = some 7 by kernel_rfl).symm.trans hf) |>.symm
      obtain rfl : fn = Tryd.f7 := (Option.some.inj (Tryd.func7.symm.trans hfn)).symm
      exact ⟨by kernel_rfl, fun j t ht => by
        rw [Tryd.params7] at ht
        have hm : t ∈ [25, 53] := by simpa using Array.mem_of_getElem? ht
        have hall : ([25, 53].all fun u => !Tryd.prog.wantsStandIn u) = true := by kernel_rfl
        exact (show Tryd.prog.wantsStandIn t = false by simpa using List.all_eq_true.1 hall t hm)⟩)
    (by kernel_rfl)
#print axioms proved
end Go.Proofs.YtbgjllpdbbolfabDoor.eventCuts
