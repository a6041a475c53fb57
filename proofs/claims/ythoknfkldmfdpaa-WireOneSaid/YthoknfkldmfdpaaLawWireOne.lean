/- WireOne: what is read has just the bytes that were read; no number's bytes begin another one's. -/
import Derived.Test.YthoknfkldmfdpaaRows
import Derived.WalkKit
import Derived.ProofKit
import Derived.OpenShut
import Derived.ShutString
import Derived.ChangeOld
import Derived.Below
import Derived.Lib.SmallJoins
import Derived.SizedLaws
import Derived.Test.YthoknfkldmfdpaaWrG
import Derived.Test.YthoknfkldmfdpaaWrO
import Derived.Test.YthoknfkldmfdpaaWb
import Derived.Test.YthoknfkldmfdpaaInvG
import Derived.Deep.CutRange
import Derived.Deep.DeepCutAuto
namespace Go.Proofs.Ythoknfkldmfdpaa.wireOne
open Go.ChangeShapes Go.WideShapes Go.ChangeAt Go.RowKit Go.Joins
set_option linter.unusedVariables false
set_option linter.unusedSimpArgs false

theorem own : ownKnob Try.prog.godebug = none := by kernel_rfl
theorem laidOut : laidOutB Try.prog = true := by kernel_rfl

set_option maxHeartbeats 16000000 in
set_option maxRecDepth 100000 in
theorem walk (w : World) (A0 : Option Addr) (c0 : Nat) (z0 : List Nat) (w0 : Bys w A0 z0) (y0 : Byt z0) (u0 : z0.length ≤ c0) (x0 : c0 ≤ maxLen) (s0 : z0.length ≤ 140737488351232) (a1 : Int) (w1 : (Lit.int .u64 a1).wf = true) (a2 : Int) (w2 : (Lit.int .u64 a2).wf = true) :
    Calls Try.prog 6 #[.slice A0 z0.length c0, .int .u64 a1, .int .u64 a2] w fun e w' => e = .returned (.bool true) ∧ Below w.heap.size w w' := by
  obtain ⟨n, rfl, hn⟩ := wf_u64 w1
  obtain ⟨m, rfl, hm⟩ := wf_u64 w2
  clear w1 w2
  have P1 := fun w => uint_any n hn w
  have P2 := fun w => uint_any m hm w
  have AW := Lib.hid (fun w => awake20 w)
  have PF : n ≠ m → (uintL n).length ≤ (uintL m).length → strOf ((uintL m).take (uintL n).length) ≠ strOf (uintL n) := fun hne _ he => hne (uintL_prefix hn hm (strOf_inj ((uintL_byt m).take _) (uintL_byt n) he))
  generalize uintL n = L1 at *
  generalize uintL m = L2 at *
  replace P1 := Lib.hid P1
  replace P2 := Lib.hid P2
  replace PF := Lib.hid PF
  clear hn hm
  have O := open_any A0 z0 c0 w w0 (by omega)
  replace O := Lib.hid O
  go_enter Try.func6, Try.ntmps6
  go_wp2_with fail
  refine O.out.mono ?_; rintro e v1 ⟨g, B, rfl, hBw, hgw, hR, hb1⟩
  have U := uintf_any g B z0 y0 v1 hR
  unfold numOf at U
  cases hf : firstW z0 with
  | none =>
    rw [hf] at U
    have LF := Lib.hid (fun u (h : Rdr u g B z0) => left_any g B z0 u h)
    replace U := Lib.hid U
    clear hf
    go_wp2_with fail
    refine U.out.mono ?_; rintro e v2 ⟨hg2, rfl, hR2⟩
    have hb2 := hb1.grown hg2 hb1.size (fun j ej => by injection ej with ej; omega)
    have k1 := Lib.hid (w0.later hb2)
    have k2 := Lib.hid hR2
    have k3 := Lib.hid hb2
    clear hR hg2 hR2 hb1 hb2 w0
    go_upto_region 3 with (fail)
    have KD := G.keepsD_true []
    refine G.region_words (fun w' => Bys w' A0 z0 ∧ Rdr w' g B z0 ∧ Below w.heap.size w w') [G.isW (.bool true), G.isW (.bool false), G.isW (.bool false), G.isW (.bool false), G.isW (.bool false), G.isW undef, G.isW undef, G.isW undef, G.isW undef, G.isW undef, G.isW undef, G.isW undef, G.isW undef, G.isW undef, G.isW undef, G.isW undef, G.isW undef, G.isW (.bool false), G.isW (.bool false), G.isW (.bool false), G.isW (.bool false), G.isW (.bool true), G.isW (.bool true), G.isW (.pointer (some ⟨g, 0, none⟩)), G.isW (.int .i64 (z0.length : Int)), G.isW (.slice A0 z0.length c0), G.isW (.int .i64 (z0.length : Int)), G.isW (.bool false), G.isW (.bool false), G.isW (.bool false)] (by kernel_rfl) (by repeat' (first | exact G.monoL_nil | exact G.is_mono _ | exact G.any_mono | refine G.monoL_cons ?_ ?_)) (by kernel_rfl) (by kernel_rfl) (fun _ _ h hb => ⟨h.1.later hb, h.2.1.later hb, mmore h.2.2 hb⟩) ⟨k1.out.drew, k2.out.later (Below.refl _ _).drew, k3.out.drew⟩ ?_ ?_
    · intro KC
      refine G.stepsL_cons (fun a u hc hdd hd hk hdep => ?_) ?_
      ·
        refine G.step_call KC KD hc hdd rfl 11 #[] (G.wanted_plain rfl) (by first | (go_simp; done) | rfl) ?_
        exact (AW.out u).mono (by rintro e w' ⟨rfl, hb⟩; exact ⟨_, rfl, rfl, hb⟩)
      refine G.stepsL_cons (fun a u hc hdd hd hk hdep => ?_) ?_
      ·
        have d19 : (a.tmps[19]?).getD undef = (.bool true) := hdep ⟨0, .data⟩ (by simp) rfl
        refine G.step_val KC KD hc hdd rfl (.bool false) u (G.wanted_plain rfl) ?_ rfl (Below.refl _ _)
        first | (go_simp; done) | rfl | (simp [go_sem, *]; done)
      refine G.stepsL_cons (fun a u hc hdd hd hk hdep => ?_) ?_
      ·
        have d20 : (a.tmps[20]?).getD undef = (.bool false) := hdep ⟨1, .data⟩ (by simp) rfl
        refine G.step_val KC KD hc hdd rfl (.bool false) u (G.wanted_plain rfl) ?_ rfl (Below.refl _ _)
        first | (go_simp; done) | rfl | (simp [go_sem, *]; done)
      refine G.stepsL_cons (fun a u hc hdd hd hk hdep => ?_) ?_
      ·
        have d9 : (a.tmps[9]?).getD undef = (.bool false) := hk 9 (by kernel_rfl)
        refine G.step_val KC KD hc hdd rfl (.bool false) u ((G.wanted_guard (j := 2) (b := false) (c := false) rfl (hdep ⟨2, .guard⟩ (by simp) rfl)).trans rfl) ?_ rfl (Below.refl _ _)
        first | (go_simp; done) | rfl | (simp [go_sem, *]; done)
      refine G.stepsL_cons (fun a u hc hdd hd hk hdep => ?_) ?_
      ·
        have d22 : (a.tmps[22]?).getD undef = (.bool false) := hdep ⟨3, .data⟩ (by simp) rfl
        refine G.step_val KC KD hc hdd rfl (.bool false) u ((G.wanted_guard (j := 2) (b := false) (c := false) rfl (hdep ⟨2, .chain⟩ (by simp) rfl)).trans rfl) ?_ rfl (Below.refl _ _)
        first | (go_simp; done) | rfl | (simp [go_sem, *]; done)
      refine G.stepsL_cons (fun a u hc hdd hd hk hdep => ?_) ?_
      · exact G.step_skip KD hc hdd rfl ((G.wanted_guard (j := 4) (b := true) (c := false) rfl (hdep ⟨4, .guard⟩ (by simp) rfl)).trans rfl) rfl
      refine G.stepsL_cons (fun a u hc hdd hd hk hdep => ?_) ?_
      · exact G.step_skip KD hc hdd rfl ((G.wanted_guard (j := 4) (b := true) (c := false) rfl (hdep ⟨4, .chain⟩ (by simp) rfl)).trans rfl) rfl
      refine G.stepsL_cons (fun a u hc hdd hd hk hdep => ?_) ?_
      · exact G.step_skip KD hc hdd rfl ((G.wanted_guard (j := 4) (b := true) (c := false) rfl (hdep ⟨4, .guard⟩ (by simp) rfl)).trans rfl) rfl
      refine G.stepsL_cons (fun a u hc hdd hd hk hdep => ?_) ?_
      · exact G.step_skip KD hc hdd rfl ((G.wanted_guard (j := 4) (b := true) (c := false) rfl (hdep ⟨4, .guard⟩ (by simp) rfl)).trans rfl) rfl
      refine G.stepsL_cons (fun a u hc hdd hd hk hdep => ?_) ?_
      · exact G.step_skip KD hc hdd rfl ((G.wanted_guard (j := 4) (b := true) (c := false) rfl (hdep ⟨4, .guard⟩ (by simp) rfl)).trans rfl) rfl
      refine G.stepsL_cons (fun a u hc hdd hd hk hdep => ?_) ?_
      · exact G.step_skip KD hc hdd rfl ((G.wanted_guard (j := 4) (b := true) (c := false) rfl (hdep ⟨4, .guard⟩ (by simp) rfl)).trans rfl) rfl
      refine G.stepsL_cons (fun a u hc hdd hd hk hdep => ?_) ?_
      · exact G.step_skip KD hc hdd rfl ((G.wanted_guard (j := 4) (b := true) (c := false) rfl (hdep ⟨4, .guard⟩ (by simp) rfl)).trans rfl) rfl
      refine G.stepsL_cons (fun a u hc hdd hd hk hdep => ?_) ?_
      · exact G.step_skip KD hc hdd rfl ((G.wanted_guard (j := 4) (b := true) (c := false) rfl (hdep ⟨4, .guard⟩ (by simp) rfl)).trans rfl) rfl
      refine G.stepsL_cons (fun a u hc hdd hd hk hdep => ?_) ?_
      · exact G.step_skip KD hc hdd rfl ((G.wanted_guard (j := 4) (b := true) (c := false) rfl (hdep ⟨4, .guard⟩ (by simp) rfl)).trans rfl) rfl
      refine G.stepsL_cons (fun a u hc hdd hd hk hdep => ?_) ?_
      · exact G.step_skip KD hc hdd rfl ((G.wanted_guard (j := 4) (b := true) (c := false) rfl (hdep ⟨4, .guard⟩ (by simp) rfl)).trans rfl) rfl
      refine G.stepsL_cons (fun a u hc hdd hd hk hdep => ?_) ?_
      · exact G.step_skip KD hc hdd rfl ((G.wanted_guard (j := 4) (b := true) (c := false) rfl (hdep ⟨4, .guard⟩ (by simp) rfl)).trans rfl) rfl
      refine G.stepsL_cons (fun a u hc hdd hd hk hdep => ?_) ?_
      · exact G.step_skip KD hc hdd rfl ((G.wanted_guard (j := 4) (b := true) (c := false) rfl (hdep ⟨4, .guard⟩ (by simp) rfl)).trans rfl) rfl
      refine G.stepsL_cons (fun a u hc hdd hd hk hdep => ?_) ?_
      ·
        have d23 : (a.tmps[23]?).getD undef = (.bool false) := hdep ⟨4, .data⟩ (by simp) rfl
        have d35 : (a.tmps[35]?).getD undef = undef := hdep ⟨16, .data⟩ (by simp) rfl
        refine G.step_val KC KD hc hdd rfl (.bool false) u ((G.wanted_guard (j := 2) (b := false) (c := false) rfl (hdep ⟨2, .guard⟩ (by simp) rfl)).trans rfl) ?_ rfl (Below.refl _ _)
        first | (go_simp; done) | rfl | (simp [go_sem, *]; done)
      refine G.stepsL_cons (fun a u hc hdd hd hk hdep => ?_) ?_
      ·
        have d21 : (a.tmps[21]?).getD undef = (.bool false) := hdep ⟨2, .data⟩ (by simp) rfl
        have d36 : (a.tmps[36]?).getD undef = (.bool false) := hdep ⟨17, .data⟩ (by simp) rfl
        refine G.step_val KC KD hc hdd rfl (.bool false) u (G.wanted_plain rfl) ?_ rfl (Below.refl _ _)
        first | (go_simp; done) | rfl | (simp [go_sem, *]; done)
      refine G.stepsL_cons (fun a u hc hdd hd hk hdep => ?_) ?_
      ·
        have d37 : (a.tmps[37]?).getD undef = (.bool false) := hdep ⟨18, .data⟩ (by simp) rfl
        refine G.step_val KC KD hc hdd rfl (.bool false) u (G.wanted_plain rfl) ?_ rfl (Below.refl _ _)
        first | (go_simp; done) | rfl | (simp [go_sem, *]; done)
      refine G.stepsL_cons (fun a u hc hdd hd hk hdep => ?_) ?_
      ·
        have d9 : (a.tmps[9]?).getD undef = (.bool false) := hk 9 (by kernel_rfl)
        refine G.step_val KC KD hc hdd rfl (.bool false) u ((G.wanted_guard (j := 19) (b := false) (c := false) rfl (hdep ⟨19, .guard⟩ (by simp) rfl)).trans rfl) ?_ rfl (Below.refl _ _)
        first | (go_simp; done) | rfl | (simp [go_sem, *]; done)
      refine G.stepsL_cons (fun a u hc hdd hd hk hdep => ?_) ?_
      ·
        have d39 : (a.tmps[39]?).getD undef = (.bool false) := hdep ⟨20, .data⟩ (by simp) rfl
        refine G.step_val KC KD hc hdd rfl (.bool true) u ((G.wanted_guard (j := 19) (b := false) (c := false) rfl (hdep ⟨19, .guard⟩ (by simp) rfl)).trans rfl) ?_ rfl (Below.refl _ _)
        first | (go_simp; done) | rfl | (simp [go_sem, *]; done)
      refine G.stepsL_cons (fun a u hc hdd hd hk hdep => ?_) ?_
      ·
        have d40 : (a.tmps[40]?).getD undef = (.bool true) := hdep ⟨21, .data⟩ (by simp) rfl
        refine G.step_val KC KD hc hdd rfl (.bool true) u ((G.wanted_guard (j := 19) (b := false) (c := false) rfl (hdep ⟨19, .chain⟩ (by simp) rfl)).trans rfl) ?_ rfl (Below.refl _ _)
        first | (go_simp; done) | rfl | (simp [go_sem, *]; done)
      refine G.stepsL_cons (fun a u hc hdd hd hk hdep => ?_) ?_
      ·
        have d7 : (a.tmps[7]?).getD undef = (.pointer (some ⟨g, 0, none⟩)) := hk 7 (by kernel_rfl)
        refine G.step_val KC KD hc hdd rfl (.pointer (some ⟨g, 0, none⟩)) u ((G.wanted_guard (j := 22) (b := true) (c := true) rfl (hdep ⟨22, .guard⟩ (by simp) rfl)).trans rfl) ?_ rfl (Below.refl _ _)
        first | (go_simp; done) | rfl | (simp [go_sem, *]; done)
      refine G.stepsL_cons (fun a u hc hdd hd hk hdep => ?_) ?_
      ·
        have d42 : (a.tmps[42]?).getD undef = (.pointer (some ⟨g, 0, none⟩)) := hdep ⟨23, .data⟩ (by simp) rfl
        refine G.step_call KC KD hc hdd rfl 17 #[(.pointer (some ⟨g, 0, none⟩))] ((G.wanted_guard (j := 22) (b := true) (c := true) rfl (hdep ⟨22, .chain⟩ (by simp) rfl)).trans rfl) (by first | (go_simp; done) | rfl) ?_
        exact (LF.out u hc.2.1).mono (by rintro e w' ⟨rfl, rfl⟩; exact ⟨_, rfl, rfl, Below.refl _ _⟩)
      refine G.stepsL_cons (fun a u hc hdd hd hk hdep => ?_) ?_
      ·
        have d0 : (a.tmps[0]?).getD undef = (.slice A0 z0.length c0) := hk 0 (by kernel_rfl)
        refine G.step_val KC KD hc hdd rfl (.slice A0 z0.length c0) u ((G.wanted_guard (j := 22) (b := true) (c := true) rfl (hdep ⟨22, .guard⟩ (by simp) rfl)).trans rfl) ?_ rfl (Below.refl _ _)
        first | (go_simp; done) | rfl | (simp [go_sem, *]; done)
      refine G.stepsL_cons (fun a u hc hdd hd hk hdep => ?_) ?_
      ·
        have d44 : (a.tmps[44]?).getD undef = (.slice A0 z0.length c0) := hdep ⟨25, .data⟩ (by simp) rfl
        refine G.step_val KC KD hc hdd rfl (.int .i64 (z0.length : Int)) u ((G.wanted_guard (j := 22) (b := true) (c := true) rfl (hdep ⟨22, .guard⟩ (by simp) rfl)).trans rfl) ?_ rfl (Below.refl _ _)
        first | (go_simp; done) | rfl | (simp [go_sem, *]; done)
      refine G.stepsL_cons (fun a u hc hdd hd hk hdep => ?_) ?_
      ·
        have d43 : (a.tmps[43]?).getD undef = (.int .i64 (z0.length : Int)) := hdep ⟨24, .data⟩ (by simp) rfl
        have d45 : (a.tmps[45]?).getD undef = (.int .i64 (z0.length : Int)) := hdep ⟨26, .data⟩ (by simp) rfl
        refine G.step_val KC KD hc hdd rfl (.bool false) u ((G.wanted_guard (j := 22) (b := true) (c := true) rfl (hdep ⟨22, .guard⟩ (by simp) rfl)).trans rfl) ?_ rfl (Below.refl _ _)
        first | (go_simp; done) | rfl | (simp [go_sem, *]; done)
      refine G.stepsL_cons (fun a u hc hdd hd hk hdep => ?_) ?_
      ·
        have d41 : (a.tmps[41]?).getD undef = (.bool true) := hdep ⟨22, .data⟩ (by simp) rfl
        have d46 : (a.tmps[46]?).getD undef = (.bool false) := hdep ⟨27, .data⟩ (by simp) rfl
        refine G.step_val KC KD hc hdd rfl (.bool false) u ((G.wanted_guard (j := 19) (b := false) (c := false) rfl (hdep ⟨19, .guard⟩ (by simp) rfl)).trans rfl) ?_ rfl (Below.refl _ _)
        first | (go_simp; done) | rfl | (simp [go_sem, *]; done)
      refine G.stepsL_cons (fun a u hc hdd hd hk hdep => ?_) ?_
      ·
        have d38 : (a.tmps[38]?).getD undef = (.bool false) := hdep ⟨19, .data⟩ (by simp) rfl
        have d47 : (a.tmps[47]?).getD undef = (.bool false) := hdep ⟨28, .data⟩ (by simp) rfl
        refine G.step_val KC KD hc hdd rfl (.bool false) u (G.wanted_plain rfl) ?_ rfl (Below.refl _ _)
        first | (go_simp; done) | rfl | (simp [go_sem, *]; done)
      exact G.stepsL_nil
    intro vs' wN hNN hh
    have eL : vs' 29 = (.bool false) := by
      obtain ⟨-, -, -, -, -, -, -, -, -, -, -, -, -, -, -, -, -, -, -, -, -, -, -, -, -, -, -, -, -, eX, -⟩ := hh
      exact eX
    clear hh
    set_option maxRecDepth 100000 in simp only [List.take_succ_cons, List.take_zero, putAll, Act.put, List.setIfInBounds_toArray, List.set_cons_zero, List.set_cons_succ, Nat.reduceAdd, eL]
    clear eL
    clear k1 k2
    obtain ⟨-, -, q3⟩ := hNN
    replace q3 := Lib.hid q3
    go_wp2_with fail
    refine (P1.out _).mono ?_; rintro e u1 ⟨B1, d1, rfl, hO1, hb1⟩
    replace hO1 := Lib.hid hO1
    replace hb1 := Lib.hid (mmore q3.out hb1)
    go_wp2_with fail
    refine (P2.out _).mono ?_; rintro e u2 ⟨B2, d2, rfl, hO2, hb2⟩
    have j1 := Lib.hid ((Bys.of_own hO1.out).2.later hb2)
    have j2 := Lib.hid (Bys.of_own hO2).2
    have j3 := Lib.hid (mmore hb1.out hb2)
    obtain ⟨_, _, hv2, hd2, -⟩ := bslice_of hO2
    have hd2' : L2.length ≤ d2 := by injection hv2 with _ _ hv2; omega
    clear hO1 hb1 hO2 hb2 q3 hv2 hd2
    go_upto_region 6 with (fail)
    by_cases hnm : n = m
    · subst hnm
      clear PF
      have KD := G.keepsD_true []
      refine G.region_words (fun w' => Bys w' B1 L1 ∧ Bys w' B2 L2 ∧ Below w.heap.size w w') [G.isW (.int .u64 (n : Int)), G.isW (.int .u64 (n : Int)), G.isW (.bool true), G.isW (.bool true), G.isW undef, G.isW undef, G.isW undef, G.isW undef, G.isW undef, G.isW (.bool true), G.isW (.bool true), G.isW undef, G.isW undef, G.isW undef, G.isW undef, G.isW undef, G.isW undef, G.isW undef, G.isW undef, G.isW (.bool true), G.isW (.bool true)] (by kernel_rfl) (by repeat' (first | exact G.monoL_nil | exact G.is_mono _ | exact G.any_mono | refine G.monoL_cons ?_ ?_)) (by kernel_rfl) (by kernel_rfl) (fun _ _ h hb => ⟨h.1.later hb, h.2.1.later hb, mmore h.2.2 hb⟩) ⟨j1.out.drew, j2.out.drew, j3.out.drew⟩ ?_ ?_
      · intro KC
        refine G.stepsL_cons (fun a u hc hdd hd hk hdep => ?_) ?_
        ·
          have d1 : (a.tmps[1]?).getD undef = (.int .u64 (n : Int)) := hk 1 (by kernel_rfl)
          refine G.step_val KC KD hc hdd rfl (.int .u64 (n : Int)) u (G.wanted_plain rfl) ?_ rfl (Below.refl _ _)
          first | (go_simp; done) | rfl | (simp [go_sem, *]; done)
        refine G.stepsL_cons (fun a u hc hdd hd hk hdep => ?_) ?_
        ·
          have d2 : (a.tmps[2]?).getD undef = (.int .u64 (n : Int)) := hk 2 (by kernel_rfl)
          refine G.step_val KC KD hc hdd rfl (.int .u64 (n : Int)) u (G.wanted_plain rfl) ?_ rfl (Below.refl _ _)
          first | (go_simp; done) | rfl | (simp [go_sem, *]; done)
        refine G.stepsL_cons (fun a u hc hdd hd hk hdep => ?_) ?_
        ·
          have d53 : (a.tmps[53]?).getD undef = (.int .u64 (n : Int)) := hdep ⟨0, .data⟩ (by simp) rfl
          have d54 : (a.tmps[54]?).getD undef = (.int .u64 (n : Int)) := hdep ⟨1, .data⟩ (by simp) rfl
          refine G.step_val KC KD hc hdd rfl (.bool true) u (G.wanted_plain rfl) ?_ rfl (Below.refl _ _)
          first | (go_simp; done) | rfl | (simp [go_sem, *]; done)
        refine G.stepsL_cons (fun a u hc hdd hd hk hdep => ?_) ?_
        ·
          have d55 : (a.tmps[55]?).getD undef = (.bool true) := hdep ⟨2, .data⟩ (by simp) rfl
          refine G.step_val KC KD hc hdd rfl (.bool true) u (G.wanted_plain rfl) ?_ rfl (Below.refl _ _)
          first | (go_simp; done) | rfl | (simp [go_sem, *]; done)
        refine G.stepsL_cons (fun a u hc hdd hd hk hdep => ?_) ?_
        · exact G.step_skip KD hc hdd rfl ((G.wanted_guard (j := 3) (b := false) (c := true) rfl (hdep ⟨3, .guard⟩ (by simp) rfl)).trans rfl) rfl
        refine G.stepsL_cons (fun a u hc hdd hd hk hdep => ?_) ?_
        · exact G.step_skip KD hc hdd rfl ((G.wanted_guard (j := 3) (b := false) (c := true) rfl (hdep ⟨3, .guard⟩ (by simp) rfl)).trans rfl) rfl
        refine G.stepsL_cons (fun a u hc hdd hd hk hdep => ?_) ?_
        · exact G.step_skip KD hc hdd rfl ((G.wanted_guard (j := 3) (b := false) (c := true) rfl (hdep ⟨3, .guard⟩ (by simp) rfl)).trans rfl) rfl
        refine G.stepsL_cons (fun a u hc hdd hd hk hdep => ?_) ?_
        · exact G.step_skip KD hc hdd rfl ((G.wanted_guard (j := 3) (b := false) (c := true) rfl (hdep ⟨3, .guard⟩ (by simp) rfl)).trans rfl) rfl
        refine G.stepsL_cons (fun a u hc hdd hd hk hdep => ?_) ?_
        · exact G.step_skip KD hc hdd rfl ((G.wanted_guard (j := 3) (b := false) (c := true) rfl (hdep ⟨3, .guard⟩ (by simp) rfl)).trans rfl) rfl
        refine G.stepsL_cons (fun a u hc hdd hd hk hdep => ?_) ?_
        ·
          have d56 : (a.tmps[56]?).getD undef = (.bool true) := hdep ⟨3, .data⟩ (by simp) rfl
          have d61 : (a.tmps[61]?).getD undef = undef := hdep ⟨8, .data⟩ (by simp) rfl
          refine G.step_val KC KD hc hdd rfl (.bool true) u (G.wanted_plain rfl) ?_ rfl (Below.refl _ _)
          first | (go_simp; done) | rfl | (simp [go_sem, *]; done)
        refine G.stepsL_cons (fun a u hc hdd hd hk hdep => ?_) ?_
        ·
          have d62 : (a.tmps[62]?).getD undef = (.bool true) := hdep ⟨9, .data⟩ (by simp) rfl
          refine G.step_val KC KD hc hdd rfl (.bool true) u (G.wanted_plain rfl) ?_ rfl (Below.refl _ _)
          first | (go_simp; done) | rfl | (simp [go_sem, *]; done)
        refine G.stepsL_cons (fun a u hc hdd hd hk hdep => ?_) ?_
        · exact G.step_skip KD hc hdd rfl ((G.wanted_guard (j := 10) (b := false) (c := true) rfl (hdep ⟨10, .guard⟩ (by simp) rfl)).trans rfl) rfl
        refine G.stepsL_cons (fun a u hc hdd hd hk hdep => ?_) ?_
        · exact G.step_skip KD hc hdd rfl ((G.wanted_guard (j := 10) (b := false) (c := true) rfl (hdep ⟨10, .guard⟩ (by simp) rfl)).trans rfl) rfl
        refine G.stepsL_cons (fun a u hc hdd hd hk hdep => ?_) ?_
        · exact G.step_skip KD hc hdd rfl ((G.wanted_guard (j := 10) (b := false) (c := true) rfl (hdep ⟨10, .guard⟩ (by simp) rfl)).trans rfl) rfl
        refine G.stepsL_cons (fun a u hc hdd hd hk hdep => ?_) ?_
        · exact G.step_skip KD hc hdd rfl ((G.wanted_guard (j := 10) (b := false) (c := true) rfl (hdep ⟨10, .guard⟩ (by simp) rfl)).trans rfl) rfl
        refine G.stepsL_cons (fun a u hc hdd hd hk hdep => ?_) ?_
        · exact G.step_skip KD hc hdd rfl ((G.wanted_guard (j := 10) (b := false) (c := true) rfl (hdep ⟨10, .guard⟩ (by simp) rfl)).trans rfl) rfl
        refine G.stepsL_cons (fun a u hc hdd hd hk hdep => ?_) ?_
        · exact G.step_skip KD hc hdd rfl ((G.wanted_guard (j := 10) (b := false) (c := true) rfl (hdep ⟨10, .guard⟩ (by simp) rfl)).trans rfl) rfl
        refine G.stepsL_cons (fun a u hc hdd hd hk hdep => ?_) ?_
        · exact G.step_skip KD hc hdd rfl ((G.wanted_guard (j := 10) (b := false) (c := true) rfl (hdep ⟨10, .guard⟩ (by simp) rfl)).trans rfl) rfl
        refine G.stepsL_cons (fun a u hc hdd hd hk hdep => ?_) ?_
        · exact G.step_skip KD hc hdd rfl ((G.wanted_guard (j := 10) (b := false) (c := true) rfl (hdep ⟨10, .guard⟩ (by simp) rfl)).trans rfl) rfl
        refine G.stepsL_cons (fun a u hc hdd hd hk hdep => ?_) ?_
        ·
          have d63 : (a.tmps[63]?).getD undef = (.bool true) := hdep ⟨10, .data⟩ (by simp) rfl
          have d71 : (a.tmps[71]?).getD undef = undef := hdep ⟨18, .data⟩ (by simp) rfl
          refine G.step_val KC KD hc hdd rfl (.bool true) u (G.wanted_plain rfl) ?_ rfl (Below.refl _ _)
          first | (go_simp; done) | rfl | (simp [go_sem, *]; done)
        refine G.stepsL_cons (fun a u hc hdd hd hk hdep => ?_) ?_
        ·
          have d72 : (a.tmps[72]?).getD undef = (.bool true) := hdep ⟨19, .data⟩ (by simp) rfl
          refine G.step_val KC KD hc hdd rfl (.bool true) u (G.wanted_plain rfl) ?_ rfl (Below.refl _ _)
          first | (go_simp; done) | rfl | (simp [go_sem, *]; done)
        exact G.stepsL_nil
      intro vs' wN hNN hh
      have eL : vs' 20 = (.bool true) := by
        obtain ⟨-, -, -, -, -, -, -, -, -, -, -, -, -, -, -, -, -, -, -, -, eX, -⟩ := hh
        exact eX
      clear hh
      set_option maxRecDepth 100000 in simp only [List.take_succ_cons, List.take_zero, putAll, Act.put, List.setIfInBounds_toArray, List.set_cons_zero, List.set_cons_succ, Nat.reduceAdd, eL]
      clear eL
      obtain ⟨-, -, q3⟩ := hNN
      clear j1 j2 j3
      go_wp2
      go_ret
      exact ⟨rfl, q3⟩
    have hnm1 : ((n : Int) == (m : Int)) = false := by rw [beq_eq_false_iff_ne]; omega
    by_cases hle : L1.length ≤ L2.length
    · have hle1 : decide ((L2.length : Int) < (L1.length : Int)) = false := by simp; omega
      have hle2 : decide (L2.length < L1.length) = false := by simp; omega
      have hle3 : L1.length ≤ d2 := by omega
      have hne := PF.out hnm hle
      have Q1 := Lib.hid (fun u (h : Bys u B1 L1) => conv_str (A := B1) (n := L1.length) (c := d1) rfl h)
      have Q2 := Lib.hid (fun u (h : Bys u B2 L2) => conv_pre (A := B2) (k := L1.length) (c := d2) hle rfl h)
      generalize strOf (L2.take L1.length) = s2 at *
      generalize strOf L1 = s1 at *
      replace hne := toList_neM hne
      clear PF hnm
      have KD := G.keepsD_true []
      refine G.region_words (fun w' => Bys w' B1 L1 ∧ Bys w' B2 L2 ∧ Below w.heap.size w w') [G.isW (.int .u64 (n : Int)), G.isW (.int .u64 (m : Int)), G.isW (.bool false), G.isW (.bool false), G.isW (.slice B1 L1.length d1), G.isW (.int .i64 (L1.length : Int)), G.isW (.slice B2 L2.length d2), G.isW (.int .i64 (L2.length : Int)), G.isW (.bool false), G.isW (.bool false), G.isW (.bool false), G.isW (.slice B2 L2.length d2), G.isW (.slice B1 L1.length d1), G.isW (.int .i64 (L1.length : Int)), G.isW (.slice B2 L1.length d2), G.isW (.string s2), G.isW (.slice B1 L1.length d1), G.isW (.string s1), G.isW (.bool true), G.isW (.bool true), G.isW (.bool true)] (by kernel_rfl) (by repeat' (first | exact G.monoL_nil | exact G.is_mono _ | exact G.any_mono | refine G.monoL_cons ?_ ?_)) (by kernel_rfl) (by kernel_rfl) (fun _ _ h hb => ⟨h.1.later hb, h.2.1.later hb, mmore h.2.2 hb⟩) ⟨j1.out.drew, j2.out.drew, j3.out.drew⟩ ?_ ?_
      · intro KC
        refine G.stepsL_cons (fun a u hc hdd hd hk hdep => ?_) ?_
        ·
          have d1 : (a.tmps[1]?).getD undef = (.int .u64 (n : Int)) := hk 1 (by kernel_rfl)
          refine G.step_val KC KD hc hdd rfl (.int .u64 (n : Int)) u (G.wanted_plain rfl) ?_ rfl (Below.refl _ _)
          first | (go_simp; done) | rfl | (simp [go_sem, *]; done)
        refine G.stepsL_cons (fun a u hc hdd hd hk hdep => ?_) ?_
        ·
          have d2 : (a.tmps[2]?).getD undef = (.int .u64 (m : Int)) := hk 2 (by kernel_rfl)
          refine G.step_val KC KD hc hdd rfl (.int .u64 (m : Int)) u (G.wanted_plain rfl) ?_ rfl (Below.refl _ _)
          first | (go_simp; done) | rfl | (simp [go_sem, *]; done)
        refine G.stepsL_cons (fun a u hc hdd hd hk hdep => ?_) ?_
        ·
          have d53 : (a.tmps[53]?).getD undef = (.int .u64 (n : Int)) := hdep ⟨0, .data⟩ (by simp) rfl
          have d54 : (a.tmps[54]?).getD undef = (.int .u64 (m : Int)) := hdep ⟨1, .data⟩ (by simp) rfl
          refine G.step_val KC KD hc hdd rfl (.bool false) u (G.wanted_plain rfl) ?_ rfl (Below.refl _ _)
          first | (go_simp; done) | rfl | (simp [go_sem, *]; done)
        refine G.stepsL_cons (fun a u hc hdd hd hk hdep => ?_) ?_
        ·
          have d55 : (a.tmps[55]?).getD undef = (.bool false) := hdep ⟨2, .data⟩ (by simp) rfl
          refine G.step_val KC KD hc hdd rfl (.bool false) u (G.wanted_plain rfl) ?_ rfl (Below.refl _ _)
          first | (go_simp; done) | rfl | (simp [go_sem, *]; done)
        refine G.stepsL_cons (fun a u hc hdd hd hk hdep => ?_) ?_
        ·
          have d10 : (a.tmps[10]?).getD undef = (.slice B1 L1.length d1) := hk 10 (by kernel_rfl)
          refine G.step_val KC KD hc hdd rfl (.slice B1 L1.length d1) u ((G.wanted_guard (j := 3) (b := false) (c := false) rfl (hdep ⟨3, .guard⟩ (by simp) rfl)).trans rfl) ?_ rfl (Below.refl _ _)
          first | (go_simp; done) | rfl | (simp [go_sem, *]; done)
        refine G.stepsL_cons (fun a u hc hdd hd hk hdep => ?_) ?_
        ·
          have d57 : (a.tmps[57]?).getD undef = (.slice B1 L1.length d1) := hdep ⟨4, .data⟩ (by simp) rfl
          refine G.step_val KC KD hc hdd rfl (.int .i64 (L1.length : Int)) u ((G.wanted_guard (j := 3) (b := false) (c := false) rfl (hdep ⟨3, .guard⟩ (by simp) rfl)).trans rfl) ?_ rfl (Below.refl _ _)
          first | (go_simp; done) | rfl | (simp [go_sem, *]; done)
        refine G.stepsL_cons (fun a u hc hdd hd hk hdep => ?_) ?_
        ·
          have d11 : (a.tmps[11]?).getD undef = (.slice B2 L2.length d2) := hk 11 (by kernel_rfl)
          refine G.step_val KC KD hc hdd rfl (.slice B2 L2.length d2) u ((G.wanted_guard (j := 3) (b := false) (c := false) rfl (hdep ⟨3, .guard⟩ (by simp) rfl)).trans rfl) ?_ rfl (Below.refl _ _)
          first | (go_simp; done) | rfl | (simp [go_sem, *]; done)
        refine G.stepsL_cons (fun a u hc hdd hd hk hdep => ?_) ?_
        ·
          have d59 : (a.tmps[59]?).getD undef = (.slice B2 L2.length d2) := hdep ⟨6, .data⟩ (by simp) rfl
          refine G.step_val KC KD hc hdd rfl (.int .i64 (L2.length : Int)) u ((G.wanted_guard (j := 3) (b := false) (c := false) rfl (hdep ⟨3, .guard⟩ (by simp) rfl)).trans rfl) ?_ rfl (Below.refl _ _)
          first | (go_simp; done) | rfl | (simp [go_sem, *]; done)
        refine G.stepsL_cons (fun a u hc hdd hd hk hdep => ?_) ?_
        ·
          have d58 : (a.tmps[58]?).getD undef = (.int .i64 (L1.length : Int)) := hdep ⟨5, .data⟩ (by simp) rfl
          have d60 : (a.tmps[60]?).getD undef = (.int .i64 (L2.length : Int)) := hdep ⟨7, .data⟩ (by simp) rfl
          refine G.step_val KC KD hc hdd rfl (.bool false) u ((G.wanted_guard (j := 3) (b := false) (c := false) rfl (hdep ⟨3, .guard⟩ (by simp) rfl)).trans rfl) ?_ rfl (Below.refl _ _)
          first | (go_simp; done) | rfl | (simp [go_sem, *]; done)
        refine G.stepsL_cons (fun a u hc hdd hd hk hdep => ?_) ?_
        ·
          have d56 : (a.tmps[56]?).getD undef = (.bool false) := hdep ⟨3, .data⟩ (by simp) rfl
          have d61 : (a.tmps[61]?).getD undef = (.bool false) := hdep ⟨8, .data⟩ (by simp) rfl
          refine G.step_val KC KD hc hdd rfl (.bool false) u (G.wanted_plain rfl) ?_ rfl (Below.refl _ _)
          first | (go_simp; done) | rfl | (simp [go_sem, *]; done)
        refine G.stepsL_cons (fun a u hc hdd hd hk hdep => ?_) ?_
        ·
          have d62 : (a.tmps[62]?).getD undef = (.bool false) := hdep ⟨9, .data⟩ (by simp) rfl
          refine G.step_val KC KD hc hdd rfl (.bool false) u (G.wanted_plain rfl) ?_ rfl (Below.refl _ _)
          first | (go_simp; done) | rfl | (simp [go_sem, *]; done)
        refine G.stepsL_cons (fun a u hc hdd hd hk hdep => ?_) ?_
        ·
          have d11 : (a.tmps[11]?).getD undef = (.slice B2 L2.length d2) := hk 11 (by kernel_rfl)
          refine G.step_val KC KD hc hdd rfl (.slice B2 L2.length d2) u ((G.wanted_guard (j := 10) (b := false) (c := false) rfl (hdep ⟨10, .guard⟩ (by simp) rfl)).trans rfl) ?_ rfl (Below.refl _ _)
          first | (go_simp; done) | rfl | (simp [go_sem, *]; done)
        refine G.stepsL_cons (fun a u hc hdd hd hk hdep => ?_) ?_
        ·
          have d10 : (a.tmps[10]?).getD undef = (.slice B1 L1.length d1) := hk 10 (by kernel_rfl)
          refine G.step_val KC KD hc hdd rfl (.slice B1 L1.length d1) u ((G.wanted_guard (j := 10) (b := false) (c := false) rfl (hdep ⟨10, .guard⟩ (by simp) rfl)).trans rfl) ?_ rfl (Below.refl _ _)
          first | (go_simp; done) | rfl | (simp [go_sem, *]; done)
        refine G.stepsL_cons (fun a u hc hdd hd hk hdep => ?_) ?_
        ·
          have d65 : (a.tmps[65]?).getD undef = (.slice B1 L1.length d1) := hdep ⟨12, .data⟩ (by simp) rfl
          refine G.step_val KC KD hc hdd rfl (.int .i64 (L1.length : Int)) u ((G.wanted_guard (j := 10) (b := false) (c := false) rfl (hdep ⟨10, .guard⟩ (by simp) rfl)).trans rfl) ?_ rfl (Below.refl _ _)
          first | (go_simp; done) | rfl | (simp [go_sem, *]; done)
        refine G.stepsL_cons (fun a u hc hdd hd hk hdep => ?_) ?_
        ·
          have d64 : (a.tmps[64]?).getD undef = (.slice B2 L2.length d2) := hdep ⟨11, .data⟩ (by simp) rfl
          have d66 : (a.tmps[66]?).getD undef = (.int .i64 (L1.length : Int)) := hdep ⟨13, .data⟩ (by simp) rfl
          refine G.step_val KC KD hc hdd rfl (.slice B2 L1.length d2) u ((G.wanted_guard (j := 10) (b := false) (c := false) rfl (hdep ⟨10, .guard⟩ (by simp) rfl)).trans rfl) ?_ rfl (Below.refl _ _)
          first | (go_simp; done) | rfl | (simp [go_sem, *]; done)
        refine G.stepsL_cons (fun a u hc hdd hd hk hdep => ?_) ?_
        ·
          have d67 : (a.tmps[67]?).getD undef = (.slice B2 L1.length d2) := hdep ⟨14, .data⟩ (by simp) rfl
          have q := Q2.out u hc.2.1
          refine G.step_val KC KD hc hdd rfl (.string s2) u ((G.wanted_guard (j := 10) (b := false) (c := false) rfl (hdep ⟨10, .guard⟩ (by simp) rfl)).trans rfl) ?_ rfl (Below.refl _ _)
          first | (go_simp; done) | rfl | (simp [go_sem, *]; done)
        refine G.stepsL_cons (fun a u hc hdd hd hk hdep => ?_) ?_
        ·
          have d10 : (a.tmps[10]?).getD undef = (.slice B1 L1.length d1) := hk 10 (by kernel_rfl)
          refine G.step_val KC KD hc hdd rfl (.slice B1 L1.length d1) u ((G.wanted_guard (j := 10) (b := false) (c := false) rfl (hdep ⟨10, .guard⟩ (by simp) rfl)).trans rfl) ?_ rfl (Below.refl _ _)
          first | (go_simp; done) | rfl | (simp [go_sem, *]; done)
        refine G.stepsL_cons (fun a u hc hdd hd hk hdep => ?_) ?_
        ·
          have d69 : (a.tmps[69]?).getD undef = (.slice B1 L1.length d1) := hdep ⟨16, .data⟩ (by simp) rfl
          have q := Q1.out u hc.1
          refine G.step_val KC KD hc hdd rfl (.string s1) u ((G.wanted_guard (j := 10) (b := false) (c := false) rfl (hdep ⟨10, .guard⟩ (by simp) rfl)).trans rfl) ?_ rfl (Below.refl _ _)
          first | (go_simp; done) | rfl | (simp [go_sem, *]; done)
        refine G.stepsL_cons (fun a u hc hdd hd hk hdep => ?_) ?_
        ·
          have d68 : (a.tmps[68]?).getD undef = (.string s2) := hdep ⟨15, .data⟩ (by simp) rfl
          have d70 : (a.tmps[70]?).getD undef = (.string s1) := hdep ⟨17, .data⟩ (by simp) rfl
          refine G.step_val KC KD hc hdd rfl (.bool true) u ((G.wanted_guard (j := 10) (b := false) (c := false) rfl (hdep ⟨10, .guard⟩ (by simp) rfl)).trans rfl) ?_ rfl (Below.refl _ _)
          first | (go_simp; done) | rfl | (simp [go_sem, *]; done)
        refine G.stepsL_cons (fun a u hc hdd hd hk hdep => ?_) ?_
        ·
          have d63 : (a.tmps[63]?).getD undef = (.bool false) := hdep ⟨10, .data⟩ (by simp) rfl
          have d71 : (a.tmps[71]?).getD undef = (.bool true) := hdep ⟨18, .data⟩ (by simp) rfl
          refine G.step_val KC KD hc hdd rfl (.bool true) u (G.wanted_plain rfl) ?_ rfl (Below.refl _ _)
          first | (go_simp; done) | rfl | (simp [go_sem, *]; done)
        refine G.stepsL_cons (fun a u hc hdd hd hk hdep => ?_) ?_
        ·
          have d72 : (a.tmps[72]?).getD undef = (.bool true) := hdep ⟨19, .data⟩ (by simp) rfl
          refine G.step_val KC KD hc hdd rfl (.bool true) u (G.wanted_plain rfl) ?_ rfl (Below.refl _ _)
          first | (go_simp; done) | rfl | (simp [go_sem, *]; done)
        exact G.stepsL_nil
      intro vs' wN hNN hh
      have eL : vs' 20 = (.bool true) := by
        obtain ⟨-, -, -, -, -, -, -, -, -, -, -, -, -, -, -, -, -, -, -, -, eX, -⟩ := hh
        exact eX
      clear hh
      set_option maxRecDepth 100000 in simp only [List.take_succ_cons, List.take_zero, putAll, Act.put, List.setIfInBounds_toArray, List.set_cons_zero, List.set_cons_succ, Nat.reduceAdd, eL]
      clear eL
      obtain ⟨-, -, q3⟩ := hNN
      clear j1 j2 j3
      go_wp2
      go_ret
      exact ⟨rfl, q3⟩
    · have hle1 : decide ((L2.length : Int) < (L1.length : Int)) = true := by simp; omega
      have hle2 : decide (L2.length < L1.length) = true := by simp; omega
      clear PF hnm
      have KD := G.keepsD_true []
      refine G.region_words (fun w' => Bys w' B1 L1 ∧ Bys w' B2 L2 ∧ Below w.heap.size w w') [G.isW (.int .u64 (n : Int)), G.isW (.int .u64 (m : Int)), G.isW (.bool false), G.isW (.bool false), G.isW (.slice B1 L1.length d1), G.isW (.int .i64 (L1.length : Int)), G.isW (.slice B2 L2.length d2), G.isW (.int .i64 (L2.length : Int)), G.isW (.bool true), G.isW (.bool true), G.isW (.bool true), G.isW undef, G.isW undef, G.isW undef, G.isW undef, G.isW undef, G.isW undef, G.isW undef, G.isW undef, G.isW (.bool true), G.isW (.bool true)] (by kernel_rfl) (by repeat' (first | exact G.monoL_nil | exact G.is_mono _ | exact G.any_mono | refine G.monoL_cons ?_ ?_)) (by kernel_rfl) (by kernel_rfl) (fun _ _ h hb => ⟨h.1.later hb, h.2.1.later hb, mmore h.2.2 hb⟩) ⟨j1.out.drew, j2.out.drew, j3.out.drew⟩ ?_ ?_
      · intro KC
        refine G.stepsL_cons (fun a u hc hdd hd hk hdep => ?_) ?_
        ·
          have d1 : (a.tmps[1]?).getD undef = (.int .u64 (n : Int)) := hk 1 (by kernel_rfl)
          refine G.step_val KC KD hc hdd rfl (.int .u64 (n : Int)) u (G.wanted_plain rfl) ?_ rfl (Below.refl _ _)
          first | (go_simp; done) | rfl | (simp [go_sem, *]; done)
        refine G.stepsL_cons (fun a u hc hdd hd hk hdep => ?_) ?_
        ·
          have d2 : (a.tmps[2]?).getD undef = (.int .u64 (m : Int)) := hk 2 (by kernel_rfl)
          refine G.step_val KC KD hc hdd rfl (.int .u64 (m : Int)) u (G.wanted_plain rfl) ?_ rfl (Below.refl _ _)
          first | (go_simp; done) | rfl | (simp [go_sem, *]; done)
        refine G.stepsL_cons (fun a u hc hdd hd hk hdep => ?_) ?_
        ·
          have d53 : (a.tmps[53]?).getD undef = (.int .u64 (n : Int)) := hdep ⟨0, .data⟩ (by simp) rfl
          have d54 : (a.tmps[54]?).getD undef = (.int .u64 (m : Int)) := hdep ⟨1, .data⟩ (by simp) rfl
          refine G.step_val KC KD hc hdd rfl (.bool false) u (G.wanted_plain rfl) ?_ rfl (Below.refl _ _)
          first | (go_simp; done) | rfl | (simp [go_sem, *]; done)
        refine G.stepsL_cons (fun a u hc hdd hd hk hdep => ?_) ?_
        ·
          have d55 : (a.tmps[55]?).getD undef = (.bool false) := hdep ⟨2, .data⟩ (by simp) rfl
          refine G.step_val KC KD hc hdd rfl (.bool false) u (G.wanted_plain rfl) ?_ rfl (Below.refl _ _)
          first | (go_simp; done) | rfl | (simp [go_sem, *]; done)
        refine G.stepsL_cons (fun a u hc hdd hd hk hdep => ?_) ?_
        ·
          have d10 : (a.tmps[10]?).getD undef = (.slice B1 L1.length d1) := hk 10 (by kernel_rfl)
          refine G.step_val KC KD hc hdd rfl (.slice B1 L1.length d1) u ((G.wanted_guard (j := 3) (b := false) (c := false) rfl (hdep ⟨3, .guard⟩ (by simp) rfl)).trans rfl) ?_ rfl (Below.refl _ _)
          first | (go_simp; done) | rfl | (simp [go_sem, *]; done)
        refine G.stepsL_cons (fun a u hc hdd hd hk hdep => ?_) ?_
        ·
          have d57 : (a.tmps[57]?).getD undef = (.slice B1 L1.length d1) := hdep ⟨4, .data⟩ (by simp) rfl
          refine G.step_val KC KD hc hdd rfl (.int .i64 (L1.length : Int)) u ((G.wanted_guard (j := 3) (b := false) (c := false) rfl (hdep ⟨3, .guard⟩ (by simp) rfl)).trans rfl) ?_ rfl (Below.refl _ _)
          first | (go_simp; done) | rfl | (simp [go_sem, *]; done)
        refine G.stepsL_cons (fun a u hc hdd hd hk hdep => ?_) ?_
        ·
          have d11 : (a.tmps[11]?).getD undef = (.slice B2 L2.length d2) := hk 11 (by kernel_rfl)
          refine G.step_val KC KD hc hdd rfl (.slice B2 L2.length d2) u ((G.wanted_guard (j := 3) (b := false) (c := false) rfl (hdep ⟨3, .guard⟩ (by simp) rfl)).trans rfl) ?_ rfl (Below.refl _ _)
          first | (go_simp; done) | rfl | (simp [go_sem, *]; done)
        refine G.stepsL_cons (fun a u hc hdd hd hk hdep => ?_) ?_
        ·
          have d59 : (a.tmps[59]?).getD undef = (.slice B2 L2.length d2) := hdep ⟨6, .data⟩ (by simp) rfl
          refine G.step_val KC KD hc hdd rfl (.int .i64 (L2.length : Int)) u ((G.wanted_guard (j := 3) (b := false) (c := false) rfl (hdep ⟨3, .guard⟩ (by simp) rfl)).trans rfl) ?_ rfl (Below.refl _ _)
          first | (go_simp; done) | rfl | (simp [go_sem, *]; done)
        refine G.stepsL_cons (fun a u hc hdd hd hk hdep => ?_) ?_
        ·
          have d58 : (a.tmps[58]?).getD undef = (.int .i64 (L1.length : Int)) := hdep ⟨5, .data⟩ (by simp) rfl
          have d60 : (a.tmps[60]?).getD undef = (.int .i64 (L2.length : Int)) := hdep ⟨7, .data⟩ (by simp) rfl
          refine G.step_val KC KD hc hdd rfl (.bool true) u ((G.wanted_guard (j := 3) (b := false) (c := false) rfl (hdep ⟨3, .guard⟩ (by simp) rfl)).trans rfl) ?_ rfl (Below.refl _ _)
          first | (go_simp; done) | rfl | (simp [go_sem, *]; done)
        refine G.stepsL_cons (fun a u hc hdd hd hk hdep => ?_) ?_
        ·
          have d56 : (a.tmps[56]?).getD undef = (.bool false) := hdep ⟨3, .data⟩ (by simp) rfl
          have d61 : (a.tmps[61]?).getD undef = (.bool true) := hdep ⟨8, .data⟩ (by simp) rfl
          refine G.step_val KC KD hc hdd rfl (.bool true) u (G.wanted_plain rfl) ?_ rfl (Below.refl _ _)
          first | (go_simp; done) | rfl | (simp [go_sem, *]; done)
        refine G.stepsL_cons (fun a u hc hdd hd hk hdep => ?_) ?_
        ·
          have d62 : (a.tmps[62]?).getD undef = (.bool true) := hdep ⟨9, .data⟩ (by simp) rfl
          refine G.step_val KC KD hc hdd rfl (.bool true) u (G.wanted_plain rfl) ?_ rfl (Below.refl _ _)
          first | (go_simp; done) | rfl | (simp [go_sem, *]; done)
        refine G.stepsL_cons (fun a u hc hdd hd hk hdep => ?_) ?_
        · exact G.step_skip KD hc hdd rfl ((G.wanted_guard (j := 10) (b := false) (c := true) rfl (hdep ⟨10, .guard⟩ (by simp) rfl)).trans rfl) rfl
        refine G.stepsL_cons (fun a u hc hdd hd hk hdep => ?_) ?_
        · exact G.step_skip KD hc hdd rfl ((G.wanted_guard (j := 10) (b := false) (c := true) rfl (hdep ⟨10, .guard⟩ (by simp) rfl)).trans rfl) rfl
        refine G.stepsL_cons (fun a u hc hdd hd hk hdep => ?_) ?_
        · exact G.step_skip KD hc hdd rfl ((G.wanted_guard (j := 10) (b := false) (c := true) rfl (hdep ⟨10, .guard⟩ (by simp) rfl)).trans rfl) rfl
        refine G.stepsL_cons (fun a u hc hdd hd hk hdep => ?_) ?_
        · exact G.step_skip KD hc hdd rfl ((G.wanted_guard (j := 10) (b := false) (c := true) rfl (hdep ⟨10, .guard⟩ (by simp) rfl)).trans rfl) rfl
        refine G.stepsL_cons (fun a u hc hdd hd hk hdep => ?_) ?_
        · exact G.step_skip KD hc hdd rfl ((G.wanted_guard (j := 10) (b := false) (c := true) rfl (hdep ⟨10, .guard⟩ (by simp) rfl)).trans rfl) rfl
        refine G.stepsL_cons (fun a u hc hdd hd hk hdep => ?_) ?_
        · exact G.step_skip KD hc hdd rfl ((G.wanted_guard (j := 10) (b := false) (c := true) rfl (hdep ⟨10, .guard⟩ (by simp) rfl)).trans rfl) rfl
        refine G.stepsL_cons (fun a u hc hdd hd hk hdep => ?_) ?_
        · exact G.step_skip KD hc hdd rfl ((G.wanted_guard (j := 10) (b := false) (c := true) rfl (hdep ⟨10, .guard⟩ (by simp) rfl)).trans rfl) rfl
        refine G.stepsL_cons (fun a u hc hdd hd hk hdep => ?_) ?_
        · exact G.step_skip KD hc hdd rfl ((G.wanted_guard (j := 10) (b := false) (c := true) rfl (hdep ⟨10, .guard⟩ (by simp) rfl)).trans rfl) rfl
        refine G.stepsL_cons (fun a u hc hdd hd hk hdep => ?_) ?_
        ·
          have d63 : (a.tmps[63]?).getD undef = (.bool true) := hdep ⟨10, .data⟩ (by simp) rfl
          have d71 : (a.tmps[71]?).getD undef = undef := hdep ⟨18, .data⟩ (by simp) rfl
          refine G.step_val KC KD hc hdd rfl (.bool true) u (G.wanted_plain rfl) ?_ rfl (Below.refl _ _)
          first | (go_simp; done) | rfl | (simp [go_sem, *]; done)
        refine G.stepsL_cons (fun a u hc hdd hd hk hdep => ?_) ?_
        ·
          have d72 : (a.tmps[72]?).getD undef = (.bool true) := hdep ⟨19, .data⟩ (by simp) rfl
          refine G.step_val KC KD hc hdd rfl (.bool true) u (G.wanted_plain rfl) ?_ rfl (Below.refl _ _)
          first | (go_simp; done) | rfl | (simp [go_sem, *]; done)
        exact G.stepsL_nil
      intro vs' wN hNN hh
      have eL : vs' 20 = (.bool true) := by
        obtain ⟨-, -, -, -, -, -, -, -, -, -, -, -, -, -, -, -, -, -, -, -, eX, -⟩ := hh
        exact eX
      clear hh
      set_option maxRecDepth 100000 in simp only [List.take_succ_cons, List.take_zero, putAll, Act.put, List.setIfInBounds_toArray, List.set_cons_zero, List.set_cons_succ, Nat.reduceAdd, eL]
      clear eL
      obtain ⟨-, -, q3⟩ := hNN
      clear j1 j2 j3
      go_wp2
      go_ret
      exact ⟨rfl, q3⟩
  | some y =>
    obtain ⟨x, k⟩ := y
    rw [hf] at U
    change Calls _ _ _ _ (ReadIs g B (some (.int .u64 (x : Int), z0.drop k)) (.int .u64 0) z0 v1) at U
    obtain ⟨e1, e2, e3, e4, e5⟩ := first_back y0 hf
    have P0 := fun w => uint_any x e5 w
    have LF := Lib.hid (fun u (h : Rdr u g B (z0.drop k)) => left_any g B (z0.drop k) u h)
    have hkp : k ≤ z0.length ∧ z0.take k = uintL x := ⟨e3, e1.symm⟩
    have hsub : IntKind.i64.wrap ((z0.length : Int) - ((z0.drop k).length : Int)) = (k : Int) := by
      rw [List.length_drop, IntKind.wrap_i64]
      omega
    have hkc : k ≤ c0 := by omega
    have hk0 : (0 : Int) ≤ (k : Int) := by omega
    generalize z0.drop k = r at *
    generalize uintL x = L0 at *
    replace U := Lib.hid U
    replace P0 := Lib.hid P0
    clear hf e1 e2 e3 e4 e5
    go_wp2_with fail
    refine U.out.mono ?_; rintro e v2 ⟨hg2, rfl, hR2⟩
    have hb2 := hb1.grown hg2 hb1.size (fun j ej => by injection ej with ej; omega)
    have k1 := Lib.hid (w0.later hb2)
    have k2 := Lib.hid hR2
    have k3 := Lib.hid hb2
    clear hR hg2 hR2 hb1 hb2 w0
    go_upto_region 3 with (fail)
    have KD := G.keepsD_true []
    refine G.region_words (fun w' => Bys w' A0 z0 ∧ Rdr w' g B r ∧ Below w.heap.size w w') [G.isW (.bool true), G.isW (.bool false), G.isW (.bool false), G.isW (.bool true), G.isW (.bool true), G.isW (.int .u64 (x : Int)), fun v w => ∃ A c, v = .slice A L0.length c ∧ Bys w A L0, G.isW (.string (strOf L0)), G.isW (.slice A0 z0.length c0), G.isW (.slice A0 z0.length c0), G.isW (.int .i64 (z0.length : Int)), G.isW (.pointer (some ⟨g, 0, none⟩)), G.isW (.int .i64 (r.length : Int)), G.isW (.int .i64 (k : Int)), G.isW (.slice A0 k c0), G.isW (.string (strOf L0)), G.isW (.bool false), G.isW (.bool false), G.isW (.bool false), G.isW (.bool false), G.isW (.bool true), G.isW (.bool false), G.isW (.bool false), G.isW undef, G.isW undef, G.isW undef, G.isW undef, G.isW undef, G.isW (.bool false), G.isW (.bool false)] (by kernel_rfl) (by repeat' (first | exact G.monoL_nil | exact G.is_mono _ | exact G.any_mono | exact fun v w w' h hb => by obtain ⟨A, c, h1, h2⟩ := h; exact ⟨A, c, h1, h2.later hb⟩ | refine G.monoL_cons ?_ ?_)) (by kernel_rfl) (by kernel_rfl) (fun _ _ h hb => ⟨h.1.later hb, h.2.1.later hb, mmore h.2.2 hb⟩) ⟨k1.out.drew, k2.out.later (Below.refl _ _).drew, k3.out.drew⟩ ?_ ?_
    · intro KC
      refine G.stepsL_cons (fun a u hc hdd hd hk hdep => ?_) ?_
      ·
        refine G.step_call KC KD hc hdd rfl 11 #[] (G.wanted_plain rfl) (by first | (go_simp; done) | rfl) ?_
        exact (AW.out u).mono (by rintro e w' ⟨rfl, hb⟩; exact ⟨_, rfl, rfl, hb⟩)
      refine G.stepsL_cons (fun a u hc hdd hd hk hdep => ?_) ?_
      ·
        have d19 : (a.tmps[19]?).getD undef = (.bool true) := hdep ⟨0, .data⟩ (by simp) rfl
        refine G.step_val KC KD hc hdd rfl (.bool false) u (G.wanted_plain rfl) ?_ rfl (Below.refl _ _)
        first | (go_simp; done) | rfl | (simp [go_sem, *]; done)
      refine G.stepsL_cons (fun a u hc hdd hd hk hdep => ?_) ?_
      ·
        have d20 : (a.tmps[20]?).getD undef = (.bool false) := hdep ⟨1, .data⟩ (by simp) rfl
        refine G.step_val KC KD hc hdd rfl (.bool false) u (G.wanted_plain rfl) ?_ rfl (Below.refl _ _)
        first | (go_simp; done) | rfl | (simp [go_sem, *]; done)
      refine G.stepsL_cons (fun a u hc hdd hd hk hdep => ?_) ?_
      ·
        have d9 : (a.tmps[9]?).getD undef = (.bool true) := hk 9 (by kernel_rfl)
        refine G.step_val KC KD hc hdd rfl (.bool true) u ((G.wanted_guard (j := 2) (b := false) (c := false) rfl (hdep ⟨2, .guard⟩ (by simp) rfl)).trans rfl) ?_ rfl (Below.refl _ _)
        first | (go_simp; done) | rfl | (simp [go_sem, *]; done)
      refine G.stepsL_cons (fun a u hc hdd hd hk hdep => ?_) ?_
      ·
        have d22 : (a.tmps[22]?).getD undef = (.bool true) := hdep ⟨3, .data⟩ (by simp) rfl
        refine G.step_val KC KD hc hdd rfl (.bool true) u ((G.wanted_guard (j := 2) (b := false) (c := false) rfl (hdep ⟨2, .chain⟩ (by simp) rfl)).trans rfl) ?_ rfl (Below.refl _ _)
        first | (go_simp; done) | rfl | (simp [go_sem, *]; done)
      refine G.stepsL_cons (fun a u hc hdd hd hk hdep => ?_) ?_
      ·
        have d8 : (a.tmps[8]?).getD undef = (.int .u64 (x : Int)) := hk 8 (by kernel_rfl)
        refine G.step_val KC KD hc hdd rfl (.int .u64 (x : Int)) u ((G.wanted_guard (j := 4) (b := true) (c := true) rfl (hdep ⟨4, .guard⟩ (by simp) rfl)).trans rfl) ?_ rfl (Below.refl _ _)
        first | (go_simp; done) | rfl | (simp [go_sem, *]; done)
      refine G.stepsL_cons (fun a u hc hdd hd hk hdep => ?_) ?_
      ·
        have d24 : (a.tmps[24]?).getD undef = (.int .u64 (x : Int)) := hdep ⟨5, .data⟩ (by simp) rfl
        refine G.step_call KC KD hc hdd rfl 9 #[.int .u64 (x : Int)] ((G.wanted_guard (j := 4) (b := true) (c := true) rfl (hdep ⟨4, .chain⟩ (by simp) rfl)).trans rfl) (by first | (go_simp; done) | rfl) ?_
        exact (P0.out u).mono (by rintro e w' ⟨A, c, rfl, hO, hb⟩; exact ⟨_, rfl, ⟨A, c, rfl, (Bys.of_own hO).2⟩, hb⟩)
      refine G.stepsL_cons (fun a u hc hdd hd hk hdep => ?_) ?_
      ·
        have d25' : (fun v w => ∃ A c, v = .slice A L0.length c ∧ Bys w A L0) ((a.tmps[25]?).getD undef) u := hdep ⟨6, .data⟩ (by simp) rfl
        obtain ⟨Ar25, cr25, d25, hr25⟩ := d25'
        have q := conv_str (c := cr25) rfl hr25
        refine G.step_val KC KD hc hdd rfl (.string (strOf L0)) u ((G.wanted_guard (j := 4) (b := true) (c := true) rfl (hdep ⟨4, .guard⟩ (by simp) rfl)).trans rfl) ?_ rfl (Below.refl _ _)
        first | (go_simp; done) | rfl | (simp [go_sem, *]; done)
      refine G.stepsL_cons (fun a u hc hdd hd hk hdep => ?_) ?_
      ·
        have d0 : (a.tmps[0]?).getD undef = (.slice A0 z0.length c0) := hk 0 (by kernel_rfl)
        refine G.step_val KC KD hc hdd rfl (.slice A0 z0.length c0) u ((G.wanted_guard (j := 4) (b := true) (c := true) rfl (hdep ⟨4, .guard⟩ (by simp) rfl)).trans rfl) ?_ rfl (Below.refl _ _)
        first | (go_simp; done) | rfl | (simp [go_sem, *]; done)
      refine G.stepsL_cons (fun a u hc hdd hd hk hdep => ?_) ?_
      ·
        have d0 : (a.tmps[0]?).getD undef = (.slice A0 z0.length c0) := hk 0 (by kernel_rfl)
        refine G.step_val KC KD hc hdd rfl (.slice A0 z0.length c0) u ((G.wanted_guard (j := 4) (b := true) (c := true) rfl (hdep ⟨4, .guard⟩ (by simp) rfl)).trans rfl) ?_ rfl (Below.refl _ _)
        first | (go_simp; done) | rfl | (simp [go_sem, *]; done)
      refine G.stepsL_cons (fun a u hc hdd hd hk hdep => ?_) ?_
      ·
        have d28 : (a.tmps[28]?).getD undef = (.slice A0 z0.length c0) := hdep ⟨9, .data⟩ (by simp) rfl
        refine G.step_val KC KD hc hdd rfl (.int .i64 (z0.length : Int)) u ((G.wanted_guard (j := 4) (b := true) (c := true) rfl (hdep ⟨4, .guard⟩ (by simp) rfl)).trans rfl) ?_ rfl (Below.refl _ _)
        first | (go_simp; done) | rfl | (simp [go_sem, *]; done)
      refine G.stepsL_cons (fun a u hc hdd hd hk hdep => ?_) ?_
      ·
        have d7 : (a.tmps[7]?).getD undef = (.pointer (some ⟨g, 0, none⟩)) := hk 7 (by kernel_rfl)
        refine G.step_val KC KD hc hdd rfl (.pointer (some ⟨g, 0, none⟩)) u ((G.wanted_guard (j := 4) (b := true) (c := true) rfl (hdep ⟨4, .guard⟩ (by simp) rfl)).trans rfl) ?_ rfl (Below.refl _ _)
        first | (go_simp; done) | rfl | (simp [go_sem, *]; done)
      refine G.stepsL_cons (fun a u hc hdd hd hk hdep => ?_) ?_
      ·
        have d30 : (a.tmps[30]?).getD undef = (.pointer (some ⟨g, 0, none⟩)) := hdep ⟨11, .data⟩ (by simp) rfl
        refine G.step_call KC KD hc hdd rfl 17 #[(.pointer (some ⟨g, 0, none⟩))] ((G.wanted_guard (j := 4) (b := true) (c := true) rfl (hdep ⟨4, .guard⟩ (by simp) rfl)).trans rfl) (by first | (go_simp; done) | rfl) ?_
        exact (LF.out u hc.2.1).mono (by rintro e w' ⟨rfl, rfl⟩; exact ⟨_, rfl, rfl, Below.refl _ _⟩)
      refine G.stepsL_cons (fun a u hc hdd hd hk hdep => ?_) ?_
      ·
        have d29 : (a.tmps[29]?).getD undef = (.int .i64 (z0.length : Int)) := hdep ⟨10, .data⟩ (by simp) rfl
        have d31 : (a.tmps[31]?).getD undef = (.int .i64 (r.length : Int)) := hdep ⟨12, .data⟩ (by simp) rfl
        refine G.step_val KC KD hc hdd rfl (.int .i64 (k : Int)) u ((G.wanted_guard (j := 4) (b := true) (c := true) rfl (hdep ⟨4, .guard⟩ (by simp) rfl)).trans rfl) ?_ rfl (Below.refl _ _)
        first | (go_simp; done) | rfl | (simp [go_sem, *]; done)
      refine G.stepsL_cons (fun a u hc hdd hd hk hdep => ?_) ?_
      ·
        have d27 : (a.tmps[27]?).getD undef = (.slice A0 z0.length c0) := hdep ⟨8, .data⟩ (by simp) rfl
        have d32 : (a.tmps[32]?).getD undef = (.int .i64 (k : Int)) := hdep ⟨13, .data⟩ (by simp) rfl
        refine G.step_val KC KD hc hdd rfl (.slice A0 k c0) u ((G.wanted_guard (j := 4) (b := true) (c := true) rfl (hdep ⟨4, .guard⟩ (by simp) rfl)).trans rfl) ?_ rfl (Below.refl _ _)
        first | (go_simp; done) | rfl | (simp [go_sem, *]; done)
      refine G.stepsL_cons (fun a u hc hdd hd hk hdep => ?_) ?_
      ·
        have d33 : (a.tmps[33]?).getD undef = (.slice A0 k c0) := hdep ⟨14, .data⟩ (by simp) rfl
        have q := conv_pre (c := c0) hkp.1 hkp.2 hc.1
        refine G.step_val KC KD hc hdd rfl (.string (strOf L0)) u ((G.wanted_guard (j := 4) (b := true) (c := true) rfl (hdep ⟨4, .guard⟩ (by simp) rfl)).trans rfl) ?_ rfl (Below.refl _ _)
        first | (go_simp; done) | rfl | (simp [go_sem, *]; done)
      refine G.stepsL_cons (fun a u hc hdd hd hk hdep => ?_) ?_
      ·
        have d26 : (a.tmps[26]?).getD undef = (.string (strOf L0)) := hdep ⟨7, .data⟩ (by simp) rfl
        have d34 : (a.tmps[34]?).getD undef = (.string (strOf L0)) := hdep ⟨15, .data⟩ (by simp) rfl
        refine G.step_val KC KD hc hdd rfl (.bool false) u ((G.wanted_guard (j := 4) (b := true) (c := true) rfl (hdep ⟨4, .guard⟩ (by simp) rfl)).trans rfl) ?_ rfl (Below.refl _ _)
        first | (go_simp; done) | rfl | (simp [go_sem, *]; done)
      refine G.stepsL_cons (fun a u hc hdd hd hk hdep => ?_) ?_
      ·
        have d23 : (a.tmps[23]?).getD undef = (.bool true) := hdep ⟨4, .data⟩ (by simp) rfl
        have d35 : (a.tmps[35]?).getD undef = (.bool false) := hdep ⟨16, .data⟩ (by simp) rfl
        refine G.step_val KC KD hc hdd rfl (.bool false) u ((G.wanted_guard (j := 2) (b := false) (c := false) rfl (hdep ⟨2, .guard⟩ (by simp) rfl)).trans rfl) ?_ rfl (Below.refl _ _)
        first | (go_simp; done) | rfl | (simp [go_sem, *]; done)
      refine G.stepsL_cons (fun a u hc hdd hd hk hdep => ?_) ?_
      ·
        have d21 : (a.tmps[21]?).getD undef = (.bool false) := hdep ⟨2, .data⟩ (by simp) rfl
        have d36 : (a.tmps[36]?).getD undef = (.bool false) := hdep ⟨17, .data⟩ (by simp) rfl
        refine G.step_val KC KD hc hdd rfl (.bool false) u (G.wanted_plain rfl) ?_ rfl (Below.refl _ _)
        first | (go_simp; done) | rfl | (simp [go_sem, *]; done)
      refine G.stepsL_cons (fun a u hc hdd hd hk hdep => ?_) ?_
      ·
        have d37 : (a.tmps[37]?).getD undef = (.bool false) := hdep ⟨18, .data⟩ (by simp) rfl
        refine G.step_val KC KD hc hdd rfl (.bool false) u (G.wanted_plain rfl) ?_ rfl (Below.refl _ _)
        first | (go_simp; done) | rfl | (simp [go_sem, *]; done)
      refine G.stepsL_cons (fun a u hc hdd hd hk hdep => ?_) ?_
      ·
        have d9 : (a.tmps[9]?).getD undef = (.bool true) := hk 9 (by kernel_rfl)
        refine G.step_val KC KD hc hdd rfl (.bool true) u ((G.wanted_guard (j := 19) (b := false) (c := false) rfl (hdep ⟨19, .guard⟩ (by simp) rfl)).trans rfl) ?_ rfl (Below.refl _ _)
        first | (go_simp; done) | rfl | (simp [go_sem, *]; done)
      refine G.stepsL_cons (fun a u hc hdd hd hk hdep => ?_) ?_
      ·
        have d39 : (a.tmps[39]?).getD undef = (.bool true) := hdep ⟨20, .data⟩ (by simp) rfl
        refine G.step_val KC KD hc hdd rfl (.bool false) u ((G.wanted_guard (j := 19) (b := false) (c := false) rfl (hdep ⟨19, .guard⟩ (by simp) rfl)).trans rfl) ?_ rfl (Below.refl _ _)
        first | (go_simp; done) | rfl | (simp [go_sem, *]; done)
      refine G.stepsL_cons (fun a u hc hdd hd hk hdep => ?_) ?_
      ·
        have d40 : (a.tmps[40]?).getD undef = (.bool false) := hdep ⟨21, .data⟩ (by simp) rfl
        refine G.step_val KC KD hc hdd rfl (.bool false) u ((G.wanted_guard (j := 19) (b := false) (c := false) rfl (hdep ⟨19, .chain⟩ (by simp) rfl)).trans rfl) ?_ rfl (Below.refl _ _)
        first | (go_simp; done) | rfl | (simp [go_sem, *]; done)
      refine G.stepsL_cons (fun a u hc hdd hd hk hdep => ?_) ?_
      · exact G.step_skip KD hc hdd rfl ((G.wanted_guard (j := 22) (b := true) (c := false) rfl (hdep ⟨22, .guard⟩ (by simp) rfl)).trans rfl) rfl
      refine G.stepsL_cons (fun a u hc hdd hd hk hdep => ?_) ?_
      · exact G.step_skip KD hc hdd rfl ((G.wanted_guard (j := 22) (b := true) (c := false) rfl (hdep ⟨22, .chain⟩ (by simp) rfl)).trans rfl) rfl
      refine G.stepsL_cons (fun a u hc hdd hd hk hdep => ?_) ?_
      · exact G.step_skip KD hc hdd rfl ((G.wanted_guard (j := 22) (b := true) (c := false) rfl (hdep ⟨22, .guard⟩ (by simp) rfl)).trans rfl) rfl
      refine G.stepsL_cons (fun a u hc hdd hd hk hdep => ?_) ?_
      · exact G.step_skip KD hc hdd rfl ((G.wanted_guard (j := 22) (b := true) (c := false) rfl (hdep ⟨22, .guard⟩ (by simp) rfl)).trans rfl) rfl
      refine G.stepsL_cons (fun a u hc hdd hd hk hdep => ?_) ?_
      · exact G.step_skip KD hc hdd rfl ((G.wanted_guard (j := 22) (b := true) (c := false) rfl (hdep ⟨22, .guard⟩ (by simp) rfl)).trans rfl) rfl
      refine G.stepsL_cons (fun a u hc hdd hd hk hdep => ?_) ?_
      ·
        have d41 : (a.tmps[41]?).getD undef = (.bool false) := hdep ⟨22, .data⟩ (by simp) rfl
        have d46 : (a.tmps[46]?).getD undef = undef := hdep ⟨27, .data⟩ (by simp) rfl
        refine G.step_val KC KD hc hdd rfl (.bool false) u ((G.wanted_guard (j := 19) (b := false) (c := false) rfl (hdep ⟨19, .guard⟩ (by simp) rfl)).trans rfl) ?_ rfl (Below.refl _ _)
        first | (go_simp; done) | rfl | (simp [go_sem, *]; done)
      refine G.stepsL_cons (fun a u hc hdd hd hk hdep => ?_) ?_
      ·
        have d38 : (a.tmps[38]?).getD undef = (.bool false) := hdep ⟨19, .data⟩ (by simp) rfl
        have d47 : (a.tmps[47]?).getD undef = (.bool false) := hdep ⟨28, .data⟩ (by simp) rfl
        refine G.step_val KC KD hc hdd rfl (.bool false) u (G.wanted_plain rfl) ?_ rfl (Below.refl _ _)
        first | (go_simp; done) | rfl | (simp [go_sem, *]; done)
      exact G.stepsL_nil
    intro vs' wN hNN hh
    have eL : vs' 29 = (.bool false) := by
      obtain ⟨-, -, -, -, -, -, -, -, -, -, -, -, -, -, -, -, -, -, -, -, -, -, -, -, -, -, -, -, -, eX, -⟩ := hh
      exact eX
    clear hh
    set_option maxRecDepth 100000 in simp only [List.take_succ_cons, List.take_zero, putAll, Act.put, List.setIfInBounds_toArray, List.set_cons_zero, List.set_cons_succ, Nat.reduceAdd, eL]
    clear eL
    clear P0 LF hkp hsub hkc
    clear k1 k2
    obtain ⟨-, -, q3⟩ := hNN
    replace q3 := Lib.hid q3
    go_wp2_with fail
    refine (P1.out _).mono ?_; rintro e u1 ⟨B1, d1, rfl, hO1, hb1⟩
    replace hO1 := Lib.hid hO1
    replace hb1 := Lib.hid (mmore q3.out hb1)
    go_wp2_with fail
    refine (P2.out _).mono ?_; rintro e u2 ⟨B2, d2, rfl, hO2, hb2⟩
    have j1 := Lib.hid ((Bys.of_own hO1.out).2.later hb2)
    have j2 := Lib.hid (Bys.of_own hO2).2
    have j3 := Lib.hid (mmore hb1.out hb2)
    obtain ⟨_, _, hv2, hd2, -⟩ := bslice_of hO2
    have hd2' : L2.length ≤ d2 := by injection hv2 with _ _ hv2; omega
    clear hO1 hb1 hO2 hb2 q3 hv2 hd2
    go_upto_region 6 with (fail)
    by_cases hnm : n = m
    · subst hnm
      clear PF
      have KD := G.keepsD_true []
      refine G.region_words (fun w' => Bys w' B1 L1 ∧ Bys w' B2 L2 ∧ Below w.heap.size w w') [G.isW (.int .u64 (n : Int)), G.isW (.int .u64 (n : Int)), G.isW (.bool true), G.isW (.bool true), G.isW undef, G.isW undef, G.isW undef, G.isW undef, G.isW undef, G.isW (.bool true), G.isW (.bool true), G.isW undef, G.isW undef, G.isW undef, G.isW undef, G.isW undef, G.isW undef, G.isW undef, G.isW undef, G.isW (.bool true), G.isW (.bool true)] (by kernel_rfl) (by repeat' (first | exact G.monoL_nil | exact G.is_mono _ | exact G.any_mono | refine G.monoL_cons ?_ ?_)) (by kernel_rfl) (by kernel_rfl) (fun _ _ h hb => ⟨h.1.later hb, h.2.1.later hb, mmore h.2.2 hb⟩) ⟨j1.out.drew, j2.out.drew, j3.out.drew⟩ ?_ ?_
      · intro KC
        refine G.stepsL_cons (fun a u hc hdd hd hk hdep => ?_) ?_
        ·
          have d1 : (a.tmps[1]?).getD undef = (.int .u64 (n : Int)) := hk 1 (by kernel_rfl)
          refine G.step_val KC KD hc hdd rfl (.int .u64 (n : Int)) u (G.wanted_plain rfl) ?_ rfl (Below.refl _ _)
          first | (go_simp; done) | rfl | (simp [go_sem, *]; done)
        refine G.stepsL_cons (fun a u hc hdd hd hk hdep => ?_) ?_
        ·
          have d2 : (a.tmps[2]?).getD undef = (.int .u64 (n : Int)) := hk 2 (by kernel_rfl)
          refine G.step_val KC KD hc hdd rfl (.int .u64 (n : Int)) u (G.wanted_plain rfl) ?_ rfl (Below.refl _ _)
          first | (go_simp; done) | rfl | (simp [go_sem, *]; done)
        refine G.stepsL_cons (fun a u hc hdd hd hk hdep => ?_) ?_
        ·
          have d53 : (a.tmps[53]?).getD undef = (.int .u64 (n : Int)) := hdep ⟨0, .data⟩ (by simp) rfl
          have d54 : (a.tmps[54]?).getD undef = (.int .u64 (n : Int)) := hdep ⟨1, .data⟩ (by simp) rfl
          refine G.step_val KC KD hc hdd rfl (.bool true) u (G.wanted_plain rfl) ?_ rfl (Below.refl _ _)
          first | (go_simp; done) | rfl | (simp [go_sem, *]; done)
        refine G.stepsL_cons (fun a u hc hdd hd hk hdep => ?_) ?_
        ·
          have d55 : (a.tmps[55]?).getD undef = (.bool true) := hdep ⟨2, .data⟩ (by simp) rfl
          refine G.step_val KC KD hc hdd rfl (.bool true) u (G.wanted_plain rfl) ?_ rfl (Below.refl _ _)
          first | (go_simp; done) | rfl | (simp [go_sem, *]; done)
        refine G.stepsL_cons (fun a u hc hdd hd hk hdep => ?_) ?_
        · exact G.step_skip KD hc hdd rfl ((G.wanted_guard (j := 3) (b := false) (c := true) rfl (hdep ⟨3, .guard⟩ (by simp) rfl)).trans rfl) rfl
        refine G.stepsL_cons (fun a u hc hdd hd hk hdep => ?_) ?_
        · exact G.step_skip KD hc hdd rfl ((G.wanted_guard (j := 3) (b := false) (c := true) rfl (hdep ⟨3, .guard⟩ (by simp) rfl)).trans rfl) rfl
        refine G.stepsL_cons (fun a u hc hdd hd hk hdep => ?_) ?_
        · exact G.step_skip KD hc hdd rfl ((G.wanted_guard (j := 3) (b := false) (c := true) rfl (hdep ⟨3, .guard⟩ (by simp) rfl)).trans rfl) rfl
        refine G.stepsL_cons (fun a u hc hdd hd hk hdep => ?_) ?_
        · exact G.step_skip KD hc hdd rfl ((G.wanted_guard (j := 3) (b := false) (c := true) rfl (hdep ⟨3, .guard⟩ (by simp) rfl)).trans rfl) rfl
        refine G.stepsL_cons (fun a u hc hdd hd hk hdep => ?_) ?_
        · exact G.step_skip KD hc hdd rfl ((G.wanted_guard (j := 3) (b := false) (c := true) rfl (hdep ⟨3, .guard⟩ (by simp) rfl)).trans rfl) rfl
        refine G.stepsL_cons (fun a u hc hdd hd hk hdep => ?_) ?_
        ·
          have d56 : (a.tmps[56]?).getD undef = (.bool true) := hdep ⟨3, .data⟩ (by simp) rfl
          have d61 : (a.tmps[61]?).getD undef = undef := hdep ⟨8, .data⟩ (by simp) rfl
          refine G.step_val KC KD hc hdd rfl (.bool true) u (G.wanted_plain rfl) ?_ rfl (Below.refl _ _)
          first | (go_simp; done) | rfl | (simp [go_sem, *]; done)
        refine G.stepsL_cons (fun a u hc hdd hd hk hdep => ?_) ?_
        ·
          have d62 : (a.tmps[62]?).getD undef = (.bool true) := hdep ⟨9, .data⟩ (by simp) rfl
          refine G.step_val KC KD hc hdd rfl (.bool true) u (G.wanted_plain rfl) ?_ rfl (Below.refl _ _)
          first | (go_simp; done) | rfl | (simp [go_sem, *]; done)
        refine G.stepsL_cons (fun a u hc hdd hd hk hdep => ?_) ?_
        · exact G.step_skip KD hc hdd rfl ((G.wanted_guard (j := 10) (b := false) (c := true) rfl (hdep ⟨10, .guard⟩ (by simp) rfl)).trans rfl) rfl
        refine G.stepsL_cons (fun a u hc hdd hd hk hdep => ?_) ?_
        · exact G.step_skip KD hc hdd rfl ((G.wanted_guard (j := 10) (b := false) (c := true) rfl (hdep ⟨10, .guard⟩ (by simp) rfl)).trans rfl) rfl
        refine G.stepsL_cons (fun a u hc hdd hd hk hdep => ?_) ?_
        · exact G.step_skip KD hc hdd rfl ((G.wanted_guard (j := 10) (b := false) (c := true) rfl (hdep ⟨10, .guard⟩ (by simp) rfl)).trans rfl) rfl
        refine G.stepsL_cons (fun a u hc hdd hd hk hdep => ?_) ?_
        · exact G.step_skip KD hc hdd rfl ((G.wanted_guard (j := 10) (b := false) (c := true) rfl (hdep ⟨10, .guard⟩ (by simp) rfl)).trans rfl) rfl
        refine G.stepsL_cons (fun a u hc hdd hd hk hdep => ?_) ?_
        · exact G.step_skip KD hc hdd rfl ((G.wanted_guard (j := 10) (b := false) (c := true) rfl (hdep ⟨10, .guard⟩ (by simp) rfl)).trans rfl) rfl
        refine G.stepsL_cons (fun a u hc hdd hd hk hdep => ?_) ?_
        · exact G.step_skip KD hc hdd rfl ((G.wanted_guard (j := 10) (b := false) (c := true) rfl (hdep ⟨10, .guard⟩ (by simp) rfl)).trans rfl) rfl
        refine G.stepsL_cons (fun a u hc hdd hd hk hdep => ?_) ?_
        · exact G.step_skip KD hc hdd rfl ((G.wanted_guard (j := 10) (b := false) (c := true) rfl (hdep ⟨10, .guard⟩ (by simp) rfl)).trans rfl) rfl
        refine G.stepsL_cons (fun a u hc hdd hd hk hdep => ?_) ?_
        · exact G.step_skip KD hc hdd rfl ((G.wanted_guard (j := 10) (b := false) (c := true) rfl (hdep ⟨10, .guard⟩ (by simp) rfl)).trans rfl) rfl
        refine G.stepsL_cons (fun a u hc hdd hd hk hdep => ?_) ?_
        ·
          have d63 : (a.tmps[63]?).getD undef = (.bool true) := hdep ⟨10, .data⟩ (by simp) rfl
          have d71 : (a.tmps[71]?).getD undef = undef := hdep ⟨18, .data⟩ (by simp) rfl
          refine G.step_val KC KD hc hdd rfl (.bool true) u (G.wanted_plain rfl) ?_ rfl (Below.refl _ _)
          first | (go_simp; done) | rfl | (simp [go_sem, *]; done)
        refine G.stepsL_cons (fun a u hc hdd hd hk hdep => ?_) ?_
        ·
          have d72 : (a.tmps[72]?).getD undef = (.bool true) := hdep ⟨19, .data⟩ (by simp) rfl
          refine G.step_val KC KD hc hdd rfl (.bool true) u (G.wanted_plain rfl) ?_ rfl (Below.refl _ _)
          first | (go_simp; done) | rfl | (simp [go_sem, *]; done)
        exact G.stepsL_nil
      intro vs' wN hNN hh
      have eL : vs' 20 = (.bool true) := by
        obtain ⟨-, -, -, -, -, -, -, -, -, -, -, -, -, -, -, -, -, -, -, -, eX, -⟩ := hh
        exact eX
      clear hh
      set_option maxRecDepth 100000 in simp only [List.take_succ_cons, List.take_zero, putAll, Act.put, List.setIfInBounds_toArray, List.set_cons_zero, List.set_cons_succ, Nat.reduceAdd, eL]
      clear eL
      obtain ⟨-, -, q3⟩ := hNN
      clear j1 j2 j3
      go_wp2
      go_ret
      exact ⟨rfl, q3⟩
    have hnm1 : ((n : Int) == (m : Int)) = false := by rw [beq_eq_false_iff_ne]; omega
    by_cases hle : L1.length ≤ L2.length
    · have hle1 : decide ((L2.length : Int) < (L1.length : Int)) = false := by simp; omega
      have hle2 : decide (L2.length < L1.length) = false := by simp; omega
      have hle3 : L1.length ≤ d2 := by omega
      have hne := PF.out hnm hle
      have Q1 := Lib.hid (fun u (h : Bys u B1 L1) => conv_str (A := B1) (n := L1.length) (c := d1) rfl h)
      have Q2 := Lib.hid (fun u (h : Bys u B2 L2) => conv_pre (A := B2) (k := L1.length) (c := d2) hle rfl h)
      generalize strOf (L2.take L1.length) = s2 at *
      generalize strOf L1 = s1 at *
      replace hne := toList_neM hne
      clear PF hnm
      have KD := G.keepsD_true []
      refine G.region_words (fun w' => Bys w' B1 L1 ∧ Bys w' B2 L2 ∧ Below w.heap.size w w') [G.isW (.int .u64 (n : Int)), G.isW (.int .u64 (m : Int)), G.isW (.bool false), G.isW (.bool false), G.isW (.slice B1 L1.length d1), G.isW (.int .i64 (L1.length : Int)), G.isW (.slice B2 L2.length d2), G.isW (.int .i64 (L2.length : Int)), G.isW (.bool false), G.isW (.bool false), G.isW (.bool false), G.isW (.slice B2 L2.length d2), G.isW (.slice B1 L1.length d1), G.isW (.int .i64 (L1.length : Int)), G.isW (.slice B2 L1.length d2), G.isW (.string s2), G.isW (.slice B1 L1.length d1), G.isW (.string s1), G.isW (.bool true), G.isW (.bool true), G.isW (.bool true)] (by kernel_rfl) (by repeat' (first | exact G.monoL_nil | exact G.is_mono _ | exact G.any_mono | refine G.monoL_cons ?_ ?_)) (by kernel_rfl) (by kernel_rfl) (fun _ _ h hb => ⟨h.1.later hb, h.2.1.later hb, mmore h.2.2 hb⟩) ⟨j1.out.drew, j2.out.drew, j3.out.drew⟩ ?_ ?_
      · intro KC
        refine G.stepsL_cons (fun a u hc hdd hd hk hdep => ?_) ?_
        ·
          have d1 : (a.tmps[1]?).getD undef = (.int .u64 (n : Int)) := hk 1 (by kernel_rfl)
          refine G.step_val KC KD hc hdd rfl (.int .u64 (n : Int)) u (G.wanted_plain rfl) ?_ rfl (Below.refl _ _)
          first | (go_simp; done) | rfl | (simp [go_sem, *]; done)
        refine G.stepsL_cons (fun a u hc hdd hd hk hdep => ?_) ?_
        ·
          have d2 : (a.tmps[2]?).getD undef = (.int .u64 (m : Int)) := hk 2 (by kernel_rfl)
          refine G.step_val KC KD hc hdd rfl (.int .u64 (m : Int)) u (G.wanted_plain rfl) ?_ rfl (Below.refl _ _)
          first | (go_simp; done) | rfl | (simp [go_sem, *]; done)
        refine G.stepsL_cons (fun a u hc hdd hd hk hdep => ?_) ?_
        ·
          have d53 : (a.tmps[53]?).getD undef = (.int .u64 (n : Int)) := hdep ⟨0, .data⟩ (by simp) rfl
          have d54 : (a.tmps[54]?).getD undef = (.int .u64 (m : Int)) := hdep ⟨1, .data⟩ (by simp) rfl
          refine G.step_val KC KD hc hdd rfl (.bool false) u (G.wanted_plain rfl) ?_ rfl (Below.refl _ _)
          first | (go_simp; done) | rfl | (simp [go_sem, *]; done)
        refine G.stepsL_cons (fun a u hc hdd hd hk hdep => ?_) ?_
        ·
          have d55 : (a.tmps[55]?).getD undef = (.bool false) := hdep ⟨2, .data⟩ (by simp) rfl
          refine G.step_val KC KD hc hdd rfl (.bool false) u (G.wanted_plain rfl) ?_ rfl (Below.refl _ _)
          first | (go_simp; done) | rfl | (simp [go_sem, *]; done)
        refine G.stepsL_cons (fun a u hc hdd hd hk hdep => ?_) ?_
        ·
          have d10 : (a.tmps[10]?).getD undef = (.slice B1 L1.length d1) := hk 10 (by kernel_rfl)
          refine G.step_val KC KD hc hdd rfl (.slice B1 L1.length d1) u ((G.wanted_guard (j := 3) (b := false) (c := false) rfl (hdep ⟨3, .guard⟩ (by simp) rfl)).trans rfl) ?_ rfl (Below.refl _ _)
          first | (go_simp; done) | rfl | (simp [go_sem, *]; done)
        refine G.stepsL_cons (fun a u hc hdd hd hk hdep => ?_) ?_
        ·
          have d57 : (a.tmps[57]?).getD undef = (.slice B1 L1.length d1) := hdep ⟨4, .data⟩ (by simp) rfl
          refine G.step_val KC KD hc hdd rfl (.int .i64 (L1.length : Int)) u ((G.wanted_guard (j := 3) (b := false) (c := false) rfl (hdep ⟨3, .guard⟩ (by simp) rfl)).trans rfl) ?_ rfl (Below.refl _ _)
          first | (go_simp; done) | rfl | (simp [go_sem, *]; done)
        refine G.stepsL_cons (fun a u hc hdd hd hk hdep => ?_) ?_
        ·
          have d11 : (a.tmps[11]?).getD undef = (.slice B2 L2.length d2) := hk 11 (by kernel_rfl)
          refine G.step_val KC KD hc hdd rfl (.slice B2 L2.length d2) u ((G.wanted_guard (j := 3) (b := false) (c := false) rfl (hdep ⟨3, .guard⟩ (by simp) rfl)).trans rfl) ?_ rfl (Below.refl _ _)
          first | (go_simp; done) | rfl | (simp [go_sem, *]; done)
        refine G.stepsL_cons (fun a u hc hdd hd hk hdep => ?_) ?_
        ·
          have d59 : (a.tmps[59]?).getD undef = (.slice B2 L2.length d2) := hdep ⟨6, .data⟩ (by simp) rfl
          refine G.step_val KC KD hc hdd rfl (.int .i64 (L2.length : Int)) u ((G.wanted_guard (j := 3) (b := false) (c := false) rfl (hdep ⟨3, .guard⟩ (by simp) rfl)).trans rfl) ?_ rfl (Below.refl _ _)
          first | (go_simp; done) | rfl | (simp [go_sem, *]; done)
        refine G.stepsL_cons (fun a u hc hdd hd hk hdep => ?_) ?_
        ·
          have d58 : (a.tmps[58]?).getD undef = (.int .i64 (L1.length : Int)) := hdep ⟨5, .data⟩ (by simp) rfl
          have d60 : (a.tmps[60]?).getD undef = (.int .i64 (L2.length : Int)) := hdep ⟨7, .data⟩ (by simp) rfl
          refine G.step_val KC KD hc hdd rfl (.bool false) u ((G.wanted_guard (j := 3) (b := false) (c := false) rfl (hdep ⟨3, .guard⟩ (by simp) rfl)).trans rfl) ?_ rfl (Below.refl _ _)
          first | (go_simp; done) | rfl | (simp [go_sem, *]; done)
        refine G.stepsL_cons (fun a u hc hdd hd hk hdep => ?_) ?_
        ·
          have d56 : (a.tmps[56]?).getD undef = (.bool false) := hdep ⟨3, .data⟩ (by simp) rfl
          have d61 : (a.tmps[61]?).getD undef = (.bool false) := hdep ⟨8, .data⟩ (by simp) rfl
          refine G.step_val KC KD hc hdd rfl (.bool false) u (G.wanted_plain rfl) ?_ rfl (Below.refl _ _)
          first | (go_simp; done) | rfl | (simp [go_sem, *]; done)
        refine G.stepsL_cons (fun a u hc hdd hd hk hdep => ?_) ?_
        ·
          have d62 : (a.tmps[62]?).getD undef = (.bool false) := hdep ⟨9, .data⟩ (by simp) rfl
          refine G.step_val KC KD hc hdd rfl (.bool false) u (G.wanted_plain rfl) ?_ rfl (Below.refl _ _)
          first | (go_simp; done) | rfl | (simp [go_sem, *]; done)
        refine G.stepsL_cons (fun a u hc hdd hd hk hdep => ?_) ?_
        ·
          have d11 : (a.tmps[11]?).getD undef = (.slice B2 L2.length d2) := hk 11 (by kernel_rfl)
          refine G.step_val KC KD hc hdd rfl (.slice B2 L2.length d2) u ((G.wanted_guard (j := 10) (b := false) (c := false) rfl (hdep ⟨10, .guard⟩ (by simp) rfl)).trans rfl) ?_ rfl (Below.refl _ _)
          first | (go_simp; done) | rfl | (simp [go_sem, *]; done)
        refine G.stepsL_cons (fun a u hc hdd hd hk hdep => ?_) ?_
        ·
          have d10 : (a.tmps[10]?).getD undef = (.slice B1 L1.length d1) := hk 10 (by kernel_rfl)
          refine G.step_val KC KD hc hdd rfl (.slice B1 L1.length d1) u ((G.wanted_guard (j := 10) (b := false) (c := false) rfl (hdep ⟨10, .guard⟩ (by simp) rfl)).trans rfl) ?_ rfl (Below.refl _ _)
          first | (go_simp; done) | rfl | (simp [go_sem, *]; done)
        refine G.stepsL_cons (fun a u hc hdd hd hk hdep => ?_) ?_
        ·
          have d65 : (a.tmps[65]?).getD undef = (.slice B1 L1.length d1) := hdep ⟨12, .data⟩ (by simp) rfl
          refine G.step_val KC KD hc hdd rfl (.int .i64 (L1.length : Int)) u ((G.wanted_guard (j := 10) (b := false) (c := false) rfl (hdep ⟨10, .guard⟩ (by simp) rfl)).trans rfl) ?_ rfl (Below.refl _ _)
          first | (go_simp; done) | rfl | (simp [go_sem, *]; done)
        refine G.stepsL_cons (fun a u hc hdd hd hk hdep => ?_) ?_
        ·
          have d64 : (a.tmps[64]?).getD undef = (.slice B2 L2.length d2) := hdep ⟨11, .data⟩ (by simp) rfl
          have d66 : (a.tmps[66]?).getD undef = (.int .i64 (L1.length : Int)) := hdep ⟨13, .data⟩ (by simp) rfl
          refine G.step_val KC KD hc hdd rfl (.slice B2 L1.length d2) u ((G.wanted_guard (j := 10) (b := false) (c := false) rfl (hdep ⟨10, .guard⟩ (by simp) rfl)).trans rfl) ?_ rfl (Below.refl _ _)
          first | (go_simp; done) | rfl | (simp [go_sem, *]; done)
        refine G.stepsL_cons (fun a u hc hdd hd hk hdep => ?_) ?_
        ·
          have d67 : (a.tmps[67]?).getD undef = (.slice B2 L1.length d2) := hdep ⟨14, .data⟩ (by simp) rfl
          have q := Q2.out u hc.2.1
          refine G.step_val KC KD hc hdd rfl (.string s2) u ((G.wanted_guard (j := 10) (b := false) (c := false) rfl (hdep ⟨10, .guard⟩ (by simp) rfl)).trans rfl) ?_ rfl (Below.refl _ _)
          first | (go_simp; done) | rfl | (simp [go_sem, *]; done)
        refine G.stepsL_cons (fun a u hc hdd hd hk hdep => ?_) ?_
        ·
          have d10 : (a.tmps[10]?).getD undef = (.slice B1 L1.length d1) := hk 10 (by kernel_rfl)
          refine G.step_val KC KD hc hdd rfl (.slice B1 L1.length d1) u ((G.wanted_guard (j := 10) (b := false) (c := false) rfl (hdep ⟨10, .guard⟩ (by simp) rfl)).trans rfl) ?_ rfl (Below.refl _ _)
          first | (go_simp; done) | rfl | (simp [go_sem, *]; done)
        refine G.stepsL_cons (fun a u hc hdd hd hk hdep => ?_) ?_
        ·
          have d69 : (a.tmps[69]?).getD undef = (.slice B1 L1.length d1) := hdep ⟨16, .data⟩ (by simp) rfl
          have q := Q1.out u hc.1
          refine G.step_val KC KD hc hdd rfl (.string s1) u ((G.wanted_guard (j := 10) (b := false) (c := false) rfl (hdep ⟨10, .guard⟩ (by simp) rfl)).trans rfl) ?_ rfl (Below.refl _ _)
          first | (go_simp; done) | rfl | (simp [go_sem, *]; done)
        refine G.stepsL_cons (fun a u hc hdd hd hk hdep => ?_) ?_
        ·
          have d68 : (a.tmps[68]?).getD undef = (.string s2) := hdep ⟨15, .data⟩ (by simp) rfl
          have d70 : (a.tmps[70]?).getD undef = (.string s1) := hdep ⟨17, .data⟩ (by simp) rfl
          refine G.step_val KC KD hc hdd rfl (.bool true) u ((G.wanted_guard (j := 10) (b := false) (c := false) rfl (hdep ⟨10, .guard⟩ (by simp) rfl)).trans rfl) ?_ rfl (Below.refl _ _)
          first | (go_simp; done) | rfl | (simp [go_sem, *]; done)
        refine G.stepsL_cons (fun a u hc hdd hd hk hdep => ?_) ?_
        ·
          have d63 : (a.tmps[63]?).getD undef = (.bool false) := hdep ⟨10, .data⟩ (by simp) rfl
          have d71 : (a.tmps[71]?).getD undef = (.bool true) := hdep ⟨18, .data⟩ (by simp) rfl
          refine G.step_val KC KD hc hdd rfl (.bool true) u (G.wanted_plain rfl) ?_ rfl (Below.refl _ _)
          first | (go_simp; done) | rfl | (simp [go_sem, *]; done)
        refine G.stepsL_cons (fun a u hc hdd hd hk hdep => ?_) ?_
        ·
          have d72 : (a.tmps[72]?).getD undef = (.bool true) := hdep ⟨19, .data⟩ (by simp) rfl
          refine G.step_val KC KD hc hdd rfl (.bool true) u (G.wanted_plain rfl) ?_ rfl (Below.refl _ _)
          first | (go_simp; done) | rfl | (simp [go_sem, *]; done)
        exact G.stepsL_nil
      intro vs' wN hNN hh
      have eL : vs' 20 = (.bool true) := by
        obtain ⟨-, -, -, -, -, -, -, -, -, -, -, -, -, -, -, -, -, -, -, -, eX, -⟩ := hh
        exact eX
      clear hh
      set_option maxRecDepth 100000 in simp only [List.take_succ_cons, List.take_zero, putAll, Act.put, List.setIfInBounds_toArray, List.set_cons_zero, List.set_cons_succ, Nat.reduceAdd, eL]
      clear eL
      obtain ⟨-, -, q3⟩ := hNN
      clear j1 j2 j3
      go_wp2
      go_ret
      exact ⟨rfl, q3⟩
    · have hle1 : decide ((L2.length : Int) < (L1.length : Int)) = true := by simp; omega
      have hle2 : decide (L2.length < L1.length) = true := by simp; omega
      clear PF hnm
      have KD := G.keepsD_true []
      refine G.region_words (fun w' => Bys w' B1 L1 ∧ Bys w' B2 L2 ∧ Below w.heap.size w w') [G.isW (.int .u64 (n : Int)), G.isW (.int .u64 (m : Int)), G.isW (.bool false), G.isW (.bool false), G.isW (.slice B1 L1.length d1), G.isW (.int .i64 (L1.length : Int)), G.isW (.slice B2 L2.length d2), G.isW (.int .i64 (L2.length : Int)), G.isW (.bool true), G.isW (.bool true), G.isW (.bool true), G.isW undef, G.isW undef, G.isW undef, G.isW undef, G.isW undef, G.isW undef, G.isW undef, G.isW undef, G.isW (.bool true), G.isW (.bool true)] (by kernel_rfl) (by repeat' (first | exact G.monoL_nil | exact G.is_mono _ | exact G.any_mono | refine G.monoL_cons ?_ ?_)) (by kernel_rfl) (by kernel_rfl) (fun _ _ h hb => ⟨h.1.later hb, h.2.1.later hb, mmore h.2.2 hb⟩) ⟨j1.out.drew, j2.out.drew, j3.out.drew⟩ ?_ ?_
      · intro KC
        refine G.stepsL_cons (fun a u hc hdd hd hk hdep => ?_) ?_
        ·
          have d1 : (a.tmps[1]?).getD undef = (.int .u64 (n : Int)) := hk 1 (by kernel_rfl)
          refine G.step_val KC KD hc hdd rfl (.int .u64 (n : Int)) u (G.wanted_plain rfl) ?_ rfl (Below.refl _ _)
          first | (go_simp; done) | rfl | (simp [go_sem, *]; done)
        refine G.stepsL_cons (fun a u hc hdd hd hk hdep => ?_) ?_
        ·
          have d2 : (a.tmps[2]?).getD undef = (.int .u64 (m : Int)) := hk 2 (by kernel_rfl)
          refine G.step_val KC KD hc hdd rfl (.int .u64 (m : Int)) u (G.wanted_plain rfl) ?_ rfl (Below.refl _ _)
          first | (go_simp; done) | rfl | (simp [go_sem, *]; done)
        refine G.stepsL_cons (fun a u hc hdd hd hk hdep => ?_) ?_
        ·
          have d53 : (a.tmps[53]?).getD undef = (.int .u64 (n : Int)) := hdep ⟨0, .data⟩ (by simp) rfl
          have d54 : (a.tmps[54]?).getD undef = (.int .u64 (m : Int)) := hdep ⟨1, .data⟩ (by simp) rfl
          refine G.step_val KC KD hc hdd rfl (.bool false) u (G.wanted_plain rfl) ?_ rfl (Below.refl _ _)
          first | (go_simp; done) | rfl | (simp [go_sem, *]; done)
        refine G.stepsL_cons (fun a u hc hdd hd hk hdep => ?_) ?_
        ·
          have d55 : (a.tmps[55]?).getD undef = (.bool false) := hdep ⟨2, .data⟩ (by simp) rfl
          refine G.step_val KC KD hc hdd rfl (.bool false) u (G.wanted_plain rfl) ?_ rfl (Below.refl _ _)
          first | (go_simp; done) | rfl | (simp [go_sem, *]; done)
        refine G.stepsL_cons (fun a u hc hdd hd hk hdep => ?_) ?_
        ·
          have d10 : (a.tmps[10]?).getD undef = (.slice B1 L1.length d1) := hk 10 (by kernel_rfl)
          refine G.step_val KC KD hc hdd rfl (.slice B1 L1.length d1) u ((G.wanted_guard (j := 3) (b := false) (c := false) rfl (hdep ⟨3, .guard⟩ (by simp) rfl)).trans rfl) ?_ rfl (Below.refl _ _)
          first | (go_simp; done) | rfl | (simp [go_sem, *]; done)
        refine G.stepsL_cons (fun a u hc hdd hd hk hdep => ?_) ?_
        ·
          have d57 : (a.tmps[57]?).getD undef = (.slice B1 L1.length d1) := hdep ⟨4, .data⟩ (by simp) rfl
          refine G.step_val KC KD hc hdd rfl (.int .i64 (L1.length : Int)) u ((G.wanted_guard (j := 3) (b := false) (c := false) rfl (hdep ⟨3, .guard⟩ (by simp) rfl)).trans rfl) ?_ rfl (Below.refl _ _)
          first | (go_simp; done) | rfl | (simp [go_sem, *]; done)
        refine G.stepsL_cons (fun a u hc hdd hd hk hdep => ?_) ?_
        ·
          have d11 : (a.tmps[11]?).getD undef = (.slice B2 L2.length d2) := hk 11 (by kernel_rfl)
          refine G.step_val KC KD hc hdd rfl (.slice B2 L2.length d2) u ((G.wanted_guard (j := 3) (b := false) (c := false) rfl (hdep ⟨3, .guard⟩ (by simp) rfl)).trans rfl) ?_ rfl (Below.refl _ _)
          first | (go_simp; done) | rfl | (simp [go_sem, *]; done)
        refine G.stepsL_cons (fun a u hc hdd hd hk hdep => ?_) ?_
        ·
          have d59 : (a.tmps[59]?).getD undef = (.slice B2 L2.length d2) := hdep ⟨6, .data⟩ (by simp) rfl
          refine G.step_val KC KD hc hdd rfl (.int .i64 (L2.length : Int)) u ((G.wanted_guard (j := 3) (b := false) (c := false) rfl (hdep ⟨3, .guard⟩ (by simp) rfl)).trans rfl) ?_ rfl (Below.refl _ _)
          first | (go_simp; done) | rfl | (simp [go_sem, *]; done)
        refine G.stepsL_cons (fun a u hc hdd hd hk hdep => ?_) ?_
        ·
          have d58 : (a.tmps[58]?).getD undef = (.int .i64 (L1.length : Int)) := hdep ⟨5, .data⟩ (by simp) rfl
          have d60 : (a.tmps[60]?).getD undef = (.int .i64 (L2.length : Int)) := hdep ⟨7, .data⟩ (by simp) rfl
          refine G.step_val KC KD hc hdd rfl (.bool true) u ((G.wanted_guard (j := 3) (b := false) (c := false) rfl (hdep ⟨3, .guard⟩ (by simp) rfl)).trans rfl) ?_ rfl (Below.refl _ _)
          first | (go_simp; done) | rfl | (simp [go_sem, *]; done)
        refine G.stepsL_cons (fun a u hc hdd hd hk hdep => ?_) ?_
        ·
          have d56 : (a.tmps[56]?).getD undef = (.bool false) := hdep ⟨3, .data⟩ (by simp) rfl
          have d61 : (a.tmps[61]?).getD undef = (.bool true) := hdep ⟨8, .data⟩ (by simp) rfl
          refine G.step_val KC KD hc hdd rfl (.bool true) u (G.wanted_plain rfl) ?_ rfl (Below.refl _ _)
          first | (go_simp; done) | rfl | (simp [go_sem, *]; done)
        refine G.stepsL_cons (fun a u hc hdd hd hk hdep => ?_) ?_
        ·
          have d62 : (a.tmps[62]?).getD undef = (.bool true) := hdep ⟨9, .data⟩ (by simp) rfl
          refine G.step_val KC KD hc hdd rfl (.bool true) u (G.wanted_plain rfl) ?_ rfl (Below.refl _ _)
          first | (go_simp; done) | rfl | (simp [go_sem, *]; done)
        refine G.stepsL_cons (fun a u hc hdd hd hk hdep => ?_) ?_
        · exact G.step_skip KD hc hdd rfl ((G.wanted_guard (j := 10) (b := false) (c := true) rfl (hdep ⟨10, .guard⟩ (by simp) rfl)).trans rfl) rfl
        refine G.stepsL_cons (fun a u hc hdd hd hk hdep => ?_) ?_
        · exact G.step_skip KD hc hdd rfl ((G.wanted_guard (j := 10) (b := false) (c := true) rfl (hdep ⟨10, .guard⟩ (by simp) rfl)).trans rfl) rfl
        refine G.stepsL_cons (fun a u hc hdd hd hk hdep => ?_) ?_
        · exact G.step_skip KD hc hdd rfl ((G.wanted_guard (j := 10) (b := false) (c := true) rfl (hdep ⟨10, .guard⟩ (by simp) rfl)).trans rfl) rfl
        refine G.stepsL_cons (fun a u hc hdd hd hk hdep => ?_) ?_
        · exact G.step_skip KD hc hdd rfl ((G.wanted_guard (j := 10) (b := false) (c := true) rfl (hdep ⟨10, .guard⟩ (by simp) rfl)).trans rfl) rfl
        refine G.stepsL_cons (fun a u hc hdd hd hk hdep => ?_) ?_
        · exact G.step_skip KD hc hdd rfl ((G.wanted_guard (j := 10) (b := false) (c := true) rfl (hdep ⟨10, .guard⟩ (by simp) rfl)).trans rfl) rfl
        refine G.stepsL_cons (fun a u hc hdd hd hk hdep => ?_) ?_
        · exact G.step_skip KD hc hdd rfl ((G.wanted_guard (j := 10) (b := false) (c := true) rfl (hdep ⟨10, .guard⟩ (by simp) rfl)).trans rfl) rfl
        refine G.stepsL_cons (fun a u hc hdd hd hk hdep => ?_) ?_
        · exact G.step_skip KD hc hdd rfl ((G.wanted_guard (j := 10) (b := false) (c := true) rfl (hdep ⟨10, .guard⟩ (by simp) rfl)).trans rfl) rfl
        refine G.stepsL_cons (fun a u hc hdd hd hk hdep => ?_) ?_
        · exact G.step_skip KD hc hdd rfl ((G.wanted_guard (j := 10) (b := false) (c := true) rfl (hdep ⟨10, .guard⟩ (by simp) rfl)).trans rfl) rfl
        refine G.stepsL_cons (fun a u hc hdd hd hk hdep => ?_) ?_
        ·
          have d63 : (a.tmps[63]?).getD undef = (.bool true) := hdep ⟨10, .data⟩ (by simp) rfl
          have d71 : (a.tmps[71]?).getD undef = undef := hdep ⟨18, .data⟩ (by simp) rfl
          refine G.step_val KC KD hc hdd rfl (.bool true) u (G.wanted_plain rfl) ?_ rfl (Below.refl _ _)
          first | (go_simp; done) | rfl | (simp [go_sem, *]; done)
        refine G.stepsL_cons (fun a u hc hdd hd hk hdep => ?_) ?_
        ·
          have d72 : (a.tmps[72]?).getD undef = (.bool true) := hdep ⟨19, .data⟩ (by simp) rfl
          refine G.step_val KC KD hc hdd rfl (.bool true) u (G.wanted_plain rfl) ?_ rfl (Below.refl _ _)
          first | (go_simp; done) | rfl | (simp [go_sem, *]; done)
        exact G.stepsL_nil
      intro vs' wN hNN hh
      have eL : vs' 20 = (.bool true) := by
        obtain ⟨-, -, -, -, -, -, -, -, -, -, -, -, -, -, -, -, -, -, -, -, eX, -⟩ := hh
        exact eX
      clear hh
      set_option maxRecDepth 100000 in simp only [List.take_succ_cons, List.take_zero, putAll, Act.put, List.setIfInBounds_toArray, List.set_cons_zero, List.set_cons_succ, Nat.reduceAdd, eL]
      clear eL
      obtain ⟨-, -, q3⟩ := hNN
      clear j1 j2 j3
      go_wp2
      go_ret
      exact ⟨rfl, q3⟩

set_option maxRecDepth 100000 in
theorem lifted (os : Os) (started : os.Started) (H : Type) (enc : TypeId × Value → H) :
    ReturnsInHanded {} Try.checked os 6 .any (Rows.wireOneSpec.pre6 enc Try.prog Try.f6 Rows.wireOneRow.domain false) (Rows.wireOneSpec.post enc Try.prog Try.f6 false true false false) := by
  refine returnsInHanded_of_change_sized (C := Try.checked) own started (by kernel_rfl) Try.func6
    (ChangeSpec.witness6 (enc := enc) (C := Try.checked) false ⟨#[], #[.slice none 0 0, .int .u64 0, .int .u64 0], []⟩ 8 (by kernel_rfl) (by kernel_rfl) (by kernel_rfl) (by kernel_rfl)) ?_
  intro W base args ds gs before hval0 hW hcnd hsz0 _
  have hsz : (DataW.weightsEach Try.prog (Try.f6.params.toList ++ Rows.wireOneSpec.plain.varTypes Try.prog) (ds ++ gs)).all (· ≤ reachBytes) = true := hsz0
  clear hsz0
  have hval : ∀ (j : Nat) t v, Try.f6.params[j]? = some t → args[j]? = some v → Value.okWide Try.prog W .any base t v := hval0
  have hW' := hW
  obtain ⟨p, q, hA0, hV, rfl, hfz, hnd⟩ := hW
  have hA : DataW.TrodAll enc Try.prog W 0 (fun _ => true) true Try.f6.params.toList args.toList ds p := hA0
  rw [Try.params6] at hA hval hsz
  obtain ⟨v0, vs0, d0, ds0, p0, q0, hargs, rfl, rfl, h0, r0⟩ := trodAll_cons hA
  obtain ⟨v1, vs1, d1, ds1, p1, q1, rfl, rfl, rfl, h1, r1⟩ := trodAll_cons r0
  obtain ⟨v2, vs2, d2, ds2, p2, q2, rfl, rfl, rfl, h2, r2⟩ := trodAll_cons r1
  obtain ⟨rfl, rfl, rfl⟩ := trodAll_nil r2
  obtain rfl : args = #[v0, v1, v2] := by cases args; simp_all
  obtain ⟨rfl, rfl⟩ := trodVars_none hV
  have kk0 := h0
  have lt0 : ∀ x ∈ p0, x.block < W.heap.size := by obtain ⟨m, hm⟩ := kk0; exact DataW.trod_lt m _ _ _ hm
  have kk1 := h1
  have lt1 : ∀ x ∈ p1, x.block < W.heap.size := by obtain ⟨m, hm⟩ := kk1; exact DataW.trod_lt m _ _ _ hm
  have kk2 := h2
  have lt2 : ∀ x ∈ p2, x.block < W.heap.size := by obtain ⟨m, hm⟩ := kk2; exact DataW.trod_lt m _ _ _ hm
  obtain ⟨A0, c0, z0, rfl, w0, yy0, uu0, xx0, ss0⟩ := open_bytesT (hval 0 23 v0 rfl rfl) h0 (wb_each hsz (j := 0) (t := 23) rfl rfl)
  obtain ⟨a1, rfl, rfl, rfl, w1⟩ := open_int Try.underlying22 (hval 1 22 v1 rfl rfl) h1
  obtain ⟨a2, rfl, rfl, rfl, w2⟩ := open_int Try.underlying22 (hval 2 22 v2 rfl rfl) h2
  clear hA0 hval0
  refine (walk W A0 c0 z0 w0 yy0 uu0 xx0 ss0 a1 w1 a2 w2).mono fun e W' ⟨he, bel⟩ => ?_
  subst he
  exact ⟨_, rfl, _, _, _, [], _, [], hW', trodAll_mk1 (shut_bool Try.underlying4 _), (trodAll_cons_mk (Below.trod laidOut (by kernel_rfl) (of_decide_eq_true (by kernel_rfl)) kk0 bel lt0) (trodAll_cons_mk (Below.trod laidOut (by kernel_rfl) (of_decide_eq_true (by kernel_rfl)) kk1 bel lt1) (trodAll_cons_mk (Below.trod laidOut (by kernel_rfl) (of_decide_eq_true (by kernel_rfl)) kk2 bel lt2) trodAll_mk0))), rfl, bel.frame _, fun h => by cases h⟩

theorem over : Rows.wireOneRow.holds Try.pinned (OpenSpec.ofChange Rows.wireOneSpec) :=
  OpenClaim.holds_of_wide 6 Try.f6 rfl rfl rfl rfl rfl rfl rfl ⟨rfl, rfl, rfl, rfl, rfl⟩ rfl rfl rfl rfl rfl (by kernel_rfl) Try.func6 (by kernel_rfl)
    (of_decide_eq_true (by kernel_rfl)) (by unfold Func.isWrapper; first | (rw [if_pos (by decide +kernel)]; kernel_rfl) | (rw [if_neg (by decide +kernel)]; exact ⟨rfl, rfl⟩))
    (fun os started H enc _ => lifted os started H enc)

/-- the statement -/
theorem proved : Rows.WireOneSaid :=
  over
#print axioms proved
end Go.Proofs.Ythoknfkldmfdpaa.wireOne
