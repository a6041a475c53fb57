/- WireNumbers: the bytes of any number, and of any with a sign, are the document's; read again they are it, and nothing is left. -/
import Derived.Test.YthoknfkldmfdpaaRows
import Derived.WalkKit
import Derived.ProofKit
import Derived.OpenShut
import Derived.ShutString
import Derived.ChangeOld
import Derived.Below
import Derived.Lib.SmallJoins
import Derived.SizedLaws
import Derived.Test.YthoknfkldmfdpaaWrG
import Derived.Test.YthoknfkldmfdpaaWrO
import Derived.Test.YthoknfkldmfdpaaWb
import Derived.Test.YthoknfkldmfdpaaInvG
import Derived.Deep.CutRange
import Derived.Deep.DeepCutAuto
namespace Go.Proofs.Ythoknfkldmfdpaa.wireNumbers
open Go.ChangeShapes Go.WideShapes Go.ChangeAt Go.RowKit Go.Joins
set_option linter.unusedVariables false
set_option linter.unusedSimpArgs false

theorem own : ownKnob Try.prog.godebug = none := by kernel_rfl
theorem laidOut : laidOutB Try.prog = true := by kernel_rfl

set_option maxHeartbeats 16000000 in
set_option maxRecDepth 100000 in
theorem walk (w : World) (a0 : Int) (w0 : (Lit.int .u64 a0).wf = true) (a1 : Int) (w1 : (Lit.int .i64 a1).wf = true) :
    Calls Try.prog 3 #[.int .u64 a0, .int .i64 a1] w fun e w' => e = .returned (.bool true) ∧ Below w.heap.size w w' := by
  obtain ⟨n, rfl, hn⟩ := wf_u64 w0
  obtain ⟨hm1, hm2⟩ := wf_i64 w1
  clear w0 w1
  have P1 := fun w => uint_any n hn w
  have P2 := fun w => int_any a1 hm1 hm2 w
  have RU := fun w => ruint_any n hn w
  have RI := fun w => rint_any a1 hm1 hm2 w
  have AW := Lib.hid (fun w => awake20 w)
  have f1 : numOf (uintL n ++ uintL (zig a1)) = some (.int .u64 (n : Int), uintL (zig a1)) := by
    unfold numOf
    rw [first_uint hn]
    simp
  have f2 : intOfL (uintL (zig a1)) = some (.int .i64 a1, []) := by
    have := first_uint (zig_lt hm1 hm2) []
    rw [List.append_nil] at this
    unfold intOfL
    rw [this]
    simp [zag_zig]
  have b1 := uintL_byt n
  have b2 := uintL_byt (zig a1)
  have l1 := (uintL_len hn).2
  have l2 := (uintL_len (zig_lt hm1 hm2)).2
  generalize uintL n = L1 at *
  generalize uintL (zig a1) = L2 at *
  replace P1 := Lib.hid P1
  replace P2 := Lib.hid P2
  replace RU := Lib.hid RU
  replace RI := Lib.hid RI
  replace f1 := Lib.hid f1
  replace f2 := Lib.hid f2
  replace l1 := Lib.hid l1
  replace l2 := Lib.hid l2
  clear hn hm1 hm2
  obtain ⟨i0, hi, hz0, hz1, hz2⟩ := info_parts infoB
  replace hi := Lib.hid hi
  replace hz1 := Lib.hid hz1
  replace hz2 := Lib.hid hz2
  go_enter Try.func3, Try.ntmps3
  go_wp2_with fail
  refine (P1.out _).mono ?_; rintro e u1 ⟨B1, d1, rfl, hO1, hb1⟩
  replace hO1 := Lib.hid hO1
  replace hb1 := Lib.hid hb1
  go_wp2_with fail
  refine (P2.out _).mono ?_; rintro e u2 ⟨B2, d2, rfl, hO2, hb2⟩
  have k1 := Lib.hid ((Bys.of_own hO1.out).2.later hb2)
  have k2 := Lib.hid (Bys.of_own hO2).2
  have k3 := Lib.hid (mmore hb1.out hb2)
  clear hO1 hb1 hO2 hb2
  go_upto_region 2 with (fail)
  have KD := G.keepsD_true []
  refine G.region_words (fun w' => Bys w' B1 L1 ∧ Bys w' B2 L2 ∧ Below w.heap.size w w') [G.isW (.bool true), G.isW (.bool false), G.isW (.bool false), G.isW (.slice B1 L1.length d1), G.isW (.string (strOf L1)), G.isW (.int .u64 (n : Int)), fun v w => ∃ A c, v = .slice A L1.length c ∧ Bys w A L1, G.isW (.string (strOf L1)), G.isW (.bool false), G.isW (.bool false), G.isW (.bool false), G.isW (.slice B2 L2.length d2), G.isW (.string (strOf L2)), G.isW (.int .i64 a1), fun v w => ∃ A c, v = .slice A L2.length c ∧ Bys w A L2, G.isW (.string (strOf L2)), G.isW (.bool false), G.isW (.bool false)] (by kernel_rfl) (by repeat' (first | exact G.monoL_nil | exact G.is_mono _ | exact G.any_mono | exact fun v w w' h hb => by obtain ⟨A, c, h1, h2⟩ := h; exact ⟨A, c, h1, h2.later hb⟩ | refine G.monoL_cons ?_ ?_)) (by kernel_rfl) (by kernel_rfl) (fun _ _ h hb => ⟨h.1.later hb, h.2.1.later hb, mmore h.2.2 hb⟩) ⟨k1.out.drew, k2.out.drew, k3.out.drew⟩ ?_ ?_
  · intro KC
    refine G.stepsL_cons (fun a u hc hdd hd hk hdep => ?_) ?_
    ·
      refine G.step_call KC KD hc hdd rfl 11 #[] (G.wanted_plain rfl) (by first | (go_simp; done) | rfl) ?_
      exact (AW.out u).mono (by rintro e w' ⟨rfl, hb⟩; exact ⟨_, rfl, rfl, hb⟩)
    refine G.stepsL_cons (fun a u hc hdd hd hk hdep => ?_) ?_
    ·
      have d16 : (a.tmps[16]?).getD undef = (.bool true) := hdep ⟨0, .data⟩ (by simp) rfl
      refine G.step_val KC KD hc hdd rfl (.bool false) u (G.wanted_plain rfl) ?_ rfl (Below.refl _ _)
      first | (go_simp; done) | rfl | (simp [go_sem, *]; done)
    refine G.stepsL_cons (fun a u hc hdd hd hk hdep => ?_) ?_
    ·
      have d17 : (a.tmps[17]?).getD undef = (.bool false) := hdep ⟨1, .data⟩ (by simp) rfl
      refine G.step_val KC KD hc hdd rfl (.bool false) u (G.wanted_plain rfl) ?_ rfl (Below.refl _ _)
      first | (go_simp; done) | rfl | (simp [go_sem, *]; done)
    refine G.stepsL_cons (fun a u hc hdd hd hk hdep => ?_) ?_
    ·
      have d5 : (a.tmps[5]?).getD undef = (.slice B1 L1.length d1) := hk 5 (by kernel_rfl)
      refine G.step_val KC KD hc hdd rfl (.slice B1 L1.length d1) u ((G.wanted_guard (j := 2) (b := false) (c := false) rfl (hdep ⟨2, .guard⟩ (by simp) rfl)).trans rfl) ?_ rfl (Below.refl _ _)
      first | (go_simp; done) | rfl | (simp [go_sem, *]; done)
    refine G.stepsL_cons (fun a u hc hdd hd hk hdep => ?_) ?_
    ·
      have d19 : (a.tmps[19]?).getD undef = (.slice B1 L1.length d1) := hdep ⟨3, .data⟩ (by simp) rfl
      have q := conv_str (c := d1) rfl hc.1
      refine G.step_val KC KD hc hdd rfl (.string (strOf L1)) u ((G.wanted_guard (j := 2) (b := false) (c := false) rfl (hdep ⟨2, .guard⟩ (by simp) rfl)).trans rfl) ?_ rfl (Below.refl _ _)
      first | (go_simp; done) | rfl | (simp [go_sem, *]; done)
    refine G.stepsL_cons (fun a u hc hdd hd hk hdep => ?_) ?_
    ·
      have d0 : (a.tmps[0]?).getD undef = (.int .u64 (n : Int)) := hk 0 (by kernel_rfl)
      refine G.step_val KC KD hc hdd rfl (.int .u64 (n : Int)) u ((G.wanted_guard (j := 2) (b := false) (c := false) rfl (hdep ⟨2, .guard⟩ (by simp) rfl)).trans rfl) ?_ rfl (Below.refl _ _)
      first | (go_simp; done) | rfl | (simp [go_sem, *]; done)
    refine G.stepsL_cons (fun a u hc hdd hd hk hdep => ?_) ?_
    ·
      have d21 : (a.tmps[21]?).getD undef = (.int .u64 (n : Int)) := hdep ⟨5, .data⟩ (by simp) rfl
      refine G.step_call KC KD hc hdd rfl 12 #[.int .u64 (n : Int)] ((G.wanted_guard (j := 2) (b := false) (c := false) rfl (hdep ⟨2, .chain⟩ (by simp) rfl)).trans rfl) (by first | (go_simp; done) | rfl) ?_
      exact (RU.out u).mono (by rintro e w' ⟨A, c, rfl, hO, hb⟩; exact ⟨_, rfl, ⟨A, c, rfl, (Bys.of_own hO).2⟩, hb⟩)
    refine G.stepsL_cons (fun a u hc hdd hd hk hdep => ?_) ?_
    ·
      have d22' : (fun v w => ∃ A c, v = .slice A L1.length c ∧ Bys w A L1) ((a.tmps[22]?).getD undef) u := hdep ⟨6, .data⟩ (by simp) rfl
      obtain ⟨Ar22, cr22, d22, hr22⟩ := d22'
      have q := conv_str (c := cr22) rfl hr22
      refine G.step_val KC KD hc hdd rfl (.string (strOf L1)) u ((G.wanted_guard (j := 2) (b := false) (c := false) rfl (hdep ⟨2, .guard⟩ (by simp) rfl)).trans rfl) ?_ rfl (Below.refl _ _)
      first | (go_simp; done) | rfl | (simp [go_sem, *]; done)
    refine G.stepsL_cons (fun a u hc hdd hd hk hdep => ?_) ?_
    ·
      have d20 : (a.tmps[20]?).getD undef = (.string (strOf L1)) := hdep ⟨4, .data⟩ (by simp) rfl
      have d23 : (a.tmps[23]?).getD undef = (.string (strOf L1)) := hdep ⟨7, .data⟩ (by simp) rfl
      refine G.step_val KC KD hc hdd rfl (.bool false) u ((G.wanted_guard (j := 2) (b := false) (c := false) rfl (hdep ⟨2, .guard⟩ (by simp) rfl)).trans rfl) ?_ rfl (Below.refl _ _)
      first | (go_simp; done) | rfl | (simp [go_sem, *]; done)
    refine G.stepsL_cons (fun a u hc hdd hd hk hdep => ?_) ?_
    ·
      have d18 : (a.tmps[18]?).getD undef = (.bool false) := hdep ⟨2, .data⟩ (by simp) rfl
      have d24 : (a.tmps[24]?).getD undef = (.bool false) := hdep ⟨8, .data⟩ (by simp) rfl
      refine G.step_val KC KD hc hdd rfl (.bool false) u (G.wanted_plain rfl) ?_ rfl (Below.refl _ _)
      first | (go_simp; done) | rfl | (simp [go_sem, *]; done)
    refine G.stepsL_cons (fun a u hc hdd hd hk hdep => ?_) ?_
    ·
      have d25 : (a.tmps[25]?).getD undef = (.bool false) := hdep ⟨9, .data⟩ (by simp) rfl
      refine G.step_val KC KD hc hdd rfl (.bool false) u (G.wanted_plain rfl) ?_ rfl (Below.refl _ _)
      first | (go_simp; done) | rfl | (simp [go_sem, *]; done)
    refine G.stepsL_cons (fun a u hc hdd hd hk hdep => ?_) ?_
    ·
      have d6 : (a.tmps[6]?).getD undef = (.slice B2 L2.length d2) := hk 6 (by kernel_rfl)
      refine G.step_val KC KD hc hdd rfl (.slice B2 L2.length d2) u ((G.wanted_guard (j := 10) (b := false) (c := false) rfl (hdep ⟨10, .guard⟩ (by simp) rfl)).trans rfl) ?_ rfl (Below.refl _ _)
      first | (go_simp; done) | rfl | (simp [go_sem, *]; done)
    refine G.stepsL_cons (fun a u hc hdd hd hk hdep => ?_) ?_
    ·
      have d27 : (a.tmps[27]?).getD undef = (.slice B2 L2.length d2) := hdep ⟨11, .data⟩ (by simp) rfl
      have q := conv_str (c := d2) rfl hc.2.1
      refine G.step_val KC KD hc hdd rfl (.string (strOf L2)) u ((G.wanted_guard (j := 10) (b := false) (c := false) rfl (hdep ⟨10, .guard⟩ (by simp) rfl)).trans rfl) ?_ rfl (Below.refl _ _)
      first | (go_simp; done) | rfl | (simp [go_sem, *]; done)
    refine G.stepsL_cons (fun a u hc hdd hd hk hdep => ?_) ?_
    ·
      have d1 : (a.tmps[1]?).getD undef = (.int .i64 a1) := hk 1 (by kernel_rfl)
      refine G.step_val KC KD hc hdd rfl (.int .i64 a1) u ((G.wanted_guard (j := 10) (b := false) (c := false) rfl (hdep ⟨10, .guard⟩ (by simp) rfl)).trans rfl) ?_ rfl (Below.refl _ _)
      first | (go_simp; done) | rfl | (simp [go_sem, *]; done)
    refine G.stepsL_cons (fun a u hc hdd hd hk hdep => ?_) ?_
    ·
      have d29 : (a.tmps[29]?).getD undef = (.int .i64 a1) := hdep ⟨13, .data⟩ (by simp) rfl
      refine G.step_call KC KD hc hdd rfl 13 #[.int .i64 a1] ((G.wanted_guard (j := 10) (b := false) (c := false) rfl (hdep ⟨10, .chain⟩ (by simp) rfl)).trans rfl) (by first | (go_simp; done) | rfl) ?_
      exact (RI.out u).mono (by rintro e w' ⟨A, c, rfl, hO, hb⟩; exact ⟨_, rfl, ⟨A, c, rfl, (Bys.of_own hO).2⟩, hb⟩)
    refine G.stepsL_cons (fun a u hc hdd hd hk hdep => ?_) ?_
    ·
      have d30' : (fun v w => ∃ A c, v = .slice A L2.length c ∧ Bys w A L2) ((a.tmps[30]?).getD undef) u := hdep ⟨14, .data⟩ (by simp) rfl
      obtain ⟨Ar30, cr30, d30, hr30⟩ := d30'
      have q := conv_str (c := cr30) rfl hr30
      refine G.step_val KC KD hc hdd rfl (.string (strOf L2)) u ((G.wanted_guard (j := 10) (b := false) (c := false) rfl (hdep ⟨10, .guard⟩ (by simp) rfl)).trans rfl) ?_ rfl (Below.refl _ _)
      first | (go_simp; done) | rfl | (simp [go_sem, *]; done)
    refine G.stepsL_cons (fun a u hc hdd hd hk hdep => ?_) ?_
    ·
      have d28 : (a.tmps[28]?).getD undef = (.string (strOf L2)) := hdep ⟨12, .data⟩ (by simp) rfl
      have d31 : (a.tmps[31]?).getD undef = (.string (strOf L2)) := hdep ⟨15, .data⟩ (by simp) rfl
      refine G.step_val KC KD hc hdd rfl (.bool false) u ((G.wanted_guard (j := 10) (b := false) (c := false) rfl (hdep ⟨10, .guard⟩ (by simp) rfl)).trans rfl) ?_ rfl (Below.refl _ _)
      first | (go_simp; done) | rfl | (simp [go_sem, *]; done)
    refine G.stepsL_cons (fun a u hc hdd hd hk hdep => ?_) ?_
    ·
      have d26 : (a.tmps[26]?).getD undef = (.bool false) := hdep ⟨10, .data⟩ (by simp) rfl
      have d32 : (a.tmps[32]?).getD undef = (.bool false) := hdep ⟨16, .data⟩ (by simp) rfl
      refine G.step_val KC KD hc hdd rfl (.bool false) u (G.wanted_plain rfl) ?_ rfl (Below.refl _ _)
      first | (go_simp; done) | rfl | (simp [go_sem, *]; done)
    exact G.stepsL_nil
  intro vs' wN hNN hh
  have eL : vs' 17 = (.bool false) := by
    obtain ⟨-, -, -, -, -, -, -, -, -, -, -, -, -, -, -, -, -, eX, -⟩ := hh
    exact eX
  clear hh
  set_option maxRecDepth 100000 in simp only [List.take_succ_cons, List.take_zero, putAll, Act.put, List.setIfInBounds_toArray, List.set_cons_zero, List.set_cons_succ, Nat.reduceAdd, eL]
  clear eL
  obtain ⟨q1, q2, q3⟩ := hNN
  clear k1 k2 k3
  have hOw := World.ownsRow_lit (base := wN.heap.size) (e := 5) (size := 1) wN #[] 0 (Nat.le_refl _) (by unfold maxLen; omega) rfl
  have r1 := Lib.hid (Reads.alloc q1 (Nat.le_refl _) (.cells #[] 5))
  have r2 := Lib.hid (Reads.alloc q2 (Nat.le_refl _) (.cells #[] 5))
  have hB1 := m1 wN (.cells #[] 5)
  have a1' : 0 + L1.length ≤ maxLen := by have := l1.out; unfold maxLen; omega
  have a2' : (0 + L1.length) * 1 ≤ 140737488355328 := by have := l1.out; omega
  have a3' : L1.length + L2.length ≤ maxLen := by have := l1.out; have := l2.out; unfold maxLen; omega
  have a4' : (L1.length + L2.length) * 1 ≤ 140737488355328 := by have := l1.out; have := l2.out; omega
  replace q3 := Lib.hid q3
  clear q1 q2
  go_wp2_with (first | (at_builtin; refine wpList_append_any _ rfl (.tmp 34) (.tmp 35) 23 rfl wN.heap.size 5 i0 (.int .u8 0) 1 1 Try.underlying23 hi.out hz0 hz1.out hz2.out rfl (by decide) _ 0 [] rfl hOw wN.heap.size B1 L1.length d1 (bcells L1) rfl r1.out (bcells_one _) a1' a2' (by simp) ?_; intro v3 w3 hO3 hg3 _; rw [Nat.zero_add, List.nil_append] at hO3; have hb3 := bbelow_grown hB1 (Nat.le_refl _) hOw hg3; have r3 := r2.out.grown hg3 (by simp) (fun g hg => (hOw.lt g hg).1); have hs3 := hb3.size; replace hO3 := Lib.hid hO3; replace hb3 := Lib.hid hb3; replace r3 := Lib.hid r3; clear hg3) | (at_builtin; refine wpList_append_any _ rfl (.tmp 36) (.tmp 37) 23 rfl wN.heap.size 5 i0 (.int .u8 0) 1 1 Try.underlying23 hi.out hz0 hz1.out hz2.out rfl (by decide) _ L1.length (bcells L1) rfl hO3.out wN.heap.size B2 L2.length d2 (bcells L2) rfl r3.out (bcells_one _) a3' a4' hs3 ?_; intro v4 w4 hO4 hg4 _; rw [← bcells_append] at hO4; have hb4 := bbelow_grown hb3.out (Nat.le_refl _) hO3.out hg4; obtain ⟨B4, d4, rfl, -, -⟩ := bslice_of hO4; have hO5 := Bys.of_own hO4; replace hO5 := Lib.hid hO5; replace hb4 := Lib.hid (mmore q3.out hb4); clear hO4 hg4 hO3 hb3 r3))
  refine (open_n B4 (L1 ++ L2) _ d4 _ hO5.out.1 hO5.out.2 (by rw [List.length_append]; have := l1.out; have := l2.out; omega)).mono ?_
  rintro e w5 ⟨g, B, rfl, _, hgb, hR, hb5⟩
  have hgw : w.heap.size ≤ g := by have := hb4.out.size; omega
  have hb6 := mmore hb4.out hb5
  have C1 := uintf_any g B (L1 ++ L2) (b1.append b2) _ hR
  rw [f1.out] at C1
  replace C1 := Lib.hid C1
  replace hb6 := Lib.hid hb6
  clear hR hb5 hb4 hgb hO5
  go_wp2_with fail
  refine C1.out.mono ?_
  rintro e w6 ⟨hg6, rfl, hR⟩
  have hb7 := hb6.out.grown hg6 hb6.out.size (fun j ej => by injection ej with ej; omega)
  have C2 := intf_any g B L2 b2 _ hR
  rw [f2.out] at C2
  replace C2 := Lib.hid C2
  replace hb7 := Lib.hid hb7
  clear hR hb6 hg6
  go_wp2_with fail
  refine C2.out.mono ?_
  rintro e w7 ⟨hg7, rfl, hR⟩
  have hb8 := hb7.out.grown hg7 hb7.out.size (fun j ej => by injection ej with ej; omega)
  have C3 := left_any g B [] _ hR
  replace C3 := Lib.hid C3
  replace hb8 := Lib.hid hb8
  clear hR hb7 hg7
  go_wp2_with fail
  refine C3.out.mono ?_
  rintro e w8 ⟨rfl, rfl⟩
  go_wp2
  go_ret
  exact ⟨rfl, hb8.out⟩

set_option maxRecDepth 100000 in
theorem lifted (os : Os) (started : os.Started) (H : Type) (enc : TypeId × Value → H) :
    ReturnsInHanded {} Try.checked os 3 .any (Rows.wireNumbersSpec.pre6 enc Try.prog Try.f3 Rows.wireNumbersRow.domain false) (Rows.wireNumbersSpec.post enc Try.prog Try.f3 false true false false) := by
  refine returnsInHanded_of_change (C := Try.checked) own started (by kernel_rfl) Try.func3
    (ChangeSpec.witness6 (enc := enc) (C := Try.checked) false ⟨#[], #[.int .u64 0, .int .i64 0], []⟩ 8 (by kernel_rfl) (by kernel_rfl) (by kernel_rfl) (by kernel_rfl)) ?_
  intro W base args ds gs before hval0 hW hcnd _
  have hval : ∀ (j : Nat) t v, Try.f3.params[j]? = some t → args[j]? = some v → Value.okWide Try.prog W .any base t v := hval0
  have hW' := hW
  obtain ⟨p, q, hA0, hV, rfl, hfz, hnd⟩ := hW
  have hA : DataW.TrodAll enc Try.prog W 0 (fun _ => true) true Try.f3.params.toList args.toList ds p := hA0
  rw [Try.params3] at hA hval
  obtain ⟨v0, vs0, d0, ds0, p0, q0, hargs, rfl, rfl, h0, r0⟩ := trodAll_cons hA
  obtain ⟨v1, vs1, d1, ds1, p1, q1, rfl, rfl, rfl, h1, r1⟩ := trodAll_cons r0
  obtain ⟨rfl, rfl, rfl⟩ := trodAll_nil r1
  obtain rfl : args = #[v0, v1] := by cases args; simp_all
  obtain ⟨rfl, rfl⟩ := trodVars_none hV
  have kk0 := h0
  have lt0 : ∀ x ∈ p0, x.block < W.heap.size := by obtain ⟨m, hm⟩ := kk0; exact DataW.trod_lt m _ _ _ hm
  have kk1 := h1
  have lt1 : ∀ x ∈ p1, x.block < W.heap.size := by obtain ⟨m, hm⟩ := kk1; exact DataW.trod_lt m _ _ _ hm
  obtain ⟨a0, rfl, rfl, rfl, w0⟩ := open_int Try.underlying22 (hval 0 22 v0 rfl rfl) h0
  obtain ⟨a1, rfl, rfl, rfl, w1⟩ := open_int Try.underlying2 (hval 1 2 v1 rfl rfl) h1
  clear hA0 hval0
  refine (walk W a0 w0 a1 w1).mono fun e W' ⟨he, bel⟩ => ?_
  subst he
  exact ⟨_, rfl, _, _, _, [], _, [], hW', trodAll_mk1 (shut_bool Try.underlying4 _), (trodAll_cons_mk (Below.trod laidOut (by kernel_rfl) (of_decide_eq_true (by kernel_rfl)) kk0 bel lt0) (trodAll_cons_mk (Below.trod laidOut (by kernel_rfl) (of_decide_eq_true (by kernel_rfl)) kk1 bel lt1) trodAll_mk0)), rfl, bel.frame _, fun h => by cases h⟩

theorem over : Rows.wireNumbersRow.holds Try.pinned (OpenSpec.ofChange Rows.wireNumbersSpec) :=
  OpenClaim.holds_of_wide 3 Try.f3 rfl rfl rfl rfl rfl rfl rfl ⟨rfl, rfl, rfl, rfl, rfl⟩ rfl rfl rfl rfl rfl (by kernel_rfl) Try.func3 (by kernel_rfl)
    (of_decide_eq_true (by kernel_rfl)) (by unfold Func.isWrapper; first | (rw [if_pos (by decide +kernel)]; kernel_rfl) | (rw [if_neg (by decide +kernel)]; exact ⟨rfl, rfl⟩))
    (fun os started H enc _ => lifted os started H enc)

/-- the statement -/
theorem proved : Rows.WireNumbersSaid :=
  over
#print axioms proved
end Go.Proofs.Ythoknfkldmfdpaa.wireNumbers
