/- The chapter's example of looks, as a contract. -/
import Derived.Test.YtfjnphiegoogoaaLkI
namespace Go.Proofs.Ytfjnphiegoogoaa
open Go.ChangeShapes Go.WideShapes Go.ChangeAt Go.RowKit Go.Fl
set_option linter.unusedVariables false
set_option linter.unusedSimpArgs false

theorem keepK {w0 wr w1 : World} {E B : Option Addr} {es : List Ev} {bs : List (List Int)} {a0 a1 a2 a3 a4 : Addr} {v0 v1 v2 v3 v4 : Value} (hb : Below wr.heap.size wr w1)
    (h : wr.cell? a0 = some v0 ∧ wr.cell? a1 = some v1 ∧ wr.cell? a2 = some v2 ∧ wr.cell? a3 = some v3 ∧ wr.cell? a4 = some v4 ∧ LookIn wr E B es bs ∧ Below w0.heap.size w0 wr) :
    w1.cell? a0 = some v0 ∧ w1.cell? a1 = some v1 ∧ w1.cell? a2 = some v2 ∧ w1.cell? a3 = some v3 ∧ w1.cell? a4 = some v4 ∧ LookIn w1 E B es bs ∧ Below w0.heap.size w0 w1 :=
  ⟨cell_later hb h.1, cell_later hb h.2.1, cell_later hb h.2.2.1, cell_later hb h.2.2.2.1, cell_later hb h.2.2.2.2.1, h.2.2.2.2.2.1.later hb, mmore h.2.2.2.2.2.2 hb⟩
theorem fld0 (k b : Int) (w : World) : (Instr.field 25 (.agg #[.int .i64 k, .int .u64 b]) 0).run Try.prog w = .ok (.int .i64 k) w := by kernel_rfl
theorem fld1 (k b : Int) (w : World) : (Instr.field 25 (.agg #[.int .i64 k, .int .u64 b]) 1).run Try.prog w = .ok (.int .u64 b) w := by kernel_rfl
def esA : List Ev := [5, 7, 9].map intEv
def bsA : List (List Int) := [[0, 1]]
theorem awk1 : leafP 28 0 0 0 0 esA bsA 2 = (1, 12) := by kernel_rfl
theorem awk2 : (leafP 31 0 0 0 0 esA bsA 2).1 = 0 := by kernel_rfl
theorem awk3 : (leafP 27 0 0 0 0 esA bsA 2).2 = 7 := by kernel_rfl
theorem awk4 : (leafP 41 0 0 0 0 esA bsA 2).2 = 9 := by kernel_rfl
theorem awk5 : (leafP 25 0 0 1 0 esA bsA 2).1 = 1 := by kernel_rfl
theorem ints_lit (w : World) : IntsAt (w.alloc (.cells #[.int .i64 5, .int .i64 7, .int .i64 9] 2)) (some ⟨w.heap.size, 0, none⟩) [5, 7, 9] := fun _ => ⟨w.heap.size, 0, rfl, fun i z h => by
  match i, h with
  | 0, h => simp at h; subst h; simp [go_sem]
  | 1, h => simp at h; subst h; simp [go_sem]
  | 2, h => simp at h; subst h; simp [go_sem]⟩
theorem kinds_lit (w : World) : KindsAt ((w.alloc (.cells #[.int .i64 0, .int .i64 1] 3)).alloc (.cells #[.slice (some ⟨w.heap.size, 0, none⟩) 2 2] 43)) (some ⟨w.heap.size + 1, 0, none⟩) bsA := fun _ => ⟨w.heap.size + 1, 0, rfl, fun i ks h => by
  match i, h with
  | 0, h =>
    simp [bsA] at h; subst h
    refine ⟨_, by simp [go_sem], some ⟨w.heap.size, 0, none⟩, 2, rfl, fun _ => ⟨w.heap.size, 0, rfl, fun j z hj => ?_⟩⟩
    match j, hj with
    | 0, hj => simp at hj; subst hj; simp [go_sem]
    | 1, hj => simp at hj; subst hj; simp [go_sem]⟩

set_option maxHeartbeats 8000000 in
set_option maxRecDepth 100000 in
theorem awake9 (w : World) : Calls Try.prog 10 #[] w fun e w' => e = .returned (.bool true) ∧ Below w.heap.size w w' := by
  have he := eqV
  have hf0 := fld0
  have hf1 := fld1
  obtain ⟨q2, e2⟩ : ∃ q, leafP 31 0 0 0 0 esA bsA 2 = (0, q) := ⟨_, Prod.ext awk2 rfl⟩
  obtain ⟨q3, e3⟩ : ∃ q, leafP 27 0 0 0 0 esA bsA 2 = (q, 7) := ⟨_, Prod.ext rfl awk3⟩
  obtain ⟨q4, e4⟩ : ∃ q, leafP 41 0 0 0 0 esA bsA 2 = (q, 9) := ⟨_, Prod.ext rfl awk4⟩
  obtain ⟨q5, e5⟩ : ∃ q, leafP 25 0 0 1 0 esA bsA 2 = (1, q) := ⟨_, Prod.ext awk5 rfl⟩
  have D1 := Lib.hid (fun E B cE wz (hL : LookIn wz E B esA bsA) => do_any9 E B cE 1 2 esA bsA 28 0 0 wz (by unfold LeafOp; decide) hL)
  have D2 := Lib.hid (fun E B cE wz (hL : LookIn wz E B esA bsA) => do_any9 E B cE 1 2 esA bsA 31 0 0 wz (by unfold LeafOp; decide) hL)
  have D3 := Lib.hid (fun E B cE wz (hL : LookIn wz E B esA bsA) => do_any9 E B cE 1 2 esA bsA 27 0 0 wz (by unfold LeafOp; decide) hL)
  have D4 := Lib.hid (fun E B cE wz (hL : LookIn wz E B esA bsA) => do_any9 E B cE 1 2 esA bsA 41 0 0 wz (by unfold LeafOp; decide) hL)
  have D5 := Lib.hid (fun E B cE wz (hL : LookIn wz E B esA bsA) => do_any9 E B cE 1 2 esA bsA 25 1 0 wz (by unfold LeafOp; decide) hL)
  rw [awk1] at D1
  rw [e2] at D2
  rw [e3] at D3
  rw [e4] at D4
  rw [e5] at D5
  clear e2 e3 e4 e5
  go_enter Try.func10, Try.ntmps10
  go_wp2_with fail
  refine (ints_any (some ⟨w.heap.size, 0, none⟩) 3 [5, 7, 9] _ (ints_lit w) (by decide)).mono ?_; rintro e w1 ⟨E, cE, rfl, hE, hb1⟩
  have hB1 := mmore (m1 w (.cells #[.int .i64 5, .int .i64 7, .int .i64 9] 2)) hb1
  clear hb1
  go_upto_region 3 with (fail)
  have hb2 := m2 w1 (.cells #[.int .i64 0, .int .i64 1] 3) (.cells #[.slice (some ⟨w1.heap.size, 0, none⟩) 2 2] 43)
  have hK := kinds_lit w1
  have hE2 := hE.later hb2
  have hB2 := mmore hB1 hb2
  have hg : w1.heap.size + 1 + 1 = ((w1.alloc (.cells #[.int .i64 0, .int .i64 1] 3)).alloc (.cells #[.slice (some ⟨w1.heap.size, 0, none⟩) 2 2] 43)).heap.size := by simp
  clear hE hB1 hb2
  generalize w1.heap.size + 1 = gB at *
  rw [hg]
  clear hg
  generalize (w1.alloc (.cells #[.int .i64 0, .int .i64 1] 3)).alloc (.cells #[.slice (some ⟨w1.heap.size, 0, none⟩) 2 2] 43) = w2 at *
  have hb3 := m2 w2 (lookO E (some ⟨gB, 0, none⟩) 3 cE 1 1 2) (.cells #[.int .i64 1, .int .u64 12] 25)
  have hL : LookIn ((w2.alloc (lookO E (some ⟨gB, 0, none⟩) 3 cE 1 1 2)).alloc (.cells #[.int .i64 1, .int .u64 12] 25)).drew E (some ⟨gB, 0, none⟩) esA bsA :=
    LookIn.later (w := w2) ⟨hE2, hK, by decide, by intro e he; simp [esA, intEv] at he; rcases he with rfl | rfl | rfl <;> decide, by decide, by intro l hl; simp [bsA] at hl; subst hl; decide⟩ hb3.drew
  have z0 : ((w2.alloc (lookO E (some ⟨gB, 0, none⟩) 3 cE 1 1 2)).alloc (.cells #[.int .i64 1, .int .u64 12] 25)).drew.cell? ⟨w2.heap.size, 0, none⟩ = some (.slice E 3 cE) := by simp [go_sem]
  have z1 : ((w2.alloc (lookO E (some ⟨gB, 0, none⟩) 3 cE 1 1 2)).alloc (.cells #[.int .i64 1, .int .u64 12] 25)).drew.cell? ⟨w2.heap.size, 1, none⟩ = some (.slice (some ⟨gB, 0, none⟩) 1 1) := by simp [go_sem]
  have z2 : ((w2.alloc (lookO E (some ⟨gB, 0, none⟩) 3 cE 1 1 2)).alloc (.cells #[.int .i64 1, .int .u64 12] 25)).drew.cell? ⟨w2.heap.size, 2, none⟩ = some (.int .i64 2) := by simp [go_sem]
  have z3 : ((w2.alloc (lookO E (some ⟨gB, 0, none⟩) 3 cE 1 1 2)).alloc (.cells #[.int .i64 1, .int .u64 12] 25)).drew.cell? ⟨w2.heap.size + 1, 0, none⟩ = some (.int .i64 1) := by simp [go_sem]
  have z4 : ((w2.alloc (lookO E (some ⟨gB, 0, none⟩) 3 cE 1 1 2)).alloc (.cells #[.int .i64 1, .int .u64 12] 25)).drew.cell? ⟨w2.heap.size + 1, 1, none⟩ = some (.int .u64 12) := by simp [go_sem]
  have z6 : Below w.heap.size w ((w2.alloc (lookO E (some ⟨gB, 0, none⟩) 3 cE 1 1 2)).alloc (.cells #[.int .i64 1, .int .u64 12] 25)).drew := (mmore hB2 hb3).drew
  have z5 := hL
  clear hL hE2 hK hB2 hb3
  generalize (w2.alloc (lookO E (some ⟨gB, 0, none⟩) 3 cE 1 1 2)).alloc (.cells #[.int .i64 1, .int .u64 12] 25) = w3 at *
  generalize w2.heap.size + 1 = gt at *
  generalize w2.heap.size = gl at *
  have KD := G.keepsD_true []
  refine G.region_words (fun w' => w'.cell? ⟨gl, 0, none⟩ = some (.slice E 3 cE) ∧ w'.cell? ⟨gl, 1, none⟩ = some (.slice (some ⟨gB, 0, none⟩) 1 1) ∧ w'.cell? ⟨gl, 2, none⟩ = some (.int .i64 2) ∧ w'.cell? ⟨gt, 0, none⟩ = some (.int .i64 1) ∧ w'.cell? ⟨gt, 1, none⟩ = some (.int .u64 12) ∧ LookIn w' E (some ⟨gB, 0, none⟩) esA bsA ∧ Below w.heap.size w w') [G.isW (lookV E (some ⟨gB, 0, none⟩) 3 cE 1 1 2), G.isW (.agg #[.int .i64 1, .int .u64 12]), G.isW (.agg #[.int .i64 1, .int .u64 12]), G.isW (.bool true), G.isW (.bool true), G.isW (lookV E (some ⟨gB, 0, none⟩) 3 cE 1 1 2), G.isW (.agg #[.int .i64 0, .int .u64 (q2 : Int)]), G.isW (.int .i64 0), G.isW (.bool true), G.isW (.bool true), G.isW (.bool true), G.isW (lookV E (some ⟨gB, 0, none⟩) 3 cE 1 1 2), G.isW (.agg #[.int .i64 q3, .int .u64 7]), G.isW (.int .u64 7), G.isW (.bool true), G.isW (.bool true), G.isW (.bool true), G.isW (lookV E (some ⟨gB, 0, none⟩) 3 cE 1 1 2), G.isW (.agg #[.int .i64 q4, .int .u64 9]), G.isW (.int .u64 9), G.isW (.bool true), G.isW (.bool true), G.isW (.bool true), G.isW (lookV E (some ⟨gB, 0, none⟩) 3 cE 1 1 2), G.isW (.agg #[.int .i64 1, .int .u64 (q5 : Int)]), G.isW (.int .i64 1), G.isW (.bool true), G.isW (.bool true), G.isW (.bool true)] (by kernel_rfl) (by repeat' (first | exact G.monoL_nil | exact G.is_mono _ | exact G.any_mono | refine G.monoL_cons ?_ ?_)) (by kernel_rfl) (by kernel_rfl) (fun _ _ h hb => keepK hb h) ⟨z0, z1, z2, z3, z4, z5, z6⟩ ?_ ?_
  · intro KC
    refine G.stepsL_cons (fun a u hc hdd hd hk hdep => ?_) ?_
    ·
      have d1 : (a.tmps[1]?).getD undef = (.pointer (some ⟨gl, 0, none⟩)) := hk 1 (by kernel_rfl)
      refine G.step_val KC KD hc hdd rfl (lookV E (some ⟨gB, 0, none⟩) 3 cE 1 1 2) u (G.wanted_plain rfl) ?_ rfl (Below.refl _ _)
      first | (go_simp; done) | rfl | (simp [go_sem, *]; done)
    refine G.stepsL_cons (fun a u hc hdd hd hk hdep => ?_) ?_
    ·
      have d9 : (a.tmps[9]?).getD undef = (lookV E (some ⟨gB, 0, none⟩) 3 cE 1 1 2) := hdep ⟨0, .data⟩ (by simp) rfl
      refine G.step_call KC KD hc hdd rfl 14 #[.int .i64 28, .int .i64 0, .int .i64 0, (lookV E (some ⟨gB, 0, none⟩) 3 cE 1 1 2)] (G.wanted_plain rfl) (by first | (go_simp; done) | rfl) ?_
      exact (D1.out E _ cE u hc.2.2.2.2.2.1).mono (by rintro e w' ⟨rfl, hb⟩; exact ⟨_, rfl, rfl, hb⟩)
    refine G.stepsL_cons (fun a u hc hdd hd hk hdep => ?_) ?_
    ·
      have d2 : (a.tmps[2]?).getD undef = (.pointer (some ⟨gt, 0, none⟩)) := hk 2 (by kernel_rfl)
      refine G.step_val KC KD hc hdd rfl (.agg #[.int .i64 1, .int .u64 12]) u (G.wanted_plain rfl) ?_ rfl (Below.refl _ _)
      first | (go_simp; done) | rfl | (simp [go_sem, *]; done)
    refine G.stepsL_cons (fun a u hc hdd hd hk hdep => ?_) ?_
    ·
      have d10 : (a.tmps[10]?).getD undef = (.agg #[.int .i64 1, .int .u64 12]) := hdep ⟨1, .data⟩ (by simp) rfl
      have d11 : (a.tmps[11]?).getD undef = (.agg #[.int .i64 1, .int .u64 12]) := hdep ⟨2, .data⟩ (by simp) rfl
      refine G.step_val KC KD hc hdd rfl (.bool true) u (G.wanted_plain rfl) ?_ rfl (Below.refl _ _)
      first | (go_simp; done) | rfl | (simp [go_sem, *]; done)
    refine G.stepsL_cons (fun a u hc hdd hd hk hdep => ?_) ?_
    ·
      have d12 : (a.tmps[12]?).getD undef = (.bool true) := hdep ⟨3, .data⟩ (by simp) rfl
      refine G.step_val KC KD hc hdd rfl (.bool true) u (G.wanted_plain rfl) ?_ rfl (Below.refl _ _)
      first | (go_simp; done) | rfl | (simp [go_sem, *]; done)
    refine G.stepsL_cons (fun a u hc hdd hd hk hdep => ?_) ?_
    ·
      have d1 : (a.tmps[1]?).getD undef = (.pointer (some ⟨gl, 0, none⟩)) := hk 1 (by kernel_rfl)
      refine G.step_val KC KD hc hdd rfl (lookV E (some ⟨gB, 0, none⟩) 3 cE 1 1 2) u ((G.wanted_guard (j := 4) (b := true) (c := true) rfl (hdep ⟨4, .guard⟩ (by simp) rfl)).trans rfl) ?_ rfl (Below.refl _ _)
      first | (go_simp; done) | rfl | (simp [go_sem, *]; done)
    refine G.stepsL_cons (fun a u hc hdd hd hk hdep => ?_) ?_
    ·
      have d14 : (a.tmps[14]?).getD undef = (lookV E (some ⟨gB, 0, none⟩) 3 cE 1 1 2) := hdep ⟨5, .data⟩ (by simp) rfl
      refine G.step_call KC KD hc hdd rfl 14 #[.int .i64 31, .int .i64 0, .int .i64 0, (lookV E (some ⟨gB, 0, none⟩) 3 cE 1 1 2)] ((G.wanted_guard (j := 4) (b := true) (c := true) rfl (hdep ⟨4, .chain⟩ (by simp) rfl)).trans rfl) (by first | (go_simp; done) | rfl) ?_
      exact (D2.out E _ cE u hc.2.2.2.2.2.1).mono (by rintro e w' ⟨rfl, hb⟩; exact ⟨_, rfl, rfl, hb⟩)
    refine G.stepsL_cons (fun a u hc hdd hd hk hdep => ?_) ?_
    ·
      have d15 : (a.tmps[15]?).getD undef = (.agg #[.int .i64 0, .int .u64 (q2 : Int)]) := hdep ⟨6, .data⟩ (by simp) rfl
      refine G.step_val KC KD hc hdd rfl (.int .i64 0) u ((G.wanted_guard (j := 4) (b := true) (c := true) rfl (hdep ⟨4, .guard⟩ (by simp) rfl)).trans rfl) ?_ rfl (Below.refl _ _)
      first | (go_simp; done) | rfl | (simp [go_sem, *]; done)
    refine G.stepsL_cons (fun a u hc hdd hd hk hdep => ?_) ?_
    ·
      have d16 : (a.tmps[16]?).getD undef = (.int .i64 0) := hdep ⟨7, .data⟩ (by simp) rfl
      refine G.step_val KC KD hc hdd rfl (.bool true) u ((G.wanted_guard (j := 4) (b := true) (c := true) rfl (hdep ⟨4, .guard⟩ (by simp) rfl)).trans rfl) ?_ rfl (Below.refl _ _)
      first | (go_simp; done) | rfl | (simp [go_sem, *]; done)
    refine G.stepsL_cons (fun a u hc hdd hd hk hdep => ?_) ?_
    ·
      have d13 : (a.tmps[13]?).getD undef = (.bool true) := hdep ⟨4, .data⟩ (by simp) rfl
      have d17 : (a.tmps[17]?).getD undef = (.bool true) := hdep ⟨8, .data⟩ (by simp) rfl
      refine G.step_val KC KD hc hdd rfl (.bool true) u (G.wanted_plain rfl) ?_ rfl (Below.refl _ _)
      first | (go_simp; done) | rfl | (simp [go_sem, *]; done)
    refine G.stepsL_cons (fun a u hc hdd hd hk hdep => ?_) ?_
    ·
      have d18 : (a.tmps[18]?).getD undef = (.bool true) := hdep ⟨9, .data⟩ (by simp) rfl
      refine G.step_val KC KD hc hdd rfl (.bool true) u (G.wanted_plain rfl) ?_ rfl (Below.refl _ _)
      first | (go_simp; done) | rfl | (simp [go_sem, *]; done)
    refine G.stepsL_cons (fun a u hc hdd hd hk hdep => ?_) ?_
    ·
      have d1 : (a.tmps[1]?).getD undef = (.pointer (some ⟨gl, 0, none⟩)) := hk 1 (by kernel_rfl)
      refine G.step_val KC KD hc hdd rfl (lookV E (some ⟨gB, 0, none⟩) 3 cE 1 1 2) u ((G.wanted_guard (j := 10) (b := true) (c := true) rfl (hdep ⟨10, .guard⟩ (by simp) rfl)).trans rfl) ?_ rfl (Below.refl _ _)
      first | (go_simp; done) | rfl | (simp [go_sem, *]; done)
    refine G.stepsL_cons (fun a u hc hdd hd hk hdep => ?_) ?_
    ·
      have d20 : (a.tmps[20]?).getD undef = (lookV E (some ⟨gB, 0, none⟩) 3 cE 1 1 2) := hdep ⟨11, .data⟩ (by simp) rfl
      refine G.step_call KC KD hc hdd rfl 14 #[.int .i64 27, .int .i64 0, .int .i64 0, (lookV E (some ⟨gB, 0, none⟩) 3 cE 1 1 2)] ((G.wanted_guard (j := 10) (b := true) (c := true) rfl (hdep ⟨10, .chain⟩ (by simp) rfl)).trans rfl) (by first | (go_simp; done) | rfl) ?_
      exact (D3.out E _ cE u hc.2.2.2.2.2.1).mono (by rintro e w' ⟨rfl, hb⟩; exact ⟨_, rfl, rfl, hb⟩)
    refine G.stepsL_cons (fun a u hc hdd hd hk hdep => ?_) ?_
    ·
      have d21 : (a.tmps[21]?).getD undef = (.agg #[.int .i64 q3, .int .u64 7]) := hdep ⟨12, .data⟩ (by simp) rfl
      refine G.step_val KC KD hc hdd rfl (.int .u64 7) u ((G.wanted_guard (j := 10) (b := true) (c := true) rfl (hdep ⟨10, .guard⟩ (by simp) rfl)).trans rfl) ?_ rfl (Below.refl _ _)
      first | (go_simp; done) | rfl | (simp [go_sem, *]; done)
    refine G.stepsL_cons (fun a u hc hdd hd hk hdep => ?_) ?_
    ·
      have d22 : (a.tmps[22]?).getD undef = (.int .u64 7) := hdep ⟨13, .data⟩ (by simp) rfl
      refine G.step_val KC KD hc hdd rfl (.bool true) u ((G.wanted_guard (j := 10) (b := true) (c := true) rfl (hdep ⟨10, .guard⟩ (by simp) rfl)).trans rfl) ?_ rfl (Below.refl _ _)
      first | (go_simp; done) | rfl | (simp [go_sem, *]; done)
    refine G.stepsL_cons (fun a u hc hdd hd hk hdep => ?_) ?_
    ·
      have d19 : (a.tmps[19]?).getD undef = (.bool true) := hdep ⟨10, .data⟩ (by simp) rfl
      have d23 : (a.tmps[23]?).getD undef = (.bool true) := hdep ⟨14, .data⟩ (by simp) rfl
      refine G.step_val KC KD hc hdd rfl (.bool true) u (G.wanted_plain rfl) ?_ rfl (Below.refl _ _)
      first | (go_simp; done) | rfl | (simp [go_sem, *]; done)
    refine G.stepsL_cons (fun a u hc hdd hd hk hdep => ?_) ?_
    ·
      have d24 : (a.tmps[24]?).getD undef = (.bool true) := hdep ⟨15, .data⟩ (by simp) rfl
      refine G.step_val KC KD hc hdd rfl (.bool true) u (G.wanted_plain rfl) ?_ rfl (Below.refl _ _)
      first | (go_simp; done) | rfl | (simp [go_sem, *]; done)
    refine G.stepsL_cons (fun a u hc hdd hd hk hdep => ?_) ?_
    ·
      have d1 : (a.tmps[1]?).getD undef = (.pointer (some ⟨gl, 0, none⟩)) := hk 1 (by kernel_rfl)
      refine G.step_val KC KD hc hdd rfl (lookV E (some ⟨gB, 0, none⟩) 3 cE 1 1 2) u ((G.wanted_guard (j := 16) (b := true) (c := true) rfl (hdep ⟨16, .guard⟩ (by simp) rfl)).trans rfl) ?_ rfl (Below.refl _ _)
      first | (go_simp; done) | rfl | (simp [go_sem, *]; done)
    refine G.stepsL_cons (fun a u hc hdd hd hk hdep => ?_) ?_
    ·
      have d26 : (a.tmps[26]?).getD undef = (lookV E (some ⟨gB, 0, none⟩) 3 cE 1 1 2) := hdep ⟨17, .data⟩ (by simp) rfl
      refine G.step_call KC KD hc hdd rfl 14 #[.int .i64 41, .int .i64 0, .int .i64 0, (lookV E (some ⟨gB, 0, none⟩) 3 cE 1 1 2)] ((G.wanted_guard (j := 16) (b := true) (c := true) rfl (hdep ⟨16, .chain⟩ (by simp) rfl)).trans rfl) (by first | (go_simp; done) | rfl) ?_
      exact (D4.out E _ cE u hc.2.2.2.2.2.1).mono (by rintro e w' ⟨rfl, hb⟩; exact ⟨_, rfl, rfl, hb⟩)
    refine G.stepsL_cons (fun a u hc hdd hd hk hdep => ?_) ?_
    ·
      have d27 : (a.tmps[27]?).getD undef = (.agg #[.int .i64 q4, .int .u64 9]) := hdep ⟨18, .data⟩ (by simp) rfl
      refine G.step_val KC KD hc hdd rfl (.int .u64 9) u ((G.wanted_guard (j := 16) (b := true) (c := true) rfl (hdep ⟨16, .guard⟩ (by simp) rfl)).trans rfl) ?_ rfl (Below.refl _ _)
      first | (go_simp; done) | rfl | (simp [go_sem, *]; done)
    refine G.stepsL_cons (fun a u hc hdd hd hk hdep => ?_) ?_
    ·
      have d28 : (a.tmps[28]?).getD undef = (.int .u64 9) := hdep ⟨19, .data⟩ (by simp) rfl
      refine G.step_val KC KD hc hdd rfl (.bool true) u ((G.wanted_guard (j := 16) (b := true) (c := true) rfl (hdep ⟨16, .guard⟩ (by simp) rfl)).trans rfl) ?_ rfl (Below.refl _ _)
      first | (go_simp; done) | rfl | (simp [go_sem, *]; done)
    refine G.stepsL_cons (fun a u hc hdd hd hk hdep => ?_) ?_
    ·
      have d25 : (a.tmps[25]?).getD undef = (.bool true) := hdep ⟨16, .data⟩ (by simp) rfl
      have d29 : (a.tmps[29]?).getD undef = (.bool true) := hdep ⟨20, .data⟩ (by simp) rfl
      refine G.step_val KC KD hc hdd rfl (.bool true) u (G.wanted_plain rfl) ?_ rfl (Below.refl _ _)
      first | (go_simp; done) | rfl | (simp [go_sem, *]; done)
    refine G.stepsL_cons (fun a u hc hdd hd hk hdep => ?_) ?_
    ·
      have d30 : (a.tmps[30]?).getD undef = (.bool true) := hdep ⟨21, .data⟩ (by simp) rfl
      refine G.step_val KC KD hc hdd rfl (.bool true) u (G.wanted_plain rfl) ?_ rfl (Below.refl _ _)
      first | (go_simp; done) | rfl | (simp [go_sem, *]; done)
    refine G.stepsL_cons (fun a u hc hdd hd hk hdep => ?_) ?_
    ·
      have d1 : (a.tmps[1]?).getD undef = (.pointer (some ⟨gl, 0, none⟩)) := hk 1 (by kernel_rfl)
      refine G.step_val KC KD hc hdd rfl (lookV E (some ⟨gB, 0, none⟩) 3 cE 1 1 2) u ((G.wanted_guard (j := 22) (b := true) (c := true) rfl (hdep ⟨22, .guard⟩ (by simp) rfl)).trans rfl) ?_ rfl (Below.refl _ _)
      first | (go_simp; done) | rfl | (simp [go_sem, *]; done)
    refine G.stepsL_cons (fun a u hc hdd hd hk hdep => ?_) ?_
    ·
      have d32 : (a.tmps[32]?).getD undef = (lookV E (some ⟨gB, 0, none⟩) 3 cE 1 1 2) := hdep ⟨23, .data⟩ (by simp) rfl
      refine G.step_call KC KD hc hdd rfl 14 #[.int .i64 25, .int .i64 1, .int .i64 0, (lookV E (some ⟨gB, 0, none⟩) 3 cE 1 1 2)] ((G.wanted_guard (j := 22) (b := true) (c := true) rfl (hdep ⟨22, .chain⟩ (by simp) rfl)).trans rfl) (by first | (go_simp; done) | rfl) ?_
      exact (D5.out E _ cE u hc.2.2.2.2.2.1).mono (by rintro e w' ⟨rfl, hb⟩; exact ⟨_, rfl, rfl, hb⟩)
    refine G.stepsL_cons (fun a u hc hdd hd hk hdep => ?_) ?_
    ·
      have d33 : (a.tmps[33]?).getD undef = (.agg #[.int .i64 1, .int .u64 (q5 : Int)]) := hdep ⟨24, .data⟩ (by simp) rfl
      refine G.step_val KC KD hc hdd rfl (.int .i64 1) u ((G.wanted_guard (j := 22) (b := true) (c := true) rfl (hdep ⟨22, .guard⟩ (by simp) rfl)).trans rfl) ?_ rfl (Below.refl _ _)
      first | (go_simp; done) | rfl | (simp [go_sem, *]; done)
    refine G.stepsL_cons (fun a u hc hdd hd hk hdep => ?_) ?_
    ·
      have d34 : (a.tmps[34]?).getD undef = (.int .i64 1) := hdep ⟨25, .data⟩ (by simp) rfl
      refine G.step_val KC KD hc hdd rfl (.bool true) u ((G.wanted_guard (j := 22) (b := true) (c := true) rfl (hdep ⟨22, .guard⟩ (by simp) rfl)).trans rfl) ?_ rfl (Below.refl _ _)
      first | (go_simp; done) | rfl | (simp [go_sem, *]; done)
    refine G.stepsL_cons (fun a u hc hdd hd hk hdep => ?_) ?_
    ·
      have d31 : (a.tmps[31]?).getD undef = (.bool true) := hdep ⟨22, .data⟩ (by simp) rfl
      have d35 : (a.tmps[35]?).getD undef = (.bool true) := hdep ⟨26, .data⟩ (by simp) rfl
      refine G.step_val KC KD hc hdd rfl (.bool true) u (G.wanted_plain rfl) ?_ rfl (Below.refl _ _)
      first | (go_simp; done) | rfl | (simp [go_sem, *]; done)
    refine G.stepsL_cons (fun a u hc hdd hd hk hdep => ?_) ?_
    ·
      have d36 : (a.tmps[36]?).getD undef = (.bool true) := hdep ⟨27, .data⟩ (by simp) rfl
      refine G.step_val KC KD hc hdd rfl (.bool true) u (G.wanted_plain rfl) ?_ rfl (Below.refl _ _)
      first | (go_simp; done) | rfl | (simp [go_sem, *]; done)
    exact G.stepsL_nil
  intro vs' wN hN hh
  have eL : vs' 28 = .bool true := by
    obtain ⟨-, -, -, -, -, -, -, -, -, -, -, -, -, -, -, -, -, -, -, -, -, -, -, -, -, -, -, -, eX, -⟩ := hh
    exact eX
  clear hh
  set_option maxRecDepth 100000 in simp only [List.take_succ_cons, List.take_zero, putAll, Act.put, List.setIfInBounds_toArray, List.set_cons_zero, List.set_cons_succ, Nat.reduceAdd, eL]
  obtain ⟨-, -, -, -, -, -, hW⟩ := hN
  go_wp2
  go_ret
  exact ⟨rfl, hW⟩
end Go.Proofs.Ytfjnphiegoogoaa
