/- The chapter's example of events, as a contract. -/
import Derived.Test.YtkmlbifhpkfinaaGreatDoorEvL
namespace Go.Proofs.YtkmlbifhpkfinaaGreatDoor
open Go.ChangeShapes Go.WideShapes Go.ChangeAt Go.RowKit Go.Fl
set_option linter.unusedVariables false
set_option linter.unusedSimpArgs false

def schW (t0 : List ST) (s0 : List ByteArray) : Value → World → Prop := fun v w => ∃ x1 x2, v = .agg #[x1, x2] ∧ TypesIn w x1 t0 ∧ SymsIn w x2 s0
theorem sch_mono (t0 : List ST) (s0 : List ByteArray) : G.MonoW (schW t0 s0) := by
  rintro v w w' ⟨x1, x2, e, h1, h2⟩ hb
  exact ⟨x1, x2, e, h1.later hb, h2.later hb⟩
def evW (ty tm : Int) (vs : List (Int × Nat)) : Value → World → Prop := fun v w => ∃ B cap, v = .agg #[.int .i64 ty, .int .i64 tm, .slice B vs.length cap] ∧ RowV w B vs.length vs
theorem ev_mono (ty tm : Int) (vs : List (Int × Nat)) : G.MonoW (evW ty tm vs) := by
  rintro v w w' ⟨B, cap, e, h⟩ hb
  exact ⟨B, cap, e, h.later hb⟩

theorem aw_world (w w6 : World) (h6 : w6 = ((((((w.alloc (.cells #[.string ⟨#[119, 104, 111]⟩, .int .i64 3, .string ⟨#[110]⟩, .int .i64 1] 56)).alloc (.cells #[.string ⟨#[66, 117, 121]⟩, .slice (some ⟨w.heap.size, 0, none⟩) 2 2] 51)).alloc (.cells #[.string ⟨#[97, 110, 110]⟩] 9)).alloc (.cells #[.slice (some ⟨w.heap.size + 1, 0, none⟩) 1 1, .slice (some ⟨w.heap.size + 1 + 1, 0, none⟩) 1 1] 25)).alloc (.cells #[.int .i64 3, .int .u64 0, .int .i64 1, .int .u64 18446744073709551614] 64)).alloc (.cells #[.int .i64 0, .int .i64 3, .slice (some ⟨w.heap.size + 1 + 1 + 1 + 1, 0, none⟩) 2 2] 28))) :
    w6.cell? ⟨w.heap.size + 1 + 1 + 1, 0, none⟩ = some (.slice (some ⟨w.heap.size + 1, 0, none⟩) 1 1) ∧ w6.cell? ⟨w.heap.size + 1 + 1 + 1, 1, none⟩ = some (.slice (some ⟨w.heap.size + 1 + 1, 0, none⟩) 1 1) ∧ w6.cell? ⟨w.heap.size + 1 + 1 + 1 + 1 + 1, 0, none⟩ = some (.int .i64 0) ∧ w6.cell? ⟨w.heap.size + 1 + 1 + 1 + 1 + 1, 1, none⟩ = some (.int .i64 3) ∧ w6.cell? ⟨w.heap.size + 1 + 1 + 1 + 1 + 1, 2, none⟩ = some (.slice (some ⟨w.heap.size + 1 + 1 + 1 + 1, 0, none⟩) 2 2) ∧ TypesIn w6 (.slice (some ⟨w.heap.size + 1, 0, none⟩) 1 1) awTs ∧ SymsIn w6 (.slice (some ⟨w.heap.size + 1 + 1, 0, none⟩) 1 1) awSs ∧ RowV w6 (some ⟨w.heap.size + 1 + 1 + 1 + 1, 0, none⟩) awVs.length awVs ∧ Below w.heap.size w w6 := by
  subst h6
  refine ⟨by simp [go_sem], by simp [go_sem], by simp [go_sem], by simp [go_sem], by simp [go_sem], ⟨_, 1, rfl, fun _ => ⟨w.heap.size + 1, 0, rfl, fun i t h => ?_⟩⟩, ⟨_, 1, rfl, ⟨Nat.le_refl _, by unfold maxLen; omega⟩, fun _ => ⟨w.heap.size + 1 + 1, 0, rfl, fun i s h => ?_⟩⟩, ⟨rfl, by decide, fun _ => ⟨w.heap.size + 1 + 1 + 1 + 1, 0, rfl, fun i k c h => ?_⟩⟩, (((((m1 _ _).alloc (by simp) _).alloc (by simp; omega) _).alloc (by simp; omega) _).alloc (by simp; omega) _).alloc (by simp; omega) _⟩
  · match i, h with
    | 0, h =>
      simp [awTs] at h
      subst h
      exact ⟨.slice (some ⟨w.heap.size, 0, none⟩) 2 2, by simp [go_sem], by simp [go_sem], _, 2, rfl, fun _ => ⟨w.heap.size, 0, rfl, fun j f hf => by
        match j, hf with
        | 0, hf => simp at hf; subst hf; exact ⟨by simp [go_sem], by simp [go_sem]⟩
        | 1, hf => simp at hf; subst hf; exact ⟨by simp [go_sem], by simp [go_sem]⟩⟩⟩
  · match i, h with
    | 0, h =>
      simp [awSs] at h
      subst h
      simp [go_sem]
  · match i, h with
    | 0, h =>
      simp [awVs] at h
      obtain ⟨rfl, rfl⟩ := h
      exact ⟨by simp [go_sem], by simp [go_sem]⟩
    | 1, h =>
      simp [awVs] at h
      obtain ⟨rfl, rfl⟩ := h
      exact ⟨by simp [go_sem], by simp [go_sem]⟩

set_option maxHeartbeats 8000000 in
set_option maxRecDepth 100000 in
theorem evawake_any (w : World) (htab : Lib.TabIs Tryz.prog w "internal/strconv.uint64pow10" .u64 Lib.pow10Tab) : Calls Tryz.prog 9 #[] w fun e w' => e = .returned (.bool true) ∧ Below w.heap.size w w' := by
  have tab := Lib.hid (Lib.tabBelow_of_tabIs htab)
  have okE := Lib.hid aw_ok
  have base := aw_world w _ rfl
  clear htab
  go_enter Tryz.func9, Tryz.ntmps9
  go_wp2_with fail
  generalize ((((((w.alloc (.cells #[.string ⟨#[119, 104, 111]⟩, .int .i64 3, .string ⟨#[110]⟩, .int .i64 1] 56)).alloc (.cells #[.string ⟨#[66, 117, 121]⟩, .slice (some ⟨w.heap.size, 0, none⟩) 2 2] 51)).alloc (.cells #[.string ⟨#[97, 110, 110]⟩] 9)).alloc (.cells #[.slice (some ⟨w.heap.size + 1, 0, none⟩) 1 1, .slice (some ⟨w.heap.size + 1 + 1, 0, none⟩) 1 1] 25)).alloc (.cells #[.int .i64 3, .int .u64 0, .int .i64 1, .int .u64 18446744073709551614] 64)).alloc (.cells #[.int .i64 0, .int .i64 3, .slice (some ⟨w.heap.size + 1 + 1 + 1 + 1, 0, none⟩) 2 2] 28)) = w6 at *
  obtain ⟨b0, b1, b2, b3, b4, b5, b6, b7, b8⟩ := base
  have KD := G.keepsD_true []
  refine G.region_words (fun w' => w'.cell? ⟨w.heap.size + 1 + 1 + 1, 0, none⟩ = some (.slice (some ⟨w.heap.size + 1, 0, none⟩) 1 1) ∧ w'.cell? ⟨w.heap.size + 1 + 1 + 1, 1, none⟩ = some (.slice (some ⟨w.heap.size + 1 + 1, 0, none⟩) 1 1) ∧ w'.cell? ⟨w.heap.size + 1 + 1 + 1 + 1 + 1, 0, none⟩ = some (.int .i64 0) ∧ w'.cell? ⟨w.heap.size + 1 + 1 + 1 + 1 + 1, 1, none⟩ = some (.int .i64 3) ∧ w'.cell? ⟨w.heap.size + 1 + 1 + 1 + 1 + 1, 2, none⟩ = some (.slice (some ⟨w.heap.size + 1 + 1 + 1 + 1, 0, none⟩) 2 2) ∧ TypesIn w' (.slice (some ⟨w.heap.size + 1, 0, none⟩) 1 1) awTs ∧ SymsIn w' (.slice (some ⟨w.heap.size + 1 + 1, 0, none⟩) 1 1) awSs ∧ RowV w' (some ⟨w.heap.size + 1 + 1 + 1 + 1, 0, none⟩) awVs.length awVs ∧ Below w.heap.size w w') [G.isW (.agg #[.slice (some ⟨w.heap.size + 1, 0, none⟩) 1 1, .slice (some ⟨w.heap.size + 1 + 1, 0, none⟩) 1 1]), schW awTs awSs, G.isW (.agg #[.int .i64 0, .int .i64 3, .slice (some ⟨w.heap.size + 1 + 1 + 1 + 1, 0, none⟩) 2 2]), evW 0 3 awVs, G.isW (.bool true), G.isW (.bool true), G.isW (.agg #[.slice (some ⟨w.heap.size + 1, 0, none⟩) 1 1, .slice (some ⟨w.heap.size + 1 + 1, 0, none⟩) 1 1]), schW awTs awSs, G.isW (.agg #[.int .i64 0, .int .i64 3, .slice (some ⟨w.heap.size + 1 + 1 + 1 + 1, 0, none⟩) 2 2]), evW 0 3 awVs, G.isW (.string ⟨#[66, 117, 121, 32, 51, 32, 39, 97, 110, 110, 32, 45, 50]⟩), G.isW (.bool true), G.isW (.bool true), G.isW (.bool true)] (by kernel_rfl) (by repeat' (first | exact G.monoL_nil | exact G.is_mono _ | exact sch_mono _ _ | exact ev_mono _ _ _ | refine G.monoL_cons ?_ ?_)) (by kernel_rfl) (by kernel_rfl) (fun _ _ h hb => ⟨cell_later hb h.1, cell_later hb h.2.1, cell_later hb h.2.2.1, cell_later hb h.2.2.2.1, cell_later hb h.2.2.2.2.1, h.2.2.2.2.2.1.later hb, h.2.2.2.2.2.2.1.later hb, h.2.2.2.2.2.2.2.1.later hb, mmore h.2.2.2.2.2.2.2.2 hb⟩) ⟨b0, b1, b2, b3, b4, b5, b6, b7, b8.drew⟩ ?_ ?_
  · intro KC
    clear b0 b1 b2 b3 b4 b5 b6 b7 b8
    refine G.stepsL_cons (fun a u hc hdd hd hk hdep => ?_) ?_
    ·
      have d1 : (a.tmps[1]?).getD undef = (.pointer (some ⟨w.heap.size + 1 + 1 + 1, 0, none⟩)) := hk 1 (by kernel_rfl)
      refine G.step_val KC KD hc hdd rfl (.agg #[.slice (some ⟨w.heap.size + 1, 0, none⟩) 1 1, .slice (some ⟨w.heap.size + 1 + 1, 0, none⟩) 1 1]) u (G.wanted_plain rfl) ?_ rfl (Below.refl _ _)
      obtain ⟨s0, s1, s2, s3, s4, -⟩ := hc
      go_simp
    refine G.stepsL_cons (fun a u hc hdd hd hk hdep => ?_) ?_
    ·
      have d14 : (a.tmps[14]?).getD undef = (.agg #[.slice (some ⟨w.heap.size + 1, 0, none⟩) 1 1, .slice (some ⟨w.heap.size + 1 + 1, 0, none⟩) 1 1]) := hdep ⟨0, .data⟩ (by simp) rfl
      refine G.step_call KC KD hc hdd rfl 6 #[(.agg #[.slice (some ⟨w.heap.size + 1, 0, none⟩) 1 1, .slice (some ⟨w.heap.size + 1 + 1, 0, none⟩) 1 1])] (G.wanted_plain rfl) (by go_simp) ?_
      obtain ⟨-, -, -, -, -, z0, z1, -⟩ := hc
      exact (sto_any _ _ awTs awSs u z0 z1 (by decide) (by decide) (by decide)).mono (by rintro e w' ⟨x1, x2, rfl, h1, h2, hb⟩; exact ⟨_, rfl, ⟨x1, x2, rfl, h1, h2⟩, hb⟩)
    refine G.stepsL_cons (fun a u hc hdd hd hk hdep => ?_) ?_
    ·
      have d2 : (a.tmps[2]?).getD undef = (.pointer (some ⟨w.heap.size + 1 + 1 + 1 + 1 + 1, 0, none⟩)) := hk 2 (by kernel_rfl)
      refine G.step_val KC KD hc hdd rfl (.agg #[.int .i64 0, .int .i64 3, .slice (some ⟨w.heap.size + 1 + 1 + 1 + 1, 0, none⟩) 2 2]) u (G.wanted_plain rfl) ?_ rfl (Below.refl _ _)
      obtain ⟨s0, s1, s2, s3, s4, -⟩ := hc
      go_simp
    refine G.stepsL_cons (fun a u hc hdd hd hk hdep => ?_) ?_
    ·
      have d16 : (a.tmps[16]?).getD undef = (.agg #[.int .i64 0, .int .i64 3, .slice (some ⟨w.heap.size + 1 + 1 + 1 + 1, 0, none⟩) 2 2]) := hdep ⟨2, .data⟩ (by simp) rfl
      refine G.step_call KC KD hc hdd rfl 8 #[(.agg #[.int .i64 0, .int .i64 3, .slice (some ⟨w.heap.size + 1 + 1 + 1 + 1, 0, none⟩) 2 2])] (G.wanted_plain rfl) (by go_simp) ?_
      obtain ⟨-, -, -, -, -, -, -, z2, -⟩ := hc
      exact (evto_any _ 2 0 3 awVs u z2 (by decide)).mono (by rintro e w' ⟨B', c', rfl, h1, hb⟩; exact ⟨_, rfl, ⟨B', c', rfl, h1⟩, hb⟩)
    refine G.stepsL_cons (fun a u hc hdd hd hk hdep => ?_) ?_
    ·
      obtain ⟨x1, x2, d15, hx1, hx2⟩ : schW awTs awSs ((a.tmps[15]?).getD undef) u := hdep ⟨1, .data⟩ (by simp) rfl
      obtain ⟨A2, cap2, rfl, hTA2⟩ := hx1
      obtain ⟨B2, capB2, rfl, hS21, hS22, hSB2⟩ := syms_slice hx2
      obtain ⟨E2, capE2, d17, hE2⟩ : evW 0 3 awVs ((a.tmps[17]?).getD undef) u := hdep ⟨3, .data⟩ (by simp) rfl
      refine G.step_call KC KD hc hdd rfl 16 #[.agg #[.slice A2 awTs.length cap2, .slice B2 awSs.length capB2], .agg #[.int .i64 0, .int .i64 3, .slice E2 awVs.length capE2]] (G.wanted_plain rfl) (by go_simp) ?_
      exact (evalid_any A2 B2 E2 cap2 capB2 capE2 awTs awSs 0 3 awVs u hTA2 hSB2 hE2 (by decide) (by decide) hS21 hS22 (by decide)).mono (by rintro e w' ⟨q, rfl, hq, hb⟩; obtain rfl : q = true := hq.2 okE.out; exact ⟨_, rfl, rfl, hb⟩)
    refine G.stepsL_cons (fun a u hc hdd hd hk hdep => ?_) ?_
    ·
      have d18 : (a.tmps[18]?).getD undef = (.bool true) := hdep ⟨4, .data⟩ (by simp) rfl
      refine G.step_val KC KD hc hdd rfl (.bool true) u (G.wanted_plain rfl) ?_ rfl (Below.refl _ _)
      first | (go_simp; done) | rfl
    refine G.stepsL_cons (fun a u hc hdd hd hk hdep => ?_) ?_
    ·
      have d1 : (a.tmps[1]?).getD undef = (.pointer (some ⟨w.heap.size + 1 + 1 + 1, 0, none⟩)) := hk 1 (by kernel_rfl)
      refine G.step_val KC KD hc hdd rfl (.agg #[.slice (some ⟨w.heap.size + 1, 0, none⟩) 1 1, .slice (some ⟨w.heap.size + 1 + 1, 0, none⟩) 1 1]) u ((G.wanted_guard (j := 5) (b := true) (c := true) rfl (hdep ⟨5, .guard⟩ (by simp) rfl)).trans rfl) ?_ rfl (Below.refl _ _)
      obtain ⟨s0, s1, s2, s3, s4, -⟩ := hc
      go_simp
    refine G.stepsL_cons (fun a u hc hdd hd hk hdep => ?_) ?_
    ·
      have d20 : (a.tmps[20]?).getD undef = (.agg #[.slice (some ⟨w.heap.size + 1, 0, none⟩) 1 1, .slice (some ⟨w.heap.size + 1 + 1, 0, none⟩) 1 1]) := hdep ⟨6, .data⟩ (by simp) rfl
      refine G.step_call KC KD hc hdd rfl 6 #[(.agg #[.slice (some ⟨w.heap.size + 1, 0, none⟩) 1 1, .slice (some ⟨w.heap.size + 1 + 1, 0, none⟩) 1 1])] ((G.wanted_guard (j := 5) (b := true) (c := true) rfl (hdep ⟨5, .guard⟩ (by simp) rfl)).trans rfl) (by go_simp) ?_
      obtain ⟨-, -, -, -, -, z0, z1, -⟩ := hc
      exact (sto_any _ _ awTs awSs u z0 z1 (by decide) (by decide) (by decide)).mono (by rintro e w' ⟨x1, x2, rfl, h1, h2, hb⟩; exact ⟨_, rfl, ⟨x1, x2, rfl, h1, h2⟩, hb⟩)
    refine G.stepsL_cons (fun a u hc hdd hd hk hdep => ?_) ?_
    ·
      have d2 : (a.tmps[2]?).getD undef = (.pointer (some ⟨w.heap.size + 1 + 1 + 1 + 1 + 1, 0, none⟩)) := hk 2 (by kernel_rfl)
      refine G.step_val KC KD hc hdd rfl (.agg #[.int .i64 0, .int .i64 3, .slice (some ⟨w.heap.size + 1 + 1 + 1 + 1, 0, none⟩) 2 2]) u ((G.wanted_guard (j := 5) (b := true) (c := true) rfl (hdep ⟨5, .guard⟩ (by simp) rfl)).trans rfl) ?_ rfl (Below.refl _ _)
      obtain ⟨s0, s1, s2, s3, s4, -⟩ := hc
      go_simp
    refine G.stepsL_cons (fun a u hc hdd hd hk hdep => ?_) ?_
    ·
      have d22 : (a.tmps[22]?).getD undef = (.agg #[.int .i64 0, .int .i64 3, .slice (some ⟨w.heap.size + 1 + 1 + 1 + 1, 0, none⟩) 2 2]) := hdep ⟨8, .data⟩ (by simp) rfl
      refine G.step_call KC KD hc hdd rfl 8 #[(.agg #[.int .i64 0, .int .i64 3, .slice (some ⟨w.heap.size + 1 + 1 + 1 + 1, 0, none⟩) 2 2])] ((G.wanted_guard (j := 5) (b := true) (c := true) rfl (hdep ⟨5, .guard⟩ (by simp) rfl)).trans rfl) (by go_simp) ?_
      obtain ⟨-, -, -, -, -, -, -, z2, -⟩ := hc
      exact (evto_any _ 2 0 3 awVs u z2 (by decide)).mono (by rintro e w' ⟨B', c', rfl, h1, hb⟩; exact ⟨_, rfl, ⟨B', c', rfl, h1⟩, hb⟩)
    refine G.stepsL_cons (fun a u hc hdd hd hk hdep => ?_) ?_
    ·
      obtain ⟨x1, x2, d21, hx1, hx2⟩ : schW awTs awSs ((a.tmps[21]?).getD undef) u := hdep ⟨7, .data⟩ (by simp) rfl
      obtain ⟨A2, cap2, rfl, hTA2⟩ := hx1
      obtain ⟨B2, capB2, rfl, hS21, hS22, hSB2⟩ := syms_slice hx2
      obtain ⟨E2, capE2, d23, hE2⟩ : evW 0 3 awVs ((a.tmps[23]?).getD undef) u := hdep ⟨9, .data⟩ (by simp) rfl
      refine G.step_call KC KD hc hdd rfl 7 #[.agg #[.slice A2 awTs.length cap2, .slice B2 awSs.length capB2], .agg #[.int .i64 0, .int .i64 3, .slice E2 awVs.length capE2]] ((G.wanted_guard (j := 5) (b := true) (c := true) rfl (hdep ⟨5, .guard⟩ (by simp) rfl)).trans rfl) (by go_simp) ?_
      have bz := hc.2.2.2.2.2.2.2.2
      exact (line_lit A2 B2 E2 cap2 capB2 capE2 u hTA2 hSB2 hE2 hS21 hS22 (tab.out u bz)).mono (by rintro e w' ⟨rfl, hb⟩; exact ⟨_, rfl, rfl, hb⟩)
    refine G.stepsL_cons (fun a u hc hdd hd hk hdep => ?_) ?_
    ·
      have d24 : (a.tmps[24]?).getD undef = (.string ⟨#[66, 117, 121, 32, 51, 32, 39, 97, 110, 110, 32, 45, 50]⟩) := hdep ⟨10, .data⟩ (by simp) rfl
      refine G.step_val KC KD hc hdd rfl (.bool true) u ((G.wanted_guard (j := 5) (b := true) (c := true) rfl (hdep ⟨5, .guard⟩ (by simp) rfl)).trans rfl) ?_ rfl (Below.refl _ _)
      go_simp
    refine G.stepsL_cons (fun a u hc hdd hd hk hdep => ?_) ?_
    ·
      have d19 : (a.tmps[19]?).getD undef = (.bool true) := hdep ⟨5, .data⟩ (by simp) rfl
      have d25 : (a.tmps[25]?).getD undef = (.bool true) := hdep ⟨11, .data⟩ (by simp) rfl
      refine G.step_val KC KD hc hdd rfl (.bool true) u (G.wanted_plain rfl) ?_ rfl (Below.refl _ _)
      first | (go_simp; done) | rfl
    refine G.stepsL_cons (fun a u hc hdd hd hk hdep => ?_) ?_
    ·
      have d26 : (a.tmps[26]?).getD undef = (.bool true) := hdep ⟨12, .data⟩ (by simp) rfl
      refine G.step_val KC KD hc hdd rfl (.bool true) u (G.wanted_plain rfl) ?_ rfl (Below.refl _ _)
      first | (go_simp; done) | rfl
    exact G.stepsL_nil
  intro vs' wN hN hh
  obtain ⟨e0, e1, e2, e3, e4, e5, e6, e7, e8, e9, e10, e11, e12, e13, -⟩ := hh
  have eL : vs' 13 = (.bool true) := e13
  clear e0 e1 e2 e3 e4 e5 e6 e7 e8 e9 e10 e11 e12 e13
  set_option maxRecDepth 100000 in simp only [putAll, Act.put, List.setIfInBounds_toArray, List.set_cons_zero, List.set_cons_succ, eL]
  have hBz := Lib.hid hN.2.2.2.2.2.2.2.2
  clear hN b0 b1 b2 b3 b4 b5 b6 b7 b8
  go_wp2
  go_ret
  exact ⟨rfl, hBz.out⟩
end Go.Proofs.YtkmlbifhpkfinaaGreatDoor
