/- What a leaf of a condition is: counts and aggregates, as contracts. -/
import Derived.Test.YtfjnphiegoogoaaLkF
import Derived.Test.YtfjnphiegoogoaaInvG
import Derived.Test.YtfjnphiegoogoaaInvV
namespace Go.Proofs.Ytfjnphiegoogoaa
open Go.ChangeShapes Go.WideShapes Go.ChangeAt Go.RowKit Go.Fl
set_option linter.unusedVariables false
set_option linter.unusedSimpArgs false

theorem keepL {w wr w1 : World} {E B : Option Addr} {ne ce nb cb : Nat} {cur : Int} {b o : Nat} {op vk : Int} {vb : Nat} {pos attr : Int} {a0 a1 a2 a3 a4 a5 : Addr} {v0 v1 v2 v3 v4 v5 : Value} (hb : Below wr.heap.size wr w1)
    (h : wr.cell? a0 = some v0 ∧ wr.cell? a1 = some v1 ∧ wr.cell? a2 = some v2 ∧ wr.cell? a3 = some v3 ∧ wr.cell? a4 = some v4 ∧ wr.cell? a5 = some v5 ∧ LfJ w E B ne ce nb cb cur b o op vk vb pos attr wr) :
    w1.cell? a0 = some v0 ∧ w1.cell? a1 = some v1 ∧ w1.cell? a2 = some v2 ∧ w1.cell? a3 = some v3 ∧ w1.cell? a4 = some v4 ∧ w1.cell? a5 = some v5 ∧ LfJ w E B ne ce nb cb cur b o op vk vb pos attr w1 :=
  ⟨cell_later hb h.1, cell_later hb h.2.1, cell_later hb h.2.2.1, cell_later hb h.2.2.2.1, cell_later hb h.2.2.2.2.1, cell_later hb h.2.2.2.2.2.1, h.2.2.2.2.2.2.later hb⟩

set_option maxHeartbeats 4000000 in
set_option maxRecDepth 100000 in
theorem leaf_count (E B : Option Addr) (ce cb : Nat) (cur : Int) (es : List Ev) (bs : List (List Int)) (b o : Nat) (vk : Int) (vb : Nat) (pos attr : Int) (w : World) (hn : NodeC w b o 25 vk vb pos attr) (hL : LookIn w E B es bs) :
    Calls Try.prog 54 #[lookV E B es.length ce bs.length cb cur, .pointer (some ⟨b, o, none⟩)] w (VIs (1, nU ((placesP bs pos).length : Int)) w) := by
  have J := LfJ.start (E := E) (B := B) (ne := es.length) (ce := ce) (nb := bs.length) (cb := cb) (cur := cur) hn
  obtain ⟨j0, j1, j2, j3, j4, j5, j6, j7, j8, j9, j10, j11⟩ := J.facts
  have hLu := hL.later J.drew.2.2.2
  have O := Lib.hid (places_any E B es.length ce cb cur bs pos _ hLu.2.1 hLu.2.2.2.2.1)
  generalize placesP bs pos = ps at *
  have C := Lib.hid (fun w => ofint_n (ps.length : Int) w)
  generalize nU (ps.length : Int) = xb at *
  replace J := Lib.hid J
  clear hn hL hLu j4 j5 j7 j8 j9 j10 j11
  go_enter Try.func54, Try.ntmps54
  go_wp2_with fail
  go_region_law (first | (go_simp; go_at_call 80; refine O.out.mono ?_; rintro e w1 ⟨A, cap, rfl, hI, hb1⟩; have J1 := J.out.drew.later hb1; clear hI) | (go_simp; go_at_call 79; refine (C.out _).mono ?_; rintro e w2 ⟨rfl, hb2⟩; have J2 := J1.later hb2; obtain ⟨l0, l1, l2, l3, l4, l5, l6, l7, l8, l9, l10, l11⟩ := J2.facts))
  all_goals obtain ⟨_, r1, r2⟩ := put2 (w := w2) (g := w.heap.size + 1) (.int .i64 1) (.int .u64 (xb : Int)) l8 l9
  all_goals replace r1 := Lib.hid r1
  all_goals replace r2 := Lib.hid r2
  all_goals replace J2 := Lib.hid J2
  all_goals clear l0 l1 l2 l3 l4 l5 l6 l7
  all_goals go_wp2
  all_goals exact bodyPost_ret (v := .agg #[.int .i64 1, .int .u64 (xb : Int)]) (by simp [results, Try.results54, go_sem, r1.out, r2.out]) rfl (.mk rfl (J2.out.below _ _))

set_option maxHeartbeats 4000000 in
set_option maxRecDepth 100000 in
theorem leaf_empty (E B : Option Addr) (ce cb : Nat) (cur : Int) (es : List Ev) (bs : List (List Int)) (b o : Nat) (op vk : Int) (vb : Nat) (pos attr : Int) (w : World) (h40 : (op == 40) = false) (h41 : (op == 41) = false) (h25 : (op == 25) = false) (hn : NodeC w b o op vk vb pos attr) (hL : LookIn w E B es bs) (hp : placesP bs pos = []) :
    Calls Try.prog 54 #[lookV E B es.length ce bs.length cb cur, .pointer (some ⟨b, o, none⟩)] w (VIs (0, 0) w) := by
  have J := LfJ.start (E := E) (B := B) (ne := es.length) (ce := ce) (nb := bs.length) (cb := cb) (cur := cur) hn
  obtain ⟨j0, j1, j2, j3, j4, j5, j6, j7, j8, j9, j10, j11⟩ := J.facts
  have hLu := hL.later J.drew.2.2.2
  have O := places_any E B es.length ce cb cur bs pos _ hLu.2.1 hLu.2.2.2.2.1
  rw [hp] at O
  replace O := Lib.hid O
  replace J := Lib.hid J
  clear hn hL hLu j4 j5 j7 j8 j9 j10 j11 hp
  go_enter Try.func54, Try.ntmps54
  go_wp2_with fail
  go_region_law (go_simp; go_at_call 80; refine O.out.mono ?_; rintro e w1 ⟨A, cap, rfl, hI, hb1⟩; have J1 := J.out.drew.later hb1; clear hI; obtain ⟨l0, l1, l2, l3, l4, l5, l6, l7, l8, l9, l10, l11⟩ := J1.facts)
  all_goals obtain ⟨_, r1, r2⟩ := put2 (w := w1) (g := w.heap.size + 1) (.int .i64 0) (.int .u64 0) l8 l9
  all_goals replace r1 := Lib.hid r1
  all_goals replace r2 := Lib.hid r2
  all_goals replace J1 := Lib.hid J1
  all_goals clear l0 l1 l2 l3 l4 l5 l6 l7
  all_goals go_wp2
  all_goals exact bodyPost_ret (v := .agg #[.int .i64 0, .int .u64 0]) (by simp [results, Try.results54, go_sem, r1.out, r2.out]) rfl (.mk rfl (J1.out.below _ _))

/-- words: a list that reads so; a function of the least or the greatest -/
def RowW (vs : List (Int × Nat)) : Value → World → Prop := fun v w => ∃ A, v = .slice A vs.length vs.length ∧ RowV w A vs.length vs
def ClW (s : Int) (f : Value) : Value → World → Prop := fun v w => ∃ sb pb, v = .func (.func 95) #[] #[.pointer (some ⟨sb, 0, none⟩), .pointer (some ⟨pb, 0, none⟩)] ∧ w.cell? ⟨sb, 0, none⟩ = some (.int .i64 s) ∧ w.cell? ⟨pb, 0, none⟩ = some f
theorem roww_mono (vs : List (Int × Nat)) : G.MonoW (RowW vs) := fun _ _ _ ⟨A, e, h⟩ hb => ⟨A, e, h.later hb⟩
theorem clw_mono (s : Int) (f : Value) : G.MonoW (ClW s f) := fun _ _ _ ⟨sb, pb, e, h1, h2⟩ hb => ⟨sb, pb, e, cell_later hb h1, cell_later hb h2⟩

set_option maxHeartbeats 8000000 in
set_option maxRecDepth 100000 in
theorem leaf_26 (E B : Option Addr) (ce cb : Nat) (cur : Int) (es : List Ev) (bs : List (List Int)) (b o : Nat) (vk : Int) (vb : Nat) (pos attr : Int) (w : World) (hn : NodeC w b o 26 vk vb pos attr) (hL : LookIn w E B es bs) (hp : placesP bs pos ≠ []) :
    Calls Try.prog 54 #[lookV E B es.length ce bs.length cb cur, .pointer (some ⟨b, o, none⟩)] w (VIs (headP (attrsP es bs pos attr)) w) := by
  have J := LfJ.start (E := E) (B := B) (ne := es.length) (ce := ce) (nb := bs.length) (cb := cb) (cur := cur) hn
  obtain ⟨j0, j1, j2, j3, j4, j5, j6, j7, j8, j9, j10, j11⟩ := J.facts
  have hLu := hL.later J.drew.2.2.2
  have O := places_any E B es.length ce cb cur bs pos _ hLu.2.1 hLu.2.2.2.2.1
  have hpl := places_le hL pos
  have hle : (placesP bs pos).length ≤ 9223372036854775807 := by omega
  have h0 : 0 < (attrsP es bs pos attr).length := by unfold attrsP; rw [List.length_map]; exact List.length_pos_iff.2 hp
  have hvl : (attrsP es bs pos attr).length ≤ 9223372036854775807 := by unfold attrsP; rw [List.length_map]; exact hle
  have hpp : 0 < (placesP bs pos).length := List.length_pos_iff.2 hp
  have N := Lib.hid (fun (wz : World) (h : Below w.heap.size w wz) => attributes_any E B ce cb cur es bs pos attr wz (hL.later h).1 (hL.later h).2.1 hL.2.2.1 hL.2.2.2.1 hL.2.2.2.2.1 hpl)
  generalize attrsP es bs pos attr = vs at *
  generalize hps : placesP bs pos = ps at *
  have e1 : ((ps.length : Int) == 0) = false := by simp; exact fun h => by subst h; simp at hpp
  have F := Lib.hid (fun wz A (hR : RowV wz A vs.length vs) => head_any A vs.length vs wz hR h0)
  generalize headP vs = x at *
  obtain ⟨xk, xb⟩ := x
  replace O := Lib.hid O
  replace J := Lib.hid J
  clear hn hL hLu j4 j5 j8 j9 j10 j11 hp hps hpl
  go_enter Try.func54, Try.ntmps54
  go_wp2_with fail
  go_region_held3 (fun w' => w'.cell? ⟨w.heap.size, 0, none⟩ = some (.slice E es.length ce) ∧ w'.cell? ⟨w.heap.size, 1, none⟩ = some (.slice B bs.length cb) ∧ w'.cell? ⟨w.heap.size, 2, none⟩ = some (.int .i64 cur) ∧ w'.cell? ⟨b, o, none⟩ = some (.int .i64 26) ∧ w'.cell? ⟨b, o + 5, none⟩ = some (.int .i64 pos) ∧ w'.cell? ⟨b, o + 6, none⟩ = some (.int .i64 attr) ∧ LfJ w E B es.length ce bs.length cb cur b o 26 vk vb pos attr w') (first | exact ⟨j0, j1, j2, j3, j6, j7, J.out.drew⟩ | go_keep | exact keepL hb1 (by first | assumption | exact ⟨by assumption, by assumption, by assumption, by assumption, by assumption, by assumption, by assumption⟩)) (first | (go_at_call 80; refine O.out.mono ?_; rintro e w1 ⟨A, cap, rfl, hI, hb1⟩))
  rename_i hS
  obtain ⟨j0, j1, j2, j3, j6, j7, J⟩ := hS
  go_upto_region 10 with (fail)
  have KD := G.keepsD_true []
  have KC : G.KeepsC (fun w' => w'.cell? ⟨w.heap.size, 0, none⟩ = some (.slice E es.length ce) ∧ w'.cell? ⟨w.heap.size, 1, none⟩ = some (.slice B bs.length cb) ∧ w'.cell? ⟨w.heap.size, 2, none⟩ = some (.int .i64 cur) ∧ w'.cell? ⟨b, o, none⟩ = some (.int .i64 26) ∧ w'.cell? ⟨b, o + 5, none⟩ = some (.int .i64 pos) ∧ w'.cell? ⟨b, o + 6, none⟩ = some (.int .i64 attr) ∧ LfJ w E B es.length ce bs.length cb cur b o 26 vk vb pos attr w') := fun _ _ h hb => keepL hb h
  refine G.region_wordsG 16 (fun w' => w'.cell? ⟨w.heap.size, 0, none⟩ = some (.slice E es.length ce) ∧ w'.cell? ⟨w.heap.size, 1, none⟩ = some (.slice B bs.length cb) ∧ w'.cell? ⟨w.heap.size, 2, none⟩ = some (.int .i64 cur) ∧ w'.cell? ⟨b, o, none⟩ = some (.int .i64 26) ∧ w'.cell? ⟨b, o + 5, none⟩ = some (.int .i64 pos) ∧ w'.cell? ⟨b, o + 6, none⟩ = some (.int .i64 attr) ∧ LfJ w E B es.length ce bs.length cb cur b o 26 vk vb pos attr w') (fun _ _ => True) [G.isW (.pointer (some ⟨b, o, none⟩)), G.isW (.pointer (some ⟨b, o, none⟩)), G.isW (.pointer (some ⟨b, o, none⟩)), G.isW (.int .i64 26), G.isW (.func (.func 94) #[] #[]), G.isW (lookV E B es.length ce bs.length cb cur), G.isW (.pointer (some ⟨b, o, none⟩)), G.isW (.pointer (some ⟨b, o, none⟩)), G.isW (.pointer (some ⟨b, o + 5, none⟩)), G.isW (.int .i64 pos), G.isW (.pointer (some ⟨b, o, none⟩)), G.isW (.pointer (some ⟨b, o, none⟩)), G.isW (.pointer (some ⟨b, o + 6, none⟩)), G.isW (.int .i64 attr), RowW vs, G.isW (.agg #[.int .i64 xk, .int .u64 (xb : Int)])] (by kernel_rfl) (by repeat' (first | exact G.monoL_nil | exact G.is_mono _ | exact G.any_mono | exact roww_mono _ | exact clw_mono _ _ | refine G.monoL_cons ?_ ?_)) (by kernel_rfl) (by kernel_rfl) ⟨j0, j1, j2, j3, j6, j7, J.drew⟩ trivial ?_ ?_
  ·
    refine G.stepsL_cons (fun a u hc hdd hd hk hdep => ?_) ?_
    ·
      have d1 : (a.tmps[1]?).getD undef = (.pointer (some ⟨b, o, none⟩)) := hk 1 (by kernel_rfl)
      refine G.step_val KC KD hc hdd rfl (.pointer (some ⟨b, o, none⟩)) u (G.wanted_plain rfl) ?_ rfl (Below.refl _ _)
      first | (go_simp; done) | rfl | (simp [go_sem, *]; done)
    refine G.stepsL_cons (fun a u hc hdd hd hk hdep => ?_) ?_
    ·
      have d45 : (a.tmps[45]?).getD undef = (.pointer (some ⟨b, o, none⟩)) := hdep ⟨0, .data⟩ (by simp) rfl
      refine G.step_val KC KD hc hdd rfl (.pointer (some ⟨b, o, none⟩)) u (G.wanted_plain rfl) ?_ rfl (Below.refl _ _)
      first | (go_simp; done) | rfl | (simp [go_sem, *]; done)
    refine G.stepsL_cons (fun a u hc hdd hd hk hdep => ?_) ?_
    ·
      have d46 : (a.tmps[46]?).getD undef = (.pointer (some ⟨b, o, none⟩)) := hdep ⟨1, .data⟩ (by simp) rfl
      refine G.step_val KC KD hc hdd rfl (.pointer (some ⟨b, o, none⟩)) u (G.wanted_plain rfl) ?_ rfl (Below.refl _ _)
      first | (go_simp; done) | rfl | (simp [go_sem, *]; done)
    refine G.stepsL_cons (fun a u hc hdd hd hk hdep => ?_) ?_
    ·
      have d47 : (a.tmps[47]?).getD undef = (.pointer (some ⟨b, o, none⟩)) := hdep ⟨2, .data⟩ (by simp) rfl
      refine G.step_val KC KD hc hdd rfl (.int .i64 26) u (G.wanted_plain rfl) ?_ rfl (Below.refl _ _)
      first | (go_simp; done) | rfl | (simp [go_sem, *]; done)
    refine G.stepsL_cons (fun a u hc hdd hd hk hdep => ?_) ?_
    ·
      have d48 : (a.tmps[48]?).getD undef = (.int .i64 26) := hdep ⟨3, .data⟩ (by simp) rfl
      refine G.step_call KC KD hc hdd rfl 81 #[.int .i64 26] (G.wanted_plain rfl) (by first | (go_simp; done) | rfl) ?_
      exact (agg_26 u).mono (by rintro e w' ⟨rfl, rfl⟩; exact ⟨_, rfl, rfl, Below.refl _ _⟩)
    refine G.stepsL_cons (fun a u hc hdd hd hk hdep => ?_) ?_
    ·
      have d2 : (a.tmps[2]?).getD undef = (.pointer (some ⟨w.heap.size, 0, none⟩)) := hk 2 (by kernel_rfl)
      refine G.step_val KC KD hc hdd rfl (lookV E B es.length ce bs.length cb cur) u (G.wanted_plain rfl) ?_ rfl (Below.refl _ _)
      first | (go_simp; done) | rfl | (simp [go_sem, *]; done)
    refine G.stepsL_cons (fun a u hc hdd hd hk hdep => ?_) ?_
    ·
      have d1 : (a.tmps[1]?).getD undef = (.pointer (some ⟨b, o, none⟩)) := hk 1 (by kernel_rfl)
      refine G.step_val KC KD hc hdd rfl (.pointer (some ⟨b, o, none⟩)) u (G.wanted_plain rfl) ?_ rfl (Below.refl _ _)
      first | (go_simp; done) | rfl | (simp [go_sem, *]; done)
    refine G.stepsL_cons (fun a u hc hdd hd hk hdep => ?_) ?_
    ·
      have d51 : (a.tmps[51]?).getD undef = (.pointer (some ⟨b, o, none⟩)) := hdep ⟨6, .data⟩ (by simp) rfl
      refine G.step_val KC KD hc hdd rfl (.pointer (some ⟨b, o, none⟩)) u (G.wanted_plain rfl) ?_ rfl (Below.refl _ _)
      first | (go_simp; done) | rfl | (simp [go_sem, *]; done)
    refine G.stepsL_cons (fun a u hc hdd hd hk hdep => ?_) ?_
    ·
      have d52 : (a.tmps[52]?).getD undef = (.pointer (some ⟨b, o, none⟩)) := hdep ⟨7, .data⟩ (by simp) rfl
      refine G.step_val KC KD hc hdd rfl (.pointer (some ⟨b, o + 5, none⟩)) u (G.wanted_plain rfl) ?_ rfl (Below.refl _ _)
      first | (go_simp; done) | rfl | (simp [go_sem, *]; done)
    refine G.stepsL_cons (fun a u hc hdd hd hk hdep => ?_) ?_
    ·
      have d53 : (a.tmps[53]?).getD undef = (.pointer (some ⟨b, o + 5, none⟩)) := hdep ⟨8, .data⟩ (by simp) rfl
      refine G.step_val KC KD hc hdd rfl (.int .i64 pos) u (G.wanted_plain rfl) ?_ rfl (Below.refl _ _)
      first | (go_simp; done) | rfl | (simp [go_sem, *]; done)
    refine G.stepsL_cons (fun a u hc hdd hd hk hdep => ?_) ?_
    ·
      have d1 : (a.tmps[1]?).getD undef = (.pointer (some ⟨b, o, none⟩)) := hk 1 (by kernel_rfl)
      refine G.step_val KC KD hc hdd rfl (.pointer (some ⟨b, o, none⟩)) u (G.wanted_plain rfl) ?_ rfl (Below.refl _ _)
      first | (go_simp; done) | rfl | (simp [go_sem, *]; done)
    refine G.stepsL_cons (fun a u hc hdd hd hk hdep => ?_) ?_
    ·
      have d55 : (a.tmps[55]?).getD undef = (.pointer (some ⟨b, o, none⟩)) := hdep ⟨10, .data⟩ (by simp) rfl
      refine G.step_val KC KD hc hdd rfl (.pointer (some ⟨b, o, none⟩)) u (G.wanted_plain rfl) ?_ rfl (Below.refl _ _)
      first | (go_simp; done) | rfl | (simp [go_sem, *]; done)
    refine G.stepsL_cons (fun a u hc hdd hd hk hdep => ?_) ?_
    ·
      have d56 : (a.tmps[56]?).getD undef = (.pointer (some ⟨b, o, none⟩)) := hdep ⟨11, .data⟩ (by simp) rfl
      refine G.step_val KC KD hc hdd rfl (.pointer (some ⟨b, o + 6, none⟩)) u (G.wanted_plain rfl) ?_ rfl (Below.refl _ _)
      first | (go_simp; done) | rfl | (simp [go_sem, *]; done)
    refine G.stepsL_cons (fun a u hc hdd hd hk hdep => ?_) ?_
    ·
      have d57 : (a.tmps[57]?).getD undef = (.pointer (some ⟨b, o + 6, none⟩)) := hdep ⟨12, .data⟩ (by simp) rfl
      refine G.step_val KC KD hc hdd rfl (.int .i64 attr) u (G.wanted_plain rfl) ?_ rfl (Below.refl _ _)
      first | (go_simp; done) | rfl | (simp [go_sem, *]; done)
    refine G.stepsL_cons (fun a u hc hdd hd hk hdep => ?_) ?_
    ·
      have d50 : (a.tmps[50]?).getD undef = (lookV E B es.length ce bs.length cb cur) := hdep ⟨5, .data⟩ (by simp) rfl
      have d54 : (a.tmps[54]?).getD undef = (.int .i64 pos) := hdep ⟨9, .data⟩ (by simp) rfl
      have d58 : (a.tmps[58]?).getD undef = (.int .i64 attr) := hdep ⟨13, .data⟩ (by simp) rfl
      refine G.step_call KC KD hc hdd rfl 82 #[lookV E B es.length ce bs.length cb cur, .int .i64 pos, .int .i64 attr] (G.wanted_plain rfl) (by first | (go_simp; done) | rfl) ?_
      exact (N.out u hc.2.2.2.2.2.2.2.2.2).mono (by rintro e w' ⟨A, rfl, hR, hb⟩; exact ⟨_, rfl, ⟨A, rfl, hR⟩, hb⟩)
    refine G.stepsL_cons (fun a u hc hdd hd hk hdep => ?_) ?_
    ·
      have d49 : (a.tmps[49]?).getD undef = (.func (.func 94) #[] #[]) := hdep ⟨4, .data⟩ (by simp) rfl
      have d59' : (RowW vs) ((a.tmps[59]?).getD undef) u := hdep ⟨14, .data⟩ (by simp) rfl
      obtain ⟨A, d59, hR⟩ := d59'
      refine G.step_call KC KD hc hdd rfl 94 #[.slice A vs.length vs.length] (G.wanted_plain rfl) (by first | (go_simp; done) | rfl) ?_
      exact (F.out u A hR).mono (by rintro e w' ⟨rfl, hb⟩; exact ⟨_, rfl, rfl, hb⟩)
    exact G.stepsL_nil
  intro vs' wN hN _ hh
  have eL : vs' 15 = .agg #[.int .i64 xk, .int .u64 (xb : Int)] := by
    obtain ⟨-, -, -, -, -, -, -, -, -, -, -, -, -, -, -, eX, -⟩ := hh
    exact eX
  clear hh j0 j1 j2 j3 j6 j7 J
  set_option maxRecDepth 100000 in simp only [List.take_succ_cons, List.take_zero, putAll, Act.put, List.setIfInBounds_toArray, List.set_cons_zero, List.set_cons_succ, Nat.reduceAdd, eL]
  obtain ⟨-, -, -, -, -, -, JN⟩ := hN
  obtain ⟨l0, l1, l2, l3, l4, l5, l6, l7, l8, l9, l10, l11⟩ := JN.facts
  refine wpAny_ready (rs := [16]) (by kernel_rfl) (by simp) ?_
  refine AllReady.cons rfl (fun K hK => ?_) AllReady.nil
  go_simp
  refine hK _ _ ?_
  clear hK K
  refine wpAny_done (by kernel_rfl) ?_ _
  obtain ⟨_, r1, r2⟩ := put2 (w := wN) (g := w.heap.size + 1) (.int .i64 xk) (.int .u64 (xb : Int)) l8 l9
  replace r1 := Lib.hid r1
  replace r2 := Lib.hid r2
  replace JN := Lib.hid JN
  clear l0 l1 l2 l3 l4 l5 l6 l7 l8 l9 l10 l11
  go_wp2
  exact bodyPost_ret (v := .agg #[.int .i64 xk, .int .u64 (xb : Int)]) (by simp [results, Try.results54, go_sem, r1.out, r2.out]) rfl (.mk rfl (JN.out.below _ _))

set_option maxHeartbeats 8000000 in
set_option maxRecDepth 100000 in
theorem leaf_42 (E B : Option Addr) (ce cb : Nat) (cur : Int) (es : List Ev) (bs : List (List Int)) (b o : Nat) (vk : Int) (vb : Nat) (pos attr : Int) (w : World) (hn : NodeC w b o 42 vk vb pos attr) (hL : LookIn w E B es bs) (hp : placesP bs pos ≠ []) :
    Calls Try.prog 54 #[lookV E B es.length ce bs.length cb cur, .pointer (some ⟨b, o, none⟩)] w (VIs (headP (attrsP es bs pos attr)) w) := by
  have J := LfJ.start (E := E) (B := B) (ne := es.length) (ce := ce) (nb := bs.length) (cb := cb) (cur := cur) hn
  obtain ⟨j0, j1, j2, j3, j4, j5, j6, j7, j8, j9, j10, j11⟩ := J.facts
  have hLu := hL.later J.drew.2.2.2
  have O := places_any E B es.length ce cb cur bs pos _ hLu.2.1 hLu.2.2.2.2.1
  have hpl := places_le hL pos
  have hle : (placesP bs pos).length ≤ 9223372036854775807 := by omega
  have h0 : 0 < (attrsP es bs pos attr).length := by unfold attrsP; rw [List.length_map]; exact List.length_pos_iff.2 hp
  have hvl : (attrsP es bs pos attr).length ≤ 9223372036854775807 := by unfold attrsP; rw [List.length_map]; exact hle
  have hpp : 0 < (placesP bs pos).length := List.length_pos_iff.2 hp
  have N := Lib.hid (fun (wz : World) (h : Below w.heap.size w wz) => attributes_any E B ce cb cur es bs pos attr wz (hL.later h).1 (hL.later h).2.1 hL.2.2.1 hL.2.2.2.1 hL.2.2.2.2.1 hpl)
  generalize attrsP es bs pos attr = vs at *
  generalize hps : placesP bs pos = ps at *
  have e1 : ((ps.length : Int) == 0) = false := by simp; exact fun h => by subst h; simp at hpp
  have F := Lib.hid (fun wz A (hR : RowV wz A vs.length vs) => head_any A vs.length vs wz hR h0)
  generalize headP vs = x at *
  obtain ⟨xk, xb⟩ := x
  replace O := Lib.hid O
  replace J := Lib.hid J
  clear hn hL hLu j4 j5 j8 j9 j10 j11 hp hps hpl
  go_enter Try.func54, Try.ntmps54
  go_wp2_with fail
  go_region_held3 (fun w' => w'.cell? ⟨w.heap.size, 0, none⟩ = some (.slice E es.length ce) ∧ w'.cell? ⟨w.heap.size, 1, none⟩ = some (.slice B bs.length cb) ∧ w'.cell? ⟨w.heap.size, 2, none⟩ = some (.int .i64 cur) ∧ w'.cell? ⟨b, o, none⟩ = some (.int .i64 42) ∧ w'.cell? ⟨b, o + 5, none⟩ = some (.int .i64 pos) ∧ w'.cell? ⟨b, o + 6, none⟩ = some (.int .i64 attr) ∧ LfJ w E B es.length ce bs.length cb cur b o 42 vk vb pos attr w') (first | exact ⟨j0, j1, j2, j3, j6, j7, J.out.drew⟩ | go_keep | exact keepL hb1 (by first | assumption | exact ⟨by assumption, by assumption, by assumption, by assumption, by assumption, by assumption, by assumption⟩)) (first | (go_at_call 80; refine O.out.mono ?_; rintro e w1 ⟨A, cap, rfl, hI, hb1⟩))
  rename_i hS
  obtain ⟨j0, j1, j2, j3, j6, j7, J⟩ := hS
  go_upto_region 10 with (fail)
  have KD := G.keepsD_true []
  have KC : G.KeepsC (fun w' => w'.cell? ⟨w.heap.size, 0, none⟩ = some (.slice E es.length ce) ∧ w'.cell? ⟨w.heap.size, 1, none⟩ = some (.slice B bs.length cb) ∧ w'.cell? ⟨w.heap.size, 2, none⟩ = some (.int .i64 cur) ∧ w'.cell? ⟨b, o, none⟩ = some (.int .i64 42) ∧ w'.cell? ⟨b, o + 5, none⟩ = some (.int .i64 pos) ∧ w'.cell? ⟨b, o + 6, none⟩ = some (.int .i64 attr) ∧ LfJ w E B es.length ce bs.length cb cur b o 42 vk vb pos attr w') := fun _ _ h hb => keepL hb h
  refine G.region_wordsG 16 (fun w' => w'.cell? ⟨w.heap.size, 0, none⟩ = some (.slice E es.length ce) ∧ w'.cell? ⟨w.heap.size, 1, none⟩ = some (.slice B bs.length cb) ∧ w'.cell? ⟨w.heap.size, 2, none⟩ = some (.int .i64 cur) ∧ w'.cell? ⟨b, o, none⟩ = some (.int .i64 42) ∧ w'.cell? ⟨b, o + 5, none⟩ = some (.int .i64 pos) ∧ w'.cell? ⟨b, o + 6, none⟩ = some (.int .i64 attr) ∧ LfJ w E B es.length ce bs.length cb cur b o 42 vk vb pos attr w') (fun _ _ => True) [G.isW (.pointer (some ⟨b, o, none⟩)), G.isW (.pointer (some ⟨b, o, none⟩)), G.isW (.pointer (some ⟨b, o, none⟩)), G.isW (.int .i64 42), G.isW (.func (.func 94) #[] #[]), G.isW (lookV E B es.length ce bs.length cb cur), G.isW (.pointer (some ⟨b, o, none⟩)), G.isW (.pointer (some ⟨b, o, none⟩)), G.isW (.pointer (some ⟨b, o + 5, none⟩)), G.isW (.int .i64 pos), G.isW (.pointer (some ⟨b, o, none⟩)), G.isW (.pointer (some ⟨b, o, none⟩)), G.isW (.pointer (some ⟨b, o + 6, none⟩)), G.isW (.int .i64 attr), RowW vs, G.isW (.agg #[.int .i64 xk, .int .u64 (xb : Int)])] (by kernel_rfl) (by repeat' (first | exact G.monoL_nil | exact G.is_mono _ | exact G.any_mono | exact roww_mono _ | exact clw_mono _ _ | refine G.monoL_cons ?_ ?_)) (by kernel_rfl) (by kernel_rfl) ⟨j0, j1, j2, j3, j6, j7, J.drew⟩ trivial ?_ ?_
  ·
    refine G.stepsL_cons (fun a u hc hdd hd hk hdep => ?_) ?_
    ·
      have d1 : (a.tmps[1]?).getD undef = (.pointer (some ⟨b, o, none⟩)) := hk 1 (by kernel_rfl)
      refine G.step_val KC KD hc hdd rfl (.pointer (some ⟨b, o, none⟩)) u (G.wanted_plain rfl) ?_ rfl (Below.refl _ _)
      first | (go_simp; done) | rfl | (simp [go_sem, *]; done)
    refine G.stepsL_cons (fun a u hc hdd hd hk hdep => ?_) ?_
    ·
      have d45 : (a.tmps[45]?).getD undef = (.pointer (some ⟨b, o, none⟩)) := hdep ⟨0, .data⟩ (by simp) rfl
      refine G.step_val KC KD hc hdd rfl (.pointer (some ⟨b, o, none⟩)) u (G.wanted_plain rfl) ?_ rfl (Below.refl _ _)
      first | (go_simp; done) | rfl | (simp [go_sem, *]; done)
    refine G.stepsL_cons (fun a u hc hdd hd hk hdep => ?_) ?_
    ·
      have d46 : (a.tmps[46]?).getD undef = (.pointer (some ⟨b, o, none⟩)) := hdep ⟨1, .data⟩ (by simp) rfl
      refine G.step_val KC KD hc hdd rfl (.pointer (some ⟨b, o, none⟩)) u (G.wanted_plain rfl) ?_ rfl (Below.refl _ _)
      first | (go_simp; done) | rfl | (simp [go_sem, *]; done)
    refine G.stepsL_cons (fun a u hc hdd hd hk hdep => ?_) ?_
    ·
      have d47 : (a.tmps[47]?).getD undef = (.pointer (some ⟨b, o, none⟩)) := hdep ⟨2, .data⟩ (by simp) rfl
      refine G.step_val KC KD hc hdd rfl (.int .i64 42) u (G.wanted_plain rfl) ?_ rfl (Below.refl _ _)
      first | (go_simp; done) | rfl | (simp [go_sem, *]; done)
    refine G.stepsL_cons (fun a u hc hdd hd hk hdep => ?_) ?_
    ·
      have d48 : (a.tmps[48]?).getD undef = (.int .i64 42) := hdep ⟨3, .data⟩ (by simp) rfl
      refine G.step_call KC KD hc hdd rfl 81 #[.int .i64 42] (G.wanted_plain rfl) (by first | (go_simp; done) | rfl) ?_
      exact (agg_42 u).mono (by rintro e w' ⟨rfl, rfl⟩; exact ⟨_, rfl, rfl, Below.refl _ _⟩)
    refine G.stepsL_cons (fun a u hc hdd hd hk hdep => ?_) ?_
    ·
      have d2 : (a.tmps[2]?).getD undef = (.pointer (some ⟨w.heap.size, 0, none⟩)) := hk 2 (by kernel_rfl)
      refine G.step_val KC KD hc hdd rfl (lookV E B es.length ce bs.length cb cur) u (G.wanted_plain rfl) ?_ rfl (Below.refl _ _)
      first | (go_simp; done) | rfl | (simp [go_sem, *]; done)
    refine G.stepsL_cons (fun a u hc hdd hd hk hdep => ?_) ?_
    ·
      have d1 : (a.tmps[1]?).getD undef = (.pointer (some ⟨b, o, none⟩)) := hk 1 (by kernel_rfl)
      refine G.step_val KC KD hc hdd rfl (.pointer (some ⟨b, o, none⟩)) u (G.wanted_plain rfl) ?_ rfl (Below.refl _ _)
      first | (go_simp; done) | rfl | (simp [go_sem, *]; done)
    refine G.stepsL_cons (fun a u hc hdd hd hk hdep => ?_) ?_
    ·
      have d51 : (a.tmps[51]?).getD undef = (.pointer (some ⟨b, o, none⟩)) := hdep ⟨6, .data⟩ (by simp) rfl
      refine G.step_val KC KD hc hdd rfl (.pointer (some ⟨b, o, none⟩)) u (G.wanted_plain rfl) ?_ rfl (Below.refl _ _)
      first | (go_simp; done) | rfl | (simp [go_sem, *]; done)
    refine G.stepsL_cons (fun a u hc hdd hd hk hdep => ?_) ?_
    ·
      have d52 : (a.tmps[52]?).getD undef = (.pointer (some ⟨b, o, none⟩)) := hdep ⟨7, .data⟩ (by simp) rfl
      refine G.step_val KC KD hc hdd rfl (.pointer (some ⟨b, o + 5, none⟩)) u (G.wanted_plain rfl) ?_ rfl (Below.refl _ _)
      first | (go_simp; done) | rfl | (simp [go_sem, *]; done)
    refine G.stepsL_cons (fun a u hc hdd hd hk hdep => ?_) ?_
    ·
      have d53 : (a.tmps[53]?).getD undef = (.pointer (some ⟨b, o + 5, none⟩)) := hdep ⟨8, .data⟩ (by simp) rfl
      refine G.step_val KC KD hc hdd rfl (.int .i64 pos) u (G.wanted_plain rfl) ?_ rfl (Below.refl _ _)
      first | (go_simp; done) | rfl | (simp [go_sem, *]; done)
    refine G.stepsL_cons (fun a u hc hdd hd hk hdep => ?_) ?_
    ·
      have d1 : (a.tmps[1]?).getD undef = (.pointer (some ⟨b, o, none⟩)) := hk 1 (by kernel_rfl)
      refine G.step_val KC KD hc hdd rfl (.pointer (some ⟨b, o, none⟩)) u (G.wanted_plain rfl) ?_ rfl (Below.refl _ _)
      first | (go_simp; done) | rfl | (simp [go_sem, *]; done)
    refine G.stepsL_cons (fun a u hc hdd hd hk hdep => ?_) ?_
    ·
      have d55 : (a.tmps[55]?).getD undef = (.pointer (some ⟨b, o, none⟩)) := hdep ⟨10, .data⟩ (by simp) rfl
      refine G.step_val KC KD hc hdd rfl (.pointer (some ⟨b, o, none⟩)) u (G.wanted_plain rfl) ?_ rfl (Below.refl _ _)
      first | (go_simp; done) | rfl | (simp [go_sem, *]; done)
    refine G.stepsL_cons (fun a u hc hdd hd hk hdep => ?_) ?_
    ·
      have d56 : (a.tmps[56]?).getD undef = (.pointer (some ⟨b, o, none⟩)) := hdep ⟨11, .data⟩ (by simp) rfl
      refine G.step_val KC KD hc hdd rfl (.pointer (some ⟨b, o + 6, none⟩)) u (G.wanted_plain rfl) ?_ rfl (Below.refl _ _)
      first | (go_simp; done) | rfl | (simp [go_sem, *]; done)
    refine G.stepsL_cons (fun a u hc hdd hd hk hdep => ?_) ?_
    ·
      have d57 : (a.tmps[57]?).getD undef = (.pointer (some ⟨b, o + 6, none⟩)) := hdep ⟨12, .data⟩ (by simp) rfl
      refine G.step_val KC KD hc hdd rfl (.int .i64 attr) u (G.wanted_plain rfl) ?_ rfl (Below.refl _ _)
      first | (go_simp; done) | rfl | (simp [go_sem, *]; done)
    refine G.stepsL_cons (fun a u hc hdd hd hk hdep => ?_) ?_
    ·
      have d50 : (a.tmps[50]?).getD undef = (lookV E B es.length ce bs.length cb cur) := hdep ⟨5, .data⟩ (by simp) rfl
      have d54 : (a.tmps[54]?).getD undef = (.int .i64 pos) := hdep ⟨9, .data⟩ (by simp) rfl
      have d58 : (a.tmps[58]?).getD undef = (.int .i64 attr) := hdep ⟨13, .data⟩ (by simp) rfl
      refine G.step_call KC KD hc hdd rfl 82 #[lookV E B es.length ce bs.length cb cur, .int .i64 pos, .int .i64 attr] (G.wanted_plain rfl) (by first | (go_simp; done) | rfl) ?_
      exact (N.out u hc.2.2.2.2.2.2.2.2.2).mono (by rintro e w' ⟨A, rfl, hR, hb⟩; exact ⟨_, rfl, ⟨A, rfl, hR⟩, hb⟩)
    refine G.stepsL_cons (fun a u hc hdd hd hk hdep => ?_) ?_
    ·
      have d49 : (a.tmps[49]?).getD undef = (.func (.func 94) #[] #[]) := hdep ⟨4, .data⟩ (by simp) rfl
      have d59' : (RowW vs) ((a.tmps[59]?).getD undef) u := hdep ⟨14, .data⟩ (by simp) rfl
      obtain ⟨A, d59, hR⟩ := d59'
      refine G.step_call KC KD hc hdd rfl 94 #[.slice A vs.length vs.length] (G.wanted_plain rfl) (by first | (go_simp; done) | rfl) ?_
      exact (F.out u A hR).mono (by rintro e w' ⟨rfl, hb⟩; exact ⟨_, rfl, rfl, hb⟩)
    exact G.stepsL_nil
  intro vs' wN hN _ hh
  have eL : vs' 15 = .agg #[.int .i64 xk, .int .u64 (xb : Int)] := by
    obtain ⟨-, -, -, -, -, -, -, -, -, -, -, -, -, -, -, eX, -⟩ := hh
    exact eX
  clear hh j0 j1 j2 j3 j6 j7 J
  set_option maxRecDepth 100000 in simp only [List.take_succ_cons, List.take_zero, putAll, Act.put, List.setIfInBounds_toArray, List.set_cons_zero, List.set_cons_succ, Nat.reduceAdd, eL]
  obtain ⟨-, -, -, -, -, -, JN⟩ := hN
  obtain ⟨l0, l1, l2, l3, l4, l5, l6, l7, l8, l9, l10, l11⟩ := JN.facts
  refine wpAny_ready (rs := [16]) (by kernel_rfl) (by simp) ?_
  refine AllReady.cons rfl (fun K hK => ?_) AllReady.nil
  go_simp
  refine hK _ _ ?_
  clear hK K
  refine wpAny_done (by kernel_rfl) ?_ _
  obtain ⟨_, r1, r2⟩ := put2 (w := wN) (g := w.heap.size + 1) (.int .i64 xk) (.int .u64 (xb : Int)) l8 l9
  replace r1 := Lib.hid r1
  replace r2 := Lib.hid r2
  replace JN := Lib.hid JN
  clear l0 l1 l2 l3 l4 l5 l6 l7 l8 l9 l10 l11
  go_wp2
  exact bodyPost_ret (v := .agg #[.int .i64 xk, .int .u64 (xb : Int)]) (by simp [results, Try.results54, go_sem, r1.out, r2.out]) rfl (.mk rfl (JN.out.below _ _))

set_option maxHeartbeats 8000000 in
set_option maxRecDepth 100000 in
theorem leaf_27 (E B : Option Addr) (ce cb : Nat) (cur : Int) (es : List Ev) (bs : List (List Int)) (b o : Nat) (vk : Int) (vb : Nat) (pos attr : Int) (w : World) (hn : NodeC w b o 27 vk vb pos attr) (hL : LookIn w E B es bs) (hp : placesP bs pos ≠ []) :
    Calls Try.prog 54 #[lookV E B es.length ce bs.length cb cur, .pointer (some ⟨b, o, none⟩)] w (VIs (lastP (attrsP es bs pos attr)) w) := by
  have J := LfJ.start (E := E) (B := B) (ne := es.length) (ce := ce) (nb := bs.length) (cb := cb) (cur := cur) hn
  obtain ⟨j0, j1, j2, j3, j4, j5, j6, j7, j8, j9, j10, j11⟩ := J.facts
  have hLu := hL.later J.drew.2.2.2
  have O := places_any E B es.length ce cb cur bs pos _ hLu.2.1 hLu.2.2.2.2.1
  have hpl := places_le hL pos
  have hle : (placesP bs pos).length ≤ 9223372036854775807 := by omega
  have h0 : 0 < (attrsP es bs pos attr).length := by unfold attrsP; rw [List.length_map]; exact List.length_pos_iff.2 hp
  have hvl : (attrsP es bs pos attr).length ≤ 9223372036854775807 := by unfold attrsP; rw [List.length_map]; exact hle
  have hpp : 0 < (placesP bs pos).length := List.length_pos_iff.2 hp
  have N := Lib.hid (fun (wz : World) (h : Below w.heap.size w wz) => attributes_any E B ce cb cur es bs pos attr wz (hL.later h).1 (hL.later h).2.1 hL.2.2.1 hL.2.2.2.1 hL.2.2.2.2.1 hpl)
  generalize attrsP es bs pos attr = vs at *
  generalize hps : placesP bs pos = ps at *
  have e1 : ((ps.length : Int) == 0) = false := by simp; exact fun h => by subst h; simp at hpp
  have F := Lib.hid (fun wz A (hR : RowV wz A vs.length vs) => last_any A vs.length vs wz hR h0 hvl)
  generalize lastP vs = x at *
  obtain ⟨xk, xb⟩ := x
  replace O := Lib.hid O
  replace J := Lib.hid J
  clear hn hL hLu j4 j5 j8 j9 j10 j11 hp hps hpl
  go_enter Try.func54, Try.ntmps54
  go_wp2_with fail
  go_region_held3 (fun w' => w'.cell? ⟨w.heap.size, 0, none⟩ = some (.slice E es.length ce) ∧ w'.cell? ⟨w.heap.size, 1, none⟩ = some (.slice B bs.length cb) ∧ w'.cell? ⟨w.heap.size, 2, none⟩ = some (.int .i64 cur) ∧ w'.cell? ⟨b, o, none⟩ = some (.int .i64 27) ∧ w'.cell? ⟨b, o + 5, none⟩ = some (.int .i64 pos) ∧ w'.cell? ⟨b, o + 6, none⟩ = some (.int .i64 attr) ∧ LfJ w E B es.length ce bs.length cb cur b o 27 vk vb pos attr w') (first | exact ⟨j0, j1, j2, j3, j6, j7, J.out.drew⟩ | go_keep | exact keepL hb1 (by first | assumption | exact ⟨by assumption, by assumption, by assumption, by assumption, by assumption, by assumption, by assumption⟩)) (first | (go_at_call 80; refine O.out.mono ?_; rintro e w1 ⟨A, cap, rfl, hI, hb1⟩))
  rename_i hS
  obtain ⟨j0, j1, j2, j3, j6, j7, J⟩ := hS
  go_upto_region 10 with (fail)
  have KD := G.keepsD_true []
  have KC : G.KeepsC (fun w' => w'.cell? ⟨w.heap.size, 0, none⟩ = some (.slice E es.length ce) ∧ w'.cell? ⟨w.heap.size, 1, none⟩ = some (.slice B bs.length cb) ∧ w'.cell? ⟨w.heap.size, 2, none⟩ = some (.int .i64 cur) ∧ w'.cell? ⟨b, o, none⟩ = some (.int .i64 27) ∧ w'.cell? ⟨b, o + 5, none⟩ = some (.int .i64 pos) ∧ w'.cell? ⟨b, o + 6, none⟩ = some (.int .i64 attr) ∧ LfJ w E B es.length ce bs.length cb cur b o 27 vk vb pos attr w') := fun _ _ h hb => keepL hb h
  refine G.region_wordsG 16 (fun w' => w'.cell? ⟨w.heap.size, 0, none⟩ = some (.slice E es.length ce) ∧ w'.cell? ⟨w.heap.size, 1, none⟩ = some (.slice B bs.length cb) ∧ w'.cell? ⟨w.heap.size, 2, none⟩ = some (.int .i64 cur) ∧ w'.cell? ⟨b, o, none⟩ = some (.int .i64 27) ∧ w'.cell? ⟨b, o + 5, none⟩ = some (.int .i64 pos) ∧ w'.cell? ⟨b, o + 6, none⟩ = some (.int .i64 attr) ∧ LfJ w E B es.length ce bs.length cb cur b o 27 vk vb pos attr w') (fun _ _ => True) [G.isW (.pointer (some ⟨b, o, none⟩)), G.isW (.pointer (some ⟨b, o, none⟩)), G.isW (.pointer (some ⟨b, o, none⟩)), G.isW (.int .i64 27), G.isW (.func (.func 88) #[] #[]), G.isW (lookV E B es.length ce bs.length cb cur), G.isW (.pointer (some ⟨b, o, none⟩)), G.isW (.pointer (some ⟨b, o, none⟩)), G.isW (.pointer (some ⟨b, o + 5, none⟩)), G.isW (.int .i64 pos), G.isW (.pointer (some ⟨b, o, none⟩)), G.isW (.pointer (some ⟨b, o, none⟩)), G.isW (.pointer (some ⟨b, o + 6, none⟩)), G.isW (.int .i64 attr), RowW vs, G.isW (.agg #[.int .i64 xk, .int .u64 (xb : Int)])] (by kernel_rfl) (by repeat' (first | exact G.monoL_nil | exact G.is_mono _ | exact G.any_mono | exact roww_mono _ | exact clw_mono _ _ | refine G.monoL_cons ?_ ?_)) (by kernel_rfl) (by kernel_rfl) ⟨j0, j1, j2, j3, j6, j7, J.drew⟩ trivial ?_ ?_
  ·
    refine G.stepsL_cons (fun a u hc hdd hd hk hdep => ?_) ?_
    ·
      have d1 : (a.tmps[1]?).getD undef = (.pointer (some ⟨b, o, none⟩)) := hk 1 (by kernel_rfl)
      refine G.step_val KC KD hc hdd rfl (.pointer (some ⟨b, o, none⟩)) u (G.wanted_plain rfl) ?_ rfl (Below.refl _ _)
      first | (go_simp; done) | rfl | (simp [go_sem, *]; done)
    refine G.stepsL_cons (fun a u hc hdd hd hk hdep => ?_) ?_
    ·
      have d45 : (a.tmps[45]?).getD undef = (.pointer (some ⟨b, o, none⟩)) := hdep ⟨0, .data⟩ (by simp) rfl
      refine G.step_val KC KD hc hdd rfl (.pointer (some ⟨b, o, none⟩)) u (G.wanted_plain rfl) ?_ rfl (Below.refl _ _)
      first | (go_simp; done) | rfl | (simp [go_sem, *]; done)
    refine G.stepsL_cons (fun a u hc hdd hd hk hdep => ?_) ?_
    ·
      have d46 : (a.tmps[46]?).getD undef = (.pointer (some ⟨b, o, none⟩)) := hdep ⟨1, .data⟩ (by simp) rfl
      refine G.step_val KC KD hc hdd rfl (.pointer (some ⟨b, o, none⟩)) u (G.wanted_plain rfl) ?_ rfl (Below.refl _ _)
      first | (go_simp; done) | rfl | (simp [go_sem, *]; done)
    refine G.stepsL_cons (fun a u hc hdd hd hk hdep => ?_) ?_
    ·
      have d47 : (a.tmps[47]?).getD undef = (.pointer (some ⟨b, o, none⟩)) := hdep ⟨2, .data⟩ (by simp) rfl
      refine G.step_val KC KD hc hdd rfl (.int .i64 27) u (G.wanted_plain rfl) ?_ rfl (Below.refl _ _)
      first | (go_simp; done) | rfl | (simp [go_sem, *]; done)
    refine G.stepsL_cons (fun a u hc hdd hd hk hdep => ?_) ?_
    ·
      have d48 : (a.tmps[48]?).getD undef = (.int .i64 27) := hdep ⟨3, .data⟩ (by simp) rfl
      refine G.step_call KC KD hc hdd rfl 81 #[.int .i64 27] (G.wanted_plain rfl) (by first | (go_simp; done) | rfl) ?_
      exact (agg_27 u).mono (by rintro e w' ⟨rfl, rfl⟩; exact ⟨_, rfl, rfl, Below.refl _ _⟩)
    refine G.stepsL_cons (fun a u hc hdd hd hk hdep => ?_) ?_
    ·
      have d2 : (a.tmps[2]?).getD undef = (.pointer (some ⟨w.heap.size, 0, none⟩)) := hk 2 (by kernel_rfl)
      refine G.step_val KC KD hc hdd rfl (lookV E B es.length ce bs.length cb cur) u (G.wanted_plain rfl) ?_ rfl (Below.refl _ _)
      first | (go_simp; done) | rfl | (simp [go_sem, *]; done)
    refine G.stepsL_cons (fun a u hc hdd hd hk hdep => ?_) ?_
    ·
      have d1 : (a.tmps[1]?).getD undef = (.pointer (some ⟨b, o, none⟩)) := hk 1 (by kernel_rfl)
      refine G.step_val KC KD hc hdd rfl (.pointer (some ⟨b, o, none⟩)) u (G.wanted_plain rfl) ?_ rfl (Below.refl _ _)
      first | (go_simp; done) | rfl | (simp [go_sem, *]; done)
    refine G.stepsL_cons (fun a u hc hdd hd hk hdep => ?_) ?_
    ·
      have d51 : (a.tmps[51]?).getD undef = (.pointer (some ⟨b, o, none⟩)) := hdep ⟨6, .data⟩ (by simp) rfl
      refine G.step_val KC KD hc hdd rfl (.pointer (some ⟨b, o, none⟩)) u (G.wanted_plain rfl) ?_ rfl (Below.refl _ _)
      first | (go_simp; done) | rfl | (simp [go_sem, *]; done)
    refine G.stepsL_cons (fun a u hc hdd hd hk hdep => ?_) ?_
    ·
      have d52 : (a.tmps[52]?).getD undef = (.pointer (some ⟨b, o, none⟩)) := hdep ⟨7, .data⟩ (by simp) rfl
      refine G.step_val KC KD hc hdd rfl (.pointer (some ⟨b, o + 5, none⟩)) u (G.wanted_plain rfl) ?_ rfl (Below.refl _ _)
      first | (go_simp; done) | rfl | (simp [go_sem, *]; done)
    refine G.stepsL_cons (fun a u hc hdd hd hk hdep => ?_) ?_
    ·
      have d53 : (a.tmps[53]?).getD undef = (.pointer (some ⟨b, o + 5, none⟩)) := hdep ⟨8, .data⟩ (by simp) rfl
      refine G.step_val KC KD hc hdd rfl (.int .i64 pos) u (G.wanted_plain rfl) ?_ rfl (Below.refl _ _)
      first | (go_simp; done) | rfl | (simp [go_sem, *]; done)
    refine G.stepsL_cons (fun a u hc hdd hd hk hdep => ?_) ?_
    ·
      have d1 : (a.tmps[1]?).getD undef = (.pointer (some ⟨b, o, none⟩)) := hk 1 (by kernel_rfl)
      refine G.step_val KC KD hc hdd rfl (.pointer (some ⟨b, o, none⟩)) u (G.wanted_plain rfl) ?_ rfl (Below.refl _ _)
      first | (go_simp; done) | rfl | (simp [go_sem, *]; done)
    refine G.stepsL_cons (fun a u hc hdd hd hk hdep => ?_) ?_
    ·
      have d55 : (a.tmps[55]?).getD undef = (.pointer (some ⟨b, o, none⟩)) := hdep ⟨10, .data⟩ (by simp) rfl
      refine G.step_val KC KD hc hdd rfl (.pointer (some ⟨b, o, none⟩)) u (G.wanted_plain rfl) ?_ rfl (Below.refl _ _)
      first | (go_simp; done) | rfl | (simp [go_sem, *]; done)
    refine G.stepsL_cons (fun a u hc hdd hd hk hdep => ?_) ?_
    ·
      have d56 : (a.tmps[56]?).getD undef = (.pointer (some ⟨b, o, none⟩)) := hdep ⟨11, .data⟩ (by simp) rfl
      refine G.step_val KC KD hc hdd rfl (.pointer (some ⟨b, o + 6, none⟩)) u (G.wanted_plain rfl) ?_ rfl (Below.refl _ _)
      first | (go_simp; done) | rfl | (simp [go_sem, *]; done)
    refine G.stepsL_cons (fun a u hc hdd hd hk hdep => ?_) ?_
    ·
      have d57 : (a.tmps[57]?).getD undef = (.pointer (some ⟨b, o + 6, none⟩)) := hdep ⟨12, .data⟩ (by simp) rfl
      refine G.step_val KC KD hc hdd rfl (.int .i64 attr) u (G.wanted_plain rfl) ?_ rfl (Below.refl _ _)
      first | (go_simp; done) | rfl | (simp [go_sem, *]; done)
    refine G.stepsL_cons (fun a u hc hdd hd hk hdep => ?_) ?_
    ·
      have d50 : (a.tmps[50]?).getD undef = (lookV E B es.length ce bs.length cb cur) := hdep ⟨5, .data⟩ (by simp) rfl
      have d54 : (a.tmps[54]?).getD undef = (.int .i64 pos) := hdep ⟨9, .data⟩ (by simp) rfl
      have d58 : (a.tmps[58]?).getD undef = (.int .i64 attr) := hdep ⟨13, .data⟩ (by simp) rfl
      refine G.step_call KC KD hc hdd rfl 82 #[lookV E B es.length ce bs.length cb cur, .int .i64 pos, .int .i64 attr] (G.wanted_plain rfl) (by first | (go_simp; done) | rfl) ?_
      exact (N.out u hc.2.2.2.2.2.2.2.2.2).mono (by rintro e w' ⟨A, rfl, hR, hb⟩; exact ⟨_, rfl, ⟨A, rfl, hR⟩, hb⟩)
    refine G.stepsL_cons (fun a u hc hdd hd hk hdep => ?_) ?_
    ·
      have d49 : (a.tmps[49]?).getD undef = (.func (.func 88) #[] #[]) := hdep ⟨4, .data⟩ (by simp) rfl
      have d59' : (RowW vs) ((a.tmps[59]?).getD undef) u := hdep ⟨14, .data⟩ (by simp) rfl
      obtain ⟨A, d59, hR⟩ := d59'
      refine G.step_call KC KD hc hdd rfl 88 #[.slice A vs.length vs.length] (G.wanted_plain rfl) (by first | (go_simp; done) | rfl) ?_
      exact (F.out u A hR).mono (by rintro e w' ⟨rfl, hb⟩; exact ⟨_, rfl, rfl, hb⟩)
    exact G.stepsL_nil
  intro vs' wN hN _ hh
  have eL : vs' 15 = .agg #[.int .i64 xk, .int .u64 (xb : Int)] := by
    obtain ⟨-, -, -, -, -, -, -, -, -, -, -, -, -, -, -, eX, -⟩ := hh
    exact eX
  clear hh j0 j1 j2 j3 j6 j7 J
  set_option maxRecDepth 100000 in simp only [List.take_succ_cons, List.take_zero, putAll, Act.put, List.setIfInBounds_toArray, List.set_cons_zero, List.set_cons_succ, Nat.reduceAdd, eL]
  obtain ⟨-, -, -, -, -, -, JN⟩ := hN
  obtain ⟨l0, l1, l2, l3, l4, l5, l6, l7, l8, l9, l10, l11⟩ := JN.facts
  refine wpAny_ready (rs := [16]) (by kernel_rfl) (by simp) ?_
  refine AllReady.cons rfl (fun K hK => ?_) AllReady.nil
  go_simp
  refine hK _ _ ?_
  clear hK K
  refine wpAny_done (by kernel_rfl) ?_ _
  obtain ⟨_, r1, r2⟩ := put2 (w := wN) (g := w.heap.size + 1) (.int .i64 xk) (.int .u64 (xb : Int)) l8 l9
  replace r1 := Lib.hid r1
  replace r2 := Lib.hid r2
  replace JN := Lib.hid JN
  clear l0 l1 l2 l3 l4 l5 l6 l7 l8 l9 l10 l11
  go_wp2
  exact bodyPost_ret (v := .agg #[.int .i64 xk, .int .u64 (xb : Int)]) (by simp [results, Try.results54, go_sem, r1.out, r2.out]) rfl (.mk rfl (JN.out.below _ _))

set_option maxHeartbeats 8000000 in
set_option maxRecDepth 100000 in
theorem leaf_28 (E B : Option Addr) (ce cb : Nat) (cur : Int) (es : List Ev) (bs : List (List Int)) (b o : Nat) (vk : Int) (vb : Nat) (pos attr : Int) (w : World) (hn : NodeC w b o 28 vk vb pos attr) (hL : LookIn w E B es bs) (hp : placesP bs pos ≠ []) :
    Calls Try.prog 54 #[lookV E B es.length ce bs.length cb cur, .pointer (some ⟨b, o, none⟩)] w (VIs (sumP (attrsP es bs pos attr)) w) := by
  have J := LfJ.start (E := E) (B := B) (ne := es.length) (ce := ce) (nb := bs.length) (cb := cb) (cur := cur) hn
  obtain ⟨j0, j1, j2, j3, j4, j5, j6, j7, j8, j9, j10, j11⟩ := J.facts
  have hLu := hL.later J.drew.2.2.2
  have O := places_any E B es.length ce cb cur bs pos _ hLu.2.1 hLu.2.2.2.2.1
  have hpl := places_le hL pos
  have hle : (placesP bs pos).length ≤ 9223372036854775807 := by omega
  have h0 : 0 < (attrsP es bs pos attr).length := by unfold attrsP; rw [List.length_map]; exact List.length_pos_iff.2 hp
  have hvl : (attrsP es bs pos attr).length ≤ 9223372036854775807 := by unfold attrsP; rw [List.length_map]; exact hle
  have hpp : 0 < (placesP bs pos).length := List.length_pos_iff.2 hp
  have N := Lib.hid (fun (wz : World) (h : Below w.heap.size w wz) => attributes_any E B ce cb cur es bs pos attr wz (hL.later h).1 (hL.later h).2.1 hL.2.2.1 hL.2.2.2.1 hL.2.2.2.2.1 hpl)
  generalize attrsP es bs pos attr = vs at *
  generalize hps : placesP bs pos = ps at *
  have e1 : ((ps.length : Int) == 0) = false := by simp; exact fun h => by subst h; simp at hpp
  have F := Lib.hid (fun wz A (hR : RowV wz A vs.length vs) => sum_any A vs wz hR h0 hvl)
  generalize sumP vs = x at *
  obtain ⟨xk, xb⟩ := x
  replace O := Lib.hid O
  replace J := Lib.hid J
  clear hn hL hLu j4 j5 j8 j9 j10 j11 hp hps hpl
  go_enter Try.func54, Try.ntmps54
  go_wp2_with fail
  go_region_held3 (fun w' => w'.cell? ⟨w.heap.size, 0, none⟩ = some (.slice E es.length ce) ∧ w'.cell? ⟨w.heap.size, 1, none⟩ = some (.slice B bs.length cb) ∧ w'.cell? ⟨w.heap.size, 2, none⟩ = some (.int .i64 cur) ∧ w'.cell? ⟨b, o, none⟩ = some (.int .i64 28) ∧ w'.cell? ⟨b, o + 5, none⟩ = some (.int .i64 pos) ∧ w'.cell? ⟨b, o + 6, none⟩ = some (.int .i64 attr) ∧ LfJ w E B es.length ce bs.length cb cur b o 28 vk vb pos attr w') (first | exact ⟨j0, j1, j2, j3, j6, j7, J.out.drew⟩ | go_keep | exact keepL hb1 (by first | assumption | exact ⟨by assumption, by assumption, by assumption, by assumption, by assumption, by assumption, by assumption⟩)) (first | (go_at_call 80; refine O.out.mono ?_; rintro e w1 ⟨A, cap, rfl, hI, hb1⟩))
  rename_i hS
  obtain ⟨j0, j1, j2, j3, j6, j7, J⟩ := hS
  go_upto_region 10 with (fail)
  have KD := G.keepsD_true []
  have KC : G.KeepsC (fun w' => w'.cell? ⟨w.heap.size, 0, none⟩ = some (.slice E es.length ce) ∧ w'.cell? ⟨w.heap.size, 1, none⟩ = some (.slice B bs.length cb) ∧ w'.cell? ⟨w.heap.size, 2, none⟩ = some (.int .i64 cur) ∧ w'.cell? ⟨b, o, none⟩ = some (.int .i64 28) ∧ w'.cell? ⟨b, o + 5, none⟩ = some (.int .i64 pos) ∧ w'.cell? ⟨b, o + 6, none⟩ = some (.int .i64 attr) ∧ LfJ w E B es.length ce bs.length cb cur b o 28 vk vb pos attr w') := fun _ _ h hb => keepL hb h
  refine G.region_wordsG 16 (fun w' => w'.cell? ⟨w.heap.size, 0, none⟩ = some (.slice E es.length ce) ∧ w'.cell? ⟨w.heap.size, 1, none⟩ = some (.slice B bs.length cb) ∧ w'.cell? ⟨w.heap.size, 2, none⟩ = some (.int .i64 cur) ∧ w'.cell? ⟨b, o, none⟩ = some (.int .i64 28) ∧ w'.cell? ⟨b, o + 5, none⟩ = some (.int .i64 pos) ∧ w'.cell? ⟨b, o + 6, none⟩ = some (.int .i64 attr) ∧ LfJ w E B es.length ce bs.length cb cur b o 28 vk vb pos attr w') (fun _ _ => True) [G.isW (.pointer (some ⟨b, o, none⟩)), G.isW (.pointer (some ⟨b, o, none⟩)), G.isW (.pointer (some ⟨b, o, none⟩)), G.isW (.int .i64 28), G.isW (.func (.func 89) #[] #[]), G.isW (lookV E B es.length ce bs.length cb cur), G.isW (.pointer (some ⟨b, o, none⟩)), G.isW (.pointer (some ⟨b, o, none⟩)), G.isW (.pointer (some ⟨b, o + 5, none⟩)), G.isW (.int .i64 pos), G.isW (.pointer (some ⟨b, o, none⟩)), G.isW (.pointer (some ⟨b, o, none⟩)), G.isW (.pointer (some ⟨b, o + 6, none⟩)), G.isW (.int .i64 attr), RowW vs, G.isW (.agg #[.int .i64 xk, .int .u64 (xb : Int)])] (by kernel_rfl) (by repeat' (first | exact G.monoL_nil | exact G.is_mono _ | exact G.any_mono | exact roww_mono _ | exact clw_mono _ _ | refine G.monoL_cons ?_ ?_)) (by kernel_rfl) (by kernel_rfl) ⟨j0, j1, j2, j3, j6, j7, J.drew⟩ trivial ?_ ?_
  ·
    refine G.stepsL_cons (fun a u hc hdd hd hk hdep => ?_) ?_
    ·
      have d1 : (a.tmps[1]?).getD undef = (.pointer (some ⟨b, o, none⟩)) := hk 1 (by kernel_rfl)
      refine G.step_val KC KD hc hdd rfl (.pointer (some ⟨b, o, none⟩)) u (G.wanted_plain rfl) ?_ rfl (Below.refl _ _)
      first | (go_simp; done) | rfl | (simp [go_sem, *]; done)
    refine G.stepsL_cons (fun a u hc hdd hd hk hdep => ?_) ?_
    ·
      have d45 : (a.tmps[45]?).getD undef = (.pointer (some ⟨b, o, none⟩)) := hdep ⟨0, .data⟩ (by simp) rfl
      refine G.step_val KC KD hc hdd rfl (.pointer (some ⟨b, o, none⟩)) u (G.wanted_plain rfl) ?_ rfl (Below.refl _ _)
      first | (go_simp; done) | rfl | (simp [go_sem, *]; done)
    refine G.stepsL_cons (fun a u hc hdd hd hk hdep => ?_) ?_
    ·
      have d46 : (a.tmps[46]?).getD undef = (.pointer (some ⟨b, o, none⟩)) := hdep ⟨1, .data⟩ (by simp) rfl
      refine G.step_val KC KD hc hdd rfl (.pointer (some ⟨b, o, none⟩)) u (G.wanted_plain rfl) ?_ rfl (Below.refl _ _)
      first | (go_simp; done) | rfl | (simp [go_sem, *]; done)
    refine G.stepsL_cons (fun a u hc hdd hd hk hdep => ?_) ?_
    ·
      have d47 : (a.tmps[47]?).getD undef = (.pointer (some ⟨b, o, none⟩)) := hdep ⟨2, .data⟩ (by simp) rfl
      refine G.step_val KC KD hc hdd rfl (.int .i64 28) u (G.wanted_plain rfl) ?_ rfl (Below.refl _ _)
      first | (go_simp; done) | rfl | (simp [go_sem, *]; done)
    refine G.stepsL_cons (fun a u hc hdd hd hk hdep => ?_) ?_
    ·
      have d48 : (a.tmps[48]?).getD undef = (.int .i64 28) := hdep ⟨3, .data⟩ (by simp) rfl
      refine G.step_call KC KD hc hdd rfl 81 #[.int .i64 28] (G.wanted_plain rfl) (by first | (go_simp; done) | rfl) ?_
      exact (agg_28 u).mono (by rintro e w' ⟨rfl, rfl⟩; exact ⟨_, rfl, rfl, Below.refl _ _⟩)
    refine G.stepsL_cons (fun a u hc hdd hd hk hdep => ?_) ?_
    ·
      have d2 : (a.tmps[2]?).getD undef = (.pointer (some ⟨w.heap.size, 0, none⟩)) := hk 2 (by kernel_rfl)
      refine G.step_val KC KD hc hdd rfl (lookV E B es.length ce bs.length cb cur) u (G.wanted_plain rfl) ?_ rfl (Below.refl _ _)
      first | (go_simp; done) | rfl | (simp [go_sem, *]; done)
    refine G.stepsL_cons (fun a u hc hdd hd hk hdep => ?_) ?_
    ·
      have d1 : (a.tmps[1]?).getD undef = (.pointer (some ⟨b, o, none⟩)) := hk 1 (by kernel_rfl)
      refine G.step_val KC KD hc hdd rfl (.pointer (some ⟨b, o, none⟩)) u (G.wanted_plain rfl) ?_ rfl (Below.refl _ _)
      first | (go_simp; done) | rfl | (simp [go_sem, *]; done)
    refine G.stepsL_cons (fun a u hc hdd hd hk hdep => ?_) ?_
    ·
      have d51 : (a.tmps[51]?).getD undef = (.pointer (some ⟨b, o, none⟩)) := hdep ⟨6, .data⟩ (by simp) rfl
      refine G.step_val KC KD hc hdd rfl (.pointer (some ⟨b, o, none⟩)) u (G.wanted_plain rfl) ?_ rfl (Below.refl _ _)
      first | (go_simp; done) | rfl | (simp [go_sem, *]; done)
    refine G.stepsL_cons (fun a u hc hdd hd hk hdep => ?_) ?_
    ·
      have d52 : (a.tmps[52]?).getD undef = (.pointer (some ⟨b, o, none⟩)) := hdep ⟨7, .data⟩ (by simp) rfl
      refine G.step_val KC KD hc hdd rfl (.pointer (some ⟨b, o + 5, none⟩)) u (G.wanted_plain rfl) ?_ rfl (Below.refl _ _)
      first | (go_simp; done) | rfl | (simp [go_sem, *]; done)
    refine G.stepsL_cons (fun a u hc hdd hd hk hdep => ?_) ?_
    ·
      have d53 : (a.tmps[53]?).getD undef = (.pointer (some ⟨b, o + 5, none⟩)) := hdep ⟨8, .data⟩ (by simp) rfl
      refine G.step_val KC KD hc hdd rfl (.int .i64 pos) u (G.wanted_plain rfl) ?_ rfl (Below.refl _ _)
      first | (go_simp; done) | rfl | (simp [go_sem, *]; done)
    refine G.stepsL_cons (fun a u hc hdd hd hk hdep => ?_) ?_
    ·
      have d1 : (a.tmps[1]?).getD undef = (.pointer (some ⟨b, o, none⟩)) := hk 1 (by kernel_rfl)
      refine G.step_val KC KD hc hdd rfl (.pointer (some ⟨b, o, none⟩)) u (G.wanted_plain rfl) ?_ rfl (Below.refl _ _)
      first | (go_simp; done) | rfl | (simp [go_sem, *]; done)
    refine G.stepsL_cons (fun a u hc hdd hd hk hdep => ?_) ?_
    ·
      have d55 : (a.tmps[55]?).getD undef = (.pointer (some ⟨b, o, none⟩)) := hdep ⟨10, .data⟩ (by simp) rfl
      refine G.step_val KC KD hc hdd rfl (.pointer (some ⟨b, o, none⟩)) u (G.wanted_plain rfl) ?_ rfl (Below.refl _ _)
      first | (go_simp; done) | rfl | (simp [go_sem, *]; done)
    refine G.stepsL_cons (fun a u hc hdd hd hk hdep => ?_) ?_
    ·
      have d56 : (a.tmps[56]?).getD undef = (.pointer (some ⟨b, o, none⟩)) := hdep ⟨11, .data⟩ (by simp) rfl
      refine G.step_val KC KD hc hdd rfl (.pointer (some ⟨b, o + 6, none⟩)) u (G.wanted_plain rfl) ?_ rfl (Below.refl _ _)
      first | (go_simp; done) | rfl | (simp [go_sem, *]; done)
    refine G.stepsL_cons (fun a u hc hdd hd hk hdep => ?_) ?_
    ·
      have d57 : (a.tmps[57]?).getD undef = (.pointer (some ⟨b, o + 6, none⟩)) := hdep ⟨12, .data⟩ (by simp) rfl
      refine G.step_val KC KD hc hdd rfl (.int .i64 attr) u (G.wanted_plain rfl) ?_ rfl (Below.refl _ _)
      first | (go_simp; done) | rfl | (simp [go_sem, *]; done)
    refine G.stepsL_cons (fun a u hc hdd hd hk hdep => ?_) ?_
    ·
      have d50 : (a.tmps[50]?).getD undef = (lookV E B es.length ce bs.length cb cur) := hdep ⟨5, .data⟩ (by simp) rfl
      have d54 : (a.tmps[54]?).getD undef = (.int .i64 pos) := hdep ⟨9, .data⟩ (by simp) rfl
      have d58 : (a.tmps[58]?).getD undef = (.int .i64 attr) := hdep ⟨13, .data⟩ (by simp) rfl
      refine G.step_call KC KD hc hdd rfl 82 #[lookV E B es.length ce bs.length cb cur, .int .i64 pos, .int .i64 attr] (G.wanted_plain rfl) (by first | (go_simp; done) | rfl) ?_
      exact (N.out u hc.2.2.2.2.2.2.2.2.2).mono (by rintro e w' ⟨A, rfl, hR, hb⟩; exact ⟨_, rfl, ⟨A, rfl, hR⟩, hb⟩)
    refine G.stepsL_cons (fun a u hc hdd hd hk hdep => ?_) ?_
    ·
      have d49 : (a.tmps[49]?).getD undef = (.func (.func 89) #[] #[]) := hdep ⟨4, .data⟩ (by simp) rfl
      have d59' : (RowW vs) ((a.tmps[59]?).getD undef) u := hdep ⟨14, .data⟩ (by simp) rfl
      obtain ⟨A, d59, hR⟩ := d59'
      refine G.step_call KC KD hc hdd rfl 89 #[.slice A vs.length vs.length] (G.wanted_plain rfl) (by first | (go_simp; done) | rfl) ?_
      exact (F.out u A hR).mono (by rintro e w' ⟨rfl, hb⟩; exact ⟨_, rfl, rfl, hb⟩)
    exact G.stepsL_nil
  intro vs' wN hN _ hh
  have eL : vs' 15 = .agg #[.int .i64 xk, .int .u64 (xb : Int)] := by
    obtain ⟨-, -, -, -, -, -, -, -, -, -, -, -, -, -, -, eX, -⟩ := hh
    exact eX
  clear hh j0 j1 j2 j3 j6 j7 J
  set_option maxRecDepth 100000 in simp only [List.take_succ_cons, List.take_zero, putAll, Act.put, List.setIfInBounds_toArray, List.set_cons_zero, List.set_cons_succ, Nat.reduceAdd, eL]
  obtain ⟨-, -, -, -, -, -, JN⟩ := hN
  obtain ⟨l0, l1, l2, l3, l4, l5, l6, l7, l8, l9, l10, l11⟩ := JN.facts
  refine wpAny_ready (rs := [16]) (by kernel_rfl) (by simp) ?_
  refine AllReady.cons rfl (fun K hK => ?_) AllReady.nil
  go_simp
  refine hK _ _ ?_
  clear hK K
  refine wpAny_done (by kernel_rfl) ?_ _
  obtain ⟨_, r1, r2⟩ := put2 (w := wN) (g := w.heap.size + 1) (.int .i64 xk) (.int .u64 (xb : Int)) l8 l9
  replace r1 := Lib.hid r1
  replace r2 := Lib.hid r2
  replace JN := Lib.hid JN
  clear l0 l1 l2 l3 l4 l5 l6 l7 l8 l9 l10 l11
  go_wp2
  exact bodyPost_ret (v := .agg #[.int .i64 xk, .int .u64 (xb : Int)]) (by simp [results, Try.results54, go_sem, r1.out, r2.out]) rfl (.mk rfl (JN.out.below _ _))

set_option maxHeartbeats 8000000 in
set_option maxRecDepth 100000 in
theorem leaf_31 (E B : Option Addr) (ce cb : Nat) (cur : Int) (es : List Ev) (bs : List (List Int)) (b o : Nat) (vk : Int) (vb : Nat) (pos attr : Int) (w : World) (hn : NodeC w b o 31 vk vb pos attr) (hL : LookIn w E B es bs) (hp : placesP bs pos ≠ []) :
    Calls Try.prog 54 #[lookV E B es.length ce bs.length cb cur, .pointer (some ⟨b, o, none⟩)] w (VIs (meanP (attrsP es bs pos attr)) w) := by
  have J := LfJ.start (E := E) (B := B) (ne := es.length) (ce := ce) (nb := bs.length) (cb := cb) (cur := cur) hn
  obtain ⟨j0, j1, j2, j3, j4, j5, j6, j7, j8, j9, j10, j11⟩ := J.facts
  have hLu := hL.later J.drew.2.2.2
  have O := places_any E B es.length ce cb cur bs pos _ hLu.2.1 hLu.2.2.2.2.1
  have hpl := places_le hL pos
  have hle : (placesP bs pos).length ≤ 9223372036854775807 := by omega
  have h0 : 0 < (attrsP es bs pos attr).length := by unfold attrsP; rw [List.length_map]; exact List.length_pos_iff.2 hp
  have hvl : (attrsP es bs pos attr).length ≤ 9223372036854775807 := by unfold attrsP; rw [List.length_map]; exact hle
  have hpp : 0 < (placesP bs pos).length := List.length_pos_iff.2 hp
  have N := Lib.hid (fun (wz : World) (h : Below w.heap.size w wz) => attributes_any E B ce cb cur es bs pos attr wz (hL.later h).1 (hL.later h).2.1 hL.2.2.1 hL.2.2.2.1 hL.2.2.2.2.1 hpl)
  generalize attrsP es bs pos attr = vs at *
  generalize hps : placesP bs pos = ps at *
  have e1 : ((ps.length : Int) == 0) = false := by simp; exact fun h => by subst h; simp at hpp
  have F := Lib.hid (fun wz A (hR : RowV wz A vs.length vs) => mean_any A vs wz hR h0 hvl)
  generalize meanP vs = x at *
  obtain ⟨xk, xb⟩ := x
  replace O := Lib.hid O
  replace J := Lib.hid J
  clear hn hL hLu j4 j5 j8 j9 j10 j11 hp hps hpl
  go_enter Try.func54, Try.ntmps54
  go_wp2_with fail
  go_region_held3 (fun w' => w'.cell? ⟨w.heap.size, 0, none⟩ = some (.slice E es.length ce) ∧ w'.cell? ⟨w.heap.size, 1, none⟩ = some (.slice B bs.length cb) ∧ w'.cell? ⟨w.heap.size, 2, none⟩ = some (.int .i64 cur) ∧ w'.cell? ⟨b, o, none⟩ = some (.int .i64 31) ∧ w'.cell? ⟨b, o + 5, none⟩ = some (.int .i64 pos) ∧ w'.cell? ⟨b, o + 6, none⟩ = some (.int .i64 attr) ∧ LfJ w E B es.length ce bs.length cb cur b o 31 vk vb pos attr w') (first | exact ⟨j0, j1, j2, j3, j6, j7, J.out.drew⟩ | go_keep | exact keepL hb1 (by first | assumption | exact ⟨by assumption, by assumption, by assumption, by assumption, by assumption, by assumption, by assumption⟩)) (first | (go_at_call 80; refine O.out.mono ?_; rintro e w1 ⟨A, cap, rfl, hI, hb1⟩))
  rename_i hS
  obtain ⟨j0, j1, j2, j3, j6, j7, J⟩ := hS
  go_upto_region 10 with (fail)
  have KD := G.keepsD_true []
  have KC : G.KeepsC (fun w' => w'.cell? ⟨w.heap.size, 0, none⟩ = some (.slice E es.length ce) ∧ w'.cell? ⟨w.heap.size, 1, none⟩ = some (.slice B bs.length cb) ∧ w'.cell? ⟨w.heap.size, 2, none⟩ = some (.int .i64 cur) ∧ w'.cell? ⟨b, o, none⟩ = some (.int .i64 31) ∧ w'.cell? ⟨b, o + 5, none⟩ = some (.int .i64 pos) ∧ w'.cell? ⟨b, o + 6, none⟩ = some (.int .i64 attr) ∧ LfJ w E B es.length ce bs.length cb cur b o 31 vk vb pos attr w') := fun _ _ h hb => keepL hb h
  refine G.region_wordsG 16 (fun w' => w'.cell? ⟨w.heap.size, 0, none⟩ = some (.slice E es.length ce) ∧ w'.cell? ⟨w.heap.size, 1, none⟩ = some (.slice B bs.length cb) ∧ w'.cell? ⟨w.heap.size, 2, none⟩ = some (.int .i64 cur) ∧ w'.cell? ⟨b, o, none⟩ = some (.int .i64 31) ∧ w'.cell? ⟨b, o + 5, none⟩ = some (.int .i64 pos) ∧ w'.cell? ⟨b, o + 6, none⟩ = some (.int .i64 attr) ∧ LfJ w E B es.length ce bs.length cb cur b o 31 vk vb pos attr w') (fun _ _ => True) [G.isW (.pointer (some ⟨b, o, none⟩)), G.isW (.pointer (some ⟨b, o, none⟩)), G.isW (.pointer (some ⟨b, o, none⟩)), G.isW (.int .i64 31), G.isW (.func (.func 93) #[] #[]), G.isW (lookV E B es.length ce bs.length cb cur), G.isW (.pointer (some ⟨b, o, none⟩)), G.isW (.pointer (some ⟨b, o, none⟩)), G.isW (.pointer (some ⟨b, o + 5, none⟩)), G.isW (.int .i64 pos), G.isW (.pointer (some ⟨b, o, none⟩)), G.isW (.pointer (some ⟨b, o, none⟩)), G.isW (.pointer (some ⟨b, o + 6, none⟩)), G.isW (.int .i64 attr), RowW vs, G.isW (.agg #[.int .i64 xk, .int .u64 (xb : Int)])] (by kernel_rfl) (by repeat' (first | exact G.monoL_nil | exact G.is_mono _ | exact G.any_mono | exact roww_mono _ | exact clw_mono _ _ | refine G.monoL_cons ?_ ?_)) (by kernel_rfl) (by kernel_rfl) ⟨j0, j1, j2, j3, j6, j7, J.drew⟩ trivial ?_ ?_
  ·
    refine G.stepsL_cons (fun a u hc hdd hd hk hdep => ?_) ?_
    ·
      have d1 : (a.tmps[1]?).getD undef = (.pointer (some ⟨b, o, none⟩)) := hk 1 (by kernel_rfl)
      refine G.step_val KC KD hc hdd rfl (.pointer (some ⟨b, o, none⟩)) u (G.wanted_plain rfl) ?_ rfl (Below.refl _ _)
      first | (go_simp; done) | rfl | (simp [go_sem, *]; done)
    refine G.stepsL_cons (fun a u hc hdd hd hk hdep => ?_) ?_
    ·
      have d45 : (a.tmps[45]?).getD undef = (.pointer (some ⟨b, o, none⟩)) := hdep ⟨0, .data⟩ (by simp) rfl
      refine G.step_val KC KD hc hdd rfl (.pointer (some ⟨b, o, none⟩)) u (G.wanted_plain rfl) ?_ rfl (Below.refl _ _)
      first | (go_simp; done) | rfl | (simp [go_sem, *]; done)
    refine G.stepsL_cons (fun a u hc hdd hd hk hdep => ?_) ?_
    ·
      have d46 : (a.tmps[46]?).getD undef = (.pointer (some ⟨b, o, none⟩)) := hdep ⟨1, .data⟩ (by simp) rfl
      refine G.step_val KC KD hc hdd rfl (.pointer (some ⟨b, o, none⟩)) u (G.wanted_plain rfl) ?_ rfl (Below.refl _ _)
      first | (go_simp; done) | rfl | (simp [go_sem, *]; done)
    refine G.stepsL_cons (fun a u hc hdd hd hk hdep => ?_) ?_
    ·
      have d47 : (a.tmps[47]?).getD undef = (.pointer (some ⟨b, o, none⟩)) := hdep ⟨2, .data⟩ (by simp) rfl
      refine G.step_val KC KD hc hdd rfl (.int .i64 31) u (G.wanted_plain rfl) ?_ rfl (Below.refl _ _)
      first | (go_simp; done) | rfl | (simp [go_sem, *]; done)
    refine G.stepsL_cons (fun a u hc hdd hd hk hdep => ?_) ?_
    ·
      have d48 : (a.tmps[48]?).getD undef = (.int .i64 31) := hdep ⟨3, .data⟩ (by simp) rfl
      refine G.step_call KC KD hc hdd rfl 81 #[.int .i64 31] (G.wanted_plain rfl) (by first | (go_simp; done) | rfl) ?_
      exact (agg_31 u).mono (by rintro e w' ⟨rfl, rfl⟩; exact ⟨_, rfl, rfl, Below.refl _ _⟩)
    refine G.stepsL_cons (fun a u hc hdd hd hk hdep => ?_) ?_
    ·
      have d2 : (a.tmps[2]?).getD undef = (.pointer (some ⟨w.heap.size, 0, none⟩)) := hk 2 (by kernel_rfl)
      refine G.step_val KC KD hc hdd rfl (lookV E B es.length ce bs.length cb cur) u (G.wanted_plain rfl) ?_ rfl (Below.refl _ _)
      first | (go_simp; done) | rfl | (simp [go_sem, *]; done)
    refine G.stepsL_cons (fun a u hc hdd hd hk hdep => ?_) ?_
    ·
      have d1 : (a.tmps[1]?).getD undef = (.pointer (some ⟨b, o, none⟩)) := hk 1 (by kernel_rfl)
      refine G.step_val KC KD hc hdd rfl (.pointer (some ⟨b, o, none⟩)) u (G.wanted_plain rfl) ?_ rfl (Below.refl _ _)
      first | (go_simp; done) | rfl | (simp [go_sem, *]; done)
    refine G.stepsL_cons (fun a u hc hdd hd hk hdep => ?_) ?_
    ·
      have d51 : (a.tmps[51]?).getD undef = (.pointer (some ⟨b, o, none⟩)) := hdep ⟨6, .data⟩ (by simp) rfl
      refine G.step_val KC KD hc hdd rfl (.pointer (some ⟨b, o, none⟩)) u (G.wanted_plain rfl) ?_ rfl (Below.refl _ _)
      first | (go_simp; done) | rfl | (simp [go_sem, *]; done)
    refine G.stepsL_cons (fun a u hc hdd hd hk hdep => ?_) ?_
    ·
      have d52 : (a.tmps[52]?).getD undef = (.pointer (some ⟨b, o, none⟩)) := hdep ⟨7, .data⟩ (by simp) rfl
      refine G.step_val KC KD hc hdd rfl (.pointer (some ⟨b, o + 5, none⟩)) u (G.wanted_plain rfl) ?_ rfl (Below.refl _ _)
      first | (go_simp; done) | rfl | (simp [go_sem, *]; done)
    refine G.stepsL_cons (fun a u hc hdd hd hk hdep => ?_) ?_
    ·
      have d53 : (a.tmps[53]?).getD undef = (.pointer (some ⟨b, o + 5, none⟩)) := hdep ⟨8, .data⟩ (by simp) rfl
      refine G.step_val KC KD hc hdd rfl (.int .i64 pos) u (G.wanted_plain rfl) ?_ rfl (Below.refl _ _)
      first | (go_simp; done) | rfl | (simp [go_sem, *]; done)
    refine G.stepsL_cons (fun a u hc hdd hd hk hdep => ?_) ?_
    ·
      have d1 : (a.tmps[1]?).getD undef = (.pointer (some ⟨b, o, none⟩)) := hk 1 (by kernel_rfl)
      refine G.step_val KC KD hc hdd rfl (.pointer (some ⟨b, o, none⟩)) u (G.wanted_plain rfl) ?_ rfl (Below.refl _ _)
      first | (go_simp; done) | rfl | (simp [go_sem, *]; done)
    refine G.stepsL_cons (fun a u hc hdd hd hk hdep => ?_) ?_
    ·
      have d55 : (a.tmps[55]?).getD undef = (.pointer (some ⟨b, o, none⟩)) := hdep ⟨10, .data⟩ (by simp) rfl
      refine G.step_val KC KD hc hdd rfl (.pointer (some ⟨b, o, none⟩)) u (G.wanted_plain rfl) ?_ rfl (Below.refl _ _)
      first | (go_simp; done) | rfl | (simp [go_sem, *]; done)
    refine G.stepsL_cons (fun a u hc hdd hd hk hdep => ?_) ?_
    ·
      have d56 : (a.tmps[56]?).getD undef = (.pointer (some ⟨b, o, none⟩)) := hdep ⟨11, .data⟩ (by simp) rfl
      refine G.step_val KC KD hc hdd rfl (.pointer (some ⟨b, o + 6, none⟩)) u (G.wanted_plain rfl) ?_ rfl (Below.refl _ _)
      first | (go_simp; done) | rfl | (simp [go_sem, *]; done)
    refine G.stepsL_cons (fun a u hc hdd hd hk hdep => ?_) ?_
    ·
      have d57 : (a.tmps[57]?).getD undef = (.pointer (some ⟨b, o + 6, none⟩)) := hdep ⟨12, .data⟩ (by simp) rfl
      refine G.step_val KC KD hc hdd rfl (.int .i64 attr) u (G.wanted_plain rfl) ?_ rfl (Below.refl _ _)
      first | (go_simp; done) | rfl | (simp [go_sem, *]; done)
    refine G.stepsL_cons (fun a u hc hdd hd hk hdep => ?_) ?_
    ·
      have d50 : (a.tmps[50]?).getD undef = (lookV E B es.length ce bs.length cb cur) := hdep ⟨5, .data⟩ (by simp) rfl
      have d54 : (a.tmps[54]?).getD undef = (.int .i64 pos) := hdep ⟨9, .data⟩ (by simp) rfl
      have d58 : (a.tmps[58]?).getD undef = (.int .i64 attr) := hdep ⟨13, .data⟩ (by simp) rfl
      refine G.step_call KC KD hc hdd rfl 82 #[lookV E B es.length ce bs.length cb cur, .int .i64 pos, .int .i64 attr] (G.wanted_plain rfl) (by first | (go_simp; done) | rfl) ?_
      exact (N.out u hc.2.2.2.2.2.2.2.2.2).mono (by rintro e w' ⟨A, rfl, hR, hb⟩; exact ⟨_, rfl, ⟨A, rfl, hR⟩, hb⟩)
    refine G.stepsL_cons (fun a u hc hdd hd hk hdep => ?_) ?_
    ·
      have d49 : (a.tmps[49]?).getD undef = (.func (.func 93) #[] #[]) := hdep ⟨4, .data⟩ (by simp) rfl
      have d59' : (RowW vs) ((a.tmps[59]?).getD undef) u := hdep ⟨14, .data⟩ (by simp) rfl
      obtain ⟨A, d59, hR⟩ := d59'
      refine G.step_call KC KD hc hdd rfl 93 #[.slice A vs.length vs.length] (G.wanted_plain rfl) (by first | (go_simp; done) | rfl) ?_
      exact (F.out u A hR).mono (by rintro e w' ⟨rfl, hb⟩; exact ⟨_, rfl, rfl, hb⟩)
    exact G.stepsL_nil
  intro vs' wN hN _ hh
  have eL : vs' 15 = .agg #[.int .i64 xk, .int .u64 (xb : Int)] := by
    obtain ⟨-, -, -, -, -, -, -, -, -, -, -, -, -, -, -, eX, -⟩ := hh
    exact eX
  clear hh j0 j1 j2 j3 j6 j7 J
  set_option maxRecDepth 100000 in simp only [List.take_succ_cons, List.take_zero, putAll, Act.put, List.setIfInBounds_toArray, List.set_cons_zero, List.set_cons_succ, Nat.reduceAdd, eL]
  obtain ⟨-, -, -, -, -, -, JN⟩ := hN
  obtain ⟨l0, l1, l2, l3, l4, l5, l6, l7, l8, l9, l10, l11⟩ := JN.facts
  refine wpAny_ready (rs := [16]) (by kernel_rfl) (by simp) ?_
  refine AllReady.cons rfl (fun K hK => ?_) AllReady.nil
  go_simp
  refine hK _ _ ?_
  clear hK K
  refine wpAny_done (by kernel_rfl) ?_ _
  obtain ⟨_, r1, r2⟩ := put2 (w := wN) (g := w.heap.size + 1) (.int .i64 xk) (.int .u64 (xb : Int)) l8 l9
  replace r1 := Lib.hid r1
  replace r2 := Lib.hid r2
  replace JN := Lib.hid JN
  clear l0 l1 l2 l3 l4 l5 l6 l7 l8 l9 l10 l11
  go_wp2
  exact bodyPost_ret (v := .agg #[.int .i64 xk, .int .u64 (xb : Int)]) (by simp [results, Try.results54, go_sem, r1.out, r2.out]) rfl (.mk rfl (JN.out.below _ _))

set_option maxHeartbeats 8000000 in
set_option maxRecDepth 100000 in
theorem leaf_29 (E B : Option Addr) (ce cb : Nat) (cur : Int) (es : List Ev) (bs : List (List Int)) (b o : Nat) (vk : Int) (vb : Nat) (pos attr : Int) (w : World) (hn : NodeC w b o 29 vk vb pos attr) (hL : LookIn w E B es bs) (hp : placesP bs pos ≠ []) :
    Calls Try.prog 54 #[lookV E B es.length ce bs.length cb cur, .pointer (some ⟨b, o, none⟩)] w (VIs (extP false (attrsP es bs pos attr)) w) := by
  have J := LfJ.start (E := E) (B := B) (ne := es.length) (ce := ce) (nb := bs.length) (cb := cb) (cur := cur) hn
  obtain ⟨j0, j1, j2, j3, j4, j5, j6, j7, j8, j9, j10, j11⟩ := J.facts
  have hLu := hL.later J.drew.2.2.2
  have O := places_any E B es.length ce cb cur bs pos _ hLu.2.1 hLu.2.2.2.2.1
  have hpl := places_le hL pos
  have hle : (placesP bs pos).length ≤ 9223372036854775807 := by omega
  have h0 : 0 < (attrsP es bs pos attr).length := by unfold attrsP; rw [List.length_map]; exact List.length_pos_iff.2 hp
  have hvl : (attrsP es bs pos attr).length ≤ 9223372036854775807 := by unfold attrsP; rw [List.length_map]; exact hle
  have hpp : 0 < (placesP bs pos).length := List.length_pos_iff.2 hp
  have N := Lib.hid (fun (wz : World) (h : Below w.heap.size w wz) => attributes_any E B ce cb cur es bs pos attr wz (hL.later h).1 (hL.later h).2.1 hL.2.2.1 hL.2.2.2.1 hL.2.2.2.2.1 hpl)
  generalize attrsP es bs pos attr = vs at *
  generalize hps : placesP bs pos = ps at *
  have e1 : ((ps.length : Int) == 0) = false := by simp; exact fun h => by subst h; simp at hpp
  have F := Lib.hid (fun wz A (hR : RowV wz A vs.length vs) sb pb h1 h2 => ext_false A sb pb vs wz hR h0 hvl h1 h2)
  generalize extP false vs = x at *
  obtain ⟨xk, xb⟩ := x
  replace O := Lib.hid O
  replace J := Lib.hid J
  clear hn hL hLu j4 j5 j8 j9 j10 j11 hp hps hpl
  go_enter Try.func54, Try.ntmps54
  go_wp2_with fail
  go_region_held3 (fun w' => w'.cell? ⟨w.heap.size, 0, none⟩ = some (.slice E es.length ce) ∧ w'.cell? ⟨w.heap.size, 1, none⟩ = some (.slice B bs.length cb) ∧ w'.cell? ⟨w.heap.size, 2, none⟩ = some (.int .i64 cur) ∧ w'.cell? ⟨b, o, none⟩ = some (.int .i64 29) ∧ w'.cell? ⟨b, o + 5, none⟩ = some (.int .i64 pos) ∧ w'.cell? ⟨b, o + 6, none⟩ = some (.int .i64 attr) ∧ LfJ w E B es.length ce bs.length cb cur b o 29 vk vb pos attr w') (first | exact ⟨j0, j1, j2, j3, j6, j7, J.out.drew⟩ | go_keep | exact keepL hb1 (by first | assumption | exact ⟨by assumption, by assumption, by assumption, by assumption, by assumption, by assumption, by assumption⟩)) (first | (go_at_call 80; refine O.out.mono ?_; rintro e w1 ⟨A, cap, rfl, hI, hb1⟩))
  rename_i hS
  obtain ⟨j0, j1, j2, j3, j6, j7, J⟩ := hS
  go_upto_region 10 with (fail)
  have KD := G.keepsD_true []
  have KC : G.KeepsC (fun w' => w'.cell? ⟨w.heap.size, 0, none⟩ = some (.slice E es.length ce) ∧ w'.cell? ⟨w.heap.size, 1, none⟩ = some (.slice B bs.length cb) ∧ w'.cell? ⟨w.heap.size, 2, none⟩ = some (.int .i64 cur) ∧ w'.cell? ⟨b, o, none⟩ = some (.int .i64 29) ∧ w'.cell? ⟨b, o + 5, none⟩ = some (.int .i64 pos) ∧ w'.cell? ⟨b, o + 6, none⟩ = some (.int .i64 attr) ∧ LfJ w E B es.length ce bs.length cb cur b o 29 vk vb pos attr w') := fun _ _ h hb => keepL hb h
  refine G.region_wordsG 16 (fun w' => w'.cell? ⟨w.heap.size, 0, none⟩ = some (.slice E es.length ce) ∧ w'.cell? ⟨w.heap.size, 1, none⟩ = some (.slice B bs.length cb) ∧ w'.cell? ⟨w.heap.size, 2, none⟩ = some (.int .i64 cur) ∧ w'.cell? ⟨b, o, none⟩ = some (.int .i64 29) ∧ w'.cell? ⟨b, o + 5, none⟩ = some (.int .i64 pos) ∧ w'.cell? ⟨b, o + 6, none⟩ = some (.int .i64 attr) ∧ LfJ w E B es.length ce bs.length cb cur b o 29 vk vb pos attr w') (fun _ _ => True) [G.isW (.pointer (some ⟨b, o, none⟩)), G.isW (.pointer (some ⟨b, o, none⟩)), G.isW (.pointer (some ⟨b, o, none⟩)), G.isW (.int .i64 29), ClW (-1) (.func (.func 91) #[] #[]), G.isW (lookV E B es.length ce bs.length cb cur), G.isW (.pointer (some ⟨b, o, none⟩)), G.isW (.pointer (some ⟨b, o, none⟩)), G.isW (.pointer (some ⟨b, o + 5, none⟩)), G.isW (.int .i64 pos), G.isW (.pointer (some ⟨b, o, none⟩)), G.isW (.pointer (some ⟨b, o, none⟩)), G.isW (.pointer (some ⟨b, o + 6, none⟩)), G.isW (.int .i64 attr), RowW vs, G.isW (.agg #[.int .i64 xk, .int .u64 (xb : Int)])] (by kernel_rfl) (by repeat' (first | exact G.monoL_nil | exact G.is_mono _ | exact G.any_mono | exact roww_mono _ | exact clw_mono _ _ | refine G.monoL_cons ?_ ?_)) (by kernel_rfl) (by kernel_rfl) ⟨j0, j1, j2, j3, j6, j7, J.drew⟩ trivial ?_ ?_
  ·
    refine G.stepsL_cons (fun a u hc hdd hd hk hdep => ?_) ?_
    ·
      have d1 : (a.tmps[1]?).getD undef = (.pointer (some ⟨b, o, none⟩)) := hk 1 (by kernel_rfl)
      refine G.step_val KC KD hc hdd rfl (.pointer (some ⟨b, o, none⟩)) u (G.wanted_plain rfl) ?_ rfl (Below.refl _ _)
      first | (go_simp; done) | rfl | (simp [go_sem, *]; done)
    refine G.stepsL_cons (fun a u hc hdd hd hk hdep => ?_) ?_
    ·
      have d45 : (a.tmps[45]?).getD undef = (.pointer (some ⟨b, o, none⟩)) := hdep ⟨0, .data⟩ (by simp) rfl
      refine G.step_val KC KD hc hdd rfl (.pointer (some ⟨b, o, none⟩)) u (G.wanted_plain rfl) ?_ rfl (Below.refl _ _)
      first | (go_simp; done) | rfl | (simp [go_sem, *]; done)
    refine G.stepsL_cons (fun a u hc hdd hd hk hdep => ?_) ?_
    ·
      have d46 : (a.tmps[46]?).getD undef = (.pointer (some ⟨b, o, none⟩)) := hdep ⟨1, .data⟩ (by simp) rfl
      refine G.step_val KC KD hc hdd rfl (.pointer (some ⟨b, o, none⟩)) u (G.wanted_plain rfl) ?_ rfl (Below.refl _ _)
      first | (go_simp; done) | rfl | (simp [go_sem, *]; done)
    refine G.stepsL_cons (fun a u hc hdd hd hk hdep => ?_) ?_
    ·
      have d47 : (a.tmps[47]?).getD undef = (.pointer (some ⟨b, o, none⟩)) := hdep ⟨2, .data⟩ (by simp) rfl
      refine G.step_val KC KD hc hdd rfl (.int .i64 29) u (G.wanted_plain rfl) ?_ rfl (Below.refl _ _)
      first | (go_simp; done) | rfl | (simp [go_sem, *]; done)
    refine G.stepsL_cons (fun a u hc hdd hd hk hdep => ?_) ?_
    ·
      have d48 : (a.tmps[48]?).getD undef = (.int .i64 29) := hdep ⟨3, .data⟩ (by simp) rfl
      refine G.step_call KC KD hc hdd rfl 81 #[.int .i64 29] (G.wanted_plain rfl) (by first | (go_simp; done) | rfl) ?_
      exact (agg_29 u).mono (by rintro e w' ⟨rfl, rfl⟩; exact ⟨_, rfl, ⟨_, _, rfl, by simp [go_sem], by simp [go_sem]⟩, m2 _ _ _⟩)
    refine G.stepsL_cons (fun a u hc hdd hd hk hdep => ?_) ?_
    ·
      have d2 : (a.tmps[2]?).getD undef = (.pointer (some ⟨w.heap.size, 0, none⟩)) := hk 2 (by kernel_rfl)
      refine G.step_val KC KD hc hdd rfl (lookV E B es.length ce bs.length cb cur) u (G.wanted_plain rfl) ?_ rfl (Below.refl _ _)
      first | (go_simp; done) | rfl | (simp [go_sem, *]; done)
    refine G.stepsL_cons (fun a u hc hdd hd hk hdep => ?_) ?_
    ·
      have d1 : (a.tmps[1]?).getD undef = (.pointer (some ⟨b, o, none⟩)) := hk 1 (by kernel_rfl)
      refine G.step_val KC KD hc hdd rfl (.pointer (some ⟨b, o, none⟩)) u (G.wanted_plain rfl) ?_ rfl (Below.refl _ _)
      first | (go_simp; done) | rfl | (simp [go_sem, *]; done)
    refine G.stepsL_cons (fun a u hc hdd hd hk hdep => ?_) ?_
    ·
      have d51 : (a.tmps[51]?).getD undef = (.pointer (some ⟨b, o, none⟩)) := hdep ⟨6, .data⟩ (by simp) rfl
      refine G.step_val KC KD hc hdd rfl (.pointer (some ⟨b, o, none⟩)) u (G.wanted_plain rfl) ?_ rfl (Below.refl _ _)
      first | (go_simp; done) | rfl | (simp [go_sem, *]; done)
    refine G.stepsL_cons (fun a u hc hdd hd hk hdep => ?_) ?_
    ·
      have d52 : (a.tmps[52]?).getD undef = (.pointer (some ⟨b, o, none⟩)) := hdep ⟨7, .data⟩ (by simp) rfl
      refine G.step_val KC KD hc hdd rfl (.pointer (some ⟨b, o + 5, none⟩)) u (G.wanted_plain rfl) ?_ rfl (Below.refl _ _)
      first | (go_simp; done) | rfl | (simp [go_sem, *]; done)
    refine G.stepsL_cons (fun a u hc hdd hd hk hdep => ?_) ?_
    ·
      have d53 : (a.tmps[53]?).getD undef = (.pointer (some ⟨b, o + 5, none⟩)) := hdep ⟨8, .data⟩ (by simp) rfl
      refine G.step_val KC KD hc hdd rfl (.int .i64 pos) u (G.wanted_plain rfl) ?_ rfl (Below.refl _ _)
      first | (go_simp; done) | rfl | (simp [go_sem, *]; done)
    refine G.stepsL_cons (fun a u hc hdd hd hk hdep => ?_) ?_
    ·
      have d1 : (a.tmps[1]?).getD undef = (.pointer (some ⟨b, o, none⟩)) := hk 1 (by kernel_rfl)
      refine G.step_val KC KD hc hdd rfl (.pointer (some ⟨b, o, none⟩)) u (G.wanted_plain rfl) ?_ rfl (Below.refl _ _)
      first | (go_simp; done) | rfl | (simp [go_sem, *]; done)
    refine G.stepsL_cons (fun a u hc hdd hd hk hdep => ?_) ?_
    ·
      have d55 : (a.tmps[55]?).getD undef = (.pointer (some ⟨b, o, none⟩)) := hdep ⟨10, .data⟩ (by simp) rfl
      refine G.step_val KC KD hc hdd rfl (.pointer (some ⟨b, o, none⟩)) u (G.wanted_plain rfl) ?_ rfl (Below.refl _ _)
      first | (go_simp; done) | rfl | (simp [go_sem, *]; done)
    refine G.stepsL_cons (fun a u hc hdd hd hk hdep => ?_) ?_
    ·
      have d56 : (a.tmps[56]?).getD undef = (.pointer (some ⟨b, o, none⟩)) := hdep ⟨11, .data⟩ (by simp) rfl
      refine G.step_val KC KD hc hdd rfl (.pointer (some ⟨b, o + 6, none⟩)) u (G.wanted_plain rfl) ?_ rfl (Below.refl _ _)
      first | (go_simp; done) | rfl | (simp [go_sem, *]; done)
    refine G.stepsL_cons (fun a u hc hdd hd hk hdep => ?_) ?_
    ·
      have d57 : (a.tmps[57]?).getD undef = (.pointer (some ⟨b, o + 6, none⟩)) := hdep ⟨12, .data⟩ (by simp) rfl
      refine G.step_val KC KD hc hdd rfl (.int .i64 attr) u (G.wanted_plain rfl) ?_ rfl (Below.refl _ _)
      first | (go_simp; done) | rfl | (simp [go_sem, *]; done)
    refine G.stepsL_cons (fun a u hc hdd hd hk hdep => ?_) ?_
    ·
      have d50 : (a.tmps[50]?).getD undef = (lookV E B es.length ce bs.length cb cur) := hdep ⟨5, .data⟩ (by simp) rfl
      have d54 : (a.tmps[54]?).getD undef = (.int .i64 pos) := hdep ⟨9, .data⟩ (by simp) rfl
      have d58 : (a.tmps[58]?).getD undef = (.int .i64 attr) := hdep ⟨13, .data⟩ (by simp) rfl
      refine G.step_call KC KD hc hdd rfl 82 #[lookV E B es.length ce bs.length cb cur, .int .i64 pos, .int .i64 attr] (G.wanted_plain rfl) (by first | (go_simp; done) | rfl) ?_
      exact (N.out u hc.2.2.2.2.2.2.2.2.2).mono (by rintro e w' ⟨A, rfl, hR, hb⟩; exact ⟨_, rfl, ⟨A, rfl, hR⟩, hb⟩)
    refine G.stepsL_cons (fun a u hc hdd hd hk hdep => ?_) ?_
    ·
      have d49' : (ClW (-1) (.func (.func 91) #[] #[])) ((a.tmps[49]?).getD undef) u := hdep ⟨4, .data⟩ (by simp) rfl
      obtain ⟨sb, pb, d49, hs1, hs2⟩ := d49'
      have d59' : (RowW vs) ((a.tmps[59]?).getD undef) u := hdep ⟨14, .data⟩ (by simp) rfl
      obtain ⟨A, d59, hR⟩ := d59'
      refine G.step_call KC KD hc hdd rfl 95 #[.slice A vs.length vs.length, .pointer (some ⟨sb, 0, none⟩), .pointer (some ⟨pb, 0, none⟩)] (G.wanted_plain rfl) (by first | (go_simp; done) | rfl) ?_
      exact (F.out u A hR sb pb hs1 hs2).mono (by rintro e w' ⟨rfl, hb⟩; exact ⟨_, rfl, rfl, hb⟩)
    exact G.stepsL_nil
  intro vs' wN hN _ hh
  have eL : vs' 15 = .agg #[.int .i64 xk, .int .u64 (xb : Int)] := by
    obtain ⟨-, -, -, -, -, -, -, -, -, -, -, -, -, -, -, eX, -⟩ := hh
    exact eX
  clear hh j0 j1 j2 j3 j6 j7 J
  set_option maxRecDepth 100000 in simp only [List.take_succ_cons, List.take_zero, putAll, Act.put, List.setIfInBounds_toArray, List.set_cons_zero, List.set_cons_succ, Nat.reduceAdd, eL]
  obtain ⟨-, -, -, -, -, -, JN⟩ := hN
  obtain ⟨l0, l1, l2, l3, l4, l5, l6, l7, l8, l9, l10, l11⟩ := JN.facts
  refine wpAny_ready (rs := [16]) (by kernel_rfl) (by simp) ?_
  refine AllReady.cons rfl (fun K hK => ?_) AllReady.nil
  go_simp
  refine hK _ _ ?_
  clear hK K
  refine wpAny_done (by kernel_rfl) ?_ _
  obtain ⟨_, r1, r2⟩ := put2 (w := wN) (g := w.heap.size + 1) (.int .i64 xk) (.int .u64 (xb : Int)) l8 l9
  replace r1 := Lib.hid r1
  replace r2 := Lib.hid r2
  replace JN := Lib.hid JN
  clear l0 l1 l2 l3 l4 l5 l6 l7 l8 l9 l10 l11
  go_wp2
  exact bodyPost_ret (v := .agg #[.int .i64 xk, .int .u64 (xb : Int)]) (by simp [results, Try.results54, go_sem, r1.out, r2.out]) rfl (.mk rfl (JN.out.below _ _))

set_option maxHeartbeats 8000000 in
set_option maxRecDepth 100000 in
theorem leaf_30 (E B : Option Addr) (ce cb : Nat) (cur : Int) (es : List Ev) (bs : List (List Int)) (b o : Nat) (vk : Int) (vb : Nat) (pos attr : Int) (w : World) (hn : NodeC w b o 30 vk vb pos attr) (hL : LookIn w E B es bs) (hp : placesP bs pos ≠ []) :
    Calls Try.prog 54 #[lookV E B es.length ce bs.length cb cur, .pointer (some ⟨b, o, none⟩)] w (VIs (extP true (attrsP es bs pos attr)) w) := by
  have J := LfJ.start (E := E) (B := B) (ne := es.length) (ce := ce) (nb := bs.length) (cb := cb) (cur := cur) hn
  obtain ⟨j0, j1, j2, j3, j4, j5, j6, j7, j8, j9, j10, j11⟩ := J.facts
  have hLu := hL.later J.drew.2.2.2
  have O := places_any E B es.length ce cb cur bs pos _ hLu.2.1 hLu.2.2.2.2.1
  have hpl := places_le hL pos
  have hle : (placesP bs pos).length ≤ 9223372036854775807 := by omega
  have h0 : 0 < (attrsP es bs pos attr).length := by unfold attrsP; rw [List.length_map]; exact List.length_pos_iff.2 hp
  have hvl : (attrsP es bs pos attr).length ≤ 9223372036854775807 := by unfold attrsP; rw [List.length_map]; exact hle
  have hpp : 0 < (placesP bs pos).length := List.length_pos_iff.2 hp
  have N := Lib.hid (fun (wz : World) (h : Below w.heap.size w wz) => attributes_any E B ce cb cur es bs pos attr wz (hL.later h).1 (hL.later h).2.1 hL.2.2.1 hL.2.2.2.1 hL.2.2.2.2.1 hpl)
  generalize attrsP es bs pos attr = vs at *
  generalize hps : placesP bs pos = ps at *
  have e1 : ((ps.length : Int) == 0) = false := by simp; exact fun h => by subst h; simp at hpp
  have F := Lib.hid (fun wz A (hR : RowV wz A vs.length vs) sb pb h1 h2 => ext_true A sb pb vs wz hR h0 hvl h1 h2)
  generalize extP true vs = x at *
  obtain ⟨xk, xb⟩ := x
  replace O := Lib.hid O
  replace J := Lib.hid J
  clear hn hL hLu j4 j5 j8 j9 j10 j11 hp hps hpl
  go_enter Try.func54, Try.ntmps54
  go_wp2_with fail
  go_region_held3 (fun w' => w'.cell? ⟨w.heap.size, 0, none⟩ = some (.slice E es.length ce) ∧ w'.cell? ⟨w.heap.size, 1, none⟩ = some (.slice B bs.length cb) ∧ w'.cell? ⟨w.heap.size, 2, none⟩ = some (.int .i64 cur) ∧ w'.cell? ⟨b, o, none⟩ = some (.int .i64 30) ∧ w'.cell? ⟨b, o + 5, none⟩ = some (.int .i64 pos) ∧ w'.cell? ⟨b, o + 6, none⟩ = some (.int .i64 attr) ∧ LfJ w E B es.length ce bs.length cb cur b o 30 vk vb pos attr w') (first | exact ⟨j0, j1, j2, j3, j6, j7, J.out.drew⟩ | go_keep | exact keepL hb1 (by first | assumption | exact ⟨by assumption, by assumption, by assumption, by assumption, by assumption, by assumption, by assumption⟩)) (first | (go_at_call 80; refine O.out.mono ?_; rintro e w1 ⟨A, cap, rfl, hI, hb1⟩))
  rename_i hS
  obtain ⟨j0, j1, j2, j3, j6, j7, J⟩ := hS
  go_upto_region 10 with (fail)
  have KD := G.keepsD_true []
  have KC : G.KeepsC (fun w' => w'.cell? ⟨w.heap.size, 0, none⟩ = some (.slice E es.length ce) ∧ w'.cell? ⟨w.heap.size, 1, none⟩ = some (.slice B bs.length cb) ∧ w'.cell? ⟨w.heap.size, 2, none⟩ = some (.int .i64 cur) ∧ w'.cell? ⟨b, o, none⟩ = some (.int .i64 30) ∧ w'.cell? ⟨b, o + 5, none⟩ = some (.int .i64 pos) ∧ w'.cell? ⟨b, o + 6, none⟩ = some (.int .i64 attr) ∧ LfJ w E B es.length ce bs.length cb cur b o 30 vk vb pos attr w') := fun _ _ h hb => keepL hb h
  refine G.region_wordsG 16 (fun w' => w'.cell? ⟨w.heap.size, 0, none⟩ = some (.slice E es.length ce) ∧ w'.cell? ⟨w.heap.size, 1, none⟩ = some (.slice B bs.length cb) ∧ w'.cell? ⟨w.heap.size, 2, none⟩ = some (.int .i64 cur) ∧ w'.cell? ⟨b, o, none⟩ = some (.int .i64 30) ∧ w'.cell? ⟨b, o + 5, none⟩ = some (.int .i64 pos) ∧ w'.cell? ⟨b, o + 6, none⟩ = some (.int .i64 attr) ∧ LfJ w E B es.length ce bs.length cb cur b o 30 vk vb pos attr w') (fun _ _ => True) [G.isW (.pointer (some ⟨b, o, none⟩)), G.isW (.pointer (some ⟨b, o, none⟩)), G.isW (.pointer (some ⟨b, o, none⟩)), G.isW (.int .i64 30), ClW 1 (.func (.func 92) #[] #[]), G.isW (lookV E B es.length ce bs.length cb cur), G.isW (.pointer (some ⟨b, o, none⟩)), G.isW (.pointer (some ⟨b, o, none⟩)), G.isW (.pointer (some ⟨b, o + 5, none⟩)), G.isW (.int .i64 pos), G.isW (.pointer (some ⟨b, o, none⟩)), G.isW (.pointer (some ⟨b, o, none⟩)), G.isW (.pointer (some ⟨b, o + 6, none⟩)), G.isW (.int .i64 attr), RowW vs, G.isW (.agg #[.int .i64 xk, .int .u64 (xb : Int)])] (by kernel_rfl) (by repeat' (first | exact G.monoL_nil | exact G.is_mono _ | exact G.any_mono | exact roww_mono _ | exact clw_mono _ _ | refine G.monoL_cons ?_ ?_)) (by kernel_rfl) (by kernel_rfl) ⟨j0, j1, j2, j3, j6, j7, J.drew⟩ trivial ?_ ?_
  ·
    refine G.stepsL_cons (fun a u hc hdd hd hk hdep => ?_) ?_
    ·
      have d1 : (a.tmps[1]?).getD undef = (.pointer (some ⟨b, o, none⟩)) := hk 1 (by kernel_rfl)
      refine G.step_val KC KD hc hdd rfl (.pointer (some ⟨b, o, none⟩)) u (G.wanted_plain rfl) ?_ rfl (Below.refl _ _)
      first | (go_simp; done) | rfl | (simp [go_sem, *]; done)
    refine G.stepsL_cons (fun a u hc hdd hd hk hdep => ?_) ?_
    ·
      have d45 : (a.tmps[45]?).getD undef = (.pointer (some ⟨b, o, none⟩)) := hdep ⟨0, .data⟩ (by simp) rfl
      refine G.step_val KC KD hc hdd rfl (.pointer (some ⟨b, o, none⟩)) u (G.wanted_plain rfl) ?_ rfl (Below.refl _ _)
      first | (go_simp; done) | rfl | (simp [go_sem, *]; done)
    refine G.stepsL_cons (fun a u hc hdd hd hk hdep => ?_) ?_
    ·
      have d46 : (a.tmps[46]?).getD undef = (.pointer (some ⟨b, o, none⟩)) := hdep ⟨1, .data⟩ (by simp) rfl
      refine G.step_val KC KD hc hdd rfl (.pointer (some ⟨b, o, none⟩)) u (G.wanted_plain rfl) ?_ rfl (Below.refl _ _)
      first | (go_simp; done) | rfl | (simp [go_sem, *]; done)
    refine G.stepsL_cons (fun a u hc hdd hd hk hdep => ?_) ?_
    ·
      have d47 : (a.tmps[47]?).getD undef = (.pointer (some ⟨b, o, none⟩)) := hdep ⟨2, .data⟩ (by simp) rfl
      refine G.step_val KC KD hc hdd rfl (.int .i64 30) u (G.wanted_plain rfl) ?_ rfl (Below.refl _ _)
      first | (go_simp; done) | rfl | (simp [go_sem, *]; done)
    refine G.stepsL_cons (fun a u hc hdd hd hk hdep => ?_) ?_
    ·
      have d48 : (a.tmps[48]?).getD undef = (.int .i64 30) := hdep ⟨3, .data⟩ (by simp) rfl
      refine G.step_call KC KD hc hdd rfl 81 #[.int .i64 30] (G.wanted_plain rfl) (by first | (go_simp; done) | rfl) ?_
      exact (agg_30 u).mono (by rintro e w' ⟨rfl, rfl⟩; exact ⟨_, rfl, ⟨_, _, rfl, by simp [go_sem], by simp [go_sem]⟩, m2 _ _ _⟩)
    refine G.stepsL_cons (fun a u hc hdd hd hk hdep => ?_) ?_
    ·
      have d2 : (a.tmps[2]?).getD undef = (.pointer (some ⟨w.heap.size, 0, none⟩)) := hk 2 (by kernel_rfl)
      refine G.step_val KC KD hc hdd rfl (lookV E B es.length ce bs.length cb cur) u (G.wanted_plain rfl) ?_ rfl (Below.refl _ _)
      first | (go_simp; done) | rfl | (simp [go_sem, *]; done)
    refine G.stepsL_cons (fun a u hc hdd hd hk hdep => ?_) ?_
    ·
      have d1 : (a.tmps[1]?).getD undef = (.pointer (some ⟨b, o, none⟩)) := hk 1 (by kernel_rfl)
      refine G.step_val KC KD hc hdd rfl (.pointer (some ⟨b, o, none⟩)) u (G.wanted_plain rfl) ?_ rfl (Below.refl _ _)
      first | (go_simp; done) | rfl | (simp [go_sem, *]; done)
    refine G.stepsL_cons (fun a u hc hdd hd hk hdep => ?_) ?_
    ·
      have d51 : (a.tmps[51]?).getD undef = (.pointer (some ⟨b, o, none⟩)) := hdep ⟨6, .data⟩ (by simp) rfl
      refine G.step_val KC KD hc hdd rfl (.pointer (some ⟨b, o, none⟩)) u (G.wanted_plain rfl) ?_ rfl (Below.refl _ _)
      first | (go_simp; done) | rfl | (simp [go_sem, *]; done)
    refine G.stepsL_cons (fun a u hc hdd hd hk hdep => ?_) ?_
    ·
      have d52 : (a.tmps[52]?).getD undef = (.pointer (some ⟨b, o, none⟩)) := hdep ⟨7, .data⟩ (by simp) rfl
      refine G.step_val KC KD hc hdd rfl (.pointer (some ⟨b, o + 5, none⟩)) u (G.wanted_plain rfl) ?_ rfl (Below.refl _ _)
      first | (go_simp; done) | rfl | (simp [go_sem, *]; done)
    refine G.stepsL_cons (fun a u hc hdd hd hk hdep => ?_) ?_
    ·
      have d53 : (a.tmps[53]?).getD undef = (.pointer (some ⟨b, o + 5, none⟩)) := hdep ⟨8, .data⟩ (by simp) rfl
      refine G.step_val KC KD hc hdd rfl (.int .i64 pos) u (G.wanted_plain rfl) ?_ rfl (Below.refl _ _)
      first | (go_simp; done) | rfl | (simp [go_sem, *]; done)
    refine G.stepsL_cons (fun a u hc hdd hd hk hdep => ?_) ?_
    ·
      have d1 : (a.tmps[1]?).getD undef = (.pointer (some ⟨b, o, none⟩)) := hk 1 (by kernel_rfl)
      refine G.step_val KC KD hc hdd rfl (.pointer (some ⟨b, o, none⟩)) u (G.wanted_plain rfl) ?_ rfl (Below.refl _ _)
      first | (go_simp; done) | rfl | (simp [go_sem, *]; done)
    refine G.stepsL_cons (fun a u hc hdd hd hk hdep => ?_) ?_
    ·
      have d55 : (a.tmps[55]?).getD undef = (.pointer (some ⟨b, o, none⟩)) := hdep ⟨10, .data⟩ (by simp) rfl
      refine G.step_val KC KD hc hdd rfl (.pointer (some ⟨b, o, none⟩)) u (G.wanted_plain rfl) ?_ rfl (Below.refl _ _)
      first | (go_simp; done) | rfl | (simp [go_sem, *]; done)
    refine G.stepsL_cons (fun a u hc hdd hd hk hdep => ?_) ?_
    ·
      have d56 : (a.tmps[56]?).getD undef = (.pointer (some ⟨b, o, none⟩)) := hdep ⟨11, .data⟩ (by simp) rfl
      refine G.step_val KC KD hc hdd rfl (.pointer (some ⟨b, o + 6, none⟩)) u (G.wanted_plain rfl) ?_ rfl (Below.refl _ _)
      first | (go_simp; done) | rfl | (simp [go_sem, *]; done)
    refine G.stepsL_cons (fun a u hc hdd hd hk hdep => ?_) ?_
    ·
      have d57 : (a.tmps[57]?).getD undef = (.pointer (some ⟨b, o + 6, none⟩)) := hdep ⟨12, .data⟩ (by simp) rfl
      refine G.step_val KC KD hc hdd rfl (.int .i64 attr) u (G.wanted_plain rfl) ?_ rfl (Below.refl _ _)
      first | (go_simp; done) | rfl | (simp [go_sem, *]; done)
    refine G.stepsL_cons (fun a u hc hdd hd hk hdep => ?_) ?_
    ·
      have d50 : (a.tmps[50]?).getD undef = (lookV E B es.length ce bs.length cb cur) := hdep ⟨5, .data⟩ (by simp) rfl
      have d54 : (a.tmps[54]?).getD undef = (.int .i64 pos) := hdep ⟨9, .data⟩ (by simp) rfl
      have d58 : (a.tmps[58]?).getD undef = (.int .i64 attr) := hdep ⟨13, .data⟩ (by simp) rfl
      refine G.step_call KC KD hc hdd rfl 82 #[lookV E B es.length ce bs.length cb cur, .int .i64 pos, .int .i64 attr] (G.wanted_plain rfl) (by first | (go_simp; done) | rfl) ?_
      exact (N.out u hc.2.2.2.2.2.2.2.2.2).mono (by rintro e w' ⟨A, rfl, hR, hb⟩; exact ⟨_, rfl, ⟨A, rfl, hR⟩, hb⟩)
    refine G.stepsL_cons (fun a u hc hdd hd hk hdep => ?_) ?_
    ·
      have d49' : (ClW 1 (.func (.func 92) #[] #[])) ((a.tmps[49]?).getD undef) u := hdep ⟨4, .data⟩ (by simp) rfl
      obtain ⟨sb, pb, d49, hs1, hs2⟩ := d49'
      have d59' : (RowW vs) ((a.tmps[59]?).getD undef) u := hdep ⟨14, .data⟩ (by simp) rfl
      obtain ⟨A, d59, hR⟩ := d59'
      refine G.step_call KC KD hc hdd rfl 95 #[.slice A vs.length vs.length, .pointer (some ⟨sb, 0, none⟩), .pointer (some ⟨pb, 0, none⟩)] (G.wanted_plain rfl) (by first | (go_simp; done) | rfl) ?_
      exact (F.out u A hR sb pb hs1 hs2).mono (by rintro e w' ⟨rfl, hb⟩; exact ⟨_, rfl, rfl, hb⟩)
    exact G.stepsL_nil
  intro vs' wN hN _ hh
  have eL : vs' 15 = .agg #[.int .i64 xk, .int .u64 (xb : Int)] := by
    obtain ⟨-, -, -, -, -, -, -, -, -, -, -, -, -, -, -, eX, -⟩ := hh
    exact eX
  clear hh j0 j1 j2 j3 j6 j7 J
  set_option maxRecDepth 100000 in simp only [List.take_succ_cons, List.take_zero, putAll, Act.put, List.setIfInBounds_toArray, List.set_cons_zero, List.set_cons_succ, Nat.reduceAdd, eL]
  obtain ⟨-, -, -, -, -, -, JN⟩ := hN
  obtain ⟨l0, l1, l2, l3, l4, l5, l6, l7, l8, l9, l10, l11⟩ := JN.facts
  refine wpAny_ready (rs := [16]) (by kernel_rfl) (by simp) ?_
  refine AllReady.cons rfl (fun K hK => ?_) AllReady.nil
  go_simp
  refine hK _ _ ?_
  clear hK K
  refine wpAny_done (by kernel_rfl) ?_ _
  obtain ⟨_, r1, r2⟩ := put2 (w := wN) (g := w.heap.size + 1) (.int .i64 xk) (.int .u64 (xb : Int)) l8 l9
  replace r1 := Lib.hid r1
  replace r2 := Lib.hid r2
  replace JN := Lib.hid JN
  clear l0 l1 l2 l3 l4 l5 l6 l7 l8 l9 l10 l11
  go_wp2
  exact bodyPost_ret (v := .agg #[.int .i64 xk, .int .u64 (xb : Int)]) (by simp [results, Try.results54, go_sem, r1.out, r2.out]) rfl (.mk rfl (JN.out.below _ _))
end Go.Proofs.Ytfjnphiegoogoaa
