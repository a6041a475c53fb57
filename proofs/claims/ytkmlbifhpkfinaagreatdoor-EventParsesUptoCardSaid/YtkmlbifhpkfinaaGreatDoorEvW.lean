/- Valid and Fits of events, as contracts. -/
import Derived.Test.YtkmlbifhpkfinaaGreatDoorEvT
import Derived.Test.YtkmlbifhpkfinaaGreatDoorChkB
import Derived.Test.YtkmlbifhpkfinaaGreatDoorRCheck
import Derived.Test.YtkmlbifhpkfinaaGreatDoorInvG
namespace Go.Proofs.YtkmlbifhpkfinaaGreatDoor
open Go.ChangeShapes Go.WideShapes Go.ChangeAt Go.RowKit Go.Fl
set_option linter.unusedVariables false
set_option linter.unusedSimpArgs false

/-- what an event is valid by -/
def EvOk (ts : List ST) (ss : List ByteArray) (ty tm : Int) (vs : List (Int × Nat)) : Prop := CheckIs ts ss 0 ∧ EvP (ksOf ts) (ss.length : Int) ty tm vs
theorem keepV {w0 w w1 : World} {a0 a1 a2 a3 a4 : Addr} {v0 v1 v2 v3 v4 : Value} {A C B : Option Addr} {ts : List ST} {ss : List ByteArray} {vs : List (Int × Nat)} (hb : Below w.heap.size w w1)
    (h : w.cell? a0 = some v0 ∧ w.cell? a1 = some v1 ∧ w.cell? a2 = some v2 ∧ w.cell? a3 = some v3 ∧ w.cell? a4 = some v4 ∧ TypesAt w A ts ∧ SymsAt w C ss ∧ RowV w B vs.length vs ∧ Below w0.heap.size w0 w) :
    w1.cell? a0 = some v0 ∧ w1.cell? a1 = some v1 ∧ w1.cell? a2 = some v2 ∧ w1.cell? a3 = some v3 ∧ w1.cell? a4 = some v4 ∧ TypesAt w1 A ts ∧ SymsAt w1 C ss ∧ RowV w1 B vs.length vs ∧ Below w0.heap.size w0 w1 :=
  ⟨cell_later hb h.1, cell_later hb h.2.1, cell_later hb h.2.2.1, cell_later hb h.2.2.2.1, cell_later hb h.2.2.2.2.1, h.2.2.2.2.2.1.later hb, h.2.2.2.2.2.2.1.later hb, h.2.2.2.2.2.2.2.1.later hb, mmore h.2.2.2.2.2.2.2.2 hb⟩
theorem keepDrew {w0 w : World} {a0 a1 a2 a3 a4 : Addr} {v0 v1 v2 v3 v4 : Value} {A C B : Option Addr} {ts : List ST} {ss : List ByteArray} {vs : List (Int × Nat)}
    (h : w.cell? a0 = some v0 ∧ w.cell? a1 = some v1 ∧ w.cell? a2 = some v2 ∧ w.cell? a3 = some v3 ∧ w.cell? a4 = some v4 ∧ TypesAt w A ts ∧ SymsAt w C ss ∧ RowV w B vs.length vs ∧ Below w0.heap.size w0 w) :
    w.drew.cell? a0 = some v0 ∧ w.drew.cell? a1 = some v1 ∧ w.drew.cell? a2 = some v2 ∧ w.drew.cell? a3 = some v3 ∧ w.drew.cell? a4 = some v4 ∧ TypesAt w.drew A ts ∧ SymsAt w.drew C ss ∧ RowV w.drew B vs.length vs ∧ Below w0.heap.size w0 w.drew :=
  ⟨h.1, h.2.1, h.2.2.1, h.2.2.2.1, h.2.2.2.2.1, h.2.2.2.2.2.1, h.2.2.2.2.2.2.1, h.2.2.2.2.2.2.2.1, h.2.2.2.2.2.2.2.2.drew⟩
section
variable {w0 w : World} {a0 a1 a2 a3 a4 : Addr} {v0 v1 v2 v3 v4 : Value} {A C B : Option Addr} {ts : List ST} {ss : List ByteArray} {vs : List (Int × Nat)}
theorem typesOf (h : w.cell? a0 = some v0 ∧ w.cell? a1 = some v1 ∧ w.cell? a2 = some v2 ∧ w.cell? a3 = some v3 ∧ w.cell? a4 = some v4 ∧ TypesAt w A ts ∧ SymsAt w C ss ∧ RowV w B vs.length vs ∧ Below w0.heap.size w0 w) : TypesAt w A ts := h.2.2.2.2.2.1
theorem symsOf (h : w.cell? a0 = some v0 ∧ w.cell? a1 = some v1 ∧ w.cell? a2 = some v2 ∧ w.cell? a3 = some v3 ∧ w.cell? a4 = some v4 ∧ TypesAt w A ts ∧ SymsAt w C ss ∧ RowV w B vs.length vs ∧ Below w0.heap.size w0 w) : SymsAt w C ss := h.2.2.2.2.2.2.1
theorem rowOf (h : w.cell? a0 = some v0 ∧ w.cell? a1 = some v1 ∧ w.cell? a2 = some v2 ∧ w.cell? a3 = some v3 ∧ w.cell? a4 = some v4 ∧ TypesAt w A ts ∧ SymsAt w C ss ∧ RowV w B vs.length vs ∧ Below w0.heap.size w0 w) : RowV w B vs.length vs := h.2.2.2.2.2.2.2.1
end
theorem check_there (ts : List ST) (ss : List ByteArray) : ∃ c, CheckIs ts ss c := by
  unfold CheckIs
  by_cases h1 : LongP ts ss
  · exact ⟨2, .inl ⟨h1, rfl⟩⟩
  · by_cases h2 : WellP ts ss
    · by_cases h3 : KindsP ts
      · exact ⟨0, .inr (.inr (.inr ⟨h1, h2, h3, rfl⟩))⟩
      · exact ⟨11, .inr (.inr (.inl ⟨h1, h2, h3, rfl⟩))⟩
    · exact ⟨10, .inr (.inl ⟨h1, h2, rfl⟩)⟩

set_option maxHeartbeats 8000000 in
set_option maxRecDepth 100000 in
theorem evalid_any (A C B : Option Addr) (cap capC capB : Nat) (ts : List ST) (ss : List ByteArray) (ty tm : Int) (vs : List (Int × Nat)) (w : World) (hT : TypesAt w A ts) (hS : SymsAt w C ss) (hv : RowV w B vs.length vs) (b1 : ts.length * 40 ≤ 140737488351232) (b2 : ∀ t ∈ ts, t.2.length * 24 ≤ 140737488351232) (hc1 : ss.length ≤ capC) (hc2 : capC ≤ maxLen) (hl : vs.length ≤ 9223372036854775807) :
    Calls Tryz.prog 16 #[.agg #[.slice A ts.length cap, .slice C ss.length capC], .agg #[.int .i64 ty, .int .i64 tm, .slice B vs.length capB]] w (Says (EvOk ts ss ty tm vs) w) := by
  have hu := m2 w (.cells #[.slice A ts.length cap, .slice C ss.length capC] 31) (.cells #[.int .i64 ty, .int .i64 tm, .slice B vs.length capB] 36)
  have k0 : Blk ((w.alloc (.cells #[.slice A ts.length cap, .slice C ss.length capC] 31)).alloc (.cells #[.int .i64 ty, .int .i64 tm, .slice B vs.length capB] 36)) w.heap.size 31 #[.slice A ts.length cap, .slice C ss.length capC] := (Blk.made _ _ _).kept (m1 _ _)
  have k1 : Blk ((w.alloc (.cells #[.slice A ts.length cap, .slice C ss.length capC] 31)).alloc (.cells #[.int .i64 ty, .int .i64 tm, .slice B vs.length capB] 36)) (w.heap.size + 1) 36 #[.int .i64 ty, .int .i64 tm, .slice B vs.length capB] := by
    have := Blk.made (w.alloc (.cells #[.slice A ts.length cap, .slice C ss.length capC] 31)) 36 #[.int .i64 ty, .int .i64 tm, .slice B vs.length capB]
    simpa using this
  have base := And.intro (k0.cell 0) (And.intro (k0.cell 1) (And.intro (k1.cell 0) (And.intro (k1.cell 1) (And.intro (k1.cell 2) (And.intro (hT.later hu) (And.intro (hS.later hu) (And.intro (hv.later hu) hu)))))))
  replace b2 := Lib.hid b2
  obtain ⟨c, hC⟩ := check_there ts ss
  have kl := ksOf_length ts
  have hn1 : (ss.length : Int) ≤ 9223372036854775807 := by unfold maxLen at hc2; omega
  have hl2 : ∀ ks ∈ ksOf ts, ks.length ≤ 9223372036854775807 := fun ks h => by
    obtain ⟨t, ht, rfl⟩ := List.mem_map.1 h
    have := b2.out t ht
    rw [ksT_length]
    omega
  have hl1 : (ksOf ts).length ≤ 9223372036854775807 := by rw [kl]; omega
  replace hl2 := Lib.hid hl2
  replace hC := Lib.hid hC
  clear hT hS hv k0 k1 hu
  by_cases h0 : c = 0
  · subst h0
    go_enter Tryz.func16, Tryz.ntmps16
    go_wp2_with fail
    generalize (w.alloc (.cells #[.slice A ts.length cap, .slice C ss.length capC] 31)).alloc (.cells #[.int .i64 ty, .int .i64 tm, .slice B vs.length capB] 36) = u at *
    have base' := base
    obtain ⟨d0, d1, d2, d3, d4, dT, dS, dV, dB⟩ := base'
    simp at d0 d1 d2 d3 d4
    go_region_held3 (fun w' => w'.cell? ⟨w.heap.size, 0, none⟩ = some (.slice A ts.length cap) ∧ w'.cell? ⟨w.heap.size, 1, none⟩ = some (.slice C ss.length capC) ∧ w'.cell? ⟨w.heap.size + 1, 0, none⟩ = some (.int .i64 ty) ∧ w'.cell? ⟨w.heap.size + 1, 1, none⟩ = some (.int .i64 tm) ∧ w'.cell? ⟨w.heap.size + 1, 2, none⟩ = some (.slice B vs.length capB) ∧ TypesAt w' A ts ∧ SymsAt w' C ss ∧ RowV w' B vs.length vs ∧ Below w.heap.size w w')
      (first | exact keepDrew base | go_keep | exact keepV hb1 (by first | assumption | exact ⟨by assumption, by assumption, by assumption, by assumption, by assumption, by assumption, by assumption, by assumption, by assumption⟩))
      (first
        | (go_at_call 31; refine (check_any A C cap capC ts ss _ (by first | assumption | exact typesOf (by assumption)) (by first | assumption | exact symsOf (by assumption)) b1 b2.out hc1 hc2).mono ?_; rintro e w1 ⟨c', rfl, hC', hb1⟩; obtain rfl := check_one hC' hC.out)
        | (go_at_call 33; refine (evkinds_any A cap _ ts _ (by first | assumption | exact typesOf (by assumption)) b1 b2.out).mono ?_; rintro e w1 ⟨A', cap', rfl, hK, hb1⟩)
        | (go_at_call 32; rw [← kl]; refine (valid_any A' B cap' capB (ksOf ts) (ss.length : Int) ty tm vs _ (by first | assumption) (by first | assumption | exact rowOf (by assumption)) (by omega) hn1 hl1 hl2.out hl).mono ?_; rintro e w1 ⟨q, rfl, hq, hb1⟩))
    rename_i hS
    have hBz := hS.2.2.2.2.2.2.2.2
    replace hBz := Lib.hid hBz
    clear hS base d0 d1 d2 d3 d4 dT dS dV dB
    go_wp2
    go_ret
    exact ⟨q, rfl, hq.trans ⟨fun h => ⟨hC.out, h⟩, fun h => h.2⟩, hBz.out⟩
  · have h0' : (c == 0) = false := by simpa using h0
    have hno : ¬ EvOk ts ss ty tm vs := fun h => h0 (check_one hC.out h.1)
    replace hno := Lib.hid hno
    clear h0
    go_enter Tryz.func16, Tryz.ntmps16
    go_wp2_with fail
    generalize (w.alloc (.cells #[.slice A ts.length cap, .slice C ss.length capC] 31)).alloc (.cells #[.int .i64 ty, .int .i64 tm, .slice B vs.length capB] 36) = u at *
    have base' := base
    obtain ⟨d0, d1, d2, d3, d4, dT, dS, dV, dB⟩ := base'
    simp at d0 d1 d2 d3 d4
    clear base d2 d3 d4 dV
    have KD := G.keepsD_true []
    refine G.region_words (fun w' => w'.cell? ⟨w.heap.size, 0, none⟩ = some (.slice A ts.length cap) ∧ w'.cell? ⟨w.heap.size, 1, none⟩ = some (.slice C ss.length capC) ∧ TypesAt w' A ts ∧ SymsAt w' C ss ∧ Below w.heap.size w w') [G.isW (.agg #[.slice A ts.length cap, .slice C ss.length capC]), G.isW (.int .i64 c), G.isW (.bool false), G.isW (.bool false), G.isW undef, G.isW undef, G.isW undef, G.isW undef, G.isW undef, G.isW undef, G.isW undef, G.isW (.bool false), G.isW (.bool false)] (by kernel_rfl) (by repeat' (first | exact G.monoL_nil | exact G.is_mono _ | refine G.monoL_cons ?_ ?_)) (by kernel_rfl) (by kernel_rfl) (fun _ _ h hb => ⟨cell_later hb h.1, cell_later hb h.2.1, h.2.2.1.later hb, h.2.2.2.1.later hb, mmore h.2.2.2.2 hb⟩) ⟨d0, d1, dT, dS, dB.drew⟩ ?_ ?_
    · intro KC
      refine G.stepsL_cons (fun a u hc hdd hd hk hdep => ?_) ?_
      ·
        have d1 : (a.tmps[2]?).getD undef = (.pointer (some ⟨w.heap.size, 0, none⟩)) := hk 2 (by kernel_rfl)
        refine G.step_val KC KD hc hdd rfl (.agg #[.slice A ts.length cap, .slice C ss.length capC]) u (G.wanted_plain rfl) ?_ rfl (Below.refl _ _)
        obtain ⟨s0, s1, s2⟩ := hc
        go_simp
      refine G.stepsL_cons (fun a u hc hdd hd hk hdep => ?_) ?_
      ·
        have d5 : (a.tmps[5]?).getD undef = (.agg #[.slice A ts.length cap, .slice C ss.length capC]) := hdep ⟨0, .data⟩ (by simp) rfl
        refine G.step_call KC KD hc hdd rfl 31 #[(.agg #[.slice A ts.length cap, .slice C ss.length capC])] (G.wanted_plain rfl) (by go_simp) ?_
        obtain ⟨z0, z1, z2, z3, z4⟩ := hc
        exact (check_any A C cap capC ts ss u z2 z3 b1 b2.out hc1 hc2).mono (by rintro e w' ⟨c', rfl, hcc, hb⟩; obtain rfl := check_one hcc hC.out; exact ⟨_, rfl, rfl, hb⟩)
      refine G.stepsL_cons (fun a u hc hdd hd hk hdep => ?_) ?_
      ·
        have d6 : (a.tmps[6]?).getD undef = (.int .i64 c) := hdep ⟨1, .data⟩ (by simp) rfl
        refine G.step_val KC KD hc hdd rfl (.bool false) u (G.wanted_plain rfl) ?_ rfl (Below.refl _ _)
        go_simp
      refine G.stepsL_cons (fun a u hc hdd hd hk hdep => ?_) ?_
      ·
        have d7 : (a.tmps[7]?).getD undef = (.bool false) := hdep ⟨2, .data⟩ (by simp) rfl
        refine G.step_val KC KD hc hdd rfl (.bool false) u (G.wanted_plain rfl) ?_ rfl (Below.refl _ _)
        first | (go_simp; done) | rfl
      refine G.stepsL_cons (fun a u hc hdd hd hk hdep => ?_) ?_
      · exact G.step_skip KD hc hdd rfl ((G.wanted_guard (j := 3) (b := true) (c := false) rfl (hdep ⟨3, .guard⟩ (by simp) rfl)).trans rfl) rfl
      refine G.stepsL_cons (fun a u hc hdd hd hk hdep => ?_) ?_
      · exact G.step_skip KD hc hdd rfl ((G.wanted_guard (j := 3) (b := true) (c := false) rfl (hdep ⟨3, .guard⟩ (by simp) rfl)).trans rfl) rfl
      refine G.stepsL_cons (fun a u hc hdd hd hk hdep => ?_) ?_
      · exact G.step_skip KD hc hdd rfl ((G.wanted_guard (j := 3) (b := true) (c := false) rfl (hdep ⟨3, .guard⟩ (by simp) rfl)).trans rfl) rfl
      refine G.stepsL_cons (fun a u hc hdd hd hk hdep => ?_) ?_
      · exact G.step_skip KD hc hdd rfl ((G.wanted_guard (j := 3) (b := true) (c := false) rfl (hdep ⟨3, .guard⟩ (by simp) rfl)).trans rfl) rfl
      refine G.stepsL_cons (fun a u hc hdd hd hk hdep => ?_) ?_
      · exact G.step_skip KD hc hdd rfl ((G.wanted_guard (j := 3) (b := true) (c := false) rfl (hdep ⟨3, .guard⟩ (by simp) rfl)).trans rfl) rfl
      refine G.stepsL_cons (fun a u hc hdd hd hk hdep => ?_) ?_
      · exact G.step_skip KD hc hdd rfl ((G.wanted_guard (j := 3) (b := true) (c := false) rfl (hdep ⟨3, .guard⟩ (by simp) rfl)).trans rfl) rfl
      refine G.stepsL_cons (fun a u hc hdd hd hk hdep => ?_) ?_
      · exact G.step_skip KD hc hdd rfl ((G.wanted_guard (j := 3) (b := true) (c := false) rfl (hdep ⟨3, .guard⟩ (by simp) rfl)).trans rfl) rfl
      refine G.stepsL_cons (fun a u hc hdd hd hk hdep => ?_) ?_
      ·
        have d8 : (a.tmps[8]?).getD undef = (.bool false) := hdep ⟨3, .data⟩ (by simp) rfl
        refine G.step_val KC KD hc hdd rfl (.bool false) u (G.wanted_plain rfl) ?_ rfl (Below.refl _ _)
        first | (go_simp; done) | rfl
      refine G.stepsL_cons (fun a u hc hdd hd hk hdep => ?_) ?_
      ·
        have d16 : (a.tmps[16]?).getD undef = (.bool false) := hdep ⟨11, .data⟩ (by simp) rfl
        refine G.step_val KC KD hc hdd rfl (.bool false) u (G.wanted_plain rfl) ?_ rfl (Below.refl _ _)
        first | (go_simp; done) | rfl
      exact G.stepsL_nil
    intro vs' wN hN hh
    obtain ⟨e0, e1, e2, e3, e4, e5, e6, e7, e8, e9, e10, e11, e12, -⟩ := hh
    have eL : vs' 12 = (.bool false) := e12
    clear e0 e1 e2 e3 e4 e5 e6 e7 e8 e9 e10 e11 e12
    set_option maxRecDepth 100000 in simp only [putAll, Act.put, List.setIfInBounds_toArray, List.set_cons_zero, List.set_cons_succ, eL]
    have hBz := Lib.hid hN.2.2.2.2
    clear hN
    go_wp2
    go_ret
    exact .no rfl hno.out hBz.out

theorem poss_of {ts : List ST} {ss : List ByteArray} (h : CheckIs ts ss 0) : PossP (ksOf ts) (ss.length : Int) := by
  unfold CheckIs at h
  rcases h with ⟨_, e⟩ | ⟨_, _, e⟩ | ⟨_, _, _, e⟩ | ⟨h1, _, h3, _⟩
  · omega
  · omega
  · omega
  · unfold LongP at h1
    refine ⟨?_, by omega, ?_, fun i ks hi => ?_⟩
    · rw [ksOf_length]
      have : ¬ 16 < ts.length := fun h => h1 (.inl h)
      omega
    · have : ¬ 64 < ss.length := fun h => h1 (.inr (.inl h))
      omega
    · unfold ksOf at hi
      rw [List.getElem?_map] at hi
      obtain ⟨t, ht, rfl⟩ := Option.map_eq_some_iff.1 hi
      refine ⟨?_, fun j k hj => ?_⟩
      · rw [ksT_length]
        have : ¬ 8 < t.2.length := fun h => h1 (.inr (.inr ⟨i, t, ht, h⟩))
        omega
      · unfold ksT at hj
        rw [List.getElem?_map] at hj
        obtain ⟨f, hf, rfl⟩ := Option.map_eq_some_iff.1 hj
        have := h3 i t ht j f hf
        omega
end Go.Proofs.YtkmlbifhpkfinaaGreatDoor
