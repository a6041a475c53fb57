/- The document's validity of events, as a contract. -/
import Derived.Test.YtkmlbifhpkfinaaGreatDoorEvW
namespace Go.Proofs.YtkmlbifhpkfinaaGreatDoor
open Go.ChangeShapes Go.WideShapes Go.ChangeAt Go.RowKit Go.Fl
set_option linter.unusedVariables false
set_option linter.unusedSimpArgs false

theorem keepR {w0 w w1 : World} {a0 a1 a2 a3 : Addr} {v0 v1 v2 v3 : Value} (hb : Below w.heap.size w w1) (h : w.cell? a0 = some v0 ∧ w.cell? a1 = some v1 ∧ w.cell? a2 = some v2 ∧ w.cell? a3 = some v3 ∧ Below w0.heap.size w0 w) :
    w1.cell? a0 = some v0 ∧ w1.cell? a1 = some v1 ∧ w1.cell? a2 = some v2 ∧ w1.cell? a3 = some v3 ∧ Below w0.heap.size w0 w1 :=
  ⟨cell_later hb h.1, cell_later hb h.2.1, cell_later hb h.2.2.1, cell_later hb h.2.2.2.1, mmore h.2.2.2.2 hb⟩

set_option maxHeartbeats 8000000 in
set_option maxRecDepth 100000 in
theorem rvalid_any (A C B : Option Addr) (cap capC capB : Nat) (ts : List ST) (ss : List ByteArray) (ty tm : Int) (vs : List (Int × Nat)) (w : World) (hT : TypesAt w A ts) (hS : SymsAt w C ss) (hv : RowV w B vs.length vs) (b1 : ts.length * 40 ≤ 140737488351232) (b2 : ∀ t ∈ ts, t.2.length * 24 ≤ 140737488351232) (hc1 : ss.length ≤ capC) (hc2 : capC ≤ maxLen) (hl : vs.length ≤ 9223372036854775807) :
    Calls Tryz.prog 12 #[.agg #[.slice A ts.length cap, .slice C ss.length capC], .agg #[.int .i64 ty, .int .i64 tm, .slice B vs.length capB]] w (Says (EvOk ts ss ty tm vs) w) := by
  have hu := m2 w (.cells #[.slice A ts.length cap, .slice C ss.length capC] 25) (.cells #[.int .i64 ty, .int .i64 tm, .slice B vs.length capB] 28)
  have k0 : Blk ((w.alloc (.cells #[.slice A ts.length cap, .slice C ss.length capC] 25)).alloc (.cells #[.int .i64 ty, .int .i64 tm, .slice B vs.length capB] 28)) w.heap.size 25 #[.slice A ts.length cap, .slice C ss.length capC] := (Blk.made _ _ _).kept (m1 _ _)
  have k1 : Blk ((w.alloc (.cells #[.slice A ts.length cap, .slice C ss.length capC] 25)).alloc (.cells #[.int .i64 ty, .int .i64 tm, .slice B vs.length capB] 28)) (w.heap.size + 1) 28 #[.int .i64 ty, .int .i64 tm, .slice B vs.length capB] := by
    have := Blk.made (w.alloc (.cells #[.slice A ts.length cap, .slice C ss.length capC] 25)) 28 #[.int .i64 ty, .int .i64 tm, .slice B vs.length capB]
    simpa using this
  have hTu := hT.later hu
  have hSu := hS.later hu
  have hvu := Lib.hid (hv.later hu)
  replace b2 := Lib.hid b2
  obtain ⟨c, hC⟩ := check_there ts ss
  have kl := ksOf_length ts
  have hn1 : (ss.length : Int) ≤ 9223372036854775807 := by unfold maxLen at hc2; omega
  replace hC := Lib.hid hC
  clear hT hS hv
  go_enter Tryz.func12, Tryz.ntmps12
  go_wp2_with fail
  generalize (w.alloc (.cells #[.slice A ts.length cap, .slice C ss.length capC] 25)).alloc (.cells #[.int .i64 ty, .int .i64 tm, .slice B vs.length capB] 28) = u at *
  refine (rcheck_any A C cap capC ts ss u hTu hSu b1 b2.out hc1 hc2).mono ?_; rintro e w1 ⟨c', rfl, hC', hb1⟩
  obtain rfl := check_one hC' hC.out
  have hB1 := mmore hu hb1
  have j0 := k0.kept hb1
  have j1 := k1.kept hb1
  have hT1 := Lib.hid (hTu.later hb1)
  have hS1 := Lib.hid (hSu.later hb1)
  have hv1 := Lib.hid (hvu.out.later hb1)
  have d0 : w1.cell? ⟨w.heap.size, 0, none⟩ = some (.slice A ts.length cap) := j0.cell 0
  have d1 : w1.cell? ⟨w.heap.size, 1, none⟩ = some (.slice C ss.length capC) := j0.cell 1
  have d2 : w1.cell? ⟨w.heap.size + 1, 0, none⟩ = some (.int .i64 ty) := j1.cell 0
  have d3 : w1.cell? ⟨w.heap.size + 1, 1, none⟩ = some (.int .i64 tm) := j1.cell 1
  have d4 : w1.cell? ⟨w.heap.size + 1, 2, none⟩ = some (.slice B vs.length capB) := j1.cell 2
  clear hb1 hu k0 k1 j0 j1 hTu hSu hvu hC'
  by_cases h0 : c' = 0
  · subst h0
    by_cases h1 : ty < 0
    · have hno : ¬ EvOk ts ss ty tm vs := fun h => by obtain ⟨_, _, _, t, _, e, _⟩ := h; omega
      replace hno := Lib.hid hno
      go_wp2
      go_ret
      exact .no rfl hno.out hB1
    · by_cases h2 : ty < (ts.length : Int)
      · by_cases h3 : tm < 0
        · have hno : ¬ EvOk ts ss ty tm vs := fun h => by have := h.2.1; omega
          replace hno := Lib.hid hno
          go_wp2
          go_ret
          exact .no rfl hno.out hB1
        · by_cases h4 : tm > 1152921504606846976
          · have hno : ¬ EvOk ts ss ty tm vs := fun h => by have := h.2.2.1; omega
            replace hno := Lib.hid hno
            go_wp2
            go_ret
            exact .no rfl hno.out hB1
          · obtain ⟨t, rfl⟩ : ∃ t : Nat, ty = (t : Int) := ⟨ty.toNat, by omega⟩
            have hlt : t < ts.length := by omega
            have hvt : ts[t]? = some ts[t] := List.getElem?_eq_getElem hlt
            have hkk : (ksOf ts)[t]? = some (ksT ts[t]) := by unfold ksOf; rw [List.getElem?_map, hvt]; rfl
            have hlk := b2.out _ (List.getElem_mem hlt)
            obtain ⟨b, off, rfl, hcell⟩ := hT1.out (by omega)
            obtain ⟨x0, r0, r1, UA, ucap, rfl, hI⟩ := hcell t _ hvt
            generalize ts[t] = tt at *
            obtain ⟨nm, fs⟩ := tt
            simp only at r0 r1 hI hlk
            have k0 : (0 : Int) ≤ (t : Int) := by omega
            have hI := Lib.hid (fun hp : 0 < fs.length => hI hp)
            replace hkk := Lib.hid hkk
            have hE := Lib.hid (And.intro h3 h4)
            clear hcell hvt
            by_cases h5 : vs.length = fs.length
            · have h5' : ((vs.length : Int) != (fs.length : Int)) = false := by simp [h5]
              replace h5 := Lib.hid h5
              go_wp2_with fail
              clear h5'
              go_loopw [50] (fun i wr => ∃ k : Nat, k ≤ vs.length ∧ i = .int .i64 (k : Int) ∧ Hid (FitTo (ss.length : Int) (ksT (nm, fs)) vs k) ∧ Below w1.heap.size w1 wr) (fun i _ => vs.length - (intOf i).toNat)
              case atStart => exact ⟨0, Nat.zero_le _, rfl, Lib.hid (fun i v x h => by omega), Below.refl _ _⟩
              case round =>
                obtain ⟨k, hk, rfl, hF, hB⟩ := hrel
                by_cases hlt1 : k < vs.length
                · have h5o := h5.out
                  obtain ⟨b2, off2, e2, hvc⟩ := hv1.out.2.2 (by omega)
                  obtain ⟨b3, off3, e3, hfc⟩ := hI.out (by omega)
                  have hvk : vs[k]? = some (vs[k].1, vs[k].2) := List.getElem?_eq_getElem hlt1
                  have hfk : fs[k]? = some (fs[k]'(by omega)) := List.getElem?_eq_getElem (by omega)
                  have hxk : (ksT (nm, fs))[k]? = some (fs[k]'(by omega)).2 := by unfold ksT; rw [List.getElem?_map, hfk]; rfl
                  have hb := hv1.out.2.1 _ (List.getElem_mem hlt1)
                  obtain ⟨q0, q1⟩ := hvc k _ _ hvk
                  obtain ⟨q2, q3⟩ := hfc k _ hfk
                  subst e2 e3
                  generalize fs[k]'(by omega) = f at *
                  obtain ⟨fnm, x⟩ := f
                  simp only at q2 q3 hxk
                  generalize vs[k].1 = vk at *
                  generalize vs[k].2 = vb at *
                  have q0 := cell_later hB q0
                  have q1 := cell_later hB q1
                  have q3 := cell_later hB q3
                  have q4 := cell_later hB d1
                  replace hvk := Lib.hid hvk
                  replace hxk := Lib.hid hxk
                  have j0 : (0 : Int) ≤ (k : Int) := by omega
                  have j1 : (k : Int) < (fs.length : Int) := by omega
                  have hw : IntKind.u64.wrap (ss.length : Int) = (ss.length : Int) := by rw [IntKind.wrap_u64]; omega
                  clear hvc hfc hfk q2 h5o
                  go_upto_region 9 with (fail)
                  have hw8 := m1 wr (.cells #[.int .i64 vk, .int .u64 (vb : Int)] 64)
                  have z0 : (wr.alloc (.cells #[.int .i64 vk, .int .u64 (vb : Int)] 64)).cell? ⟨wr.heap.size, 0, none⟩ = some (.int .i64 vk) := by simp [go_sem]
                  have z1 : (wr.alloc (.cells #[.int .i64 vk, .int .u64 (vb : Int)] 64)).cell? ⟨wr.heap.size, 1, none⟩ = some (.int .u64 (vb : Int)) := by simp [go_sem]
                  have z2 := cell_later hw8 q3
                  have z3 := cell_later hw8 q4
                  have z4 := mmore hB hw8
                  clear q0 q1 q3 q4 hw8 r0 r1
                  generalize wr.heap.size = g7 at *
                  generalize wr.alloc (.cells #[.int .i64 vk, .int .u64 (vb : Int)] 64) = wz at *
                  by_cases h6 : vk = x
                  · subst h6
                    have CC := fun w => rclean_any vk vb w hb
                    have hno7 : ¬ (vk = clK vk vb ∧ vb = clB vk vb) → ¬ EvOk ts ss (t : Int) tm vs := fun h7 h => by
                      have hh := (h.2.fit hkk.out).2 k _ _ hvk.out hxk.out
                      exact h7 ⟨hh.2.1.symm, hh.2.2.1.symm⟩
                    obtain ⟨ck, hck⟩ : ∃ ck, clK vk vb = ck := ⟨_, rfl⟩
                    obtain ⟨cb, hcb⟩ : ∃ cb, clB vk vb = cb := ⟨_, rfl⟩
                    rw [hck, hcb] at CC hno7
                    replace CC := Lib.hid CC
                    replace hck := Lib.hid hck
                    replace hcb := Lib.hid hcb
                    replace hno7 := Lib.hid hno7
                    by_cases h7 : vk = ck ∧ vb = cb
                    · obtain ⟨h7, h7b⟩ := h7
                      subst h7 h7b
                      have he : ∀ w : World, (binOp .neq 64 (.agg #[.int .i64 vk, .int .u64 (vb : Int)]) (.agg #[.int .i64 vk, .int .u64 (vb : Int)])).run Tryz.prog w = .ok (.bool false) w := fun w => by rw [neqR]; simp
                      clear hno7
                      by_cases h8 : vk = 3
                      · have h8' : (vk == 3) = true := by simpa using h8
                        by_cases h9 : (ss.length : Int) ≤ (vb : Int)
                        · have hno : ¬ EvOk ts ss (t : Int) tm vs := fun h => by have := ((h.2.fit hkk.out).2 k _ _ hvk.out hxk.out).2.2.2 h8; simp only at this; omega
                          replace hno := Lib.hid hno
                          have h9' : decide ((vb : Int) ≥ (ss.length : Int)) = true := by simpa using h9
                          replace h8 := Lib.hid h8
                          have KD := G.keepsD_true []
                          refine G.region_words (fun w' => w'.cell? ⟨g7, 0, none⟩ = some (.int .i64 vk) ∧ w'.cell? ⟨g7, 1, none⟩ = some (.int .u64 (vb : Int)) ∧ w'.cell? ⟨b3, off3 + k * 2 + 1, none⟩ = some (.int .i64 vk) ∧ w'.cell? ⟨w.heap.size, 1, none⟩ = some (.slice C ss.length capC) ∧ Below w1.heap.size w1 w') [G.isW (.pointer (some ⟨g7, 0, none⟩)), G.isW (.int .i64 vk), G.isW (.slice (some ⟨b3, off3, none⟩) fs.length ucap), G.isW (.int .i64 (k : Int)), G.isW (.pointer (some ⟨b3, off3 + k * 2, none⟩)), G.isW (.pointer (some ⟨b3, off3 + k * 2 + 1, none⟩)), G.isW (.int .i64 vk), G.isW (.bool false), G.isW (.bool false), G.isW (.agg #[.int .i64 vk, .int .u64 (vb : Int)]), G.isW (.agg #[.int .i64 vk, .int .u64 (vb : Int)]), G.isW (.agg #[.int .i64 vk, .int .u64 (vb : Int)]), G.isW (.bool false), G.isW (.bool false), G.isW (.bool false), G.isW (.pointer (some ⟨g7, 0, none⟩)), G.isW (.int .i64 vk), G.isW (.bool true), G.isW (.bool true), G.isW (.pointer (some ⟨g7, 1, none⟩)), G.isW (.int .u64 (vb : Int)), G.isW (.pointer (some ⟨w.heap.size, 1, none⟩)), G.isW (.slice C ss.length capC), G.isW (.int .i64 (ss.length : Int)), G.isW (.int .u64 (ss.length : Int)), G.isW (.bool true), G.isW (.bool true), G.isW (.bool true)] (by kernel_rfl) (by repeat' (first | exact G.monoL_nil | exact G.is_mono _ | refine G.monoL_cons ?_ ?_)) (by kernel_rfl) (by kernel_rfl) (fun _ _ h hb => keepR hb h) ⟨z0, z1, z2, z3, z4.drew⟩ ?_ ?_
                          · intro KC
                            clear z0 z1 z2 z3 z4
                            refine G.stepsL_cons (fun a u hc hdd hd hk hdep => ?_) ?_
                            ·
                              have d7 : (a.tmps[7]?).getD undef = (.pointer (some ⟨g7, 0, none⟩)) := hk 7 (by kernel_rfl)
                              refine G.step_val KC KD hc hdd rfl (.pointer (some ⟨g7, 0, none⟩)) u (G.wanted_plain rfl) ?_ rfl (Below.refl _ _)
                              first | (go_simp; done) | rfl
                            refine G.stepsL_cons (fun a u hc hdd hd hk hdep => ?_) ?_
                            ·
                              have d55 : (a.tmps[55]?).getD undef = (.pointer (some ⟨g7, 0, none⟩)) := hdep ⟨0, .data⟩ (by simp) rfl
                              refine G.step_val KC KD hc hdd rfl (.int .i64 vk) u (G.wanted_plain rfl) ?_ rfl (Below.refl _ _)
                              obtain ⟨s0, s1, s2, s3, -⟩ := hc
                              first | (go_simp; done) | rfl
                            refine G.stepsL_cons (fun a u hc hdd hd hk hdep => ?_) ?_
                            ·
                              have d5 : (a.tmps[5]?).getD undef = (.slice (some ⟨b3, off3, none⟩) fs.length ucap) := hk 5 (by kernel_rfl)
                              refine G.step_val KC KD hc hdd rfl (.slice (some ⟨b3, off3, none⟩) fs.length ucap) u (G.wanted_plain rfl) ?_ rfl (Below.refl _ _)
                              first | (go_simp; done) | rfl
                            refine G.stepsL_cons (fun a u hc hdd hd hk hdep => ?_) ?_
                            ·
                              have d6 : (a.tmps[6]?).getD undef = (.int .i64 (k : Int)) := hk 6 (by kernel_rfl)
                              refine G.step_val KC KD hc hdd rfl (.int .i64 (k : Int)) u (G.wanted_plain rfl) ?_ rfl (Below.refl _ _)
                              first | (go_simp; done) | rfl
                            refine G.stepsL_cons (fun a u hc hdd hd hk hdep => ?_) ?_
                            ·
                              have d57 : (a.tmps[57]?).getD undef = (.slice (some ⟨b3, off3, none⟩) fs.length ucap) := hdep ⟨2, .data⟩ (by simp) rfl
                              have d58 : (a.tmps[58]?).getD undef = (.int .i64 (k : Int)) := hdep ⟨3, .data⟩ (by simp) rfl
                              refine G.step_val KC KD hc hdd rfl (.pointer (some ⟨b3, off3 + k * 2, none⟩)) u (G.wanted_plain rfl) ?_ rfl (Below.refl _ _)
                              first | (go_simp; done) | rfl
                            refine G.stepsL_cons (fun a u hc hdd hd hk hdep => ?_) ?_
                            ·
                              have d59 : (a.tmps[59]?).getD undef = (.pointer (some ⟨b3, off3 + k * 2, none⟩)) := hdep ⟨4, .data⟩ (by simp) rfl
                              refine G.step_val KC KD hc hdd rfl (.pointer (some ⟨b3, off3 + k * 2 + 1, none⟩)) u (G.wanted_plain rfl) ?_ rfl (Below.refl _ _)
                              first | (go_simp; done) | rfl
                            refine G.stepsL_cons (fun a u hc hdd hd hk hdep => ?_) ?_
                            ·
                              have d60 : (a.tmps[60]?).getD undef = (.pointer (some ⟨b3, off3 + k * 2 + 1, none⟩)) := hdep ⟨5, .data⟩ (by simp) rfl
                              refine G.step_val KC KD hc hdd rfl (.int .i64 vk) u (G.wanted_plain rfl) ?_ rfl (Below.refl _ _)
                              obtain ⟨s0, s1, s2, s3, -⟩ := hc
                              first | (go_simp; done) | rfl
                            refine G.stepsL_cons (fun a u hc hdd hd hk hdep => ?_) ?_
                            ·
                              have d56 : (a.tmps[56]?).getD undef = (.int .i64 vk) := hdep ⟨1, .data⟩ (by simp) rfl
                              have d61 : (a.tmps[61]?).getD undef = (.int .i64 vk) := hdep ⟨6, .data⟩ (by simp) rfl
                              refine G.step_val KC KD hc hdd rfl (.bool false) u (G.wanted_plain rfl) ?_ rfl (Below.refl _ _)
                              first | (go_simp; done) | rfl
                            refine G.stepsL_cons (fun a u hc hdd hd hk hdep => ?_) ?_
                            ·
                              have d62 : (a.tmps[62]?).getD undef = (.bool false) := hdep ⟨7, .data⟩ (by simp) rfl
                              refine G.step_val KC KD hc hdd rfl (.bool false) u (G.wanted_plain rfl) ?_ rfl (Below.refl _ _)
                              first | (go_simp; done) | rfl
                            refine G.stepsL_cons (fun a u hc hdd hd hk hdep => ?_) ?_
                            ·
                              have d7 : (a.tmps[7]?).getD undef = (.pointer (some ⟨g7, 0, none⟩)) := hk 7 (by kernel_rfl)
                              refine G.step_val KC KD hc hdd rfl (.agg #[.int .i64 vk, .int .u64 (vb : Int)]) u ((G.wanted_guard (j := 8) (b := false) (c := false) rfl (hdep ⟨8, .guard⟩ (by simp) rfl)).trans rfl) ?_ rfl (Below.refl _ _)
                              obtain ⟨s0, s1, s2, s3, -⟩ := hc
                              first | (go_simp; done) | rfl
                            refine G.stepsL_cons (fun a u hc hdd hd hk hdep => ?_) ?_
                            ·
                              have d64 : (a.tmps[64]?).getD undef = (.agg #[.int .i64 vk, .int .u64 (vb : Int)]) := hdep ⟨9, .data⟩ (by simp) rfl
                              refine G.step_call KC KD hc hdd rfl 25 #[.agg #[.int .i64 vk, .int .u64 (vb : Int)]] ((G.wanted_guard (j := 8) (b := false) (c := false) rfl (hdep ⟨8, .chain⟩ (by simp) rfl)).trans rfl) (by go_simp) ?_
                              exact (CC.out u).mono (by rintro e w' ⟨rfl, hb⟩; exact ⟨_, rfl, rfl, hb⟩)
                            refine G.stepsL_cons (fun a u hc hdd hd hk hdep => ?_) ?_
                            ·
                              have d7 : (a.tmps[7]?).getD undef = (.pointer (some ⟨g7, 0, none⟩)) := hk 7 (by kernel_rfl)
                              refine G.step_val KC KD hc hdd rfl (.agg #[.int .i64 vk, .int .u64 (vb : Int)]) u ((G.wanted_guard (j := 8) (b := false) (c := false) rfl (hdep ⟨8, .guard⟩ (by simp) rfl)).trans rfl) ?_ rfl (Below.refl _ _)
                              obtain ⟨s0, s1, s2, s3, -⟩ := hc
                              first | (go_simp; done) | rfl
                            refine G.stepsL_cons (fun a u hc hdd hd hk hdep => ?_) ?_
                            ·
                              have d65 : (a.tmps[65]?).getD undef = (.agg #[.int .i64 vk, .int .u64 (vb : Int)]) := hdep ⟨10, .data⟩ (by simp) rfl
                              have d66 : (a.tmps[66]?).getD undef = (.agg #[.int .i64 vk, .int .u64 (vb : Int)]) := hdep ⟨11, .data⟩ (by simp) rfl
                              refine G.step_val KC KD hc hdd rfl (.bool false) u ((G.wanted_guard (j := 8) (b := false) (c := false) rfl (hdep ⟨8, .guard⟩ (by simp) rfl)).trans rfl) ?_ rfl (Below.refl _ _)
                              first | (go_simp; done) | rfl
                            refine G.stepsL_cons (fun a u hc hdd hd hk hdep => ?_) ?_
                            ·
                              have d63 : (a.tmps[63]?).getD undef = (.bool false) := hdep ⟨8, .data⟩ (by simp) rfl
                              have d67 : (a.tmps[67]?).getD undef = (.bool false) := hdep ⟨12, .data⟩ (by simp) rfl
                              refine G.step_val KC KD hc hdd rfl (.bool false) u (G.wanted_plain rfl) ?_ rfl (Below.refl _ _)
                              first | (go_simp; done) | rfl
                            refine G.stepsL_cons (fun a u hc hdd hd hk hdep => ?_) ?_
                            ·
                              have d68 : (a.tmps[68]?).getD undef = (.bool false) := hdep ⟨13, .data⟩ (by simp) rfl
                              refine G.step_val KC KD hc hdd rfl (.bool false) u (G.wanted_plain rfl) ?_ rfl (Below.refl _ _)
                              first | (go_simp; done) | rfl
                            refine G.stepsL_cons (fun a u hc hdd hd hk hdep => ?_) ?_
                            ·
                              have d7 : (a.tmps[7]?).getD undef = (.pointer (some ⟨g7, 0, none⟩)) := hk 7 (by kernel_rfl)
                              refine G.step_val KC KD hc hdd rfl (.pointer (some ⟨g7, 0, none⟩)) u ((G.wanted_guard (j := 14) (b := false) (c := false) rfl (hdep ⟨14, .guard⟩ (by simp) rfl)).trans rfl) ?_ rfl (Below.refl _ _)
                              first | (go_simp; done) | rfl
                            refine G.stepsL_cons (fun a u hc hdd hd hk hdep => ?_) ?_
                            ·
                              have d70 : (a.tmps[70]?).getD undef = (.pointer (some ⟨g7, 0, none⟩)) := hdep ⟨15, .data⟩ (by simp) rfl
                              refine G.step_val KC KD hc hdd rfl (.int .i64 vk) u ((G.wanted_guard (j := 14) (b := false) (c := false) rfl (hdep ⟨14, .guard⟩ (by simp) rfl)).trans rfl) ?_ rfl (Below.refl _ _)
                              obtain ⟨s0, s1, s2, s3, -⟩ := hc
                              first | (go_simp; done) | rfl
                            refine G.stepsL_cons (fun a u hc hdd hd hk hdep => ?_) ?_
                            ·
                              have d71 : (a.tmps[71]?).getD undef = (.int .i64 vk) := hdep ⟨16, .data⟩ (by simp) rfl
                              refine G.step_val KC KD hc hdd rfl (.bool true) u ((G.wanted_guard (j := 14) (b := false) (c := false) rfl (hdep ⟨14, .guard⟩ (by simp) rfl)).trans rfl) ?_ rfl (Below.refl _ _)
                              first | (go_simp; done) | rfl
                            refine G.stepsL_cons (fun a u hc hdd hd hk hdep => ?_) ?_
                            ·
                              have d72 : (a.tmps[72]?).getD undef = (.bool true) := hdep ⟨17, .data⟩ (by simp) rfl
                              refine G.step_val KC KD hc hdd rfl (.bool true) u ((G.wanted_guard (j := 14) (b := false) (c := false) rfl (hdep ⟨14, .chain⟩ (by simp) rfl)).trans rfl) ?_ rfl (Below.refl _ _)
                              first | (go_simp; done) | rfl
                            refine G.stepsL_cons (fun a u hc hdd hd hk hdep => ?_) ?_
                            ·
                              have d7 : (a.tmps[7]?).getD undef = (.pointer (some ⟨g7, 0, none⟩)) := hk 7 (by kernel_rfl)
                              refine G.step_val KC KD hc hdd rfl (.pointer (some ⟨g7, 1, none⟩)) u ((G.wanted_guard (j := 18) (b := true) (c := true) rfl (hdep ⟨18, .guard⟩ (by simp) rfl)).trans rfl) ?_ rfl (Below.refl _ _)
                              first | (go_simp; done) | rfl
                            refine G.stepsL_cons (fun a u hc hdd hd hk hdep => ?_) ?_
                            ·
                              have d74 : (a.tmps[74]?).getD undef = (.pointer (some ⟨g7, 1, none⟩)) := hdep ⟨19, .data⟩ (by simp) rfl
                              refine G.step_val KC KD hc hdd rfl (.int .u64 (vb : Int)) u ((G.wanted_guard (j := 18) (b := true) (c := true) rfl (hdep ⟨18, .guard⟩ (by simp) rfl)).trans rfl) ?_ rfl (Below.refl _ _)
                              obtain ⟨s0, s1, s2, s3, -⟩ := hc
                              first | (go_simp; done) | rfl
                            refine G.stepsL_cons (fun a u hc hdd hd hk hdep => ?_) ?_
                            ·
                              have d2 : (a.tmps[2]?).getD undef = (.pointer (some ⟨w.heap.size, 0, none⟩)) := hk 2 (by kernel_rfl)
                              refine G.step_val KC KD hc hdd rfl (.pointer (some ⟨w.heap.size, 1, none⟩)) u ((G.wanted_guard (j := 18) (b := true) (c := true) rfl (hdep ⟨18, .guard⟩ (by simp) rfl)).trans rfl) ?_ rfl (Below.refl _ _)
                              first | (go_simp; done) | rfl
                            refine G.stepsL_cons (fun a u hc hdd hd hk hdep => ?_) ?_
                            ·
                              have d76 : (a.tmps[76]?).getD undef = (.pointer (some ⟨w.heap.size, 1, none⟩)) := hdep ⟨21, .data⟩ (by simp) rfl
                              refine G.step_val KC KD hc hdd rfl (.slice C ss.length capC) u ((G.wanted_guard (j := 18) (b := true) (c := true) rfl (hdep ⟨18, .guard⟩ (by simp) rfl)).trans rfl) ?_ rfl (Below.refl _ _)
                              obtain ⟨s0, s1, s2, s3, -⟩ := hc
                              first | (go_simp; done) | rfl
                            refine G.stepsL_cons (fun a u hc hdd hd hk hdep => ?_) ?_
                            ·
                              have d77 : (a.tmps[77]?).getD undef = (.slice C ss.length capC) := hdep ⟨22, .data⟩ (by simp) rfl
                              refine G.step_val KC KD hc hdd rfl (.int .i64 (ss.length : Int)) u ((G.wanted_guard (j := 18) (b := true) (c := true) rfl (hdep ⟨18, .guard⟩ (by simp) rfl)).trans rfl) ?_ rfl (Below.refl _ _)
                              first | (go_simp; done) | rfl
                            refine G.stepsL_cons (fun a u hc hdd hd hk hdep => ?_) ?_
                            ·
                              have d78 : (a.tmps[78]?).getD undef = (.int .i64 (ss.length : Int)) := hdep ⟨23, .data⟩ (by simp) rfl
                              refine G.step_val KC KD hc hdd rfl (.int .u64 (ss.length : Int)) u ((G.wanted_guard (j := 18) (b := true) (c := true) rfl (hdep ⟨18, .guard⟩ (by simp) rfl)).trans rfl) ?_ rfl (Below.refl _ _)
                              first | (go_simp; done) | rfl
                            refine G.stepsL_cons (fun a u hc hdd hd hk hdep => ?_) ?_
                            ·
                              have d75 : (a.tmps[75]?).getD undef = (.int .u64 (vb : Int)) := hdep ⟨20, .data⟩ (by simp) rfl
                              have d79 : (a.tmps[79]?).getD undef = (.int .u64 (ss.length : Int)) := hdep ⟨24, .data⟩ (by simp) rfl
                              refine G.step_val KC KD hc hdd rfl (.bool true) u ((G.wanted_guard (j := 18) (b := true) (c := true) rfl (hdep ⟨18, .guard⟩ (by simp) rfl)).trans rfl) ?_ rfl (Below.refl _ _)
                              first | (go_simp; done) | rfl
                            refine G.stepsL_cons (fun a u hc hdd hd hk hdep => ?_) ?_
                            ·
                              have d73 : (a.tmps[73]?).getD undef = (.bool true) := hdep ⟨18, .data⟩ (by simp) rfl
                              have d80 : (a.tmps[80]?).getD undef = (.bool true) := hdep ⟨25, .data⟩ (by simp) rfl
                              refine G.step_val KC KD hc hdd rfl (.bool true) u ((G.wanted_guard (j := 14) (b := false) (c := false) rfl (hdep ⟨14, .guard⟩ (by simp) rfl)).trans rfl) ?_ rfl (Below.refl _ _)
                              first | (go_simp; done) | rfl
                            refine G.stepsL_cons (fun a u hc hdd hd hk hdep => ?_) ?_
                            ·
                              have d69 : (a.tmps[69]?).getD undef = (.bool false) := hdep ⟨14, .data⟩ (by simp) rfl
                              have d81 : (a.tmps[81]?).getD undef = (.bool true) := hdep ⟨26, .data⟩ (by simp) rfl
                              refine G.step_val KC KD hc hdd rfl (.bool true) u (G.wanted_plain rfl) ?_ rfl (Below.refl _ _)
                              first | (go_simp; done) | rfl
                            exact G.stepsL_nil
                          intro vs' wN hN hh
                          have eL : vs' 27 = (.bool true) := by
                            obtain ⟨-, -, -, -, -, -, -, -, -, -, -, -, -, -, -, -, -, -, -, -, -, -, -, -, -, -, -, eX, -⟩ := hh
                            exact eX
                          have eM : True := trivial
                          set_option maxRecDepth 100000 in simp only [putAll, Act.put, List.setIfInBounds_toArray, List.set_cons_zero, List.set_cons_succ, eL]
                          obtain ⟨-, -, -, -, hBz⟩ := hN
                          clear hh
                          replace hBz := Lib.hid hBz
                          go_wp2
                          go_ret
                          exact .no rfl hno.out (mmore hB1 hBz.out)
                        · have hP : ValP (ss.length : Int) vk (vk, vb) := ⟨rfl, hck.out, hcb.out, fun _ => by simp only; omega⟩
                          replace hP := Lib.hid hP
                          have h9' : decide ((vb : Int) ≥ (ss.length : Int)) = false := by simpa using h9
                          replace h8 := Lib.hid h8
                          have KD := G.keepsD_true []
                          refine G.region_words (fun w' => w'.cell? ⟨g7, 0, none⟩ = some (.int .i64 vk) ∧ w'.cell? ⟨g7, 1, none⟩ = some (.int .u64 (vb : Int)) ∧ w'.cell? ⟨b3, off3 + k * 2 + 1, none⟩ = some (.int .i64 vk) ∧ w'.cell? ⟨w.heap.size, 1, none⟩ = some (.slice C ss.length capC) ∧ Below w1.heap.size w1 w') [G.isW (.pointer (some ⟨g7, 0, none⟩)), G.isW (.int .i64 vk), G.isW (.slice (some ⟨b3, off3, none⟩) fs.length ucap), G.isW (.int .i64 (k : Int)), G.isW (.pointer (some ⟨b3, off3 + k * 2, none⟩)), G.isW (.pointer (some ⟨b3, off3 + k * 2 + 1, none⟩)), G.isW (.int .i64 vk), G.isW (.bool false), G.isW (.bool false), G.isW (.agg #[.int .i64 vk, .int .u64 (vb : Int)]), G.isW (.agg #[.int .i64 vk, .int .u64 (vb : Int)]), G.isW (.agg #[.int .i64 vk, .int .u64 (vb : Int)]), G.isW (.bool false), G.isW (.bool false), G.isW (.bool false), G.isW (.pointer (some ⟨g7, 0, none⟩)), G.isW (.int .i64 vk), G.isW (.bool true), G.isW (.bool true), G.isW (.pointer (some ⟨g7, 1, none⟩)), G.isW (.int .u64 (vb : Int)), G.isW (.pointer (some ⟨w.heap.size, 1, none⟩)), G.isW (.slice C ss.length capC), G.isW (.int .i64 (ss.length : Int)), G.isW (.int .u64 (ss.length : Int)), G.isW (.bool false), G.isW (.bool false), G.isW (.bool false)] (by kernel_rfl) (by repeat' (first | exact G.monoL_nil | exact G.is_mono _ | refine G.monoL_cons ?_ ?_)) (by kernel_rfl) (by kernel_rfl) (fun _ _ h hb => keepR hb h) ⟨z0, z1, z2, z3, z4.drew⟩ ?_ ?_
                          · intro KC
                            clear z0 z1 z2 z3 z4
                            refine G.stepsL_cons (fun a u hc hdd hd hk hdep => ?_) ?_
                            ·
                              have d7 : (a.tmps[7]?).getD undef = (.pointer (some ⟨g7, 0, none⟩)) := hk 7 (by kernel_rfl)
                              refine G.step_val KC KD hc hdd rfl (.pointer (some ⟨g7, 0, none⟩)) u (G.wanted_plain rfl) ?_ rfl (Below.refl _ _)
                              first | (go_simp; done) | rfl
                            refine G.stepsL_cons (fun a u hc hdd hd hk hdep => ?_) ?_
                            ·
                              have d55 : (a.tmps[55]?).getD undef = (.pointer (some ⟨g7, 0, none⟩)) := hdep ⟨0, .data⟩ (by simp) rfl
                              refine G.step_val KC KD hc hdd rfl (.int .i64 vk) u (G.wanted_plain rfl) ?_ rfl (Below.refl _ _)
                              obtain ⟨s0, s1, s2, s3, -⟩ := hc
                              first | (go_simp; done) | rfl
                            refine G.stepsL_cons (fun a u hc hdd hd hk hdep => ?_) ?_
                            ·
                              have d5 : (a.tmps[5]?).getD undef = (.slice (some ⟨b3, off3, none⟩) fs.length ucap) := hk 5 (by kernel_rfl)
                              refine G.step_val KC KD hc hdd rfl (.slice (some ⟨b3, off3, none⟩) fs.length ucap) u (G.wanted_plain rfl) ?_ rfl (Below.refl _ _)
                              first | (go_simp; done) | rfl
                            refine G.stepsL_cons (fun a u hc hdd hd hk hdep => ?_) ?_
                            ·
                              have d6 : (a.tmps[6]?).getD undef = (.int .i64 (k : Int)) := hk 6 (by kernel_rfl)
                              refine G.step_val KC KD hc hdd rfl (.int .i64 (k : Int)) u (G.wanted_plain rfl) ?_ rfl (Below.refl _ _)
                              first | (go_simp; done) | rfl
                            refine G.stepsL_cons (fun a u hc hdd hd hk hdep => ?_) ?_
                            ·
                              have d57 : (a.tmps[57]?).getD undef = (.slice (some ⟨b3, off3, none⟩) fs.length ucap) := hdep ⟨2, .data⟩ (by simp) rfl
                              have d58 : (a.tmps[58]?).getD undef = (.int .i64 (k : Int)) := hdep ⟨3, .data⟩ (by simp) rfl
                              refine G.step_val KC KD hc hdd rfl (.pointer (some ⟨b3, off3 + k * 2, none⟩)) u (G.wanted_plain rfl) ?_ rfl (Below.refl _ _)
                              first | (go_simp; done) | rfl
                            refine G.stepsL_cons (fun a u hc hdd hd hk hdep => ?_) ?_
                            ·
                              have d59 : (a.tmps[59]?).getD undef = (.pointer (some ⟨b3, off3 + k * 2, none⟩)) := hdep ⟨4, .data⟩ (by simp) rfl
                              refine G.step_val KC KD hc hdd rfl (.pointer (some ⟨b3, off3 + k * 2 + 1, none⟩)) u (G.wanted_plain rfl) ?_ rfl (Below.refl _ _)
                              first | (go_simp; done) | rfl
                            refine G.stepsL_cons (fun a u hc hdd hd hk hdep => ?_) ?_
                            ·
                              have d60 : (a.tmps[60]?).getD undef = (.pointer (some ⟨b3, off3 + k * 2 + 1, none⟩)) := hdep ⟨5, .data⟩ (by simp) rfl
                              refine G.step_val KC KD hc hdd rfl (.int .i64 vk) u (G.wanted_plain rfl) ?_ rfl (Below.refl _ _)
                              obtain ⟨s0, s1, s2, s3, -⟩ := hc
                              first | (go_simp; done) | rfl
                            refine G.stepsL_cons (fun a u hc hdd hd hk hdep => ?_) ?_
                            ·
                              have d56 : (a.tmps[56]?).getD undef = (.int .i64 vk) := hdep ⟨1, .data⟩ (by simp) rfl
                              have d61 : (a.tmps[61]?).getD undef = (.int .i64 vk) := hdep ⟨6, .data⟩ (by simp) rfl
                              refine G.step_val KC KD hc hdd rfl (.bool false) u (G.wanted_plain rfl) ?_ rfl (Below.refl _ _)
                              first | (go_simp; done) | rfl
                            refine G.stepsL_cons (fun a u hc hdd hd hk hdep => ?_) ?_
                            ·
                              have d62 : (a.tmps[62]?).getD undef = (.bool false) := hdep ⟨7, .data⟩ (by simp) rfl
                              refine G.step_val KC KD hc hdd rfl (.bool false) u (G.wanted_plain rfl) ?_ rfl (Below.refl _ _)
                              first | (go_simp; done) | rfl
                            refine G.stepsL_cons (fun a u hc hdd hd hk hdep => ?_) ?_
                            ·
                              have d7 : (a.tmps[7]?).getD undef = (.pointer (some ⟨g7, 0, none⟩)) := hk 7 (by kernel_rfl)
                              refine G.step_val KC KD hc hdd rfl (.agg #[.int .i64 vk, .int .u64 (vb : Int)]) u ((G.wanted_guard (j := 8) (b := false) (c := false) rfl (hdep ⟨8, .guard⟩ (by simp) rfl)).trans rfl) ?_ rfl (Below.refl _ _)
                              obtain ⟨s0, s1, s2, s3, -⟩ := hc
                              first | (go_simp; done) | rfl
                            refine G.stepsL_cons (fun a u hc hdd hd hk hdep => ?_) ?_
                            ·
                              have d64 : (a.tmps[64]?).getD undef = (.agg #[.int .i64 vk, .int .u64 (vb : Int)]) := hdep ⟨9, .data⟩ (by simp) rfl
                              refine G.step_call KC KD hc hdd rfl 25 #[.agg #[.int .i64 vk, .int .u64 (vb : Int)]] ((G.wanted_guard (j := 8) (b := false) (c := false) rfl (hdep ⟨8, .chain⟩ (by simp) rfl)).trans rfl) (by go_simp) ?_
                              exact (CC.out u).mono (by rintro e w' ⟨rfl, hb⟩; exact ⟨_, rfl, rfl, hb⟩)
                            refine G.stepsL_cons (fun a u hc hdd hd hk hdep => ?_) ?_
                            ·
                              have d7 : (a.tmps[7]?).getD undef = (.pointer (some ⟨g7, 0, none⟩)) := hk 7 (by kernel_rfl)
                              refine G.step_val KC KD hc hdd rfl (.agg #[.int .i64 vk, .int .u64 (vb : Int)]) u ((G.wanted_guard (j := 8) (b := false) (c := false) rfl (hdep ⟨8, .guard⟩ (by simp) rfl)).trans rfl) ?_ rfl (Below.refl _ _)
                              obtain ⟨s0, s1, s2, s3, -⟩ := hc
                              first | (go_simp; done) | rfl
                            refine G.stepsL_cons (fun a u hc hdd hd hk hdep => ?_) ?_
                            ·
                              have d65 : (a.tmps[65]?).getD undef = (.agg #[.int .i64 vk, .int .u64 (vb : Int)]) := hdep ⟨10, .data⟩ (by simp) rfl
                              have d66 : (a.tmps[66]?).getD undef = (.agg #[.int .i64 vk, .int .u64 (vb : Int)]) := hdep ⟨11, .data⟩ (by simp) rfl
                              refine G.step_val KC KD hc hdd rfl (.bool false) u ((G.wanted_guard (j := 8) (b := false) (c := false) rfl (hdep ⟨8, .guard⟩ (by simp) rfl)).trans rfl) ?_ rfl (Below.refl _ _)
                              first | (go_simp; done) | rfl
                            refine G.stepsL_cons (fun a u hc hdd hd hk hdep => ?_) ?_
                            ·
                              have d63 : (a.tmps[63]?).getD undef = (.bool false) := hdep ⟨8, .data⟩ (by simp) rfl
                              have d67 : (a.tmps[67]?).getD undef = (.bool false) := hdep ⟨12, .data⟩ (by simp) rfl
                              refine G.step_val KC KD hc hdd rfl (.bool false) u (G.wanted_plain rfl) ?_ rfl (Below.refl _ _)
                              first | (go_simp; done) | rfl
                            refine G.stepsL_cons (fun a u hc hdd hd hk hdep => ?_) ?_
                            ·
                              have d68 : (a.tmps[68]?).getD undef = (.bool false) := hdep ⟨13, .data⟩ (by simp) rfl
                              refine G.step_val KC KD hc hdd rfl (.bool false) u (G.wanted_plain rfl) ?_ rfl (Below.refl _ _)
                              first | (go_simp; done) | rfl
                            refine G.stepsL_cons (fun a u hc hdd hd hk hdep => ?_) ?_
                            ·
                              have d7 : (a.tmps[7]?).getD undef = (.pointer (some ⟨g7, 0, none⟩)) := hk 7 (by kernel_rfl)
                              refine G.step_val KC KD hc hdd rfl (.pointer (some ⟨g7, 0, none⟩)) u ((G.wanted_guard (j := 14) (b := false) (c := false) rfl (hdep ⟨14, .guard⟩ (by simp) rfl)).trans rfl) ?_ rfl (Below.refl _ _)
                              first | (go_simp; done) | rfl
                            refine G.stepsL_cons (fun a u hc hdd hd hk hdep => ?_) ?_
                            ·
                              have d70 : (a.tmps[70]?).getD undef = (.pointer (some ⟨g7, 0, none⟩)) := hdep ⟨15, .data⟩ (by simp) rfl
                              refine G.step_val KC KD hc hdd rfl (.int .i64 vk) u ((G.wanted_guard (j := 14) (b := false) (c := false) rfl (hdep ⟨14, .guard⟩ (by simp) rfl)).trans rfl) ?_ rfl (Below.refl _ _)
                              obtain ⟨s0, s1, s2, s3, -⟩ := hc
                              first | (go_simp; done) | rfl
                            refine G.stepsL_cons (fun a u hc hdd hd hk hdep => ?_) ?_
                            ·
                              have d71 : (a.tmps[71]?).getD undef = (.int .i64 vk) := hdep ⟨16, .data⟩ (by simp) rfl
                              refine G.step_val KC KD hc hdd rfl (.bool true) u ((G.wanted_guard (j := 14) (b := false) (c := false) rfl (hdep ⟨14, .guard⟩ (by simp) rfl)).trans rfl) ?_ rfl (Below.refl _ _)
                              first | (go_simp; done) | rfl
                            refine G.stepsL_cons (fun a u hc hdd hd hk hdep => ?_) ?_
                            ·
                              have d72 : (a.tmps[72]?).getD undef = (.bool true) := hdep ⟨17, .data⟩ (by simp) rfl
                              refine G.step_val KC KD hc hdd rfl (.bool true) u ((G.wanted_guard (j := 14) (b := false) (c := false) rfl (hdep ⟨14, .chain⟩ (by simp) rfl)).trans rfl) ?_ rfl (Below.refl _ _)
                              first | (go_simp; done) | rfl
                            refine G.stepsL_cons (fun a u hc hdd hd hk hdep => ?_) ?_
                            ·
                              have d7 : (a.tmps[7]?).getD undef = (.pointer (some ⟨g7, 0, none⟩)) := hk 7 (by kernel_rfl)
                              refine G.step_val KC KD hc hdd rfl (.pointer (some ⟨g7, 1, none⟩)) u ((G.wanted_guard (j := 18) (b := true) (c := true) rfl (hdep ⟨18, .guard⟩ (by simp) rfl)).trans rfl) ?_ rfl (Below.refl _ _)
                              first | (go_simp; done) | rfl
                            refine G.stepsL_cons (fun a u hc hdd hd hk hdep => ?_) ?_
                            ·
                              have d74 : (a.tmps[74]?).getD undef = (.pointer (some ⟨g7, 1, none⟩)) := hdep ⟨19, .data⟩ (by simp) rfl
                              refine G.step_val KC KD hc hdd rfl (.int .u64 (vb : Int)) u ((G.wanted_guard (j := 18) (b := true) (c := true) rfl (hdep ⟨18, .guard⟩ (by simp) rfl)).trans rfl) ?_ rfl (Below.refl _ _)
                              obtain ⟨s0, s1, s2, s3, -⟩ := hc
                              first | (go_simp; done) | rfl
                            refine G.stepsL_cons (fun a u hc hdd hd hk hdep => ?_) ?_
                            ·
                              have d2 : (a.tmps[2]?).getD undef = (.pointer (some ⟨w.heap.size, 0, none⟩)) := hk 2 (by kernel_rfl)
                              refine G.step_val KC KD hc hdd rfl (.pointer (some ⟨w.heap.size, 1, none⟩)) u ((G.wanted_guard (j := 18) (b := true) (c := true) rfl (hdep ⟨18, .guard⟩ (by simp) rfl)).trans rfl) ?_ rfl (Below.refl _ _)
                              first | (go_simp; done) | rfl
                            refine G.stepsL_cons (fun a u hc hdd hd hk hdep => ?_) ?_
                            ·
                              have d76 : (a.tmps[76]?).getD undef = (.pointer (some ⟨w.heap.size, 1, none⟩)) := hdep ⟨21, .data⟩ (by simp) rfl
                              refine G.step_val KC KD hc hdd rfl (.slice C ss.length capC) u ((G.wanted_guard (j := 18) (b := true) (c := true) rfl (hdep ⟨18, .guard⟩ (by simp) rfl)).trans rfl) ?_ rfl (Below.refl _ _)
                              obtain ⟨s0, s1, s2, s3, -⟩ := hc
                              first | (go_simp; done) | rfl
                            refine G.stepsL_cons (fun a u hc hdd hd hk hdep => ?_) ?_
                            ·
                              have d77 : (a.tmps[77]?).getD undef = (.slice C ss.length capC) := hdep ⟨22, .data⟩ (by simp) rfl
                              refine G.step_val KC KD hc hdd rfl (.int .i64 (ss.length : Int)) u ((G.wanted_guard (j := 18) (b := true) (c := true) rfl (hdep ⟨18, .guard⟩ (by simp) rfl)).trans rfl) ?_ rfl (Below.refl _ _)
                              first | (go_simp; done) | rfl
                            refine G.stepsL_cons (fun a u hc hdd hd hk hdep => ?_) ?_
                            ·
                              have d78 : (a.tmps[78]?).getD undef = (.int .i64 (ss.length : Int)) := hdep ⟨23, .data⟩ (by simp) rfl
                              refine G.step_val KC KD hc hdd rfl (.int .u64 (ss.length : Int)) u ((G.wanted_guard (j := 18) (b := true) (c := true) rfl (hdep ⟨18, .guard⟩ (by simp) rfl)).trans rfl) ?_ rfl (Below.refl _ _)
                              first | (go_simp; done) | rfl
                            refine G.stepsL_cons (fun a u hc hdd hd hk hdep => ?_) ?_
                            ·
                              have d75 : (a.tmps[75]?).getD undef = (.int .u64 (vb : Int)) := hdep ⟨20, .data⟩ (by simp) rfl
                              have d79 : (a.tmps[79]?).getD undef = (.int .u64 (ss.length : Int)) := hdep ⟨24, .data⟩ (by simp) rfl
                              refine G.step_val KC KD hc hdd rfl (.bool false) u ((G.wanted_guard (j := 18) (b := true) (c := true) rfl (hdep ⟨18, .guard⟩ (by simp) rfl)).trans rfl) ?_ rfl (Below.refl _ _)
                              first | (go_simp; done) | rfl
                            refine G.stepsL_cons (fun a u hc hdd hd hk hdep => ?_) ?_
                            ·
                              have d73 : (a.tmps[73]?).getD undef = (.bool true) := hdep ⟨18, .data⟩ (by simp) rfl
                              have d80 : (a.tmps[80]?).getD undef = (.bool false) := hdep ⟨25, .data⟩ (by simp) rfl
                              refine G.step_val KC KD hc hdd rfl (.bool false) u ((G.wanted_guard (j := 14) (b := false) (c := false) rfl (hdep ⟨14, .guard⟩ (by simp) rfl)).trans rfl) ?_ rfl (Below.refl _ _)
                              first | (go_simp; done) | rfl
                            refine G.stepsL_cons (fun a u hc hdd hd hk hdep => ?_) ?_
                            ·
                              have d69 : (a.tmps[69]?).getD undef = (.bool false) := hdep ⟨14, .data⟩ (by simp) rfl
                              have d81 : (a.tmps[81]?).getD undef = (.bool false) := hdep ⟨26, .data⟩ (by simp) rfl
                              refine G.step_val KC KD hc hdd rfl (.bool false) u (G.wanted_plain rfl) ?_ rfl (Below.refl _ _)
                              first | (go_simp; done) | rfl
                            exact G.stepsL_nil
                          intro vs' wN hN hh
                          have eL : vs' 27 = (.bool false) := by
                            obtain ⟨-, -, -, -, -, -, -, -, -, -, -, -, -, -, -, -, -, -, -, -, -, -, -, -, -, -, -, eX, -⟩ := hh
                            exact eX
                          have eM : True := trivial
                          set_option maxRecDepth 100000 in simp only [putAll, Act.put, List.setIfInBounds_toArray, List.set_cons_zero, List.set_cons_succ, eL]
                          obtain ⟨-, -, -, -, hBz⟩ := hN
                          clear hh
                          replace hBz := Lib.hid hBz
                          go_wp2
                          go_roundw
                          case rel => first | exact ⟨k + 1, by omega, by go_num, Lib.hid (hF.out.step hvk.out hxk.out hP.out), hBz.out⟩ | exact ⟨k + 1, by omega, by go_num, Lib.hid (hF.out.step hvk.out hxk.out hP.out)⟩
                          case measure => simp [intOf]; omega
                      · have h8' : (vk == 3) = false := by simpa using h8
                        have hP : ValP (ss.length : Int) vk (vk, vb) := ⟨rfl, hck.out, hcb.out, fun h => absurd h h8⟩
                        replace hP := Lib.hid hP
                        clear h8
                        have KD := G.keepsD_true []
                        refine G.region_words (fun w' => w'.cell? ⟨g7, 0, none⟩ = some (.int .i64 vk) ∧ w'.cell? ⟨g7, 1, none⟩ = some (.int .u64 (vb : Int)) ∧ w'.cell? ⟨b3, off3 + k * 2 + 1, none⟩ = some (.int .i64 vk) ∧ w'.cell? ⟨w.heap.size, 1, none⟩ = some (.slice C ss.length capC) ∧ Below w1.heap.size w1 w') [G.isW (.pointer (some ⟨g7, 0, none⟩)), G.isW (.int .i64 vk), G.isW (.slice (some ⟨b3, off3, none⟩) fs.length ucap), G.isW (.int .i64 (k : Int)), G.isW (.pointer (some ⟨b3, off3 + k * 2, none⟩)), G.isW (.pointer (some ⟨b3, off3 + k * 2 + 1, none⟩)), G.isW (.int .i64 vk), G.isW (.bool false), G.isW (.bool false), G.isW (.agg #[.int .i64 vk, .int .u64 (vb : Int)]), G.isW (.agg #[.int .i64 vk, .int .u64 (vb : Int)]), G.isW (.agg #[.int .i64 vk, .int .u64 (vb : Int)]), G.isW (.bool false), G.isW (.bool false), G.isW (.bool false), G.isW (.pointer (some ⟨g7, 0, none⟩)), G.isW (.int .i64 vk), G.isW (.bool false), G.isW (.bool false), G.isW undef, G.isW undef, G.isW undef, G.isW undef, G.isW undef, G.isW undef, G.isW undef, G.isW (.bool false), G.isW (.bool false)] (by kernel_rfl) (by repeat' (first | exact G.monoL_nil | exact G.is_mono _ | refine G.monoL_cons ?_ ?_)) (by kernel_rfl) (by kernel_rfl) (fun _ _ h hb => keepR hb h) ⟨z0, z1, z2, z3, z4.drew⟩ ?_ ?_
                        · intro KC
                          clear z0 z1 z2 z3 z4
                          refine G.stepsL_cons (fun a u hc hdd hd hk hdep => ?_) ?_
                          ·
                            have d7 : (a.tmps[7]?).getD undef = (.pointer (some ⟨g7, 0, none⟩)) := hk 7 (by kernel_rfl)
                            refine G.step_val KC KD hc hdd rfl (.pointer (some ⟨g7, 0, none⟩)) u (G.wanted_plain rfl) ?_ rfl (Below.refl _ _)
                            first | (go_simp; done) | rfl
                          refine G.stepsL_cons (fun a u hc hdd hd hk hdep => ?_) ?_
                          ·
                            have d55 : (a.tmps[55]?).getD undef = (.pointer (some ⟨g7, 0, none⟩)) := hdep ⟨0, .data⟩ (by simp) rfl
                            refine G.step_val KC KD hc hdd rfl (.int .i64 vk) u (G.wanted_plain rfl) ?_ rfl (Below.refl _ _)
                            obtain ⟨s0, s1, s2, s3, -⟩ := hc
                            first | (go_simp; done) | rfl
                          refine G.stepsL_cons (fun a u hc hdd hd hk hdep => ?_) ?_
                          ·
                            have d5 : (a.tmps[5]?).getD undef = (.slice (some ⟨b3, off3, none⟩) fs.length ucap) := hk 5 (by kernel_rfl)
                            refine G.step_val KC KD hc hdd rfl (.slice (some ⟨b3, off3, none⟩) fs.length ucap) u (G.wanted_plain rfl) ?_ rfl (Below.refl _ _)
                            first | (go_simp; done) | rfl
                          refine G.stepsL_cons (fun a u hc hdd hd hk hdep => ?_) ?_
                          ·
                            have d6 : (a.tmps[6]?).getD undef = (.int .i64 (k : Int)) := hk 6 (by kernel_rfl)
                            refine G.step_val KC KD hc hdd rfl (.int .i64 (k : Int)) u (G.wanted_plain rfl) ?_ rfl (Below.refl _ _)
                            first | (go_simp; done) | rfl
                          refine G.stepsL_cons (fun a u hc hdd hd hk hdep => ?_) ?_
                          ·
                            have d57 : (a.tmps[57]?).getD undef = (.slice (some ⟨b3, off3, none⟩) fs.length ucap) := hdep ⟨2, .data⟩ (by simp) rfl
                            have d58 : (a.tmps[58]?).getD undef = (.int .i64 (k : Int)) := hdep ⟨3, .data⟩ (by simp) rfl
                            refine G.step_val KC KD hc hdd rfl (.pointer (some ⟨b3, off3 + k * 2, none⟩)) u (G.wanted_plain rfl) ?_ rfl (Below.refl _ _)
                            first | (go_simp; done) | rfl
                          refine G.stepsL_cons (fun a u hc hdd hd hk hdep => ?_) ?_
                          ·
                            have d59 : (a.tmps[59]?).getD undef = (.pointer (some ⟨b3, off3 + k * 2, none⟩)) := hdep ⟨4, .data⟩ (by simp) rfl
                            refine G.step_val KC KD hc hdd rfl (.pointer (some ⟨b3, off3 + k * 2 + 1, none⟩)) u (G.wanted_plain rfl) ?_ rfl (Below.refl _ _)
                            first | (go_simp; done) | rfl
                          refine G.stepsL_cons (fun a u hc hdd hd hk hdep => ?_) ?_
                          ·
                            have d60 : (a.tmps[60]?).getD undef = (.pointer (some ⟨b3, off3 + k * 2 + 1, none⟩)) := hdep ⟨5, .data⟩ (by simp) rfl
                            refine G.step_val KC KD hc hdd rfl (.int .i64 vk) u (G.wanted_plain rfl) ?_ rfl (Below.refl _ _)
                            obtain ⟨s0, s1, s2, s3, -⟩ := hc
                            first | (go_simp; done) | rfl
                          refine G.stepsL_cons (fun a u hc hdd hd hk hdep => ?_) ?_
                          ·
                            have d56 : (a.tmps[56]?).getD undef = (.int .i64 vk) := hdep ⟨1, .data⟩ (by simp) rfl
                            have d61 : (a.tmps[61]?).getD undef = (.int .i64 vk) := hdep ⟨6, .data⟩ (by simp) rfl
                            refine G.step_val KC KD hc hdd rfl (.bool false) u (G.wanted_plain rfl) ?_ rfl (Below.refl _ _)
                            first | (go_simp; done) | rfl
                          refine G.stepsL_cons (fun a u hc hdd hd hk hdep => ?_) ?_
                          ·
                            have d62 : (a.tmps[62]?).getD undef = (.bool false) := hdep ⟨7, .data⟩ (by simp) rfl
                            refine G.step_val KC KD hc hdd rfl (.bool false) u (G.wanted_plain rfl) ?_ rfl (Below.refl _ _)
                            first | (go_simp; done) | rfl
                          refine G.stepsL_cons (fun a u hc hdd hd hk hdep => ?_) ?_
                          ·
                            have d7 : (a.tmps[7]?).getD undef = (.pointer (some ⟨g7, 0, none⟩)) := hk 7 (by kernel_rfl)
                            refine G.step_val KC KD hc hdd rfl (.agg #[.int .i64 vk, .int .u64 (vb : Int)]) u ((G.wanted_guard (j := 8) (b := false) (c := false) rfl (hdep ⟨8, .guard⟩ (by simp) rfl)).trans rfl) ?_ rfl (Below.refl _ _)
                            obtain ⟨s0, s1, s2, s3, -⟩ := hc
                            first | (go_simp; done) | rfl
                          refine G.stepsL_cons (fun a u hc hdd hd hk hdep => ?_) ?_
                          ·
                            have d64 : (a.tmps[64]?).getD undef = (.agg #[.int .i64 vk, .int .u64 (vb : Int)]) := hdep ⟨9, .data⟩ (by simp) rfl
                            refine G.step_call KC KD hc hdd rfl 25 #[.agg #[.int .i64 vk, .int .u64 (vb : Int)]] ((G.wanted_guard (j := 8) (b := false) (c := false) rfl (hdep ⟨8, .chain⟩ (by simp) rfl)).trans rfl) (by go_simp) ?_
                            exact (CC.out u).mono (by rintro e w' ⟨rfl, hb⟩; exact ⟨_, rfl, rfl, hb⟩)
                          refine G.stepsL_cons (fun a u hc hdd hd hk hdep => ?_) ?_
                          ·
                            have d7 : (a.tmps[7]?).getD undef = (.pointer (some ⟨g7, 0, none⟩)) := hk 7 (by kernel_rfl)
                            refine G.step_val KC KD hc hdd rfl (.agg #[.int .i64 vk, .int .u64 (vb : Int)]) u ((G.wanted_guard (j := 8) (b := false) (c := false) rfl (hdep ⟨8, .guard⟩ (by simp) rfl)).trans rfl) ?_ rfl (Below.refl _ _)
                            obtain ⟨s0, s1, s2, s3, -⟩ := hc
                            first | (go_simp; done) | rfl
                          refine G.stepsL_cons (fun a u hc hdd hd hk hdep => ?_) ?_
                          ·
                            have d65 : (a.tmps[65]?).getD undef = (.agg #[.int .i64 vk, .int .u64 (vb : Int)]) := hdep ⟨10, .data⟩ (by simp) rfl
                            have d66 : (a.tmps[66]?).getD undef = (.agg #[.int .i64 vk, .int .u64 (vb : Int)]) := hdep ⟨11, .data⟩ (by simp) rfl
                            refine G.step_val KC KD hc hdd rfl (.bool false) u ((G.wanted_guard (j := 8) (b := false) (c := false) rfl (hdep ⟨8, .guard⟩ (by simp) rfl)).trans rfl) ?_ rfl (Below.refl _ _)
                            first | (go_simp; done) | rfl
                          refine G.stepsL_cons (fun a u hc hdd hd hk hdep => ?_) ?_
                          ·
                            have d63 : (a.tmps[63]?).getD undef = (.bool false) := hdep ⟨8, .data⟩ (by simp) rfl
                            have d67 : (a.tmps[67]?).getD undef = (.bool false) := hdep ⟨12, .data⟩ (by simp) rfl
                            refine G.step_val KC KD hc hdd rfl (.bool false) u (G.wanted_plain rfl) ?_ rfl (Below.refl _ _)
                            first | (go_simp; done) | rfl
                          refine G.stepsL_cons (fun a u hc hdd hd hk hdep => ?_) ?_
                          ·
                            have d68 : (a.tmps[68]?).getD undef = (.bool false) := hdep ⟨13, .data⟩ (by simp) rfl
                            refine G.step_val KC KD hc hdd rfl (.bool false) u (G.wanted_plain rfl) ?_ rfl (Below.refl _ _)
                            first | (go_simp; done) | rfl
                          refine G.stepsL_cons (fun a u hc hdd hd hk hdep => ?_) ?_
                          ·
                            have d7 : (a.tmps[7]?).getD undef = (.pointer (some ⟨g7, 0, none⟩)) := hk 7 (by kernel_rfl)
                            refine G.step_val KC KD hc hdd rfl (.pointer (some ⟨g7, 0, none⟩)) u ((G.wanted_guard (j := 14) (b := false) (c := false) rfl (hdep ⟨14, .guard⟩ (by simp) rfl)).trans rfl) ?_ rfl (Below.refl _ _)
                            first | (go_simp; done) | rfl
                          refine G.stepsL_cons (fun a u hc hdd hd hk hdep => ?_) ?_
                          ·
                            have d70 : (a.tmps[70]?).getD undef = (.pointer (some ⟨g7, 0, none⟩)) := hdep ⟨15, .data⟩ (by simp) rfl
                            refine G.step_val KC KD hc hdd rfl (.int .i64 vk) u ((G.wanted_guard (j := 14) (b := false) (c := false) rfl (hdep ⟨14, .guard⟩ (by simp) rfl)).trans rfl) ?_ rfl (Below.refl _ _)
                            obtain ⟨s0, s1, s2, s3, -⟩ := hc
                            first | (go_simp; done) | rfl
                          refine G.stepsL_cons (fun a u hc hdd hd hk hdep => ?_) ?_
                          ·
                            have d71 : (a.tmps[71]?).getD undef = (.int .i64 vk) := hdep ⟨16, .data⟩ (by simp) rfl
                            refine G.step_val KC KD hc hdd rfl (.bool false) u ((G.wanted_guard (j := 14) (b := false) (c := false) rfl (hdep ⟨14, .guard⟩ (by simp) rfl)).trans rfl) ?_ rfl (Below.refl _ _)
                            first | (go_simp; done) | rfl
                          refine G.stepsL_cons (fun a u hc hdd hd hk hdep => ?_) ?_
                          ·
                            have d72 : (a.tmps[72]?).getD undef = (.bool false) := hdep ⟨17, .data⟩ (by simp) rfl
                            refine G.step_val KC KD hc hdd rfl (.bool false) u ((G.wanted_guard (j := 14) (b := false) (c := false) rfl (hdep ⟨14, .chain⟩ (by simp) rfl)).trans rfl) ?_ rfl (Below.refl _ _)
                            first | (go_simp; done) | rfl
                          refine G.stepsL_cons (fun a u hc hdd hd hk hdep => ?_) ?_
                          · exact G.step_skip KD hc hdd rfl ((G.wanted_guard (j := 18) (b := true) (c := false) rfl (hdep ⟨18, .guard⟩ (by simp) rfl)).trans rfl) rfl
                          refine G.stepsL_cons (fun a u hc hdd hd hk hdep => ?_) ?_
                          · exact G.step_skip KD hc hdd rfl ((G.wanted_guard (j := 18) (b := true) (c := false) rfl (hdep ⟨18, .guard⟩ (by simp) rfl)).trans rfl) rfl
                          refine G.stepsL_cons (fun a u hc hdd hd hk hdep => ?_) ?_
                          · exact G.step_skip KD hc hdd rfl ((G.wanted_guard (j := 18) (b := true) (c := false) rfl (hdep ⟨18, .guard⟩ (by simp) rfl)).trans rfl) rfl
                          refine G.stepsL_cons (fun a u hc hdd hd hk hdep => ?_) ?_
                          · exact G.step_skip KD hc hdd rfl ((G.wanted_guard (j := 18) (b := true) (c := false) rfl (hdep ⟨18, .guard⟩ (by simp) rfl)).trans rfl) rfl
                          refine G.stepsL_cons (fun a u hc hdd hd hk hdep => ?_) ?_
                          · exact G.step_skip KD hc hdd rfl ((G.wanted_guard (j := 18) (b := true) (c := false) rfl (hdep ⟨18, .guard⟩ (by simp) rfl)).trans rfl) rfl
                          refine G.stepsL_cons (fun a u hc hdd hd hk hdep => ?_) ?_
                          · exact G.step_skip KD hc hdd rfl ((G.wanted_guard (j := 18) (b := true) (c := false) rfl (hdep ⟨18, .guard⟩ (by simp) rfl)).trans rfl) rfl
                          refine G.stepsL_cons (fun a u hc hdd hd hk hdep => ?_) ?_
                          · exact G.step_skip KD hc hdd rfl ((G.wanted_guard (j := 18) (b := true) (c := false) rfl (hdep ⟨18, .guard⟩ (by simp) rfl)).trans rfl) rfl
                          refine G.stepsL_cons (fun a u hc hdd hd hk hdep => ?_) ?_
                          ·
                            have d73 : (a.tmps[73]?).getD undef = (.bool false) := hdep ⟨18, .data⟩ (by simp) rfl
                            have d80 : (a.tmps[80]?).getD undef = undef := hdep ⟨25, .data⟩ (by simp) rfl
                            refine G.step_val KC KD hc hdd rfl (.bool false) u ((G.wanted_guard (j := 14) (b := false) (c := false) rfl (hdep ⟨14, .guard⟩ (by simp) rfl)).trans rfl) ?_ rfl (Below.refl _ _)
                            first | (go_simp; done) | rfl
                          refine G.stepsL_cons (fun a u hc hdd hd hk hdep => ?_) ?_
                          ·
                            have d69 : (a.tmps[69]?).getD undef = (.bool false) := hdep ⟨14, .data⟩ (by simp) rfl
                            have d81 : (a.tmps[81]?).getD undef = (.bool false) := hdep ⟨26, .data⟩ (by simp) rfl
                            refine G.step_val KC KD hc hdd rfl (.bool false) u (G.wanted_plain rfl) ?_ rfl (Below.refl _ _)
                            first | (go_simp; done) | rfl
                          exact G.stepsL_nil
                        intro vs' wN hN hh
                        have eL : vs' 27 = (.bool false) := by
                          obtain ⟨-, -, -, -, -, -, -, -, -, -, -, -, -, -, -, -, -, -, -, -, -, -, -, -, -, -, -, eX, -⟩ := hh
                          exact eX
                        have eM : True := trivial
                        set_option maxRecDepth 100000 in simp only [putAll, Act.put, List.setIfInBounds_toArray, List.set_cons_zero, List.set_cons_succ, eL]
                        obtain ⟨-, -, -, -, hBz⟩ := hN
                        clear hh
                        replace hBz := Lib.hid hBz
                        go_wp2
                        go_roundw
                        case rel => first | exact ⟨k + 1, by omega, by go_num, Lib.hid (hF.out.step hvk.out hxk.out hP.out), hBz.out⟩ | exact ⟨k + 1, by omega, by go_num, Lib.hid (hF.out.step hvk.out hxk.out hP.out)⟩
                        case measure => simp [intOf]; omega
                    · have hno := Lib.hid (hno7.out h7)
                      have he : ∀ w : World, (binOp .neq 64 (.agg #[.int .i64 ck, .int .u64 (cb : Int)]) (.agg #[.int .i64 vk, .int .u64 (vb : Int)])).run Tryz.prog w = .ok (.bool true) w := fun w => by
                        rw [neqR, decide_eq_false (fun h => h7 ⟨h.1.symm, by have := h.2; omega⟩)]
                        rfl
                      clear hno7 h7
                      have KD := G.keepsD_true []
                      refine G.region_words (fun w' => w'.cell? ⟨g7, 0, none⟩ = some (.int .i64 vk) ∧ w'.cell? ⟨g7, 1, none⟩ = some (.int .u64 (vb : Int)) ∧ w'.cell? ⟨b3, off3 + k * 2 + 1, none⟩ = some (.int .i64 vk) ∧ w'.cell? ⟨w.heap.size, 1, none⟩ = some (.slice C ss.length capC) ∧ Below w1.heap.size w1 w') [G.isW (.pointer (some ⟨g7, 0, none⟩)), G.isW (.int .i64 vk), G.isW (.slice (some ⟨b3, off3, none⟩) fs.length ucap), G.isW (.int .i64 (k : Int)), G.isW (.pointer (some ⟨b3, off3 + k * 2, none⟩)), G.isW (.pointer (some ⟨b3, off3 + k * 2 + 1, none⟩)), G.isW (.int .i64 vk), G.isW (.bool false), G.isW (.bool false), G.isW (.agg #[.int .i64 vk, .int .u64 (vb : Int)]), G.isW (.agg #[.int .i64 ck, .int .u64 (cb : Int)]), G.isW (.agg #[.int .i64 vk, .int .u64 (vb : Int)]), G.isW (.bool true), G.isW (.bool true), G.isW (.bool true), G.isW undef, G.isW undef, G.isW undef, G.isW undef, G.isW undef, G.isW undef, G.isW undef, G.isW undef, G.isW undef, G.isW undef, G.isW undef, G.isW undef, G.isW (.bool true)] (by kernel_rfl) (by repeat' (first | exact G.monoL_nil | exact G.is_mono _ | refine G.monoL_cons ?_ ?_)) (by kernel_rfl) (by kernel_rfl) (fun _ _ h hb => keepR hb h) ⟨z0, z1, z2, z3, z4.drew⟩ ?_ ?_
                      · intro KC
                        clear z0 z1 z2 z3 z4
                        refine G.stepsL_cons (fun a u hc hdd hd hk hdep => ?_) ?_
                        ·
                          have d7 : (a.tmps[7]?).getD undef = (.pointer (some ⟨g7, 0, none⟩)) := hk 7 (by kernel_rfl)
                          refine G.step_val KC KD hc hdd rfl (.pointer (some ⟨g7, 0, none⟩)) u (G.wanted_plain rfl) ?_ rfl (Below.refl _ _)
                          first | (go_simp; done) | rfl
                        refine G.stepsL_cons (fun a u hc hdd hd hk hdep => ?_) ?_
                        ·
                          have d55 : (a.tmps[55]?).getD undef = (.pointer (some ⟨g7, 0, none⟩)) := hdep ⟨0, .data⟩ (by simp) rfl
                          refine G.step_val KC KD hc hdd rfl (.int .i64 vk) u (G.wanted_plain rfl) ?_ rfl (Below.refl _ _)
                          obtain ⟨s0, s1, s2, s3, -⟩ := hc
                          first | (go_simp; done) | rfl
                        refine G.stepsL_cons (fun a u hc hdd hd hk hdep => ?_) ?_
                        ·
                          have d5 : (a.tmps[5]?).getD undef = (.slice (some ⟨b3, off3, none⟩) fs.length ucap) := hk 5 (by kernel_rfl)
                          refine G.step_val KC KD hc hdd rfl (.slice (some ⟨b3, off3, none⟩) fs.length ucap) u (G.wanted_plain rfl) ?_ rfl (Below.refl _ _)
                          first | (go_simp; done) | rfl
                        refine G.stepsL_cons (fun a u hc hdd hd hk hdep => ?_) ?_
                        ·
                          have d6 : (a.tmps[6]?).getD undef = (.int .i64 (k : Int)) := hk 6 (by kernel_rfl)
                          refine G.step_val KC KD hc hdd rfl (.int .i64 (k : Int)) u (G.wanted_plain rfl) ?_ rfl (Below.refl _ _)
                          first | (go_simp; done) | rfl
                        refine G.stepsL_cons (fun a u hc hdd hd hk hdep => ?_) ?_
                        ·
                          have d57 : (a.tmps[57]?).getD undef = (.slice (some ⟨b3, off3, none⟩) fs.length ucap) := hdep ⟨2, .data⟩ (by simp) rfl
                          have d58 : (a.tmps[58]?).getD undef = (.int .i64 (k : Int)) := hdep ⟨3, .data⟩ (by simp) rfl
                          refine G.step_val KC KD hc hdd rfl (.pointer (some ⟨b3, off3 + k * 2, none⟩)) u (G.wanted_plain rfl) ?_ rfl (Below.refl _ _)
                          first | (go_simp; done) | rfl
                        refine G.stepsL_cons (fun a u hc hdd hd hk hdep => ?_) ?_
                        ·
                          have d59 : (a.tmps[59]?).getD undef = (.pointer (some ⟨b3, off3 + k * 2, none⟩)) := hdep ⟨4, .data⟩ (by simp) rfl
                          refine G.step_val KC KD hc hdd rfl (.pointer (some ⟨b3, off3 + k * 2 + 1, none⟩)) u (G.wanted_plain rfl) ?_ rfl (Below.refl _ _)
                          first | (go_simp; done) | rfl
                        refine G.stepsL_cons (fun a u hc hdd hd hk hdep => ?_) ?_
                        ·
                          have d60 : (a.tmps[60]?).getD undef = (.pointer (some ⟨b3, off3 + k * 2 + 1, none⟩)) := hdep ⟨5, .data⟩ (by simp) rfl
                          refine G.step_val KC KD hc hdd rfl (.int .i64 vk) u (G.wanted_plain rfl) ?_ rfl (Below.refl _ _)
                          obtain ⟨s0, s1, s2, s3, -⟩ := hc
                          first | (go_simp; done) | rfl
                        refine G.stepsL_cons (fun a u hc hdd hd hk hdep => ?_) ?_
                        ·
                          have d56 : (a.tmps[56]?).getD undef = (.int .i64 vk) := hdep ⟨1, .data⟩ (by simp) rfl
                          have d61 : (a.tmps[61]?).getD undef = (.int .i64 vk) := hdep ⟨6, .data⟩ (by simp) rfl
                          refine G.step_val KC KD hc hdd rfl (.bool false) u (G.wanted_plain rfl) ?_ rfl (Below.refl _ _)
                          first | (go_simp; done) | rfl
                        refine G.stepsL_cons (fun a u hc hdd hd hk hdep => ?_) ?_
                        ·
                          have d62 : (a.tmps[62]?).getD undef = (.bool false) := hdep ⟨7, .data⟩ (by simp) rfl
                          refine G.step_val KC KD hc hdd rfl (.bool false) u (G.wanted_plain rfl) ?_ rfl (Below.refl _ _)
                          first | (go_simp; done) | rfl
                        refine G.stepsL_cons (fun a u hc hdd hd hk hdep => ?_) ?_
                        ·
                          have d7 : (a.tmps[7]?).getD undef = (.pointer (some ⟨g7, 0, none⟩)) := hk 7 (by kernel_rfl)
                          refine G.step_val KC KD hc hdd rfl (.agg #[.int .i64 vk, .int .u64 (vb : Int)]) u ((G.wanted_guard (j := 8) (b := false) (c := false) rfl (hdep ⟨8, .guard⟩ (by simp) rfl)).trans rfl) ?_ rfl (Below.refl _ _)
                          obtain ⟨s0, s1, s2, s3, -⟩ := hc
                          first | (go_simp; done) | rfl
                        refine G.stepsL_cons (fun a u hc hdd hd hk hdep => ?_) ?_
                        ·
                          have d64 : (a.tmps[64]?).getD undef = (.agg #[.int .i64 vk, .int .u64 (vb : Int)]) := hdep ⟨9, .data⟩ (by simp) rfl
                          refine G.step_call KC KD hc hdd rfl 25 #[.agg #[.int .i64 vk, .int .u64 (vb : Int)]] ((G.wanted_guard (j := 8) (b := false) (c := false) rfl (hdep ⟨8, .chain⟩ (by simp) rfl)).trans rfl) (by go_simp) ?_
                          exact (CC.out u).mono (by rintro e w' ⟨rfl, hb⟩; exact ⟨_, rfl, rfl, hb⟩)
                        refine G.stepsL_cons (fun a u hc hdd hd hk hdep => ?_) ?_
                        ·
                          have d7 : (a.tmps[7]?).getD undef = (.pointer (some ⟨g7, 0, none⟩)) := hk 7 (by kernel_rfl)
                          refine G.step_val KC KD hc hdd rfl (.agg #[.int .i64 vk, .int .u64 (vb : Int)]) u ((G.wanted_guard (j := 8) (b := false) (c := false) rfl (hdep ⟨8, .guard⟩ (by simp) rfl)).trans rfl) ?_ rfl (Below.refl _ _)
                          obtain ⟨s0, s1, s2, s3, -⟩ := hc
                          first | (go_simp; done) | rfl
                        refine G.stepsL_cons (fun a u hc hdd hd hk hdep => ?_) ?_
                        ·
                          have d65 : (a.tmps[65]?).getD undef = (.agg #[.int .i64 ck, .int .u64 (cb : Int)]) := hdep ⟨10, .data⟩ (by simp) rfl
                          have d66 : (a.tmps[66]?).getD undef = (.agg #[.int .i64 vk, .int .u64 (vb : Int)]) := hdep ⟨11, .data⟩ (by simp) rfl
                          refine G.step_val KC KD hc hdd rfl (.bool true) u ((G.wanted_guard (j := 8) (b := false) (c := false) rfl (hdep ⟨8, .guard⟩ (by simp) rfl)).trans rfl) ?_ rfl (Below.refl _ _)
                          first | (go_simp; done) | rfl
                        refine G.stepsL_cons (fun a u hc hdd hd hk hdep => ?_) ?_
                        ·
                          have d63 : (a.tmps[63]?).getD undef = (.bool false) := hdep ⟨8, .data⟩ (by simp) rfl
                          have d67 : (a.tmps[67]?).getD undef = (.bool true) := hdep ⟨12, .data⟩ (by simp) rfl
                          refine G.step_val KC KD hc hdd rfl (.bool true) u (G.wanted_plain rfl) ?_ rfl (Below.refl _ _)
                          first | (go_simp; done) | rfl
                        refine G.stepsL_cons (fun a u hc hdd hd hk hdep => ?_) ?_
                        ·
                          have d68 : (a.tmps[68]?).getD undef = (.bool true) := hdep ⟨13, .data⟩ (by simp) rfl
                          refine G.step_val KC KD hc hdd rfl (.bool true) u (G.wanted_plain rfl) ?_ rfl (Below.refl _ _)
                          first | (go_simp; done) | rfl
                        refine G.stepsL_cons (fun a u hc hdd hd hk hdep => ?_) ?_
                        · exact G.step_skip KD hc hdd rfl ((G.wanted_guard (j := 14) (b := false) (c := true) rfl (hdep ⟨14, .guard⟩ (by simp) rfl)).trans rfl) rfl
                        refine G.stepsL_cons (fun a u hc hdd hd hk hdep => ?_) ?_
                        · exact G.step_skip KD hc hdd rfl ((G.wanted_guard (j := 14) (b := false) (c := true) rfl (hdep ⟨14, .guard⟩ (by simp) rfl)).trans rfl) rfl
                        refine G.stepsL_cons (fun a u hc hdd hd hk hdep => ?_) ?_
                        · exact G.step_skip KD hc hdd rfl ((G.wanted_guard (j := 14) (b := false) (c := true) rfl (hdep ⟨14, .guard⟩ (by simp) rfl)).trans rfl) rfl
                        refine G.stepsL_cons (fun a u hc hdd hd hk hdep => ?_) ?_
                        · exact G.step_skip KD hc hdd rfl ((G.wanted_guard (j := 14) (b := false) (c := true) rfl (hdep ⟨14, .chain⟩ (by simp) rfl)).trans rfl) rfl
                        refine G.stepsL_cons (fun a u hc hdd hd hk hdep => ?_) ?_
                        · exact G.step_skip KD hc hdd rfl (G.wanted_undef (j := 18) (b := true) rfl (hdep ⟨18, .guard⟩ (by simp) rfl)) rfl
                        refine G.stepsL_cons (fun a u hc hdd hd hk hdep => ?_) ?_
                        · exact G.step_skip KD hc hdd rfl (G.wanted_undef (j := 18) (b := true) rfl (hdep ⟨18, .guard⟩ (by simp) rfl)) rfl
                        refine G.stepsL_cons (fun a u hc hdd hd hk hdep => ?_) ?_
                        · exact G.step_skip KD hc hdd rfl (G.wanted_undef (j := 18) (b := true) rfl (hdep ⟨18, .guard⟩ (by simp) rfl)) rfl
                        refine G.stepsL_cons (fun a u hc hdd hd hk hdep => ?_) ?_
                        · exact G.step_skip KD hc hdd rfl (G.wanted_undef (j := 18) (b := true) rfl (hdep ⟨18, .guard⟩ (by simp) rfl)) rfl
                        refine G.stepsL_cons (fun a u hc hdd hd hk hdep => ?_) ?_
                        · exact G.step_skip KD hc hdd rfl (G.wanted_undef (j := 18) (b := true) rfl (hdep ⟨18, .guard⟩ (by simp) rfl)) rfl
                        refine G.stepsL_cons (fun a u hc hdd hd hk hdep => ?_) ?_
                        · exact G.step_skip KD hc hdd rfl (G.wanted_undef (j := 18) (b := true) rfl (hdep ⟨18, .guard⟩ (by simp) rfl)) rfl
                        refine G.stepsL_cons (fun a u hc hdd hd hk hdep => ?_) ?_
                        · exact G.step_skip KD hc hdd rfl (G.wanted_undef (j := 18) (b := true) rfl (hdep ⟨18, .guard⟩ (by simp) rfl)) rfl
                        refine G.stepsL_cons (fun a u hc hdd hd hk hdep => ?_) ?_
                        · exact G.step_skip KD hc hdd rfl ((G.wanted_guard (j := 14) (b := false) (c := true) rfl (hdep ⟨14, .guard⟩ (by simp) rfl)).trans rfl) rfl
                        refine G.stepsL_cons (fun a u hc hdd hd hk hdep => ?_) ?_
                        ·
                          have d69 : (a.tmps[69]?).getD undef = (.bool true) := hdep ⟨14, .data⟩ (by simp) rfl
                          have d81 : (a.tmps[81]?).getD undef = undef := hdep ⟨26, .data⟩ (by simp) rfl
                          refine G.step_val KC KD hc hdd rfl (.bool true) u (G.wanted_plain rfl) ?_ rfl (Below.refl _ _)
                          first | (go_simp; done) | rfl
                        exact G.stepsL_nil
                      intro vs' wN hN hh
                      have eL : vs' 27 = (.bool true) := by
                        obtain ⟨-, -, -, -, -, -, -, -, -, -, -, -, -, -, -, -, -, -, -, -, -, -, -, -, -, -, -, eX, -⟩ := hh
                        exact eX
                      have eM : True := trivial
                      set_option maxRecDepth 100000 in simp only [putAll, Act.put, List.setIfInBounds_toArray, List.set_cons_zero, List.set_cons_succ, eL]
                      obtain ⟨-, -, -, -, hBz⟩ := hN
                      clear hh
                      replace hBz := Lib.hid hBz
                      go_wp2
                      go_ret
                      exact .no rfl hno.out (mmore hB1 hBz.out)
                  · have h6' : (vk != x) = true := by simp [h6]
                    have hno : ¬ EvOk ts ss (t : Int) tm vs := fun h => h6 ((h.2.fit hkk.out).2 k _ x hvk.out hxk.out).1
                    replace hno := Lib.hid hno
                    clear h6
                    have KD := G.keepsD_true []
                    refine G.region_words (fun w' => w'.cell? ⟨g7, 0, none⟩ = some (.int .i64 vk) ∧ w'.cell? ⟨g7, 1, none⟩ = some (.int .u64 (vb : Int)) ∧ w'.cell? ⟨b3, off3 + k * 2 + 1, none⟩ = some (.int .i64 x) ∧ w'.cell? ⟨w.heap.size, 1, none⟩ = some (.slice C ss.length capC) ∧ Below w1.heap.size w1 w') [G.isW (.pointer (some ⟨g7, 0, none⟩)), G.isW (.int .i64 vk), G.isW (.slice (some ⟨b3, off3, none⟩) fs.length ucap), G.isW (.int .i64 (k : Int)), G.isW (.pointer (some ⟨b3, off3 + k * 2, none⟩)), G.isW (.pointer (some ⟨b3, off3 + k * 2 + 1, none⟩)), G.isW (.int .i64 x), G.isW (.bool true), G.isW (.bool true), G.isW undef, G.isW undef, G.isW undef, G.isW undef, G.isW (.bool true), G.isW (.bool true), G.isW undef, G.isW undef, G.isW undef, G.isW undef, G.isW undef, G.isW undef, G.isW undef, G.isW undef, G.isW undef, G.isW undef, G.isW undef, G.isW undef, G.isW (.bool true)] (by kernel_rfl) (by repeat' (first | exact G.monoL_nil | exact G.is_mono _ | refine G.monoL_cons ?_ ?_)) (by kernel_rfl) (by kernel_rfl) (fun _ _ h hb => keepR hb h) ⟨z0, z1, z2, z3, z4.drew⟩ ?_ ?_
                    · intro KC
                      clear z0 z1 z2 z3 z4
                      refine G.stepsL_cons (fun a u hc hdd hd hk hdep => ?_) ?_
                      ·
                        have d7 : (a.tmps[7]?).getD undef = (.pointer (some ⟨g7, 0, none⟩)) := hk 7 (by kernel_rfl)
                        refine G.step_val KC KD hc hdd rfl (.pointer (some ⟨g7, 0, none⟩)) u (G.wanted_plain rfl) ?_ rfl (Below.refl _ _)
                        first | (go_simp; done) | rfl
                      refine G.stepsL_cons (fun a u hc hdd hd hk hdep => ?_) ?_
                      ·
                        have d55 : (a.tmps[55]?).getD undef = (.pointer (some ⟨g7, 0, none⟩)) := hdep ⟨0, .data⟩ (by simp) rfl
                        refine G.step_val KC KD hc hdd rfl (.int .i64 vk) u (G.wanted_plain rfl) ?_ rfl (Below.refl _ _)
                        obtain ⟨s0, s1, s2, s3, -⟩ := hc
                        first | (go_simp; done) | rfl
                      refine G.stepsL_cons (fun a u hc hdd hd hk hdep => ?_) ?_
                      ·
                        have d5 : (a.tmps[5]?).getD undef = (.slice (some ⟨b3, off3, none⟩) fs.length ucap) := hk 5 (by kernel_rfl)
                        refine G.step_val KC KD hc hdd rfl (.slice (some ⟨b3, off3, none⟩) fs.length ucap) u (G.wanted_plain rfl) ?_ rfl (Below.refl _ _)
                        first | (go_simp; done) | rfl
                      refine G.stepsL_cons (fun a u hc hdd hd hk hdep => ?_) ?_
                      ·
                        have d6 : (a.tmps[6]?).getD undef = (.int .i64 (k : Int)) := hk 6 (by kernel_rfl)
                        refine G.step_val KC KD hc hdd rfl (.int .i64 (k : Int)) u (G.wanted_plain rfl) ?_ rfl (Below.refl _ _)
                        first | (go_simp; done) | rfl
                      refine G.stepsL_cons (fun a u hc hdd hd hk hdep => ?_) ?_
                      ·
                        have d57 : (a.tmps[57]?).getD undef = (.slice (some ⟨b3, off3, none⟩) fs.length ucap) := hdep ⟨2, .data⟩ (by simp) rfl
                        have d58 : (a.tmps[58]?).getD undef = (.int .i64 (k : Int)) := hdep ⟨3, .data⟩ (by simp) rfl
                        refine G.step_val KC KD hc hdd rfl (.pointer (some ⟨b3, off3 + k * 2, none⟩)) u (G.wanted_plain rfl) ?_ rfl (Below.refl _ _)
                        first | (go_simp; done) | rfl
                      refine G.stepsL_cons (fun a u hc hdd hd hk hdep => ?_) ?_
                      ·
                        have d59 : (a.tmps[59]?).getD undef = (.pointer (some ⟨b3, off3 + k * 2, none⟩)) := hdep ⟨4, .data⟩ (by simp) rfl
                        refine G.step_val KC KD hc hdd rfl (.pointer (some ⟨b3, off3 + k * 2 + 1, none⟩)) u (G.wanted_plain rfl) ?_ rfl (Below.refl _ _)
                        first | (go_simp; done) | rfl
                      refine G.stepsL_cons (fun a u hc hdd hd hk hdep => ?_) ?_
                      ·
                        have d60 : (a.tmps[60]?).getD undef = (.pointer (some ⟨b3, off3 + k * 2 + 1, none⟩)) := hdep ⟨5, .data⟩ (by simp) rfl
                        refine G.step_val KC KD hc hdd rfl (.int .i64 x) u (G.wanted_plain rfl) ?_ rfl (Below.refl _ _)
                        obtain ⟨s0, s1, s2, s3, -⟩ := hc
                        first | (go_simp; done) | rfl
                      refine G.stepsL_cons (fun a u hc hdd hd hk hdep => ?_) ?_
                      ·
                        have d56 : (a.tmps[56]?).getD undef = (.int .i64 vk) := hdep ⟨1, .data⟩ (by simp) rfl
                        have d61 : (a.tmps[61]?).getD undef = (.int .i64 x) := hdep ⟨6, .data⟩ (by simp) rfl
                        refine G.step_val KC KD hc hdd rfl (.bool true) u (G.wanted_plain rfl) ?_ rfl (Below.refl _ _)
                        first | (go_simp; done) | rfl
                      refine G.stepsL_cons (fun a u hc hdd hd hk hdep => ?_) ?_
                      ·
                        have d62 : (a.tmps[62]?).getD undef = (.bool true) := hdep ⟨7, .data⟩ (by simp) rfl
                        refine G.step_val KC KD hc hdd rfl (.bool true) u (G.wanted_plain rfl) ?_ rfl (Below.refl _ _)
                        first | (go_simp; done) | rfl
                      refine G.stepsL_cons (fun a u hc hdd hd hk hdep => ?_) ?_
                      · exact G.step_skip KD hc hdd rfl ((G.wanted_guard (j := 8) (b := false) (c := true) rfl (hdep ⟨8, .guard⟩ (by simp) rfl)).trans rfl) rfl
                      refine G.stepsL_cons (fun a u hc hdd hd hk hdep => ?_) ?_
                      · exact G.step_skip KD hc hdd rfl ((G.wanted_guard (j := 8) (b := false) (c := true) rfl (hdep ⟨8, .chain⟩ (by simp) rfl)).trans rfl) rfl
                      refine G.stepsL_cons (fun a u hc hdd hd hk hdep => ?_) ?_
                      · exact G.step_skip KD hc hdd rfl ((G.wanted_guard (j := 8) (b := false) (c := true) rfl (hdep ⟨8, .guard⟩ (by simp) rfl)).trans rfl) rfl
                      refine G.stepsL_cons (fun a u hc hdd hd hk hdep => ?_) ?_
                      · exact G.step_skip KD hc hdd rfl ((G.wanted_guard (j := 8) (b := false) (c := true) rfl (hdep ⟨8, .guard⟩ (by simp) rfl)).trans rfl) rfl
                      refine G.stepsL_cons (fun a u hc hdd hd hk hdep => ?_) ?_
                      ·
                        have d63 : (a.tmps[63]?).getD undef = (.bool true) := hdep ⟨8, .data⟩ (by simp) rfl
                        have d67 : (a.tmps[67]?).getD undef = undef := hdep ⟨12, .data⟩ (by simp) rfl
                        refine G.step_val KC KD hc hdd rfl (.bool true) u (G.wanted_plain rfl) ?_ rfl (Below.refl _ _)
                        first | (go_simp; done) | rfl
                      refine G.stepsL_cons (fun a u hc hdd hd hk hdep => ?_) ?_
                      ·
                        have d68 : (a.tmps[68]?).getD undef = (.bool true) := hdep ⟨13, .data⟩ (by simp) rfl
                        refine G.step_val KC KD hc hdd rfl (.bool true) u (G.wanted_plain rfl) ?_ rfl (Below.refl _ _)
                        first | (go_simp; done) | rfl
                      refine G.stepsL_cons (fun a u hc hdd hd hk hdep => ?_) ?_
                      · exact G.step_skip KD hc hdd rfl ((G.wanted_guard (j := 14) (b := false) (c := true) rfl (hdep ⟨14, .guard⟩ (by simp) rfl)).trans rfl) rfl
                      refine G.stepsL_cons (fun a u hc hdd hd hk hdep => ?_) ?_
                      · exact G.step_skip KD hc hdd rfl ((G.wanted_guard (j := 14) (b := false) (c := true) rfl (hdep ⟨14, .guard⟩ (by simp) rfl)).trans rfl) rfl
                      refine G.stepsL_cons (fun a u hc hdd hd hk hdep => ?_) ?_
                      · exact G.step_skip KD hc hdd rfl ((G.wanted_guard (j := 14) (b := false) (c := true) rfl (hdep ⟨14, .guard⟩ (by simp) rfl)).trans rfl) rfl
                      refine G.stepsL_cons (fun a u hc hdd hd hk hdep => ?_) ?_
                      · exact G.step_skip KD hc hdd rfl ((G.wanted_guard (j := 14) (b := false) (c := true) rfl (hdep ⟨14, .chain⟩ (by simp) rfl)).trans rfl) rfl
                      refine G.stepsL_cons (fun a u hc hdd hd hk hdep => ?_) ?_
                      · exact G.step_skip KD hc hdd rfl (G.wanted_undef (j := 18) (b := true) rfl (hdep ⟨18, .guard⟩ (by simp) rfl)) rfl
                      refine G.stepsL_cons (fun a u hc hdd hd hk hdep => ?_) ?_
                      · exact G.step_skip KD hc hdd rfl (G.wanted_undef (j := 18) (b := true) rfl (hdep ⟨18, .guard⟩ (by simp) rfl)) rfl
                      refine G.stepsL_cons (fun a u hc hdd hd hk hdep => ?_) ?_
                      · exact G.step_skip KD hc hdd rfl (G.wanted_undef (j := 18) (b := true) rfl (hdep ⟨18, .guard⟩ (by simp) rfl)) rfl
                      refine G.stepsL_cons (fun a u hc hdd hd hk hdep => ?_) ?_
                      · exact G.step_skip KD hc hdd rfl (G.wanted_undef (j := 18) (b := true) rfl (hdep ⟨18, .guard⟩ (by simp) rfl)) rfl
                      refine G.stepsL_cons (fun a u hc hdd hd hk hdep => ?_) ?_
                      · exact G.step_skip KD hc hdd rfl (G.wanted_undef (j := 18) (b := true) rfl (hdep ⟨18, .guard⟩ (by simp) rfl)) rfl
                      refine G.stepsL_cons (fun a u hc hdd hd hk hdep => ?_) ?_
                      · exact G.step_skip KD hc hdd rfl (G.wanted_undef (j := 18) (b := true) rfl (hdep ⟨18, .guard⟩ (by simp) rfl)) rfl
                      refine G.stepsL_cons (fun a u hc hdd hd hk hdep => ?_) ?_
                      · exact G.step_skip KD hc hdd rfl (G.wanted_undef (j := 18) (b := true) rfl (hdep ⟨18, .guard⟩ (by simp) rfl)) rfl
                      refine G.stepsL_cons (fun a u hc hdd hd hk hdep => ?_) ?_
                      · exact G.step_skip KD hc hdd rfl ((G.wanted_guard (j := 14) (b := false) (c := true) rfl (hdep ⟨14, .guard⟩ (by simp) rfl)).trans rfl) rfl
                      refine G.stepsL_cons (fun a u hc hdd hd hk hdep => ?_) ?_
                      ·
                        have d69 : (a.tmps[69]?).getD undef = (.bool true) := hdep ⟨14, .data⟩ (by simp) rfl
                        have d81 : (a.tmps[81]?).getD undef = undef := hdep ⟨26, .data⟩ (by simp) rfl
                        refine G.step_val KC KD hc hdd rfl (.bool true) u (G.wanted_plain rfl) ?_ rfl (Below.refl _ _)
                        first | (go_simp; done) | rfl
                      exact G.stepsL_nil
                    intro vs' wN hN hh
                    have eL : vs' 27 = (.bool true) := by
                      obtain ⟨-, -, -, -, -, -, -, -, -, -, -, -, -, -, -, -, -, -, -, -, -, -, -, -, -, -, -, eX, -⟩ := hh
                      exact eX
                    have eM : True := trivial
                    set_option maxRecDepth 100000 in simp only [putAll, Act.put, List.setIfInBounds_toArray, List.set_cons_zero, List.set_cons_succ, eL]
                    obtain ⟨-, -, -, -, hBz⟩ := hN
                    clear hh
                    replace hBz := Lib.hid hBz
                    go_wp2
                    go_ret
                    exact .no rfl hno.out (mmore hB1 hBz.out)
                · obtain rfl : k = vs.length := by omega
                  have hB9 := mmore hB1 hB
                  go_wp2
                  go_ret
                  exact .yes rfl ⟨hC.out, by have := hE.out.1; omega, by have := hE.out.2; omega, t, ksT (nm, fs), rfl, hkk.out, by rw [ksT_length]; exact h5.out, fun i v x hi hx => hF.out i v x (List.getElem?_eq_some_iff.1 hi).1 hi hx⟩ hB9
            · have h5' : ((vs.length : Int) != (fs.length : Int)) = true := by simp; omega
              have hno : ¬ EvOk ts ss (t : Int) tm vs := fun h => h5 (by have := (h.2.fit hkk.out).1; rw [ksT_length] at this; exact this)
              replace hno := Lib.hid hno
              go_wp2
              go_ret
              exact .no rfl hno.out hB1
      · have hno : ¬ EvOk ts ss ty tm vs := fun h => by
          obtain ⟨_, _, _, t, ks, e, hk, _⟩ := h
          have := (List.getElem?_eq_some_iff.1 hk).1
          omega
        replace hno := Lib.hid hno
        go_wp2
        go_ret
        exact .no rfl hno.out hB1
  · have h0' : (c' != 0) = true := by simpa using h0
    have hno : ¬ EvOk ts ss ty tm vs := fun h => h0 (check_one hC.out h.1)
    replace hno := Lib.hid hno
    clear h0
    go_wp2
    go_ret
    exact .no rfl hno.out hB1
end Go.Proofs.YtkmlbifhpkfinaaGreatDoor
