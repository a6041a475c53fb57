/- SchemaThere: in a schema that is right each name is found where it stands. -/
import Derived.Test.YtpjlocmohcjpfaaRows
import Derived.WalkKit
import Derived.ProofKit
import Derived.OpenShut
import Derived.ShutString
import Derived.ChangeOld
import Derived.Below
import Derived.Lib.SmallJoins
import Derived.SizedLaws
import Derived.Test.YtpjlocmohcjpfaaSchA
import Derived.Test.YtpjlocmohcjpfaaSchO
import Derived.Test.YtpjlocmohcjpfaaChkB
import Derived.Test.YtpjlocmohcjpfaaInvG
namespace Go.Proofs.Ytpjlocmohcjpfaa.schemaThere
open Go.ChangeShapes Go.WideShapes Go.ChangeAt Go.RowKit Go.Joins
set_option linter.unusedVariables false
set_option linter.unusedSimpArgs false

theorem own : ownKnob Try.prog.godebug = none := by kernel_rfl
theorem laidOut : laidOutB Try.prog = true := by kernel_rfl

theorem keep6 {w0 w w1 : World} {a0 a1 a2 a3 : Addr} {v0 v1 v2 v3 : Value} {A2 : Option Addr} {ts : List ST} (hb : Below w.heap.size w w1)
    (h : w.cell? a0 = some v0 ∧ w.cell? a1 = some v1 ∧ w.cell? a2 = some v2 ∧ w.cell? a3 = some v3 ∧ TypesAt w A2 ts ∧ Below w0.heap.size w0 w) :
    w1.cell? a0 = some v0 ∧ w1.cell? a1 = some v1 ∧ w1.cell? a2 = some v2 ∧ w1.cell? a3 = some v3 ∧ TypesAt w1 A2 ts ∧ Below w0.heap.size w0 w1 := by
  obtain ⟨h0, h1, h2, h3, h4, h5⟩ := h
  exact ⟨cell_later hb h0, cell_later hb h1, cell_later hb h2, cell_later hb h3, h4.later hb, mmore h5 hb⟩
theorem place_at {α : Type} (f : α → ByteArray) (l : List α) (k : Nat) (x : α) (h : l[k]? = some x) (hd : DistinctP (l.map f)) : place (fun y => (f y).toList == (f x).toList) l = (k : Int) ∧ NameP (f x) := by
  have hx := hd k (f x) (by rw [List.getElem?_map, h]; rfl)
  exact ⟨place_hit _ l k x h (by simp) (fun j y hj hy => hx.2 j (f y) hj (by rw [List.getElem?_map, hy]; rfl)), hx.1⟩
theorem kind_at {ts : List ST} {k j : Nat} {x : ST} {f : SF} (h : ts[k]? = some x) (hf : x.2[j]? = some f) : kindOf ts (k : Int) (j : Int) = f.2 := by
  rw [kindOf_in h, if_neg (by omega), if_pos (by omega), Int.toNat_natCast, hf]

set_option maxHeartbeats 4000000 in
theorem walk (w : World) (x0 y0 : Value) (t0 : List ST) (s0 : List ByteArray) (w0 : TypesIn w x0 t0) (u0 : SymsIn w y0 s0) (p0 : t0.length * 40 ≤ 140737488351232) (q0 : ∀ t ∈ t0, t.2.length * 24 ≤ 140737488351232) (r0 : s0.length * 16 ≤ 140737488351232) :
    Calls Try.prog 9 #[.agg #[x0, y0]] w fun e w' => e = .returned (.bool true) ∧ Below w.heap.size w w' := by
  have hn : t0.length ≤ 9223372036854775807 := by omega
  have hs : s0.length ≤ 9223372036854775807 := by omega
  have hf : ∀ x ∈ t0, x.2.length ≤ 9223372036854775807 := fun x hx => by have := q0 x hx; omega
  obtain ⟨A, cap, rfl, hTA⟩ := w0.slice
  obtain ⟨B, capB, rfl, hSB⟩ := u0.slice
  have HW := Lib.hid (And.intro w0 u0)
  have hb0 := m1 w (.cells #[.slice A t0.length cap, .slice B s0.length capB] 41)
  have hTA1 := Lib.hid (hTA.later hb0)
  have hSB1 := Lib.hid (hSB.later hb0)
  have c0 : (w.alloc (.cells #[.slice A t0.length cap, .slice B s0.length capB] 41)).cell? ⟨w.heap.size, 0, none⟩ = some (.slice A t0.length cap) := by simp [go_sem]
  have c1 : (w.alloc (.cells #[.slice A t0.length cap, .slice B s0.length capB] 41)).cell? ⟨w.heap.size, 1, none⟩ = some (.slice B s0.length capB) := by simp [go_sem]
  have hp0 := p0
  replace p0 := Lib.hid p0
  replace q0 := Lib.hid q0
  replace r0 := Lib.hid r0
  clear hTA hSB w0 u0
  go_enter Try.func9, Try.ntmps9
  go_wp2_with fail
  generalize (w.alloc (.cells #[.slice A t0.length cap, .slice B s0.length capB] 41)) = v at *
  refine (sto_any _ _ t0 s0 v (HW.out.1.later hb0) (HW.out.2.later hb0) p0.out q0.out r0.out).mono ?_; rintro e w2 ⟨x1, x2, rfl, hT2, hS2, hb2⟩
  obtain ⟨A2, cap2, rfl, hTA2⟩ := hT2.slice
  obtain ⟨B2, capB2, rfl, hS21, hS22, hSB2⟩ := hS2.slice2
  have hb3 := m1 w2 (.cells #[.slice A2 t0.length cap2, .slice B2 s0.length capB2] 46)
  have hb23 := mmore hb2 hb3
  have c0 := cell_later hb23 c0
  have c1 := cell_later hb23 c1
  have d2 : (w2.alloc (.cells #[.slice A2 t0.length cap2, .slice B2 s0.length capB2] 46)).cell? ⟨w2.heap.size, 0, none⟩ = some (.slice A2 t0.length cap2) := by simp [go_sem]
  have d3 : (w2.alloc (.cells #[.slice A2 t0.length cap2, .slice B2 s0.length capB2] 46)).cell? ⟨w2.heap.size, 1, none⟩ = some (.slice B2 s0.length capB2) := by simp [go_sem]
  have hTA2' := Lib.hid (hTA1.out.later hb23)
  have hSB1' := Lib.hid (hSB1.out.later hb23)
  have hTA3 := Lib.hid (hTA2.later hb3)
  have hSB3 := Lib.hid (hSB2.later hb3)
  have hBz := mmore hb0 hb23
  clear hT2 hS2 hTA2 hSB2 hTA1 hSB1 hb2 hb3 hb23 hb0 HW
  go_wp2_with fail
  generalize (w2.alloc (.cells #[.slice A2 t0.length cap2, .slice B2 s0.length capB2] 46)) = z at *
  generalize w2.heap.size = g3 at *
  refine (sawake_any _).mono ?_; rintro e w5 ⟨rfl, hb5⟩
  have c0 := cell_later hb5 c0
  have c1 := cell_later hb5 c1
  have d2 := cell_later hb5 d2
  have d3 := cell_later hb5 d3
  go_wp2_with fail
  refine (check_any A2 B2 cap2 capB2 t0 s0 _ (hTA3.out.later hb5) (hSB3.out.later hb5) hp0 q0.out hS21 hS22).mono ?_; rintro e w6 ⟨cc, rfl, hcc, hb6⟩
  have hb56 := mmore hb5 hb6
  have c0 := cell_later hb6 c0
  have c1 := cell_later hb6 c1
  have d2 := cell_later hb6 d2
  have d3 := cell_later hb6 d3
  have hTA6 := Lib.hid (hTA2'.out.later hb56)
  have hSB6 := Lib.hid (hSB1'.out.later hb56)
  have hTX6 := Lib.hid (hTA3.out.later hb56)
  have hSX6 := Lib.hid (hSB3.out.later hb56)
  have hBz6 := mmore hBz hb56
  clear hb5 hb6 hb56 hTA2' hSB1' hTA3 hSB3 hBz
  by_cases h0 : cc = 0
  · subst h0
    obtain ⟨hW, hK⟩ : WellP t0 s0 ∧ KindsP t0 := by
      unfold CheckIs at hcc
      rcases hcc with ⟨_, e⟩ | ⟨_, _, e⟩ | ⟨_, _, _, e⟩ | ⟨_, h1, h2, _⟩
      · cases e
      · cases e
      · cases e
      · exact ⟨h1, h2⟩
    replace hW := Lib.hid hW
    replace hK := Lib.hid hK
    clear hcc
    go_wp2_with fail
    go_loopw [20] (fun i wr => ∃ k : Nat, k ≤ t0.length ∧ i = .int .i64 (k : Int) ∧ Below w6.heap.size w6 wr) (fun i _ => t0.length - (intOf i).toNat)
    case atStart => exact ⟨0, Nat.zero_le _, rfl, Below.refl _ _⟩
    case round =>
      obtain ⟨k, hk, rfl, hB⟩ := hrel
      by_cases hlt : k < t0.length
      · have hx : t0[k]? = some t0[k] := List.getElem?_eq_getElem hlt
        have hfx := hf _ (List.getElem_mem hlt)
        generalize t0[k] = x at *
        obtain ⟨nm, fs⟩ := x
        obtain ⟨b, off, FA, fcap, rfl, r0', r1', hF⟩ := hTA6.out.at_ hx
        have r0' : _ = some (Value.string nm) := cell_later hB r0'
        have r1' : _ = some (Value.slice FA fs.length fcap) := cell_later hB r1'
        have hF : FieldsAt w6 FA fs := hF
        have hfx : fs.length ≤ 9223372036854775807 := hfx
        obtain ⟨hpl, hnm⟩ := place_at (fun t : ST => t.1) t0 k _ hx hW.out.2.1
        have hpl : typeOf t0 nm = (k : Int) := hpl
        have hnm : NameP nm := hnm
        have hDf : DistinctP (fs.map (·.1)) := hW.out.1 k _ hx
        replace hx := Lib.hid hx
        replace hF := Lib.hid hF
        replace hpl := Lib.hid hpl
        replace hnm := Lib.hid hnm
        replace hDf := Lib.hid hDf
        have k0 : (0 : Int) ≤ (k : Int) := by omega
        have k1 : (k : Int) < (t0.length : Int) := by omega
        obtain ⟨wo, rfl⟩ : ∃ wo : World, wo = wr := ⟨_, rfl⟩
        have d2' := cell_later hB d2
        have d3' := cell_later hB d3
        have g3a : g3 < wo.heap.size := mblock d2'
        have g3n : ¬ g3 = wo.heap.size := by omega
        have g3m : ¬ wo.heap.size = g3 := by omega
        go_wp2_with fail
        have hb7 := m1 wo (.cells #[.string nm, .slice FA fs.length fcap] 64)
        have e0 : (wo.alloc (.cells #[.string nm, .slice FA fs.length fcap] 64)).cell? ⟨wo.heap.size, 0, none⟩ = some (.string nm) := by simp [go_sem]
        have e1 : (wo.alloc (.cells #[.string nm, .slice FA fs.length fcap] 64)).cell? ⟨wo.heap.size, 1, none⟩ = some (.slice FA fs.length fcap) := by simp [go_sem]
        have d2' := cell_later hb7 d2'
        have d3' := cell_later hb7 d3'
        have hB7 := mmore hB hb7
        generalize wo.alloc (.cells #[.string nm, .slice FA fs.length fcap] 64) = y at *
        generalize wo.heap.size = g5 at *
        have CT := type_any A2 cap2 (.slice B2 s0.length capB2) t0 nm y (hTX6.out.later hB7) hn
        rw [hpl.out] at CT
        refine CT.mono ?_; rintro e w7 ⟨rfl, hb8⟩
        have e0 := cell_later hb8 e0
        have e1 := cell_later hb8 e1
        have d2' := cell_later hb8 d2'
        have d3' := cell_later hb8 d3'
        have hB8 := mmore hB7 hb8
        clear hb7 hb8 hB7 CT r0' r1'
        go_wp2_with fail
        refine (name_any nm _).mono ?_; rintro e w8 ⟨q, rfl, hq, hb9⟩
        obtain rfl : q = true := hq.2 hnm.out
        have e1 := cell_later hb9 e1
        have d2' := cell_later hb9 d2'
        have d3' := cell_later hb9 d3'
        have hB9 := mmore hB8 hb9
        clear hb9 hB8 hq
        go_wp2_with fail
        go_loopw [40] (fun i wr => ∃ j : Nat, j ≤ fs.length ∧ i = .int .i64 (j : Int) ∧ Below w8.heap.size w8 wr) (fun i _ => fs.length - (intOf i).toNat)
        case atStart => exact ⟨0, Nat.zero_le _, rfl, Below.refl _ _⟩
        case round =>
          obtain ⟨j, hj, rfl, hBi⟩ := hrel
          have hB10 := mmore hB9 hBi
          by_cases hjl : j < fs.length
          · obtain ⟨fb, foff, rfl, hfc⟩ := (hF.out.later hB10) (by omega)
            have hy : fs[j]? = some fs[j] := List.getElem?_eq_getElem hjl
            obtain ⟨r0', r1'⟩ := hfc j _ hy
            have hkd := hK.out k _ hx.out j _ hy
            generalize fs[j] = yy at *
            obtain ⟨fn, fk⟩ := yy
            simp only at r0' r1' hkd
            have hAt : attrOf t0 (k : Int) fn = (j : Int) := by
              rw [attrOf_in hx.out]
              exact (place_at (fun f : SF => f.1) fs j _ hy hDf.out).1
            have hKd : kindOf t0 (k : Int) (j : Int) = fk := kind_at hx.out hy
            replace hAt := Lib.hid hAt
            replace hKd := Lib.hid hKd
            replace hy := Lib.hid hy
            have l1 : ¬ fk < 1 := by omega
            have l4 : ¬ 4 < fk := by omega
            have j0 : (0 : Int) ≤ (j : Int) := by omega
            have j1 : (j : Int) < (fs.length : Int) := by omega
            have d2'' := cell_later hBi d2'
            have d3'' := cell_later hBi d3'
            clear hfc hkd
            obtain ⟨wi, rfl⟩ : ∃ wi : World, wi = wr := ⟨_, rfl⟩
            go_wp2_with fail
            have hb7 := m1 wi (.cells #[.string fn, .int .i64 fk] 66)
            have f0 : (wi.alloc (.cells #[.string fn, .int .i64 fk] 66)).cell? ⟨wi.heap.size, 0, none⟩ = some (.string fn) := by simp [go_sem]
            have f1 : (wi.alloc (.cells #[.string fn, .int .i64 fk] 66)).cell? ⟨wi.heap.size, 1, none⟩ = some (.int .i64 fk) := by simp [go_sem]
            have m0 := cell_later hb7 d2''
            have m1' := cell_later hb7 d3''
            have m4 := hTX6.out.later (mmore hB10 hb7)
            have hB11 := mmore hBi hb7
            clear hb7 d2'' d3'' r0' r1'
            generalize wi.alloc (.cells #[.string fn, .int .i64 fk] 66) = wb at *
            generalize wi.heap.size = g7 at *
            have base := keep6 (w0 := wb) (Below.refl _ _).drew ⟨m0, m1', f0, f1, m4, Below.refl _ _⟩
            clear m0 m1' f0 f1 m4
            have KD := G.keepsD_true []
            refine G.region_words (fun w' => w'.cell? ⟨g3, 0, none⟩ = some (.slice A2 t0.length cap2) ∧ w'.cell? ⟨g3, 1, none⟩ = some (.slice B2 s0.length capB2) ∧ w'.cell? ⟨g7, 0, none⟩ = some (.string fn) ∧ w'.cell? ⟨g7, 1, none⟩ = some (.int .i64 fk) ∧ TypesAt w' A2 t0 ∧ Below wb.heap.size wb w') [G.isW (.agg #[.slice A2 t0.length cap2, .slice B2 s0.length capB2]), G.isW (.int .i64 ((k : Nat) : Int)), G.isW (.pointer (some ⟨g7, 0, none⟩)), G.isW (.string fn), G.isW (.int .i64 ((j : Nat) : Int)), G.isW (.int .i64 ((j : Nat) : Int)), G.isW (.bool false), G.isW (.bool false), G.isW (.agg #[.slice A2 t0.length cap2, .slice B2 s0.length capB2]), G.isW (.int .i64 ((k : Nat) : Int)), G.isW (.int .i64 ((j : Nat) : Int)), G.isW (.int .i64 (fk)), G.isW (.pointer (some ⟨g7, 1, none⟩)), G.isW (.int .i64 (fk)), G.isW (.bool false), G.isW (.bool false), G.isW (.bool false), G.isW (.pointer (some ⟨g7, 1, none⟩)), G.isW (.int .i64 (fk)), G.isW (.bool false), G.isW (.bool false), G.isW (.bool false), G.isW (.pointer (some ⟨g7, 1, none⟩)), G.isW (.int .i64 (fk)), G.isW (.bool false), G.isW (.bool false)] (by kernel_rfl) (by repeat' (first | exact G.monoL_nil | exact G.is_mono _ | exact G.any_mono | refine G.monoL_cons ?_ ?_)) (by kernel_rfl) (by kernel_rfl) (fun _ _ h hb => keep6 hb h) base ?_ ?_
            · intro KC
              refine G.stepsL_cons (fun a u hc hdd hd hk hdep => ?_) ?_
              ·
                have d3 : (a.tmps[3]?).getD undef = (.pointer (some ⟨g3, 0, none⟩)) := hk 3 (by kernel_rfl)
                refine G.step_val KC KD hc hdd rfl (.agg #[.slice A2 t0.length cap2, .slice B2 s0.length capB2]) u (G.wanted_plain rfl) ?_ rfl (Below.refl _ _)
                obtain ⟨s0, s1, s2, s3, s4, s5⟩ := hc
                go_simp
              refine G.stepsL_cons (fun a u hc hdd hd hk hdep => ?_) ?_
              ·
                have d4 : (a.tmps[4]?).getD undef = (.int .i64 ((k : Nat) : Int)) := hk 4 (by kernel_rfl)
                refine G.step_val KC KD hc hdd rfl (.int .i64 ((k : Nat) : Int)) u (G.wanted_plain rfl) ?_ rfl (Below.refl _ _)
                first | (go_simp; done) | rfl
              refine G.stepsL_cons (fun a u hc hdd hd hk hdep => ?_) ?_
              ·
                have d7 : (a.tmps[7]?).getD undef = (.pointer (some ⟨g7, 0, none⟩)) := hk 7 (by kernel_rfl)
                refine G.step_val KC KD hc hdd rfl (.pointer (some ⟨g7, 0, none⟩)) u (G.wanted_plain rfl) ?_ rfl (Below.refl _ _)
                go_simp
              refine G.stepsL_cons (fun a u hc hdd hd hk hdep => ?_) ?_
              ·
                have d47 : (a.tmps[47]?).getD undef = (.pointer (some ⟨g7, 0, none⟩)) := hdep ⟨2, .data⟩ (by simp) rfl
                refine G.step_val KC KD hc hdd rfl (.string fn) u (G.wanted_plain rfl) ?_ rfl (Below.refl _ _)
                obtain ⟨s0, s1, s2, s3, s4, s5⟩ := hc
                go_simp
              refine G.stepsL_cons (fun a u hc hdd hd hk hdep => ?_) ?_
              ·
                have d45 : (a.tmps[45]?).getD undef = (.agg #[.slice A2 t0.length cap2, .slice B2 s0.length capB2]) := hdep ⟨0, .data⟩ (by simp) rfl
                have d46 : (a.tmps[46]?).getD undef = (.int .i64 ((k : Nat) : Int)) := hdep ⟨1, .data⟩ (by simp) rfl
                have d48 : (a.tmps[48]?).getD undef = (.string fn) := hdep ⟨3, .data⟩ (by simp) rfl
                refine G.step_call KC KD hc hdd rfl 26 #[.agg #[.slice A2 t0.length cap2, .slice B2 s0.length capB2], .int .i64 (k : Int), .string fn] (G.wanted_plain rfl) (by go_simp) ?_
                obtain ⟨z0, z1, z2, z3, z4, z5⟩ := hc
                have CA := attr_any A2 cap2 (.slice B2 s0.length capB2) t0 (k : Int) fn u z4 hn hf
                rw [hAt.out] at CA
                exact CA.mono (by rintro e w' ⟨rfl, hb⟩; exact ⟨_, rfl, rfl, hb⟩)
              refine G.stepsL_cons (fun a u hc hdd hd hk hdep => ?_) ?_
              ·
                have d6 : (a.tmps[6]?).getD undef = (.int .i64 ((j : Nat) : Int)) := hk 6 (by kernel_rfl)
                refine G.step_val KC KD hc hdd rfl (.int .i64 ((j : Nat) : Int)) u (G.wanted_plain rfl) ?_ rfl (Below.refl _ _)
                first | (go_simp; done) | rfl
              refine G.stepsL_cons (fun a u hc hdd hd hk hdep => ?_) ?_
              ·
                have d49 : (a.tmps[49]?).getD undef = (.int .i64 ((j : Nat) : Int)) := hdep ⟨4, .data⟩ (by simp) rfl
                have d50 : (a.tmps[50]?).getD undef = (.int .i64 ((j : Nat) : Int)) := hdep ⟨5, .data⟩ (by simp) rfl
                refine G.step_val KC KD hc hdd rfl (.bool false) u (G.wanted_plain rfl) ?_ rfl (Below.refl _ _)
                go_simp
              refine G.stepsL_cons (fun a u hc hdd hd hk hdep => ?_) ?_
              ·
                have d51 : (a.tmps[51]?).getD undef = (.bool false) := hdep ⟨6, .data⟩ (by simp) rfl
                refine G.step_val KC KD hc hdd rfl (.bool false) u (G.wanted_plain rfl) ?_ rfl (Below.refl _ _)
                first | (go_simp; done) | rfl
              refine G.stepsL_cons (fun a u hc hdd hd hk hdep => ?_) ?_
              ·
                have d3 : (a.tmps[3]?).getD undef = (.pointer (some ⟨g3, 0, none⟩)) := hk 3 (by kernel_rfl)
                refine G.step_val KC KD hc hdd rfl (.agg #[.slice A2 t0.length cap2, .slice B2 s0.length capB2]) u ((G.wanted_guard (j := 7) (b := false) (c := false) rfl (hdep ⟨7, .guard⟩ (by simp) rfl)).trans rfl) ?_ rfl (Below.refl _ _)
                obtain ⟨s0, s1, s2, s3, s4, s5⟩ := hc
                go_simp
              refine G.stepsL_cons (fun a u hc hdd hd hk hdep => ?_) ?_
              ·
                have d4 : (a.tmps[4]?).getD undef = (.int .i64 ((k : Nat) : Int)) := hk 4 (by kernel_rfl)
                refine G.step_val KC KD hc hdd rfl (.int .i64 ((k : Nat) : Int)) u ((G.wanted_guard (j := 7) (b := false) (c := false) rfl (hdep ⟨7, .guard⟩ (by simp) rfl)).trans rfl) ?_ rfl (Below.refl _ _)
                first | (go_simp; done) | rfl
              refine G.stepsL_cons (fun a u hc hdd hd hk hdep => ?_) ?_
              ·
                have d6 : (a.tmps[6]?).getD undef = (.int .i64 ((j : Nat) : Int)) := hk 6 (by kernel_rfl)
                refine G.step_val KC KD hc hdd rfl (.int .i64 ((j : Nat) : Int)) u ((G.wanted_guard (j := 7) (b := false) (c := false) rfl (hdep ⟨7, .guard⟩ (by simp) rfl)).trans rfl) ?_ rfl (Below.refl _ _)
                first | (go_simp; done) | rfl
              refine G.stepsL_cons (fun a u hc hdd hd hk hdep => ?_) ?_
              ·
                have d53 : (a.tmps[53]?).getD undef = (.agg #[.slice A2 t0.length cap2, .slice B2 s0.length capB2]) := hdep ⟨8, .data⟩ (by simp) rfl
                have d54 : (a.tmps[54]?).getD undef = (.int .i64 ((k : Nat) : Int)) := hdep ⟨9, .data⟩ (by simp) rfl
                have d55 : (a.tmps[55]?).getD undef = (.int .i64 ((j : Nat) : Int)) := hdep ⟨10, .data⟩ (by simp) rfl
                refine G.step_call KC KD hc hdd rfl 31 #[.agg #[.slice A2 t0.length cap2, .slice B2 s0.length capB2], .int .i64 (k : Int), .int .i64 (j : Int)] ((G.wanted_guard (j := 7) (b := false) (c := false) rfl (hdep ⟨7, .chain⟩ (by simp) rfl)).trans rfl) (by go_simp) ?_
                obtain ⟨z0, z1, z2, z3, z4, z5⟩ := hc
                have CA := kind_any A2 cap2 (.slice B2 s0.length capB2) t0 (k : Int) (j : Int) u z4 hn hf
                rw [hKd.out] at CA
                exact CA.mono (by rintro e w' ⟨rfl, hb⟩; exact ⟨_, rfl, rfl, hb⟩)
              refine G.stepsL_cons (fun a u hc hdd hd hk hdep => ?_) ?_
              ·
                have d7 : (a.tmps[7]?).getD undef = (.pointer (some ⟨g7, 0, none⟩)) := hk 7 (by kernel_rfl)
                refine G.step_val KC KD hc hdd rfl (.pointer (some ⟨g7, 1, none⟩)) u ((G.wanted_guard (j := 7) (b := false) (c := false) rfl (hdep ⟨7, .guard⟩ (by simp) rfl)).trans rfl) ?_ rfl (Below.refl _ _)
                go_simp
              refine G.stepsL_cons (fun a u hc hdd hd hk hdep => ?_) ?_
              ·
                have d57 : (a.tmps[57]?).getD undef = (.pointer (some ⟨g7, 1, none⟩)) := hdep ⟨12, .data⟩ (by simp) rfl
                refine G.step_val KC KD hc hdd rfl (.int .i64 (fk)) u ((G.wanted_guard (j := 7) (b := false) (c := false) rfl (hdep ⟨7, .guard⟩ (by simp) rfl)).trans rfl) ?_ rfl (Below.refl _ _)
                obtain ⟨s0, s1, s2, s3, s4, s5⟩ := hc
                go_simp
              refine G.stepsL_cons (fun a u hc hdd hd hk hdep => ?_) ?_
              ·
                have d56 : (a.tmps[56]?).getD undef = (.int .i64 (fk)) := hdep ⟨11, .data⟩ (by simp) rfl
                have d58 : (a.tmps[58]?).getD undef = (.int .i64 (fk)) := hdep ⟨13, .data⟩ (by simp) rfl
                refine G.step_val KC KD hc hdd rfl (.bool false) u ((G.wanted_guard (j := 7) (b := false) (c := false) rfl (hdep ⟨7, .guard⟩ (by simp) rfl)).trans rfl) ?_ rfl (Below.refl _ _)
                go_simp
              refine G.stepsL_cons (fun a u hc hdd hd hk hdep => ?_) ?_
              ·
                have d52 : (a.tmps[52]?).getD undef = (.bool false) := hdep ⟨7, .data⟩ (by simp) rfl
                have d59 : (a.tmps[59]?).getD undef = (.bool false) := hdep ⟨14, .data⟩ (by simp) rfl
                refine G.step_val KC KD hc hdd rfl (.bool false) u (G.wanted_plain rfl) ?_ rfl (Below.refl _ _)
                first | (go_simp; done) | rfl
              refine G.stepsL_cons (fun a u hc hdd hd hk hdep => ?_) ?_
              ·
                have d60 : (a.tmps[60]?).getD undef = (.bool false) := hdep ⟨15, .data⟩ (by simp) rfl
                refine G.step_val KC KD hc hdd rfl (.bool false) u (G.wanted_plain rfl) ?_ rfl (Below.refl _ _)
                first | (go_simp; done) | rfl
              refine G.stepsL_cons (fun a u hc hdd hd hk hdep => ?_) ?_
              ·
                have d7 : (a.tmps[7]?).getD undef = (.pointer (some ⟨g7, 0, none⟩)) := hk 7 (by kernel_rfl)
                refine G.step_val KC KD hc hdd rfl (.pointer (some ⟨g7, 1, none⟩)) u ((G.wanted_guard (j := 16) (b := false) (c := false) rfl (hdep ⟨16, .guard⟩ (by simp) rfl)).trans rfl) ?_ rfl (Below.refl _ _)
                go_simp
              refine G.stepsL_cons (fun a u hc hdd hd hk hdep => ?_) ?_
              ·
                have d62 : (a.tmps[62]?).getD undef = (.pointer (some ⟨g7, 1, none⟩)) := hdep ⟨17, .data⟩ (by simp) rfl
                refine G.step_val KC KD hc hdd rfl (.int .i64 (fk)) u ((G.wanted_guard (j := 16) (b := false) (c := false) rfl (hdep ⟨16, .guard⟩ (by simp) rfl)).trans rfl) ?_ rfl (Below.refl _ _)
                obtain ⟨s0, s1, s2, s3, s4, s5⟩ := hc
                go_simp
              refine G.stepsL_cons (fun a u hc hdd hd hk hdep => ?_) ?_
              ·
                have d63 : (a.tmps[63]?).getD undef = (.int .i64 (fk)) := hdep ⟨18, .data⟩ (by simp) rfl
                refine G.step_val KC KD hc hdd rfl (.bool false) u ((G.wanted_guard (j := 16) (b := false) (c := false) rfl (hdep ⟨16, .guard⟩ (by simp) rfl)).trans rfl) ?_ rfl (Below.refl _ _)
                go_simp
              refine G.stepsL_cons (fun a u hc hdd hd hk hdep => ?_) ?_
              ·
                have d61 : (a.tmps[61]?).getD undef = (.bool false) := hdep ⟨16, .data⟩ (by simp) rfl
                have d64 : (a.tmps[64]?).getD undef = (.bool false) := hdep ⟨19, .data⟩ (by simp) rfl
                refine G.step_val KC KD hc hdd rfl (.bool false) u (G.wanted_plain rfl) ?_ rfl (Below.refl _ _)
                first | (go_simp; done) | rfl
              refine G.stepsL_cons (fun a u hc hdd hd hk hdep => ?_) ?_
              ·
                have d65 : (a.tmps[65]?).getD undef = (.bool false) := hdep ⟨20, .data⟩ (by simp) rfl
                refine G.step_val KC KD hc hdd rfl (.bool false) u (G.wanted_plain rfl) ?_ rfl (Below.refl _ _)
                first | (go_simp; done) | rfl
              refine G.stepsL_cons (fun a u hc hdd hd hk hdep => ?_) ?_
              ·
                have d7 : (a.tmps[7]?).getD undef = (.pointer (some ⟨g7, 0, none⟩)) := hk 7 (by kernel_rfl)
                refine G.step_val KC KD hc hdd rfl (.pointer (some ⟨g7, 1, none⟩)) u ((G.wanted_guard (j := 21) (b := false) (c := false) rfl (hdep ⟨21, .guard⟩ (by simp) rfl)).trans rfl) ?_ rfl (Below.refl _ _)
                go_simp
              refine G.stepsL_cons (fun a u hc hdd hd hk hdep => ?_) ?_
              ·
                have d67 : (a.tmps[67]?).getD undef = (.pointer (some ⟨g7, 1, none⟩)) := hdep ⟨22, .data⟩ (by simp) rfl
                refine G.step_val KC KD hc hdd rfl (.int .i64 (fk)) u ((G.wanted_guard (j := 21) (b := false) (c := false) rfl (hdep ⟨21, .guard⟩ (by simp) rfl)).trans rfl) ?_ rfl (Below.refl _ _)
                obtain ⟨s0, s1, s2, s3, s4, s5⟩ := hc
                go_simp
              refine G.stepsL_cons (fun a u hc hdd hd hk hdep => ?_) ?_
              ·
                have d68 : (a.tmps[68]?).getD undef = (.int .i64 (fk)) := hdep ⟨23, .data⟩ (by simp) rfl
                refine G.step_val KC KD hc hdd rfl (.bool false) u ((G.wanted_guard (j := 21) (b := false) (c := false) rfl (hdep ⟨21, .guard⟩ (by simp) rfl)).trans rfl) ?_ rfl (Below.refl _ _)
                go_simp
              refine G.stepsL_cons (fun a u hc hdd hd hk hdep => ?_) ?_
              ·
                have d66 : (a.tmps[66]?).getD undef = (.bool false) := hdep ⟨21, .data⟩ (by simp) rfl
                have d69 : (a.tmps[69]?).getD undef = (.bool false) := hdep ⟨24, .data⟩ (by simp) rfl
                refine G.step_val KC KD hc hdd rfl (.bool false) u (G.wanted_plain rfl) ?_ rfl (Below.refl _ _)
                first | (go_simp; done) | rfl
              exact G.stepsL_nil
            intro vs wN hN hh
            obtain ⟨e0, e1, e2, e3, e4, e5, e6, e7, e8, e9, e10, e11, e12, e13, e14, e15, e16, e17, e18, e19, e20, e21, e22, e23, e24, e25, -⟩ := hh
            have eL : vs 25 = (.bool false) := e25
            clear e0 e1 e2 e3 e4 e5 e6 e7 e8 e9 e10 e11 e12 e13 e14 e15 e16 e17 e18 e19 e20 e21 e22 e23 e24 e25
            set_option maxRecDepth 100000 in simp only [putAll, Act.put, List.setIfInBounds_toArray, List.set_cons_zero, List.set_cons_succ, eL]
            obtain ⟨_, _, _, _, _, hB12⟩ := hN
            have hB13 := mmore hB11 hB12
            go_wp2
            go_roundw
            case rel => exact ⟨j + 1, by omega, by go_num, hB13⟩
            case measure => simp [intOf]; omega
          · obtain rfl : j = fs.length := by omega
            go_wp2_with fail
            go_roundw
            case rel => exact ⟨k + 1, by omega, by go_num, hB10⟩
            case measure => simp [intOf]; omega
      · obtain rfl : k = t0.length := by omega
        have c1 := cell_later hB c1
        have d2 := cell_later hB d2
        have d3 := cell_later hB d3
        have hB7 := mmore hBz6 hB
        have hSB7 := Lib.hid (hSB6.out.later hB)
        have hSX7 := Lib.hid (hSX6.out.later hB)
        obtain ⟨wo, rfl⟩ : ∃ wo : World, wo = wr := ⟨_, rfl⟩
        go_wp2_with fail
        go_loopw [76] (fun i wr => ∃ j : Nat, j ≤ s0.length ∧ i = .int .i64 (j : Int) ∧ Below wo.heap.size wo wr) (fun i _ => s0.length - (intOf i).toNat)
        case atStart => exact ⟨0, Nat.zero_le _, rfl, Below.refl _ _⟩
        case round =>
          obtain ⟨j, hj, rfl, hBi⟩ := hrel
          by_cases hjl : j < s0.length
          · obtain ⟨sb, soff, rfl, hsc⟩ := hSB7.out (by omega)
            have hy : s0[j]? = some s0[j] := List.getElem?_eq_getElem hjl
            have r0' := cell_later hBi (hsc j _ hy)
            generalize s0[j] = x at *
            have hpl : textOf s0 x = (j : Int) := (place_at (fun t : ByteArray => t) s0 j x hy (by rw [List.map_id']; exact hW.out.2.2)).1
            have d2' := cell_later hBi d2
            have d3' := cell_later hBi d3
            have CS := sym_any B2 capB2 (.slice A2 t0.length cap2) s0 x wr (hSX7.out.later hBi) hs
            rw [hpl] at CS
            replace CS := Lib.hid CS
            have j0 : (0 : Int) ≤ (j : Int) := by omega
            have j1 : (j : Int) < (s0.length : Int) := by omega
            replace hpl := Lib.hid hpl
            replace hy := Lib.hid hy
            clear hsc
            go_wp2_with fail
            refine CS.out.mono ?_; rintro e w9 ⟨rfl, hb9⟩
            go_wp2_with fail
            go_roundw
            case rel => exact ⟨j + 1, by omega, by go_num, mmore hBi hb9⟩
            case measure => simp [intOf]; omega
          · obtain rfl : j = s0.length := by omega
            go_wp2_with fail
            go_ret
            exact ⟨rfl, mmore hB7 hBi⟩
  · have hne : (cc != 0) = true := by simpa using h0
    replace hcc := Lib.hid hcc
    go_wp2_with fail
    go_ret
    exact ⟨rfl, hBz6⟩

set_option maxRecDepth 100000 in
theorem lifted (os : Os) (started : os.Started) (H : Type) (enc : TypeId × Value → H) :
    ReturnsInHanded {} Try.checked os 9 .any (Rows.schemaThereSpec.pre6 enc Try.prog Try.f9 Rows.schemaThereRow.domain false) (Rows.schemaThereSpec.post enc Try.prog Try.f9 false true false false) := by
  refine returnsInHanded_of_change_sized (C := Try.checked) own started (by kernel_rfl) Try.func9
    (ChangeSpec.witness6 (enc := enc) (C := Try.checked) false ⟨#[], #[.agg #[.slice none 0 0, .slice none 0 0]], []⟩ 8 (by kernel_rfl) (by kernel_rfl) (by kernel_rfl) (by kernel_rfl)) ?_
  intro W base args ds gs before hval0 hW hcnd hsz0 _
  have hsz : (DataW.weightsEach Try.prog (Try.f9.params.toList ++ Rows.schemaThereSpec.plain.varTypes Try.prog) (ds ++ gs)).all (· ≤ reachBytes) = true := hsz0
  clear hsz0
  have hval : ∀ (j : Nat) t v, Try.f9.params[j]? = some t → args[j]? = some v → Value.okWide Try.prog W .any base t v := hval0
  have hW' := hW
  obtain ⟨p, q, hA0, hV, rfl, hfz, hnd⟩ := hW
  have hA : DataW.TrodAll enc Try.prog W 0 (fun _ => true) true Try.f9.params.toList args.toList ds p := hA0
  rw [Try.params9] at hA hval hsz
  obtain ⟨v0, vs0, d0, ds0, p0, q0, hargs, rfl, rfl, h0, r0⟩ := trodAll_cons hA
  obtain ⟨rfl, rfl, rfl⟩ := trodAll_nil r0
  obtain rfl : args = #[v0] := by cases args; simp_all
  obtain ⟨rfl, rfl⟩ := trodVars_none hV
  have kk0 := h0
  have lt0 : ∀ x ∈ p0, x.block < W.heap.size := by obtain ⟨m, hm⟩ := kk0; exact DataW.trod_lt m _ _ _ hm
  obtain ⟨x0, y0, t0, s0, rfl, w0, u0, pp0, qq0, rr0⟩ := open_schema (hval 0 41 v0 rfl rfl) h0 (wb_each hsz (j := 0) (t := 41) rfl rfl)
  clear hA0 hval0
  refine (walk W x0 y0 t0 s0 w0 u0 pp0 qq0 rr0).mono fun e W' ⟨he, bel⟩ => ?_
  subst he
  exact ⟨_, rfl, _, _, _, [], _, [], hW', trodAll_mk1 (shut_bool Try.underlying4 _), (trodAll_cons_mk (Below.trod laidOut (by kernel_rfl) (of_decide_eq_true (by kernel_rfl)) kk0 bel lt0) trodAll_mk0), rfl, bel.frame _, fun h => by cases h⟩

theorem over : Rows.schemaThereRow.holds Try.pinned (OpenSpec.ofChange Rows.schemaThereSpec) :=
  OpenClaim.holds_of_wide 9 Try.f9 rfl rfl rfl rfl rfl rfl rfl ⟨rfl, rfl, rfl, rfl, rfl⟩ rfl rfl rfl rfl rfl (by kernel_rfl) Try.func9 (by kernel_rfl)
    (of_decide_eq_true (by kernel_rfl)) (by unfold Func.isWrapper; first | (rw [if_pos (by decide +kernel)]; kernel_rfl) | (rw [if_neg (by decide +kernel)]; exact ⟨rfl, rfl⟩))
    (fun os started H enc _ => lifted os started H enc)

/-- the statement -/
theorem proved : Rows.SchemaThereSaid :=
  over
#print axioms proved
end Go.Proofs.Ytpjlocmohcjpfaa.schemaThere
