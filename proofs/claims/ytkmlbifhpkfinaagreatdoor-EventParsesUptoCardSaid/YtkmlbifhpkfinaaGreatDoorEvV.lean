/- Whether an event is valid by kinds, as a contract. -/
import Derived.Test.YtkmlbifhpkfinaaGreatDoorEvP
namespace Go.Proofs.YtkmlbifhpkfinaaGreatDoor
open Go.ChangeShapes Go.WideShapes Go.ChangeAt Go.RowKit Go.Fl
set_option linter.unusedVariables false
set_option linter.unusedSimpArgs false

/-- a value of a kind, by so many symbols -/
def ValP (ns : Int) (x : Int) (v : Int × Nat) : Prop := v.1 = x ∧ clK v.1 v.2 = v.1 ∧ clB v.1 v.2 = v.2 ∧ (v.1 = 3 → (v.2 : Int) < ns)
def FitP (ns : Int) (ks : List Int) (vs : List (Int × Nat)) : Prop := vs.length = ks.length ∧ ∀ (i : Nat) (v : Int × Nat) (x : Int), vs[i]? = some v → ks[i]? = some x → ValP ns x v
def EvP (kss : List (List Int)) (ns ty tm : Int) (vs : List (Int × Nat)) : Prop := 0 ≤ tm ∧ tm ≤ 1152921504606846976 ∧ ∃ (t : Nat) (ks : List Int), ty = (t : Int) ∧ kss[t]? = some ks ∧ FitP ns ks vs
def FitTo (ns : Int) (ks : List Int) (vs : List (Int × Nat)) (k : Nat) : Prop := ∀ (i : Nat) (v : Int × Nat) (x : Int), i < k → vs[i]? = some v → ks[i]? = some x → ValP ns x v
theorem FitTo.step {ns : Int} {ks : List Int} {vs : List (Int × Nat)} {k : Nat} {v : Int × Nat} {x : Int} (h : FitTo ns ks vs k) (hv : vs[k]? = some v) (hx : ks[k]? = some x) (h1 : ValP ns x v) : FitTo ns ks vs (k + 1) := fun i v' x' hi hv' hx' => by
  by_cases c : i < k
  · exact h i v' x' c hv' hx'
  · obtain rfl : i = k := by omega
    rw [hv] at hv'
    rw [hx] at hx'
    injection hv' with hv'
    injection hx' with hx'
    subst hv' hx'
    exact h1
theorem EvP.fit {kss : List (List Int)} {ns tm : Int} {vs : List (Int × Nat)} {t : Nat} {ks : List Int} (h : EvP kss ns (t : Int) tm vs) (hk : kss[t]? = some ks) : FitP ns ks vs := by
  obtain ⟨_, _, t', ks', e, hk', h⟩ := h
  obtain rfl : t = t' := by omega
  rw [hk] at hk'
  injection hk' with hk'
  subst hk'
  exact h
theorem Below.drewN' {B : Nat} {a w : World} (h : Below B a w) (n : Nat) : Below B a (w.drewN n) := ⟨h.os, h.tape, h.output, h.size, h.block⟩
theorem neqV (k l b c : Int) (w : World) : (binOp .neq 61 (.agg #[.int .i64 k, .int .u64 b]) (.agg #[.int .i64 l, .int .u64 c])).run Tryz.prog w = .ok (.bool (!decide (k = l ∧ b = c))) w := by
  by_cases h1 : k = l <;> by_cases h2 : b = c <;> simp [go_sem, h1, h2]
theorem neqR (k l b c : Int) (w : World) : (binOp .neq 64 (.agg #[.int .i64 k, .int .u64 b]) (.agg #[.int .i64 l, .int .u64 c])).run Tryz.prog w = .ok (.bool (!decide (k = l ∧ b = c))) w := by
  by_cases h1 : k = l <;> by_cases h2 : b = c <;> simp [go_sem, h1, h2]
theorem keep6 {w0 w w1 : World} {a0 a1 a2 a3 a4 : Addr} {v0 v1 v2 v3 v4 : Value} (hb : Below w.heap.size w w1) (h : w.cell? a0 = some v0 ∧ w.cell? a1 = some v1 ∧ w.cell? a2 = some v2 ∧ w.cell? a3 = some v3 ∧ w.cell? a4 = some v4 ∧ Below w0.heap.size w0 w) :
    w1.cell? a0 = some v0 ∧ w1.cell? a1 = some v1 ∧ w1.cell? a2 = some v2 ∧ w1.cell? a3 = some v3 ∧ w1.cell? a4 = some v4 ∧ Below w0.heap.size w0 w1 :=
  ⟨cell_later hb h.1, cell_later hb h.2.1, cell_later hb h.2.2.1, cell_later hb h.2.2.2.1, cell_later hb h.2.2.2.2.1, mmore h.2.2.2.2.2 hb⟩

set_option maxHeartbeats 8000000 in
set_option maxRecDepth 100000 in
theorem valid_any (A B : Option Addr) (cap capB : Nat) (kss : List (List Int)) (ns ty tm : Int) (vs : List (Int × Nat)) (w : World) (hc : KindsAt w A kss) (hv : RowV w B vs.length vs) (n0 : 0 ≤ ns) (n1 : ns ≤ 9223372036854775807) (hl : kss.length ≤ 9223372036854775807) (hl2 : ∀ ks ∈ kss, ks.length ≤ 9223372036854775807) (hl3 : vs.length ≤ 9223372036854775807) :
    Calls Tryz.prog 32 #[.slice A kss.length cap, .int .i64 ns, .agg #[.int .i64 ty, .int .i64 tm, .slice B vs.length capB]] w (Says (EvP kss ns ty tm vs) w) := by
  have hu := m1 w (.cells #[.int .i64 ty, .int .i64 tm, .slice B vs.length capB] 36)
  have c0 : (w.alloc (.cells #[.int .i64 ty, .int .i64 tm, .slice B vs.length capB] 36)).cell? ⟨w.heap.size, 0, none⟩ = some (.int .i64 ty) := by simp [go_sem]
  have c1 : (w.alloc (.cells #[.int .i64 ty, .int .i64 tm, .slice B vs.length capB] 36)).cell? ⟨w.heap.size, 1, none⟩ = some (.int .i64 tm) := by simp [go_sem]
  have c2 : (w.alloc (.cells #[.int .i64 ty, .int .i64 tm, .slice B vs.length capB] 36)).cell? ⟨w.heap.size, 2, none⟩ = some (.slice B vs.length capB) := by simp [go_sem]
  have hcu := Lib.hid (hc.later hu)
  have hvu := Lib.hid (hv.later hu)
  replace hl2 := Lib.hid hl2
  clear hc hv
  by_cases h1 : ty < 0
  · have hno : ¬ EvP kss ns ty tm vs := fun h => by obtain ⟨_, _, t, _, e, _⟩ := h; omega
    replace hno := Lib.hid hno
    have d1 : decide (ty < 0) = true := by simpa using h1
    clear h1
    go_enter Tryz.func32, Tryz.ntmps32
    go_wp2_with fail
    generalize w.alloc (.cells #[.int .i64 ty, .int .i64 tm, .slice B vs.length capB] 36) = u at *
    go_quiet (fail)
    go_wp2
    go_ret
    exact .no rfl hno.out (Below.drewN' hu _)
  · by_cases h2 : ty < (kss.length : Int)
    · by_cases h3 : tm < 0
      · have hno : ¬ EvP kss ns ty tm vs := fun h => by have := h.1; omega
        replace hno := Lib.hid hno
        have d1 : decide (ty < 0) = false := by simpa using h1
        have d2 : decide (ty ≥ (kss.length : Int)) = false := by simpa using h2
        have d3 : decide (tm < 0) = true := by simpa using h3
        clear h1 h2 h3
        go_enter Tryz.func32, Tryz.ntmps32
        go_wp2_with fail
        generalize w.alloc (.cells #[.int .i64 ty, .int .i64 tm, .slice B vs.length capB] 36) = u at *
        go_quiet (fail)
        go_wp2
        go_ret
        exact .no rfl hno.out (Below.drewN' hu _)
      · by_cases h4 : tm > 1152921504606846976
        · have hno : ¬ EvP kss ns ty tm vs := fun h => by have := h.2.1; omega
          replace hno := Lib.hid hno
          have d1 : decide (ty < 0) = false := by simpa using h1
          have d2 : decide (ty ≥ (kss.length : Int)) = false := by simpa using h2
          have d3 : decide (tm < 0) = false := by simpa using h3
          have d4 : decide (tm > 1152921504606846976) = true := by simpa using h4
          clear h1 h2 h3 h4
          go_enter Tryz.func32, Tryz.ntmps32
          go_wp2_with fail
          generalize w.alloc (.cells #[.int .i64 ty, .int .i64 tm, .slice B vs.length capB] 36) = u at *
          go_quiet (fail)
          go_wp2
          go_ret
          exact .no rfl hno.out (Below.drewN' hu _)
        · obtain ⟨t, rfl⟩ : ∃ t : Nat, ty = (t : Int) := ⟨ty.toNat, by omega⟩
          have hlt : t < kss.length := by omega
          have hkk : kss[t]? = some kss[t] := List.getElem?_eq_getElem hlt
          have hlk := hl2.out _ (List.getElem_mem hlt)
          obtain ⟨b, off, rfl, hcell⟩ := hcu.out (by omega)
          obtain ⟨x0, r0, UA, ucap, rfl, hI⟩ := hcell t _ hkk
          generalize kss[t] = ks at *
          replace hI := Lib.hid hI
          replace hkk := Lib.hid hkk
          clear hcell
          have d1 : decide ((t : Int) < 0) = false := by simp
          have d2 : decide ((t : Int) ≥ (kss.length : Int)) = false := by simpa using h2
          have d3 : decide (tm < 0) = false := by simpa using h3
          have d4 : decide (tm > 1152921504606846976) = false := by simpa using h4
          have hE := Lib.hid (And.intro h3 h4)
          have k0 : (0 : Int) ≤ (t : Int) := by omega
          have k1 : (t : Int) < (kss.length : Int) := h2
          have d2n : ¬ kss.length ≤ t := by omega
          clear h1 h2 h3 h4
          by_cases h5 : vs.length = ks.length
          · have h5' : ((vs.length : Int) != (ks.length : Int)) = false := by simp [h5]
            replace h5 := Lib.hid h5
            go_enter Tryz.func32, Tryz.ntmps32
            go_wp2_with fail
            generalize w.alloc (.cells #[.int .i64 (t : Int), .int .i64 tm, .slice B vs.length capB] 36) = u at *
            go_quiet (fail)
            go_wp2_with fail
            clear h5'
            go_loopw [44] (fun i wr => ∃ k : Nat, k ≤ vs.length ∧ i = .int .i64 (k : Int) ∧ Hid (FitTo ns ks vs k) ∧ Below u.heap.size u wr) (fun i _ => vs.length - (intOf i).toNat)
            case atStart => exact ⟨0, Nat.zero_le _, rfl, Lib.hid (fun i v x h => by omega), Below.drewN' (Below.refl _ _) _⟩
            case round =>
              obtain ⟨k, hk, rfl, hF, hB⟩ := hrel
              by_cases hlt1 : k < vs.length
              · have h5o := h5.out
                obtain ⟨b2, off2, e2, hvc⟩ := hvu.out.2.2 (by omega)
                obtain ⟨b3, off3, e3, hkc⟩ := hI.out (by omega)
                have hvk : vs[k]? = some (vs[k].1, vs[k].2) := List.getElem?_eq_getElem hlt1
                have hxk : ks[k]? = some (ks[k]'(by omega)) := List.getElem?_eq_getElem (by omega)
                have hb := hvu.out.2.1 _ (List.getElem_mem hlt1)
                obtain ⟨q0, q1⟩ := hvc k _ _ hvk
                have q2 := hkc k _ hxk
                subst e2 e3
                generalize vs[k].1 = vk at *
                generalize vs[k].2 = vb at *
                generalize ks[k]'(by omega) = x at *
                have q0 := cell_later hB q0
                have q1 := cell_later hB q1
                have q2 := cell_later hB q2
                have q3 := cell_later hB c0
                have q4 := cell_later hB r0
                replace hvk := Lib.hid hvk
                replace hxk := Lib.hid hxk
                have j1 : (k : Int) < (ks.length : Int) := by omega
                have j0 : (0 : Int) ≤ (k : Int) := by omega
                clear hvc hkc h5o
                have q0l := mblock q0
                have hs1 := hB.size
                have q2l := mblock q2
                have q3l := mblock q3
                have q4l := mblock q4
                by_cases h6 : vk = x
                · subst h6
                  have h6' : (vk != vk) = false := by simp
                  have CC := fun w => clean_any vk vb w hb
                  obtain ⟨ck, hck⟩ : ∃ ck, clK vk vb = ck := ⟨_, rfl⟩
                  obtain ⟨cb, hcb⟩ : ∃ cb, clB vk vb = cb := ⟨_, rfl⟩
                  rw [hck, hcb] at CC
                  replace CC := Lib.hid CC
                  replace hck := Lib.hid hck
                  replace hcb := Lib.hid hcb
                  have hw : IntKind.u64.wrap ns = ns := by rw [IntKind.wrap_u64]; omega
                  clear d1 d2 d3 d4 r0 hlk c0 c1 c2
                  go_wp2_with fail
                  have hw8 := m1 wr (.cells #[.int .i64 vk, .int .u64 (vb : Int)] 61)
                  have g0 : (wr.alloc (.cells #[.int .i64 vk, .int .u64 (vb : Int)] 61)).cell? ⟨wr.heap.size, 0, none⟩ = some (.int .i64 vk) := by simp [go_sem]
                  have g1 : (wr.alloc (.cells #[.int .i64 vk, .int .u64 (vb : Int)] 61)).cell? ⟨wr.heap.size, 1, none⟩ = some (.int .u64 (vb : Int)) := by simp [go_sem]
                  have q2 := cell_later hw8 q2
                  have q3 := cell_later hw8 q3
                  have q4 := cell_later hw8 q4
                  have hBw := mmore hB hw8
                  generalize wr.heap.size = g8 at *
                  clear q0l q2l q3l q4l hs1 q0 q1
                  generalize wr.alloc (.cells #[.int .i64 vk, .int .u64 (vb : Int)] 61) = wz at *
                  have hno7 : ¬ (vk = ck ∧ vb = cb) → ¬ EvP kss ns (t : Int) tm vs := fun h7 h => by
                    have hh := (h.fit hkk.out).2 k _ _ hvk.out hxk.out
                    exact h7 ⟨hh.2.1.symm.trans hck.out, hh.2.2.1.symm.trans hcb.out⟩
                  replace hno7 := Lib.hid hno7
                  by_cases h7 : vk = ck ∧ vb = cb
                  · obtain ⟨h7, h7b⟩ := h7
                    subst h7 h7b
                    have he : ∀ w : World, (binOp .neq 61 (.agg #[.int .i64 vk, .int .u64 (vb : Int)]) (.agg #[.int .i64 vk, .int .u64 (vb : Int)])).run Tryz.prog w = .ok (.bool false) w := fun w => by rw [neqV]; simp
                    clear hno7
                    go_region_held3 (fun w' => w'.cell? ⟨g8, 0, none⟩ = some (.int .i64 vk) ∧ w'.cell? ⟨g8, 1, none⟩ = some (.int .u64 (vb : Int)) ∧ w'.cell? ⟨w.heap.size, 0, none⟩ = some (.int .i64 (t : Int)) ∧ w'.cell? ⟨b, off + t, none⟩ = some (.slice (some ⟨b3, off3, none⟩) ks.length ucap) ∧ w'.cell? ⟨b3, off3 + k, none⟩ = some (.int .i64 vk) ∧ Below u.heap.size u w') (first | exact ⟨g0, g1, q3, q4, q2, hBw.drew⟩ | go_keep | exact keep6 hb1 (by first | assumption | exact ⟨by assumption, by assumption, by assumption, by assumption, by assumption, by assumption⟩)) (first | (go_at_call 50; refine (CC.out _).mono ?_; rintro e w1 ⟨rfl, hb1⟩))
                    rename_i hS
                    obtain ⟨g0, g1, q3, q4, q2, hBz⟩ := hS
                    by_cases h8 : vk = 3
                    · by_cases h9 : ns ≤ (vb : Int)
                      · have hno : ¬ EvP kss ns (t : Int) tm vs := fun h => by have := ((h.fit hkk.out).2 k _ _ hvk.out hxk.out).2.2.2 h8; simp only at this; omega
                        replace hno := Lib.hid hno
                        subst h8
                        go_wp2
                        go_ret
                        exact .no rfl hno.out (mmore hu hBz)
                      · have hP : ValP ns vk (vk, vb) := ⟨rfl, hck.out, hcb.out, fun _ => by simp only; omega⟩
                        replace hP := Lib.hid hP
                        subst h8
                        go_wp2
                        go_roundw
                        case rel => first | exact ⟨k + 1, by omega, by go_num, Lib.hid (hF.out.step hvk.out hxk.out hP.out), hBz⟩ | exact ⟨_, _, _, _, ⟨k + 1, by omega, by go_num, Lib.hid (hF.out.step hvk.out hxk.out hP.out)⟩, rfl, rfl, rfl, rfl⟩
                        case measure => simp [intOf]; omega
                    · have h8' : (vk == 3) = false := by simpa using h8
                      have hP : ValP ns vk (vk, vb) := ⟨rfl, hck.out, hcb.out, fun h => absurd h h8⟩
                      replace hP := Lib.hid hP
                      clear h8
                      go_wp2
                      go_roundw
                      case rel => first | exact ⟨k + 1, by omega, by go_num, Lib.hid (hF.out.step hvk.out hxk.out hP.out), hBz⟩ | ((repeat apply Exists.intro); refine And.intro ?_ ?_; rotate_left; (repeat' (first | rfl | apply And.intro)); first | exact ⟨k + 1, by omega, by go_num, Lib.hid (hF.out.step hvk.out hxk.out hP.out), hBz⟩ | exact ⟨k + 1, by omega, by go_num, Lib.hid (hF.out.step hvk.out hxk.out hP.out)⟩)
                      case measure => simp [intOf]; omega
                  · have hno := Lib.hid (hno7.out h7)
                    have he : ∀ w : World, (binOp .neq 61 (.agg #[.int .i64 vk, .int .u64 (vb : Int)]) (.agg #[.int .i64 ck, .int .u64 (cb : Int)])).run Tryz.prog w = .ok (.bool true) w := fun w => by
                      rw [neqV, decide_eq_false (fun h => h7 ⟨h.1, by have := h.2; omega⟩)]
                      rfl
                    clear hno7 h7
                    go_region_held3 (fun w' => w'.cell? ⟨g8, 0, none⟩ = some (.int .i64 vk) ∧ w'.cell? ⟨g8, 1, none⟩ = some (.int .u64 (vb : Int)) ∧ w'.cell? ⟨w.heap.size, 0, none⟩ = some (.int .i64 (t : Int)) ∧ w'.cell? ⟨b, off + t, none⟩ = some (.slice (some ⟨b3, off3, none⟩) ks.length ucap) ∧ w'.cell? ⟨b3, off3 + k, none⟩ = some (.int .i64 vk) ∧ Below u.heap.size u w') (first | exact ⟨g0, g1, q3, q4, q2, hBw.drew⟩ | go_keep | exact keep6 hb1 (by first | assumption | exact ⟨by assumption, by assumption, by assumption, by assumption, by assumption, by assumption⟩)) (first | (go_at_call 50; refine (CC.out _).mono ?_; rintro e w1 ⟨rfl, hb1⟩))
                    rename_i hS
                    obtain ⟨g0, g1, q3, q4, q2, hBz⟩ := hS
                    go_wp2
                    go_ret
                    exact .no rfl hno.out (mmore hu hBz)
                · have h6' : (vk != x) = true := by simp [h6]
                  have hno : ¬ EvP kss ns (t : Int) tm vs := fun h => h6 ((h.fit hkk.out).2 k _ x hvk.out hxk.out).1
                  replace hno := Lib.hid hno
                  go_wp2_with fail
                  go_quiet (fail)
                  go_wp2
                  go_ret
                  exact .no rfl hno.out (Below.drewN' (mmore hu (mmore hB (m1 _ _))) _)
              · obtain rfl : k = vs.length := by omega
                go_wp2
                go_ret
                exact .yes rfl ⟨by have := hE.out.1; omega, by have := hE.out.2; omega, t, ks, rfl, hkk.out, h5.out, fun i v x hi hx => hF.out i v x (List.getElem?_eq_some_iff.1 hi).1 hi hx⟩ (mmore hu hB)
          · have h5' : ((vs.length : Int) != (ks.length : Int)) = true := by simp; omega
            have hno : ¬ EvP kss ns (t : Int) tm vs := fun h => h5 (h.fit hkk.out).1
            replace hno := Lib.hid hno
            go_enter Tryz.func32, Tryz.ntmps32
            go_wp2_with fail
            generalize w.alloc (.cells #[.int .i64 (t : Int), .int .i64 tm, .slice B vs.length capB] 36) = u at *
            go_quiet (fail)
            go_wp2
            go_ret
            exact .no rfl hno.out (Below.drewN' hu _)
    · have hno : ¬ EvP kss ns ty tm vs := fun h => by
        obtain ⟨_, _, t, ks, e, hk, _⟩ := h
        have := (List.getElem?_eq_some_iff.1 hk).1
        omega
      replace hno := Lib.hid hno
      have d1 : decide (ty < 0) = false := by simpa using h1
      have d2 : decide (ty ≥ (kss.length : Int)) = true := by simp; omega
      clear h1 h2
      go_enter Tryz.func32, Tryz.ntmps32
      go_wp2_with fail
      generalize w.alloc (.cells #[.int .i64 ty, .int .i64 tm, .slice B vs.length capB] 36) = u at *
      go_quiet (fail)
      go_wp2
      go_ret
      exact .no rfl hno.out (Below.drewN' hu _)
end Go.Proofs.YtkmlbifhpkfinaaGreatDoor
