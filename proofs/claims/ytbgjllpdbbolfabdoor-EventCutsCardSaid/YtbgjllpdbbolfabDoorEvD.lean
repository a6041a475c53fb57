/- The first event of a script that is wrong, in the document, as a contract. -/
import Derived.Test.YtbgjllpdbbolfabDoorEvC
namespace Go.Proofs.YtbgjllpdbbolfabDoor
open Go.ChangeShapes Go.WideShapes Go.ChangeAt Go.RowKit Go.Fl
set_option linter.unusedVariables false
set_option linter.unusedSimpArgs false

theorem keepT {w0 w w1 : World} {a0 a1 a2 a3 a4 : Addr} {v0 v1 v2 v3 v4 : Value} {A C B : Option Addr} {ts : List ST} {ss : List ByteArray} {vs : List (Int × Nat)} (hb : Below w.heap.size w w1)
    (h : w.cell? a0 = some v0 ∧ w.cell? a1 = some v1 ∧ w.cell? a2 = some v2 ∧ w.cell? a3 = some v3 ∧ w.cell? a4 = some v4 ∧ TypesAt w A ts ∧ SymsAt w C ss ∧ RowV w B vs.length vs ∧ Below w0.heap.size w0 w) :
    w1.cell? a0 = some v0 ∧ w1.cell? a1 = some v1 ∧ w1.cell? a2 = some v2 ∧ w1.cell? a3 = some v3 ∧ w1.cell? a4 = some v4 ∧ TypesAt w1 A ts ∧ SymsAt w1 C ss ∧ RowV w1 B vs.length vs ∧ Below w0.heap.size w0 w1 := keepV hb h

set_option maxHeartbeats 8000000 in
set_option maxRecDepth 100000 in
theorem rscript_any (A C B : Option Addr) (cap capC capB : Nat) (ts : List ST) (ss : List ByteArray) (es : List Ev) (w : World) (hT : TypesAt w A ts) (hS : SymsAt w C ss) (hE : EvsAt w B es) (b1 : ts.length * 40 ≤ 140737488351232) (b2 : ∀ t ∈ ts, t.2.length * 24 ≤ 140737488351232) (hc1 : ss.length ≤ capC) (hc2 : capC ≤ maxLen) (hn : es.length * 40 ≤ 140737488351232) (hf : ∀ e ∈ es, e.2.2.length * 16 ≤ 140737488351232) :
    Calls Tryd.prog 19 #[.agg #[.slice A ts.length cap, .slice C ss.length capC], .slice B es.length capB] w (Scr (OkE ts ss) es w) := by
  have hu := m1 w (.cells #[.slice A ts.length cap, .slice C ss.length capC] 25)
  have k0 := Blk.made w 25 #[.slice A ts.length cap, .slice C ss.length capC]
  have s0 : (w.alloc (.cells #[.slice A ts.length cap, .slice C ss.length capC] 25)).cell? ⟨w.heap.size, 0, none⟩ = some (.slice A ts.length cap) := k0.cell 0
  have s1 : (w.alloc (.cells #[.slice A ts.length cap, .slice C ss.length capC] 25)).cell? ⟨w.heap.size, 1, none⟩ = some (.slice C ss.length capC) := k0.cell 1
  have sT := Lib.hid (hT.later hu)
  have sS := Lib.hid (hS.later hu)
  have sE := Lib.hid (hE.later hu)
  replace b2 := Lib.hid b2
  replace hf := Lib.hid hf
  clear hT hS hE k0
  go_enter Tryd.func19, Tryd.ntmps19
  go_wp2_with fail
  generalize w.alloc (.cells #[.slice A ts.length cap, .slice C ss.length capC] 25) = u at *
  go_loopw [9] (fun i wr => ∃ k : Nat, k ≤ es.length ∧ i = .int .i64 (k : Int) ∧ Hid (∀ j, j < k → Okay (OkE ts ss) es j) ∧ Below u.heap.size u wr) (fun i _ => es.length - (intOf i).toNat)
  case atStart => exact ⟨0, Nat.zero_le _, rfl, Lib.hid (fun j h => by omega), Below.refl _ _⟩
  case round =>
    obtain ⟨k, hk, rfl, hP, hB⟩ := hrel
    by_cases hlt : k < es.length
    · obtain ⟨b, off, rfl, hcell⟩ := sE.out (by omega)
      have hvk : es[k]? = some es[k] := List.getElem?_eq_getElem hlt
      obtain ⟨r0, r1, Bx, cp, r2, hR⟩ := hcell k _ hvk
      have hfb := hf.out _ (List.getElem_mem hlt)
      replace hcell := Lib.hid hcell
      replace hvk := Lib.hid hvk
      generalize es[k] = ev at *
      obtain ⟨ty, tm, vs⟩ := ev
      simp only at r0 r1 r2 hR hfb
      have r0 := cell_later hB r0
      have r1 := cell_later hB r1
      have r2 := cell_later hB r2
      have c0 := cell_later hB s0
      have c1 := cell_later hB s1
      have kk0 : (0 : Int) ≤ (k : Int) := by omega
      have kk1 : (k : Int) < (es.length : Int) := by omega
      have base := And.intro c0 (And.intro c1 (And.intro r0 (And.intro r1 (And.intro r2 (And.intro (sT.out.later hB) (And.intro (sS.out.later hB) (And.intro (hR.later hB) hB)))))))
      clear hR
      go_upto_region 4 with (fail)
      go_region_held3 (fun w' => w'.cell? ⟨w.heap.size, 0, none⟩ = some (.slice A ts.length cap) ∧ w'.cell? ⟨w.heap.size, 1, none⟩ = some (.slice C ss.length capC) ∧ w'.cell? ⟨b, off + k * 3, none⟩ = some (.int .i64 ty) ∧ w'.cell? ⟨b, off + k * 3 + 1, none⟩ = some (.int .i64 tm) ∧ w'.cell? ⟨b, off + k * 3 + 2, none⟩ = some (.slice Bx vs.length cp) ∧ TypesAt w' A ts ∧ SymsAt w' C ss ∧ RowV w' Bx vs.length vs ∧ Below u.heap.size u w')
        (first | exact keepDrew base | go_keep | exact keepV hb1 (by first | assumption | exact ⟨by assumption, by assumption, by assumption, by assumption, by assumption, by assumption, by assumption, by assumption, by assumption⟩))
        (first
          | (go_at_call 11; refine (rvalid_any A C Bx cap capC cp ts ss ty tm vs _ (by first | assumption | exact typesOf (by assumption)) (by first | assumption | exact symsOf (by assumption)) (by first | assumption | exact rowOf (by assumption)) b1 b2.out hc1 hc2 (by omega)).mono ?_; rintro e w1 ⟨q, rfl, hq, hb1⟩))
      rename_i hS
      obtain ⟨-, -, -, h1, -, -, -, -, hB4⟩ := hS
      have hBB := mmore hu hB4
      clear base c0 c1 r0 r1 r2
      cases q
      · have hno : ¬ OkE ts ss (ty, tm, vs) := fun h => by have := hq.2 h; cases this
        replace hno := Lib.hid hno
        clear hq
        go_wp2
        exact bodyPost_ret (v := .tuple #[.int .i64 (k : Int), .int .i64 20]) (by simp [results, Tryd.results19, go_sem]) rfl ⟨_, _, rfl, .inr ⟨k, _, hvk.out, hP.out, rfl, .inl ⟨hno.out, rfl⟩⟩, hBB⟩
      · have hok : OkE ts ss (ty, tm, vs) := hq.1 rfl
        replace hok := Lib.hid hok
        clear hq
        rcases Nat.eq_zero_or_pos k with hk0 | hk0
        · subst hk0
          go_wp2_with fail
          go_quiet (fail)
          go_wp2
          go_roundw
          case rel => first | exact ⟨0 + 1, by omega, by go_num, Lib.hid (okay_step hP.out (fun e he => by rw [hvk.out] at he; injection he with he; subst he; exact ⟨hok.out, fun j d e1 => by omega⟩)), Below.drewN' hB4 _⟩ | exact ⟨0 + 1, by omega, by go_num, Lib.hid (okay_step hP.out (fun e he => by rw [hvk.out] at he; injection he with he; subst he; exact ⟨hok.out, fun j d e1 => by omega⟩))⟩
          case measure => simp [intOf]; omega
        · obtain ⟨j, hj⟩ : ∃ j, k = j + 1 := ⟨k - 1, by omega⟩
          have hjl : j < es.length := by omega
          have hvj : es[j]? = some es[j] := List.getElem?_eq_getElem hjl
          obtain ⟨_, t1, _⟩ := hcell.out j _ hvj
          generalize es[j] = dv at *
          obtain ⟨dy, dt, ds⟩ := dv
          simp only at t1
          have t1 := cell_later hB4 t1
          have x1 : wrap64 ((k : Int) - 1) = (j : Int) := by unfold wrap64; omega
          have x2 : (k : Int) - 1 = (j : Int) := by omega
          have x3 : decide ((k : Int) > 0) = true := by simp; omega
          have j0 : (0 : Int) ≤ (j : Int) := by omega
          have j1 : (j : Int) < (es.length : Int) := by omega
          replace hvj := Lib.hid hvj
          replace hj := Lib.hid hj
          by_cases ht : tm < dt
          · have ht' : decide (tm < dt) = true := by simpa using ht
            go_wp2_with fail
            go_quiet (fail)
            go_wp2
            exact bodyPost_ret (v := .tuple #[.int .i64 (k : Int), .int .i64 21]) (by simp [results, Tryd.results19, go_sem]) rfl ⟨_, _, rfl, .inr ⟨k, _, hvk.out, hP.out, rfl, .inr ⟨hok.out, ⟨j, _, hj.out, hvj.out, ht⟩, rfl⟩⟩, Below.drewN' hBB _⟩
          · have ht' : decide (tm < dt) = false := by simpa using ht
            have hOK : Okay (OkE ts ss) es k := fun e he => by
              rw [hvk.out] at he
              injection he with he
              subst he
              refine ⟨hok.out, fun j' d e1 hd => ?_⟩
              have hjj := hj.out
              obtain rfl : j' = j := by omega
              rw [hvj.out] at hd
              injection hd with hd
              subst hd
              show dt ≤ tm
              omega
            replace hOK := Lib.hid hOK
            go_wp2_with fail
            go_quiet (fail)
            go_wp2
            go_roundw
            case rel => first | exact ⟨k + 1, by omega, by go_num, Lib.hid (okay_step hP.out hOK.out), Below.drewN' hB4 _⟩ | exact ⟨k + 1, by omega, by go_num, Lib.hid (okay_step hP.out hOK.out)⟩
            case measure => simp [intOf]; omega
    · obtain rfl : k = es.length := by omega
      have hBB := mmore hu hB
      go_wp2
      exact bodyPost_ret (v := .tuple #[.int .i64 0, .int .i64 0]) (by simp [results, Tryd.results19, go_sem]) rfl ⟨_, _, rfl, .inl ⟨hP.out, rfl, rfl⟩, hBB⟩
end Go.Proofs.YtbgjllpdbbolfabDoor
