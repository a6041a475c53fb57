/- The first event of a script that is wrong, in the program, as a contract. -/
import Derived.Test.YtbgjllpdbbolfabDoorEvS
namespace Go.Proofs.YtbgjllpdbbolfabDoor
open Go.ChangeShapes Go.WideShapes Go.ChangeAt Go.RowKit Go.Fl
set_option linter.unusedVariables false
set_option linter.unusedSimpArgs false

def OkE (ts : List ST) (ss : List ByteArray) (e : Ev) : Prop := EvOk ts ss e.1 e.2.1 e.2.2
/-- the event at a place is right, and not ahead of the one before -/
def Okay (ok : Ev → Prop) (es : List Ev) (i : Nat) : Prop := ∀ e, es[i]? = some e → ok e ∧ ∀ (j : Nat) (d : Ev), i = j + 1 → es[j]? = some d → d.2.1 ≤ e.2.1
def ScrIs (ok : Ev → Prop) (es : List Ev) (p r : Int) : Prop :=
  ((∀ i, i < es.length → Okay ok es i) ∧ p = 0 ∧ r = 0) ∨
  ∃ (i : Nat) (e : Ev), es[i]? = some e ∧ (∀ j, j < i → Okay ok es j) ∧ p = (i : Int) ∧ ((¬ ok e ∧ r = 20) ∨ (ok e ∧ (∃ (j : Nat) (d : Ev), i = j + 1 ∧ es[j]? = some d ∧ e.2.1 < d.2.1) ∧ r = 21))
theorem scr_bad {ok : Ev → Prop} {es : List Ev} {i : Nat} {e : Ev} {r : Int} (hi : es[i]? = some e) (h : (¬ ok e ∧ r = 20) ∨ (ok e ∧ (∃ (j : Nat) (d : Ev), i = j + 1 ∧ es[j]? = some d ∧ e.2.1 < d.2.1) ∧ r = 21)) (ho : Okay ok es i) : False := by
  obtain ⟨h1, h2⟩ := ho e hi
  rcases h with ⟨h, _⟩ | ⟨_, ⟨j, d, e1, hd, h⟩, _⟩
  · exact h h1
  · have := h2 j d e1 hd
    omega
theorem scr_one {ok : Ev → Prop} {es : List Ev} {p r p' r' : Int} (h : ScrIs ok es p r) (h' : ScrIs ok es p' r') : p = p' ∧ r = r' := by
  rcases h with ⟨h, rfl, rfl⟩ | ⟨i, e, hi, hb, rfl, hr⟩
  · rcases h' with ⟨_, rfl, rfl⟩ | ⟨i, e, hi, hb, rfl, hr⟩
    · exact ⟨rfl, rfl⟩
    · exact (scr_bad hi hr (h i (List.getElem?_eq_some_iff.1 hi).1)).elim
  · rcases h' with ⟨h, rfl, rfl⟩ | ⟨i', e', hi', hb', rfl, hr'⟩
    · exact (scr_bad hi hr (h i (List.getElem?_eq_some_iff.1 hi).1)).elim
    · rcases Nat.lt_trichotomy i i' with c | c | c
      · exact (scr_bad hi hr (hb' i c)).elim
      · subst c
        rw [hi] at hi'
        injection hi' with hi'
        subst hi'
        refine ⟨rfl, ?_⟩
        rcases hr with ⟨a, rfl⟩ | ⟨a, _, rfl⟩ <;> rcases hr' with ⟨a', rfl⟩ | ⟨a', _, rfl⟩ <;> first | rfl | exact absurd a' a | exact absurd a a'
      · exact (scr_bad hi' hr' (hb i' c)).elim
theorem okay_step {ok : Ev → Prop} {es : List Ev} {k : Nat} (h : ∀ j, j < k → Okay ok es j) (hk : Okay ok es k) : ∀ j, j < k + 1 → Okay ok es j := fun j hj => by
  by_cases c : j < k
  · exact h j c
  · obtain rfl : j = k := by omega
    exact hk
/-- what a script's answer tells -/
def Scr (ok : Ev → Prop) (es : List Ev) (w : World) (e : Ending) (w' : World) : Prop := ∃ p r : Int, e = .returned (.tuple #[.int .i64 p, .int .i64 r]) ∧ ScrIs ok es p r ∧ Below w.heap.size w w'

section
variable {w0 w w1 : World} {a0 a1 : Addr} {v0 v1 : Value} {A C B : Option Addr} {ts : List ST} {ss : List ByteArray} {es : List Ev}
theorem keepS (hb : Below w.heap.size w w1) (h : w.cell? a0 = some v0 ∧ w.cell? a1 = some v1 ∧ TypesAt w A ts ∧ SymsAt w C ss ∧ EvsAt w B es ∧ Below w0.heap.size w0 w) :
    w1.cell? a0 = some v0 ∧ w1.cell? a1 = some v1 ∧ TypesAt w1 A ts ∧ SymsAt w1 C ss ∧ EvsAt w1 B es ∧ Below w0.heap.size w0 w1 :=
  ⟨cell_later hb h.1, cell_later hb h.2.1, h.2.2.1.later hb, h.2.2.2.1.later hb, h.2.2.2.2.1.later hb, mmore h.2.2.2.2.2 hb⟩
theorem keepSd (h : w.cell? a0 = some v0 ∧ w.cell? a1 = some v1 ∧ TypesAt w A ts ∧ SymsAt w C ss ∧ EvsAt w B es ∧ Below w0.heap.size w0 w) :
    w.drew.cell? a0 = some v0 ∧ w.drew.cell? a1 = some v1 ∧ TypesAt w.drew A ts ∧ SymsAt w.drew C ss ∧ EvsAt w.drew B es ∧ Below w0.heap.size w0 w.drew :=
  ⟨h.1, h.2.1, h.2.2.1, h.2.2.2.1, h.2.2.2.2.1, h.2.2.2.2.2.drew⟩
theorem typesS (h : w.cell? a0 = some v0 ∧ w.cell? a1 = some v1 ∧ TypesAt w A ts ∧ SymsAt w C ss ∧ EvsAt w B es ∧ Below w0.heap.size w0 w) : TypesAt w A ts := h.2.2.1
theorem symsS (h : w.cell? a0 = some v0 ∧ w.cell? a1 = some v1 ∧ TypesAt w A ts ∧ SymsAt w C ss ∧ EvsAt w B es ∧ Below w0.heap.size w0 w) : SymsAt w C ss := h.2.2.2.1
end

set_option maxHeartbeats 8000000 in
set_option maxRecDepth 100000 in
theorem script_any (A C B : Option Addr) (cap capC capB : Nat) (ts : List ST) (ss : List ByteArray) (es : List Ev) (w : World) (hT : TypesAt w A ts) (hS : SymsAt w C ss) (hE : EvsAt w B es) (b1 : ts.length * 40 ≤ 140737488351232) (b2 : ∀ t ∈ ts, t.2.length * 24 ≤ 140737488351232) (hc1 : ss.length ≤ capC) (hc2 : capC ≤ maxLen) (hn : es.length * 40 ≤ 140737488351232) (hf : ∀ e ∈ es, e.2.2.length * 16 ≤ 140737488351232) :
    Calls Tryd.prog 17 #[.agg #[.slice A ts.length cap, .slice C ss.length capC], .slice B es.length capB] w (Scr (OkE ts ss) es w) := by
  have hu := m1 w (.cells #[.slice A ts.length cap, .slice C ss.length capC] 30)
  have k0 := Blk.made w 30 #[.slice A ts.length cap, .slice C ss.length capC]
  have base := And.intro (k0.cell 0) (And.intro (k0.cell 1) (And.intro (hT.later hu) (And.intro (hS.later hu) (And.intro (hE.later hu) hu))))
  replace b2 := Lib.hid b2
  replace hf := Lib.hid hf
  obtain ⟨c, hC⟩ := check_there ts ss
  have kl := ksOf_length ts
  have hn1 : (ss.length : Int) ≤ 9223372036854775807 := by unfold maxLen at hc2; omega
  have hl2 : ∀ ks ∈ ksOf ts, ks.length ≤ 9223372036854775807 := fun ks h => by
    obtain ⟨t, ht, rfl⟩ := List.mem_map.1 h
    have := b2.out t ht
    rw [ksT_length]
    omega
  have hl1 : (ksOf ts).length ≤ 9223372036854775807 := by rw [kl]; omega
  replace hl2 := Lib.hid hl2
  replace hC := Lib.hid hC
  clear hT hS hE k0 hu
  by_cases h0 : c = 0
  · subst h0
    go_enter Tryd.func17, Tryd.ntmps17
    go_wp2_with fail
    generalize w.alloc (.cells #[.slice A ts.length cap, .slice C ss.length capC] 30) = u at *
    have base' := base
    obtain ⟨d0, d1, dT, dS, dE, dB⟩ := base'
    simp at d0 d1
    go_region_held3 (fun w' => w'.cell? ⟨w.heap.size, 0, none⟩ = some (.slice A ts.length cap) ∧ w'.cell? ⟨w.heap.size, 1, none⟩ = some (.slice C ss.length capC) ∧ TypesAt w' A ts ∧ SymsAt w' C ss ∧ EvsAt w' B es ∧ Below w.heap.size w w')
      (first | exact keepSd base | go_keep | exact keepS hb1 (by first | assumption | exact ⟨by assumption, by assumption, by assumption, by assumption, by assumption, by assumption⟩))
      (first
        | (go_at_call 22; refine (check_any A C cap capC ts ss _ (by first | assumption | exact typesS (by assumption)) (by first | assumption | exact symsS (by assumption)) b1 b2.out hc1 hc2).mono ?_; rintro e w1 ⟨c', rfl, hC', hb1⟩; obtain rfl := check_one hC' hC.out)
        | (go_at_call 8; refine (evkinds_any A cap _ ts _ (by first | assumption | exact typesS (by assumption)) b1 b2.out).mono ?_; rintro e w1 ⟨A', cap', rfl, hK, hb1⟩))
    rename_i hS
    obtain ⟨s0, s1, sT, sS, sE, sB⟩ := hS
    replace hK := Lib.hid hK
    replace sE := Lib.hid sE
    clear base d0 d1 dT dS dE dB sT sS s0
    go_wp2_with fail
    go_loopw [17] (fun i wr => ∃ k : Nat, k ≤ es.length ∧ i = .int .i64 (k : Int) ∧ Hid (∀ j, j < k → Okay (OkE ts ss) es j) ∧ Below w1.heap.size w1 wr) (fun i _ => es.length - (intOf i).toNat)
    case atStart => exact ⟨0, Nat.zero_le _, rfl, Lib.hid (fun j h => by omega), Below.refl _ _⟩
    case round =>
      obtain ⟨k, hk, rfl, hP, hB⟩ := hrel
      by_cases hlt : k < es.length
      · obtain ⟨b, off, rfl, hcell⟩ := sE.out (by omega)
        have hvk : es[k]? = some es[k] := List.getElem?_eq_getElem hlt
        obtain ⟨r0, r1, Bx, cp, r2, hR⟩ := hcell k _ hvk
        have hfb := hf.out _ (List.getElem_mem hlt)
        replace hcell := Lib.hid hcell
        replace hvk := Lib.hid hvk
        generalize es[k] = ev at *
        obtain ⟨ty, tm, vs⟩ := ev
        simp only at r0 r1 r2 hR hfb
        have r0 := cell_later hB r0
        have r1 := cell_later hB r1
        have r2 := cell_later hB r2
        have s1 := cell_later hB s1
        have hw9 := m1 wr (.cells #[.int .i64 ty, .int .i64 tm, .slice Bx vs.length cp] 47)
        go_upto_region 5 with (fail)
        have g0 : (wr.alloc (.cells #[.int .i64 ty, .int .i64 tm, .slice Bx vs.length cp] 47)).cell? ⟨wr.heap.size, 0, none⟩ = some (.int .i64 ty) := by simp [go_sem]
        have g1 : (wr.alloc (.cells #[.int .i64 ty, .int .i64 tm, .slice Bx vs.length cp] 47)).cell? ⟨wr.heap.size, 1, none⟩ = some (.int .i64 tm) := by simp [go_sem]
        have g2 : (wr.alloc (.cells #[.int .i64 ty, .int .i64 tm, .slice Bx vs.length cp] 47)).cell? ⟨wr.heap.size, 2, none⟩ = some (.slice Bx vs.length cp) := by simp [go_sem]
        have s1 := cell_later hw9 s1
        have hBz := mmore hB hw9
        clear r0 r1 r2 hw9
        generalize wr.heap.size = g9 at *
        generalize wr.alloc (.cells #[.int .i64 ty, .int .i64 tm, .slice Bx vs.length cp] 47) = wz at *
        have CV := valid_any A' Bx cap' cp (ksOf ts) (ss.length : Int) ty tm vs wz (hK.out.later hBz) (hR.later hBz) (by omega) hn1 hl1 hl2.out (by omega)
        rw [kl] at CV
        replace CV := Lib.hid CV
        go_wp2_with fail
        refine CV.out.mono ?_; rintro e w4 ⟨q, rfl, hq, hb4⟩
        have hB4 := mmore hBz hb4
        have hBB := mmore sB hB4
        have h1 := cell_later hb4 g1
        clear CV g0 g1 g2 s1
        cases q
        · have hno : ¬ OkE ts ss (ty, tm, vs) := fun h => by have := hq.2 h.2; cases this
          replace hno := Lib.hid hno
          clear hq
          go_wp2
          exact bodyPost_ret (v := .tuple #[.int .i64 (k : Int), .int .i64 20]) (by simp [results, Tryd.results17, go_sem]) rfl ⟨_, _, rfl, .inr ⟨k, _, hvk.out, hP.out, rfl, .inl ⟨hno.out, rfl⟩⟩, hBB⟩
        · have hok : OkE ts ss (ty, tm, vs) := ⟨hC.out, hq.1 rfl⟩
          replace hok := Lib.hid hok
          clear hq
          rcases Nat.eq_zero_or_pos k with hk0 | hk0
          · subst hk0
            go_wp2_with fail
            go_quiet (fail)
            go_wp2
            go_roundw
            case rel => first | exact ⟨0 + 1, by omega, by go_num, Lib.hid (okay_step hP.out (fun e he => by rw [hvk.out] at he; injection he with he; subst he; exact ⟨hok.out, fun j d e1 => by omega⟩)), Below.drewN' hB4 _⟩ | exact ⟨0 + 1, by omega, by go_num, Lib.hid (okay_step hP.out (fun e he => by rw [hvk.out] at he; injection he with he; subst he; exact ⟨hok.out, fun j d e1 => by omega⟩))⟩
            case measure => simp [intOf]; omega
          · obtain ⟨j, hj⟩ : ∃ j, k = j + 1 := ⟨k - 1, by omega⟩
            have hjl : j < es.length := by omega
            have hvj : es[j]? = some es[j] := List.getElem?_eq_getElem hjl
            obtain ⟨_, t1, _⟩ := hcell.out j _ hvj
            generalize es[j] = dv at *
            obtain ⟨dy, dt, ds⟩ := dv
            simp only at t1
            have t1 := cell_later hB4 t1
            have x1 : wrap64 ((k : Int) - 1) = (j : Int) := by unfold wrap64; omega
            have x2 : (k : Int) - 1 = (j : Int) := by omega
            have x3 : decide ((k : Int) > 0) = true := by simp; omega
            have j0 : (0 : Int) ≤ (j : Int) := by omega
            have j1 : (j : Int) < (es.length : Int) := by omega
            replace hvj := Lib.hid hvj
            replace hj := Lib.hid hj
            by_cases ht : tm < dt
            · have ht' : decide (tm < dt) = true := by simpa using ht
              go_wp2_with fail
              go_quiet (fail)
              go_wp2
              exact bodyPost_ret (v := .tuple #[.int .i64 (k : Int), .int .i64 21]) (by simp [results, Tryd.results17, go_sem]) rfl ⟨_, _, rfl, .inr ⟨k, _, hvk.out, hP.out, rfl, .inr ⟨hok.out, ⟨j, _, hj.out, hvj.out, ht⟩, rfl⟩⟩, Below.drewN' hBB _⟩
            · have ht' : decide (tm < dt) = false := by simpa using ht
              have hOK : Okay (OkE ts ss) es k := fun e he => by
                rw [hvk.out] at he
                injection he with he
                subst he
                refine ⟨hok.out, fun j' d e1 hd => ?_⟩
                have hjj := hj.out
                obtain rfl : j' = j := by omega
                rw [hvj.out] at hd
                injection hd with hd
                subst hd
                show dt ≤ tm
                omega
              replace hOK := Lib.hid hOK
              go_wp2_with fail
              go_quiet (fail)
              go_wp2
              go_roundw
              case rel => first | exact ⟨k + 1, by omega, by go_num, Lib.hid (okay_step hP.out hOK.out), Below.drewN' hB4 _⟩ | exact ⟨k + 1, by omega, by go_num, Lib.hid (okay_step hP.out hOK.out)⟩
              case measure => simp [intOf]; omega
      · obtain rfl : k = es.length := by omega
        have hBB := mmore sB hB
        go_wp2
        exact bodyPost_ret (v := .tuple #[.int .i64 0, .int .i64 0]) (by simp [results, Tryd.results17, go_sem]) rfl ⟨_, _, rfl, .inl ⟨hP.out, rfl, rfl⟩, hBB⟩
  · have h0' : (c == 0) = false := by simpa using h0
    have hno : ∀ e, ¬ OkE ts ss e := fun e h => h0 (check_one hC.out h.1)
    replace hno := Lib.hid hno
    clear h0
    go_enter Tryd.func17, Tryd.ntmps17
    go_wp2_with fail
    generalize w.alloc (.cells #[.slice A ts.length cap, .slice C ss.length capC] 30) = u at *
    have base' := base
    obtain ⟨d0, d1, dT, dS, dE, dB⟩ := base'
    simp at d0 d1
    go_region_held3 (fun w' => w'.cell? ⟨w.heap.size, 0, none⟩ = some (.slice A ts.length cap) ∧ w'.cell? ⟨w.heap.size, 1, none⟩ = some (.slice C ss.length capC) ∧ TypesAt w' A ts ∧ SymsAt w' C ss ∧ EvsAt w' B es ∧ Below w.heap.size w w')
      (first | exact keepSd base | go_keep | exact keepS hb1 (by first | assumption | exact ⟨by assumption, by assumption, by assumption, by assumption, by assumption, by assumption⟩))
      (first
        | (go_at_call 22; refine (check_any A C cap capC ts ss _ (by first | assumption | exact typesS (by assumption)) (by first | assumption | exact symsS (by assumption)) b1 b2.out hc1 hc2).mono ?_; rintro e w1 ⟨c', rfl, hC', hb1⟩; obtain rfl := check_one hC' hC.out)
        | (go_at_call 8; refine (evkinds_any A cap _ ts _ (by first | assumption | exact typesS (by assumption)) b1 b2.out).mono ?_; rintro e w1 ⟨A', cap', rfl, hK, hb1⟩))
    rename_i hS
    obtain ⟨s0, s1, sT, sS, sE, sB⟩ := hS
    replace sE := Lib.hid sE
    clear base d0 d1 dT dS dE dB sT sS s0 s1 hK
    go_wp2_with fail
    go_loopw [17] (fun i wr => i = .int .i64 ((0 : Nat) : Int) ∧ Below w1.heap.size w1 wr) (fun i _ => es.length - (intOf i).toNat)
    case atStart => exact ⟨rfl, Below.refl _ _⟩
    case round =>
      obtain ⟨rfl, hB⟩ := hrel
      have hBB := mmore sB hB
      by_cases hlt : 0 < es.length
      · obtain ⟨b, off, rfl, hcell⟩ := sE.out hlt
        have hvk : es[0]? = some es[0] := List.getElem?_eq_getElem hlt
        obtain ⟨r0, r1, Bx, cp, r2, hR⟩ := hcell 0 _ hvk
        replace hvk := Lib.hid hvk
        generalize es[0] = ev at *
        obtain ⟨ty, tm, vs⟩ := ev
        simp only [Nat.zero_mul, Nat.add_zero] at r0 r1 r2
        have r0 := cell_later hB r0
        have r1 := cell_later hB r1
        have r2 := cell_later hB r2
        have k1 : (0 : Int) < (es.length : Int) := by omega
        have hw9 := mmore hBB (m1 wr (.cells #[.int .i64 ty, .int .i64 tm, .slice Bx vs.length cp] 47))
        clear hcell hR
        go_wp2
        exact bodyPost_ret (v := .tuple #[.int .i64 0, .int .i64 20]) (by simp [results, Tryd.results17, go_sem]) rfl ⟨_, _, rfl, .inr ⟨0, _, hvk.out, fun j h => by omega, rfl, .inl ⟨hno.out _, rfl⟩⟩, hw9⟩
      · have hz : es.length = 0 := by omega
        go_wp2
        exact bodyPost_ret (v := .tuple #[.int .i64 0, .int .i64 0]) (by simp [results, Tryd.results17, go_sem]) rfl ⟨_, _, rfl, .inl ⟨fun i h => by omega, rfl, rfl⟩, hBB⟩
end Go.Proofs.YtbgjllpdbbolfabDoor
