/- The program's event carried to the document's ('Of'), and whether two of the document's events are the same ('Same'), as contracts. -/
import Derived.Test.YtkmlbifhpkfinaaGreatDoorEvS
namespace Go.Proofs.YtkmlbifhpkfinaaGreatDoor
open Go.ChangeShapes Go.WideShapes Go.ChangeAt Go.RowKit Go.Fl
set_option linter.unusedVariables false
set_option linter.unusedSimpArgs false

theorem infoRV : (Tryz.prog.info? 64).map (fun i => (i.zero, i.size, i.bytes)) = some (some (.agg #[.int .i64 0, .int .u64 0]), 2, 16) := by kernel_rfl
def EvRr (u0 : World) (ty tm : Int) (vs : List (Int × Nat)) (k : Nat) (wr : World) : Prop :=
  ∃ v : Value, Blk wr u0.heap.size 28 #[.int .i64 ty, .int .i64 tm, v] ∧ wr.ownsRow u0.heap.size 64 2 v k (cellsV (vs.take k)) ∧ Below u0.heap.size u0 wr

set_option maxHeartbeats 8000000 in
set_option maxRecDepth 100000 in
theorem evof_any (B : Option Addr) (capB : Nat) (ty tm : Int) (vs : List (Int × Nat)) (w : World) (hv : RowV w B vs.length vs) (hr : vs.length * 16 ≤ 140737488351232) :
    Calls Tryz.prog 14 #[.agg #[.int .i64 ty, .int .i64 tm, .slice B vs.length capB]] w fun e w' => ∃ B' cap', e = .returned (.agg #[.int .i64 ty, .int .i64 tm, .slice B' vs.length cap']) ∧ RowV w' B' vs.length vs ∧ Below w.heap.size w w' := by
  obtain ⟨i0, hi, hz0, hz1, hz2⟩ := info_parts infoRV
  have hu := m2 w (.cells #[.int .i64 ty, .int .i64 tm, .slice B vs.length capB] 36) (.cells #[.int .i64 0, .int .i64 0, .slice none 0 0] 28)
  have hvu := Lib.hid (hv.later hu)
  have c2 : ((w.alloc (.cells #[.int .i64 ty, .int .i64 tm, .slice B vs.length capB] 36)).alloc (.cells #[.int .i64 0, .int .i64 0, .slice none 0 0] 28)).cell? ⟨w.heap.size, 2, none⟩ = some (.slice B vs.length capB) := by simp [go_sem]
  have k2 : Blk ((w.alloc (.cells #[.int .i64 ty, .int .i64 tm, .slice B vs.length capB] 36)).alloc (.cells #[.int .i64 0, .int .i64 0, .slice none 0 0] 28)) (w.heap.size + 1) 28 #[.int .i64 0, .int .i64 0, .slice none 0 0] := by
    have := Blk.made (w.alloc (.cells #[.int .i64 ty, .int .i64 tm, .slice B vs.length capB] 36)) 28 #[.int .i64 0, .int .i64 0, .slice none 0 0]
    simpa using this
  have k3 := Blk.made ((w.alloc (.cells #[.int .i64 ty, .int .i64 tm, .slice B vs.length capB] 36)).alloc (.cells #[.int .i64 0, .int .i64 0, .slice none 0 0] 28)) 28 #[.int .i64 ty, .int .i64 tm, .slice none 0 0]
  have e3 : ((w.alloc (.cells #[.int .i64 ty, .int .i64 tm, .slice B vs.length capB] 36)).alloc (.cells #[.int .i64 0, .int .i64 0, .slice none 0 0] 28)).heap.size = w.heap.size + 1 + 1 := by simp
  clear hv
  go_enter Tryz.func14, Tryz.ntmps14
  go_wp2_with fail
  rw [← e3]
  generalize (w.alloc (.cells #[.int .i64 ty, .int .i64 tm, .slice B vs.length capB] 36)).alloc (.cells #[.int .i64 0, .int .i64 0, .slice none 0 0] 28) = u0 at *
  replace e3 := Lib.hid e3
  replace k2 := Lib.hid k2
  go_loopw [14] (fun i wr => ∃ k : Nat, k ≤ vs.length ∧ i = .int .i64 (k : Int) ∧ EvRr u0 ty tm vs k wr) (fun i _ => vs.length - (intOf i).toNat)
  case atStart => exact ⟨0, Nat.zero_le _, rfl, .slice none 0 0, k3, World.ownsRow_nil _ _ _ _, m1 _ _⟩
  case round =>
    obtain ⟨k, hk, rfl, v, hG, hO, hB⟩ := hrel
    clear k3
    by_cases hlt : k < vs.length
    · obtain ⟨b, off, e2, hvc⟩ := hvu.out.2.2 (by omega)
      have hvk : vs[k]? = some (vs[k].1, vs[k].2) := List.getElem?_eq_getElem hlt
      have hb := hvu.out.2.1 _ (List.getElem_mem hlt)
      obtain ⟨q0, q1⟩ := hvc k _ _ hvk
      have SN := Lib.hid (cellsV_snoc vs k _ hvk)
      subst e2
      generalize vs[k].1 = vk at *
      generalize vs[k].2 = vb at *
      have q0 := cell_later hB q0
      have q1 := cell_later hB q1
      clear hvc hvk
      have hs0 := hB.size
      go_upto_region 5 with (fail)
      have hwz := m1 wr (.cells #[.int .i64 vk, .int .u64 (vb : Int)] 61)
      have g0 : (wr.alloc (.cells #[.int .i64 vk, .int .u64 (vb : Int)] 61)).cell? ⟨wr.heap.size, 0, none⟩ = some (.int .i64 vk) := by simp [go_sem]
      have g1 : (wr.alloc (.cells #[.int .i64 vk, .int .u64 (vb : Int)] 61)).cell? ⟨wr.heap.size, 1, none⟩ = some (.int .u64 (vb : Int)) := by simp [go_sem]
      have hGz := hG.kept hwz
      have hOz := mown_below hO hwz
      have hBz := mmore hB hwz
      have hsz := hBz.size
      generalize wr.heap.size = g5 at *
      clear hG hO hB hwz q0 q1 hs0
      generalize wr.alloc (.cells #[.int .i64 vk, .int .u64 (vb : Int)] 61) = wz at *
      have x2 : wz.cell? ⟨u0.heap.size, 2, none⟩ = some v := hGz.cell 2
      have hOz : wz.drew.ownsRow u0.heap.size 64 2 v k (cellsV (vs.take k)) := hOz
      have hGz : Blk wz.drew u0.heap.size 28 #[.int .i64 ty, .int .i64 tm, v] := hGz
      have hBz : Below u0.heap.size u0 wz.drew := hBz.drew
      have n3 : k + 1 ≤ maxLen := by unfold maxLen; omega
      have n4 : (k + 1) * 16 ≤ 140737488355328 := by omega
      go_region_law (first | (go_simp; go_at_call 26; refine (of_any _ _ _).mono ?_; rintro e w2 ⟨rfl, hb1⟩; have hO2 := mown_below hOz hb1; have hG2 := hGz.kept hb1; have hB2 := mmore hBz hb1; have x2' : w2.cell? ⟨u0.heap.size, 2, none⟩ = some v := hG2.cell 2; have x3 : ∀ o : Obj, (w2.alloc o).cell? ⟨u0.heap.size, 2, none⟩ = some v := fun o => cell_later (m1 w2 o) x2') | (refine step_append_own rfl (.tmp 19) (.tmp 22) 26 rfl u0.heap.size 64 i0 (.agg #[.int .i64 0, .int .u64 0]) 2 16 Tryz.underlying26 hi hz0 hz1 hz2 rfl (by decide) v k (cellsV (vs.take k)) rfl (hO2.alloc _) ⟨w2.heap.size, 0, none⟩ 1 1 [.int .i64 vk, .int .u64 (vb : Int)] rfl rfl (news_two _ _ _ _) (one_two _ _) n3 n4 (Nat.le_trans hB2.size (by simp)) ?_; intro v' w3 hO3 hgrow; obtain ⟨gx, capx, rfl, _, _⟩ := hO3.form (by omega); have hG3 := (hG2.kept (m1 _ _)).grown hgrow (hG2.own_ne hO2 (by decide)); have hB3 := (hB2.alloc hB2.size _).grown hgrow (Nat.le_trans hB2.size (by simp)) (fun g hg => (hO2.lt g hg).1); have y2 := hG3.cell 2; have y3 := hG3.free 2))
      all_goals have hG4 : Blk (w3.setCell ⟨u0.heap.size, 2, none⟩ (.slice (some ⟨gx, 0, none⟩) (k + 1) capx)) u0.heap.size 28 #[.int .i64 ty, .int .i64 tm, .slice (some ⟨gx, 0, none⟩) (k + 1) capx] := by simpa using hG3.put_ 2 (.slice (some ⟨gx, 0, none⟩) (k + 1) capx)
      all_goals have hO4 := mown_set hO3 (p := ⟨u0.heap.size, 2, none⟩) (fun e => hG3.own_ne hO3 (by decide) e.symm) (.slice (some ⟨gx, 0, none⟩) (k + 1) capx)
      all_goals have hB4 := hB3.setCell (p := ⟨u0.heap.size, 2, none⟩) (Nat.le_refl _) (.slice (some ⟨gx, 0, none⟩) (k + 1) capx)
      all_goals have SN4 : cellsV (vs.take (k + 1)) = cellsV (vs.take k) ++ [.int .i64 vk, .int .u64 (vb : Int)] := SN.out
      all_goals rw [← SN4] at hO4
      all_goals clear SN4 hO3 hG3 hB3 hgrow hO2 hG2 hB2 x3 x2' y2 y3 hOz hGz hBz x2
      all_goals generalize w3.setCell ⟨u0.heap.size, 2, none⟩ (.slice (some ⟨gx, 0, none⟩) (k + 1) capx) = w4 at *
      all_goals go_wp2
      all_goals go_roundw
      all_goals first | exact ⟨k + 1, by omega, by go_num, _, hG4, hO4, hB4⟩ | (simp [intOf]; omega)
    · obtain rfl : k = vs.length := by omega
      rw [List.take_length] at hO
      have hbits := hvu.out.2.1
      obtain ⟨B2, cap2, rfl, hR⟩ := own_row hO hbits
      have k2' := k2.out.kept hB
      have hBw := mmore hu hB
      have x0 : wr.cell? ⟨u0.heap.size, 0, none⟩ = some (.int .i64 ty) := hG.cell 0
      have x1 : wr.cell? ⟨u0.heap.size, 1, none⟩ = some (.int .i64 tm) := hG.cell 1
      have x2 : wr.cell? ⟨u0.heap.size, 2, none⟩ = some (.slice B2 vs.length cap2) := hG.cell 2
      have z0 : wr.cell? ⟨w.heap.size + 1, 0, none⟩ = some (.int .i64 0) := k2'.cell 0
      have z1 : wr.cell? ⟨w.heap.size + 1, 1, none⟩ = some (.int .i64 0) := k2'.cell 1
      have z2 : wr.cell? ⟨w.heap.size + 1, 2, none⟩ = some (.slice none 0 0) := k2'.cell 2
      have f0 : wr.frozen? ⟨w.heap.size + 1, 0, none⟩ = false := k2'.free 0
      have f1 : wr.frozen? ⟨w.heap.size + 1, 1, none⟩ = false := k2'.free 1
      have f2 : wr.frozen? ⟨w.heap.size + 1, 2, none⟩ = false := k2'.free 2
      have k5 := ((k2'.put_ 0 (.int .i64 ty)).put_ 1 (.int .i64 tm)).put_ 2 (.slice B2 vs.length cap2)
      have hO5 := mown_set (mown_set (mown_set hO (p := ⟨w.heap.size + 1, 0, none⟩) (fun e => k2'.own_ne hO (by decide) e.symm) (.int .i64 ty)) (p := ⟨w.heap.size + 1, 1, none⟩) (fun e => k2'.own_ne hO (by decide) e.symm) (.int .i64 tm)) (p := ⟨w.heap.size + 1, 2, none⟩) (fun e => k2'.own_ne hO (by decide) e.symm) (.slice B2 vs.length cap2)
      have hB5 := ((hBw.setCell (p := ⟨w.heap.size + 1, 0, none⟩) (by show w.heap.size ≤ w.heap.size + 1; omega) (.int .i64 ty)).setCell (p := ⟨w.heap.size + 1, 1, none⟩) (by show w.heap.size ≤ w.heap.size + 1; omega) (.int .i64 tm)).setCell (p := ⟨w.heap.size + 1, 2, none⟩) (by show w.heap.size ≤ w.heap.size + 1; omega) (.slice B2 vs.length cap2)
      have r0 := Lib.hid (k5.cell 0)
      have r1 := Lib.hid (k5.cell 1)
      have r2 := Lib.hid (k5.cell 2)
      obtain ⟨B3, cap3, e5, hR5⟩ := own_row hO5 hbits
      injection e5 with e6 _ e7
      subst e6 e7
      replace hR5 := Lib.hid hR5
      replace hB5 := Lib.hid hB5
      clear hG hO hB hR k2 k2' k5 hO5 hBw hvu c2 e3
      go_wp2
      have r0 := r0.out
      have r1 := r1.out
      have r2 := r2.out
      simp only [Array.setIfInBounds] at r0 r1 r2
      exact bodyPost_ret (v := .agg #[.int .i64 ty, .int .i64 tm, .slice B2 vs.length cap2]) (by simp [results, Tryz.results14, go_sem, r0, r1, r2, x0, x1, x2, z0, z1, z2]) rfl (by first | exact ⟨_, ⟨_, rfl⟩, hR5.out, hB5.out⟩ | exact ⟨_, _, rfl, hR5.out, hB5.out⟩)

theorem rv_ext {vs us : List (Int × Nat)} (hl : vs.length = us.length) (h : ∀ (i : Nat) (a b : Int × Nat), i < vs.length → vs[i]? = some a → us[i]? = some b → a = b) : vs = us := by
  apply List.ext_getElem hl
  intro i h1 h2
  exact h i _ _ h1 (List.getElem?_eq_getElem h1) (List.getElem?_eq_getElem h2)

set_option maxHeartbeats 8000000 in
set_option maxRecDepth 100000 in
theorem evsame_any (A B : Option Addr) (capA capB : Nat) (ty tm ty' tm' : Int) (vs us : List (Int × Nat)) (w : World) (hv : RowV w A vs.length vs) (hu' : RowV w B us.length us) (hr : vs.length * 16 ≤ 140737488351232) (hr' : us.length * 16 ≤ 140737488351232) :
    Calls Tryz.prog 13 #[.agg #[.int .i64 ty, .int .i64 tm, .slice A vs.length capA], .agg #[.int .i64 ty', .int .i64 tm', .slice B us.length capB]] w (Says (ty = ty' ∧ tm = tm' ∧ vs = us) w) := by
  have hu := m2 w (.cells #[.int .i64 ty, .int .i64 tm, .slice A vs.length capA] 28) (.cells #[.int .i64 ty', .int .i64 tm', .slice B us.length capB] 28)
  have k0 : Blk ((w.alloc (.cells #[.int .i64 ty, .int .i64 tm, .slice A vs.length capA] 28)).alloc (.cells #[.int .i64 ty', .int .i64 tm', .slice B us.length capB] 28)) w.heap.size 28 #[.int .i64 ty, .int .i64 tm, .slice A vs.length capA] := (Blk.made _ _ _).kept (m1 _ _)
  have k1 : Blk ((w.alloc (.cells #[.int .i64 ty, .int .i64 tm, .slice A vs.length capA] 28)).alloc (.cells #[.int .i64 ty', .int .i64 tm', .slice B us.length capB] 28)) (w.heap.size + 1) 28 #[.int .i64 ty', .int .i64 tm', .slice B us.length capB] := by
    have := Blk.made (w.alloc (.cells #[.int .i64 ty, .int .i64 tm, .slice A vs.length capA] 28)) 28 #[.int .i64 ty', .int .i64 tm', .slice B us.length capB]
    simpa using this
  have hVu := Lib.hid (hv.later hu)
  have hUu := Lib.hid (hu'.later hu)
  clear hv hu'
  obtain ⟨P, hP⟩ : ∃ P : Prop, P = (ty = ty' ∧ tm = tm' ∧ vs = us) := ⟨_, rfl⟩
  rw [← hP]
  replace hP := Lib.hid hP
  have F0 : ∀ u : World, Below w.heap.size w u → ¬ P → Says P w (.returned (.bool false)) u := fun u hb h => .no rfl h hb
  replace F0 := Lib.hid F0
  by_cases h1 : ty = ty'
  · by_cases h2 : tm = tm'
    · by_cases h3 : vs.length = us.length
      · have hPe : P ↔ vs = us := by rw [hP.out]; exact ⟨fun h => h.2.2, fun h => ⟨h1, h2, h⟩⟩
        subst h1 h2
        have c1 : (ty != ty) = false := by simp
        have c2 : (tm != tm) = false := by simp
        have c3 : ((vs.length : Int) != (us.length : Int)) = false := by simp [h3]
        replace h3 := Lib.hid h3
        replace hPe := Lib.hid hPe
        clear hP
        go_enter Tryz.func13, Tryz.ntmps13
        go_wp2_with fail
        generalize (w.alloc (.cells #[.int .i64 ty, .int .i64 tm, .slice A vs.length capA] 28)).alloc (.cells #[.int .i64 ty, .int .i64 tm, .slice B us.length capB] 28) = u at *
        have d2 : u.cell? ⟨w.heap.size, 2, none⟩ = some (.slice A vs.length capA) := k0.cell 2
        have e2 : u.cell? ⟨w.heap.size + 1, 2, none⟩ = some (.slice B us.length capB) := k1.cell 2
        go_loopw [30] (fun i wr => ∃ k : Nat, k ≤ vs.length ∧ i = .int .i64 (k : Int) ∧ Hid (∀ (j : Nat) (a b : Int × Nat), j < k → vs[j]? = some a → us[j]? = some b → a = b) ∧ Below u.heap.size u wr) (fun i _ => vs.length - (intOf i).toNat)
        case atStart => exact ⟨0, Nat.zero_le _, rfl, Lib.hid (fun j a b h => absurd h (Nat.not_lt_zero _)), Below.refl _ _⟩
        case round =>
          obtain ⟨k, hk, rfl, hF, hB⟩ := hrel
          have k00 : (0 : Int) ≤ (k : Int) := by omega
          have x2 := cell_later hB d2
          have y2 := cell_later hB e2
          have hBw := mmore hu hB
          by_cases hlt : k < vs.length
          · have h3o := h3.out
            have hlt2 : k < us.length := by omega
            obtain ⟨bA, oA, rfl, hvc⟩ := hVu.out.2.2 (by omega)
            obtain ⟨bB, oB, rfl, huc⟩ := hUu.out.2.2 (by omega)
            have hvk : vs[k]? = some (vs[k].1, vs[k].2) := List.getElem?_eq_getElem hlt
            have huk : us[k]? = some (us[k].1, us[k].2) := List.getElem?_eq_getElem hlt2
            obtain ⟨p0, p1⟩ := hvc k _ _ hvk
            obtain ⟨q0, q1⟩ := huc k _ _ huk
            generalize vs[k].1 = vk at *
            generalize vs[k].2 = vb at *
            generalize us[k].1 = wk at *
            generalize us[k].2 = wb at *
            have p0 := cell_later hB p0
            have p1 := cell_later hB p1
            have q0 := cell_later hB q0
            have q1 := cell_later hB q1
            have l1 : (k : Int) < (vs.length : Int) := by omega
            have l2 : (k : Int) < (us.length : Int) := by omega
            by_cases hEq : vk = wk ∧ vb = wb
            · have NQ := fun w => neqR vk wk vb wb w
              rw [decide_eq_true (show vk = wk ∧ (vb : Int) = (wb : Int) from ⟨hEq.1, by rw [hEq.2]⟩)] at NQ
              have hF2 : Hid (∀ (j : Nat) (a b : Int × Nat), j < k + 1 → vs[j]? = some a → us[j]? = some b → a = b) := Lib.hid (fun j a b hj ha hb => by
                by_cases hjk : j < k
                · exact hF.out j a b hjk ha hb
                · obtain rfl : j = k := by omega
                  rw [hvk] at ha
                  rw [huk] at hb
                  injection ha with ha
                  injection hb with hb
                  rw [← ha, ← hb, hEq.1, hEq.2])
              clear hvc huc hvk huk h3o hF hEq
              go_wp2_with fail
              go_quiet (fail)
              go_wp2
              go_roundw
              case rel => exact ⟨k + 1, by omega, by go_num, hF2, Below.drewN' hB _⟩
              case measure => simp [intOf]; omega
            · have NQ := fun w => neqR vk wk vb wb w
              rw [decide_eq_false (show ¬ (vk = wk ∧ (vb : Int) = (wb : Int)) from fun h => hEq ⟨h.1, by omega⟩)] at NQ
              have hno : ¬ P := fun h => hEq (by
                have e := hPe.out.1 h
                rw [e, huk] at hvk
                injection hvk with hvk
                injection hvk with h1 h2
                exact ⟨h1.symm, h2.symm⟩)
              replace hno := Lib.hid hno
              clear hvc huc hvk huk h3o hF hEq
              go_wp2_with fail
              go_quiet (fail)
              go_wp2
              go_ret
              exact F0.out _ (Below.drewN' hBw _) hno.out
          · obtain rfl : k = vs.length := by omega
            have l1 : ¬ (vs.length : Int) < (vs.length : Int) := by omega
            have hyes : P := hPe.out.2 (rv_ext h3.out (fun i a b hi ha hb => hF.out i a b hi ha hb))
            replace hyes := Lib.hid hyes
            go_wp2
            go_ret
            exact .yes rfl hyes.out hBw
      · have hno : ¬ P := fun h => h3 (by rw [hP.out] at h; rw [h.2.2])
        subst h1 h2
        have c1 : (ty != ty) = false := by simp
        have c2 : (tm != tm) = false := by simp
        have c3 : ((vs.length : Int) != (us.length : Int)) = true := by simp; omega
        replace hno := Lib.hid hno
        clear hP h3
        go_enter Tryz.func13, Tryz.ntmps13
        go_wp2
        go_ret
        exact F0.out _ hu hno.out
    · have hno : ¬ P := fun h => h2 (by rw [hP.out] at h; exact h.2.1)
      subst h1
      have c1 : (ty != ty) = false := by simp
      have c2 : (tm != tm') = true := by simpa using h2
      replace hno := Lib.hid hno
      clear hP h2
      go_enter Tryz.func13, Tryz.ntmps13
      go_wp2
      go_ret
      exact F0.out _ hu hno.out
  · have hno : ¬ P := fun h => h1 (by rw [hP.out] at h; exact h.1)
    have c1 : (ty != ty') = true := by simpa using h1
    replace hno := Lib.hid hno
    clear hP h1
    go_enter Tryz.func13, Tryz.ntmps13
    go_wp2
    go_ret
    exact F0.out _ hu hno.out
end Go.Proofs.YtkmlbifhpkfinaaGreatDoor
