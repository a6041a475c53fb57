/- Scripts of events, as contracts. -/
import Derived.Test.YtbgjllpdbbolfabDoorEvR
import Derived.Test.YtbgjllpdbbolfabDoorEvO
namespace Go.Proofs.YtbgjllpdbbolfabDoor
open Go.ChangeShapes Go.WideShapes Go.ChangeAt Go.RowKit Go.Fl
set_option linter.unusedVariables false
set_option linter.unusedSimpArgs false

set_option maxHeartbeats 8000000 in
set_option maxRecDepth 100000 in
theorem evto_own (B : Option Addr) (capB : Nat) (ty tm : Int) (vs : List (Int × Nat)) (w : World) (hv : RowV w B vs.length vs) (hr : vs.length * 16 ≤ 140737488351232) :
    Calls Tryd.prog 13 #[.agg #[.int .i64 ty, .int .i64 tm, .slice B vs.length capB]] w fun e w' => ∃ B' cap', e = .returned (.agg #[.int .i64 ty, .int .i64 tm, .slice B' vs.length cap']) ∧ RowV w' B' vs.length vs ∧ w'.ownsRow w.heap.size 72 2 (.slice B' vs.length cap') vs.length (cellsV vs) ∧ Below w.heap.size w w' := by
  obtain ⟨i0, hi, hz0, hz1, hz2⟩ := info_parts infoV
  have hu := m2 w (.cells #[.int .i64 ty, .int .i64 tm, .slice B vs.length capB] 42) (.cells #[.int .i64 0, .int .i64 0, .slice none 0 0] 47)
  have hvu := Lib.hid (hv.later hu)
  have c2 : ((w.alloc (.cells #[.int .i64 ty, .int .i64 tm, .slice B vs.length capB] 42)).alloc (.cells #[.int .i64 0, .int .i64 0, .slice none 0 0] 47)).cell? ⟨w.heap.size, 2, none⟩ = some (.slice B vs.length capB) := by simp [go_sem]
  have k2 : Blk ((w.alloc (.cells #[.int .i64 ty, .int .i64 tm, .slice B vs.length capB] 42)).alloc (.cells #[.int .i64 0, .int .i64 0, .slice none 0 0] 47)) (w.heap.size + 1) 47 #[.int .i64 0, .int .i64 0, .slice none 0 0] := by
    have := Blk.made (w.alloc (.cells #[.int .i64 ty, .int .i64 tm, .slice B vs.length capB] 42)) 47 #[.int .i64 0, .int .i64 0, .slice none 0 0]
    simpa using this
  have k3 := Blk.made ((w.alloc (.cells #[.int .i64 ty, .int .i64 tm, .slice B vs.length capB] 42)).alloc (.cells #[.int .i64 0, .int .i64 0, .slice none 0 0] 47)) 47 #[.int .i64 ty, .int .i64 tm, .slice none 0 0]
  have e3 : ((w.alloc (.cells #[.int .i64 ty, .int .i64 tm, .slice B vs.length capB] 42)).alloc (.cells #[.int .i64 0, .int .i64 0, .slice none 0 0] 47)).heap.size = w.heap.size + 1 + 1 := by simp
  clear hv
  go_enter Tryd.func13, Tryd.ntmps13
  go_wp2_with fail
  rw [← e3]
  generalize (w.alloc (.cells #[.int .i64 ty, .int .i64 tm, .slice B vs.length capB] 42)).alloc (.cells #[.int .i64 0, .int .i64 0, .slice none 0 0] 47) = u0 at *
  replace e3 := Lib.hid e3
  replace k2 := Lib.hid k2
  go_loopw [14] (fun i wr => ∃ k : Nat, k ≤ vs.length ∧ i = .int .i64 (k : Int) ∧ EvR u0 ty tm vs k wr) (fun i _ => vs.length - (intOf i).toNat)
  case atStart => exact ⟨0, Nat.zero_le _, rfl, .slice none 0 0, k3, World.ownsRow_nil _ _ _ _, m1 _ _⟩
  case round =>
    obtain ⟨k, hk, rfl, v, hG, hO, hB⟩ := hrel
    clear k3
    by_cases hlt : k < vs.length
    · obtain ⟨b, off, e2, hvc⟩ := hvu.out.2.2 (by omega)
      have hvk : vs[k]? = some (vs[k].1, vs[k].2) := List.getElem?_eq_getElem hlt
      have hb := hvu.out.2.1 _ (List.getElem_mem hlt)
      obtain ⟨q0, q1⟩ := hvc k _ _ hvk
      have SN := Lib.hid (cellsV_snoc vs k _ hvk)
      subst e2
      generalize vs[k].1 = vk at *
      generalize vs[k].2 = vb at *
      have q0 := cell_later hB q0
      have q1 := cell_later hB q1
      clear hvc hvk
      have hs0 := hB.size
      go_upto_region 5 with (fail)
      have hwz := m1 wr (.cells #[.int .i64 vk, .int .u64 (vb : Int)] 68)
      have g0 : (wr.alloc (.cells #[.int .i64 vk, .int .u64 (vb : Int)] 68)).cell? ⟨wr.heap.size, 0, none⟩ = some (.int .i64 vk) := by simp [go_sem]
      have g1 : (wr.alloc (.cells #[.int .i64 vk, .int .u64 (vb : Int)] 68)).cell? ⟨wr.heap.size, 1, none⟩ = some (.int .u64 (vb : Int)) := by simp [go_sem]
      have hGz := hG.kept hwz
      have hOz := mown_below hO hwz
      have hBz := mmore hB hwz
      have hsz := hBz.size
      generalize wr.heap.size = g5 at *
      clear hG hO hB hwz q0 q1 hs0
      generalize wr.alloc (.cells #[.int .i64 vk, .int .u64 (vb : Int)] 68) = wz at *
      have x2 : wz.cell? ⟨u0.heap.size, 2, none⟩ = some v := hGz.cell 2
      have hOz : wz.drew.ownsRow u0.heap.size 72 2 v k (cellsV (vs.take k)) := hOz
      have hGz : Blk wz.drew u0.heap.size 47 #[.int .i64 ty, .int .i64 tm, v] := hGz
      have hBz : Below u0.heap.size u0 wz.drew := hBz.drew
      have n3 : k + 1 ≤ maxLen := by unfold maxLen; omega
      have n4 : (k + 1) * 16 ≤ 140737488355328 := by omega
      go_region_law (first | (go_simp; go_at_call 24; refine (to_any _ _ _).mono ?_; rintro e w2 ⟨rfl, hb1⟩; have hO2 := mown_below hOz hb1; have hG2 := hGz.kept hb1; have hB2 := mmore hBz hb1; have x2' : w2.cell? ⟨u0.heap.size, 2, none⟩ = some v := hG2.cell 2; have x3 : ∀ o : Obj, (w2.alloc o).cell? ⟨u0.heap.size, 2, none⟩ = some v := fun o => cell_later (m1 w2 o) x2') | (refine step_append_own rfl (.tmp 19) (.tmp 22) 45 rfl u0.heap.size 72 i0 (.agg #[.int .i64 0, .int .u64 0]) 2 16 Tryd.underlying45 hi hz0 hz1 hz2 rfl (by decide) v k (cellsV (vs.take k)) rfl (hO2.alloc _) ⟨w2.heap.size, 0, none⟩ 1 1 [.int .i64 vk, .int .u64 (vb : Int)] rfl rfl (news_two _ _ _ _) (one_two _ _) n3 n4 (Nat.le_trans hB2.size (by simp)) ?_; intro v' w3 hO3 hgrow; obtain ⟨gx, capx, rfl, _, _⟩ := hO3.form (by omega); have hG3 := (hG2.kept (m1 _ _)).grown hgrow (hG2.own_ne hO2 (by decide)); have hB3 := (hB2.alloc hB2.size _).grown hgrow (Nat.le_trans hB2.size (by simp)) (fun g hg => (hO2.lt g hg).1); have y2 := hG3.cell 2; have y3 := hG3.free 2))
      all_goals have hG4 : Blk (w3.setCell ⟨u0.heap.size, 2, none⟩ (.slice (some ⟨gx, 0, none⟩) (k + 1) capx)) u0.heap.size 47 #[.int .i64 ty, .int .i64 tm, .slice (some ⟨gx, 0, none⟩) (k + 1) capx] := by simpa using hG3.put_ 2 (.slice (some ⟨gx, 0, none⟩) (k + 1) capx)
      all_goals have hO4 := mown_set hO3 (p := ⟨u0.heap.size, 2, none⟩) (fun e => hG3.own_ne hO3 (by decide) e.symm) (.slice (some ⟨gx, 0, none⟩) (k + 1) capx)
      all_goals have hB4 := hB3.setCell (p := ⟨u0.heap.size, 2, none⟩) (Nat.le_refl _) (.slice (some ⟨gx, 0, none⟩) (k + 1) capx)
      all_goals have SN4 : cellsV (vs.take (k + 1)) = cellsV (vs.take k) ++ [.int .i64 vk, .int .u64 (vb : Int)] := SN.out
      all_goals rw [← SN4] at hO4
      all_goals clear SN4 hO3 hG3 hB3 hgrow hO2 hG2 hB2 x3 x2' y2 y3 hOz hGz hBz x2
      all_goals generalize w3.setCell ⟨u0.heap.size, 2, none⟩ (.slice (some ⟨gx, 0, none⟩) (k + 1) capx) = w4 at *
      all_goals go_wp2
      all_goals go_roundw
      all_goals first | exact ⟨k + 1, by omega, by go_num, _, hG4, hO4, hB4⟩ | (simp [intOf]; omega)
    · obtain rfl : k = vs.length := by omega
      rw [List.take_length] at hO
      have hbits := hvu.out.2.1
      obtain ⟨B2, cap2, rfl, hR⟩ := own_row hO hbits
      have k2' := k2.out.kept hB
      have hBw := mmore hu hB
      have x0 : wr.cell? ⟨u0.heap.size, 0, none⟩ = some (.int .i64 ty) := hG.cell 0
      have x1 : wr.cell? ⟨u0.heap.size, 1, none⟩ = some (.int .i64 tm) := hG.cell 1
      have x2 : wr.cell? ⟨u0.heap.size, 2, none⟩ = some (.slice B2 vs.length cap2) := hG.cell 2
      have z0 : wr.cell? ⟨w.heap.size + 1, 0, none⟩ = some (.int .i64 0) := k2'.cell 0
      have z1 : wr.cell? ⟨w.heap.size + 1, 1, none⟩ = some (.int .i64 0) := k2'.cell 1
      have z2 : wr.cell? ⟨w.heap.size + 1, 2, none⟩ = some (.slice none 0 0) := k2'.cell 2
      have f0 : wr.frozen? ⟨w.heap.size + 1, 0, none⟩ = false := k2'.free 0
      have f1 : wr.frozen? ⟨w.heap.size + 1, 1, none⟩ = false := k2'.free 1
      have f2 : wr.frozen? ⟨w.heap.size + 1, 2, none⟩ = false := k2'.free 2
      have k5 := ((k2'.put_ 0 (.int .i64 ty)).put_ 1 (.int .i64 tm)).put_ 2 (.slice B2 vs.length cap2)
      have hO5 := mown_set (mown_set (mown_set hO (p := ⟨w.heap.size + 1, 0, none⟩) (fun e => k2'.own_ne hO (by decide) e.symm) (.int .i64 ty)) (p := ⟨w.heap.size + 1, 1, none⟩) (fun e => k2'.own_ne hO (by decide) e.symm) (.int .i64 tm)) (p := ⟨w.heap.size + 1, 2, none⟩) (fun e => k2'.own_ne hO (by decide) e.symm) (.slice B2 vs.length cap2)
      have hB5 := ((hBw.setCell (p := ⟨w.heap.size + 1, 0, none⟩) (by show w.heap.size ≤ w.heap.size + 1; omega) (.int .i64 ty)).setCell (p := ⟨w.heap.size + 1, 1, none⟩) (by show w.heap.size ≤ w.heap.size + 1; omega) (.int .i64 tm)).setCell (p := ⟨w.heap.size + 1, 2, none⟩) (by show w.heap.size ≤ w.heap.size + 1; omega) (.slice B2 vs.length cap2)
      have r0 := Lib.hid (k5.cell 0)
      have r1 := Lib.hid (k5.cell 1)
      have r2 := Lib.hid (k5.cell 2)
      have e3o := e3.out
      have hO6 := mown_mono (base' := w.heap.size) hO5 (by omega)
      replace hO6 := Lib.hid hO6
      obtain ⟨B3, cap3, e5, hR5⟩ := own_row hO5 hbits
      injection e5 with e6 _ e7
      subst e6 e7
      replace hR5 := Lib.hid hR5
      replace hB5 := Lib.hid hB5
      clear hG hO hB hR k2 k2' k5 hO5 hBw hvu c2 e3 e3o
      go_wp2
      have r0 := r0.out
      have r1 := r1.out
      have r2 := r2.out
      simp only [Array.setIfInBounds] at r0 r1 r2
      exact bodyPost_ret (v := .agg #[.int .i64 ty, .int .i64 tm, .slice B2 vs.length cap2]) (by simp [results, Tryd.results13, go_sem, r0, r1, r2, x0, x1, x2, z0, z1, z2]) rfl ⟨_, _, rfl, hR5.out, hO6.out, hB5.out⟩

theorem infoEv : (Tryd.prog.info? 47).map (fun i => (i.zero, i.size, i.bytes)) = some (some (.agg #[.int .i64 0, .int .i64 0, .slice none 0 0]), 3, 40) := by kernel_rfl
/-- events as cells: us are their slices of values -/
def ecells (es : List Ev) (us : List Value) : List Value := (es.zip us).flatMap fun p => [.int .i64 p.1.1, .int .i64 p.1.2.1, p.2]
theorem ecells_snoc (es : List Ev) (us : List Value) (k : Nat) (e : Ev) (u : Value) (h : es[k]? = some e) (hl : us.length = k) : ecells (es.take (k + 1)) (us ++ [u]) = ecells (es.take k) us ++ [.int .i64 e.1, .int .i64 e.2.1, u] := by
  have hk : k < es.length := (List.getElem?_eq_some_iff.1 h).1
  have hl2 : (es.take k).length = us.length := by rw [List.length_take]; omega
  rw [List.take_add_one, h]
  unfold ecells
  simp only [Option.toList_some]
  rw [List.zip_append hl2]
  simp
theorem ecells_at : ∀ (es : List Ev) (us : List Value), us.length = es.length → ∀ (i : Nat) (e : Ev), es[i]? = some e → ∃ u, us[i]? = some u ∧ (ecells es us)[i * 3]? = some (.int .i64 e.1) ∧ (ecells es us)[i * 3 + 1]? = some (.int .i64 e.2.1) ∧ (ecells es us)[i * 3 + 2]? = some u
  | [], us, _, i, e, h => by simp at h
  | e0 :: es, [], hl, _, _, _ => by simp at hl
  | e0 :: es, u0 :: us, hl, i, e, h => by
    cases i with
    | zero => simp at h; subst h; exact ⟨u0, rfl, rfl, rfl, rfl⟩
    | succ i =>
      obtain ⟨u, h0, h1, h2, h3⟩ := ecells_at es us (by simpa using hl) i e (by simpa using h)
      refine ⟨u, by simpa using h0, ?_⟩
      rw [show (i + 1) * 3 = i * 3 + 3 by omega]
      exact ⟨h1, h2, h3⟩
def EvsOwn (w : World) (base : Nat) (es : List Ev) (us : List Value) : Prop := ∀ (i : Nat) (e : Ev) (x : Value), es[i]? = some e → us[i]? = some x → (∃ B cap, x = .slice B e.2.2.length cap ∧ (∀ v ∈ e.2.2, v.2 < 18446744073709551616)) ∧ w.ownsRow base 72 2 x e.2.2.length (cellsV e.2.2)
theorem own_evs {w : World} {base base' : Nat} {e : TypeId} {v : Value} {es : List Ev} {us : List Value} (hl : us.length = es.length) (h : w.ownsRow base e 3 v es.length (ecells es us)) (hu : EvsOwn w base' es us) :
    ∃ A cap, v = .slice A es.length cap ∧ es.length ≤ cap ∧ cap ≤ maxLen ∧ EvsAt w A es := by
  rcases h.2 with ⟨rfl, h0⟩ | ⟨g, cap, cur, rfl, _, _, hnc, hcm, _⟩
  · exact ⟨none, 0, by rw [h0], by omega, by unfold maxLen; omega, fun hp => by omega⟩
  · refine ⟨_, cap, rfl, hnc, hcm, fun _ => ⟨g, 0, rfl, fun i x hi => ?_⟩⟩
    have hc := h.cells (g := g) rfl
    obtain ⟨u, hx, h0, h1, h2⟩ := ecells_at es us hl i x hi
    obtain ⟨⟨B, cp, rfl, hb⟩, ho⟩ := hu i x u hi hx
    obtain ⟨B', cp', e', hR⟩ := own_row ho hb
    injection e' with e1 e2 e3
    subst e1 e3
    rw [Nat.zero_add, addr_add g (i * 3), addr_add g (i * 3 + 1), addr_add g (i * 3 + 2)]
    exact ⟨hc _ _ h0, hc _ _ h1, B, cp, hc _ _ h2, hR⟩

def AlR (u : World) (es : List Ev) (v i : Value) (wr : World) : Prop :=
  ∃ (k : Nat) (us : List Value), k ≤ es.length ∧ i = .int .i64 (k : Int) ∧ us.length = k ∧ wr.ownsRow u.heap.size 47 3 v k (ecells (es.take k) us) ∧ EvsOwn wr u.heap.size (es.take k) us ∧ Below u.heap.size u wr
set_option maxHeartbeats 8000000 in
set_option maxRecDepth 100000 in
theorem evall_any (A : Option Addr) (cap : Nat) (es : List Ev) (w : World) (hE : EvsAt w A es) (hn : es.length * 40 ≤ 140737488351232) (hf : ∀ e ∈ es, e.2.2.length * 16 ≤ 140737488351232) :
    Calls Tryd.prog 18 #[.slice A es.length cap] w fun e w' => ∃ A' cap', e = .returned (.slice A' es.length cap') ∧ es.length ≤ cap' ∧ cap' ≤ maxLen ∧ EvsAt w' A' es ∧ Below w.heap.size w w' := by
  obtain ⟨i0, hi, hz0, hz1, hz2⟩ := info_parts infoEv
  replace hE := Lib.hid hE
  replace hf := Lib.hid hf
  go_enter Tryd.func18, Tryd.ntmps18
  go_wp2_with fail
  go_loopw [3, 8] (fun v i wr => AlR w es v i wr) (fun _ i _ => es.length - (intOf i).toNat)
  case atStart => exact ⟨0, [], Nat.zero_le _, rfl, rfl, World.ownsRow_nil _ _ _ _, fun i t x h => by simp at h, Below.refl _ _⟩
  case round =>
    obtain ⟨k, us, hk, rfl, hl, hO, hU, hB⟩ := hrel
    by_cases hlt : k < es.length
    · obtain ⟨b, off, rfl, hcell⟩ := hE.out (by omega)
      have hvk : es[k]? = some es[k] := List.getElem?_eq_getElem hlt
      obtain ⟨r0, r1, B, cp, r2, hR⟩ := hcell k _ hvk
      have hfb := hf.out _ (List.getElem_mem hlt)
      have SN := Lib.hid (fun (u : Value) => ecells_snoc es us k _ u hvk hl)
      have TK := Lib.hid hvk
      generalize es[k] = ev at *
      obtain ⟨ty, tm, vs⟩ := ev
      simp only at r0 r1 r2 hR hfb
      have r0 := cell_later hB r0
      have r1 := cell_later hB r1
      have r2 := cell_later hB r2
      have hw5 := m1 wr (.cells #[.int .i64 ty, .int .i64 tm, .slice B vs.length cp] 42)
      have hR5 := (hR.later hB).later hw5
      have hbits := hR.2.1
      have hB5 := mmore hB hw5
      have hO5 := mown_below hO hw5
      have hU5 := Lib.hid (fun i e x h h' => (hU i e x h h').imp id (fun o => mown_below o hw5))
      replace hR5 := Lib.hid hR5
      replace hbits := Lib.hid hbits
      clear hcell hvk hR hO hU hB hw5
      go_wp2_with fail
      generalize wr.alloc (.cells #[.int .i64 ty, .int .i64 tm, .slice B vs.length cp] 42) = wz at *
      refine (evto_own B cp ty tm vs wz hR5.out hfb).mono ?_; rintro e w2 ⟨B2, cp2, rfl, hR2, hO2, hb2⟩
      have hB2 := mmore hB5 hb2
      have hs2 := hB2.size
      have hO6 := mown_below hO5 hb2
      have hU6 := Lib.hid (fun i e x h h' => (hU5.out i e x h h').imp id (fun o => mown_below o hb2))
      have hO2' := mown_mono (base' := w.heap.size) hO2 hB5.size
      replace hO2' := Lib.hid hO2'
      clear hR2 hO2 hO5 hU5 hB5 hb2 r0 r1 r2
      go_wp2_with (at_builtin; refine wpList_append_own _ rfl (.tmp 12) (.tmp 15) 57 rfl w.heap.size 47 i0 (.agg #[.int .i64 0, .int .i64 0, .slice none 0 0]) 3 40 Tryd.underlying57 hi hz0 hz1 hz2 rfl (by decide) u3 k (ecells (es.take k) us) rfl (hO6.alloc _) ⟨w2.heap.size, 0, none⟩ 1 1 [.int .i64 ty, .int .i64 tm, .slice B2 vs.length cp2] rfl rfl ?c1 ?c2 ?c3 ?c4 ?c5 ?_)
      case c1 =>
        intro j u hj
        match j, hj with
        | 0, hj => simp at hj; subst hj; simp [Addr.add]
        | 1, hj => simp at hj; subst hj; simp [Addr.add]
        | 2, hj => simp at hj; subst hj; simp [Addr.add]
      case c2 => intro u hu; simp at hu; rcases hu with rfl | rfl | rfl <;> rfl
      case c3 => unfold maxLen; omega
      case c4 => omega
      case c5 => first | omega | (simp; omega)
      intro v' w4 hO4 hgrow _
      have SN2 : ecells (es.take (k + 1)) (us ++ [.slice B2 vs.length cp2]) = ecells (es.take k) us ++ [.int .i64 ty, .int .i64 tm, .slice B2 vs.length cp2] := SN.out _
      rw [← SN2] at hO4
      have hB4 : Below w.heap.size w w4 := (hB2.alloc hs2 _).grown hgrow (by simp; omega) (fun g hg => (hO6.lt g hg).1)
      have hO7 := (mown_below hO2'.out (m1 _ _)).kept hgrow (mown_ne hO2'.out hO6 (by decide))
      have hU7 := Lib.hid (fun i e x h h' => (hU6.out i e x h h').imp id (fun o => (mown_below o (m1 _ _)).kept hgrow (mown_ne o hO6 (by decide))))
      have hU8 : EvsOwn w4 w.heap.size (es.take (k + 1)) (us ++ [.slice B2 vs.length cp2]) := by
        intro i t x h h'
        by_cases c : i < k
        · rw [List.getElem?_take_of_lt (by omega)] at h
          rw [List.getElem?_append_left (by omega)] at h'
          exact hU7.out i t x (by rw [List.getElem?_take_of_lt c]; exact h) h'
        · have hi2 := (List.getElem?_eq_some_iff.1 h').1
          have : i = k := by simp at hi2; omega
          subst this
          rw [List.getElem?_take_of_lt (by omega), TK.out] at h
          rw [List.getElem?_append_right (by omega), hl, Nat.sub_self] at h'
          injection h with h
          simp at h'
          subst h h'
          exact ⟨⟨B2, cp2, rfl, hbits.out⟩, hO7⟩
      replace hU8 := Lib.hid hU8
      clear hU7 hU6 hO6 hO7 hgrow hO2' SN2
      go_wp2
      go_roundw
      case rel => exact ⟨k + 1, us ++ [.slice B2 vs.length cp2], by omega, by go_num, by simp [hl], hO4, hU8.out, hB4⟩
      case measure => simp [intOf]; omega
    · obtain rfl : k = es.length := by omega
      rw [List.take_length] at hU hO
      obtain ⟨A', cap', rfl, h1, h2, hI⟩ := own_evs hl hO hU
      replace hI := Lib.hid hI
      clear hO hU
      go_wp2_with fail
      go_ret
      exact ⟨_, _, rfl, h1, h2, hI.out, hB⟩
end Go.Proofs.YtbgjllpdbbolfabDoor
