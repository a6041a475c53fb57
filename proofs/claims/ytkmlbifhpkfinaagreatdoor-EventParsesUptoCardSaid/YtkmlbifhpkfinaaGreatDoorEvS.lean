/- Scripts of events, as contracts. -/
import Derived.Test.YtkmlbifhpkfinaaGreatDoorEvR
import Derived.Test.YtkmlbifhpkfinaaGreatDoorEvO
namespace Go.Proofs.YtkmlbifhpkfinaaGreatDoor
open Go.ChangeShapes Go.WideShapes Go.ChangeAt Go.RowKit Go.Fl
set_option linter.unusedVariables false
set_option linter.unusedSimpArgs false

set_option maxHeartbeats 8000000 in
set_option maxRecDepth 100000 in
theorem evto_own (B : Option Addr) (capB : Nat) (ty tm : Int) (vs : List (Int × Nat)) (w : World) (hv : RowV w B vs.length vs) (hr : vs.length * 16 ≤ 140737488351232) :
    Calls Tryz.prog 8 #[.agg #[.int .i64 ty, .int .i64 tm, .slice B vs.length capB]] w fun e w' => ∃ B' cap', e = .returned (.agg #[.int .i64 ty, .int .i64 tm, .slice B' vs.length cap']) ∧ RowV w' B' vs.length vs ∧ w'.ownsRow w.heap.size 61 2 (.slice B' vs.length cap') vs.length (cellsV vs) ∧ Below w.heap.size w w' := by
  obtain ⟨i0, hi, hz0, hz1, hz2⟩ := info_parts infoV
  have hu := m2 w (.cells #[.int .i64 ty, .int .i64 tm, .slice B vs.length capB] 28) (.cells #[.int .i64 0, .int .i64 0, .slice none 0 0] 36)
  have hvu := Lib.hid (hv.later hu)
  have c2 : ((w.alloc (.cells #[.int .i64 ty, .int .i64 tm, .slice B vs.length capB] 28)).alloc (.cells #[.int .i64 0, .int .i64 0, .slice none 0 0] 36)).cell? ⟨w.heap.size, 2, none⟩ = some (.slice B vs.length capB) := by simp [go_sem]
  have k2 : Blk ((w.alloc (.cells #[.int .i64 ty, .int .i64 tm, .slice B vs.length capB] 28)).alloc (.cells #[.int .i64 0, .int .i64 0, .slice none 0 0] 36)) (w.heap.size + 1) 36 #[.int .i64 0, .int .i64 0, .slice none 0 0] := by
    have := Blk.made (w.alloc (.cells #[.int .i64 ty, .int .i64 tm, .slice B vs.length capB] 28)) 36 #[.int .i64 0, .int .i64 0, .slice none 0 0]
    simpa using this
  have k3 := Blk.made ((w.alloc (.cells #[.int .i64 ty, .int .i64 tm, .slice B vs.length capB] 28)).alloc (.cells #[.int .i64 0, .int .i64 0, .slice none 0 0] 36)) 36 #[.int .i64 ty, .int .i64 tm, .slice none 0 0]
  have e3 : ((w.alloc (.cells #[.int .i64 ty, .int .i64 tm, .slice B vs.length capB] 28)).alloc (.cells #[.int .i64 0, .int .i64 0, .slice none 0 0] 36)).heap.size = w.heap.size + 1 + 1 := by simp
  clear hv
  go_enter Tryz.func8, Tryz.ntmps8
  go_wp2_with fail
  rw [← e3]
  generalize (w.alloc (.cells #[.int .i64 ty, .int .i64 tm, .slice B vs.length capB] 28)).alloc (.cells #[.int .i64 0, .int .i64 0, .slice none 0 0] 36) = u0 at *
  replace e3 := Lib.hid e3
  replace k2 := Lib.hid k2
  go_loopw [14] (fun i wr => ∃ k : Nat, k ≤ vs.length ∧ i = .int .i64 (k : Int) ∧ EvR u0 ty tm vs k wr) (fun i _ => vs.length - (intOf i).toNat)
  case atStart => exact ⟨0, Nat.zero_le _, rfl, .slice none 0 0, k3, World.ownsRow_nil _ _ _ _, m1 _ _⟩
  case round =>
    obtain ⟨k, hk, rfl, v, hG, hO, hB⟩ := hrel
    clear k3
    by_cases hlt : k < vs.length
    · obtain ⟨b, off, e2, hvc⟩ := hvu.out.2.2 (by omega)
      have hvk : vs[k]? = some (vs[k].1, vs[k].2) := List.getElem?_eq_getElem hlt
      have hb := hvu.out.2.1 _ (List.getElem_mem hlt)
      obtain ⟨q0, q1⟩ := hvc k _ _ hvk
      have SN := Lib.hid (cellsV_snoc vs k _ hvk)
      subst e2
      generalize vs[k].1 = vk at *
      generalize vs[k].2 = vb at *
      have q0 := cell_later hB q0
      have q1 := cell_later hB q1
      clear hvc hvk
      have hs0 := hB.size
      go_upto_region 5 with (fail)
      have hwz := m1 wr (.cells #[.int .i64 vk, .int .u64 (vb : Int)] 64)
      have g0 : (wr.alloc (.cells #[.int .i64 vk, .int .u64 (vb : Int)] 64)).cell? ⟨wr.heap.size, 0, none⟩ = some (.int .i64 vk) := by simp [go_sem]
      have g1 : (wr.alloc (.cells #[.int .i64 vk, .int .u64 (vb : Int)] 64)).cell? ⟨wr.heap.size, 1, none⟩ = some (.int .u64 (vb : Int)) := by simp [go_sem]
      have hGz := hG.kept hwz
      have hOz := mown_below hO hwz
      have hBz := mmore hB hwz
      have hsz := hBz.size
      generalize wr.heap.size = g5 at *
      clear hG hO hB hwz q0 q1 hs0
      generalize wr.alloc (.cells #[.int .i64 vk, .int .u64 (vb : Int)] 64) = wz at *
      have x2 : wz.cell? ⟨u0.heap.size, 2, none⟩ = some v := hGz.cell 2
      have hOz : wz.drew.ownsRow u0.heap.size 61 2 v k (cellsV (vs.take k)) := hOz
      have hGz : Blk wz.drew u0.heap.size 36 #[.int .i64 ty, .int .i64 tm, v] := hGz
      have hBz : Below u0.heap.size u0 wz.drew := hBz.drew
      have n3 : k + 1 ≤ maxLen := by unfold maxLen; omega
      have n4 : (k + 1) * 16 ≤ 140737488355328 := by omega
      go_region_law (first | (go_simp; go_at_call 20; refine (to_any _ _ _).mono ?_; rintro e w2 ⟨rfl, hb1⟩; have hO2 := mown_below hOz hb1; have hG2 := hGz.kept hb1; have hB2 := mmore hBz hb1; have x2' : w2.cell? ⟨u0.heap.size, 2, none⟩ = some v := hG2.cell 2; have x3 : ∀ o : Obj, (w2.alloc o).cell? ⟨u0.heap.size, 2, none⟩ = some v := fun o => cell_later (m1 w2 o) x2') | (refine step_append_own rfl (.tmp 19) (.tmp 22) 34 rfl u0.heap.size 61 i0 (.agg #[.int .i64 0, .int .u64 0]) 2 16 Tryz.underlying34 hi hz0 hz1 hz2 rfl (by decide) v k (cellsV (vs.take k)) rfl (hO2.alloc _) ⟨w2.heap.size, 0, none⟩ 1 1 [.int .i64 vk, .int .u64 (vb : Int)] rfl rfl (news_two _ _ _ _) (one_two _ _) n3 n4 (Nat.le_trans hB2.size (by simp)) ?_; intro v' w3 hO3 hgrow; obtain ⟨gx, capx, rfl, _, _⟩ := hO3.form (by omega); have hG3 := (hG2.kept (m1 _ _)).grown hgrow (hG2.own_ne hO2 (by decide)); have hB3 := (hB2.alloc hB2.size _).grown hgrow (Nat.le_trans hB2.size (by simp)) (fun g hg => (hO2.lt g hg).1); have y2 := hG3.cell 2; have y3 := hG3.free 2))
      all_goals have hG4 : Blk (w3.setCell ⟨u0.heap.size, 2, none⟩ (.slice (some ⟨gx, 0, none⟩) (k + 1) capx)) u0.heap.size 36 #[.int .i64 ty, .int .i64 tm, .slice (some ⟨gx, 0, none⟩) (k + 1) capx] := by simpa using hG3.put_ 2 (.slice (some ⟨gx, 0, none⟩) (k + 1) capx)
      all_goals have hO4 := mown_set hO3 (p := ⟨u0.heap.size, 2, none⟩) (fun e => hG3.own_ne hO3 (by decide) e.symm) (.slice (some ⟨gx, 0, none⟩) (k + 1) capx)
      all_goals have hB4 := hB3.setCell (p := ⟨u0.heap.size, 2, none⟩) (Nat.le_refl _) (.slice (some ⟨gx, 0, none⟩) (k + 1) capx)
      all_goals have SN4 : cellsV (vs.take (k + 1)) = cellsV (vs.take k) ++ [.int .i64 vk, .int .u64 (vb : Int)] := SN.out
      all_goals rw [← SN4] at hO4
      all_goals clear SN4 hO3 hG3 hB3 hgrow hO2 hG2 hB2 x3 x2' y2 y3 hOz hGz hBz x2
      all_goals generalize w3.setCell ⟨u0.heap.size, 2, none⟩ (.slice (some ⟨gx, 0, none⟩) (k + 1) capx) = w4 at *
      all_goals go_wp2
      all_goals go_roundw
      all_goals first | exact ⟨k + 1, by omega, by go_num, _, hG4, hO4, hB4⟩ | (simp [intOf]; omega)
    · obtain rfl : k = vs.length := by omega
      rw [List.take_length] at hO
      have hbits := hvu.out.2.1
      obtain ⟨B2, cap2, rfl, hR⟩ := own_row hO hbits
      have k2' := k2.out.kept hB
      have hBw := mmore hu hB
      have x0 : wr.cell? ⟨u0.heap.size, 0, none⟩ = some (.int .i64 ty) := hG.cell 0
      have x1 : wr.cell? ⟨u0.heap.size, 1, none⟩ = some (.int .i64 tm) := hG.cell 1
      have x2 : wr.cell? ⟨u0.heap.size, 2, none⟩ = some (.slice B2 vs.length cap2) := hG.cell 2
      have z0 : wr.cell? ⟨w.heap.size + 1, 0, none⟩ = some (.int .i64 0) := k2'.cell 0
      have z1 : wr.cell? ⟨w.heap.size + 1, 1, none⟩ = some (.int .i64 0) := k2'.cell 1
      have z2 : wr.cell? ⟨w.heap.size + 1, 2, none⟩ = some (.slice none 0 0) := k2'.cell 2
      have f0 : wr.frozen? ⟨w.heap.size + 1, 0, none⟩ = false := k2'.free 0
      have f1 : wr.frozen? ⟨w.heap.size + 1, 1, none⟩ = false := k2'.free 1
      have f2 : wr.frozen? ⟨w.heap.size + 1, 2, none⟩ = false := k2'.free 2
      have k5 := ((k2'.put_ 0 (.int .i64 ty)).put_ 1 (.int .i64 tm)).put_ 2 (.slice B2 vs.length cap2)
      have hO5 := mown_set (mown_set (mown_set hO (p := ⟨w.heap.size + 1, 0, none⟩) (fun e => k2'.own_ne hO (by decide) e.symm) (.int .i64 ty)) (p := ⟨w.heap.size + 1, 1, none⟩) (fun e => k2'.own_ne hO (by decide) e.symm) (.int .i64 tm)) (p := ⟨w.heap.size + 1, 2, none⟩) (fun e => k2'.own_ne hO (by decide) e.symm) (.slice B2 vs.length cap2)
      have hB5 := ((hBw.setCell (p := ⟨w.heap.size + 1, 0, none⟩) (by show w.heap.size ≤ w.heap.size + 1; omega) (.int .i64 ty)).setCell (p := ⟨w.heap.size + 1, 1, none⟩) (by show w.heap.size ≤ w.heap.size + 1; omega) (.int .i64 tm)).setCell (p := ⟨w.heap.size + 1, 2, none⟩) (by show w.heap.size ≤ w.heap.size + 1; omega) (.slice B2 vs.length cap2)
      have r0 := Lib.hid (k5.cell 0)
      have r1 := Lib.hid (k5.cell 1)
      have r2 := Lib.hid (k5.cell 2)
      have e3o := e3.out
      have hO6 := mown_mono (base' := w.heap.size) hO5 (by omega)
      replace hO6 := Lib.hid hO6
      obtain ⟨B3, cap3, e5, hR5⟩ := own_row hO5 hbits
      injection e5 with e6 _ e7
      subst e6 e7
      replace hR5 := Lib.hid hR5
      replace hB5 := Lib.hid hB5
      clear hG hO hB hR k2 k2' k5 hO5 hBw hvu c2 e3 e3o
      go_wp2
      have r0 := r0.out
      have r1 := r1.out
      have r2 := r2.out
      simp only [Array.setIfInBounds] at r0 r1 r2
      exact bodyPost_ret (v := .agg #[.int .i64 ty, .int .i64 tm, .slice B2 vs.length cap2]) (by simp [results, Tryz.results8, go_sem, r0, r1, r2, x0, x1, x2, z0, z1, z2]) rfl ⟨_, _, rfl, hR5.out, hO6.out, hB5.out⟩

theorem infoEv : (Tryz.prog.info? 36).map (fun i => (i.zero, i.size, i.bytes)) = some (some (.agg #[.int .i64 0, .int .i64 0, .slice none 0 0]), 3, 40) := by kernel_rfl
/-- events as cells: us are their slices of values -/
def ecells (es : List Ev) (us : List Value) : List Value := (es.zip us).flatMap fun p => [.int .i64 p.1.1, .int .i64 p.1.2.1, p.2]
theorem ecells_snoc (es : List Ev) (us : List Value) (k : Nat) (e : Ev) (u : Value) (h : es[k]? = some e) (hl : us.length = k) : ecells (es.take (k + 1)) (us ++ [u]) = ecells (es.take k) us ++ [.int .i64 e.1, .int .i64 e.2.1, u] := by
  have hk : k < es.length := (List.getElem?_eq_some_iff.1 h).1
  have hl2 : (es.take k).length = us.length := by rw [List.length_take]; omega
  rw [List.take_add_one, h]
  unfold ecells
  simp only [Option.toList_some]
  rw [List.zip_append hl2]
  simp
theorem ecells_at : ∀ (es : List Ev) (us : List Value), us.length = es.length → ∀ (i : Nat) (e : Ev), es[i]? = some e → ∃ u, us[i]? = some u ∧ (ecells es us)[i * 3]? = some (.int .i64 e.1) ∧ (ecells es us)[i * 3 + 1]? = some (.int .i64 e.2.1) ∧ (ecells es us)[i * 3 + 2]? = some u
  | [], us, _, i, e, h => by simp at h
  | e0 :: es, [], hl, _, _, _ => by simp at hl
  | e0 :: es, u0 :: us, hl, i, e, h => by
    cases i with
    | zero => simp at h; subst h; exact ⟨u0, rfl, rfl, rfl, rfl⟩
    | succ i =>
      obtain ⟨u, h0, h1, h2, h3⟩ := ecells_at es us (by simpa using hl) i e (by simpa using h)
      refine ⟨u, by simpa using h0, ?_⟩
      rw [show (i + 1) * 3 = i * 3 + 3 by omega]
      exact ⟨h1, h2, h3⟩
def EvsOwn (w : World) (base : Nat) (es : List Ev) (us : List Value) : Prop := ∀ (i : Nat) (e : Ev) (x : Value), es[i]? = some e → us[i]? = some x → (∃ B cap, x = .slice B e.2.2.length cap ∧ (∀ v ∈ e.2.2, v.2 < 18446744073709551616)) ∧ w.ownsRow base 61 2 x e.2.2.length (cellsV e.2.2)
theorem own_evs {w : World} {base base' : Nat} {e : TypeId} {v : Value} {es : List Ev} {us : List Value} (hl : us.length = es.length) (h : w.ownsRow base e 3 v es.length (ecells es us)) (hu : EvsOwn w base' es us) :
    ∃ A cap, v = .slice A es.length cap ∧ es.length ≤ cap ∧ cap ≤ maxLen ∧ EvsAt w A es := by
  rcases h.2 with ⟨rfl, h0⟩ | ⟨g, cap, cur, rfl, _, _, hnc, hcm, _⟩
  · exact ⟨none, 0, by rw [h0], by omega, by unfold maxLen; omega, fun hp => by omega⟩
  · refine ⟨_, cap, rfl, hnc, hcm, fun _ => ⟨g, 0, rfl, fun i x hi => ?_⟩⟩
    have hc := h.cells (g := g) rfl
    obtain ⟨u, hx, h0, h1, h2⟩ := ecells_at es us hl i x hi
    obtain ⟨⟨B, cp, rfl, hb⟩, ho⟩ := hu i x u hi hx
    obtain ⟨B', cp', e', hR⟩ := own_row ho hb
    injection e' with e1 e2 e3
    subst e1 e3
    rw [Nat.zero_add, addr_add g (i * 3), addr_add g (i * 3 + 1), addr_add g (i * 3 + 2)]
    exact ⟨hc _ _ h0, hc _ _ h1, B, cp, hc _ _ h2, hR⟩

def AlR (u : World) (es : List Ev) (v i : Value) (wr : World) : Prop :=
  ∃ (k : Nat) (us : List Value), k ≤ es.length ∧ i = .int .i64 (k : Int) ∧ us.length = k ∧ wr.ownsRow u.heap.size 36 3 v k (ecells (es.take k) us) ∧ EvsOwn wr u.heap.size (es.take k) us ∧ Below u.heap.size u wr
end Go.Proofs.YtkmlbifhpkfinaaGreatDoor
