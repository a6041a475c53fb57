/- The document's event carried to the program's, as a contract. -/
import Derived.Test.YtkmlbifhpkfinaaGreatDoorEvV
import Derived.Test.YtkmlbifhpkfinaaGreatDoorSto
import Derived.Deep.RegionLaw
namespace Go.Proofs.YtkmlbifhpkfinaaGreatDoor
open Go.ChangeShapes Go.WideShapes Go.ChangeAt Go.RowKit Go.Fl
set_option linter.unusedVariables false
set_option linter.unusedSimpArgs false

theorem step_append_own {P : Program} {w : World} {ops : Array Oper} {o : Oper} {a : Act} {K : Act → World → Prop} {Q : Exit → Act → World → Prop} {E : Prop} (hgd : o.guard = none) (s x : Operand) (t : TypeId)
    (ho : o.op = .call { callee := .builtin .append, args := #[s, x], argTypes := #[t, t] })
    (base : Nat) (e : TypeId) (i : TypeInfo) (z : Value) (size bytes : Nat) (ht : P.underlying t = some (.slice e)) (hi : P.info? e = some i) (hz : i.zero = some z)
    (hsize : i.size = size) (hby : i.bytes = bytes) (hzs : z.cells.size = size) (hsz : 0 < size)
    (v : Value) (n : Nat) (xs : List Value) (hs : a.eval s = v) (hown : w.ownsRow base e size v n xs)
    (ad : Addr) (m c : Nat) (news : List Value) (hx : a.eval x = .slice (some ad) m c) (hl : news.length = m * size) (hnews : ∀ j u, news[j]? = some u → w.cell? (ad.add j) = some u) (h1 : ∀ u ∈ news, u.oneCell' = true)
    (h63 : n + m ≤ maxLen) (hbytes : (n + m) * bytes ≤ 140737488355328) (hbase : base ≤ w.heap.size)
    (h : ∀ v' w', w'.ownsRow base e size v' (n + m) (xs ++ news) → w.grownBy w' v.ownBlock → K (a.put o.dst v') w') :
    if Region.wanted o (yielded ops a.tmps) = true then Oper.wp P o a w K Q else E := by
  have hw : Region.wanted o (yielded ops a.tmps) = true := by simp [Region.wanted, hgd]
  rw [if_pos hw]
  exact wp_append_own w s x t ho base e i z size bytes ht hi hz hsize hby hzs hsz v n xs hs hown ad m c news hx hl hnews h1 h63 hbytes hbase fun v' w' h2 h3 _ => h v' w' h2 h3

theorem cellsV_at (vs : List (Int × Nat)) : ∀ (i : Nat) (k : Int) (c : Nat), vs[i]? = some (k, c) → (cellsV vs)[i * 2]? = some (.int .i64 k) ∧ (cellsV vs)[i * 2 + 1]? = some (.int .u64 (c : Int)) := by
  induction vs with
  | nil => intro i k c h; simp at h
  | cons v vs ih =>
    intro i k c h
    cases i with
    | zero => simp at h; subst h; exact ⟨rfl, rfl⟩
    | succ i =>
      have := ih i k c (by simpa using h)
      rw [show (i + 1) * 2 = i * 2 + 2 by omega]
      exact this
theorem own_row {w : World} {base : Nat} {e : TypeId} {v : Value} {vs : List (Int × Nat)} (h : w.ownsRow base e 2 v vs.length (cellsV vs)) (hb : ∀ v ∈ vs, v.2 < 18446744073709551616) :
    ∃ A cap, v = .slice A vs.length cap ∧ RowV w A vs.length vs := by
  by_cases z : vs.length = 0
  · have hnil : vs = [] := List.eq_nil_of_length_eq_zero z
    subst hnil
    rcases h.2 with ⟨rfl, _⟩ | ⟨g, cap, cur, rfl, _⟩
    · exact ⟨none, 0, rfl, rfl, hb, fun h => absurd h (by simp)⟩
    · exact ⟨some ⟨g, 0, none⟩, cap, rfl, rfl, hb, fun h => absurd h (by simp)⟩
  · obtain ⟨g, cap, rfl, _, _⟩ := h.form (by omega)
    have hc := h.cells (g := g) rfl
    refine ⟨_, cap, rfl, rfl, hb, fun _ => ⟨g, 0, rfl, fun i k c hi => ?_⟩⟩
    have hx := cellsV_at vs i k c hi
    have e0 := hc _ _ hx.1
    have e1 := hc _ _ hx.2
    constructor
    · rw [show (⟨g, 0 + i * 2, none⟩ : Addr) = (⟨g, 0, none⟩ : Addr).add (i * 2) by unfold Addr.add; split <;> simp_all]; exact e0
    · rw [show (⟨g, 0 + i * 2 + 1, none⟩ : Addr) = (⟨g, 0, none⟩ : Addr).add (i * 2 + 1) by unfold Addr.add; split <;> simp_all]; exact e1
theorem news_two (w : World) (t : TypeId) (x y : Value) : ∀ (j : Nat) (u : Value), [x, y][j]? = some u → (w.alloc (.cells #[x, y] t)).cell? ((⟨w.heap.size, 0, none⟩ : Addr).add j) = some u := by
  intro j u hj
  match j, hj with
  | 0, hj => simp at hj; subst hj; simp [Addr.add]
  | 1, hj => simp at hj; subst hj; simp [Addr.add]
theorem one_two (a b : Int) : ∀ u ∈ [Value.int .i64 a, Value.int .u64 b], u.oneCell' = true := by
  intro u hu; simp at hu; rcases hu with rfl | rfl <;> rfl

def EvR (u0 : World) (ty tm : Int) (vs : List (Int × Nat)) (k : Nat) (wr : World) : Prop :=
  ∃ v : Value, Blk wr u0.heap.size 36 #[.int .i64 ty, .int .i64 tm, v] ∧ wr.ownsRow u0.heap.size 61 2 v k (cellsV (vs.take k)) ∧ Below u0.heap.size u0 wr

set_option maxHeartbeats 8000000 in
set_option maxRecDepth 100000 in
theorem evto_any (B : Option Addr) (capB : Nat) (ty tm : Int) (vs : List (Int × Nat)) (w : World) (hv : RowV w B vs.length vs) (hr : vs.length * 16 ≤ 140737488351232) :
    Calls Tryz.prog 8 #[.agg #[.int .i64 ty, .int .i64 tm, .slice B vs.length capB]] w fun e w' => ∃ B' cap', e = .returned (.agg #[.int .i64 ty, .int .i64 tm, .slice B' vs.length cap']) ∧ RowV w' B' vs.length vs ∧ Below w.heap.size w w' := by
  obtain ⟨i0, hi, hz0, hz1, hz2⟩ := info_parts infoV
  have hu := m2 w (.cells #[.int .i64 ty, .int .i64 tm, .slice B vs.length capB] 28) (.cells #[.int .i64 0, .int .i64 0, .slice none 0 0] 36)
  have hvu := Lib.hid (hv.later hu)
  have c2 : ((w.alloc (.cells #[.int .i64 ty, .int .i64 tm, .slice B vs.length capB] 28)).alloc (.cells #[.int .i64 0, .int .i64 0, .slice none 0 0] 36)).cell? ⟨w.heap.size, 2, none⟩ = some (.slice B vs.length capB) := by simp [go_sem]
  have k2 : Blk ((w.alloc (.cells #[.int .i64 ty, .int .i64 tm, .slice B vs.length capB] 28)).alloc (.cells #[.int .i64 0, .int .i64 0, .slice none 0 0] 36)) (w.heap.size + 1) 36 #[.int .i64 0, .int .i64 0, .slice none 0 0] := by
    have := Blk.made (w.alloc (.cells #[.int .i64 ty, .int .i64 tm, .slice B vs.length capB] 28)) 36 #[.int .i64 0, .int .i64 0, .slice none 0 0]
    simpa using this
  have k3 := Blk.made ((w.alloc (.cells #[.int .i64 ty, .int .i64 tm, .slice B vs.length capB] 28)).alloc (.cells #[.int .i64 0, .int .i64 0, .slice none 0 0] 36)) 36 #[.int .i64 ty, .int .i64 tm, .slice none 0 0]
  have e3 : ((w.alloc (.cells #[.int .i64 ty, .int .i64 tm, .slice B vs.length capB] 28)).alloc (.cells #[.int .i64 0, .int .i64 0, .slice none 0 0] 36)).heap.size = w.heap.size + 1 + 1 := by simp
  clear hv
  go_enter Tryz.func8, Tryz.ntmps8
  go_wp2_with fail
  rw [← e3]
  generalize (w.alloc (.cells #[.int .i64 ty, .int .i64 tm, .slice B vs.length capB] 28)).alloc (.cells #[.int .i64 0, .int .i64 0, .slice none 0 0] 36) = u0 at *
  replace e3 := Lib.hid e3
  replace k2 := Lib.hid k2
  go_loopw [14] (fun i wr => ∃ k : Nat, k ≤ vs.length ∧ i = .int .i64 (k : Int) ∧ EvR u0 ty tm vs k wr) (fun i _ => vs.length - (intOf i).toNat)
  case atStart => exact ⟨0, Nat.zero_le _, rfl, .slice none 0 0, k3, World.ownsRow_nil _ _ _ _, m1 _ _⟩
  case round =>
    obtain ⟨k, hk, rfl, v, hG, hO, hB⟩ := hrel
    clear k3
    by_cases hlt : k < vs.length
    · obtain ⟨b, off, e2, hvc⟩ := hvu.out.2.2 (by omega)
      have hvk : vs[k]? = some (vs[k].1, vs[k].2) := List.getElem?_eq_getElem hlt
      have hb := hvu.out.2.1 _ (List.getElem_mem hlt)
      obtain ⟨q0, q1⟩ := hvc k _ _ hvk
      have SN := Lib.hid (cellsV_snoc vs k _ hvk)
      subst e2
      generalize vs[k].1 = vk at *
      generalize vs[k].2 = vb at *
      have q0 := cell_later hB q0
      have q1 := cell_later hB q1
      clear hvc hvk
      have hs0 := hB.size
      go_upto_region 5 with (fail)
      have hwz := m1 wr (.cells #[.int .i64 vk, .int .u64 (vb : Int)] 64)
      have g0 : (wr.alloc (.cells #[.int .i64 vk, .int .u64 (vb : Int)] 64)).cell? ⟨wr.heap.size, 0, none⟩ = some (.int .i64 vk) := by simp [go_sem]
      have g1 : (wr.alloc (.cells #[.int .i64 vk, .int .u64 (vb : Int)] 64)).cell? ⟨wr.heap.size, 1, none⟩ = some (.int .u64 (vb : Int)) := by simp [go_sem]
      have hGz := hG.kept hwz
      have hOz := mown_below hO hwz
      have hBz := mmore hB hwz
      have hsz := hBz.size
      generalize wr.heap.size = g5 at *
      clear hG hO hB hwz q0 q1 hs0
      generalize wr.alloc (.cells #[.int .i64 vk, .int .u64 (vb : Int)] 64) = wz at *
      have x2 : wz.cell? ⟨u0.heap.size, 2, none⟩ = some v := hGz.cell 2
      have hOz : wz.drew.ownsRow u0.heap.size 61 2 v k (cellsV (vs.take k)) := hOz
      have hGz : Blk wz.drew u0.heap.size 36 #[.int .i64 ty, .int .i64 tm, v] := hGz
      have hBz : Below u0.heap.size u0 wz.drew := hBz.drew
      have n3 : k + 1 ≤ maxLen := by unfold maxLen; omega
      have n4 : (k + 1) * 16 ≤ 140737488355328 := by omega
      go_region_law (first | (go_simp; go_at_call 20; refine (to_any _ _ _).mono ?_; rintro e w2 ⟨rfl, hb1⟩; have hO2 := mown_below hOz hb1; have hG2 := hGz.kept hb1; have hB2 := mmore hBz hb1; have x2' : w2.cell? ⟨u0.heap.size, 2, none⟩ = some v := hG2.cell 2; have x3 : ∀ o : Obj, (w2.alloc o).cell? ⟨u0.heap.size, 2, none⟩ = some v := fun o => cell_later (m1 w2 o) x2') | (refine step_append_own rfl (.tmp 19) (.tmp 22) 34 rfl u0.heap.size 61 i0 (.agg #[.int .i64 0, .int .u64 0]) 2 16 Tryz.underlying34 hi hz0 hz1 hz2 rfl (by decide) v k (cellsV (vs.take k)) rfl (hO2.alloc _) ⟨w2.heap.size, 0, none⟩ 1 1 [.int .i64 vk, .int .u64 (vb : Int)] rfl rfl (news_two _ _ _ _) (one_two _ _) n3 n4 (Nat.le_trans hB2.size (by simp)) ?_; intro v' w3 hO3 hgrow; obtain ⟨gx, capx, rfl, _, _⟩ := hO3.form (by omega); have hG3 := (hG2.kept (m1 _ _)).grown hgrow (hG2.own_ne hO2 (by decide)); have hB3 := (hB2.alloc hB2.size _).grown hgrow (Nat.le_trans hB2.size (by simp)) (fun g hg => (hO2.lt g hg).1); have y2 := hG3.cell 2; have y3 := hG3.free 2))
      all_goals have hG4 : Blk (w3.setCell ⟨u0.heap.size, 2, none⟩ (.slice (some ⟨gx, 0, none⟩) (k + 1) capx)) u0.heap.size 36 #[.int .i64 ty, .int .i64 tm, .slice (some ⟨gx, 0, none⟩) (k + 1) capx] := by simpa using hG3.put_ 2 (.slice (some ⟨gx, 0, none⟩) (k + 1) capx)
      all_goals have hO4 := mown_set hO3 (p := ⟨u0.heap.size, 2, none⟩) (fun e => hG3.own_ne hO3 (by decide) e.symm) (.slice (some ⟨gx, 0, none⟩) (k + 1) capx)
      all_goals have hB4 := hB3.setCell (p := ⟨u0.heap.size, 2, none⟩) (Nat.le_refl _) (.slice (some ⟨gx, 0, none⟩) (k + 1) capx)
      all_goals have SN4 : cellsV (vs.take (k + 1)) = cellsV (vs.take k) ++ [.int .i64 vk, .int .u64 (vb : Int)] := SN.out
      all_goals rw [← SN4] at hO4
      all_goals clear SN4 hO3 hG3 hB3 hgrow hO2 hG2 hB2 x3 x2' y2 y3 hOz hGz hBz x2
      all_goals generalize w3.setCell ⟨u0.heap.size, 2, none⟩ (.slice (some ⟨gx, 0, none⟩) (k + 1) capx) = w4 at *
      all_goals go_wp2
      all_goals go_roundw
      all_goals first | exact ⟨k + 1, by omega, by go_num, _, hG4, hO4, hB4⟩ | (simp [intOf]; omega)
    · obtain rfl : k = vs.length := by omega
      rw [List.take_length] at hO
      have hbits := hvu.out.2.1
      obtain ⟨B2, cap2, rfl, hR⟩ := own_row hO hbits
      have k2' := k2.out.kept hB
      have hBw := mmore hu hB
      have x0 : wr.cell? ⟨u0.heap.size, 0, none⟩ = some (.int .i64 ty) := hG.cell 0
      have x1 : wr.cell? ⟨u0.heap.size, 1, none⟩ = some (.int .i64 tm) := hG.cell 1
      have x2 : wr.cell? ⟨u0.heap.size, 2, none⟩ = some (.slice B2 vs.length cap2) := hG.cell 2
      have z0 : wr.cell? ⟨w.heap.size + 1, 0, none⟩ = some (.int .i64 0) := k2'.cell 0
      have z1 : wr.cell? ⟨w.heap.size + 1, 1, none⟩ = some (.int .i64 0) := k2'.cell 1
      have z2 : wr.cell? ⟨w.heap.size + 1, 2, none⟩ = some (.slice none 0 0) := k2'.cell 2
      have f0 : wr.frozen? ⟨w.heap.size + 1, 0, none⟩ = false := k2'.free 0
      have f1 : wr.frozen? ⟨w.heap.size + 1, 1, none⟩ = false := k2'.free 1
      have f2 : wr.frozen? ⟨w.heap.size + 1, 2, none⟩ = false := k2'.free 2
      have k5 := ((k2'.put_ 0 (.int .i64 ty)).put_ 1 (.int .i64 tm)).put_ 2 (.slice B2 vs.length cap2)
      have hO5 := mown_set (mown_set (mown_set hO (p := ⟨w.heap.size + 1, 0, none⟩) (fun e => k2'.own_ne hO (by decide) e.symm) (.int .i64 ty)) (p := ⟨w.heap.size + 1, 1, none⟩) (fun e => k2'.own_ne hO (by decide) e.symm) (.int .i64 tm)) (p := ⟨w.heap.size + 1, 2, none⟩) (fun e => k2'.own_ne hO (by decide) e.symm) (.slice B2 vs.length cap2)
      have hB5 := ((hBw.setCell (p := ⟨w.heap.size + 1, 0, none⟩) (by show w.heap.size ≤ w.heap.size + 1; omega) (.int .i64 ty)).setCell (p := ⟨w.heap.size + 1, 1, none⟩) (by show w.heap.size ≤ w.heap.size + 1; omega) (.int .i64 tm)).setCell (p := ⟨w.heap.size + 1, 2, none⟩) (by show w.heap.size ≤ w.heap.size + 1; omega) (.slice B2 vs.length cap2)
      have r0 := Lib.hid (k5.cell 0)
      have r1 := Lib.hid (k5.cell 1)
      have r2 := Lib.hid (k5.cell 2)
      obtain ⟨B3, cap3, e5, hR5⟩ := own_row hO5 hbits
      injection e5 with e6 _ e7
      subst e6 e7
      replace hR5 := Lib.hid hR5
      replace hB5 := Lib.hid hB5
      clear hG hO hB hR k2 k2' k5 hO5 hBw hvu c2 e3
      go_wp2
      have r0 := r0.out
      have r1 := r1.out
      have r2 := r2.out
      simp only [Array.setIfInBounds] at r0 r1 r2
      exact bodyPost_ret (v := .agg #[.int .i64 ty, .int .i64 tm, .slice B2 vs.length cap2]) (by simp [results, Tryz.results8, go_sem, r0, r1, r2, x0, x1, x2, z0, z1, z2]) rfl (by first | exact ⟨_, ⟨_, rfl⟩, hR5.out, hB5.out⟩ | exact ⟨_, _, rfl, hR5.out, hB5.out⟩)
end Go.Proofs.YtkmlbifhpkfinaaGreatDoor
