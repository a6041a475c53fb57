/- A list of matches that is handed in; rows of places that are written over. -/
import Derived.Test.YtiegbnicijbpjaaDoorMt
import Derived.Test.YtiegbnicijbpjaaDoorSrtR
import Derived.Test.YtiegbnicijbpjaaDoorParJ
namespace Go.Proofs.YtiegbnicijbpjaaDoor
open Go.ChangeShapes Go.WideShapes Go.ChangeAt Go.RowKit Go.Deep Go.Joins
set_option linter.unusedVariables false
set_option linter.unusedSimpArgs false
section
variable {H : Type} {enc : TypeId × Value → H} {w : World} {base : Nat} {held : Bool}
set_option maxRecDepth 100000 in
theorem open_matches {r : Reach} {b0 : Nat} {v : Value} {d : DataW H} {p : List MemPlace} (hv : Value.okWide Tryd.prog w r b0 22 v) (h : DataW.Trod enc Tryd.prog w base (fun _ => true) held 22 v d p) (hw : WB Tryd.prog 22 d) :
    ∃ (A : Option Addr) (cap : Nat) (ms : List MT), v = .slice A ms.length cap ∧ MatsAt w A ms ∧ Small ms := by
  obtain ⟨A0, len, cap, rfl⟩ := okWide_slice Tryd.underlying22 hv
  obtain ⟨fuel, h⟩ := h
  rcases open_slice_fields Tryd.underlying22 Tryd.underlying27 (by kernel_rfl) (by kernel_rfl) h with ⟨hcs, _⟩ | ⟨a, len', cap', m, D, Pl, hcs, _, hl, hm, hmm, hx, hcell⟩
  · simp [Value.cells] at hcs
    obtain ⟨rfl, rfl, rfl⟩ := hcs
    exact ⟨none, 0, [], rfl, fun hp => absurd hp (by simp), by decide, fun m hm => by simp at hm⟩
  · simp [Value.cells] at hcs
    obtain ⟨rfl, rfl, rfl⟩ := hcs
    simp only [Prod.mk.injEq] at hx
    obtain ⟨rfl, rfl⟩ := hx
    have hlm : len ≤ m := by rw [hmm]; split <;> omega
    obtain ⟨hb, hw2⟩ := wb_slice Tryd.underlying22 hw
    rw [show Tryd.prog.bytesOf 27 = 40 by kernel_rfl] at hb
    simp only [List.length_map, List.length_range, reachBytes] at hb
    have hv : ∀ i, i < len → ∃ q : MT, w.cell? (a.add (i * 3)) = some (.int .i64 q.1) ∧ w.cell? (a.add (i * 3 + 1)) = some (.int .i64 q.2.1) ∧ ∃ B cp, w.cell? (a.add (i * 3 + 2)) = some (.slice B q.2.2.length cp) ∧ RowsAt w B q.2.2 ∧ q.2.2.length * 24 ≤ 140737488351232 ∧ ∀ l ∈ q.2.2, l.length * 8 ≤ 140737488351232 := by
      intro i hi
      obtain ⟨ys, n, hD, _, hyl, hf⟩ := hcell i (by omega)
      have hWi : WB Tryd.prog 27 (D i) := hw2 (D i) (List.mem_map.2 ⟨i, List.mem_range.2 hi, rfl⟩)
      obtain ⟨v0, y0, c0, _, t0⟩ := hf 0 _ rfl
      obtain ⟨v1, y1, c1, _, t1⟩ := hf 1 _ rfl
      obtain ⟨v2, y2, c2, e2, t2⟩ := hf 2 _ rfl
      obtain ⟨ty, e0, _, _⟩ := DataW.trod_int Tryd.underlying3 t0
      obtain ⟨tm, e1, _, _⟩ := DataW.trod_int Tryd.underlying3 t1
      simp at e0 e1
      subst e0 e1
      rw [hD] at hWi
      have hW1 : WB Tryd.prog 25 y2.1 := wb_agg Tryd.underlying27 hWi (j := 2) rfl (by rw [List.getElem?_map, e2]; rfl)
      obtain ⟨B, cp, bs, rfl, hR, hbv⟩ := open_rows t2 hW1
      exact ⟨(ty, tm, bs), c0, c1, B, cp, c2, hR, hbv⟩
    obtain ⟨q, hq⟩ := Go.Deep.choose_lt hv
    refine ⟨some a, cap, (List.range len).map q, by simp, fun hp => ?_, by simpa using hb, fun t ht => ?_⟩
    · have hp' : 0 < len := by simpa using hp
      obtain ⟨b, off, rfl⟩ := spot_of (hq 0 hp').1
      refine ⟨b, off, rfl, fun i f hi => ?_⟩
      have hil : i < len := by have := (List.getElem?_eq_some_iff.1 hi).1; simpa using this
      rw [List.getElem?_map, List.getElem?_range hil] at hi
      simp at hi
      subst hi
      obtain ⟨h0, h1, B, cp, h2, h3, _⟩ := hq i hil
      rw [add_plain] at h0 h1 h2
      exact ⟨h0, by rw [Nat.add_assoc]; exact h1, B, cp, by rw [Nat.add_assoc]; exact h2, h3⟩
    · obtain ⟨i, hi, rfl⟩ := List.mem_map.1 ht
      obtain ⟨_, _, B, cp, _, _, h3⟩ := hq i (List.mem_range.1 hi)
      exact h3
end
/-- rows of places of the call's own, of these lengths, whatever stands in them -/
def RowsS (w : World) (base : Nat) (ns : List Nat) (us : List Value) : Prop := us.length = ns.length ∧ ∀ (i : Nat) (n : Nat) (x : Value), ns[i]? = some n → us[i]? = some x → ∃ zs : List Int, zs.length = n ∧ w.ownsRow base 3 1 x n (icells zs)
/-- matches, likewise -/
def ListS (w : World) (base : Nat) (nss : List (List Nat)) (xs : List Value) : Prop := xs.length = nss.length * 3 ∧ ∀ (i : Nat) (ns : List Nat), nss[i]? = some ns → ∃ v us, xs[i * 3 + 2]? = some v ∧ w.ownsRow base 29 1 v ns.length us ∧ RowsS w base ns us
theorem listS_of {w : World} {base : Nat} {ms : List MT} {xs : List Value} (h : ListO w base ms xs) : ListS w base (ms.map fun m => m.2.2.map List.length) xs := by
  refine ⟨by rw [List.length_map]; exact h.1, fun i ns hi => ?_⟩
  rw [List.getElem?_map] at hi
  cases hm : ms[i]? with
  | none => rw [hm] at hi; cases hi
  | some m =>
    rw [hm] at hi
    injection hi with hi
    subst hi
    obtain ⟨v, us, _, _, h2, h3, h4⟩ := h.2 i m hm
    refine ⟨v, us, h2, by rw [List.length_map]; exact h3, by rw [List.length_map]; exact h4.1, fun j n x hj hx => ?_⟩
    rw [List.getElem?_map] at hj
    cases hk : m.2.2[j]? with
    | none => rw [hk] at hj; cases hj
    | some ks =>
      rw [hk] at hj
      injection hj with hj
      subst hj
      exact ⟨ks, rfl, h4.2 j ks x hk hx⟩
theorem icells_set (zs : List Int) (i : Nat) (z : Int) : (icells zs).set i (.int .i64 z) = icells (zs.set i z) := by
  unfold icells; rw [List.map_set]
/-- a place is written over: a row stays a row -/
theorem row_over {w : World} {base n g : Nat} {v : Value} {zs : List Int} (h : w.ownsRow base 3 1 v n (icells zs)) (hz : zs.length = n) (i : Nat) (z : Int) : ∃ zs' : List Int, zs'.length = n ∧ (w.setCell ⟨g, i, none⟩ (.int .i64 z)).ownsRow base 3 1 v n (icells zs') := by
  by_cases e : v.ownBlock = some g
  · rcases h.2 with ⟨rfl, _⟩ | ⟨g1, cap, cur, rfl, _⟩
    · simp [Value.ownBlock] at e
    · simp [Value.ownBlock] at e
      subst e
      have := (h.stored i (.int .i64 z)).1
      rw [icells_set] at this
      exact ⟨_, by rw [List.length_set]; exact hz, this⟩
  · exact ⟨zs, hz, mown_set h e _⟩
theorem ListS.over {w : World} {base g : Nat} {nss : List (List Nat)} {xs : List Value} {cur : Array Value} (h : ListS w base nss xs) (hb : Blk w g 3 cur) (i : Nat) (z : Int) : ListS (w.setCell ⟨g, i, none⟩ (.int .i64 z)) base nss xs := by
  refine ⟨h.1, fun j ns hj => ?_⟩
  obtain ⟨v, us, h2, h3, h4⟩ := h.2 j ns hj
  refine ⟨v, us, h2, mown_set h3 (fun e => hb.own_ne h3 (by decide) e.symm) _, h4.1, fun k n x hk hx => ?_⟩
  obtain ⟨zs, hz, hO⟩ := h4.2 k n x hk hx
  obtain ⟨zs', hz', hO'⟩ := row_over (g := g) hO hz i z
  exact ⟨zs', hz', hO'⟩
theorem ListS.later {w w1 : World} {base : Nat} {nss : List (List Nat)} {xs : List Value} (h : ListS w base nss xs) (hb : Below w.heap.size w w1) : ListS w1 base nss xs := by
  refine ⟨h.1, fun j ns hj => ?_⟩
  obtain ⟨v, us, h2, h3, h4⟩ := h.2 j ns hj
  refine ⟨v, us, h2, mown_below h3 hb, h4.1, fun k n x hk hx => ?_⟩
  obtain ⟨zs, hz, hO⟩ := h4.2 k n x hk hx
  exact ⟨zs, hz, mown_below hO hb⟩
/-- matches in rows of the call's own read as they are -/
theorem mats_own {w : World} {base g : Nat} {ms : List MT} {xs : List Value} (hc : ∀ (j : Nat) (u : Value), xs[j]? = some u → w.cell? ⟨g, j, none⟩ = some u) (hL : ListO w base ms xs) : MatsAt w (some ⟨g, 0, none⟩) ms := fun _ => by
  refine ⟨g, 0, rfl, fun i m hi => ?_⟩
  obtain ⟨v, us, h0, h1, h2, h3, h4⟩ := hL.2 i m hi
  obtain ⟨A, cap, e, hR⟩ := own_rows rfl h3 h4
  subst e
  rw [Nat.zero_add]
  exact ⟨hc _ _ h0, hc _ _ h1, A, cap, hc _ _ h2, hR⟩
theorem own_cells {w : World} {base g cap n size : Nat} {e : TypeId} {xs : List Value} (h : w.ownsRow base e size (.slice (some ⟨g, 0, none⟩) n cap) n xs) (j : Nat) (u : Value) (hj : xs[j]? = some u) : w.cell? ⟨g, j, none⟩ = some u := by
  rw [addr_add]; exact h.cells (g := g) rfl j u hj
theorem flat_mats {w : World} {g c : Nat} {S : List MV} {n : Nat} {base : Nat} (hO : w.ownsRow base 27 3 (.slice (some ⟨g, 0, none⟩) n c) n (flatM S)) (hI : ∀ m ∈ S, RowsAt w m.A m.rows) : MatsAt w (some ⟨g, 0, none⟩) (S.map MV.says) := fun _ => by
  refine ⟨g, 0, rfl, fun i m hi => ?_⟩
  rw [List.getElem?_map] at hi
  cases hs : S[i]? with
  | none => rw [hs] at hi; cases hi
  | some x =>
    rw [hs] at hi
    injection hi with hi
    subst hi
    obtain ⟨h0, h1, h2⟩ := flatM_get S i x hs
    rw [Nat.zero_add]
    exact ⟨own_cells hO _ _ h0, own_cells hO _ _ h1, x.A, x.cap, own_cells hO _ _ h2, hI x (List.mem_of_getElem? hs)⟩
theorem over_parts {u : World} {B g n c : Nat} {nss : List (List Nat)} {xo : List Value} (h : u.ownsRow B 27 3 (.slice (some ⟨g, 0, none⟩) n c) n xo) (hl : ListS u B nss xo) {i : Nat} {ns : List Nat} (hi : nss[i]? = some ns) :
    ∃ P pc us, u.cell? ⟨g, i * 3 + 2, none⟩ = some (.slice P ns.length pc) ∧ u.ownsRow B 29 1 (.slice P ns.length pc) ns.length us ∧ RowsS u B ns us := by
  obtain ⟨v, us, h2, h3, h4⟩ := hl.2 i ns hi
  obtain ⟨P, pc, rfl⟩ := slice_ofO h3
  exact ⟨P, pc, us, own_cells h _ _ h2, h3, h4⟩
theorem over_row {u : World} {B pc : Nat} {P : Option Addr} {ns : List Nat} {us : List Value} (h : u.ownsRow B 29 1 (.slice P ns.length pc) ns.length us) (hl : RowsS u B ns us) {k n2 : Nat} (hk : ns[k]? = some n2) :
    ∃ gp Q qc zs, P = some ⟨gp, 0, none⟩ ∧ u.cell? ⟨gp, k, none⟩ = some (.slice Q n2 qc) ∧ zs.length = n2 ∧ u.ownsRow B 3 1 (.slice Q n2 qc) n2 (icells zs) := by
  have hkl := (List.getElem?_eq_some_iff.1 hk).1
  rcases h.2 with ⟨e, h0⟩ | ⟨gp, cap, cur, e, _⟩
  · omega
  · injection e with e e1 e2
    subst e e2
    have hku : k < us.length := by rw [hl.1]; exact hkl
    have hx : us[k]? = some us[k] := List.getElem?_eq_getElem hku
    obtain ⟨zs, hz, hO⟩ := hl.2 k n2 _ hk hx
    obtain ⟨Q, qc, e3⟩ := slice_ofO hO
    rw [e3] at hO hx
    exact ⟨gp, Q, qc, zs, rfl, own_cells h _ _ hx, hz, hO⟩
theorem over_cell {u : World} {B qc n2 : Nat} {Q : Option Addr} {zs : List Int} (h : u.ownsRow B 3 1 (.slice Q n2 qc) n2 (icells zs)) (hz : zs.length = n2) {j : Nat} (hj : j < n2) :
    ∃ gq cur old, Q = some ⟨gq, 0, none⟩ ∧ B ≤ gq ∧ Blk u gq 3 cur ∧ u.cell? ⟨gq, j, none⟩ = some old ∧ u.frozen? ⟨gq, j, none⟩ = false := by
  rcases h.2 with ⟨e, h0⟩ | ⟨gq, cap, cur, e, hB, hh, _⟩
  · omega
  · injection e with e e1 e2
    subst e e2
    have hjz : j < zs.length := by omega
    have hx : (icells zs)[j]? = some (.int .i64 zs[j]) := by unfold icells; rw [List.getElem?_map, List.getElem?_eq_getElem hjz]; rfl
    exact ⟨gq, cur, _, rfl, hB, hh, own_cells h _ _ hx, Blk.free hh _⟩
/-- while places are written over -/
def OverJ (w : World) (g n c : Nat) (nss : List (List Nat)) (xo : List Value) (u : World) : Prop :=
  u.ownsRow w.heap.size 27 3 (.slice (some ⟨g, 0, none⟩) n c) n xo ∧ ListS u w.heap.size nss xo ∧ Below w.heap.size w u
theorem OverJ.over {w u : World} {g n c gq j : Nat} {nss : List (List Nat)} {xo : List Value} {cur : Array Value} (h : OverJ w g n c nss xo u) (hq : w.heap.size ≤ gq) (hb : Blk u gq 3 cur) (z : Int) : OverJ w g n c nss xo (u.setCell ⟨gq, j, none⟩ (.int .i64 z)) :=
  ⟨mown_set h.1 (fun e => hb.own_ne h.1 (by decide) e.symm) _, h.2.1.over hb j z, h.2.2.setCell (p := ⟨gq, j, none⟩) hq _⟩
end Go.Proofs.YtiegbnicijbpjaaDoor
