/- What slices.SortFunc with the program's Order does to matches of the call's own; the program's Sort, as a contract. -/
import Derived.Test.YtiegbnicijbpjaaDoorSrtB
import Derived.Test.YtiegbnicijbpjaaDoorShelfS
namespace Go.Proofs.YtiegbnicijbpjaaDoor
open Go.ChangeShapes Go.WideShapes Go.ChangeAt Go.RowKit
open Go.Sort (grow putRow putCells mapBlock onCells heap_grow_old Holds HoldsK flatK putRowK get_flatK size_flatK PermIn SortedIn)
set_option linter.unusedVariables false
set_option linter.unusedSimpArgs false

theorem heap_sortedV {w : World} {g n : Nat} {os : Array Obj} {cur : Array Value} {e : TypeId} {fr : Nat × Nat} (d : Array Value) (hb : w.heap[g]? = some (.cells cur e fr)) :
    (grow (putRow id (Go.Sort.ahead w n) g 0 d) os).heap[g]? = some (.cells (putCells id 0 d cur) e fr) := by
  have hg : g < w.heap.size := (Array.getElem?_eq_some_iff.1 hb).1
  rw [heap_grow_old _ _ (by simpa using hg)]
  simp [putRow, mapBlock, Go.Sort.ahead, Array.getElem?_modify, hb, onCells]
theorem grownBy_sortedV {w : World} {g n : Nat} {os : Array Obj} (d : Array Value) : w.grownBy (grow (putRow id (Go.Sort.ahead w n) g 0 d) os) (some g) := by
  refine ⟨rfl, rfl, rfl, by simp, fun k hk hne => ?_⟩
  rw [heap_grow_old _ _ (by simpa using hk)]
  have : g ≠ k := fun e => hne (by rw [e])
  simp [putRow, mapBlock, Go.Sort.ahead, Array.getElem?_modify, this]
theorem take_putCellsV (cur : Array Value) (ts : Array Value) (h : ts.size ≤ cur.size) : (putCells id 0 ts cur).toList.take ts.size = ts.toList := by
  apply List.ext_getElem?
  intro j
  by_cases hj : j < ts.size
  · rw [List.getElem?_take_of_lt hj, Array.getElem?_toList]
    simp [putCells, hj, show j < cur.size by omega]
  · rw [List.getElem?_take_eq_none (by omega), List.getElem?_eq_none (by simp; omega)]
theorem slice_ofO {W : World} {base n : Nat} {e : TypeId} {size : Nat} {v : Value} {xs : List Value} (h : W.ownsRow base e size v n xs) : ∃ a c, v = .slice a n c := by
  rcases h.2 with ⟨rfl, h0⟩ | ⟨g, cap, cur, rfl, _⟩
  · exact ⟨none, 0, by rw [h0]⟩
  · exact ⟨_, _, rfl⟩
def MvAt (w : World) (base : Nat) (xs : List Value) (i : Nat) (m : MV) : Prop := xs[i * 3]? = some (.int .i64 m.st) ∧ xs[i * 3 + 1]? = some (.int .i64 m.br) ∧ xs[i * 3 + 2]? = some (.slice m.A m.rows.length m.cap) ∧
  ∃ us, w.ownsRow base 29 1 (.slice m.A m.rows.length m.cap) m.rows.length us ∧ RowsO w base m.rows us
theorem mvs_of {w : World} {base : Nat} {ms : List MT} {xs : List Value} (h : ListO w base ms xs) : ∃ mvs : List MV, mvs.map MV.says = ms ∧ ∀ (i : Nat) (m : MV), mvs[i]? = some m → MvAt w base xs i m := by
  have H : ∀ i : Fin ms.length, ∃ m : MV, m.says = ms[i.1] ∧ MvAt w base xs i.1 m := fun i => by
    obtain ⟨v, us, h0, h1, h2, h3, h4⟩ := h.2 i.1 _ (List.getElem?_eq_getElem i.2)
    obtain ⟨A, c, rfl⟩ := slice_ofO h3
    exact ⟨⟨_, _, _, A, c⟩, rfl, h0, h1, h2, us, h3, h4⟩
  refine ⟨List.ofFn fun i => Classical.choose (H i), ?_, fun i m hi => ?_⟩
  · apply List.ext_getElem (by simp)
    intro i h1 h2
    simp only [List.getElem_map, List.getElem_ofFn]
    exact (Classical.choose_spec (H ⟨i, h2⟩)).1
  · obtain ⟨hl, rfl⟩ := List.getElem?_eq_some_iff.1 hi
    have hl2 : i < ms.length := by simpa using hl
    rw [List.getElem_ofFn]
    exact (Classical.choose_spec (H ⟨i, hl2⟩)).2
/-- rows of the call's own lie in other blocks than a list of matches -/
theorem off_of {w : World} {base base' g cap n : Nat} {xs us : List Value} {A : Option Addr} {c : Nat} {rows : List (List Int)} (hO : w.ownsRow base' 27 3 (.slice (some ⟨g, 0, none⟩) n cap) n xs)
    (h : w.ownsRow base 29 1 (.slice A rows.length c) rows.length us) (hu : RowsO w base rows us) : RowsOff g w A rows := fun hp => by
  have hn := mown_ne h hO (by decide)
  rcases h.2 with ⟨_, h0⟩ | ⟨g1, cap1, cur1, e1, _⟩
  · omega
  · injection e1 with e1 _ _
    subst e1
    refine ⟨g1, 0, rfl, fun e => ?_, fun i ks hi => ?_⟩
    · subst e
      rcases hn with hn | hn
      · simp [Value.ownBlock] at hn
      · exact hn rfl
    · have hul := hu.1
      have hil := (List.getElem?_eq_some_iff.1 hi).1
      have hx : us[i]? = some us[i] := List.getElem?_eq_getElem (by omega)
      have hc := h.cells (g := g1) rfl
      have h1 := hu.2 i ks _ hi hx
      obtain ⟨a2, c2, e2⟩ := slice_ofO h1
      refine ⟨a2, c2, by rw [Nat.zero_add, addr_add g1 i, hc i _ hx, e2], fun hq => ?_⟩
      rw [e2] at h1
      have hn2 := mown_ne h1 hO (by decide)
      rcases h1.2 with ⟨_, h0⟩ | ⟨g2, cap2, cur2, e3, _⟩
      · omega
      · injection e3 with e3 _ _
        subst e3
        refine ⟨g2, 0, rfl, fun e => ?_, fun j z hj => ?_⟩
        · subst e
          rcases hn2 with hn2 | hn2
          · simp [Value.ownBlock] at hn2
          · exact hn2 rfl
        · have hc2 := h1.cells (g := g2) rfl
          rw [Nat.zero_add, addr_add g2 j]
          exact hc2 j _ (by unfold icells; rw [List.getElem?_map, hj]; rfl)
theorem mAt_get {mvs : List MV} {i : Nat} {m : MV} (h : mvs[i]? = some m) : mAt mvs i = m := by unfold mAt; rw [h]; rfl
theorem mAt_none {mvs : List MV} {i : Nat} (h : mvs[i]? = none) : mAt mvs i = ⟨0, 0, [], none, 0⟩ := by unfold mAt; rw [h]; rfl
theorem encN_get (mvs : List MV) (i : Nat) : (encN mvs i)[0]! = .int .i64 (mAt mvs i).st ∧ (encN mvs i)[1]! = .int .i64 (mAt mvs i).br ∧ (encN mvs i)[2]! = .slice (mAt mvs i).A (mAt mvs i).rows.length (mAt mvs i).cap := ⟨rfl, rfl, rfl⟩
theorem three (t : Nat) : t % 3 = 0 ∨ t % 3 = 1 ∨ t % 3 = 2 := by omega
set_option maxHeartbeats 4000000 in
theorem sorts_M : SortsM := by
  intro base g cap ms w hb hs hOM
  obtain ⟨xs, hO, hL⟩ := hOM
  obtain ⟨mvs, rfl, hM⟩ := mvs_of hL
  rw [List.length_map] at *
  have hget : ∀ i, i < mvs.length → MvAt w base xs i (mAt mvs i) := fun i hi => by
    have h := List.getElem?_eq_getElem hi
    rw [mAt_get h]
    exact hM i _ h
  have hsm : ∀ i, (mAt mvs i).rows.length * 24 ≤ 140737488351232 ∧ ∀ l ∈ (mAt mvs i).rows, l.length * 8 ≤ 140737488351232 := fun i => by
    rcases h : mvs[i]? with _ | m
    · rw [mAt_none h]; exact ⟨by decide, fun l hl => by simp at hl⟩
    · rw [mAt_get h]
      exact hs.2 m.says (List.mem_map.2 ⟨m, List.mem_of_getElem? h, rfl⟩)
  have hoff : ∀ i, RowsOff g w (mAt mvs i).A (mAt mvs i).rows := fun i => by
    rcases h : mvs[i]? with _ | m
    · rw [mAt_none h]; exact fun hp => by simp at hp
    · rw [mAt_get h]
      obtain ⟨_, _, _, us, h1, h2⟩ := hM i m h
      exact off_of hO h1 h2
  have hC := order_lays mvs g 0 (Array.range mvs.length).size w hoff (fun i => by have := (hsm i).1; omega) (fun i l hl => by have := (hsm i).2 l hl; omega)
  have hcells := hO.cells (g := g) rfl
  obtain ⟨cur, hcur, hsz, hle⟩ : ∃ cur, w.heap[g]? = some (.cells cur 27 (0, 0)) ∧ cur.size = cap * 3 ∧ mvs.length ≤ cap ∧ cap ≤ maxLen ∧ base ≤ g := by
    rcases hO.2 with ⟨h, _⟩ | ⟨g', cap', cur, h, h1, h2, h3, h4, h5, _⟩
    · simp at h
    · injection h with h _ h'
      injection h with h
      injection h with h _ _
      subst h h'
      exact ⟨cur, h2, h5, h3, h4, h1⟩
  obtain ⟨hcl, hcm, hbg⟩ := hle
  have hgw : g < w.heap.size := (Array.getElem?_eq_some_iff.1 hcur).1
  have hH : HoldsK (encN mvs) 3 w g 0 (Array.range mvs.length) := by
    intro t ht
    have ht3 : t < mvs.length * 3 := by simpa using ht
    have hti : t / 3 < mvs.length := by omega
    refine ⟨?_, by simp [World.frozen?, hcur]⟩
    rw [get_flatK _ _ _ _ (by simpa using ht3), Nat.zero_add, addr_add g t]
    have hr : (Array.range mvs.length)[t / 3]! = t / 3 := by simp [hti]
    rw [hr]
    obtain ⟨h0, h1, h2, _⟩ := hget _ hti
    have e := encN_get mvs (t / 3)
    rcases three t with c | c | c
    · rw [c, show id (encN mvs (t / 3))[0]! = (encN mvs (t / 3))[0]! from rfl, e.1]
      exact hcells t _ (by rw [show t = t / 3 * 3 by omega]; rw [show t / 3 * 3 / 3 = t / 3 by omega]; exact h0)
    · rw [c, show id (encN mvs (t / 3))[1]! = (encN mvs (t / 3))[1]! from rfl, e.2.1]
      exact hcells t _ (by rw [show t = t / 3 * 3 + 1 by omega]; rw [show (t / 3 * 3 + 1) / 3 = t / 3 by omega]; exact h1)
    · rw [c, show id (encN mvs (t / 3))[2]! = (encN mvs (t / 3))[2]! from rfl, e.2.2]
      exact hcells t _ (by rw [show t = t / 3 * 3 + 2 by omega]; rw [show (t / 3 * 3 + 2) / 3 = t / 3 by omega]; exact h2)
  have eg : ∀ args w, (callFunc 13 args).run Tryd.prog w = .ok (.enter 13 args) w := enters_of Tryd.func13 (by kernel_rfl) rfl
  have hcon := Go.Proofs.AnyQ.slices_SortFunc Tryd.laySortM 3 (fun w => by exact Tryd.isAgg27 w) (fun w => by exact Tryd.sizeOf27 w) (encN mvs) (fun _ => rfl) (fun x v hv => by
    simp [encN, MV.enc] at hv
    rcases hv with rfl | rfl | rfl <;> rfl) (cfN mvs) (swo_cf mvs) 13 #[] g 0 cap (Array.range mvs.length) w eg hC hH hgw (by have := hs.1; simp at this ⊢; omega)
  change Calls Tryd.prog 15 _ _ _ at hcon
  rw [Array.size_range] at hcon
  refine hcon.mono ?_
  rintro e w' ⟨rfl, d, n, os, hp, hsd, rfl⟩
  have hpd : d.toList.Perm (List.range mvs.length) := by
    have := hp.2.2
    have e1 := hp.1
    rw [Array.size_range] at e1
    rw [show d.extract 0 mvs.length = d by rw [← e1]; simp, show (Array.range mvs.length).extract 0 mvs.length = Array.range mvs.length by simp] at this
    simpa using this
  have hds : d.size = mvs.length := by have := hp.1; simpa using this
  have hdl : ∀ i (hi : i < d.size), d[i] < mvs.length := fun i hi => by
    have : d[i] ∈ d.toList := by simp
    simpa using hpd.mem_iff.1 this
  have hW : Go.Proofs.sortWorldK (encN mvs) 3 w g 0 n d os = grow (putRow id (Go.Sort.ahead w n) g 0 (flatK (encN mvs) 3 d)) os := rfl
  rw [hW]
  have hg := grownBy_sortedV (w := w) (g := g) (n := n) (os := os) (flatK (encN mvs) 3 d)
  have hheap := heap_sortedV (n := n) (os := os) (flatK (encN mvs) 3 d) hcur
  generalize grow (putRow id (Go.Sort.ahead w n) g 0 (flatK (encN mvs) 3 d)) os = w' at *
  have hFs : (flatK (encN mvs) 3 d).size = mvs.length * 3 := by rw [size_flatK, hds]
  have hlen : (d.toList.map fun i => (mAt mvs i).says).length = mvs.length := by simp [hds]
  have kp : KeepO base w w' := fun e v n xs he hv => hv.kept hg (by
    rcases mown_ne hv hO he with h | h
    · exact .inl h
    · exact .inr h)
  refine ⟨rfl, ⟨hg.os, hg.tape, hg.output, hg.size, fun k hk => hg.block k (by omega) (fun e => by injection e with e; omega)⟩, d.toList.map fun i => (mAt mvs i).says, ?_, ?_, (flatK (encN mvs) 3 d).toList, ?_, ?_, ?_⟩
  · refine (hpd.map _).trans ?_
    rw [show (List.range mvs.length).map (fun i => (mAt mvs i).says) = mvs.map MV.says from ?_]
    apply List.ext_getElem (by simp)
    intro i h1 h2
    have hi : i < mvs.length := by simpa using h2
    simp only [List.getElem_map, List.getElem_range]
    rw [mAt_get (List.getElem?_eq_getElem hi)]
  · rw [SortedS, List.pairwise_iff_getElem]
    intro i j hi hj hij
    have hj' : j < mvs.length := by simpa [hds] using hj
    have hs := hsd i j (Nat.zero_le _) hij hj'
    simp only [List.getElem_map, Array.getElem_toList]
    have e1 : d[j]! = d[j]'(by omega) := getElem!_pos d j (by omega)
    have e2 : d[i]! = d[i]'(by omega) := getElem!_pos d i (by omega)
    rw [e1, e2] at hs
    have hs2 : ¬ cmpS (mAt mvs (d[j]'(by omega))).says (mAt mvs (d[i]'(by omega))).says < 0 := of_decide_eq_false hs
    have := cmpOk_S.s (mAt mvs (d[j]'(by omega))).says (mAt mvs (d[i]'(by omega))).says
    omega
  · refine ⟨by simp [hFs, hds], .inr ⟨g, cap, _, rfl, hbg, hheap, by rw [hlen]; exact hcl, hcm, by simp [putCells, hsz], ?_⟩⟩
    rw [hlen, ← hFs]
    exact take_putCellsV cur _ (by rw [hFs, hsz]; omega)
  · simp [hFs, hds]
  · intro i m hi
    rw [List.getElem?_map] at hi
    obtain ⟨x, hx, rfl⟩ := Option.map_eq_some_iff.1 hi
    obtain ⟨hil, hx2⟩ := List.getElem?_eq_some_iff.1 hx
    have hil' : i < d.size := by simpa using hil
    have hxd : d[i]! = x := by rw [getElem!_pos d i hil']; simpa using hx2
    have hxl : x < mvs.length := by have := hdl i hil'; rw [getElem!_pos d i hil'] at hxd; omega
    obtain ⟨_, _, _, us, h3, h4⟩ := hget x hxl
    have hF : ∀ c, c < 3 → (flatK (encN mvs) 3 d).toList[i * 3 + c]? = some ((encN mvs x)[c]!) := fun c hc => by
      have hlt : i * 3 + c < d.size * 3 := by omega
      have hlt2 : i * 3 + c < (flatK (encN mvs) 3 d).size := by rw [size_flatK]; exact hlt
      have h := get_flatK (encN mvs) 3 d (i * 3 + c) hlt
      rw [getElem!_pos (flatK (encN mvs) 3 d) (i * 3 + c) hlt2, show (i * 3 + c) / 3 = i by omega, show (i * 3 + c) % 3 = c by omega, hxd] at h
      rw [Array.getElem?_toList, Array.getElem?_eq_getElem hlt2, h]
    exact ⟨_, us, hF 0 (by omega), hF 1 (by omega), hF 2 (by omega), kp _ _ _ _ (by decide) h3, h4.keep kp⟩
/-- the program's Sort -/
theorem sort_any (A : Option Addr) (cap : Nat) (ms : List MT) (w : World) (hA : MatsAt w A ms) (hs : Small ms) :
    Calls Tryd.prog 6 #[.slice A ms.length cap] w fun e w' => ∃ g c ms', e = .returned (.slice (some ⟨g, 0, none⟩) ms.length c) ∧ ms'.Perm ms ∧ SortedS ms' ∧ OwnM w' w.heap.size g c ms' ∧ Below w.heap.size w w' := sort_of sorts_M A cap ms w hA hs
end Go.Proofs.YtiegbnicijbpjaaDoor
