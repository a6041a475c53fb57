/- The kinds of a schema's attributes, type by type, as a contract. -/
import Derived.Test.YtkmlbifhpkfinaaGreatDoorKey
import Derived.Test.YtkmlbifhpkfinaaGreatDoorSto
namespace Go.Proofs.YtkmlbifhpkfinaaGreatDoor
open Go.ChangeShapes Go.WideShapes Go.ChangeAt Go.RowKit
set_option linter.unusedVariables false
set_option linter.unusedSimpArgs false

/-- a value that reads as whole numbers -/
def IntsIn1 (w : World) (u : Value) (ks : List Int) : Prop := ∃ A cap, u = .slice A ks.length cap ∧ IntsAt w A ks
theorem IntsIn1.later {w w1 : World} {u : Value} {ks : List Int} (h : IntsIn1 w u ks) (hb : Below w.heap.size w w1) : IntsIn1 w1 u ks := by
  obtain ⟨A, cap, e, h⟩ := h
  exact ⟨A, cap, e, h.later hb⟩
/-- a slice that reads as rows of whole numbers -/
def KindsAt (w : World) (A : Option Addr) (kss : List (List Int)) : Prop := 0 < kss.length → ∃ b off, A = some ⟨b, off, none⟩ ∧ ∀ (i : Nat) (ks : List Int), kss[i]? = some ks → ∃ u, w.cell? ⟨b, off + i, none⟩ = some u ∧ IntsIn1 w u ks
theorem KindsAt.later {w w1 : World} {A : Option Addr} {kss : List (List Int)} (h : KindsAt w A kss) (hb : Below w.heap.size w w1) : KindsAt w1 A kss := fun hp => by
  obtain ⟨b, off, e, h⟩ := h hp
  refine ⟨b, off, e, fun i ks hi => ?_⟩
  obtain ⟨u, h0, h1⟩ := h i ks hi
  exact ⟨u, cell_later hb h0, h1.later hb⟩
def ksT (t : ST) : List Int := t.2.map (·.2)
def ksOf (ts : List ST) : List (List Int) := ts.map ksT
theorem ksOf_length (ts : List ST) : (ksOf ts).length = ts.length := by simp [ksOf]
theorem ksT_length (t : ST) : (ksT t).length = t.2.length := by simp [ksT]

/-- the rows, each of the call's own -/
def RowsOwn (w : World) (base : Nat) (ts : List ST) (us : List Value) : Prop := ∀ (i : Nat) (t : ST) (x : Value), ts[i]? = some t → us[i]? = some x → w.ownsRow base 3 1 x (ksT t).length (icells (ksT t))
theorem own_kinds {w : World} {base base' : Nat} {e : TypeId} {v : Value} {ts : List ST} {us : List Value} (hl : us.length = ts.length) (h : w.ownsRow base e 1 v ts.length us) (hu : RowsOwn w base' ts us) :
    ∃ A cap, v = .slice A ts.length cap ∧ KindsAt w A (ksOf ts) := by
  rcases h.2 with ⟨rfl, h0⟩ | ⟨g, cap, cur, rfl, _⟩
  · exact ⟨none, 0, by rw [h0], fun hp => by rw [ksOf_length] at hp; omega⟩
  · refine ⟨_, cap, rfl, fun _ => ⟨g, 0, rfl, fun i ks hi => ?_⟩⟩
    have hc := h.cells (g := g) rfl
    unfold ksOf at hi
    rw [List.getElem?_map] at hi
    obtain ⟨t, ht, rfl⟩ := Option.map_eq_some_iff.1 hi
    have hlt : i < us.length := by rw [hl]; exact (List.getElem?_eq_some_iff.1 ht).1
    have hx : us[i]? = some us[i] := List.getElem?_eq_getElem hlt
    refine ⟨us[i], ?_, ?_⟩
    · rw [Nat.zero_add, addr_add g i]
      exact hc i _ hx
    · obtain ⟨A', cap', e1, hI⟩ := own_ints (hu i t _ ht hx)
      exact ⟨A', cap', e1, hI⟩

theorem infoRow : (Tryz.prog.info? 105).map (fun i => (i.zero, i.size, i.bytes)) = some (some (.slice none 0 0), 1, 24) := by kernel_rfl

def KsR (u : World) (ts : List ST) (v i : Value) (wr : World) : Prop :=
  ∃ (k : Nat) (us : List Value), k ≤ ts.length ∧ i = .int .i64 (k : Int) ∧ us.length = k ∧ wr.ownsRow u.heap.size 105 1 v k us ∧ RowsOwn wr u.heap.size (ts.take k) us ∧ Below u.heap.size u wr
def KsI (u : World) (fs : List SF) (v i : Value) (wr : World) : Prop :=
  ∃ j : Nat, j ≤ fs.length ∧ i = .int .i64 (j : Int) ∧ wr.ownsRow u.heap.size 3 1 v j (icells ((fs.map (·.2)).take j)) ∧ Below u.heap.size u wr
theorem ics_snoc (fs : List SF) (k : Nat) (f : SF) (h : fs[k]? = some f) : icells ((fs.map (·.2)).take (k + 1)) = icells ((fs.map (·.2)).take k) ++ [.int .i64 f.2] := by
  rw [List.take_add_one, List.getElem?_map, h]
  simp [icells]

set_option maxHeartbeats 8000000 in
set_option maxRecDepth 100000 in
theorem evkinds_any (A : Option Addr) (cap : Nat) (v2 : Value) (ts : List ST) (w : World) (hc : TypesAt w A ts) (hn : ts.length * 40 ≤ 140737488351232) (hf : ∀ x ∈ ts, x.2.length * 24 ≤ 140737488351232) :
    Calls Tryz.prog 33 #[.agg #[.slice A ts.length cap, v2]] w fun e w' => ∃ A' cap', e = .returned (.slice A' ts.length cap') ∧ KindsAt w' A' (ksOf ts) ∧ Below w.heap.size w w' := by
  obtain ⟨i0, hi, hz0, hz1, hz2⟩ := info_parts infoInt
  obtain ⟨j0, hj, hy0, hy1, hy2⟩ := info_parts infoRow
  have hu := m1 w (.cells #[.slice A ts.length cap, v2] 31)
  have hcu := Lib.hid (hc.later hu)
  have c0 : (w.alloc (.cells #[.slice A ts.length cap, v2] 31)).cell? ⟨w.heap.size, 0, none⟩ = some (.slice A ts.length cap) := by simp [go_sem]
  replace hf := Lib.hid hf
  clear hc
  go_enter Tryz.func33, Tryz.ntmps33
  go_wp2_with fail
  have hs0 : (w.alloc (.cells #[.slice A ts.length cap, v2] 31)).heap.size = w.heap.size + 1 := by simp
  rw [← hs0]
  generalize w.alloc (.cells #[.slice A ts.length cap, v2] 31) = u at *
  replace hs0 := Lib.hid hs0
  go_loopw [3, 13] (fun v i wr => KsR u ts v i wr) (fun _ i _ => ts.length - (intOf i).toNat)
  case atStart => exact ⟨0, [], Nat.zero_le _, rfl, rfl, World.ownsRow_made u #[] 0 (Nat.le_refl _) (by unfold maxLen; omega) rfl, fun i t x h => by simp at h, m1 _ _⟩
  case round =>
    obtain ⟨k, us, hk, rfl, hl, hO, hU, hB⟩ := hrel
    obtain ⟨wo, rfl⟩ : ∃ wo : World, wo = wr := ⟨_, rfl⟩
    by_cases hlt : k < ts.length
    · obtain ⟨b, off, rfl, hcell⟩ := hcu.out (by omega)
      have hvk : ts[k]? = some ts[k] := List.getElem?_eq_getElem hlt
      obtain ⟨uf, r0, r1, hF⟩ := hcell k _ hvk
      have hfb := hf.out _ (List.getElem_mem hlt)
      have r0 := cell_later hB r0
      have r1 := cell_later hB r1
      have TK := Lib.hid hvk
      have hF := hF.later hB
      generalize ts[k] = t0 at *
      obtain ⟨nm, fs⟩ := t0
      obtain ⟨FA, fcap, rfl, hfc⟩ := hF
      simp only at r0 r1 hfc hfb
      have hbt := m1 wo (.cells #[.string nm, .slice FA fs.length fcap] 54)
      have hfc1 := Lib.hid (fun hp : 0 < fs.length => hfc hp)
      clear hcell hvk hfc c0
      go_wp2_with fail
      have hsb : (wo.alloc (.cells #[.string nm, .slice FA fs.length fcap] 54)).heap.size = wo.heap.size + 1 := by simp
      rw [← hsb]
      generalize hwb : wo.alloc (.cells #[.string nm, .slice FA fs.length fcap] 54) = wb at *
      replace hsb := Lib.hid hsb
      replace hwb := Lib.hid hwb
      go_loopw [6, 21] (fun v6 i wr' => KsI wb fs v6 i wr') (fun _ i _ => fs.length - (intOf i).toNat)
      case atStart => exact ⟨0, Nat.zero_le _, rfl, World.ownsRow_made wb #[] 0 (Nat.le_refl _) (by unfold maxLen; omega) rfl, m1 _ _⟩
      case round =>
        obtain ⟨j, hj2, rfl, hO6, hB6⟩ := hrel
        by_cases hj3 : j < fs.length
        · obtain ⟨fb, foff, rfl, hfcell⟩ := hfc1.out (by omega)
          have hfj : fs[j]? = some fs[j] := List.getElem?_eq_getElem hj3
          obtain ⟨q0, q1⟩ := hfcell j _ hfj
          have q0 := cell_later hB6 (cell_later hbt q0)
          have q1 := cell_later hB6 (cell_later hbt q1)
          have SN2 := Lib.hid (ics_snoc fs j _ hfj)
          generalize fs[j] = f at *
          obtain ⟨fnm, fk⟩ := f
          simp only at q0 q1
          have SN3 : icells ((fs.map (·.2)).take (j + 1)) = icells ((fs.map (·.2)).take j) ++ [.int .i64 fk] := SN2.out
          replace SN3 := Lib.hid SN3
          have hs6 := hB6.size
          clear SN2 hfcell hfj r0 r1
          go_wp2_with (at_builtin; refine wpList_append_own _ rfl (.tmp 25) (.tmp 28) 105 rfl wb.heap.size 3 i0 (.int .i64 0) 1 8 Tryz.underlying105 hi hz0 hz1 hz2 rfl (by decide) u6 j (icells ((fs.map (·.2)).take j)) rfl ((hO6.alloc _).alloc _) ⟨wr.heap.size + 1, 0, none⟩ 1 1 [.int .i64 fk] rfl rfl ?c1 ?c2 ?c3 ?c4 ?c5 ?_)
          case c2 => first | trivial | (intro u hu; simp at hu; subst hu; rfl)
          case c3 => unfold maxLen; omega
          case c4 => omega
          case c5 => first | omega | (simp; omega)
          intro v' w3 hO3 hgrow _
          rw [← SN3.out] at hO3
          have hB3 : Below wb.heap.size wb w3 := ((hB6.alloc hs6 _).alloc (by simp; omega) _).grown hgrow (by simp; omega) (fun g hg => (hO6.lt g hg).1)
          clear hO6 hgrow
          go_wp2
          go_roundw
          case rel => exact ⟨j + 1, by omega, by go_num, hO3, hB3⟩
          case measure => simp [intOf]; omega
        · obtain rfl : j = fs.length := by omega
          have hB7 := mmore hbt hB6
          have hsz := hB.size
          have hsz6 := hB6.size
          have hsb' := hsb.out
          have hO2 := mown_below hO hB7
          have hU2 := Lib.hid (fun i t x h h' => mown_below (hU i t x h h') hB7)
          have hO6' : wr.ownsRow u.heap.size 3 1 u6 (ksT (nm, fs)).length (icells (ksT (nm, fs))) := by
            have h := mown_mono (base' := u.heap.size) hO6 (by omega)
            unfold ksT
            simp only
            rw [← List.length_map (f := fun x : SF => x.2)] at h
            rw [List.take_length] at h
            exact h
          have hB8 := mmore hB hB7
          have hs8 := hB8.size
          obtain ⟨A6, c6, rfl, _⟩ := own_ints hO6'
          have one6 : (Value.slice A6 (ksT (nm, fs)).length c6).oneCell' = true := rfl
          have hsb2 := hsb'
          replace hO6' := Lib.hid hO6'
          replace hsb := Lib.hid hsb'
          clear hO hU hO6 hB6 hB7 hB r0 r1 hsb'
          go_wp2_with (at_builtin; refine wpList_append_own _ rfl (.tmp 31) (.tmp 33) 81 rfl u.heap.size 105 j0 (.slice none 0 0) 1 24 Tryz.underlying81 hj hy0 hy1 hy2 rfl (by decide) u3 k us rfl (hO2.alloc _) ⟨wr.heap.size, 0, none⟩ 1 1 [.slice A6 (ksT (nm, fs)).length c6] rfl rfl ?d1 ?d2 ?d3 ?d4 ?d5 ?_)
          case d1 =>
            intro j u hj
            match j, hj with
            | 0, hj => simp at hj; subst hj; simp [Addr.add]
          case d2 => intro u hu; simp at hu; subst hu; exact one6
          case d3 => unfold maxLen; omega
          case d4 => omega
          case d5 => first | omega | (simp; omega)
          intro v' w4 hO4 hgrow _
          have hB9 : Below u.heap.size u w4 := (hB8.alloc hs8 _).grown hgrow (by simp; omega) (fun g hg => (hO2.lt g hg).1)
          have hO7 := (mown_below hO6'.out (m1 _ _)).kept hgrow (mown_ne hO6'.out hO2 (by decide))
          have hU4 := Lib.hid (fun i t x h h' => (mown_below (hU2.out i t x h h') (m1 _ _)).kept hgrow (mown_ne (hU2.out i t x h h') hO2 (by decide)))
          have hU5 : RowsOwn w4 u.heap.size (ts.take (k + 1)) (us ++ [.slice A6 (ksT (nm, fs)).length c6]) := by
            intro i t x h h'
            by_cases c : i < k
            · rw [List.getElem?_take_of_lt (by omega)] at h
              rw [List.getElem?_append_left (by omega)] at h'
              exact hU4.out i t x (by rw [List.getElem?_take_of_lt c]; exact h) h'
            · have hi2 := (List.getElem?_eq_some_iff.1 h').1
              have : i = k := by simp at hi2; omega
              subst this
              rw [List.getElem?_take_of_lt (by omega), TK.out] at h
              rw [List.getElem?_append_right (by omega), hl, Nat.sub_self] at h'
              injection h with h
              simp at h'
              subst h h'
              exact hO7
          replace hU5 := Lib.hid hU5
          clear hU4 hU2 hO2 hO7 hgrow
          go_wp2
          go_roundw
          case rel => exact ⟨k + 1, us ++ [.slice A6 (ksT (nm, fs)).length c6], by omega, by go_num, by simp [hl], hO4, hU5.out, hB9⟩
          case measure => simp [intOf]; omega
    · obtain rfl : k = ts.length := by omega
      rw [List.take_length] at hU
      obtain ⟨A', cap', rfl, hI⟩ := own_kinds hl hO hU
      replace hI := Lib.hid hI
      clear hO hU
      go_wp2_with fail
      go_ret
      exact ⟨_, _, rfl, hI.out, mmore hu hB⟩
end Go.Proofs.YtkmlbifhpkfinaaGreatDoor
